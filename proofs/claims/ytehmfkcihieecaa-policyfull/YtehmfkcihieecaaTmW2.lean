/- ofName, Name, misshapen. -/
import Derived.Test.YtehmfkcihieecaaTmMem
import Derived.Lib.QuietBelow
namespace Go.Proofs.Ytehmfkcihieecaa.Te
open Go.RowKit
open Tt

theorem ret_b {a b : Bool} (h : a = b) : Ending.returned (.bool a) = .returned (.bool b) := by rw [h]
theorem byteAt (s : List UInt8) (k : Nat) (h : k < s.length) : (ByteArray.mk ⟨s⟩)[k]'h = s[k] := rfl
theorem u8_cast (c : UInt8) : (c.toNat : Int) = ((c.toNat : Nat) : Int) := rfl
set_option maxHeartbeats 2000000 in
set_option maxRecDepth 100000 in
theorem ofName_any (c : UInt8) (w : World) :
    Calls Try.prog 54 #[.int .u8 (c.toNat : Nat)] w fun e w' => e = .returned (.bool (nmB c)) ∧ w' = w := by
  obtain ⟨R, hR⟩ : ∃ R, R = nmB c := ⟨_, rfl⟩
  rw [← hR]
  unfold nmB at hR
  generalize c.toNat = n at *
  have HR := Lib.hid hR
  clear hR
  go_enter Try.func54, Try.ntmps54
  go_wp2
  all_goals
    go_ret
    refine ⟨ret_b ?_, rfl⟩
    rw [HR.out, Bool.eq_iff_iff]
    simp
    try omega

set_option maxHeartbeats 400000 in
set_option maxRecDepth 100000 in
theorem Name_any (s : List UInt8) (w : World) :
    Calls Try.prog 49 #[.string ⟨⟨s⟩⟩] w fun e w' => e = .returned (.bool (isName s)) ∧ w' = w := by
  obtain ⟨R, hR⟩ : ∃ R, R = isName s := ⟨_, rfl⟩
  rw [← hR]
  unfold isName at hR
  by_cases h1 : 1 ≤ s.length
  · by_cases h2 : s.length ≤ 40
    · have HR : Hid (R = s.all nmB) := by rw [Hid, hR]; simp [h1, h2]
      have i1 : ¬ (s.length : Int) < 1 := by omega
      have i2 : ¬ (40 : Int) < (s.length : Int) := by omega
      clear hR
      go_enter Try.func49, Try.ntmps49
      go_wp2
      go_loopw [14] (fun iv wr => ∃ i : Nat, i ≤ s.length ∧ iv = .int .i64 (i : Nat) ∧ Hid ((s.take i).all nmB = true) ∧ wr = w) (fun iv _ => s.length - (intOf iv).toNat)
      case atStart => exact ⟨0, by omega, rfl, Lib.hid (by simp), rfl⟩
      case round =>
        obtain ⟨i, hi, rfl, HA, rfl⟩ := hrel
        by_cases hlt : i < s.length
        · have hil : (i : Int) < (s.length : Int) := by omega
          have hba := byteAt s i hlt
          have HT : Hid ((s.take (i + 1)).all nmB = nmB s[i]) := by
            rw [Hid, List.take_succ_eq_append_getElem hlt, List.all_append, HA.out]
            simp
          have HF : Hid (nmB s[i] = false → s.all nmB = false) := by
            intro h
            rw [List.all_eq_false]
            exact ⟨s[i], List.getElem_mem hlt, by simp [h]⟩
          have hof := fun W => ofName_any s[i] W
          clear HA
          cases hb : nmB s[i] with
          | false =>
            have HR2 : Hid (R = false) := by rw [Hid, HR.out, HF.out hb]
            rw [hb] at hof
            have HO := Lib.hid hof
            clear hof hb HF HT
            go_wp2_with fail
            refine (HO.out _).mono ?_
            rintro _ _ ⟨rfl, rfl⟩
            go_wp2
            go_ret
            exact ⟨ret_b HR2.out.symm, rfl⟩
          | true =>
            rw [hb] at hof
            have HT2 : Hid ((s.take (i + 1)).all nmB = true) := by rw [Hid, HT.out, hb]
            have HO := Lib.hid hof
            clear hof hb HF HT
            go_wp2_with fail
            refine (HO.out _).mono ?_
            rintro _ _ ⟨rfl, rfl⟩
            go_wp2
            go_roundw
            case rel => exact ⟨i + 1, by omega, by go_num, HT2, trivial⟩
            case measure => simp [intOf]; omega
        · have hie : s.take i = s := List.take_of_length_le (by omega)
          have hA := HA.out
          rw [hie] at hA
          have HA2 := Lib.hid hA
          clear hA HA hie
          go_wp2
          go_ret
          exact ⟨ret_b (by rw [HR.out, HA2.out]), rfl⟩
    · have HR : Hid (R = false) := by rw [Hid, hR]; simp [h2]
      have i1 : ¬ (s.length : Int) < 1 := by omega
      have i2 : (40 : Int) < (s.length : Int) := by omega
      clear hR
      go_enter Try.func49, Try.ntmps49
      go_wp2
      go_ret
      exact ⟨ret_b (by rw [HR.out]), rfl⟩
  · have HR : Hid (R = false) := by rw [Hid, hR]; simp [h1]
    have i1 : (s.length : Int) < 1 := by omega
    clear hR
    go_enter Try.func49, Try.ntmps49
    go_wp2
    go_ret
    exact ⟨ret_b (by rw [HR.out]), rfl⟩

theorem Bl.a {w : World} (o : Obj) : Below w.heap.size w (w.alloc o) := (Below.refl _ _).alloc (Nat.le_refl _) o
end Go.Proofs.Ytehmfkcihieecaa.Te
