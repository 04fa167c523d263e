/- The document's Name and Digits. -/
import Derived.Test.YtfhcfaflggiacaaDoorTmW2
import Derived.Test.YtfhcfaflggiacaaDoorTmW12
import Derived.Test.YtfhcfaflggiacaaDoorTmQ
namespace Go.Proofs.YtfhcfaflggiacaaDoor
open Go.RowKit
open Tt

set_option maxHeartbeats 4000000 in
set_option maxRecDepth 100000 in
theorem refName_any (s : List UInt8) (hs : s.length ≤ 9223372036854775807) (w : World) :
    Calls Tryd.prog 24 #[.string ⟨⟨s⟩⟩] w fun e w' => e = .returned (.bool (isName s)) ∧ w' = w := by
  obtain ⟨R, hR⟩ : ∃ R, R = isName s := ⟨_, rfl⟩
  rw [← hR]
  unfold isName at hR
  have HR := Lib.hid hR
  clear hR
  go_enter Tryd.func24, Tryd.ntmps24
  go_wp2
  go_loopw [3] (fun iv wr => ∃ i : Nat, i ≤ s.length ∧ iv = .int .i64 (i : Nat) ∧ Hid ((s.take i).all nmB = true) ∧ wr = w) (fun iv _ => s.length - (intOf iv).toNat)
  case atStart => exact ⟨0, by omega, rfl, Lib.hid (by simp), rfl⟩
  case round =>
    obtain ⟨i, hi, rfl, HA, rfl⟩ := hrel
    by_cases hlt : i < s.length
    · have hil : (i : Int) < (s.length : Int) := by omega
      have hba := byteAt s i hlt
      have HT : Hid ((s.take (i + 1)).all nmB = nmB s[i]) := by
        rw [Hid, List.take_succ_eq_append_getElem hlt, List.all_append, HA.out]
        simp
      have HF : Hid (nmB s[i] = false → R = false) := by
        intro h
        rw [HR.out]
        have : s.all nmB = false := by rw [List.all_eq_false]; exact ⟨s[i], List.getElem_mem hlt, by simp [h]⟩
        rw [this]; simp
      obtain ⟨c, hc⟩ : ∃ c, c = s[i] := ⟨_, rfl⟩
      rw [← hc] at hba HT HF
      clear hc HA
      have hnm : nmB c = ((decide (97 ≤ c.toNat) && decide (c.toNat ≤ 122)) || (decide (48 ≤ c.toNat) && decide (c.toNat ≤ 57)) || c.toNat == 45 || c.toNat == 46 || c.toNat == 47) := rfl
      have hcase : (97 ≤ c.toNat ∧ c.toNat ≤ 122) ∨ (48 ≤ c.toNat ∧ c.toNat ≤ 57) ∨ (c.toNat = 45) ∨ (c.toNat = 46) ∨ (c.toNat = 47) ∨ (c.toNat < 45) ∨ (58 ≤ c.toNat ∧ c.toNat ≤ 96) ∨ (122 < c.toNat) := by omega
      rcases hcase with hx | hx | hx | hx | hx | hx | hx | hx
      · have hb : nmB c = true := by rw [hnm, Bool.eq_iff_iff]; simp; omega
        have k0 : (97 : Int) ≤ (c.toNat : Int) := by omega
        have k1 : (c.toNat : Int) ≤ 122 := by omega
        have HT2 : Hid ((s.take (i + 1)).all nmB = true) := by rw [Hid, HT.out, hb]
        clear hb HF HT hnm hx
        go_wp2
        go_roundw
        case rel => exact ⟨i + 1, by omega, by go_num, HT2, trivial⟩
        case measure => simp [intOf]; omega
      · have hb : nmB c = true := by rw [hnm, Bool.eq_iff_iff]; simp; omega
        have k0 : ¬ (97 : Int) ≤ (c.toNat : Int) := by omega
        have k1 : (48 : Int) ≤ (c.toNat : Int) := by omega
        have k2 : (c.toNat : Int) ≤ 57 := by omega
        have HT2 : Hid ((s.take (i + 1)).all nmB = true) := by rw [Hid, HT.out, hb]
        clear hb HF HT hnm hx
        go_wp2
        go_roundw
        case rel => exact ⟨i + 1, by omega, by go_num, HT2, trivial⟩
        case measure => simp [intOf]; omega
      · have hb : nmB c = true := by rw [hnm, Bool.eq_iff_iff]; simp; omega
        have k0 : ¬ (97 : Int) ≤ (c.toNat : Int) := by omega
        have k1 : ¬ (48 : Int) ≤ (c.toNat : Int) := by omega
        have k2 : (c.toNat : Int) = 45 := by omega
        have HT2 : Hid ((s.take (i + 1)).all nmB = true) := by rw [Hid, HT.out, hb]
        clear hb HF HT hnm hx
        go_wp2
        go_roundw
        case rel => exact ⟨i + 1, by omega, by go_num, HT2, trivial⟩
        case measure => simp [intOf]; omega
      · have hb : nmB c = true := by rw [hnm, Bool.eq_iff_iff]; simp; omega
        have k0 : ¬ (97 : Int) ≤ (c.toNat : Int) := by omega
        have k1 : ¬ (48 : Int) ≤ (c.toNat : Int) := by omega
        have k2 : ¬ (c.toNat : Int) = 45 := by omega
        have k3 : (c.toNat : Int) = 46 := by omega
        have HT2 : Hid ((s.take (i + 1)).all nmB = true) := by rw [Hid, HT.out, hb]
        clear hb HF HT hnm hx
        go_wp2
        go_roundw
        case rel => exact ⟨i + 1, by omega, by go_num, HT2, trivial⟩
        case measure => simp [intOf]; omega
      · have hb : nmB c = true := by rw [hnm, Bool.eq_iff_iff]; simp; omega
        have k0 : ¬ (97 : Int) ≤ (c.toNat : Int) := by omega
        have k1 : ¬ (48 : Int) ≤ (c.toNat : Int) := by omega
        have k2 : ¬ (c.toNat : Int) = 45 := by omega
        have k3 : ¬ (c.toNat : Int) = 46 := by omega
        have k4 : (c.toNat : Int) = 47 := by omega
        have HT2 : Hid ((s.take (i + 1)).all nmB = true) := by rw [Hid, HT.out, hb]
        clear hb HF HT hnm hx
        go_wp2
        go_roundw
        case rel => exact ⟨i + 1, by omega, by go_num, HT2, trivial⟩
        case measure => simp [intOf]; omega
      · have hb : nmB c = false := by rw [hnm, Bool.eq_iff_iff]; simp; omega
        have k0 : ¬ (97 : Int) ≤ (c.toNat : Int) := by omega
        have k1 : ¬ (48 : Int) ≤ (c.toNat : Int) := by omega
        have k2 : ¬ (c.toNat : Int) = 45 := by omega
        have k3 : ¬ (c.toNat : Int) = 46 := by omega
        have k4 : ¬ (c.toNat : Int) = 47 := by omega
        have HR2 : Hid (R = false) := HF.out hb
        clear hb HF HT hnm hx
        go_wp2
        case roundEnd =>
          exfalso
          rename_i hh
          simp at hh
          omega
        go_ret
        exact ⟨ret_b HR2.out.symm, rfl⟩
      · have hb : nmB c = false := by rw [hnm, Bool.eq_iff_iff]; simp; omega
        have k0 : ¬ (97 : Int) ≤ (c.toNat : Int) := by omega
        have k1 : (48 : Int) ≤ (c.toNat : Int) := by omega
        have k2 : ¬ (c.toNat : Int) ≤ 57 := by omega
        have k3 : ¬ (c.toNat : Int) = 45 := by omega
        have k4 : ¬ (c.toNat : Int) = 46 := by omega
        have k5 : ¬ (c.toNat : Int) = 47 := by omega
        have HR2 : Hid (R = false) := HF.out hb
        clear hb HF HT hnm hx
        go_wp2
        case roundEnd =>
          exfalso
          rename_i hh
          simp at hh
          omega
        go_ret
        exact ⟨ret_b HR2.out.symm, rfl⟩
      · have hb : nmB c = false := by rw [hnm, Bool.eq_iff_iff]; simp; omega
        have k0 : (97 : Int) ≤ (c.toNat : Int) := by omega
        have k1 : ¬ (c.toNat : Int) ≤ 122 := by omega
        have k2 : (48 : Int) ≤ (c.toNat : Int) := by omega
        have k3 : ¬ (c.toNat : Int) ≤ 57 := by omega
        have k4 : ¬ (c.toNat : Int) = 45 := by omega
        have k5 : ¬ (c.toNat : Int) = 46 := by omega
        have k6 : ¬ (c.toNat : Int) = 47 := by omega
        have HR2 : Hid (R = false) := HF.out hb
        clear hb HF HT hnm hx
        go_wp2
        case roundEnd =>
          exfalso
          rename_i hh
          simp at hh
          omega
        go_ret
        exact ⟨ret_b HR2.out.symm, rfl⟩
    · have hie : s.take i = s := List.take_of_length_le (by omega)
      have hil : ¬ (i : Int) < (s.length : Int) := by omega
      have hA := HA.out
      rw [hie] at hA
      have HR2 : Hid (R = (decide (1 ≤ s.length) && decide (s.length ≤ 40))) := by rw [Hid, HR.out, hA]; simp
      clear hA HA hie HR
      by_cases h1 : 1 ≤ s.length
      · have i1 : (1 : Int) ≤ (s.length : Int) := by omega
        by_cases h2 : s.length ≤ 40
        · have i2 : (s.length : Int) ≤ 40 := by omega
          have HR3 : Hid (R = true) := by rw [Hid, HR2.out]; simp [h1, h2]
          go_wp2
          go_ret
          exact ⟨ret_b HR3.out.symm, rfl⟩
        · have i2 : ¬ (s.length : Int) ≤ 40 := by omega
          have HR3 : Hid (R = false) := by rw [Hid, HR2.out]; simp [h2]
          go_wp2
          go_ret
          exact ⟨ret_b HR3.out.symm, rfl⟩
      · have i1 : ¬ (1 : Int) ≤ (s.length : Int) := by omega
        have HR3 : Hid (R = false) := by rw [Hid, HR2.out]; simp [h1]
        go_wp2
        go_ret
        exact ⟨ret_b HR3.out.symm, rfl⟩


theorem conv1 (W : World) (b : UInt8) : (convert 55 9 (.slice (some ⟨W.heap.size, 0, none⟩) 1 1)).run Tryd.prog (W.alloc (.cells #[.int .u8 (b.toNat : Nat)] 5)) = .ok (.string ⟨⟨[b]⟩⟩) (W.alloc (.cells #[.int .u8 (b.toNat : Nat)] 5)) := by
  have hB : Buf W.heap.size (W.alloc (.cells #[.int .u8 (b.toNat : Nat)] 5)) (.slice (some ⟨W.heap.size, 0, none⟩) 1 1) [b] :=
    ⟨⟨by simp [Lib.byteCells], .inr ⟨W.heap.size, 1, _, rfl, Nat.le_refl _, heap_alloc_new W _, Nat.le_refl _, by simp [maxLen], rfl, rfl⟩⟩, by simp⟩
  exact hB.conv

/-- The digits of a number that is written already up to here. -/
def dn (u : Nat) (s : List UInt8) : List UInt8 := if u = 0 ∧ s ≠ [] then s else Lib.decDigits u ++ s
theorem dn_step (u : Nat) (s : List UInt8) (h : 0 < u ∨ s = []) : dn (u / 10) (UInt8.ofNat (48 + u % 10) :: s) = dn u s := by
  have e1 : dn u s = Lib.decDigits u ++ s := by
    unfold dn
    rw [if_neg]
    rintro ⟨h1, h2⟩
    rcases h with h | h
    · omega
    · exact h2 h
  rw [e1]
  unfold dn
  by_cases h10 : u < 10
  · rw [if_pos ⟨by omega, by simp⟩, Lib.decDigits_one h10, Nat.mod_eq_of_lt h10]; rfl
  · rw [if_neg (by omega), show Lib.decDigits u = Lib.decDigits (u / 10) ++ [UInt8.ofNat (48 + u % 10)] by rw [Lib.decDigits, dif_neg h10]]; simp
theorem dn_end (s : List UInt8) (h : s ≠ []) : dn 0 s = s := by unfold dn; rw [if_pos ⟨rfl, h⟩]
theorem dn_len (u : Nat) (s : List UInt8) : s.length ≤ (dn u s).length := by unfold dn; split <;> simp
theorem dn_start (u : Nat) : dn u [] = Lib.decDigits u := by unfold dn; simp


set_option maxHeartbeats 1000000 in
set_option maxRecDepth 100000 in
theorem refDigitsP_any (u0 : Nat) (hu : u0 ≤ 9223372036854775807) (w : World) :
    Calls Tryd.prog 52 #[.int .i64 (u0 : Nat)] w fun e w' => e = .returned (.string ⟨⟨Lib.decDigits u0⟩⟩) ∧ Below w.heap.size w w' := by
  obtain ⟨R, hR⟩ : ∃ R, R = Lib.decDigits u0 := ⟨_, rfl⟩
  have hlen : R.length ≤ 20 := by rw [hR, Lib.decDigits_length]; exact Lib.nDigits_le20 u0 (by omega)
  have HR : Hid (R = dn u0 []) := by rw [Hid, hR, dn_start]
  rw [← hR]
  clear hR
  have hneg : ¬ (u0 : Int) < 0 := by omega
  go_enter Tryd.func52, Tryd.ntmps52
  go_wp2
  go_loopw [0, 3] (fun nv sv wr => ∃ (u : Nat) (s : List UInt8), u ≤ u0 ∧ nv = .int .i64 (u : Nat) ∧ sv = .string ⟨⟨s⟩⟩ ∧ s.length ≤ 20 ∧ Hid (R = dn u s) ∧ Hid (Below w.heap.size w wr)) (fun nv sv _ => (intOf nv).toNat + (match sv with | .string b => if b.data.toList = [] then 1 else 0 | _ => 0))
  case atStart => exact ⟨u0, [], Nat.le_refl _, rfl, rfl, by simp, HR, Below.refl _ _⟩
  case round =>
    obtain ⟨u, s, hu2, rfl, rfl, hs, HE, HB⟩ := hrel
    by_cases hgo : 0 < u ∨ s = []
    · have hst := dn_step u s hgo
      have hd : u % 10 < 10 := Nat.mod_lt _ (by omega)
      obtain ⟨q, hq⟩ : ∃ q, q = u / 10 := ⟨_, rfl⟩
      obtain ⟨r, hr⟩ : ∃ r, r = u % 10 := ⟨_, rfl⟩
      have hqi : (u : Int).tdiv 10 = (q : Int) := by rw [hq]; rfl
      have hri : (u : Int).tmod 10 = (r : Int) := by rw [hr]; rfl
      have hql : q ≤ u := by omega
      rw [← hq, ← hr] at hst
      rw [← hr] at hd
      obtain ⟨d, hdg⟩ : ∃ d, d = UInt8.ofNat (48 + r) := ⟨_, rfl⟩
      have hb : d.toNat = 48 + r := by rw [hdg, UInt8.toNat_ofNat']; omega
      rw [← hdg] at hst
      have hcv : ∀ W : World, (convert 55 9 (.slice (some ⟨W.heap.size, 0, none⟩) 1 1)).run Tryd.prog (W.alloc (.cells #[.int .u8 (48 + (r : Int))] 5)) = .ok (.string ⟨⟨[d]⟩⟩) (W.alloc (.cells #[.int .u8 (48 + (r : Int))] 5)) := fun W => by
        have := conv1 W d
        rw [hb] at this
        exact this
      have hw8 : (48 + (r : Int)) % 256 = 48 + (r : Int) := by omega
      have hs1 : ¬ 9223372036854775807 < [d].length + s.length := by simp; omega
      have HST : Hid (R = dn q (d :: s)) := by rw [Hid, hst]; exact HE.out
      have hs20 : (d :: s).length ≤ 20 := by
        have := dn_len q (d :: s)
        rw [← HST.out] at this
        omega
      have hu2i : (u : Int) ≤ 9223372036854775807 := by omega
      have hqu : q < u ∨ (q = 0 ∧ u = 0 ∧ s = []) := by
        rcases hgo with h | h
        · left; omega
        · rcases Nat.eq_zero_or_pos u with h0 | h0
          · right; exact ⟨by omega, h0, h⟩
          · left; omega
      have hr0 : u = 0 → r = 0 := fun e => by omega
      clear hst hq hr hb hdg
      by_cases hup : 0 < u
      · have hui : (0 : Int) < (u : Int) := by omega
        go_wp2
        go_roundw
        case rel => exact ⟨q, d :: s, by omega, rfl, rfl, hs20, HST, HB.out.alloc HB.out.size _⟩
        case measure =>
          simp [intOf]
          split <;> omega
      · obtain rfl : s = [] := by rcases hgo with h | h; omega; exact h
        obtain rfl : u = 0 := by omega
        obtain rfl := hr0 rfl
        have hcv0 : ∀ W : World, (convert 55 9 (.slice (some ⟨W.heap.size, 0, none⟩) 1 1)).run Tryd.prog (W.alloc (.cells #[.int .u8 48] 5)) = .ok (.string ⟨⟨[d]⟩⟩) (W.alloc (.cells #[.int .u8 48] 5)) := fun W => hcv W
        obtain rfl : q = 0 := by rcases hqu with h | h; omega; exact h.1
        clear hcv hr0 hqu
        go_wp2
        go_roundw
        case rel => exact ⟨0, [d], by omega, rfl, rfl, hs20, HST, HB.out.alloc HB.out.size _⟩
        case measure =>
          simp [intOf]
    · have hu0 : u = 0 := by omega
      have hsn : s ≠ [] := fun e => hgo (.inr e)
      subst hu0
      have hRs : R = s := by rw [HE.out]; exact dn_end s hsn
      have hbeq : (s == []) = false := by simp [hsn]
      have HRS := Lib.hid hRs
      clear hRs HE
      go_wp2
      go_ret
      exact ⟨by rw [HRS.out]; rfl, HB.out⟩

theorem itoa_pos (n : Nat) : Lib.itoa (n : Int) = Lib.decDigits n := by unfold Lib.itoa; rw [if_neg (by omega)]; simp
theorem itoa_neg {n : Int} (h : n < 0) : Lib.itoa n = 45 :: Lib.itoa (-n) := by
  have e1 : Lib.itoa n = 45 :: Lib.decDigits n.natAbs := by rw [Lib.itoa, if_pos h]
  have e2 : Lib.itoa (-n) = Lib.decDigits n.natAbs := by
    rw [Lib.itoa, if_neg (by omega)]
    congr 1; omega
  rw [e1, e2]

set_option maxHeartbeats 1000000 in
set_option maxRecDepth 100000 in
theorem refDigits_any (n : Int) (hn : InR n) (w : World) :
    Calls Tryd.prog 52 #[.int .i64 n] w fun e w' => e = .returned (.string ⟨⟨Lib.itoa n⟩⟩) ∧ Below w.heap.size w w' := by
  obtain ⟨hn1, hn2⟩ := hn
  by_cases h0 : n < 0
  · by_cases hm : n = -9223372036854775808
    · subst hm
      have hR : Lib.itoa (-9223372036854775808) = [45, 57, 50, 50, 51, 51, 55, 50, 48, 51, 54, 56, 53, 52, 55, 55, 53, 56, 48, 56] := by decide +kernel
      rw [hR]
      go_enter Tryd.func52, Tryd.ntmps52
      go_wp2
      go_ret
      exact ⟨rfl, Below.refl _ _⟩
    · obtain ⟨u, hu⟩ := Int.eq_ofNat_of_zero_le (show 0 ≤ -n by omega)
      obtain ⟨m, hmm⟩ : ∃ m, m = -n := ⟨_, rfl⟩
      have hR : Lib.itoa n = 45 :: Lib.decDigits u := by rw [itoa_neg h0, hu, itoa_pos]
      have hnm : n = -(u : Int) := by omega
      have hu19 : u ≤ 9223372036854775807 := by omega
      have hl : (Lib.decDigits u).length ≤ 20 := by rw [Lib.decDigits_length]; exact Lib.nDigits_le20 u (by omega)
      have HC := Lib.hid (refDigitsP_any u hu19)
      rw [hR]
      generalize Lib.decDigits u = R at *
      subst hnm
      have hne : ¬ -(u : Int) = -9223372036854775808 := hm
      have hs1 : ¬ 9223372036854775807 < [(45 : UInt8)].length + R.length := by simp; omega
      clear hR hmm hu hm
      go_enter Tryd.func52, Tryd.ntmps52
      go_wp2_with fail
      refine (HC.out w).mono ?_
      rintro _ w1 ⟨rfl, b1⟩
      have HB1 := Lib.hid b1
      clear b1
      go_wp2
      go_ret
      exact ⟨rfl, HB1.out⟩
  · obtain ⟨u, rfl⟩ := Int.eq_ofNat_of_zero_le (show 0 ≤ n by omega)
    rw [itoa_pos]
    exact refDigitsP_any u (by omega) w

end Go.Proofs.YtfhcfaflggiacaaDoor
