/- ofName, Name, misshapen. -/
import Derived.Test.YtiidooponlbnmaaDoorTmMem
import Derived.Lib.QuietBelow
namespace Go.Proofs.YtiidooponlbnmaaDoor.Te
open Go.RowKit
open Tt

theorem ret_b {a b : Bool} (h : a = b) : Ending.returned (.bool a) = .returned (.bool b) := by rw [h]
theorem byteAt (s : List UInt8) (k : Nat) (h : k < s.length) : (ByteArray.mk ⟨s⟩)[k]'h = s[k] := rfl
theorem u8_cast (c : UInt8) : (c.toNat : Int) = ((c.toNat : Nat) : Int) := rfl
set_option maxHeartbeats 2000000 in
set_option maxRecDepth 100000 in
theorem ofName_any (c : UInt8) (w : World) :
    Calls Tryd.prog 77 #[.int .u8 (c.toNat : Nat)] w fun e w' => e = .returned (.bool (nmB c)) ∧ w' = w := by
  obtain ⟨R, hR⟩ : ∃ R, R = nmB c := ⟨_, rfl⟩
  rw [← hR]
  unfold nmB at hR
  generalize c.toNat = n at *
  have HR := Lib.hid hR
  clear hR
  go_enter Tryd.func77, Tryd.ntmps77
  go_wp2
  all_goals
    go_ret
    refine ⟨ret_b ?_, rfl⟩
    rw [HR.out, Bool.eq_iff_iff]
    simp
    try omega

set_option maxHeartbeats 400000 in
set_option maxRecDepth 100000 in
theorem Name_any (s : List UInt8) (w : World) :
    Calls Tryd.prog 60 #[.string ⟨⟨s⟩⟩] w fun e w' => e = .returned (.bool (isName s)) ∧ w' = w := by
  obtain ⟨R, hR⟩ : ∃ R, R = isName s := ⟨_, rfl⟩
  rw [← hR]
  unfold isName at hR
  by_cases h1 : 1 ≤ s.length
  · by_cases h2 : s.length ≤ 40
    · have HR : Hid (R = s.all nmB) := by rw [Hid, hR]; simp [h1, h2]
      have i1 : ¬ (s.length : Int) < 1 := by omega
      have i2 : ¬ (40 : Int) < (s.length : Int) := by omega
      clear hR
      go_enter Tryd.func60, Tryd.ntmps60
      go_wp2
      go_loopw [14] (fun iv wr => ∃ i : Nat, i ≤ s.length ∧ iv = .int .i64 (i : Nat) ∧ Hid ((s.take i).all nmB = true) ∧ wr = w) (fun iv _ => s.length - (intOf iv).toNat)
      case atStart => exact ⟨0, by omega, rfl, Lib.hid (by simp), rfl⟩
      case round =>
        obtain ⟨i, hi, rfl, HA, rfl⟩ := hrel
        by_cases hlt : i < s.length
        · have hil : (i : Int) < (s.length : Int) := by omega
          have hba := byteAt s i hlt
          have HT : Hid ((s.take (i + 1)).all nmB = nmB s[i]) := by
            rw [Hid, List.take_succ_eq_append_getElem hlt, List.all_append, HA.out]
            simp
          have HF : Hid (nmB s[i] = false → s.all nmB = false) := by
            intro h
            rw [List.all_eq_false]
            exact ⟨s[i], List.getElem_mem hlt, by simp [h]⟩
          have hof := fun W => ofName_any s[i] W
          clear HA
          cases hb : nmB s[i] with
          | false =>
            have HR2 : Hid (R = false) := by rw [Hid, HR.out, HF.out hb]
            rw [hb] at hof
            have HO := Lib.hid hof
            clear hof hb HF HT
            go_wp2_with fail
            refine (HO.out _).mono ?_
            rintro _ _ ⟨rfl, rfl⟩
            go_wp2
            go_ret
            exact ⟨ret_b HR2.out.symm, rfl⟩
          | true =>
            rw [hb] at hof
            have HT2 : Hid ((s.take (i + 1)).all nmB = true) := by rw [Hid, HT.out, hb]
            have HO := Lib.hid hof
            clear hof hb HF HT
            go_wp2_with fail
            refine (HO.out _).mono ?_
            rintro _ _ ⟨rfl, rfl⟩
            go_wp2
            go_roundw
            case rel => exact ⟨i + 1, by omega, by go_num, HT2, trivial⟩
            case measure => simp [intOf]; omega
        · have hie : s.take i = s := List.take_of_length_le (by omega)
          have hA := HA.out
          rw [hie] at hA
          have HA2 := Lib.hid hA
          clear hA HA hie
          go_wp2
          go_ret
          exact ⟨ret_b (by rw [HR.out, HA2.out]), rfl⟩
    · have HR : Hid (R = false) := by rw [Hid, hR]; simp [h2]
      have i1 : ¬ (s.length : Int) < 1 := by omega
      have i2 : (40 : Int) < (s.length : Int) := by omega
      clear hR
      go_enter Tryd.func60, Tryd.ntmps60
      go_wp2
      go_ret
      exact ⟨ret_b (by rw [HR.out]), rfl⟩
  · have HR : Hid (R = false) := by rw [Hid, hR]; simp [h1]
    have i1 : (s.length : Int) < 1 := by omega
    clear hR
    go_enter Tryd.func60, Tryd.ntmps60
    go_wp2
    go_ret
    exact ⟨ret_b (by rw [HR.out]), rfl⟩

theorem Bl.a {w : World} (o : Obj) : Below w.heap.size w (w.alloc o) := (Below.refl _ _).alloc (Nat.le_refl _) o
set_option maxHeartbeats 1000000 in
set_option maxRecDepth 100000 in
theorem misshapen0_any (s : List UInt8) (n : Int) (c ca : Nat) (A : Option Addr) (w : World) :
    Calls Tryd.prog 48 #[.agg #[.int .i64 0, .string ⟨⟨s⟩⟩, .int .i64 n, .slice A c ca]] w fun e w' => e = .returned (.bool (!isName s || decide (n ≠ 0) || decide (0 < c))) ∧ Below w.heap.size w w' := by
  have hN := fun W => Name_any s W
  cases hb : isName s <;> rw [hb] at hN <;> have HN := Lib.hid hN <;> clear hN hb <;> by_cases hn : n = 0 <;> by_cases hc : (0 : Int) < (c : Int)
  all_goals
    go_enter Tryd.func48, Tryd.ntmps48
    go_wp2_with fail
    refine (HN.out _).mono ?_
    rintro _ _ ⟨rfl, rfl⟩
    go_wp2
    go_ret
    refine ⟨ret_b ?_, Bl.a _⟩
    simp [hn]
    try omega

set_option maxHeartbeats 1000000 in
set_option maxRecDepth 100000 in
theorem misshapen1_any (s : List UInt8) (n : Int) (c ca : Nat) (A : Option Addr) (w : World) :
    Calls Tryd.prog 48 #[.agg #[.int .i64 1, .string ⟨⟨s⟩⟩, .int .i64 n, .slice A c ca]] w fun e w' => e = .returned (.bool (decide (s ≠ []) || decide (0 < c))) ∧ Below w.heap.size w w' := by
  by_cases h1 : s = [] <;> by_cases hc : (0 : Int) < (c : Int)
  all_goals
    go_enter Tryd.func48, Tryd.ntmps48
    go_wp2
    go_ret
    refine ⟨ret_b ?_, Bl.a _⟩
    simp [h1]
    try omega
set_option maxHeartbeats 1000000 in
set_option maxRecDepth 100000 in
theorem misshapen3_any (s : List UInt8) (n : Int) (c ca : Nat) (A : Option Addr) (w : World) :
    Calls Tryd.prog 48 #[.agg #[.int .i64 3, .string ⟨⟨s⟩⟩, .int .i64 n, .slice A c ca]] w fun e w' => e = .returned (.bool (decide (s ≠ []) || decide (n ≠ 0) || decide (64 < c))) ∧ Below w.heap.size w w' := by
  by_cases h1 : s = [] <;> by_cases hn : n = 0 <;> by_cases hc : (64 : Int) < (c : Int)
  all_goals
    go_enter Tryd.func48, Tryd.ntmps48
    go_wp2
    go_ret
    refine ⟨ret_b ?_, Bl.a _⟩
    simp [h1, hn]
    try omega

set_option maxHeartbeats 1000000 in
set_option maxRecDepth 100000 in
theorem misshapen2_any (s : List UInt8) (n : Int) (c ca : Nat) (A : Option Addr) (w : World) :
    Calls Tryd.prog 48 #[.agg #[.int .i64 2, .string ⟨⟨s⟩⟩, .int .i64 n, .slice A c ca]] w fun e w' => e = .returned (.bool ((decide (s ≠ []) && !isName s) || decide (n < 1) || decide (0 < c))) ∧ Below w.heap.size w w' := by
  by_cases h1 : s = []
  · by_cases hn : n < 1 <;> by_cases hc : (0 : Int) < (c : Int)
    all_goals
      go_enter Tryd.func48, Tryd.ntmps48
      go_wp2
      go_ret
      refine ⟨ret_b ?_, Bl.a _⟩
      simp [h1]
      try omega
  · have hN := fun W => Name_any s W
    cases hb : isName s <;> rw [hb] at hN <;> have HN := Lib.hid hN <;> clear hN hb <;> by_cases hn : n < 1 <;> by_cases hc : (0 : Int) < (c : Int)
    all_goals
      go_enter Tryd.func48, Tryd.ntmps48
      go_wp2_with fail
      refine (HN.out _).mono ?_
      rintro _ _ ⟨rfl, rfl⟩
      go_wp2
      go_ret
      refine ⟨ret_b ?_, Bl.a _⟩
      simp [h1]
      try omega
set_option maxHeartbeats 1000000 in
set_option maxRecDepth 100000 in
theorem misshapenX_any (k : Int) (h0 : k ≠ 0) (h1 : k ≠ 1) (h2 : k ≠ 2) (h3 : k ≠ 3) (h4 : k ≠ 4) (h5 : k ≠ 5) (s : List UInt8) (n : Int) (c ca : Nat) (A : Option Addr) (w : World) :
    Calls Tryd.prog 48 #[.agg #[.int .i64 k, .string ⟨⟨s⟩⟩, .int .i64 n, .slice A c ca]] w fun e w' => e = .returned (.bool true) ∧ Below w.heap.size w w' := by
  go_enter Tryd.func48, Tryd.ntmps48
  go_wp2
  go_ret
  exact ⟨rfl, Bl.a _⟩
set_option maxHeartbeats 2000000 in
set_option maxRecDepth 100000 in
theorem misshapen4_any (k : Int) (hk : k = 4 ∨ k = 5) (s : List UInt8) (n : Int) (l : List Tm) (ca : Nat) (A : Option Addr) (S : Nat → Prop) (w : World) (hr : TRow w S l A) (hS : ∀ b, S b → b < w.heap.size) :
    Calls Tryd.prog 48 #[.agg #[.int .i64 k, .string ⟨⟨s⟩⟩, .int .i64 n, .slice A l.length ca]] w fun e w' => e = .returned (.bool (decide (s ≠ []) || decide (n < 1) || decide (255 < n) || decide (l.length ≠ 2) || decide (fk l ≠ 2))) ∧ Below w.heap.size w w' := by
  obtain ⟨R, hR⟩ : ∃ R, R = (decide (s ≠ []) || decide (n < 1) || decide (255 < n) || decide (l.length ≠ 2) || decide (fk l ≠ 2)) := ⟨_, rfl⟩
  rw [← hR]
  by_cases hc : l.length = 2
  · have hb := Lib.hid (Bl.a (w := w) (.cells #[.int .i64 k, .string ⟨⟨s⟩⟩, .int .i64 n, .slice A l.length ca] 33))
    obtain ⟨b, o, k1, s1, m1, q1, B1, cb1, rfl, hSb, hx, d0, -⟩ := trow_get (i := 0) hr hb.out hS (by omega)
    have hf : fk l = k1 := by
      cases l with
      | nil => simp at hc
      | cons x r => simp only [List.getElem_cons_zero] at hx; rw [fk, hx]; rfl
    have hci : ((l.length : Nat) : Int) = 2 := by omega
    rw [Nat.zero_mul, Nat.add_zero] at d0
    rw [hf, hc] at hR
    rw [hc] at d0 hb ⊢
    have hbS := hS b hSb
    have hbn : b ≠ w.heap.size := by omega
    clear hx hr hf hSb hc hci hS
    have hn : n < 1 ∨ 255 < n ∨ (1 ≤ n ∧ n ≤ 255) := by omega
    rcases Decidable.em (s = []) with rfl | h1 <;> rcases hn with hn | hn | hn <;> rcases Decidable.em (k1 = 2) with rfl | hq <;> rcases hk with rfl | rfl
    all_goals
      have HR : Hid (R = _) := hR
      clear hR
      go_enter Tryd.func48, Tryd.ntmps48
      go_wp2
      try (
        go_ret
        refine ⟨ret_b ?_, Bl.a _⟩
        rw [HR.out]
        first | simp [h1, hq] | simp [h1] | simp [hq] | simp
        try omega)
  · have hci : ¬ ((l.length : Nat) : Int) = 2 := by omega
    have hb := Lib.hid (Bl.a (w := w) (.cells #[.int .i64 k, .string ⟨⟨s⟩⟩, .int .i64 n, .slice A l.length ca] 33))
    have hn : n < 1 ∨ 255 < n ∨ (1 ≤ n ∧ n ≤ 255) := by omega
    by_cases h1 : s = [] <;> rcases hn with hn | hn | hn <;> rcases hk with rfl | rfl
    all_goals
      have HR : Hid (R = _) := hR
      clear hR
      go_enter Tryd.func48, Tryd.ntmps48
      go_wp2
      try (
        go_ret
        refine ⟨ret_b ?_, Bl.a _⟩
        rw [HR.out]
        simp [h1, hc]
        try omega)

theorem misshapen_any (x : Tm) (S : Nat → Prop) (v : Value) (w : World) (hr : Rep w S x v) (hS : ∀ b, S b → b < w.heap.size) :
    Calls Tryd.prog 48 #[v] w fun e w' => e = .returned (.bool (mis x)) ∧ Below w.heap.size w w' := by
  obtain ⟨k, s, n, l⟩ := x
  obtain ⟨A, ca, rfl, hm, hrow⟩ := rep_mk.1 hr
  rw [mis]
  split
  · rename_i h; subst h; exact misshapen0_any s n l.length ca A w
  · split
    · rename_i h; subst h; exact misshapen1_any s n l.length ca A w
    · split
      · rename_i h; subst h; exact misshapen2_any s n l.length ca A w
      · split
        · rename_i h; subst h; exact misshapen3_any s n l.length ca A w
        · split
          · rename_i h; exact misshapen4_any k h s n l ca A S w hrow hS
          · exact misshapenX_any k (by assumption) (by assumption) (by assumption) (by assumption) (by omega) (by omega) s n l.length ca A w

end Go.Proofs.YtiidooponlbnmaaDoor.Te
