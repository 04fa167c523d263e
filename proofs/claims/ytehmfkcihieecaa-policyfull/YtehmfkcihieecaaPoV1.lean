/- The document's Same of keys; its SameRow. (Laid with NS=1; written by wip/tools/gen/pot.py.) -/
import Derived.Test.YtehmfkcihieecaaPoW12
import Derived.Lib.QuietBelow
namespace Go.Proofs.Ytehmfkcihieecaa.Po
open Go.RowKit Go.Sort
open Te Te.Tt
open Go (Lit DataW MemPlace keyOf maxLen)

set_option maxRecDepth 100000 in
theorem sign_any (b : Bool) (w : World) : Calls Try.prog 48 #[.bool b] w fun e w' => e = .returned (.int .i64 (if b then -1 else 1)) ∧ w' = w := by
  go_enter Try.func48, Try.ntmps48
  cases b
  · go_wp2
    go_ret
    exact ⟨rfl, rfl⟩
  · go_wp2
    go_ret
    exact ⟨rfl, rfl⟩
theorem sgn_ne (b : Bool) : (if b then (-1 : Int) else 1) ≠ 0 := by cases b <;> decide
def kEq (x y : Ky) : Bool := decide (x.k = y.k) && (decide (x.s = y.s) && decide (x.n = y.n))
theorem kEq_iff {x y : Ky} : kEq x y = true ↔ x = y := by
  obtain ⟨k, s, n⟩ := x
  obtain ⟨k', s', n'⟩ := y
  simp [kEq]
/-- What Order answers of two keys. -/
def OrdPost (x y : Ky) (w : World) (e : Ending) (w' : World) : Prop := ∃ r : Int, e = .returned (.int .i64 r) ∧ decide (r = 0) = kEq x y ∧ RowKit.Below w.heap.size w w'
set_option maxHeartbeats 4000000 in
set_option maxRecDepth 100000 in
theorem orderK_any (x y : Ky) (w : World) : Calls Try.prog 36 #[kval x, kval y] w (OrdPost x y w) := by
  obtain ⟨k, s, n⟩ := x
  obtain ⟨k', s', n'⟩ := y
  simp only [kval]
  obtain ⟨z, hz⟩ : ∃ z, z = w.heap.size := ⟨_, rfl⟩
  obtain ⟨W2, hW2⟩ : ∃ W2, W2 = ((w.alloc (.cells #[.int .i64 k, .string ⟨⟨s⟩⟩, .int .i64 n, .slice none 0 0] 45)).alloc (.cells #[.int .i64 k', .string ⟨⟨s'⟩⟩, .int .i64 n', .slice none 0 0] 45)) := ⟨_, rfl⟩
  have hB2 : RowKit.Below w.heap.size w W2 := by rw [hW2]; exact two_below _ _ _
  have hg0 : W2.heap[z]? = some (.cells #[.int .i64 k, .string ⟨⟨s⟩⟩, .int .i64 n, .slice none 0 0] 45 (0, 0)) := by rw [hW2, hz]; exact two_old _ _ _
  have hg1 : W2.heap[z + 1]? = some (.cells #[.int .i64 k', .string ⟨⟨s'⟩⟩, .int .i64 n', .slice none 0 0] 45 (0, 0)) := by
    rw [hW2, hz]
    have := heap_alloc_new (w.alloc (.cells #[.int .i64 k, .string ⟨⟨s⟩⟩, .int .i64 n, .slice none 0 0] 45)) (.cells #[.int .i64 k', .string ⟨⟨s'⟩⟩, .int .i64 n', .slice none 0 0] 45)
    rwa [World.size_alloc] at this
  obtain ⟨c0, c1, c2, c3⟩ := cell4 hg0
  obtain ⟨d0, d1, d2, d3⟩ := cell4 hg1
  have HB2 := Lib.hid hB2
  have HW2 := Lib.hid hW2
  have HZ := Lib.hid hz
  have HBAD : Hid (∀ b : Bool, ¬ (k = k' ∧ s = s' ∧ n = n') → OrdPost ⟨k, s, n⟩ ⟨k', s', n'⟩ w (.returned (.int .i64 (if b then -1 else 1))) W2) := fun b h => ⟨_, rfl, by rw [decide_eq_false (sgn_ne b), eq_comm]; simp only [kEq, Bool.and_eq_false_imp, decide_eq_true_eq, decide_eq_false_iff_not]; exact fun h1 h2 h3 => h ⟨h1, h2, h3⟩, hB2⟩
  have HGOOD : Hid (k = k' ∧ s = s' ∧ n = n' → ∀ w', RowKit.Below W2.heap.size W2 w' → OrdPost ⟨k, s, n⟩ ⟨k', s', n'⟩ w (.returned (.int .i64 0)) w') := fun h w' hb => ⟨0, rfl, by simp [kEq, h.1, h.2.1, h.2.2], hB2.trans (hb.mono hB2.size)⟩
  rw [hW2, hz] at c0 c1 c2 c3 d0 d1 d2 d3
  clear hz hW2 hB2 hg0 hg1
  have HSG := fun b => Lib.hid (sign_any b W2)
  go_enter Try.func36, Try.ntmps36
  by_cases hk : k = k'
  case neg =>
    have HP := fun b => Lib.hid (HBAD.out b (fun h => hk h.1))
    clear HBAD HGOOD
    go_wp2_with fail
    rw [← HW2.out]
    refine (HSG _).out.mono ?_
    rintro _ _ ⟨rfl, rfl⟩
    go_wp2
    all_goals (go_ret; first | exact (HP true).out | exact (HP false).out)
  subst hk
  by_cases hs : s = s'
  case neg =>
    have HP := fun b => Lib.hid (HBAD.out b (fun h => hs h.2.1))
    have hbeq : (s == s') = false := by simp [hs]
    clear HBAD HGOOD
    go_wp2_with fail
    rw [← HW2.out]
    refine (HSG _).out.mono ?_
    rintro _ _ ⟨rfl, rfl⟩
    go_wp2
    all_goals (go_ret; first | exact (HP true).out | exact (HP false).out)
  subst hs
  by_cases hn : n = n'
  case neg =>
    have HP := fun b => Lib.hid (HBAD.out b (fun h => hn h.2.2))
    clear HBAD HGOOD
    go_wp2_with fail
    rw [← HW2.out]
    refine (HSG _).out.mono ?_
    rintro _ _ ⟨rfl, rfl⟩
    go_wp2
    all_goals (go_ret; first | exact (HP true).out | exact (HP false).out)
  subst hn
  have HP := Lib.hid (HGOOD.out ⟨rfl, rfl, rfl⟩)
  have HC : Hid (W2.cell? ⟨z, 3, none⟩ = some (.slice none 0 0) ∧ W2.cell? ⟨z + 1, 3, none⟩ = some (.slice none 0 0)) := by rw [HW2.out, HZ.out]; exact ⟨c3, d3⟩
  clear HBAD HGOOD
  go_wp2_with fail
  rw [← HW2.out, ← HZ.out]
  clear c0 c1 c2 c3 d0 d1 d2 d3
  obtain ⟨c3, d3⟩ := HC.out
  go_loopw [5, 6] (fun iv _ wr => iv = .int .i64 0 ∧ wr = W2) (fun _ _ _ => 0)
  case atStart => exact ⟨rfl, rfl⟩
  case round =>
    obtain ⟨rfl, rfl⟩ := hrel
    go_wp2
    go_ret
    exact HP.out _ (RowKit.Below.refl _ _)
set_option maxHeartbeats 1000000 in
set_option maxRecDepth 100000 in
theorem sameK_any (x y : Ky) (w : World) : Calls Try.prog 18 #[kval x, kval y] w fun e w' => e = .returned (.bool (kEq x y)) ∧ RowKit.Below w.heap.size w w' := by
  obtain ⟨W2, hW2⟩ : ∃ W2, W2 = ((w.alloc (.cells #[.int .i64 x.k, .string ⟨⟨x.s⟩⟩, .int .i64 x.n, .slice none 0 0] 45)).alloc (.cells #[.int .i64 y.k, .string ⟨⟨y.s⟩⟩, .int .i64 y.n, .slice none 0 0] 45)) := ⟨_, rfl⟩
  have hB2 : RowKit.Below w.heap.size w W2 := by rw [hW2]; exact two_below _ _ _
  have HC := Lib.hid (orderK_any x y W2)
  have HB2 := Lib.hid hB2
  have HW2 := Lib.hid hW2
  clear hB2 hW2
  simp only [kval] at *
  go_enter Try.func18, Try.ntmps18
  go_wp2_with fail
  rw [← HW2.out]
  refine HC.out.mono ?_
  rintro _ w1 ⟨r, rfl, hr, b1⟩
  have HB1 := Lib.hid (HB2.out.trans (b1.mono HB2.out.size))
  have HR := Lib.hid hr
  clear b1 HC HB2 hr
  go_wp2
  go_ret
  exact ⟨by rw [← HR.out]; rfl, HB1.out⟩
end Go.Proofs.Ytehmfkcihieecaa.Po
