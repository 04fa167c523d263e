/- The document's answer: digits, above, Pad. -/
import Derived.Test.YtihgglplbanegaaDoorShaV2
namespace Go.Proofs.YtihgglplbanegaaDoor
open Go.RowKit

set_option maxRecDepth 100000 in
theorem digits_any (n : Nat) (w : World) (hn : n ≤ 4611686018427387904) :
    Calls Tryd.prog 41 #[.int .i64 n] w fun e w' => ∃ v, e = .returned v ∧ Ints w' v (Sh.dg n) ∧ Below w.heap.size w w' := by
  go_enter Tryd.func41, Tryd.ntmps41
  go_wp2
  go_ret
  refine ⟨_, rfl, ⟨w.heap.size, 3, rfl, by simp, fun i hi => ?_⟩, (Below.refl _ _).alloc (Nat.le_refl _) _⟩
  rw [cell_of_row _ _ _ _ _ _ (heap_alloc_new w _)]
  match i, hi with
  | 0, _ => rfl
  | 1, _ => rfl
  | 2, _ => rfl
  | k + 3, h => exact absurd h (by simp [Sh.dg])

set_option maxRecDepth 100000 in
theorem above_any (va vb : Value) (a b : List Nat) (w : World) (HA : Ints w va a) (HB : Ints w vb b) (ha : a.length ≤ 100) (hb : b.length ≤ a.length) :
    Calls Tryd.prog 43 #[va, vb] w fun e w' => e = .returned (.bool (Sh.above a b)) ∧ w = w' := by
  obtain ⟨g, cap, rfl, hg, hc⟩ := HA
  obtain ⟨g2, cap2, rfl, hg2, hc2⟩ := HB
  have HC := Lib.hid hc
  have HC2 := Lib.hid hc2
  clear hc hc2 hg hg2
  have HM : Hid (Sh.above a b = Sh.abv a b a.length) := by rw [Hid, Sh.above, Nat.max_eq_left hb]
  have hbi : (b.length : Int) ≤ (a.length : Int) := by omega
  go_enter Tryd.func43, Tryd.ntmps43
  go_wp2_with fail
  go_loop [5] (fun i => ∃ m : Nat, m ≤ a.length ∧ i = .int .i64 ((m : Int) - 1) ∧ Hid (Sh.above a b = Sh.abv a b m)) (fun i => (intOf i + 1).toNat)
  case atStart => exact ⟨a.length, Nat.le_refl _, rfl, HM⟩
  case round =>
    obtain ⟨m, hm, rfl, HE⟩ := hrel
    cases m with
    | zero =>
      have HF : Hid (Sh.above a b = false) := HE
      simp only [Int.natCast_zero, Int.zero_sub]
      go_wp2
      go_ret
      exact ⟨by rw [HF.out]; rfl, rfl⟩
    | succ m =>
      have hx := HC.out m (by omega)
      have HE2 : Hid (Sh.above a b = if a.getD m 0 = b.getD m 0 then Sh.abv a b m else decide (b.getD m 0 < a.getD m 0)) := by rw [Hid, HE.out, Sh.abv]
      clear HE
      have hml : m < a.length := by omega
      rw [show (((m + 1 : Nat) : Int) - 1) = (m : Int) by omega]
      by_cases hmb : m < b.length
      · have hy := HC2.out m hmb
        generalize a.getD m 0 = x at *
        generalize b.getD m 0 = y at *
        by_cases hxy : x = y
        · have e1 : ((x : Int) != (y : Int)) = false := by rw [hxy]; simp
          have HE3 : Hid (Sh.above a b = Sh.abv a b m) := by rw [Hid, HE2.out, if_pos hxy]
          clear HE2 hxy
          go_wp2
          go_round
          case rel => exact ⟨m, by omega, rfl, HE3⟩
          case measure => simp [intOf]
        · have e1 : ((x : Int) != (y : Int)) = true := by rw [bne_iff_ne]; omega
          have HE3 : Hid (Sh.above a b = decide (y < x)) := by rw [Hid, HE2.out, if_neg hxy]
          clear HE2 hxy
          go_wp2
          go_ret
          exact ⟨by rw [HE3.out]; simp, rfl⟩
      · have hy : b.getD m 0 = 0 := by rw [List.getD_eq_getElem?_getD, List.getElem?_eq_none (by omega)]; rfl
        rw [hy] at HE2
        clear hy
        generalize a.getD m 0 = x at *
        by_cases hxy : x = 0
        · have e1 : ((x : Int) != 0) = false := by rw [hxy]; rfl
          have HE3 : Hid (Sh.above a b = Sh.abv a b m) := by rw [Hid, HE2.out, if_pos hxy]
          clear HE2 hxy
          go_wp2
          go_round
          case rel => exact ⟨m, by omega, rfl, HE3⟩
          case measure => simp [intOf]
        · have e1 : ((x : Int) != 0) = true := by rw [bne_iff_ne]; omega
          have HE3 : Hid (Sh.above a b = decide (0 < x)) := by rw [Hid, HE2.out, if_neg hxy]
          clear HE2 hxy
          go_wp2
          go_ret
          exact ⟨by rw [HE3.out]; simp, rfl⟩

set_option maxRecDepth 100000 in
theorem refPad_neg (n : Int) (w : World) (hn : n < 0) :
    Calls Tryd.prog 47 #[.int .i64 n] w fun e w' => e = .returned (.string ⟨⟨[]⟩⟩) ∧ w = w' := by
  go_enter Tryd.func47, Tryd.ntmps47
  go_wp2
  go_ret
  exact ⟨rfl, rfl⟩
end Go.Proofs.YtihgglplbanegaaDoor
