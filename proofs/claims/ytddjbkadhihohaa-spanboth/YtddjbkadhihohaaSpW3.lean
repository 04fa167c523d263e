/- span: Of. -/
import Derived.Test.YtddjbkadhihohaaSpW2
namespace Go.Proofs.Ytddjbkadhihohaa
open Go.RowKit
namespace Sp

theorem set2_self {W : World} {g : Nat} {v0 v1 a0 a1 : Value} {T : TypeId} (h : W.heap[g]? = some (.cells #[a0, a1] T (0, 0))) : ((W.setCell ⟨g, 0, none⟩ v0).setCell ⟨g, 1, none⟩ v1).heap[g]? = some (.cells #[v0, v1] T (0, 0)) := by
  rw [heap_setCell_same _ _ _ _ _ _ (heap_setCell_same _ _ _ _ _ _ h)]
  rfl
theorem set2_other {W : World} {g k : Nat} {v0 v1 : Value} (h : k ≠ g) : ((W.setCell ⟨g, 0, none⟩ v0).setCell ⟨g, 1, none⟩ v1).heap[k]? = W.heap[k]? := by
  rw [heap_setCell_other _ _ _ _ h, heap_setCell_other _ _ _ _ h]
theorem set2_size {W : World} {g : Nat} {v0 v1 : Value} : ((W.setCell ⟨g, 0, none⟩ v0).setCell ⟨g, 1, none⟩ v1).heap.size = W.heap.size := by simp
theorem set2_below {B g : Nat} {w W : World} {v0 v1 : Value} (h : Below B w W) (hg : B ≤ g) : Below B w ((W.setCell ⟨g, 0, none⟩ v0).setCell ⟨g, 1, none⟩ v1) :=
  (h.setCell (p := ⟨_, 0, none⟩) hg _).setCell (p := ⟨_, 1, none⟩) hg _

set_option maxHeartbeats 1000000 in
set_option maxRecDepth 100000 in
theorem Of_gen (x y u v : Nat) (a b : Int) (c : Bool) (w : World)
    (hx : ∀ W : World, (convert 29 3 (.float .f64 x)).run Try.prog W = .ok (.int .i64 a) W) (hy : ∀ W : World, (convert 29 3 (.float .f64 y)).run Try.prog W = .ok (.int .i64 b) W)
    (hp : pt a b = .complex .f64 u v) (t1 t2 : Bool) (h1 : (FloatKind.f64.format.order u x == some Ordering.eq) = t1) (h2 : (FloatKind.f64.format.order v y == some Ordering.eq) = t2) (hc : c = (t1 && t2)) :
    Calls Try.prog 11 #[.complex .f64 x y] w fun e w' => e = .returned (if c then sv a b else sv 0 0) ∧ Below w.heap.size w w' := by
  obtain ⟨z, hz⟩ : ∃ z, z = w.heap.size := ⟨_, rfl⟩
  have HZ := Lib.hid hz
  have HX := Lib.hid hx
  have HY := Lib.hid hy
  have H1 := Lib.hid h1
  have H2 := Lib.hid h2
  have HC := Lib.hid hc
  rw [← hz]
  clear hz hx hy hc h1 h2
  go_enter Try.func11, Try.ntmps11
  go_wp2_with (simp only [HX.out, HY.out])
  rw [← HZ.out]
  have hP := Point_any a b ((w.alloc (.cells #[.int .i64 0, .int .i64 0] 23)).alloc (.cells #[.int .i64 a, .int .i64 b] 23))
  have hb0 : Below z w ((w.alloc (.cells #[.int .i64 0, .int .i64 0] 23)).alloc (.cells #[.int .i64 a, .int .i64 b] 23)) := ((Below.refl _ _).alloc (by rw [HZ.out]; exact Nat.le_refl _) _).alloc (by rw [HZ.out]; simp) _
  have hs0 : ((w.alloc (.cells #[.int .i64 0, .int .i64 0] 23)).alloc (.cells #[.int .i64 a, .int .i64 b] 23)).heap.size = z + 2 := by rw [HZ.out]; simp
  have hg0 : ((w.alloc (.cells #[.int .i64 0, .int .i64 0] 23)).alloc (.cells #[.int .i64 a, .int .i64 b] 23)).heap[z]? = some (.cells #[.int .i64 0, .int .i64 0] 23 (0, 0)) := by
    rw [HZ.out, heap_alloc_old' _ _ (by simp)]; exact World.alloc_heap_new _ _
  have hg1 : ((w.alloc (.cells #[.int .i64 0, .int .i64 0] 23)).alloc (.cells #[.int .i64 a, .int .i64 b] 23)).heap[z + 1]? = some (.cells #[.int .i64 a, .int .i64 b] 23 (0, 0)) := by
    have h := World.alloc_heap_new (w.alloc (.cells #[.int .i64 0, .int .i64 0] 23)) (.cells #[.int .i64 a, .int .i64 b] 23)
    rw [show (w.alloc (.cells #[.int .i64 0, .int .i64 0] 23)).heap.size = z + 1 by rw [HZ.out]; simp] at h
    exact h
  generalize ((w.alloc (.cells #[.int .i64 0, .int .i64 0] 23)).alloc (.cells #[.int .i64 a, .int .i64 b] 23)) = W0 at *
  refine hP.mono ?_
  rintro _ w1 ⟨rfl, hb1⟩
  rw [hs0] at hb1
  have hg2 := (hb1.block z (by omega)).trans hg0
  have hg3 := (hb1.block (z + 1) (by omega)).trans hg1
  have HB1 : Hid (Below z w w1) := hb0.trans (hb1.mono (by omega))
  obtain ⟨c0, c1⟩ := cell2 hg2
  obtain ⟨c2, c3⟩ := cell2 hg3
  have HG2 := Lib.hid hg2
  rw [hp]
  clear hP hb0 hs0 hg0 hg1 hb1 hg2 hg3 hp
  have f0 := fun j => frozen_of_row _ _ j _ _ HG2.out
  have e1 := H1.out
  have e2 := H2.out
  have HS := Lib.hid (set2_self (v0 := .int .i64 a) (v1 := .int .i64 b) HG2.out)
  have HS0 := Lib.hid (set2_self (v0 := .int .i64 0) (v1 := .int .i64 0) HG2.out)
  have hw2 : Below z w ((w1.setCell ⟨z, 0, none⟩ (.int .i64 a)).setCell ⟨z, 1, none⟩ (.int .i64 b)) := set2_below HB1.out (Nat.le_refl _)
  have hw3 : Below z w ((w1.setCell ⟨z, 0, none⟩ (.int .i64 0)).setCell ⟨z, 1, none⟩ (.int .i64 0)) := set2_below HB1.out (Nat.le_refl _)
  have HW2 := Lib.hid hw2
  have HW3 := Lib.hid hw3
  clear hw2 hw3
  cases t1
  · obtain rfl : c = false := by rw [HC.out]; rfl
    clear H1 H2 HC
    go_wp2
    have hS := HS0.out
    obtain ⟨d0, d1⟩ := cell2 hS
    exact bodyPost_ret (v := sv 0 0) (by simp [results, Try.results11, go_sem, d0, d1, sv]) rfl ⟨rfl, HW3.out⟩
  · cases t2
    · obtain rfl : c = false := by rw [HC.out]; rfl
      clear H1 H2 HC
      go_wp2
      have hS := HS0.out
      obtain ⟨d0, d1⟩ := cell2 hS
      exact bodyPost_ret (v := sv 0 0) (by simp [results, Try.results11, go_sem, d0, d1, sv]) rfl ⟨rfl, HW3.out⟩
    · obtain rfl : c = true := by rw [HC.out]; rfl
      clear H1 H2 HC
      go_wp2
      have hS := HS.out
      obtain ⟨d0, d1⟩ := cell2 hS
      exact bodyPost_ret (v := sv a b) (by simp [results, Try.results11, go_sem, d0, d1, sv]) rfl ⟨rfl, HW2.out⟩
end Sp
end Go.Proofs.Ytddjbkadhihohaa
