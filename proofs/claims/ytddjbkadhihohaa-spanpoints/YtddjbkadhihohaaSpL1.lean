/- The law SpanThree, walked. -/
import Derived.Test.YtddjbkadhihohaaSpW8
namespace Go.Proofs.Ytddjbkadhihohaa
open Go.RowKit
namespace Sp

/-- Blocks that hold spans are as they were. -/
def Kb (w : World) (l : List (Nat × Array Value)) (W : World) : Prop := Below w.heap.size w W ∧ ∀ x ∈ l, W.heap[x.1]? = some (.cells x.2 23 (0, 0))
theorem Kb.next {w W W' : World} {l : List (Nat × Array Value)} (h : Kb w l W) (hb : Below W.heap.size W W') : Kb w l W' :=
  ⟨h.1.trans (hb.mono h.1.size), fun x hx => (hb.block _ (Array.getElem?_eq_some_iff.1 (h.2 x hx)).1).trans (h.2 x hx)⟩
theorem Kb.zero (w : World) : Kb w [] w := ⟨Below.refl _ _, fun x hx => by simp at hx⟩
theorem Kb.add {w W : World} {l : List (Nat × Array Value)} (h : Kb w l W) (cs : Array Value) : Kb w ((W.heap.size, cs) :: l) (W.alloc (.cells cs 23)) := by
  refine ⟨h.1.alloc h.1.size _, fun x hx => ?_⟩
  rcases List.mem_cons.1 hx with rfl | hx
  · exact World.alloc_heap_new W _
  · rw [heap_alloc_old' _ _ (Array.getElem?_eq_some_iff.1 (h.2 x hx)).1]
    exact h.2 x hx
theorem Kb.cell {w W : World} {l : List (Nat × Array Value)} (h : Kb w l W) (g : Nat) (v0 v1 : Value) (hm : (g, #[v0, v1]) ∈ l) : W.cell? ⟨g, 0, none⟩ = some v0 ∧ W.cell? ⟨g, 1, none⟩ = some v1 := cell2 (h.2 _ hm)

theorem kb1 (w : World) (c0 : Array Value) : Kb w [(w.heap.size, c0)] (w.alloc (.cells c0 23)) := (Kb.zero w).add c0
theorem kb2 (w : World) (c0 c1 : Array Value) : Kb w [(w.heap.size + 1, c1), (w.heap.size, c0)] ((w.alloc (.cells c0 23)).alloc (.cells c1 23)) := by
  have h := (kb1 w c0).add c1
  rwa [World.size_alloc] at h
theorem kb3 (w : World) (c0 c1 c2 : Array Value) : Kb w [(w.heap.size + 2, c2), (w.heap.size + 1, c1), (w.heap.size, c0)] (((w.alloc (.cells c0 23)).alloc (.cells c1 23)).alloc (.cells c2 23)) := by
  have h := (kb2 w c0 c1).add c2
  rwa [World.size_alloc, World.size_alloc] at h

theorem lft_zero {a b : Int} (h : (lft a b).2 = 0) : vld a b = true ∧ a < b ∧ (lft a b).1 = (a, b) := by
  unfold lft at h ⊢
  by_cases hc : (vld a b && decide (a < b)) = true
  · rw [if_pos hc]
    simp at hc
    exact ⟨hc.1, hc.2, rfl⟩
  · rw [if_neg hc] at h
    simp at h
theorem lft_err {a b : Int} (h : (lft a b).2 ≠ 0) : lft a b = ((0, 0), 63) ∧ (vld a b = false ∨ b ≤ a) := by
  unfold lft at h ⊢
  by_cases hc : (vld a b && decide (a < b)) = true
  · rw [if_pos hc] at h
    simp at h
  · rw [if_neg hc]
    refine ⟨rfl, ?_⟩
    by_cases hv : vld a b = true
    · right
      rw [hv] at hc
      simp at hc
      exact hc
    · left
      simpa using hv
theorem bth_zero {a b c d : Int} (h : (bth a b c d).2 = 0) : vld a b = true ∧ vld c d = true ∧ max a c < min b d ∧ (bth a b c d).1 = (max a c, min b d) ∧ vld (max a c) (min b d) = true := by
  unfold bth at h ⊢
  by_cases hc : (vld a b && vld c d) = true
  · rw [if_pos hc] at h ⊢
    obtain ⟨h1, h2, h3⟩ := lft_zero h
    simp at hc
    exact ⟨hc.1, hc.2, h2, h3, h1⟩
  · rw [if_neg hc] at h
    simp at h
theorem vld_iff {a b : Int} : vld a b = true ↔ 0 ≤ a ∧ a ≤ b ∧ b ≤ 1099511627776 := by
  constructor
  · exact vld_bounds
  · intro h
    simp [vld, ok]
    omega
theorem bth_three {a b c d e f : Int} (h1 : (bth a b c d).2 = 0) (h2 : (bth c d e f).2 = 0) : bth (bth a b c d).1.1 (bth a b c d).1.2 e f = bth a b (bth c d e f).1.1 (bth c d e f).1.2 := by
  obtain ⟨v1, v2, m1, r1, w1⟩ := bth_zero h1
  obtain ⟨v3, v4, m2, r2, w2⟩ := bth_zero h2
  rw [r1, r2]
  unfold bth
  simp only
  rw [w1, v4, v1, w2]
  simp only [Bool.and_self, if_true]
  rw [show max (max a c) e = max a (max c e) by omega, show min (min b d) f = min b (min d f) by omega]

set_option maxHeartbeats 4000000 in
set_option maxRecDepth 100000 in
theorem spanThree_walk (a b c d e f : Int) (w : World) :
    Calls Try.prog 7 #[sv a b, sv c d, sv e f] w fun r w' => r = .returned (.bool true) ∧ Below w.heap.size w w' := by
  have HX := Lib.hid (Both_any a b c d)
  have HY := Lib.hid (Both_any c d e f)
  have hz1 := fun h => bth_zero (a := a) (b := b) (c := c) (d := d) h
  have hz2 := fun h => bth_zero (a := c) (b := d) (c := e) (d := f) h
  have ht := fun h1 h2 => bth_three (a := a) (b := b) (c := c) (d := d) (e := e) (f := f) h1 h2
  generalize bth a b c d = x at *
  generalize bth c d e f = y at *
  obtain ⟨⟨x1, x2⟩, xe⟩ := x
  obtain ⟨⟨y1, y2⟩, ye⟩ := y
  have hz3 : xe = 0 → vld x1 x2 = true := fun h => by
    obtain ⟨-, -, -, h1, h2⟩ := hz1 h
    simp only [Prod.mk.injEq] at h1
    rw [h1.1, h1.2]; exact h2
  have hz4 : ye = 0 → vld y1 y2 = true := fun h => by
    obtain ⟨-, -, -, h1, h2⟩ := hz2 h
    simp only [Prod.mk.injEq] at h1
    rw [h1.1, h1.2]; exact h2
  clear hz1 hz2
  have HZ3 := Lib.hid hz3
  have HZ4 := Lib.hid hz4
  have HT := Lib.hid ht
  clear hz3 hz4 ht
  have HN := Lib.hid (kb3 w #[.int .i64 a, .int .i64 b] #[.int .i64 c, .int .i64 d] #[.int .i64 e, .int .i64 f])
  have HXU := Lib.hid (Both_any x1 x2 e f)
  have HYU := Lib.hid (Both_any a b y1 y2)
  have HVX := Lib.hid (Valid_any x1 x2)
  have HVY := Lib.hid (Valid_any y1 y2)
  unfold tv sv at *
  go_enter Try.func7, Try.ntmps7
  go_wp2_with fail
  generalize ((w.alloc (.cells #[.int .i64 a, .int .i64 b] 23)).alloc (.cells #[.int .i64 c, .int .i64 d] 23)).alloc (.cells #[.int .i64 e, .int .i64 f] 23) = W at *
  refine (works_any W).mono ?_
  rintro _ w1 ⟨rfl, hb1⟩
  have HN1 := Lib.hid (HN.out.next hb1)
  clear HN hb1
  obtain ⟨c0, c1⟩ := HN1.out.cell w.heap.size (.int .i64 a) (.int .i64 b) (by simp)
  obtain ⟨c2, c3⟩ := HN1.out.cell (w.heap.size + 1) (.int .i64 c) (.int .i64 d) (by simp)
  go_wp2_with fail
  refine (HX.out w1).mono ?_
  rintro _ w2 ⟨rfl, hb2⟩
  have HN2 := Lib.hid ((HN1.out.next hb2).add #[.int .i64 x1, .int .i64 x2])
  have hs2 := HN1.out.1.size
  have hs2b := hb2.size
  have HLT := Lib.hid (show w.heap.size ≤ w2.heap.size by omega)
  clear HN1 hb2 c0 c1 c2 c3 HX hs2 hs2b
  obtain ⟨g1, hg1⟩ : ∃ g, g = w2.heap.size := ⟨_, rfl⟩
  have HG1 := Lib.hid hg1
  rw [← hg1] at HN2
  clear hg1
  obtain ⟨c2, c3⟩ := HN2.out.cell (w.heap.size + 1) (.int .i64 c) (.int .i64 d) (by simp)
  obtain ⟨c4, c5⟩ := HN2.out.cell (w.heap.size + 2) (.int .i64 e) (.int .i64 f) (by simp)
  go_wp2_with fail
  rw [← HG1.out]
  generalize w2.alloc (.cells #[.int .i64 x1, .int .i64 x2] 23) = W2 at *
  refine (HY.out W2).mono ?_
  rintro _ w3 ⟨rfl, hb3⟩
  have HN3 := Lib.hid ((HN2.out.next hb3).add #[.int .i64 y1, .int .i64 y2])
  clear HN2 hb3 c2 c3 c4 c5 HY HG1 HLT
  obtain ⟨g2, hg2⟩ : ∃ g, g = w3.heap.size := ⟨_, rfl⟩
  have HG2 := Lib.hid hg2
  rw [← hg2] at HN3
  clear hg2
  by_cases hxe : xe = 0
  · by_cases hye : ye = 0
    · subst hxe
      subst hye
      have ht := HT.out rfl rfl
      clear HZ3 HZ4 HT HVX HVY
      rw [ht] at HXU
      clear ht
      generalize bth a b y1 y2 = u at *
      obtain ⟨⟨u1, u2⟩, ue⟩ := u
      obtain ⟨c0, c1⟩ := HN3.out.cell g1 (.int .i64 x1) (.int .i64 x2) (by simp)
      obtain ⟨c4, c5⟩ := HN3.out.cell (w.heap.size + 2) (.int .i64 e) (.int .i64 f) (by simp)
      go_wp2_with fail
      rw [← HG2.out]
      generalize w3.alloc (.cells #[.int .i64 y1, .int .i64 y2] 23) = W3 at *
      refine (HXU.out W3).mono ?_
      rintro _ w4 ⟨rfl, hb4⟩
      have HN4 := Lib.hid ((HN3.out.next hb4).add #[.int .i64 u1, .int .i64 u2])
      clear HN3 hb4 c0 c1 c4 c5 HXU HG2
      obtain ⟨g3, hg3⟩ : ∃ g, g = w4.heap.size := ⟨_, rfl⟩
      have HG3 := Lib.hid hg3
      rw [← hg3] at HN4
      clear hg3
      obtain ⟨c0, c1⟩ := HN4.out.cell w.heap.size (.int .i64 a) (.int .i64 b) (by simp)
      obtain ⟨c4, c5⟩ := HN4.out.cell g2 (.int .i64 y1) (.int .i64 y2) (by simp)
      go_wp2_with fail
      rw [← HG3.out]
      generalize w4.alloc (.cells #[.int .i64 u1, .int .i64 u2] 23) = W4 at *
      refine (HYU.out W4).mono ?_
      rintro _ w5 ⟨rfl, hb5⟩
      have HN5 := Lib.hid ((HN4.out.next hb5).add #[.int .i64 u1, .int .i64 u2])
      clear HN4 hb5 c0 c1 c4 c5 HYU HG3
      obtain ⟨g4, hg4⟩ : ∃ g, g = w5.heap.size := ⟨_, rfl⟩
      have HG4 := Lib.hid hg4
      rw [← hg4] at HN5
      clear hg4
      obtain ⟨c0, c1⟩ := HN5.out.cell g3 (.int .i64 u1) (.int .i64 u2) (by simp)
      obtain ⟨c4, c5⟩ := HN5.out.cell g4 (.int .i64 u1) (.int .i64 u2) (by simp)
      go_wp2
      go_ret
      exact ⟨rfl, HN5.out.1⟩
    · subst hxe
      have hv := HZ3.out rfl
      rw [hv] at HVX
      have y1' : (ye != 0) = true := by simpa using hye
      have y2' : (ye == 0) = false := by simpa using hye
      clear HZ3 HZ4 HT HVY HXU HYU hye hv
      obtain ⟨c0, c1⟩ := HN3.out.cell g1 (.int .i64 x1) (.int .i64 x2) (by simp)
      go_wp2_with fail
      rw [← HG2.out]
      generalize w3.alloc (.cells #[.int .i64 y1, .int .i64 y2] 23) = W3 at *
      refine (HVX.out W3).mono ?_
      rintro _ w4 ⟨rfl, hb4⟩
      have HN4 := Lib.hid (HN3.out.next hb4)
      clear HN3 hb4 c0 c1 HVX HG2
      go_wp2
      go_ret
      exact ⟨rfl, HN4.out.1⟩
  · have x1' : (xe != 0) = true := by simpa using hxe
    have x2' : (xe == 0) = false := by simpa using hxe
    by_cases hye : ye = 0
    · subst hye
      have hv := HZ4.out rfl
      rw [hv] at HVY
      clear HZ3 HZ4 HT HVX HXU HYU hxe hv
      obtain ⟨c0, c1⟩ := HN3.out.cell g2 (.int .i64 y1) (.int .i64 y2) (by simp)
      go_wp2_with fail
      rw [← HG2.out]
      generalize w3.alloc (.cells #[.int .i64 y1, .int .i64 y2] 23) = W3 at *
      refine (HVY.out W3).mono ?_
      rintro _ w4 ⟨rfl, hb4⟩
      have HN4 := Lib.hid (HN3.out.next hb4)
      clear HN3 hb4 c0 c1 HVY HG2
      go_wp2
      go_ret
      exact ⟨rfl, HN4.out.1⟩
    · have y1' : (ye != 0) = true := by simpa using hye
      have y2' : (ye == 0) = false := by simpa using hye
      clear HZ3 HZ4 HT HVX HVY HXU HYU hxe hye
      go_wp2
      go_ret
      exact ⟨rfl, HN3.out.1⟩
end Sp
end Go.Proofs.Ytddjbkadhihohaa
