/- span: Both, Cut. -/
import Derived.Test.YtddjbkadhihohaaSpW4
import Derived.Lib.QuietBelow
namespace Go.Proofs.Ytddjbkadhihohaa
open Go.RowKit
namespace Sp

theorem max_f (a b : Int) (ha : a.natAbs < 2 ^ 50) (hb : b.natAbs < 2 ^ 50) (ts : Array TypeId) (t : TypeId) (W : World) :
    (Builtin.max_ ts t #[.float .f64 (fl a), .float .f64 (fl b)]).run Try.prog W = .ok (.float .f64 (fl (max a b))) W := by
  have h := order_f (2 * a) (2 * b) (by omega) (by omega)
  unfold fl
  by_cases h1 : a < b
  · have e : compare (2 * a) (2 * b) = .lt := by show compareOfLessAndEq _ _ = _; unfold compareOfLessAndEq; rw [if_pos (by omega)]
    rw [e] at h
    rw [show max a b = b by omega]
    simp [Builtin.max_, Builtin.max2, h]
  · by_cases h2 : a = b
    · subst h2
      have e : compare (2 * a) (2 * a) = .eq := by show compareOfLessAndEq _ _ = _; unfold compareOfLessAndEq; rw [if_neg (by omega), if_pos rfl]
      rw [e] at h
      rw [show max a a = a by omega]
      simp [Builtin.max_, Builtin.max2, h]
    · have e : compare (2 * a) (2 * b) = .gt := by show compareOfLessAndEq _ _ = _; unfold compareOfLessAndEq; rw [if_neg (by omega), if_neg (by omega)]
      rw [e] at h
      rw [show max a b = a by omega]
      simp [Builtin.max_, Builtin.max2, h]
theorem min_f (a b : Int) (ha : a.natAbs < 2 ^ 50) (hb : b.natAbs < 2 ^ 50) (ts : Array TypeId) (t : TypeId) (W : World) :
    (Builtin.min_ ts t #[.float .f64 (fl a), .float .f64 (fl b)]).run Try.prog W = .ok (.float .f64 (fl (min a b))) W := by
  have h := order_f (2 * a) (2 * b) (by omega) (by omega)
  unfold fl
  by_cases h1 : a < b
  · have e : compare (2 * a) (2 * b) = .lt := by show compareOfLessAndEq _ _ = _; unfold compareOfLessAndEq; rw [if_pos (by omega)]
    rw [e] at h
    rw [show min a b = a by omega]
    simp [Builtin.min_, Builtin.min2, h]
  · by_cases h2 : a = b
    · subst h2
      have e : compare (2 * a) (2 * a) = .eq := by show compareOfLessAndEq _ _ = _; unfold compareOfLessAndEq; rw [if_neg (by omega), if_pos rfl]
      rw [e] at h
      rw [show min a a = a by omega]
      simp [Builtin.min_, Builtin.min2, h]
    · have e : compare (2 * a) (2 * b) = .gt := by show compareOfLessAndEq _ _ = _; unfold compareOfLessAndEq; rw [if_neg (by omega), if_neg (by omega)]
      rw [e] at h
      rw [show min a b = b by omega]
      simp [Builtin.min_, Builtin.min2, h]

/-- What is in both. -/
def bth (a b c d : Int) : (Int × Int) × Int := if vld a b && vld c d then lft (max a c) (min b d) else ((0, 0), 1)

/-- Blocks that were made at z, one behind the other, are as they were. -/
def Kn (z : Nat) (w : World) (l : List (Array Value)) (W : World) : Prop := Below z w W ∧ z ≤ W.heap.size ∧ ∀ i cs, l[i]? = some cs → W.heap[z + i]? = some (.cells cs 23 (0, 0))
theorem Kn.next {z : Nat} {w W W' : World} {l : List (Array Value)} (h : Kn z w l W) (hb : Below W.heap.size W W') : Kn z w l W' :=
  ⟨h.1.trans (hb.mono h.2.1), Nat.le_trans h.2.1 hb.size, fun i cs hi => (hb.block _ (Array.getElem?_eq_some_iff.1 (h.2.2 i cs hi)).1).trans (h.2.2 i cs hi)⟩
theorem Kn.zero (w : World) (z : Nat) (hz : z = w.heap.size) : Kn z w [] w := ⟨hz ▸ Below.refl _ _, by omega, fun i cs hi => by simp at hi⟩
theorem Kn.alloc {z : Nat} {w W : World} {l : List (Array Value)} (h : Kn z w l W) (hl : W.heap.size = z + l.length) (cs : Array Value) : Kn z w (l ++ [cs]) (W.alloc (.cells cs 23)) := by
  refine ⟨h.1.alloc h.2.1 _, by simp; omega, fun i c hi => ?_⟩
  by_cases hlt : i < l.length
  · rw [List.getElem?_append_left hlt] at hi
    rw [heap_alloc_old' _ _ (by omega)]
    exact h.2.2 i c hi
  · rw [List.getElem?_append_right (by omega)] at hi
    have he : i - l.length = 0 := by
      cases hk : i - l.length with
      | zero => rfl
      | succ n => rw [hk] at hi; simp at hi
    rw [he] at hi
    simp at hi
    subst hi
    have := World.alloc_heap_new W (.cells cs 23)
    rw [show W.heap.size = z + i by omega] at this
    exact this
theorem new1 (w : World) (z : Nat) (hz : z = w.heap.size) (c0 : Array Value) : Kn z w [c0] (w.alloc (.cells c0 23)) := (Kn.zero w z hz).alloc (by simp [hz]) c0
theorem new2s (w : World) (z : Nat) (hz : z = w.heap.size) (c0 c1 : Array Value) : Kn z w [c0, c1] ((w.alloc (.cells c0 23)).alloc (.cells c1 23)) := (new1 w z hz c0).alloc (by simp [hz]) c1
theorem new3 (w : World) (z : Nat) (hz : z = w.heap.size) (c0 c1 c2 : Array Value) : Kn z w [c0, c1, c2] (((w.alloc (.cells c0 23)).alloc (.cells c1 23)).alloc (.cells c2 23)) := (new2s w z hz c0 c1).alloc (by simp [hz]) c2
theorem Kn.at0 {z : Nat} {w W : World} {c0 : Array Value} {l : List (Array Value)} (h : Kn z w (c0 :: l) W) : W.heap[z]? = some (.cells c0 23 (0, 0)) := h.2.2 0 _ rfl
theorem Kn.at1 {z : Nat} {w W : World} {c0 c1 : Array Value} {l : List (Array Value)} (h : Kn z w (c0 :: c1 :: l) W) : W.heap[z + 1]? = some (.cells c1 23 (0, 0)) := h.2.2 1 _ rfl
theorem Kn.at2 {z : Nat} {w W : World} {c0 c1 c2 : Array Value} {l : List (Array Value)} (h : Kn z w (c0 :: c1 :: c2 :: l) W) : W.heap[z + 2]? = some (.cells c2 23 (0, 0)) := h.2.2 2 _ rfl

set_option maxHeartbeats 2000000 in
set_option maxRecDepth 100000 in
theorem Both_any (a b c d : Int) (w : World) :
    Calls Try.prog 12 #[sv a b, sv c d] w fun e w' => e = .returned (tv (bth a b c d)) ∧ Below w.heap.size w w' := by
  obtain ⟨z, hz⟩ : ∃ z, z = w.heap.size := ⟨_, rfl⟩
  have HN := Lib.hid (new3 w z hz #[.int .i64 a, .int .i64 b] #[.int .i64 c, .int .i64 d] #[.int .i64 0, .int .i64 0])
  have HZ := Lib.hid hz
  rw [← hz]
  clear hz
  have HV1 := Lib.hid (Valid_any a b)
  have HV2 := Lib.hid (Valid_any c d)
  have HP1 := Lib.hid (Point_any a b)
  have HP2 := Lib.hid (Point_any c d)
  unfold sv at *
  go_enter Try.func12, Try.ntmps12
  go_wp2_with fail
  rw [← HZ.out]
  generalize ((w.alloc (.cells #[.int .i64 a, .int .i64 b] 23)).alloc (.cells #[.int .i64 c, .int .i64 d] 23)).alloc (.cells #[.int .i64 0, .int .i64 0] 23) = W at *
  refine (HV1.out _).mono ?_
  rintro _ w1 ⟨rfl, hb1⟩
  have HN1 := Lib.hid (HN.out.next hb1)
  clear HN hb1 HV1
  obtain ⟨c2, c3⟩ := cell2 HN1.out.at1
  by_cases hv1 : vld a b = true
  · have HV1 := Lib.hid hv1
    rw [hv1]
    clear hv1
    go_wp2_with fail
    refine (HV2.out _).mono ?_
    rintro _ w2 ⟨rfl, hb2⟩
    have HN2 := Lib.hid (HN1.out.next hb2)
    clear HN1 hb2 HV2 c2 c3
    by_cases hv2 : vld c d = true
    · obtain ⟨x1, x2, x3⟩ := vld_bounds HV1.out
      obtain ⟨y1, y2, y3⟩ := vld_bounds hv2
      have HE : Hid (bth a b c d = lft (max a c) (min b d)) := by rw [Hid, bth, HV1.out, hv2]; rfl
      have HE1 : Hid (pt a b = cx a b) := by rw [Hid, pt, if_pos HV1.out]
      have HE2 : Hid (pt c d = cx c d) := by rw [Hid, pt, if_pos hv2]
      have HM := Lib.hid (max_f a c (by omega) (by omega))
      have HI := Lib.hid (min_f b d (by omega) (by omega))
      have HL := Lib.hid (fun W => left_any (max a c) (min b d) W (by omega) (by omega) (by omega) (by omega))
      rw [hv2]
      clear hv2 x1 x2 x3 y1 y2 y3 HV1
      obtain ⟨c0, c1⟩ := cell2 HN2.out.at0
      obtain ⟨c2, c3⟩ := cell2 HN2.out.at1
      go_wp2
      have j0 := cell_regrown c0
      have j1 := cell_regrown c1
      have j2 := cell_regrown c2
      have j3 := cell_regrown c3
      have k1 : ∀ d1 os, Calls Try.prog 9 #[.agg #[.int .i64 a, .int .i64 b]] (Go.Sort.grow (redrawn w2 d1) os) fun e w'' => e = .returned (.complex .f64 (fl a) (fl b)) ∧ ∃ p : Regrown, w'' = Go.Sort.grow (redrawn w2 p.d) p.os := fun d1 os => by
        have h := Calls.regrown_of (HP1.out (Go.Sort.grow (redrawn w2 d1) os))
        rw [HE1.out] at h
        exact h
      have k2 : ∀ d1 os, Calls Try.prog 9 #[.agg #[.int .i64 c, .int .i64 d]] (Go.Sort.grow (redrawn w2 d1) os) fun e w'' => e = .returned (.complex .f64 (fl c) (fl d)) ∧ ∃ p : Regrown, w'' = Go.Sort.grow (redrawn w2 p.d) p.os := fun d1 os => by
        have h := Calls.regrown_of (HP2.out (Go.Sort.grow (redrawn w2 d1) os))
        rw [HE2.out] at h
        exact h
      refine wp_region_quiet_below (by kernel_rfl) (by kernel_rfl) ?_
      repeat (quiet_step (first | with_reducible exact k1 _ _ | with_reducible exact k2 _ _))
      refine wpQuiet_nil ?_
      intro _ hw'
      obtain ⟨⟨dq, osq⟩, hw''⟩ := hw'
      subst hw''
      have HN4 := Lib.hid (HN2.out.next (below_regrown w2 dq osq))
      clear HN2 c0 c1 c2 c3 j0 j1 j2 j3 k1 k2 HP1 HP2 HE1 HE2
      generalize Go.Sort.grow (redrawn w2 dq) osq = w4 at *
      clear dq osq
      unfold cx at HL
      obtain ⟨c4, c5⟩ := cell2 HN4.out.at2
      go_wp2_with (first | simp only [HM.out] | simp only [HI.out])
      refine (HL.out _).mono ?_
      rintro _ w5 ⟨rfl, hb5⟩
      have HN5 := Lib.hid (HN4.out.next hb5)
      clear HN4 hb5 c4 c5 HL HM HI
      have HR := HE.out
      generalize lft (max a c) (min b d) = r at *
      obtain ⟨⟨x, y⟩, e⟩ := r
      have HR := Lib.hid HR
      clear HE
      obtain ⟨d0, d1⟩ := cell2 HN5.out.at2
      have f0 := fun j => frozen_of_row _ _ j _ _ HN5.out.at2
      have HS0 := Lib.hid (set2_self (v0 := .int .i64 x) (v1 := .int .i64 y) HN5.out.at2)
      have HW3 := Lib.hid (set2_below (v0 := .int .i64 x) (v1 := .int .i64 y) HN5.out.1 (by omega : z ≤ z + 2))
      unfold tv sv
      go_wp2
      obtain ⟨d0, d1⟩ := cell2 HS0.out
      exact bodyPost_ret (v := tv ((x, y), e)) (by simp [results, Try.results12, go_sem, d0, d1, sv, tv]) rfl ⟨by rw [HR.out], HW3.out⟩
    · have hv2' : vld c d = false := by simpa using hv2
      have HE : Hid (bth a b c d = ((0, 0), 1)) := by rw [Hid, bth, HV1.out, hv2']; rfl
      rw [hv2']
      obtain ⟨d0, d1⟩ := cell2 HN2.out.at2
      have f0 := fun j => frozen_of_row _ _ j _ _ HN2.out.at2
      have HS0 := Lib.hid (set2_self (v0 := .int .i64 0) (v1 := .int .i64 0) HN2.out.at2)
      have HW3 := Lib.hid (set2_below (v0 := .int .i64 0) (v1 := .int .i64 0) HN2.out.1 (by omega : z ≤ z + 2))
      clear hv2 hv2'
      go_wp2
      obtain ⟨d0, d1⟩ := cell2 HS0.out
      exact bodyPost_ret (v := tv ((0, 0), 1)) (by simp [results, Try.results12, go_sem, d0, d1, sv, tv]) rfl ⟨by rw [HE.out], HW3.out⟩
  · have hv1' : vld a b = false := by simpa using hv1
    have HE : Hid (bth a b c d = ((0, 0), 1)) := by rw [Hid, bth, hv1']; rfl
    rw [hv1']
    obtain ⟨d0, d1⟩ := cell2 HN1.out.at2
    have f0 := fun j => frozen_of_row _ _ j _ _ HN1.out.at2
    have HS0 := Lib.hid (set2_self (v0 := .int .i64 0) (v1 := .int .i64 0) HN1.out.at2)
    have HW3 := Lib.hid (set2_below (v0 := .int .i64 0) (v1 := .int .i64 0) HN1.out.1 (by omega : z ≤ z + 2))
    clear hv1 hv1'
    go_wp2
    obtain ⟨d0, d1⟩ := cell2 HS0.out
    exact bodyPost_ret (v := tv ((0, 0), 1)) (by simp [results, Try.results12, go_sem, d0, d1, sv, tv]) rfl ⟨by rw [HE.out], HW3.out⟩
end Sp
end Go.Proofs.Ytddjbkadhihohaa
