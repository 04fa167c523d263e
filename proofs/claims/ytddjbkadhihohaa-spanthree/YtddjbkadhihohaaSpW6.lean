/- span: Cut, Check. -/
import Derived.Test.YtddjbkadhihohaaSpW5
namespace Go.Proofs.Ytddjbkadhihohaa
open Go.RowKit
namespace Sp

/-- Cut. -/
def ctt (a b n : Int) : (Int × Int) × Int := if vld a b && ok n then lft a (min b (a + n)) else ((0, 0), 1)
theorem ok_bounds {n : Int} (h : ok n = true) : 0 ≤ n ∧ n ≤ 1099511627776 := by simpa [ok] using h
theorem row1 (w : World) (n : Int) (t : TypeId) : Row (w.alloc (.cells #[.int .i64 n] t)) w.heap.size [n] := ⟨t, World.alloc_heap_new w _⟩
theorem row3 (w : World) (a b c : Int) (t : TypeId) : Row (w.alloc (.cells #[.int .i64 a, .int .i64 b, .int .i64 c] t)) w.heap.size [a, b, c] := ⟨t, World.alloc_heap_new w _⟩
theorem add_f (a n : Int) (ha : a.natAbs < 2 ^ 50) (hn : n.natAbs < 2 ^ 50) (t : TypeId) (W : World) :
    (binOp .add t (.float .f64 (fl a)) (.float .f64 (floatOfInt .f64 n))).run Try.prog W = .ok (.float .f64 (fl (a + n))) W := by
  refine run_float_arith W .add t .f64 _ _ _ ?_
  rw [of_int n (by omega)]
  have := add_hf (2 * a) (2 * n) (by omega) (by omega) (by omega)
  rw [show 2 * a + 2 * n = 2 * (a + n) by omega] at this
  exact this

set_option maxHeartbeats 2000000 in
set_option maxRecDepth 100000 in
theorem Cut_any (a b n : Int) (w : World) :
    Calls Try.prog 14 #[sv a b, .int .i64 n] w fun e w' => e = .returned (tv (ctt a b n)) ∧ Below w.heap.size w w' := by
  obtain ⟨z, hz⟩ : ∃ z, z = w.heap.size := ⟨_, rfl⟩
  have HN := Lib.hid (new2s w z hz #[.int .i64 a, .int .i64 b] #[.int .i64 0, .int .i64 0])
  have HZ := Lib.hid hz
  rw [← hz]
  clear hz
  have HV1 := Lib.hid (Valid_any a b)
  have HP1 := Lib.hid (Point_any a b)
  unfold sv at *
  go_enter Try.func14, Try.ntmps14
  go_wp2_with fail
  rw [← HZ.out]
  generalize (w.alloc (.cells #[.int .i64 a, .int .i64 b] 23)).alloc (.cells #[.int .i64 0, .int .i64 0] 23) = W at *
  refine (HV1.out _).mono ?_
  rintro _ w1 ⟨rfl, hb1⟩
  have HN1 := Lib.hid (HN.out.next hb1)
  clear HN hb1 HV1
  by_cases hv1 : vld a b = true
  · have HV1 := Lib.hid hv1
    rw [hv1]
    clear hv1
    have HT := Lib.hid (times_any [n] w1.heap.size _ (row1 w1 n 3) (by simp))
    go_wp2_with fail
    refine HT.out.mono ?_
    rintro _ w2 ⟨rfl, hb2⟩
    have HN2 := Lib.hid ((HN1.out.next ((Below.refl _ _).alloc (Nat.le_refl _) _)).next hb2)
    have hal : [n].all ok = ok n := by simp
    rw [hal]
    clear HN1 hb2 HT hal
    by_cases hv2 : ok n = true
    · obtain ⟨x1, x2, x3⟩ := vld_bounds HV1.out
      obtain ⟨y1, y2⟩ := ok_bounds hv2
      have HE : Hid (ctt a b n = lft a (min b (a + n))) := by rw [Hid, ctt, HV1.out, hv2]; rfl
      have HE1 : Hid (pt a b = cx a b) := by rw [Hid, pt, if_pos HV1.out]
      have HA := Lib.hid (add_f a n (by omega) (by omega))
      have HI := Lib.hid (min_f b (a + n) (by omega) (by omega))
      have HL := Lib.hid (fun W => left_any a (min b (a + n)) W (by omega) (by omega) (by omega) (by omega))
      rw [hv2]
      clear hv2 x1 x2 x3 y1 y2 HV1
      obtain ⟨c0, c1⟩ := cell2 HN2.out.at0
      go_wp2_with fail
      refine (HP1.out _).mono ?_
      rintro _ w3 ⟨rfl, hb3⟩
      rw [HE1.out]
      have HN3 := Lib.hid (HN2.out.next hb3)
      clear HN2 hb3 c0 c1 HP1 HE1
      unfold cx at *
      go_wp2_with (first | simp only [HA.out] | simp only [HI.out])
      refine (HL.out _).mono ?_
      rintro _ w5 ⟨rfl, hb5⟩
      have HN5 := Lib.hid (HN3.out.next hb5)
      clear HN3 hb5 HL HI HA
      have HR := HE.out
      generalize lft a (min b (a + n)) = r at *
      obtain ⟨⟨x, y⟩, e⟩ := r
      have HR := Lib.hid HR
      clear HE
      obtain ⟨d0, d1⟩ := cell2 HN5.out.at1
      have f0 := fun j => frozen_of_row _ _ j _ _ HN5.out.at1
      have HS0 := Lib.hid (set2_self (v0 := .int .i64 x) (v1 := .int .i64 y) HN5.out.at1)
      have HW3 := Lib.hid (set2_below (v0 := .int .i64 x) (v1 := .int .i64 y) HN5.out.1 (by omega : z ≤ z + 1))
      unfold tv sv
      go_wp2
      obtain ⟨d0, d1⟩ := cell2 HS0.out
      exact bodyPost_ret (v := tv ((x, y), e)) (by simp [results, Try.results14, go_sem, d0, d1, sv, tv]) rfl ⟨by rw [HR.out], HW3.out⟩
    · have hv2' : ok n = false := by simpa using hv2
      have HE : Hid (ctt a b n = ((0, 0), 1)) := by rw [Hid, ctt, HV1.out, hv2']; rfl
      rw [hv2']
      obtain ⟨d0, d1⟩ := cell2 HN2.out.at1
      have f0 := fun j => frozen_of_row _ _ j _ _ HN2.out.at1
      have HS0 := Lib.hid (set2_self (v0 := .int .i64 0) (v1 := .int .i64 0) HN2.out.at1)
      have HW3 := Lib.hid (set2_below (v0 := .int .i64 0) (v1 := .int .i64 0) HN2.out.1 (by omega : z ≤ z + 1))
      clear hv2 hv2'
      go_wp2
      obtain ⟨d0, d1⟩ := cell2 HS0.out
      exact bodyPost_ret (v := tv ((0, 0), 1)) (by simp [results, Try.results14, go_sem, d0, d1, sv, tv]) rfl ⟨by rw [HE.out], HW3.out⟩
  · have hv1' : vld a b = false := by simpa using hv1
    have HE : Hid (ctt a b n = ((0, 0), 1)) := by rw [Hid, ctt, hv1']; rfl
    rw [hv1']
    obtain ⟨d0, d1⟩ := cell2 HN1.out.at1
    have f0 := fun j => frozen_of_row _ _ j _ _ HN1.out.at1
    have HS0 := Lib.hid (set2_self (v0 := .int .i64 0) (v1 := .int .i64 0) HN1.out.at1)
    have HW3 := Lib.hid (set2_below (v0 := .int .i64 0) (v1 := .int .i64 0) HN1.out.1 (by omega : z ≤ z + 1))
    clear hv1 hv1'
    go_wp2
    obtain ⟨d0, d1⟩ := cell2 HS0.out
    exact bodyPost_ret (v := tv ((0, 0), 1)) (by simp [results, Try.results14, go_sem, d0, d1, sv, tv]) rfl ⟨by rw [HE.out], HW3.out⟩
end Sp
end Go.Proofs.Ytddjbkadhihohaa
