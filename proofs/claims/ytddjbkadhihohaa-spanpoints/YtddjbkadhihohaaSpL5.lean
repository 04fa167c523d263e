/- The law SpanPoints, walked. -/
import Derived.Test.YtddjbkadhihohaaSpL4
namespace Go.Proofs.Ytddjbkadhihohaa
open Go.RowKit
namespace Sp

theorem order_zero : (FloatKind.f64.format.order 0 0 == some Ordering.eq) = true := by decide
theorem add_one (b : Int) (h0 : 0 ≤ b) (h : b ≤ 1099511627776) (t : TypeId) (W : World) :
    (binOp .add t (.float .f64 (floatOfInt .f64 b)) (.float .f64 4607182418800017408)).run Try.prog W = .ok (.float .f64 (fl (b + 1))) W := by
  refine run_float_arith W .add t .f64 _ _ _ ?_
  rw [of_int b (by omega), ← one_word]
  have := add_hf (2 * b) 2 (by omega) (by omega) (by omega)
  rw [show 2 * b + 2 = 2 * (b + 1) by omega] at this
  exact this
theorem add_half (a : Int) (h0 : 0 ≤ a) (h : a ≤ 1099511627776) (t : TypeId) (W : World) :
    (binOp .add t (.float .f64 (floatOfInt .f64 a)) (.float .f64 4602678819172646912)).run Try.prog W = .ok (.float .f64 (hf (2 * a + 1))) W := by
  refine run_float_arith W .add t .f64 _ _ _ ?_
  rw [of_int a (by omega), ← half_word]
  exact add_hf (2 * a) 1 (by omega) (by omega) (by omega)
theorem Of_back (a b : Int) (hv : vld a b = true) (w : World) :
    Calls Try.prog 11 #[.complex .f64 (fl (b + 1)) (floatOfInt .f64 a)] w fun e w' => e = .returned (sv 0 0) ∧ Below w.heap.size w w' := by
  obtain ⟨h1, h2, h3⟩ := vld_bounds hv
  have h := Of_cx (b + 1) a w (by omega) (by omega) (by omega) (by omega)
  have hn : vld (b + 1) a = false := by
    rw [Bool.eq_false_iff]; intro h; have := vld_bounds h; omega
  rw [hn] at h
  rw [of_int a (by omega)]
  exact h
theorem Of_half (a b : Int) (hv : vld a b = true) (w : World) :
    Calls Try.prog 11 #[.complex .f64 (hf (2 * a + 1)) (floatOfInt .f64 b)] w fun e w' => e = .returned (sv 0 0) ∧ Below w.heap.size w w' := by
  obtain ⟨h1, h2, h3⟩ := vld_bounds hv
  have h := Of_any (2 * a + 1) (2 * b) w (by omega) (by omega) (by omega) (by omega)
  have hn : wh (2 * a + 1) (2 * b) = false := by
    have : decide (2 * ((2 * a + 1) / 2) = 2 * a + 1) = false := by rw [decide_eq_false_iff_not]; omega
    simp [wh, this]
  rw [hn] at h
  rw [of_int b (by omega)]
  exact h

set_option maxHeartbeats 8000000 in
set_option maxRecDepth 100000 in
theorem spanPoints_walk (a b c d : Int) (w : World) :
    Calls Try.prog 3 #[sv a b, sv c d] w fun r w' => r = .returned (.bool true) ∧ Below w.heap.size w w' := by
  have HN := Lib.hid (kb2 w #[.int .i64 a, .int .i64 b] #[.int .i64 c, .int .i64 d])
  have HX := Lib.hid (Point_any a b)
  have HY := Lib.hid (Point_any c d)
  have HV1 := Lib.hid (Valid_any a b)
  have HV2 := Lib.hid (Valid_any c d)
  by_cases hv : vld a b = true
  · obtain ⟨h1, h2, h3⟩ := vld_bounds hv
    have HO := Lib.hid (fun W => Of_cx a b W (by omega) (by omega) (by omega) (by omega))
    have HO1 := Lib.hid (Of_back a b hv)
    have HO2 := Lib.hid (Of_half a b hv)
    have HA1 := Lib.hid (add_one b (by omega) (by omega))
    have HA2 := Lib.hid (add_half a (by omega) (by omega))
    have hp : pt a b = cx a b := by rw [pt, if_pos hv]
    have n1 : (FloatKind.f64.format.order (fl a) (floatOfInt .f64 a) != some Ordering.eq) = false := by
      rw [of_int a (by omega), fl, order_f _ _ (by omega) (by omega), bne, cmp_eq]; simp
    have n2 : (FloatKind.f64.format.order (fl b) (floatOfInt .f64 b) != some Ordering.eq) = false := by
      rw [of_int b (by omega), fl, order_f _ _ (by omega) (by omega), bne, cmp_eq]; simp
    have hq : vld c d = true → pt c d = cx c d ∧ (FloatKind.f64.format.order (fl a) (fl c) == some Ordering.eq) = (a == c) ∧ (FloatKind.f64.format.order (fl b) (fl d) == some Ordering.eq) = (b == d) := by
      intro hv2
      obtain ⟨g1, g2, g3⟩ := vld_bounds hv2
      refine ⟨by rw [pt, if_pos hv2], ?_, ?_⟩
      · rw [fl, fl, order_f _ _ (by omega) (by omega), cmp_eq, Bool.eq_iff_iff, decide_eq_true_iff, beq_iff_eq]; omega
      · rw [fl, fl, order_f _ _ (by omega) (by omega), cmp_eq, Bool.eq_iff_iff, decide_eq_true_iff, beq_iff_eq]; omega
    have HQ := Lib.hid hq
    have N1 := Lib.hid n1
    have N2 := Lib.hid n2
    rw [hp] at HX
    rw [hv] at HV1
    simp only [hv, if_true] at HO
    clear hv h1 h2 h3 hp n1 n2 hq
    generalize vld c d = v2 at *
    unfold cx sv at *
    obtain ⟨pr, pi, hpt⟩ : ∃ pr pi, pt c d = .complex .f64 pr pi := by
      unfold pt cx
      split <;> exact ⟨_, _, rfl⟩
    rw [hpt] at HY HQ
    clear hpt
    go_enter Try.func3, Try.ntmps3
    go_wp2_with fail
    generalize (w.alloc (.cells #[.int .i64 a, .int .i64 b] 23)).alloc (.cells #[.int .i64 c, .int .i64 d] 23) = W at *
    refine (works_any W).mono ?_
    rintro _ w1 ⟨rfl, hb1⟩
    have HN1 := Lib.hid (HN.out.next hb1)
    clear HN hb1
    obtain ⟨c0, c1⟩ := HN1.out.cell w.heap.size (.int .i64 a) (.int .i64 b) (by simp)
    go_wp2_with fail
    refine (HX.out _).mono ?_
    rintro _ w2 ⟨rfl, hb2⟩
    have HN2 := Lib.hid (HN1.out.next hb2)
    clear HN1 hb2 c0 c1 HX
    obtain ⟨c2, c3⟩ := HN2.out.cell (w.heap.size + 1) (.int .i64 c) (.int .i64 d) (by simp)
    go_wp2_with fail
    refine (HY.out _).mono ?_
    rintro _ w3 ⟨rfl, hb3⟩
    have HN3 := Lib.hid (HN2.out.next hb3)
    clear HN2 hb3 c2 c3 HY
    obtain ⟨c0, c1⟩ := HN3.out.cell w.heap.size (.int .i64 a) (.int .i64 b) (by simp)
    go_wp2_with fail
    refine (HV1.out _).mono ?_
    rintro _ w4 ⟨rfl, hb4⟩
    have HN4 := Lib.hid (HN3.out.next hb4)
    clear HN3 hb4 c0 c1 HV1
    obtain ⟨c0, c1⟩ := HN4.out.cell w.heap.size (.int .i64 a) (.int .i64 b) (by simp)
    have n1 := N1.out
    have n2 := N2.out
    go_wp2_with fail
    have j0 := cell_regrown c0
    have j1 := cell_regrown c1
    have kO := fun d1 os => Calls.regrown_of (HO.out (Go.Sort.grow (redrawn w4 d1) os))
    clear c0 c1 HO
    refine wp_region_quiet_below (by kernel_rfl) (by kernel_rfl) ?_
    repeat (quiet_step (with_reducible exact kO _ _))
    refine wpQuiet_nil ?_
    intro _ hw'
    obtain ⟨⟨dq, osq⟩, hw''⟩ := hw'
    subst hw''
    have HN5 := Lib.hid (HN4.out.next (below_regrown w4 dq osq))
    clear HN4 j0 j1 kO n1 n2 N1 N2
    generalize Go.Sort.grow (redrawn w4 dq) osq = w5 at *
    clear dq osq
    obtain ⟨c2, c3⟩ := HN5.out.cell (w.heap.size + 1) (.int .i64 c) (.int .i64 d) (by simp)
    go_wp2_with fail
    refine (HV2.out _).mono ?_
    rintro _ w6 ⟨rfl, hb6⟩
    have HN6 := Lib.hid (HN5.out.next hb6)
    clear HN5 hb6 c2 c3 HV2
    cases v2
    · clear HQ
      obtain ⟨c0, c1⟩ := HN6.out.cell w.heap.size (.int .i64 a) (.int .i64 b) (by simp)
      go_wp2_with (simp only [HA1.out])
      refine (HO1.out _).mono ?_
      rintro _ w7 ⟨rfl, hb7⟩
      have HN7 := Lib.hid (HN6.out.next hb7)
      clear hb7 c0 c1 HO1
      obtain ⟨c0, c1⟩ := HN7.out.cell w.heap.size (.int .i64 a) (.int .i64 b) (by simp)
      go_wp2_with (simp only [HA2.out])
      refine (HO2.out _).mono ?_
      rintro _ w8 ⟨rfl, hb8⟩
      have HN8 := Lib.hid (HN7.out.next hb8)
      clear hb8 c0 c1 HO2 HN7
      go_wp2
      go_ret
      exact ⟨rfl, HN8.out.1⟩
    · obtain ⟨hpr, e1, e2⟩ := HQ.out (by trivial)
      injection hpr with _ hpr hpi
      subst hpr
      subst hpi
      clear HQ
      obtain ⟨c0, c1⟩ := HN6.out.cell w.heap.size (.int .i64 a) (.int .i64 b) (by simp)
      obtain ⟨c2, c3⟩ := HN6.out.cell (w.heap.size + 1) (.int .i64 c) (.int .i64 d) (by simp)
      obtain ⟨t1, ht1⟩ : ∃ t, (a == c) = t := ⟨_, rfl⟩
      obtain ⟨t2, ht2⟩ : ∃ t, (b == d) = t := ⟨_, rfl⟩
      rw [ht1] at e1
      rw [ht2] at e2
      have HN6' := HN6
      cases t1 <;> cases t2
      · clear HN6'
        obtain ⟨c0, c1⟩ := HN6.out.cell w.heap.size (.int .i64 a) (.int .i64 b) (by simp)
        go_wp2_with (simp only [HA1.out])
        refine (HO1.out _).mono ?_
        rintro _ w7 ⟨rfl, hb7⟩
        have HN7 := Lib.hid (HN6.out.next hb7)
        clear hb7 c0 c1 HO1
        obtain ⟨c0, c1⟩ := HN7.out.cell w.heap.size (.int .i64 a) (.int .i64 b) (by simp)
        go_wp2_with (simp only [HA2.out])
        refine (HO2.out _).mono ?_
        rintro _ w8 ⟨rfl, hb8⟩
        have HN8 := Lib.hid (HN7.out.next hb8)
        clear hb8 c0 c1 HO2 HN7
        go_wp2
        go_ret
        exact ⟨rfl, HN8.out.1⟩
      · clear HN6'
        obtain ⟨c0, c1⟩ := HN6.out.cell w.heap.size (.int .i64 a) (.int .i64 b) (by simp)
        go_wp2_with (simp only [HA1.out])
        refine (HO1.out _).mono ?_
        rintro _ w7 ⟨rfl, hb7⟩
        have HN7 := Lib.hid (HN6.out.next hb7)
        clear hb7 c0 c1 HO1
        obtain ⟨c0, c1⟩ := HN7.out.cell w.heap.size (.int .i64 a) (.int .i64 b) (by simp)
        go_wp2_with (simp only [HA2.out])
        refine (HO2.out _).mono ?_
        rintro _ w8 ⟨rfl, hb8⟩
        have HN8 := Lib.hid (HN7.out.next hb8)
        clear hb8 c0 c1 HO2 HN7
        go_wp2
        go_ret
        exact ⟨rfl, HN8.out.1⟩
      · clear HN6'
        obtain ⟨c0, c1⟩ := HN6.out.cell w.heap.size (.int .i64 a) (.int .i64 b) (by simp)
        go_wp2_with (simp only [HA1.out])
        refine (HO1.out _).mono ?_
        rintro _ w7 ⟨rfl, hb7⟩
        have HN7 := Lib.hid (HN6.out.next hb7)
        clear hb7 c0 c1 HO1
        obtain ⟨c0, c1⟩ := HN7.out.cell w.heap.size (.int .i64 a) (.int .i64 b) (by simp)
        go_wp2_with (simp only [HA2.out])
        refine (HO2.out _).mono ?_
        rintro _ w8 ⟨rfl, hb8⟩
        have HN8 := Lib.hid (HN7.out.next hb8)
        clear hb8 c0 c1 HO2 HN7
        go_wp2
        go_ret
        exact ⟨rfl, HN8.out.1⟩
      · clear HN6'
        obtain ⟨c0, c1⟩ := HN6.out.cell w.heap.size (.int .i64 a) (.int .i64 b) (by simp)
        go_wp2_with (simp only [HA1.out])
        refine (HO1.out _).mono ?_
        rintro _ w7 ⟨rfl, hb7⟩
        have HN7 := Lib.hid (HN6.out.next hb7)
        clear hb7 c0 c1 HO1
        obtain ⟨c0, c1⟩ := HN7.out.cell w.heap.size (.int .i64 a) (.int .i64 b) (by simp)
        go_wp2_with (simp only [HA2.out])
        refine (HO2.out _).mono ?_
        rintro _ w8 ⟨rfl, hb8⟩
        have HN8 := Lib.hid (HN7.out.next hb8)
        clear hb8 c0 c1 HO2 HN7
        go_wp2
        go_ret
        exact ⟨rfl, HN8.out.1⟩
  · have hv' : vld a b = false := by simpa using hv
    have hp : pt a b = .complex .f64 0 0 := by rw [pt, if_neg hv]
    have hz := order_zero
    have HZ := Lib.hid hz
    rw [hp] at HX
    rw [hv'] at HV1
    clear hv hv' hp hz HV2
    unfold sv at *
    obtain ⟨pr, pi, hpt⟩ : ∃ pr pi, pt c d = .complex .f64 pr pi := by
      unfold pt cx
      split <;> exact ⟨_, _, rfl⟩
    rw [hpt] at HY
    clear hpt
    go_enter Try.func3, Try.ntmps3
    go_wp2_with fail
    generalize (w.alloc (.cells #[.int .i64 a, .int .i64 b] 23)).alloc (.cells #[.int .i64 c, .int .i64 d] 23) = W at *
    refine (works_any W).mono ?_
    rintro _ w1 ⟨rfl, hb1⟩
    have HN1 := Lib.hid (HN.out.next hb1)
    clear HN hb1
    obtain ⟨c0, c1⟩ := HN1.out.cell w.heap.size (.int .i64 a) (.int .i64 b) (by simp)
    go_wp2_with fail
    refine (HX.out _).mono ?_
    rintro _ w2 ⟨rfl, hb2⟩
    have HN2 := Lib.hid (HN1.out.next hb2)
    clear HN1 hb2 c0 c1 HX
    obtain ⟨c2, c3⟩ := HN2.out.cell (w.heap.size + 1) (.int .i64 c) (.int .i64 d) (by simp)
    go_wp2_with fail
    refine (HY.out _).mono ?_
    rintro _ w3 ⟨rfl, hb3⟩
    have HN3 := Lib.hid (HN2.out.next hb3)
    clear HN2 hb3 c2 c3 HY
    obtain ⟨c0, c1⟩ := HN3.out.cell w.heap.size (.int .i64 a) (.int .i64 b) (by simp)
    go_wp2_with fail
    refine (HV1.out _).mono ?_
    rintro _ w4 ⟨rfl, hb4⟩
    have HN4 := Lib.hid (HN3.out.next hb4)
    clear HN3 hb4 c0 c1 HV1
    have hz := HZ.out
    go_wp2
    go_ret
    exact ⟨rfl, HN4.out.1⟩
end Sp
end Go.Proofs.Ytddjbkadhihohaa
