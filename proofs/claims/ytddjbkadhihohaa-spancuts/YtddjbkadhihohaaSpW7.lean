/- span: Check, Near. -/
import Derived.Test.YtddjbkadhihohaaSpW6
namespace Go.Proofs.Ytddjbkadhihohaa
open Go.RowKit
namespace Sp

/-- Check. -/
def chk (a b t s : Int) : Int := if vld a b && (ok t && ok s) then (if t + s < a then 31 else if b ≤ t - s then 32 else 0) else 1
/-- Near. -/
def nr (a b s : Int) : Bool := (ok a && ok b && ok s) && (decide (b - s ≤ a) && decide (a ≤ b + s))

set_option maxHeartbeats 2000000 in
set_option maxRecDepth 100000 in
theorem Check_any (a b t s : Int) (w : World) :
    Calls Try.prog 13 #[sv a b, .int .i64 t, .int .i64 s] w fun e w' => e = .returned (.int .i64 (chk a b t s)) ∧ Below w.heap.size w w' := by
  obtain ⟨z, hz⟩ : ∃ z, z = w.heap.size := ⟨_, rfl⟩
  have HN := Lib.hid (new1 w z hz #[.int .i64 a, .int .i64 b])
  have HZ := Lib.hid hz
  rw [← hz]
  clear hz
  have HV1 := Lib.hid (Valid_any a b)
  have HP1 := Lib.hid (Point_any a b)
  unfold sv at *
  go_enter Try.func13, Try.ntmps13
  go_wp2_with fail
  rw [← HZ.out]
  generalize w.alloc (.cells #[.int .i64 a, .int .i64 b] 23) = W at *
  refine (HV1.out _).mono ?_
  rintro _ w1 ⟨rfl, hb1⟩
  have HN1 := Lib.hid (HN.out.next hb1)
  clear HN hb1 HV1
  by_cases hv1 : vld a b = true
  · have HV1 := Lib.hid hv1
    rw [hv1]
    clear hv1
    have HT := Lib.hid (times_any [t, s] w1.heap.size _ (new2 w1 t s 3) (by simp))
    go_wp2_with fail
    refine HT.out.mono ?_
    rintro _ w2 ⟨rfl, hb2⟩
    have HN2 := Lib.hid ((HN1.out.next ((Below.refl _ _).alloc (Nat.le_refl _) _)).next hb2)
    have hal : [t, s].all ok = (ok t && ok s) := by simp
    rw [hal]
    clear HN1 hb2 HT hal
    by_cases hv2 : (ok t && ok s) = true
    · obtain ⟨x1, x2, x3⟩ := vld_bounds HV1.out
      obtain ⟨y1, y2⟩ := ok_bounds (Bool.and_eq_true_iff.1 hv2).1
      obtain ⟨y3, y4⟩ := ok_bounds (Bool.and_eq_true_iff.1 hv2).2
      have HE : Hid (chk a b t s = if t + s < a then 31 else if b ≤ t - s then 32 else 0) := by rw [Hid, chk, HV1.out, hv2]; rfl
      have HE1 : Hid (pt a b = cx a b) := by rw [Hid, pt, if_pos HV1.out]
      have HR := Lib.hid (around_any t s)
      have h1 : (FloatKind.f64.format.order (fl (t + s)) (fl a) == some Ordering.lt) = decide (t + s < a) := by
        rw [fl, fl, order_f _ _ (by omega) (by omega), cmp_lt, decide_eq_decide]; omega
      have h2 : (FloatKind.f64.format.order (fl (t - s)) (fl b) == some Ordering.gt) = decide (b < t - s) := by
        rw [fl, fl, order_f _ _ (by omega) (by omega), cmp_gt, decide_eq_decide]; omega
      have h3 : (FloatKind.f64.format.order (fl (t - s)) (fl b) == some Ordering.eq) = decide (t - s = b) := by
        rw [fl, fl, order_f _ _ (by omega) (by omega), cmp_eq, decide_eq_decide]; omega
      have H1 := Lib.hid h1
      have H2 := Lib.hid h2
      have H3 := Lib.hid h3
      have HY := Lib.hid (show 0 ≤ t ∧ t ≤ 1099511627776 ∧ 0 ≤ s ∧ s ≤ 1099511627776 from ⟨y1, y2, y3, y4⟩)
      rw [hv2]
      clear hv2 x1 x2 x3 y1 y2 y3 y4 HV1 h1 h2 h3
      obtain ⟨c0, c1⟩ := cell2 HN2.out.at0
      go_wp2_with fail
      refine (HP1.out _).mono ?_
      rintro _ w3 ⟨rfl, hb3⟩
      rw [HE1.out]
      have HN4 := Lib.hid (HN2.out.next hb3)
      clear HN2 hb3 c0 c1 HP1 HE1
      go_wp2_with fail
      refine (HR.out w3 HY.out.1 HY.out.2.1 HY.out.2.2.1 HY.out.2.2.2).mono ?_
      rintro _ _ ⟨rfl, rfl⟩
      clear HR
      unfold cx
      by_cases g : t + s < a
      · have e1 := H1.out
        rw [decide_eq_true g] at e1
        have HE2 : Hid (chk a b t s = 31) := by rw [Hid, HE.out, if_pos g]
        clear g HE H1 H2 H3 HY
        go_wp2
        go_ret
        exact ⟨by rw [HE2.out]; rfl, HN4.out.1⟩
      · have e1 := H1.out
        rw [decide_eq_false g] at e1
        have e2 := H2.out
        have e3 := H3.out
        by_cases g2 : b ≤ t - s
        · have HE2 : Hid (chk a b t s = 32) := by rw [Hid, HE.out, if_neg g, if_pos g2]
          by_cases g3 : t - s = b
          · rw [decide_eq_true g3] at e3
            clear g g2 g3 HE H1 H2 H3 HY e2
            go_wp2
            go_ret
            exact ⟨by rw [HE2.out]; rfl, HN4.out.1⟩
          · rw [decide_eq_true (by omega)] at e2
            clear g g2 g3 HE H1 H2 H3 HY e3
            go_wp2
            go_ret
            exact ⟨by rw [HE2.out]; rfl, HN4.out.1⟩
        · have HE2 : Hid (chk a b t s = 0) := by rw [Hid, HE.out, if_neg g, if_neg g2]
          rw [decide_eq_false (by omega)] at e2
          rw [decide_eq_false (by omega)] at e3
          clear g g2 HE H1 H2 H3 HY
          go_wp2
          go_ret
          exact ⟨by rw [HE2.out]; rfl, HN4.out.1⟩
    · have hv2' : (ok t && ok s) = false := by simpa using hv2
      have HE : Hid (chk a b t s = 1) := by rw [Hid, chk, HV1.out, hv2']; rfl
      rw [hv2']
      clear hv2 hv2'
      go_wp2
      go_ret
      exact ⟨by rw [HE.out]; rfl, HN2.out.1⟩
  · have hv1' : vld a b = false := by simpa using hv1
    have HE : Hid (chk a b t s = 1) := by rw [Hid, chk, hv1']; rfl
    rw [hv1']
    clear hv1 hv1'
    go_wp2
    go_ret
    exact ⟨by rw [HE.out]; rfl, HN1.out.1⟩

set_option maxHeartbeats 2000000 in
set_option maxRecDepth 100000 in
theorem Near_any (a b s : Int) (w : World) :
    Calls Try.prog 15 #[.int .i64 a, .int .i64 b, .int .i64 s] w fun e w' => e = .returned (.bool (nr a b s)) ∧ Below w.heap.size w w' := by
  have HT := Lib.hid (times_any [a, b, s] w.heap.size _ (row3 w a b s 3) (by simp))
  go_enter Try.func15, Try.ntmps15
  go_wp2_with fail
  refine HT.out.mono ?_
  rintro _ w2 ⟨rfl, hb2⟩
  have HB2 : Hid (Below w.heap.size w w2) := ((Below.refl _ _).alloc (Nat.le_refl _) _).trans (hb2.mono (by simp))
  have hal : [a, b, s].all ok = (ok a && ok b && ok s) := by simp [Bool.and_assoc]
  rw [hal]
  clear hb2 HT hal
  by_cases hv : (ok a && ok b && ok s) = true
  · obtain ⟨y1, y2⟩ := ok_bounds (Bool.and_eq_true_iff.1 (Bool.and_eq_true_iff.1 hv).1).1
    obtain ⟨y3, y4⟩ := ok_bounds (Bool.and_eq_true_iff.1 (Bool.and_eq_true_iff.1 hv).1).2
    obtain ⟨y5, y6⟩ := ok_bounds (Bool.and_eq_true_iff.1 hv).2
    have HE : Hid (nr a b s = (decide (b - s ≤ a) && decide (a ≤ b + s))) := by rw [Hid, nr, hv]; rfl
    have HR := Lib.hid (around_any b s)
    have hf := of_int a (by omega)
    have h1 : (FloatKind.f64.format.order (fl (b - s)) (fl a) == some Ordering.lt) = decide (b - s < a) := by
      rw [fl, fl, order_f _ _ (by omega) (by omega), cmp_lt, decide_eq_decide]; omega
    have h2 : (FloatKind.f64.format.order (fl (b - s)) (fl a) == some Ordering.eq) = decide (b - s = a) := by
      rw [fl, fl, order_f _ _ (by omega) (by omega), cmp_eq, decide_eq_decide]; omega
    have h3 : (FloatKind.f64.format.order (fl a) (fl (b + s)) == some Ordering.lt) = decide (a < b + s) := by
      rw [fl, fl, order_f _ _ (by omega) (by omega), cmp_lt, decide_eq_decide]; omega
    have h4 : (FloatKind.f64.format.order (fl a) (fl (b + s)) == some Ordering.eq) = decide (a = b + s) := by
      rw [fl, fl, order_f _ _ (by omega) (by omega), cmp_eq, decide_eq_decide]; omega
    have hf2 : fl a = floatOfInt .f64 a := hf.symm
    rw [hf2] at h1 h2 h3 h4
    have q1 : (decide (b - s < a) || decide (b - s = a)) = decide (b - s ≤ a) := by
      rw [Bool.eq_iff_iff]; simp; omega
    have q2 : (decide (a < b + s) || decide (a = b + s)) = decide (a ≤ b + s) := by
      rw [Bool.eq_iff_iff]; simp; omega
    have HE2 : Hid (nr a b s = ((decide (b - s < a) || decide (b - s = a)) && (decide (a < b + s) || decide (a = b + s)))) := by rw [Hid, HE.out, q1, q2]
    have HY := Lib.hid (show 0 ≤ b ∧ b ≤ 1099511627776 ∧ 0 ≤ s ∧ s ≤ 1099511627776 from ⟨y3, y4, y5, y6⟩)
    have H1 := Lib.hid h1
    have H2 := Lib.hid h2
    have H3 := Lib.hid h3
    have H4 := Lib.hid h4
    rw [hv]
    clear hv y1 y2 y3 y4 y5 y6 h1 h2 h3 h4 q1 q2 HE hf hf2
    go_wp2_with fail
    refine (HR.out w2 HY.out.1 HY.out.2.1 HY.out.2.2.1 HY.out.2.2.2).mono ?_
    rintro _ _ ⟨rfl, rfl⟩
    clear HR HY
    unfold cx
    have e1 := H1.out
    have e2 := H2.out
    have e3 := H3.out
    have e4 := H4.out
    clear H1 H2 H3 H4
    generalize decide (b - s < a) = g1 at *
    generalize decide (b - s = a) = g2 at *
    generalize decide (a < b + s) = g3 at *
    generalize decide (a = b + s) = g4 at *
    cases g1 <;> cases g2 <;> cases g3 <;> cases g4 <;> (go_wp2; go_ret; exact ⟨by rw [HE2.out]; rfl, HB2.out⟩)
  · have hv' : (ok a && ok b && ok s) = false := by simpa using hv
    have HE : Hid (nr a b s = false) := by rw [Hid, nr, hv']; rfl
    rw [hv']
    clear hv hv'
    go_wp2
    go_ret
    exact ⟨by rw [HE.out]; rfl, HB2.out⟩
end Sp
end Go.Proofs.Ytddjbkadhihohaa
