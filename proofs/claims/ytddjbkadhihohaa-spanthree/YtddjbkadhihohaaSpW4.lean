/- span: left, around; the greater and the lesser of two words. -/
import Derived.Test.YtddjbkadhihohaaSpW3
namespace Go.Proofs.Ytddjbkadhihohaa
open Go.RowKit
namespace Sp

theorem order_f (a b : Int) (ha : a.natAbs < 2 ^ 53) (hb : b.natAbs < 2 ^ 53) : FloatKind.f64.format.order (hf a) (hf b) = some (compare a b) := order_hf a b ha hb
theorem cmp_eq (a b : Int) : (some (compare a b) == some Ordering.eq) = decide (a = b) := by
  show (some (compareOfLessAndEq a b) == some Ordering.eq) = decide (a = b)
  unfold compareOfLessAndEq
  by_cases h : a < b
  · have : a ≠ b := by omega
    simp [h, this]
  · by_cases h2 : a = b
    · simp [h2]
    · simp [h, h2]
theorem cmp_lt (a b : Int) : (some (compare a b) == some Ordering.lt) = decide (a < b) := by
  show (some (compareOfLessAndEq a b) == some Ordering.lt) = decide (a < b)
  unfold compareOfLessAndEq
  by_cases h : a < b
  · simp [h]
  · by_cases h2 : a = b
    · simp [h2]
    · simp [h, h2]
theorem cmp_gt (a b : Int) : (some (compare a b) == some Ordering.gt) = decide (b < a) := by
  show (some (compareOfLessAndEq a b) == some Ordering.gt) = decide (b < a)
  unfold compareOfLessAndEq
  by_cases h : a < b
  · have : ¬ b < a := by omega
    simp [h, this]
  · by_cases h2 : a = b
    · simp [h2]
    · have : b < a := by omega
      simp [h, h2, this]

theorem conv_int (p : Int) (h0 : 0 ≤ p) (h : p.natAbs < 2 ^ 50) (W : World) : (convert 29 3 (.float .f64 (hf p))).run Try.prog W = .ok (.int .i64 (p / 2)) W := by
  refine run_convert_float_int W 29 3 .f64 .i64 (hf p) (p / 2) (by rw [Try.underlying29]; rfl) Try.underlying3 ?_
  have h1 : (FloatKind.f64.decode (hf p)).toInt .zero = some (p / 2) := int_hf p h0 (by omega)
  unfold floatToIntVal
  rw [h1]
  have h2 : IntKind.i64.min ≤ p / 2 ∧ p / 2 ≤ IntKind.i64.max := by
    simp only [IntKind.min, IntKind.max, IntKind.signed, IntKind.bits]
    constructor
    · simp; omega
    · simp; omega
  exact if_pos h2

/-- Are both parts whole, and a span? -/
def wh (p q : Int) : Bool := vld (p / 2) (q / 2) && decide (2 * (p / 2) = p) && decide (2 * (q / 2) = q)

theorem Of_any (p q : Int) (w : World) (hp : 0 ≤ p) (hp2 : p < 1125899906842624) (hq : 0 ≤ q) (hq2 : q < 1125899906842624) :
    Calls Try.prog 11 #[.complex .f64 (hf p) (hf q)] w fun e w' => e = .returned (if wh p q then sv (p / 2) (q / 2) else sv 0 0) ∧ Below w.heap.size w w' := by
  have cx1 := conv_int p hp (by omega)
  have cx2 := conv_int q hq (by omega)
  by_cases hv : vld (p / 2) (q / 2) = true
  · obtain ⟨h1, h2, h3⟩ := vld_bounds hv
    refine Of_gen (hf p) (hf q) (fl (p / 2)) (fl (q / 2)) (p / 2) (q / 2) (wh p q) w cx1 cx2 (by rw [pt, if_pos hv]; rfl) _ _ rfl rfl ?_
    unfold fl
    rw [order_f _ _ (by omega) (by omega), order_f _ _ (by omega) (by omega), cmp_eq, cmp_eq, wh, hv, Bool.true_and]
  · have hv2 : vld (p / 2) (q / 2) = false := by simpa using hv
    refine Of_gen (hf p) (hf q) (hf 0) (hf 0) (p / 2) (q / 2) (wh p q) w cx1 cx2 (by rw [pt, if_neg hv, hf_zero]) _ _ rfl rfl ?_
    rw [order_f _ _ (by omega) (by omega), order_f _ _ (by omega) (by omega), cmp_eq, cmp_eq, wh, hv2, Bool.false_and, Bool.false_and]
    by_cases h : 0 = p
    · by_cases h' : 0 = q
      · exfalso
        subst h
        subst h'
        revert hv2
        decide
      · simp [h']
    · simp [h]

/-- What is left: a span with an error's number. -/
def lft (a b : Int) : (Int × Int) × Int := if vld a b && decide (a < b) then ((a, b), 0) else ((0, 0), 63)
/-- A span with an error's number, as a value. -/
def tv (r : (Int × Int) × Int) : Value := .tuple #[sv r.1.1 r.1.2, .int .i64 r.2]

set_option maxHeartbeats 1000000 in
set_option maxRecDepth 100000 in
theorem left_gen (x y : Nat) (a b : Int) (w : World) (hO : ∀ W : World, Calls Try.prog 11 #[.complex .f64 x y] W fun e w' => e = .returned (sv a b) ∧ Below W.heap.size W w') (c : Bool) (hc : decide (b ≤ a) = !c) :
    Calls Try.prog 18 #[.complex .f64 x y] w fun e w' => e = .returned (if c then tv ((a, b), 0) else tv ((0, 0), 63)) ∧ Below w.heap.size w w' := by
  obtain ⟨z, hz⟩ : ∃ z, z = w.heap.size := ⟨_, rfl⟩
  have HZ := Lib.hid hz
  have HO := Lib.hid hO
  have HC := Lib.hid hc
  have hb0 : Below w.heap.size w (w.alloc (.cells #[.int .i64 0, .int .i64 0] 23)) := (Below.refl _ _).alloc (Nat.le_refl _) _
  have hg0 := World.alloc_heap_new w (.cells #[.int .i64 0, .int .i64 0] 23)
  have hs0 : (w.alloc (.cells #[.int .i64 0, .int .i64 0] 23)).heap.size = w.heap.size + 1 := by simp
  rw [← hz] at hb0 hg0 hs0 ⊢
  have HB0 := Lib.hid hb0
  have HG0 := Lib.hid hg0
  have HS0 := Lib.hid hs0
  clear hz hO hc hb0 hg0 hs0
  go_enter Try.func18, Try.ntmps18
  go_wp2_with fail
  rw [← HZ.out]
  refine (HO.out _).mono ?_
  rintro _ w1 ⟨rfl, hb1⟩
  unfold sv
  have hs0 := HS0.out
  have hz1 : z < w1.heap.size := by have := hb1.size; omega
  have hg2 := (hb1.block z (by omega)).trans HG0.out
  have HB1 : Hid (Below z w w1) := HB0.out.trans (hb1.mono (by omega))
  clear HB0 HG0 HS0 hs0 hb1 HO
  have hg3 := World.alloc_heap_new w1 (.cells #[.int .i64 a, .int .i64 b] 23)
  have hg4 := (heap_alloc_old' w1 (.cells #[.int .i64 a, .int .i64 b] 23) hz1).trans hg2
  have HB2 : Hid (Below z w (w1.alloc (.cells #[.int .i64 a, .int .i64 b] 23))) := HB1.out.alloc (Nat.le_of_lt hz1) _
  obtain ⟨y1, hy1⟩ : ∃ y1, y1 = w1.heap.size := ⟨_, rfl⟩
  have HY := Lib.hid hy1
  rw [← hy1] at hg3
  obtain ⟨c2, c3⟩ := cell2 hg3
  obtain ⟨c0, c1⟩ := cell2 hg4
  have f0 := fun j => frozen_of_row _ _ j _ _ hg4
  have HS := Lib.hid (set2_self (v0 := .int .i64 a) (v1 := .int .i64 b) hg4)
  have HS0 := Lib.hid (set2_self (v0 := .int .i64 0) (v1 := .int .i64 0) hg4)
  have HW2 := Lib.hid (set2_below (v0 := .int .i64 a) (v1 := .int .i64 b) HB2.out (Nat.le_refl z))
  have HW3 := Lib.hid (set2_below (v0 := .int .i64 0) (v1 := .int .i64 0) HB2.out (Nat.le_refl z))
  clear hy1 hg2 hg3 hg4 hz1 HB1 HB2
  have hc := HC.out
  clear HC
  cases c
  · simp only [Bool.not_false] at hc
    go_wp2
    obtain ⟨d0, d1⟩ := cell2 HS0.out
    exact bodyPost_ret (v := tv ((0, 0), 63)) (by simp [results, Try.results18, go_sem, d0, d1, sv, tv]) rfl ⟨rfl, HW3.out⟩
  · simp only [Bool.not_true] at hc
    go_wp2
    obtain ⟨d0, d1⟩ := cell2 HS.out
    exact bodyPost_ret (v := tv ((a, b), 0)) (by simp [results, Try.results18, go_sem, d0, d1, sv, tv]) rfl ⟨rfl, HW2.out⟩

theorem left_any (a b : Int) (w : World) (ha : 0 ≤ a) (ha2 : a < 281474976710656) (hb : 0 ≤ b) (hb2 : b < 281474976710656) :
    Calls Try.prog 18 #[cx a b] w fun e w' => e = .returned (tv (lft a b)) ∧ Below w.heap.size w w' := by
  have hO := fun W => Of_any (2 * a) (2 * b) W (by omega) (by omega) (by omega) (by omega)
  have e1 : 2 * a / 2 = a := by omega
  have e2 : 2 * b / 2 = b := by omega
  have e3 : wh (2 * a) (2 * b) = vld a b := by simp [wh, e1, e2]
  rw [e1, e2, e3] at hO
  unfold lft
  by_cases hv : vld a b = true
  · rw [hv] at hO ⊢
    simp only [if_true, Bool.true_and] at hO ⊢
    have h := left_gen (fl a) (fl b) a b w hO (decide (a < b)) (by by_cases h : a < b <;> simp [h] <;> omega)
    refine h.mono ?_
    rintro _ w' ⟨rfl, hb⟩
    refine ⟨?_, hb⟩
    by_cases h : a < b <;> simp [h]
  · have hv2 : vld a b = false := by simpa using hv
    rw [hv2] at hO ⊢
    simp only [Bool.false_eq_true, if_false, Bool.false_and] at hO ⊢
    exact left_gen (fl a) (fl b) 0 0 w hO false rfl

theorem neg_in (n : Int) (h0 : 0 ≤ n) (h : n ≤ 1099511627776) : IntKind.i64.wrap (-n) = -n := IntWalk.i64_in _ (by omega)

set_option maxHeartbeats 400000 in
set_option maxRecDepth 100000 in
theorem around_any (a s : Int) (w : World) (ha : 0 ≤ a) (ha2 : a ≤ 1099511627776) (hs : 0 ≤ s) (hs2 : s ≤ 1099511627776) :
    Calls Try.prog 19 #[.int .i64 a, .int .i64 s] w fun e w' => e = .returned (cx (a - s) (a + s)) ∧ w = w' := by
  have HP := Lib.hid (pair_any a a w (by omega) (by omega))
  have HQ := Lib.hid (pair_any (-s) s w (by omega) (by omega))
  have hadd : cSumBits .add .f64 (fl a) (fl a) (fl (-s)) (fl s) = some (fl (a - s), fl (a + s)) := by
    have h1 : floatBits .add .f64 (fl a) (fl (-s)) = some (fl (a - s)) := by
      have := add_hf (2 * a) (2 * (-s)) (by omega) (by omega) (by omega)
      rw [show 2 * a + 2 * (-s) = 2 * (a - s) by omega] at this
      exact this
    have h2 : floatBits .add .f64 (fl a) (fl s) = some (fl (a + s)) := by
      have := add_hf (2 * a) (2 * s) (by omega) (by omega) (by omega)
      rw [show 2 * a + 2 * s = 2 * (a + s) by omega] at this
      exact this
    unfold cSumBits
    rw [h1, h2]
    rfl
  have HA : Hid (∀ (t : TypeId) (W : World), (binOp .add t (.complex .f64 (fl a) (fl a)) (.complex .f64 (fl (-s)) (fl s))).run Try.prog W = .ok (.complex .f64 (fl (a - s)) (fl (a + s))) W) :=
    fun t W => run_complex_sum (P := Try.prog) W .add (Or.inl rfl) t .f64 _ _ _ _ _ _ hadd
  have hn := neg_in s hs hs2
  have HN := Lib.hid hn
  clear hadd
  unfold cx at *
  go_enter Try.func19, Try.ntmps19
  go_wp2_with fail
  refine HP.out.mono ?_
  rintro _ _ ⟨rfl, rfl⟩
  go_wp2_with fail
  refine HQ.out.mono ?_
  rintro _ _ ⟨rfl, rfl⟩
  go_wp2_with (simp only [HA.out])
  go_ret
  exact ⟨rfl, rfl⟩
end Sp
end Go.Proofs.Ytddjbkadhihohaa
