/- The law SpanCuts, walked. -/
import Derived.Test.YtddjbkadhihohaaSpL1
namespace Go.Proofs.Ytddjbkadhihohaa
open Go.RowKit
namespace Sp

theorem ok_iff {n : Int} : ok n = true ↔ 0 ≤ n ∧ n ≤ 1099511627776 := by simp [ok]
theorem ctt_zero {a b n : Int} (h : (ctt a b n).2 = 0) : vld a b = true ∧ ok n = true ∧ a < min b (a + n) ∧ (ctt a b n).1 = (a, min b (a + n)) := by
  unfold ctt at h ⊢
  by_cases hc : (vld a b && ok n) = true
  · rw [if_pos hc] at h ⊢
    obtain ⟨h1, h2, h3⟩ := lft_zero h
    simp at hc
    exact ⟨hc.1, hc.2, h2, h3⟩
  · rw [if_neg hc] at h
    simp at h
theorem ctt_make {a b n : Int} (hv : vld a b = true) (hn : ok n = true) (hl : a < min b (a + n)) : ctt a b n = ((a, min b (a + n)), 0) := by
  have h1 := vld_iff.1 hv
  have h2 : vld a (min b (a + n)) = true := vld_iff.2 (by omega)
  unfold ctt lft
  simp [hv, hn, h2, hl]
theorem ctt_twice {p q a b : Int} (h1 : (ctt p q a).2 = 0) (h2 : (ctt (ctt p q a).1.1 (ctt p q a).1.2 b).2 = 0) : ctt p q (min a b) = ((ctt (ctt p q a).1.1 (ctt p q a).1.2 b).1, 0) := by
  obtain ⟨v1, o1, l1, r1⟩ := ctt_zero h1
  rw [r1] at h2 ⊢
  obtain ⟨v2, o2, l2, r2⟩ := ctt_zero h2
  simp only at *
  have k1 := ok_iff.1 o1
  have k2 := ok_iff.1 o2
  rw [r2, show min (min q (p + a)) (p + b) = min q (p + min a b) by omega]
  exact ctt_make v1 (ok_iff.2 (by omega)) (by omega)
theorem ctt_once {p q a b : Int} (ha : a ≤ 1099511627776) (hb : b ≤ 1099511627776) (h : (ctt p q (min a b)).2 = 0) : (ctt p q a).2 = 0 ∧ (ctt (ctt p q a).1.1 (ctt p q a).1.2 b).2 = 0 := by
  obtain ⟨v1, o1, l1, r1⟩ := ctt_zero h
  have k1 := ok_iff.1 o1
  have k2 := vld_iff.1 v1
  have e := ctt_make (a := p) (b := q) (n := a) v1 (ok_iff.2 (by omega)) (by omega)
  rw [e]
  refine ⟨rfl, ?_⟩
  simp only
  rw [ctt_make (vld_iff.2 (by omega)) (ok_iff.2 (by omega)) (by omega)]
theorem nr_comm (a b s : Int) : nr a b s = nr b a s := by
  unfold nr
  rw [Bool.eq_iff_iff]
  simp only [Bool.and_eq_true, ok_iff, decide_eq_true_eq]
  omega
theorem nr_self (a : Int) (h : a ≤ 1099511627776) : nr a a 0 = decide (0 ≤ a) := by
  unfold nr
  rw [Bool.eq_iff_iff]
  simp only [Bool.and_eq_true, ok_iff, decide_eq_true_eq]
  omega

set_option maxHeartbeats 4000000 in
set_option maxRecDepth 100000 in
theorem spanCuts_walk (p q a b s : Int) (w : World) :
    Calls Try.prog 6 #[sv p q, .int .i64 a, .int .i64 b, .int .i64 s] w fun r w' => r = .returned (.bool true) ∧ Below w.heap.size w w' := by
  have HN := Lib.hid (kb1 w #[.int .i64 p, .int .i64 q])
  by_cases ha : a > 1099511627776
  · unfold sv
    go_enter Try.func6, Try.ntmps6
    go_wp2_with fail
    refine (works_any _).mono ?_
    rintro _ w1 ⟨rfl, hb1⟩
    have HN1 := Lib.hid (HN.out.next hb1)
    clear HN hb1
    have e1 : decide (a > 1099511627776) = true := decide_eq_true ha
    go_wp2
    go_ret
    exact ⟨rfl, HN1.out.1⟩
  · have e1 : decide (a > 1099511627776) = false := decide_eq_false ha
    by_cases hb : b > 1099511627776
    · unfold sv
      go_enter Try.func6, Try.ntmps6
      go_wp2_with fail
      refine (works_any _).mono ?_
      rintro _ w1 ⟨rfl, hb1⟩
      have HN1 := Lib.hid (HN.out.next hb1)
      clear HN hb1
      have e2 : decide (b > 1099511627776) = true := decide_eq_true hb
      go_wp2
      go_ret
      exact ⟨rfl, HN1.out.1⟩
    · have e2 : decide (b > 1099511627776) = false := decide_eq_false hb
      have HX := Lib.hid (Cut_any p q a)
      have HZ := Lib.hid (Cut_any p q (min a b))
      have HN1' := Lib.hid (Near_any a b s)
      have HN2' := Lib.hid (Near_any b a s)
      have HN3' := Lib.hid (Near_any a a 0)
      rw [nr_comm b a s] at HN2'
      rw [nr_self a (by omega)] at HN3'
      obtain ⟨t3, ht3, h3⟩ : ∃ t3, decide (0 ≤ a) = t3 ∧ decide (a ≥ 0) = t3 := ⟨_, rfl, rfl⟩
      rw [ht3] at HN3'
      have h4 : decide (a ≤ 1099511627776) = true := decide_eq_true (by omega)
      have H3 := Lib.hid h3
      have H4 := Lib.hid h4
      clear h3 h4 ht3
      have ht := fun h1 h2 => ctt_twice (p := p) (q := q) (a := a) (b := b) h1 h2
      have ho := fun h => ctt_once (p := p) (q := q) (a := a) (b := b) (by omega) (by omega) h
      have hm : (if b < a then b else a) = min a b := by
        by_cases h : b < a
        · rw [if_pos h]; omega
        · rw [if_neg h]; omega
      clear ha hb
      generalize ctt p q a = x at *
      obtain ⟨⟨x1, x2⟩, xe⟩ := x
      simp only at ht ho
      have HY := Lib.hid (Cut_any x1 x2 b)
      generalize ctt x1 x2 b = y at *
      generalize min a b = m at *
      generalize ctt p q m = z at *
      generalize nr a b s = t at *
      obtain ⟨⟨y1, y2⟩, ye⟩ := y
      obtain ⟨⟨z1, z2⟩, ze⟩ := z
      simp only at ht ho
      have HT := Lib.hid ht
      have HO := Lib.hid ho
      have HM := Lib.hid hm
      have E1 := Lib.hid e1
      have E2 := Lib.hid e2
      clear ht ho hm e1 e2
      unfold tv sv at *
      go_enter Try.func6, Try.ntmps6
      go_wp2_with fail
      generalize w.alloc (.cells #[.int .i64 p, .int .i64 q] 23) = W at *
      refine (works_any W).mono ?_
      rintro _ w1 ⟨rfl, hb1⟩
      have HN1 := Lib.hid (HN.out.next hb1)
      clear HN hb1
      obtain ⟨c0, c1⟩ := HN1.out.cell w.heap.size (.int .i64 p) (.int .i64 q) (by simp)
      have e1 := E1.out
      have e2 := E2.out
      go_wp2_with fail
      refine (HX.out w1).mono ?_
      rintro _ w2 ⟨rfl, hb2⟩
      have HN2 := Lib.hid ((HN1.out.next hb2).add #[.int .i64 x1, .int .i64 x2])
      clear HN1 hb2 c0 c1 HX
      obtain ⟨g1, hg1⟩ : ∃ g, g = w2.heap.size := ⟨_, rfl⟩
      have HG1 := Lib.hid hg1
      rw [← hg1] at HN2
      clear hg1
      go_wp2_with fail
      rw [← HG1.out]
      generalize w2.alloc (.cells #[.int .i64 x1, .int .i64 x2] 23) = W2 at *
      refine (HY.out W2).mono ?_
      rintro _ w3 ⟨rfl, hb3⟩
      have HN3 := Lib.hid ((HN2.out.next hb3).add #[.int .i64 y1, .int .i64 y2])
      clear HN2 hb3 HY HG1
      obtain ⟨g2, hg2⟩ : ∃ g, g = w3.heap.size := ⟨_, rfl⟩
      have HG2 := Lib.hid hg2
      rw [← hg2] at HN3
      clear hg2
      obtain ⟨c0, c1⟩ := HN3.out.cell w.heap.size (.int .i64 p) (.int .i64 q) (by simp)
      have hm := HM.out
      go_wp2_with fail
      clear hm
      rw [← HG2.out]
      generalize w3.alloc (.cells #[.int .i64 y1, .int .i64 y2] 23) = W3 at *
      refine (HZ.out W3).mono ?_
      rintro _ w4 ⟨rfl, hb4⟩
      have HN4 := Lib.hid ((HN3.out.next hb4).add #[.int .i64 z1, .int .i64 z2])
      clear HN3 hb4 c0 c1 HZ HG2 HM
      obtain ⟨g3, hg3⟩ : ∃ g, g = w4.heap.size := ⟨_, rfl⟩
      have HG3 := Lib.hid hg3
      rw [← hg3] at HN4
      clear hg3
      by_cases hze : ze = 0
      · obtain ⟨rfl, rfl⟩ := HO.out hze
        have hh := HT.out rfl rfl
        simp only [Prod.mk.injEq] at hh
        obtain ⟨⟨rfl, rfl⟩, rfl⟩ := hh
        clear HT HO hze
        obtain ⟨c0, c1⟩ := HN4.out.cell g2 (.int .i64 z1) (.int .i64 z2) (by simp)
        obtain ⟨d0, d1⟩ := HN4.out.cell g3 (.int .i64 z1) (.int .i64 z2) (by simp)
        go_wp2_with fail
        refine (HN1'.out _).mono ?_
        rintro _ w5 ⟨rfl, hb5⟩
        have HN5 := Lib.hid (HN4.out.next hb5)
        clear HN4 hb5 HN1' c0 c1 d0 d1
        go_wp2_with fail
        refine (HN2'.out _).mono ?_
        rintro _ w6 ⟨rfl, hb6⟩
        have HN6 := Lib.hid (HN5.out.next hb6)
        clear HN5 hb6 HN2'
        go_wp2_with fail
        refine (HN3'.out _).mono ?_
        rintro _ w7 ⟨rfl, hb7⟩
        have HN7 := Lib.hid (HN6.out.next hb7)
        clear HN6 hb7 HN3'
        have e3 := H3.out
        have e4 := H4.out
        clear H3 H4
        cases t3 <;> (go_wp2; go_ret; exact ⟨by first | rfl | simp, HN7.out.1⟩)
      · have z1' : (ze != 0) = true := by simpa using hze
        have z2' : (ze == 0) = false := by simpa using hze
        by_cases hxe : xe = 0
        · subst hxe
          by_cases hye : ye = 0
          · subst hye
            have hh := HT.out rfl rfl
            simp only [Prod.mk.injEq] at hh
            exact absurd hh.2 hze
          · have y1' : (ye != 0) = true := by simpa using hye
            have y2' : (ye == 0) = false := by simpa using hye
            clear HT HO hze hye
            go_wp2_with fail
            refine (HN1'.out _).mono ?_
            rintro _ w5 ⟨rfl, hb5⟩
            have HN5 := Lib.hid (HN4.out.next hb5)
            clear HN4 hb5 HN1'
            go_wp2_with fail
            refine (HN2'.out _).mono ?_
            rintro _ w6 ⟨rfl, hb6⟩
            have HN6 := Lib.hid (HN5.out.next hb6)
            clear HN5 hb6 HN2'
            go_wp2_with fail
            refine (HN3'.out _).mono ?_
            rintro _ w7 ⟨rfl, hb7⟩
            have HN7 := Lib.hid (HN6.out.next hb7)
            clear HN6 hb7 HN3'
            have e3 := H3.out
            have e4 := H4.out
            clear H3 H4
            cases t3 <;> (go_wp2; go_ret; exact ⟨by first | rfl | simp, HN7.out.1⟩)
        · have x1' : (xe != 0) = true := by simpa using hxe
          have x2' : (xe == 0) = false := by simpa using hxe
          clear HT HO hze hxe
          go_wp2_with fail
          refine (HN1'.out _).mono ?_
          rintro _ w5 ⟨rfl, hb5⟩
          have HN5 := Lib.hid (HN4.out.next hb5)
          clear HN4 hb5 HN1'
          go_wp2_with fail
          refine (HN2'.out _).mono ?_
          rintro _ w6 ⟨rfl, hb6⟩
          have HN6 := Lib.hid (HN5.out.next hb6)
          clear HN5 hb6 HN2'
          go_wp2_with fail
          refine (HN3'.out _).mono ?_
          rintro _ w7 ⟨rfl, hb7⟩
          have HN7 := Lib.hid (HN6.out.next hb7)
          clear HN6 hb7 HN3'
          have e3 := H3.out
          have e4 := H4.out
          clear H3 H4
          cases t3 <;> (go_wp2; go_ret; exact ⟨by first | rfl | simp, HN7.out.1⟩)
end Sp
end Go.Proofs.Ytddjbkadhihohaa
