/- The law SpanBoth, walked. -/
import Derived.Test.YtddjbkadhihohaaSpL3
namespace Go.Proofs.Ytddjbkadhihohaa
open Go.RowKit
namespace Sp

theorem bth_comm (a b c d : Int) : bth a b c d = bth c d a b := by
  unfold bth
  rw [Bool.and_comm, show max a c = max c a by omega, show min b d = min d b by omega]
theorem bth_make {a b c d : Int} (h1 : vld a b = true) (h2 : vld c d = true) (h : max a c < min b d) : bth a b c d = ((max a c, min b d), 0) := by
  have k1 := vld_iff.1 h1
  have k2 := vld_iff.1 h2
  have h3 : vld (max a c) (min b d) = true := vld_iff.2 (by omega)
  unfold bth lft
  simp [h1, h2, h3, h]
theorem bth_err {a b c d : Int} (h1 : vld a b = true) (h2 : vld c d = true) (h : (bth a b c d).2 ≠ 0) : (bth a b c d).2 = 63 ∧ min b d ≤ max a c := by
  by_cases hl : max a c < min b d
  · rw [bth_make h1 h2 hl] at h
    simp at h
  · refine ⟨?_, by omega⟩
    unfold bth lft at h ⊢
    rw [h1, h2] at h ⊢
    simp only [Bool.and_self, if_true] at h ⊢
    rw [if_neg (by simp; intro _; omega)]
theorem chk_in {a b t : Int} (hv : vld a b = true) (h0 : 0 ≤ t) (h1 : t ≤ 1099511627776) : chk a b t 0 = 0 ↔ a ≤ t ∧ t < b := by
  rw [chk_zero]
  constructor
  · rintro ⟨-, -, -, g1, g2⟩; omega
  · intro h; exact ⟨hv, ok_iff.2 ⟨h0, h1⟩, by decide, by omega, by omega⟩
theorem in_both {a b c d t : Int} (h1 : vld a b = true) (h2 : vld c d = true) (h0 : 0 ≤ t) (ht : t ≤ 1099511627776) (h : (bth a b c d).2 = 0) :
    (chk (bth a b c d).1.1 (bth a b c d).1.2 t 0 = 0 ↔ chk a b t 0 = 0 ∧ chk c d t 0 = 0) ∧ bth a b (bth a b c d).1.1 (bth a b c d).1.2 = ((bth a b c d).1, 0) ∧ vld (bth a b c d).1.1 (bth a b c d).1.2 = true := by
  obtain ⟨v1, v2, m1, r1, w1⟩ := bth_zero h
  rw [r1]
  simp only
  refine ⟨?_, ?_, w1⟩
  · rw [chk_in w1 h0 ht, chk_in h1 h0 ht, chk_in h2 h0 ht]
    omega
  · have k := vld_iff.1 w1
    rw [bth_make h1 w1 (by omega), show max a (max a c) = max a c by omega, show min b (min b d) = min b d by omega]
theorem not_both {a b c d t : Int} (h1 : vld a b = true) (h2 : vld c d = true) (h0 : 0 ≤ t) (ht : t ≤ 1099511627776) (h : (bth a b c d).2 ≠ 0) : ¬ (chk a b t 0 = 0 ∧ chk c d t 0 = 0) := by
  obtain ⟨-, hl⟩ := bth_err h1 h2 h
  rw [chk_in h1 h0 ht, chk_in h2 h0 ht]
  omega

set_option maxHeartbeats 8000000 in
set_option maxRecDepth 100000 in
theorem spanBoth_walk (a b c d t : Int) (w : World) :
    Calls Try.prog 4 #[sv a b, sv c d, .int .i64 t] w fun r w' => r = .returned (.bool true) ∧ Below w.heap.size w w' := by
  have HN := Lib.hid (kb2 w #[.int .i64 a, .int .i64 b] #[.int .i64 c, .int .i64 d])
  have HX := Lib.hid (Both_any a b c d)
  have HY := Lib.hid (Both_any c d a b)
  rw [← bth_comm a b c d] at HY
  have HV1 := Lib.hid (Valid_any a b)
  have HV2 := Lib.hid (Valid_any c d)
  have HK1 := Lib.hid (Check_any a b t 0)
  have HK2 := Lib.hid (Check_any c d t 0)
  have h5 := fun h1 h2 h3 h4 h => in_both (a := a) (b := b) (c := c) (d := d) (t := t) h1 h2 h3 h4 h
  have h6 := fun h1 h2 h3 h4 h => not_both (a := a) (b := b) (c := c) (d := d) (t := t) h1 h2 h3 h4 h
  have h7 := fun h1 h2 h => bth_err (a := a) (b := b) (c := c) (d := d) h1 h2 h
  generalize bth a b c d = x at *
  obtain ⟨⟨x1, x2⟩, xe⟩ := x
  simp only at h5 h6 h7
  have HZ := Lib.hid (Both_any a b x1 x2)
  have HK3 := Lib.hid (Check_any x1 x2 t 0)
  have HV3 := Lib.hid (Valid_any x1 x2)
  generalize chk a b t 0 = k1 at *
  generalize chk c d t 0 = k2 at *
  generalize chk x1 x2 t 0 = k3 at *
  generalize vld a b = v1 at *
  generalize vld c d = v2 at *
  generalize bth a b x1 x2 = z at *
  obtain ⟨⟨z1, z2⟩, ze⟩ := z
  have H5 := Lib.hid h5
  have H6 := Lib.hid h6
  have H7 := Lib.hid h7
  clear h5 h6 h7
  unfold tv sv at *
  go_enter Try.func4, Try.ntmps4
  go_wp2_with fail
  generalize (w.alloc (.cells #[.int .i64 a, .int .i64 b] 23)).alloc (.cells #[.int .i64 c, .int .i64 d] 23) = W at *
  refine (works_any W).mono ?_
  rintro _ w1 ⟨rfl, hb1⟩
  have HN1 := Lib.hid (HN.out.next hb1)
  clear HN hb1
  obtain ⟨c0, c1⟩ := HN1.out.cell w.heap.size (.int .i64 a) (.int .i64 b) (by simp)
  obtain ⟨c2, c3⟩ := HN1.out.cell (w.heap.size + 1) (.int .i64 c) (.int .i64 d) (by simp)
  go_wp2_with fail
  refine (HX.out _).mono ?_
  rintro _ w2 ⟨rfl, hb2⟩
  have HN2 := Lib.hid ((HN1.out.next hb2).add #[.int .i64 x1, .int .i64 x2])
  clear HN1 hb2 c0 c1 c2 c3 HX
  obtain ⟨g1, hg1⟩ : ∃ g, g = w2.heap.size := ⟨_, rfl⟩
  have HG1 := Lib.hid hg1
  rw [← hg1] at HN2
  clear hg1
  obtain ⟨c0, c1⟩ := HN2.out.cell w.heap.size (.int .i64 a) (.int .i64 b) (by simp)
  obtain ⟨c2, c3⟩ := HN2.out.cell (w.heap.size + 1) (.int .i64 c) (.int .i64 d) (by simp)
  go_wp2_with fail
  rw [← HG1.out]
  generalize w2.alloc (.cells #[.int .i64 x1, .int .i64 x2] 23) = W2 at *
  refine (HY.out W2).mono ?_
  rintro _ w3 ⟨rfl, hb3⟩
  have HN3 := Lib.hid ((HN2.out.next hb3).add #[.int .i64 x1, .int .i64 x2])
  clear HN2 hb3 c0 c1 c2 c3 HY HG1
  obtain ⟨g2, hg2⟩ : ∃ g, g = w3.heap.size := ⟨_, rfl⟩
  have HG2 := Lib.hid hg2
  rw [← hg2] at HN3
  clear hg2
  obtain ⟨c0, c1⟩ := HN3.out.cell w.heap.size (.int .i64 a) (.int .i64 b) (by simp)
  obtain ⟨c2, c3⟩ := HN3.out.cell (w.heap.size + 1) (.int .i64 c) (.int .i64 d) (by simp)
  obtain ⟨c4, c5⟩ := HN3.out.cell g1 (.int .i64 x1) (.int .i64 x2) (by simp)
  obtain ⟨c6, c7⟩ := HN3.out.cell g2 (.int .i64 x1) (.int .i64 x2) (by simp)
  go_wp2_with fail
  clear HG2
  generalize w3.alloc (.cells #[.int .i64 x1, .int .i64 x2] 23) = W3 at *
  refine (HV1.out _).mono ?_
  rintro _ w4 ⟨rfl, hb4⟩
  have HN4 := Lib.hid (HN3.out.next hb4)
  clear HN3 hb4 c0 c1 c2 c3 c4 c5 c6 c7 HV1
  cases v1
  · clear H5 H6 H7
    go_wp2
    go_ret
    exact ⟨rfl, HN4.out.1⟩
  · obtain ⟨c2, c3⟩ := HN4.out.cell (w.heap.size + 1) (.int .i64 c) (.int .i64 d) (by simp)
    go_wp2_with fail
    refine (HV2.out _).mono ?_
    rintro _ w5 ⟨rfl, hb5⟩
    have HN5 := Lib.hid (HN4.out.next hb5)
    clear HN4 hb5 c2 c3 HV2
    cases v2
    · clear H5 H6 H7
      go_wp2
      go_ret
      exact ⟨rfl, HN5.out.1⟩
    · by_cases h0 : t < 0
      · have e1 : decide (t < 0) = true := decide_eq_true h0
        clear H5 H6 H7 h0
        go_wp2
        go_ret
        exact ⟨rfl, HN5.out.1⟩
      · have e1 : decide (t < 0) = false := decide_eq_false h0
        by_cases hM : t > 1099511627776
        · have e2 : decide (t > 1099511627776) = true := decide_eq_true hM
          clear H5 H6 H7 h0 hM
          go_wp2
          go_ret
          exact ⟨rfl, HN5.out.1⟩
        · have e2 : decide (t > 1099511627776) = false := decide_eq_false hM
          have I5 := Lib.hid (H5.out (by trivial) (by trivial) (by omega) (by omega))
          have I6 := Lib.hid (H6.out (by trivial) (by trivial) (by omega) (by omega))
          have I7 := Lib.hid (H7.out (by trivial) (by trivial))
          clear H5 H6 H7 h0 hM
          obtain ⟨c0, c1⟩ := HN5.out.cell w.heap.size (.int .i64 a) (.int .i64 b) (by simp)
          go_wp2_with fail
          refine (HK1.out _).mono ?_
          rintro _ w6 ⟨rfl, hb6⟩
          have HN6 := Lib.hid (HN5.out.next hb6)
          clear HN5 hb6 c0 c1 HK1 e1 e2
          by_cases hk1 : k1 = 0
          · subst hk1
            obtain ⟨c2, c3⟩ := HN6.out.cell (w.heap.size + 1) (.int .i64 c) (.int .i64 d) (by simp)
            go_wp2_with fail
            refine (HK2.out _).mono ?_
            rintro _ w7 ⟨rfl, hb7⟩
            have HN7 := Lib.hid (HN6.out.next hb7)
            clear HN6 hb7 c2 c3 HK2
            by_cases hk2 : k2 = 0
            · subst hk2
              by_cases hxe : xe = 0
              · subst hxe
                obtain ⟨q1, q2, q3⟩ := I5.out rfl
                simp only [Prod.mk.injEq] at q2
                obtain ⟨⟨rfl, rfl⟩, rfl⟩ := q2
                have Q1 := Lib.hid q1
                rw [q3] at HV3
                clear q1 q3 I5 I6 I7
                obtain ⟨c0, c1⟩ := HN7.out.cell w.heap.size (.int .i64 a) (.int .i64 b) (by simp)
                obtain ⟨c4, c5⟩ := HN7.out.cell g1 (.int .i64 z1) (.int .i64 z2) (by simp)
                go_wp2_with fail
                refine (HZ.out _).mono ?_
                rintro _ w8 ⟨rfl, hb8⟩
                have HN8 := Lib.hid ((HN7.out.next hb8).add #[.int .i64 z1, .int .i64 z2])
                clear HN7 hb8 c0 c1 c4 c5 HZ
                obtain ⟨g3, hg3⟩ : ∃ g, g = w8.heap.size := ⟨_, rfl⟩
                have HG3 := Lib.hid hg3
                rw [← hg3] at HN8
                clear hg3
                obtain ⟨c4, c5⟩ := HN8.out.cell g1 (.int .i64 z1) (.int .i64 z2) (by simp)
                go_wp2_with fail
                rw [← HG3.out]
                generalize w8.alloc (.cells #[.int .i64 z1, .int .i64 z2] 23) = W8 at *
                refine (HK3.out _).mono ?_
                rintro _ w9 ⟨rfl, hb9⟩
                have HN9 := Lib.hid (HN8.out.next hb9)
                clear HN8 hb9 c4 c5 HK3 HG3
                obtain ⟨c4, c5⟩ := HN9.out.cell g1 (.int .i64 z1) (.int .i64 z2) (by simp)
                obtain ⟨c6, c7⟩ := HN9.out.cell g3 (.int .i64 z1) (.int .i64 z2) (by simp)
                obtain rfl : k3 = 0 := Q1.out.2 ⟨by trivial, by trivial⟩
                clear Q1
                go_wp2_with fail
                refine (HV3.out _).mono ?_
                rintro _ w10 ⟨rfl, hb10⟩
                have HN10 := Lib.hid (HN9.out.next hb10)
                clear HN9 hb10 c4 c5 c6 c7 HV3
                go_wp2
                go_ret
                exact ⟨rfl, HN10.out.1⟩
              · exact absurd ⟨by trivial, by trivial⟩ (I6.out hxe)
            · have n1 : (k2 != 0) = true := by simpa using hk2
              have n2 : (k2 == 0) = false := by simpa using hk2
              by_cases hxe : xe = 0
              · subst hxe
                obtain ⟨q1, q2, q3⟩ := I5.out rfl
                simp only [Prod.mk.injEq] at q2
                obtain ⟨⟨rfl, rfl⟩, rfl⟩ := q2
                have Q1 := Lib.hid q1
                rw [q3] at HV3
                clear q1 q3 I5 I6 I7
                obtain ⟨c0, c1⟩ := HN7.out.cell w.heap.size (.int .i64 a) (.int .i64 b) (by simp)
                obtain ⟨c4, c5⟩ := HN7.out.cell g1 (.int .i64 z1) (.int .i64 z2) (by simp)
                go_wp2_with fail
                refine (HZ.out _).mono ?_
                rintro _ w8 ⟨rfl, hb8⟩
                have HN8 := Lib.hid ((HN7.out.next hb8).add #[.int .i64 z1, .int .i64 z2])
                clear HN7 hb8 c0 c1 c4 c5 HZ
                obtain ⟨g3, hg3⟩ : ∃ g, g = w8.heap.size := ⟨_, rfl⟩
                have HG3 := Lib.hid hg3
                rw [← hg3] at HN8
                clear hg3
                obtain ⟨c4, c5⟩ := HN8.out.cell g1 (.int .i64 z1) (.int .i64 z2) (by simp)
                go_wp2_with fail
                rw [← HG3.out]
                generalize w8.alloc (.cells #[.int .i64 z1, .int .i64 z2] 23) = W8 at *
                refine (HK3.out _).mono ?_
                rintro _ w9 ⟨rfl, hb9⟩
                have HN9 := Lib.hid (HN8.out.next hb9)
                clear HN8 hb9 c4 c5 HK3 HG3
                obtain ⟨c4, c5⟩ := HN9.out.cell g1 (.int .i64 z1) (.int .i64 z2) (by simp)
                obtain ⟨c6, c7⟩ := HN9.out.cell g3 (.int .i64 z1) (.int .i64 z2) (by simp)
                have hk3 : k3 ≠ 0 := fun h => hk2 (Q1.out.1 h).2
                have m1 : (k3 != 0) = true := by simpa using hk3
                have m2 : (k3 == 0) = false := by simpa using hk3
                clear Q1 hk3
                go_wp2_with fail
                refine (HV3.out _).mono ?_
                rintro _ w10 ⟨rfl, hb10⟩
                have HN10 := Lib.hid (HN9.out.next hb10)
                clear HN9 hb10 c4 c5 c6 c7 HV3
                go_wp2
                go_ret
                exact ⟨rfl, HN10.out.1⟩
              · obtain ⟨rfl, -⟩ := I7.out hxe
                clear I5 I6 I7 hxe HZ HK3 HV3
                go_wp2
                go_ret
                exact ⟨rfl, HN7.out.1⟩
          · have n1 : (k1 != 0) = true := by simpa using hk1
            have n2 : (k1 == 0) = false := by simpa using hk1
            by_cases hxe : xe = 0
            · subst hxe
              obtain ⟨q1, q2, q3⟩ := I5.out rfl
              simp only [Prod.mk.injEq] at q2
              obtain ⟨⟨rfl, rfl⟩, rfl⟩ := q2
              have Q1 := Lib.hid q1
              rw [q3] at HV3
              clear q1 q3 I5 I6 I7
              obtain ⟨c0, c1⟩ := HN6.out.cell w.heap.size (.int .i64 a) (.int .i64 b) (by simp)
              obtain ⟨c4, c5⟩ := HN6.out.cell g1 (.int .i64 z1) (.int .i64 z2) (by simp)
              go_wp2_with fail
              refine (HZ.out _).mono ?_
              rintro _ w8 ⟨rfl, hb8⟩
              have HN8 := Lib.hid ((HN6.out.next hb8).add #[.int .i64 z1, .int .i64 z2])
              clear HN6 hb8 c0 c1 c4 c5 HZ
              obtain ⟨g3, hg3⟩ : ∃ g, g = w8.heap.size := ⟨_, rfl⟩
              have HG3 := Lib.hid hg3
              rw [← hg3] at HN8
              clear hg3
              obtain ⟨c4, c5⟩ := HN8.out.cell g1 (.int .i64 z1) (.int .i64 z2) (by simp)
              go_wp2_with fail
              rw [← HG3.out]
              generalize w8.alloc (.cells #[.int .i64 z1, .int .i64 z2] 23) = W8 at *
              refine (HK3.out _).mono ?_
              rintro _ w9 ⟨rfl, hb9⟩
              have HN9 := Lib.hid (HN8.out.next hb9)
              clear HN8 hb9 c4 c5 HK3 HG3
              obtain ⟨c4, c5⟩ := HN9.out.cell g1 (.int .i64 z1) (.int .i64 z2) (by simp)
              obtain ⟨c6, c7⟩ := HN9.out.cell g3 (.int .i64 z1) (.int .i64 z2) (by simp)
              have hk3 : k3 ≠ 0 := fun h => hk1 (Q1.out.1 h).1
              have m1 : (k3 != 0) = true := by simpa using hk3
              have m2 : (k3 == 0) = false := by simpa using hk3
              clear Q1 hk3
              go_wp2_with fail
              refine (HV3.out _).mono ?_
              rintro _ w10 ⟨rfl, hb10⟩
              have HN10 := Lib.hid (HN9.out.next hb10)
              clear HN9 hb10 c4 c5 c6 c7 HV3
              go_wp2
              go_ret
              exact ⟨rfl, HN10.out.1⟩
            · obtain ⟨rfl, -⟩ := I7.out hxe
              clear I5 I6 I7 hxe HZ HK3 HV3
              go_wp2
              go_ret
              exact ⟨rfl, HN6.out.1⟩
end Sp
end Go.Proofs.Ytddjbkadhihohaa
