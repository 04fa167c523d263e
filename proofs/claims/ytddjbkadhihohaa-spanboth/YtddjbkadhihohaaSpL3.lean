/- The law SpanSkew, walked. -/
import Derived.Test.YtddjbkadhihohaaSpL2
namespace Go.Proofs.Ytddjbkadhihohaa
open Go.RowKit
namespace Sp

theorem chk_zero {a b t s : Int} : chk a b t s = 0 ↔ vld a b = true ∧ ok t = true ∧ ok s = true ∧ a ≤ t + s ∧ t - s < b := by
  unfold chk
  by_cases hc : (vld a b && (ok t && ok s)) = true
  · rw [if_pos hc]
    simp only [Bool.and_eq_true] at hc
    by_cases h1 : t + s < a
    · rw [if_pos h1]
      constructor
      · intro h; exact absurd h (by decide)
      · rintro ⟨-, -, -, h, -⟩; omega
    · rw [if_neg h1]
      by_cases h2 : b ≤ t - s
      · rw [if_pos h2]
        constructor
        · intro h; exact absurd h (by decide)
        · rintro ⟨-, -, -, -, h⟩; omega
      · rw [if_neg h2]
        exact ⟨fun _ => ⟨hc.1, hc.2.1, hc.2.2, by omega, by omega⟩, fun _ => rfl⟩
  · rw [if_neg hc]
    constructor
    · intro h; exact absurd h (by decide)
    · rintro ⟨h1, h2, h3, -, -⟩
      rw [h1, h2, h3] at hc
      exact absurd rfl hc
theorem chk_more {a b t s m : Int} (h0 : 0 ≤ s) (h1 : s ≤ m) (h2 : m ≤ 1099511627776) (h : chk a b t s = 0) : chk a b t m = 0 := by
  obtain ⟨v, o1, o2, g1, g2⟩ := chk_zero.1 h
  exact chk_zero.2 ⟨v, o1, ok_iff.2 (by omega), by omega, by omega⟩
theorem chk_cut {a b t s n : Int} (hc : (ctt a b n).2 = 0) (h : chk (ctt a b n).1.1 (ctt a b n).1.2 t s = 0) : chk a b t s = 0 := by
  obtain ⟨v1, o1, l1, r1⟩ := ctt_zero hc
  rw [r1] at h
  obtain ⟨v, o2, o3, g1, g2⟩ := chk_zero.1 h
  simp only at *
  exact chk_zero.2 ⟨v1, o2, o3, by omega, by omega⟩
theorem ctt_err {a b n : Int} (h : (ctt a b n).2 ≠ 0) : (ctt a b n).1 = (0, 0) := by
  unfold ctt lft at h ⊢
  by_cases hc : (vld a b && ok n) = true
  · rw [if_pos hc] at h ⊢
    by_cases hd : (vld a (min b (a + n)) && decide (a < min b (a + n))) = true
    · rw [if_pos hd] at h; simp at h
    · rw [if_neg hd]
  · rw [if_neg hc]
theorem sub_in (a b : Int) (h1 : 0 ≤ a) (h2 : a ≤ b) (h3 : b ≤ 1099511627776) : IntKind.i64.wrap (b - a) = b - a := IntWalk.i64_in _ (by omega)

set_option maxHeartbeats 4000000 in
set_option maxRecDepth 100000 in
theorem spanSkew_walk (p q n t s m : Int) (w : World) :
    Calls Try.prog 5 #[sv p q, .int .i64 n, .int .i64 t, .int .i64 s, .int .i64 m] w fun r w' => r = .returned (.bool true) ∧ Below w.heap.size w w' := by
  have HN := Lib.hid (kb1 w #[.int .i64 p, .int .i64 q])
  have HX := Lib.hid (Check_any p q t s)
  have HY := Lib.hid (Check_any p q t m)
  have HC := Lib.hid (Cut_any p q n)
  have h5 := fun h0 h1 h2 h => chk_more (a := p) (b := q) (t := t) (s := s) (m := m) h0 h1 h2 h
  have h6 := fun hc h => chk_cut (a := p) (b := q) (t := t) (s := s) (n := n) hc h
  have h7 := fun h => ctt_err (a := p) (b := q) (n := n) h
  have h8 := fun h => ctt_zero (a := p) (b := q) (n := n) h
  have h9 : vld p q = true → 0 ≤ p ∧ p ≤ q ∧ q ≤ 1099511627776 := fun h => vld_iff.1 h
  generalize ctt p q n = c at *
  obtain ⟨⟨c1, c2⟩, ce⟩ := c
  simp only at h6 h7 h8
  have HK := Lib.hid (Check_any c1 c2 t s)
  generalize chk p q t s = e at *
  generalize chk p q t m = f at *
  generalize chk c1 c2 t s = k at *
  have H5 := Lib.hid h5
  have H6 := Lib.hid h6
  have H7 := Lib.hid h7
  have H8 := Lib.hid h8
  have H9 := Lib.hid h9
  clear h5 h6 h7 h8 h9
  unfold tv sv at *
  go_enter Try.func5, Try.ntmps5
  go_wp2_with fail
  generalize w.alloc (.cells #[.int .i64 p, .int .i64 q] 23) = W at *
  refine (works_any W).mono ?_
  rintro _ w1 ⟨rfl, hb1⟩
  have HN1 := Lib.hid (HN.out.next hb1)
  clear HN hb1
  by_cases hs : s < 0
  · have e1 : decide (s < 0) = true := decide_eq_true hs
    clear hs
    go_wp2
    go_ret
    exact ⟨rfl, HN1.out.1⟩
  · have e1 : decide (s < 0) = false := decide_eq_false hs
    by_cases hm : m < s
    · have e2 : decide (m < s) = true := decide_eq_true hm
      clear hm hs
      go_wp2
      go_ret
      exact ⟨rfl, HN1.out.1⟩
    · have e2 : decide (m < s) = false := decide_eq_false hm
      by_cases hM : m > 1099511627776
      · have e3 : decide (m > 1099511627776) = true := decide_eq_true hM
        clear hm hs hM
        go_wp2
        go_ret
        exact ⟨rfl, HN1.out.1⟩
      · have e3 : decide (m > 1099511627776) = false := decide_eq_false hM
        have hef : e = 0 → f = 0 := H5.out (by omega) (by omega) (by omega)
        have HEF := Lib.hid hef
        clear hm hs hM hef H5
        obtain ⟨c0, c1'⟩ := HN1.out.cell w.heap.size (.int .i64 p) (.int .i64 q) (by simp)
        go_wp2_with fail
        refine (HX.out _).mono ?_
        rintro _ w2 ⟨rfl, hb2⟩
        have HN2 := Lib.hid (HN1.out.next hb2)
        clear HN1 hb2 c0 c1' HX e1 e2 e3
        obtain ⟨c0, c1'⟩ := HN2.out.cell w.heap.size (.int .i64 p) (.int .i64 q) (by simp)
        go_wp2_with fail
        refine (HY.out _).mono ?_
        rintro _ w3 ⟨rfl, hb3⟩
        have HN3 := Lib.hid (HN2.out.next hb3)
        clear HN2 hb3 c0 c1' HY
        obtain ⟨c0, c1'⟩ := HN3.out.cell w.heap.size (.int .i64 p) (.int .i64 q) (by simp)
        by_cases he : e = 0
        · obtain rfl := HEF.out he
          subst he
          clear HEF
          go_wp2_with fail
          refine (HC.out _).mono ?_
          rintro _ w4 ⟨rfl, hb4⟩
          have HN4 := Lib.hid ((HN3.out.next hb4).add #[.int .i64 c1, .int .i64 c2])
          clear HN3 hb4 c0 c1' HC
          obtain ⟨g1, hg1⟩ : ∃ g, g = w4.heap.size := ⟨_, rfl⟩
          have HG1 := Lib.hid hg1
          rw [← hg1] at HN4
          clear hg1
          by_cases hce : ce = 0
          · subst hce
            obtain ⟨v1, v2, v3, v4⟩ := H8.out rfl
            simp only [Prod.mk.injEq] at v4
            obtain ⟨v9, v10, v11⟩ := H9.out v1
            have vn := ok_iff.1 v2
            obtain ⟨rfl, hc2⟩ := v4
            have q1 : decide (c2 ≤ q) = true := decide_eq_true (by omega)
            have q2 : decide (c2 > c1) = true := decide_eq_true (by omega)
            have q3 : IntKind.i64.wrap (c2 - c1) = c2 - c1 := sub_in _ _ (by omega) (by omega) (by omega)
            have q4 : decide (c2 - c1 ≤ n) = true := decide_eq_true (by omega)
            have Q3 := Lib.hid q3
            have HKE : Hid (k = 0 → True) := fun h => trivial
            clear hc2 v1 v2 v3 v9 v10 v11 vn H6 H7 H8 H9
            obtain ⟨c0, c1'⟩ := HN4.out.cell w.heap.size (.int .i64 c1) (.int .i64 q) (by simp)
            obtain ⟨c2', c3'⟩ := HN4.out.cell g1 (.int .i64 c1) (.int .i64 c2) (by simp)
            go_wp2_with fail
            refine (HK.out _).mono ?_
            rintro _ w5 ⟨rfl, hb5⟩
            have HN5 := Lib.hid (HN4.out.next hb5)
            clear HN4 hb5 c0 c1' c2' c3' HK q1 q2 q3 q4 Q3
            by_cases hk : k = 0
            · subst hk
              go_wp2
              go_ret
              exact ⟨rfl, HN5.out.1⟩
            · have k1 : (k != 0) = true := by simpa using hk
              have k2 : (k == 0) = false := by simpa using hk
              clear hk
              go_wp2
              go_ret
              exact ⟨rfl, HN5.out.1⟩
          · have hh := H7.out hce
            simp only [Prod.mk.injEq] at hh
            obtain ⟨rfl, rfl⟩ := hh
            have y1 : (ce != 0) = true := by simpa using hce
            have y2 : (ce == 0) = false := by simpa using hce
            clear H6 H7 H8 H9 hce HK
            obtain ⟨c2', c3'⟩ := HN4.out.cell g1 (.int .i64 0) (.int .i64 0) (by simp)
            go_wp2
            go_ret
            exact ⟨rfl, HN4.out.1⟩
        · have x1 : (e != 0) = true := by simpa using he
          have x2 : (e == 0) = false := by simpa using he
          clear HEF
          go_wp2_with fail
          refine (HC.out _).mono ?_
          rintro _ w4 ⟨rfl, hb4⟩
          have HN4 := Lib.hid ((HN3.out.next hb4).add #[.int .i64 c1, .int .i64 c2])
          clear HN3 hb4 c0 c1' HC
          obtain ⟨g1, hg1⟩ : ∃ g, g = w4.heap.size := ⟨_, rfl⟩
          have HG1 := Lib.hid hg1
          rw [← hg1] at HN4
          clear hg1
          by_cases hce : ce = 0
          · subst hce
            obtain ⟨v1, v2, v3, v4⟩ := H8.out rfl
            simp only [Prod.mk.injEq] at v4
            obtain ⟨v9, v10, v11⟩ := H9.out v1
            have vn := ok_iff.1 v2
            obtain ⟨rfl, hc2⟩ := v4
            have q1 : decide (c2 ≤ q) = true := decide_eq_true (by omega)
            have q2 : decide (c2 > c1) = true := decide_eq_true (by omega)
            have q3 : IntKind.i64.wrap (c2 - c1) = c2 - c1 := sub_in _ _ (by omega) (by omega) (by omega)
            have q4 : decide (c2 - c1 ≤ n) = true := decide_eq_true (by omega)
            have Q3 := Lib.hid q3
            have HKE : Hid (k = 0 → e = 0) := fun h => H6.out rfl h
            clear hc2 v1 v2 v3 v9 v10 v11 vn H6 H7 H8 H9
            obtain ⟨c0, c1'⟩ := HN4.out.cell w.heap.size (.int .i64 c1) (.int .i64 q) (by simp)
            obtain ⟨c2', c3'⟩ := HN4.out.cell g1 (.int .i64 c1) (.int .i64 c2) (by simp)
            go_wp2_with fail
            refine (HK.out _).mono ?_
            rintro _ w5 ⟨rfl, hb5⟩
            have HN5 := Lib.hid (HN4.out.next hb5)
            clear HN4 hb5 c0 c1' c2' c3' HK q1 q2 q3 q4 Q3
            by_cases hk : k = 0
            · exact absurd (HKE.out hk) he
            · have k1 : (k != 0) = true := by simpa using hk
              have k2 : (k == 0) = false := by simpa using hk
              clear hk
              go_wp2
              go_ret
              exact ⟨rfl, HN5.out.1⟩
          · have hh := H7.out hce
            simp only [Prod.mk.injEq] at hh
            obtain ⟨rfl, rfl⟩ := hh
            have y1 : (ce != 0) = true := by simpa using hce
            have y2 : (ce == 0) = false := by simpa using hce
            clear H6 H7 H8 H9 hce HK
            obtain ⟨c2', c3'⟩ := HN4.out.cell g1 (.int .i64 0) (.int .i64 0) (by simp)
            go_wp2
            go_ret
            exact ⟨rfl, HN4.out.1⟩
end Sp
end Go.Proofs.Ytddjbkadhihohaa
