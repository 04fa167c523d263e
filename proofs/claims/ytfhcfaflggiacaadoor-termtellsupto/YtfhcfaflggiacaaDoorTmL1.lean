/- TermOnce. -/
import Derived.Test.YtfhcfaflggiacaaDoorTmW13
import Derived.Test.YtfhcfaflggiacaaDoorTmQ
import Derived.Lib.QuietBelow
namespace Go.Proofs.YtfhcfaflggiacaaDoor
open Go.RowKit
open Tt

/-- A text is no longer than so. -/
theorem jn_sum : ∀ (l : List Tm), (∀ x ∈ l, (text x).length + 1 ≤ 41 * bk x) → (jn (texts l)).length ≤ 41 * bks l
  | [], _ => by simp [texts, jn]
  | x :: r, h => by
    have h1 := h x (by simp)
    have hp : ∀ (r : List Tm), (∀ x ∈ r, (text x).length + 1 ≤ 41 * bk x) → (pj (texts r)).length ≤ 41 * bks r := by
      intro r
      induction r with
      | nil => intro _; simp [texts, pj]
      | cons y q ih =>
        intro hy
        have e1 := hy y (by simp)
        have e2 := ih (fun z hz => hy z (by simp [hz]))
        rw [texts, bks]
        simp [pj] at e2 ⊢
        omega
    have h2 := hp r (fun z hz => h z (by simp [hz]))
    rw [texts, jn_pj, bks, List.length_append]
    omega
theorem tx_len (w : World) (S : Nat → Prop) : ∀ x v, Rep w S x v → (text x).length + 1 ≤ 41 * bk x := Tm.ind (by
  intro k s n l ih v hr
  obtain ⟨A, ca, -, hn, hrow⟩ := rep_mk.1 hr
  have hit := itoa_len n hn
  have hl : ∀ x ∈ l, (text x).length + 1 ≤ 41 * bk x := by
    intro x hx
    obtain ⟨i, hi, rfl⟩ := List.getElem_of_mem hx
    rcases hrow with h | ⟨b, o, -, -, hreps⟩
    · rw [h] at hi; simp at hi
    · obtain ⟨v0, v1, v2, v3, -, -, -, -, hrep⟩ := reps_at l b o i _ hreps (List.getElem?_eq_getElem hi)
      exact ih _ (List.getElem_mem hi) _ hrep
  have hj := jn_sum l hl
  have hk : ∀ h : List UInt8, h.length ≤ 5 → (ky h n (texts l)).length + 1 ≤ 41 * (1 + s.length + bks l) := by
    intro h h5
    by_cases h2 : l.length = 2
    · obtain ⟨x, y, rfl, e⟩ := ky_two h n l h2
      rw [e]
      have e1 := hl x (by simp)
      have e2 := hl y (by simp)
      simp [bks]
      omega
    · rw [ky_not h n l h2]
      simp; omega
  rw [text, bk, tx]
  split
  · omega
  · split
    · omega
    · split
      · simp; omega
      · split
        · simp; omega
        · split
          · exact hk _ (by simp)
          · split
            · exact hk _ (by simp)
            · simp; omega)

set_option maxHeartbeats 2000000 in
set_option maxRecDepth 100000 in
theorem termOnce_walk (x y : Tm) (vx vy : Value) (w : World) (hkx : bk x ≤ 1048576) (hky : bk y ≤ 1048576) (rx : Rep w (Lo w) x vx) (ry : Rep w (Lo w) y vy) (htab : TabB w.heap.size w) :
    Calls Tryd.prog 6 #[vx, vy] w fun e w' => e = .returned (.bool true) ∧ Below w.heap.size w w' := by
  have htx := tx_len w _ x vx rx
  have hty := tx_len w _ y vy ry
  have hsx := sz_le_bk x
  have hsy := sz_le_bk y
  have HX : Hid (∀ W, Below w.heap.size w W → Rep W (Lo W) x vx) := fun W h => rx.lo h
  have HY : Hid (∀ W, Below w.heap.size w W → Rep W (Lo W) y vy) := fun W h => ry.lo h
  have HT := Lib.hid htab
  have hlx := fun W h => Large_any x 200 (Lo W) vx W (by omega) (HX.out W h) (fun _ h => h)
  have hly := fun W h => Large_any y 200 (Lo W) vy W (by omega) (HY.out W h) (fun _ h => h)
  obtain ⟨k1, s1, n1, l1⟩ := x
  obtain ⟨k2, s2, n2, l2⟩ := y
  obtain ⟨A1, ca1, rfl, -, -⟩ := rep_mk.1 rx
  obtain ⟨A2, ca2, rfl, -, -⟩ := rep_mk.1 ry
  obtain ⟨z, hz⟩ : ∃ z, z = w.heap.size := ⟨_, rfl⟩
  obtain ⟨W2, hW2⟩ : ∃ W2, W2 = ((w.alloc (.cells #[.int .i64 k1, .string ⟨⟨s1⟩⟩, .int .i64 n1, .slice A1 l1.length ca1] 25)).alloc (.cells #[.int .i64 k2, .string ⟨⟨s2⟩⟩, .int .i64 n2, .slice A2 l2.length ca2] 25)) := ⟨_, rfl⟩
  have hB2 : Below w.heap.size w W2 := by rw [hW2]; exact ((Below.refl _ _).alloc (Nat.le_refl _) _).alloc (by simp) _
  have hs2 : W2.heap.size = z + 2 := by rw [hW2, hz]; simp
  have hg0 : W2.heap[z]? = some (.cells #[.int .i64 k1, .string ⟨⟨s1⟩⟩, .int .i64 n1, .slice A1 l1.length ca1] 25 (0, 0)) := by
    rw [hW2, hz, heap_alloc_old _ _ (by simp)]; exact heap_alloc_new w _
  have hg1 : W2.heap[z + 1]? = some (.cells #[.int .i64 k2, .string ⟨⟨s2⟩⟩, .int .i64 n2, .slice A2 l2.length ca2] 25 (0, 0)) := by
    rw [hW2, hz]
    have := heap_alloc_new (w.alloc (.cells #[.int .i64 k1, .string ⟨⟨s1⟩⟩, .int .i64 n1, .slice A1 l1.length ca1] 25)) (.cells #[.int .i64 k2, .string ⟨⟨s2⟩⟩, .int .i64 n2, .slice A2 l2.length ca2] 25)
    rwa [World.size_alloc] at this
  -- whatever world comes later: the boxes, and the terms
  have HC : Hid (∀ W, Below W2.heap.size W2 W → Below w.heap.size w W ∧ (W.cell? ⟨z, 0, none⟩ = some (.int .i64 k1) ∧ W.cell? ⟨z, 1, none⟩ = some (.string ⟨⟨s1⟩⟩) ∧ W.cell? ⟨z, 2, none⟩ = some (.int .i64 n1) ∧ W.cell? ⟨z, 3, none⟩ = some (.slice A1 l1.length ca1)) ∧ (W.cell? ⟨z + 1, 0, none⟩ = some (.int .i64 k2) ∧ W.cell? ⟨z + 1, 1, none⟩ = some (.string ⟨⟨s2⟩⟩) ∧ W.cell? ⟨z + 1, 2, none⟩ = some (.int .i64 n2) ∧ W.cell? ⟨z + 1, 3, none⟩ = some (.slice A2 l2.length ca2))) := fun W h =>
    ⟨hB2.trans (h.mono hB2.size), cell4 ((h.block z (by omega)).trans hg0), cell4 ((h.block (z + 1) (by omega)).trans hg1)⟩
  have HWK := Lib.hid (works_any W2 (htab.up hB2))
  have HLX := Lib.hid hlx
  have HLY := Lib.hid hly
  have HW2 := Lib.hid hW2
  have HZ := Lib.hid hz
  clear rx ry htab hlx hly hW2 hz hB2 hs2 hg0 hg1
  go_enter Tryd.func6, Tryd.ntmps6
  go_wp2_with fail
  rw [← HW2.out, ← HZ.out]
  refine HWK.out.mono ?_
  rintro _ w3 ⟨rfl, b3⟩
  have HB3 := Lib.hid b3
  obtain ⟨hb, ⟨c0, c1, c2, c3⟩, ⟨d0, d1, d2, d3⟩⟩ := HC.out w3 b3
  have HL1 := Lib.hid (HLX.out w3 hb)
  clear b3 hb HWK
  go_wp2_with fail
  refine HL1.out.mono ?_
  rintro _ w4 ⟨rfl, b4⟩
  have HB4 : Hid (Below W2.heap.size W2 w4) := HB3.out.trans (b4.mono HB3.out.size)
  clear c0 c1 c2 c3 d0 d1 d2 d3 HL1 b4
  obtain ⟨hb, ⟨c0, c1, c2, c3⟩, ⟨d0, d1, d2, d3⟩⟩ := HC.out w4 HB4.out
  have HL2 := Lib.hid (HLY.out w4 hb)
  clear hb HB3
  obtain ⟨B1, hB1⟩ : ∃ B1, B1 = decide (200 < sz (Tm.mk k1 s1 n1 l1)) := ⟨_, rfl⟩
  obtain ⟨B2, hB2⟩ : ∃ B2, B2 = decide (200 < sz (Tm.mk k2 s2 n2 l2)) := ⟨_, rfl⟩
  rw [← hB1]
  rw [← hB2] at HL2
  have HB1Q := Lib.hid hB1
  have HB2Q := Lib.hid hB2
  clear hB1 hB2
  go_wp2_with fail
  refine HL2.out.mono ?_
  rintro _ w5 ⟨rfl, b5⟩
  have HB5 : Hid (Below W2.heap.size W2 w5) := HB4.out.trans (b5.mono HB4.out.size)
  clear c0 c1 c2 c3 d0 d1 d2 d3 HL2 b5 HB4
  obtain ⟨hb5, ⟨c0, c1, c2, c3⟩, ⟨d0, d1, d2, d3⟩⟩ := HC.out w5 HB5.out
  have HBW5 := Lib.hid hb5
  clear hb5
  by_cases hlarge : (B1 || B2) = true
  · cases B1
    · cases B2
      · cases hlarge
      · go_wp2
        go_ret
        exact ⟨rfl, HBW5.out⟩
    · go_wp2
      go_ret
      exact ⟨rfl, HBW5.out⟩
  · obtain rfl : B1 = false := by cases B1 <;> simp_all
    obtain rfl : B2 = false := by cases B2 <;> simp_all
    have hx200 : sz (Tm.mk k1 s1 n1 l1) ≤ 200 := by have := HB1Q.out; simpa using this
    have hy200 : sz (Tm.mk k2 s2 n2 l2) ≤ 200 := by have := HB2Q.out; simpa using this
    have cTX : ∀ d os, Calls Tryd.prog 19 #[.agg #[.int .i64 k1, .string ⟨⟨s1⟩⟩, .int .i64 n1, .slice A1 l1.length ca1]] (Go.Sort.grow (redrawn w5 d) os) fun e w'' => e = .returned (.string ⟨⟨text (.mk k1 s1 n1 l1)⟩⟩) ∧ ∃ p : Regrown, w'' = Go.Sort.grow (redrawn w5 p.d) p.os := fun d os => Calls.regrown_of (Text_any (.mk k1 s1 n1 l1) (Lo _) _ _ (by omega) (HX.out _ (HBW5.out.trans ((below_regrown w5 d os).mono HBW5.out.size))) (fun _ h => h) (by omega) (HT.out.up (HBW5.out.trans ((below_regrown w5 d os).mono HBW5.out.size))))
    have cTY : ∀ d os, Calls Tryd.prog 19 #[.agg #[.int .i64 k2, .string ⟨⟨s2⟩⟩, .int .i64 n2, .slice A2 l2.length ca2]] (Go.Sort.grow (redrawn w5 d) os) fun e w'' => e = .returned (.string ⟨⟨text (.mk k2 s2 n2 l2)⟩⟩) ∧ ∃ p : Regrown, w'' = Go.Sort.grow (redrawn w5 p.d) p.os := fun d os => Calls.regrown_of (Text_any (.mk k2 s2 n2 l2) (Lo _) _ _ (by omega) (HY.out _ (HBW5.out.trans ((below_regrown w5 d os).mono HBW5.out.size))) (fun _ h => h) (by omega) (HT.out.up (HBW5.out.trans ((below_regrown w5 d os).mono HBW5.out.size))))
    have hsame := fun W h => Same_any (.mk k1 s1 n1 l1) (.mk k2 s2 n2 l2) (Lo W) _ _ W (by omega) (HX.out W h) (HY.out W h) (fun _ h => h)
    have hdx := fun W h => digits_any (.mk k1 s1 n1 l1) (Lo W) _ W (by omega) (HX.out W h) (fun _ h => h)
    have hdy := fun W h => digits_any (.mk k2 s2 n2 l2) (Lo W) _ W (by omega) (HY.out W h) (fun _ h => h)
    have hvx := fun W h => Valid_any (.mk k1 s1 n1 l1) (Lo W) _ W (by omega) (HX.out W h) (fun _ h => h)
    have hvy := fun W h => Valid_any (.mk k2 s2 n2 l2) (Lo W) _ W (by omega) (HY.out W h) (fun _ h => h)
    have hoz := ord_zero (.mk k1 s1 n1 l1) (.mk k2 s2 n2 l2)
    have honce := text_once (x := .mk k1 s1 n1 l1) (y := .mk k2 s2 n2 l2) (d := 0) (d' := 0)
    obtain ⟨E, hE⟩ : ∃ E, E = decide (text (.mk k1 s1 n1 l1) = text (.mk k2 s2 n2 l2)) := ⟨_, rfl⟩
    obtain ⟨sm, hsm⟩ : ∃ sm, sm = decide (ord (.mk k1 s1 n1 l1) (.mk k2 s2 n2 l2) = 0) := ⟨_, rfl⟩
    obtain ⟨G1, hG1⟩ : ∃ G1, G1 = dg (.mk k1 s1 n1 l1) := ⟨_, rfl⟩
    obtain ⟨G2, hG2⟩ : ∃ G2, G2 = dg (.mk k2 s2 n2 l2) := ⟨_, rfl⟩
    obtain ⟨V1, hV1⟩ : ∃ V1, V1 = vld 0 (.mk k1 s1 n1 l1) := ⟨_, rfl⟩
    obtain ⟨V2, hV2⟩ : ∃ V2, V2 = vld 0 (.mk k2 s2 n2 l2) := ⟨_, rfl⟩
    rw [← hsm] at hsame
    rw [← hG1] at hdx
    rw [← hG2] at hdy
    rw [← hV1] at hvx
    rw [← hV2] at hvy
    have HSE : Hid (sm = true → E = true) := by
      intro h
      rw [hsm] at h
      have := hoz.1 (by simpa using h)
      rw [hE, this]; simp
    have HCON : Hid (G1 = false → G2 = false → V1 = true → V2 = true → E = true → sm = false → False) := by
      intro e1 e2 e3 e4 e5 e6
      rw [hE] at e5
      have := honce (by rw [← hV1]; exact e3) (by rw [← hV2]; exact e4) (by rw [← hG1]; exact e1) (by rw [← hG2]; exact e2) (by simpa using e5)
      rw [hsm] at e6
      have h2 := hoz.2 this
      simp [h2] at e6
    have hEq : (text (.mk k1 s1 n1 l1) == text (.mk k2 s2 n2 l2)) = E := by rw [hE, Bool.eq_iff_iff]; simp
    have HSM := Lib.hid hsame
    have HDX := Lib.hid hdx
    have HDY := Lib.hid hdy
    have HVX := Lib.hid hvx
    have HVY := Lib.hid hvy
    clear hsame hdx hdy hvx hvy hE hsm hG1 hG2 hV1 hV2 hoz honce hx200 hy200 HB1Q HB2Q htx hty hsx hsy hkx hky HLX HLY hlarge
    generalize text (.mk k1 s1 n1 l1) = T1 at *
    generalize text (.mk k2 s2 n2 l2) = T2 at *
    have e0 := fun d os => cell_regrown c0 d os
    have e1 := fun d os => cell_regrown c1 d os
    have e2 := fun d os => cell_regrown c2 d os
    have e3 := fun d os => cell_regrown c3 d os
    have f0 := fun d os => cell_regrown d0 d os
    have f1 := fun d os => cell_regrown d1 d os
    have f2 := fun d os => cell_regrown d2 d os
    have f3 := fun d os => cell_regrown d3 d os
    go_wp2_with fail
    refine wp_region_quiet_below (by kernel_rfl) (by kernel_rfl) ?_
    repeat (quiet_step (first | exact cTX _ _ | exact cTY _ _))
    refine wpQuiet_nil ?_
    intro _ hw'
    obtain ⟨⟨dq, osq⟩, hw''⟩ := hw'
    subst hw''
    have b6 := below_regrown w5 dq osq
    clear e0 e1 e2 e3 f0 f1 f2 f3 cTX cTY
    generalize Go.Sort.grow (redrawn w5 dq) osq = w6 at *
    have HB6 : Hid (Below W2.heap.size W2 w6) := HB5.out.trans (b6.mono HB5.out.size)
    clear c0 c1 c2 c3 d0 d1 d2 d3 b6 HBW5 HB5
    obtain ⟨hb6, ⟨c0, c1, c2, c3⟩, ⟨d0, d1, d2, d3⟩⟩ := HC.out w6 HB6.out
    have HS6 := Lib.hid (HSM.out w6 hb6)
    clear hb6
    go_wp2_with fail
    refine HS6.out.mono ?_
    rintro _ w7 ⟨rfl, b7⟩
    have HB7 : Hid (Below W2.heap.size W2 w7) := HB6.out.trans (b7.mono HB6.out.size)
    clear c0 c1 c2 c3 d0 d1 d2 d3 b7 HS6 HB6
    obtain ⟨hb7, ⟨c0, c1, c2, c3⟩, ⟨d0, d1, d2, d3⟩⟩ := HC.out w7 HB7.out
    have HBW7 := Lib.hid hb7
    clear hb7
    cases E
    · cases sm
      · have HD1 := Lib.hid (HDX.out w7 HBW7.out)
        go_wp2_with fail
        refine HD1.out.mono ?_
        rintro _ w8 ⟨rfl, b8⟩
        have HB8 : Hid (Below W2.heap.size W2 w8) := HB7.out.trans (b8.mono HB7.out.size)
        clear c0 c1 c2 c3 d0 d1 d2 d3 b8 HD1
        obtain ⟨hb8, ⟨c0, c1, c2, c3⟩, ⟨d0, d1, d2, d3⟩⟩ := HC.out w8 HB8.out
        have HBW8 := Lib.hid hb8
        clear hb8
        cases G1
        · have HD2 := Lib.hid (HDY.out w8 HBW8.out)
          go_wp2_with fail
          refine HD2.out.mono ?_
          rintro _ w9 ⟨rfl, b9⟩
          have HB9 : Hid (Below W2.heap.size W2 w9) := HB8.out.trans (b9.mono HB8.out.size)
          clear c0 c1 c2 c3 d0 d1 d2 d3 b9 HD2
          obtain ⟨hb9, ⟨c0, c1, c2, c3⟩, ⟨d0, d1, d2, d3⟩⟩ := HC.out w9 HB9.out
          have HBW9 := Lib.hid hb9
          clear hb9
          cases G2
          · go_wp2
            go_ret
            exact ⟨rfl, HBW9.out⟩
          · go_wp2
            go_ret
            exact ⟨rfl, HBW9.out⟩
        · go_wp2
          go_ret
          exact ⟨rfl, HBW8.out⟩
      · exact absurd (HSE.out rfl) (by simp)
    · cases sm
      · have HD1 := Lib.hid (HDX.out w7 HBW7.out)
        go_wp2_with fail
        refine HD1.out.mono ?_
        rintro _ w8 ⟨rfl, b8⟩
        have HB8 : Hid (Below W2.heap.size W2 w8) := HB7.out.trans (b8.mono HB7.out.size)
        clear c0 c1 c2 c3 d0 d1 d2 d3 b8 HD1
        obtain ⟨hb8, ⟨c0, c1, c2, c3⟩, ⟨d0, d1, d2, d3⟩⟩ := HC.out w8 HB8.out
        have HBW8 := Lib.hid hb8
        clear hb8
        cases G1
        · have HD2 := Lib.hid (HDY.out w8 HBW8.out)
          go_wp2_with fail
          refine HD2.out.mono ?_
          rintro _ w9 ⟨rfl, b9⟩
          have HB9 : Hid (Below W2.heap.size W2 w9) := HB8.out.trans (b9.mono HB8.out.size)
          clear c0 c1 c2 c3 d0 d1 d2 d3 b9 HD2
          obtain ⟨hb9, ⟨c0, c1, c2, c3⟩, ⟨d0, d1, d2, d3⟩⟩ := HC.out w9 HB9.out
          have HBW9 := Lib.hid hb9
          clear hb9
          cases G2
          · have HV1 := Lib.hid (HVX.out w9 HBW9.out)
            go_wp2_with fail
            refine HV1.out.mono ?_
            rintro _ w10 ⟨rfl, b10⟩
            have HB10 : Hid (Below W2.heap.size W2 w10) := HB9.out.trans (b10.mono HB9.out.size)
            clear c0 c1 c2 c3 d0 d1 d2 d3 b10 HV1
            obtain ⟨hb10, ⟨c0, c1, c2, c3⟩, ⟨d0, d1, d2, d3⟩⟩ := HC.out w10 HB10.out
            have HBW10 := Lib.hid hb10
            clear hb10
            cases V1
            · go_wp2
              go_ret
              exact ⟨rfl, HBW10.out⟩
            · have HV2 := Lib.hid (HVY.out w10 HBW10.out)
              go_wp2_with fail
              refine HV2.out.mono ?_
              rintro _ w11 ⟨rfl, b11⟩
              have HB11 : Hid (Below w.heap.size w w11) := HBW10.out.trans (b11.mono HBW10.out.size)
              clear c0 c1 c2 c3 d0 d1 d2 d3 b11 HV2
              cases V2
              · go_wp2
                go_ret
                exact ⟨rfl, HB11.out⟩
              · have hcon := HCON.out
                simp at hcon
          · go_wp2
            go_ret
            exact ⟨rfl, HBW9.out⟩
        · go_wp2
          go_ret
          exact ⟨rfl, HBW8.out⟩
      · have HD1 := Lib.hid (HDX.out w7 HBW7.out)
        go_wp2_with fail
        refine HD1.out.mono ?_
        rintro _ w8 ⟨rfl, b8⟩
        have HB8 : Hid (Below W2.heap.size W2 w8) := HB7.out.trans (b8.mono HB7.out.size)
        clear c0 c1 c2 c3 d0 d1 d2 d3 b8 HD1
        obtain ⟨hb8, ⟨c0, c1, c2, c3⟩, ⟨d0, d1, d2, d3⟩⟩ := HC.out w8 HB8.out
        have HBW8 := Lib.hid hb8
        clear hb8
        cases G1
        · have HD2 := Lib.hid (HDY.out w8 HBW8.out)
          go_wp2_with fail
          refine HD2.out.mono ?_
          rintro _ w9 ⟨rfl, b9⟩
          have HB9 : Hid (Below W2.heap.size W2 w9) := HB8.out.trans (b9.mono HB8.out.size)
          clear c0 c1 c2 c3 d0 d1 d2 d3 b9 HD2
          obtain ⟨hb9, ⟨c0, c1, c2, c3⟩, ⟨d0, d1, d2, d3⟩⟩ := HC.out w9 HB9.out
          have HBW9 := Lib.hid hb9
          clear hb9
          cases G2
          · go_wp2
            go_ret
            exact ⟨rfl, HBW9.out⟩
          · go_wp2
            go_ret
            exact ⟨rfl, HBW9.out⟩
        · go_wp2
          go_ret
          exact ⟨rfl, HBW8.out⟩
end Go.Proofs.YtfhcfaflggiacaaDoor
