/- The document's Text. -/
import Derived.Test.YtfhcfaflggiacaaDoorTmV9
import Derived.Test.YtfhcfaflggiacaaDoorTmL1
namespace Go.Proofs.YtfhcfaflggiacaaDoor
open Go.RowKit
open Tt

theorem str_app (a b : List UInt8) : ByteArray.mk ⟨a⟩ ++ ByteArray.mk ⟨b⟩ = ⟨⟨a ++ b⟩⟩ := by
  apply ByteArray.ext
  rw [ByteArray.data_append]
  apply Array.toList_inj.1
  simp
theorem ret_s {a b : List UInt8} (h : a = b) : Ending.returned (.string ⟨⟨a⟩⟩) = .returned (.string ⟨⟨b⟩⟩) := by rw [h]

theorem ret_a {a b : ByteArray} (h : a = b) : Ending.returned (.string a) = .returned (.string b) := by rw [h]

def RTextSaid (x : Tm) : Prop := ∀ (S : Nat → Prop) (v : Value) (w : World), bk x ≤ 4000000 → Rep w S x v → (∀ b, S b → b < w.heap.size) →
  Calls Tryd.prog 20 #[v] w fun e w' => e = .returned (.string ⟨⟨text x⟩⟩) ∧ Below w.heap.size w w'

set_option maxHeartbeats 8000000 in
set_option maxRecDepth 100000 in
theorem refText_any : ∀ x, RTextSaid x := Tm.ind (by
  intro k s n l ih S v w hbk hrx hS
  have htl := tx_len w S _ _ hrx
  obtain ⟨A, ca, rfl, hin, hr⟩ := rep_mk.1 hrx
  have hsub : ∀ i (h : i < l.length), (text l[i]).length + 1 ≤ 41 * bk l[i] := by
    intro i h
    obtain ⟨b, o, k1, s1, n1, q1, B1, cb1, -, -, hx, -, -, -, -, hrep⟩ := trow_get hr (Below.refl _ _) hS h
    rw [hx]
    exact tx_len w S _ _ hrep
  rw [bk] at hbk htl
  have hll := bks_len l
  obtain ⟨R, hR⟩ : ∃ R, R = text (.mk k s n l) := ⟨_, rfl⟩
  rw [← hR] at htl ⊢
  rw [text] at hR
  have hD := refDigits_any n hin
  have hDl := itoa_len n hin
  obtain ⟨D, hDD⟩ : ∃ D, D = Lib.itoa n := ⟨_, rfl⟩
  rw [← hDD] at hD hDl
  obtain ⟨m, hm⟩ : ∃ m, m = l.length := ⟨_, rfl⟩
  obtain ⟨z, hz⟩ : ∃ z, z = w.heap.size := ⟨_, rfl⟩
  obtain ⟨W2, hW2⟩ : ∃ W2, W2 = (w.alloc (.cells #[.int .i64 k, .string ⟨⟨s⟩⟩, .int .i64 n, .slice A m ca] 25)) := ⟨_, rfl⟩
  rw [← hm]
  have hB2 : Below w.heap.size w W2 := by rw [hW2]; exact (Below.refl _ _).alloc (Nat.le_refl _) _
  have hs2 : W2.heap.size = z + 1 := by rw [hW2, hz]; simp
  have hg0 : W2.heap[z]? = some (.cells #[.int .i64 k, .string ⟨⟨s⟩⟩, .int .i64 n, .slice A m ca] 25 (0, 0)) := by
    rw [hW2, hz]; exact heap_alloc_new w _
  have HC : Hid (∀ W, Below W2.heap.size W2 W → Below w.heap.size w W ∧ (W.cell? ⟨z, 0, none⟩ = some (.int .i64 k) ∧ W.cell? ⟨z, 1, none⟩ = some (.string ⟨⟨s⟩⟩) ∧ W.cell? ⟨z, 2, none⟩ = some (.int .i64 n) ∧ W.cell? ⟨z, 3, none⟩ = some (.slice A m ca))) := fun W h =>
    ⟨hB2.trans (h.mono hB2.size), cell4 ((h.block z (by omega)).trans hg0)⟩
  obtain ⟨hb2, c0, c1, c2, c3⟩ := HC.out W2 (Below.refl _ _)
  have HR := Lib.hid hr
  have HS := Lib.hid hS
  have HI := Lib.hid ih
  have HM := Lib.hid hm
  have HB2 := Lib.hid hB2
  have HW2 := Lib.hid hW2
  have HZ := Lib.hid hz
  have HBK := Lib.hid hbk
  have HSUB := Lib.hid hsub
  have HDD := Lib.hid hDD
  have HD := Lib.hid hD
  have HRR := Lib.hid hR
  have hm4 : m ≤ 4000000 := by omega
  have hsl : s.length ≤ 4000000 := by omega
  clear hr hrx hS ih hm hz hB2 hs2 hg0 hb2 hbk hD hDD hR hll hsub htl
  have e0 := c0
  have e1 := c1
  have e2 := c2
  have e3 := c3
  rw [hW2, HZ.out] at e0 e1 e2 e3
  clear hW2
  have hk : k = 0 ∨ k = 1 ∨ k = 2 ∨ k = 3 ∨ k = 4 ∨ k = 5 ∨ (k ≠ 0 ∧ k ≠ 1 ∧ k ≠ 2 ∧ k ≠ 3 ∧ k ≠ 4 ∧ k ≠ 5) := by omega
  rcases hk with rfl | rfl | rfl | rfl | rfl | rfl | ⟨k0, k1, k2, k3, k4, k5⟩
  · have HE : Hid (R = s) := by rw [Hid, HRR.out]; simp [tx]
    clear HRR
    go_enter Tryd.func20, Tryd.ntmps20
    go_wp2
    go_ret
    exact ⟨ret_s HE.out.symm, by rw [← HW2.out]; exact HB2.out⟩
  · have HE : Hid (R = D) := by rw [Hid, HRR.out, HDD.out]; simp [tx]
    clear HRR
    go_enter Tryd.func20, Tryd.ntmps20
    go_wp2_with fail
    rw [← HW2.out]
    refine (HD.out _).mono ?_
    rintro _ w1 ⟨rfl, b1⟩
    have HE1 : Hid (Below w.heap.size w w1) := HB2.out.trans (b1.mono HB2.out.size)
    clear b1
    go_wp2
    go_ret
    exact ⟨ret_s HE.out.symm, HE1.out⟩
  · have HE : Hid (R = [107, 101, 121, 40] ++ s ++ [32] ++ D ++ [41]) := by rw [Hid, HRR.out, HDD.out]; simp [tx]
    clear HRR
    have l1 : ¬ 9223372036854775807 < 4 + s.length := by omega
    have l2 : ¬ 9223372036854775807 < 4 + s.length + 1 := by omega
    have l3 : ¬ 9223372036854775807 < 4 + s.length + 1 + D.length := by omega
    have l4 : ¬ 9223372036854775807 < 4 + s.length + 1 + D.length + 1 := by omega
    have cD : ∀ d os, Calls Tryd.prog 52 #[.int .i64 n] (Go.Sort.grow (redrawn W2 d) os) fun e w'' => e = .returned (.string ⟨⟨D⟩⟩) ∧ ∃ p : Regrown, w'' = Go.Sort.grow (redrawn W2 p.d) p.os := fun d os => Calls.regrown_of (HD.out _)
    have g1 := fun d os => cell_regrown c1 d os
    have g2 := fun d os => cell_regrown c2 d os
    go_enter Tryd.func20, Tryd.ntmps20
    go_wp2_with fail
    rw [← HW2.out, ← HZ.out]
    refine wp_region_quiet_below (by kernel_rfl) (by kernel_rfl) ?_
    repeat (quiet_step (exact cD _ _))
    refine wpQuiet_nil ?_
    intro _ hw'
    obtain ⟨⟨dq, osq⟩, hw''⟩ := hw'
    subst hw''
    have b6 := below_regrown W2 dq osq
    have HE1 : Hid (Below w.heap.size w (Go.Sort.grow (redrawn W2 dq) osq)) := HB2.out.trans (b6.mono HB2.out.size)
    clear b6 g1 g2 cD
    generalize Go.Sort.grow (redrawn W2 dq) osq = w6 at *
    go_wp2
    go_ret
    exact ⟨ret_a (by rw [str_app, str_app, str_app, str_app, HE.out]), HE1.out⟩
  · have HE : Hid (R = 91 :: (jn (texts l) ++ [93])) := by rw [Hid, HRR.out]; simp [tx]
    clear HRR
    have HB22 : Hid (Below W2.heap.size W2 W2) := Below.refl _ _
    go_enter Tryd.func20, Tryd.ntmps20
    go_wp2
    rw [← HW2.out, ← HZ.out]
    go_loopw [3, 4] (fun sv iv wr => ∃ i : Nat, i ≤ m ∧ iv = .int .i64 (i : Nat) ∧ sv = .string ⟨⟨91 :: jn (texts (l.take i))⟩⟩ ∧ Hid (Below W2.heap.size W2 wr)) (fun _ iv _ => m - (intOf iv).toNat)
    case atStart => exact ⟨0, by omega, rfl, by simp [texts, jn], HB22⟩
    case round =>
      obtain ⟨i, hi, rfl, rfl, HB⟩ := hrel
      clear c0 c1 c2 c3
      obtain ⟨hbw, c0, c1, c2, c3⟩ := HC.out wr HB.out
      have hjl : (jn (texts (l.take i))).length ≤ 41 * bks l := by
        have h1 := jn_sum (l.take i) (fun x hx => by
          obtain ⟨j, hj, rfl⟩ := List.getElem_of_mem hx
          rw [List.getElem_take]
          exact HSUB.out j (by rw [List.length_take] at hj; omega))
        have h2 := bks_app (l.take i) (l.drop i)
        rw [List.take_append_drop] at h2
        omega
      have hbkl : bks l ≤ 4000000 := by have := HBK.out; omega
      obtain ⟨P, hP⟩ : ∃ P, P = 91 :: jn (texts (l.take i)) := ⟨_, rfl⟩
      have hPl : P.length ≤ 164000001 := by rw [hP]; simp; omega
      by_cases hlt : i < m
      · have hlt1 : i < l.length := by rw [← HM.out]; exact hlt
        have hil : (i : Int) < (m : Int) := by omega
        obtain ⟨b, o, k1, s1, n1, q1, B1, cb1, rfl, hSb, hx, d0, d1, d2, d3, hrep⟩ := trow_get HR.out hbw HS.out hlt1
        have hmem : l[i] ∈ l := List.getElem_mem hlt1
        have hbm := bks_mem l _ hmem
        have hO := HI.out _ hmem
        have hTl := HSUB.out i hlt1
        have hts : texts (l.take (i + 1)) = texts (l.take i) ++ [text l[i]] := by rw [List.take_succ_eq_append_getElem hlt1, texts_map, texts_map, List.map_append]; rfl
        rw [hx] at hO hbm hTl hts
        have hcall := hO S _ wr (by omega) hrep (fun b hb => Nat.lt_of_lt_of_le (HS.out b hb) hbw.size)
        obtain ⟨T1, hT1⟩ : ∃ T1, T1 = text (.mk k1 s1 n1 q1) := ⟨_, rfl⟩
        rw [← hT1] at hcall hTl hts
        have hT1l : T1.length ≤ 164000000 := by omega
        rw [← hP]
        have HCALL := Lib.hid hcall
        have HBW := Lib.hid hbw
        by_cases hi0 : i = 0
        · subst hi0
          simp only [Nat.zero_mul, Nat.add_zero] at d0 d1 d2 d3
          have HT : Hid (91 :: jn (texts (l.take (0 + 1))) = P ++ T1) := by rw [Hid, hts, hP]; simp [texts, jn]
          have hz0 : ¬ (0 : Int) < ((0 : Nat) : Int) := by omega
          have l1 : ¬ 9223372036854775807 < P.length + T1.length := by omega
          clear hcall hO hbm hmem hx hrep hT1 hTl hts hP hjl hPl hT1l hbw
          go_wp2_with fail
          refine HCALL.out.mono ?_
          rintro _ w1 ⟨rfl, b1⟩
          have HB1 : Hid (Below W2.heap.size W2 w1) := HB.out.trans (b1.mono HB.out.size)
          clear b1 HCALL c0 c1 c2 c3 d0 d1 d2 d3
          go_wp2
          go_roundw
          case rel => exact ⟨0 + 1, by omega, by go_num, by rw [HT.out, str_app], HB1⟩
          case measure => simp [intOf]; omega
        · have HT : Hid (91 :: jn (texts (l.take (i + 1))) = P ++ [32] ++ T1) := by
            rw [Hid, hts, hP, jn_snoc _ _ (by intro h; have := texts_len (l.take i); rw [h] at this; simp at this; omega)]; simp
          have hz0 : (0 : Int) < (i : Int) := by omega
          have l1 : ¬ 9223372036854775807 < P.length + 1 := by omega
          have l2 : ¬ 9223372036854775807 < P.length + 1 + T1.length := by omega
          clear hcall hO hbm hmem hx hrep hT1 hTl hts hP hjl hPl hT1l hbw
          go_wp2_with fail
          refine HCALL.out.mono ?_
          rintro _ w1 ⟨rfl, b1⟩
          have HB1 : Hid (Below W2.heap.size W2 w1) := HB.out.trans (b1.mono HB.out.size)
          clear b1 HCALL c0 c1 c2 c3 d0 d1 d2 d3
          go_wp2
          go_roundw
          case rel => exact ⟨i + 1, by omega, by go_num, by rw [HT.out, str_app, str_app], HB1⟩
          case measure => simp [intOf]; omega
      · have hil : ¬ (i : Int) < (m : Int) := by omega
        have hie : l.take i = l := List.take_of_length_le (by rw [← HM.out]; omega)
        have HE2 : Hid (R = P ++ [93]) := by rw [Hid, HE.out, hP, hie]; rfl
        rw [← hP]
        have l1 : ¬ 9223372036854775807 < P.length + 1 := by omega
        have HBW := Lib.hid hbw
        clear hP hie hjl hPl hbw
        go_wp2
        go_ret
        exact ⟨ret_a (by rw [str_app, HE2.out]), HBW.out⟩
  · by_cases hm2 : m = 2
    · have hl2 : l.length = 2 := by rw [← HM.out]; exact hm2
      obtain ⟨y0, y1, hy, hky⟩ := ky_two [115, 101, 97, 108, 40] n l hl2
      have hi0 : 0 < l.length := by omega
      have hi1 : 1 < l.length := by omega
      have hb2 := HB2.out
      obtain ⟨b, o, k1, s1, n1, q1, B1, cb1, rfl, hSb, hx, d0, d1, d2, d3, hrep⟩ := trow_get HR.out hb2 HS.out hi0
      obtain ⟨b', o', k2, s2, n2, q2, B2, cb2, hA', hSb', hx', f0, f1, f2, f3, hrep'⟩ := trow_get HR.out hb2 HS.out hi1
      obtain ⟨rfl, rfl⟩ : b = b' ∧ o = o' := by simpa using hA'
      simp only [Nat.zero_mul, Nat.one_mul, Nat.add_zero] at d0 d1 d2 d3 f0 f1 f2 f3
      have hbm := bks_mem l _ (List.getElem_mem hi0)
      have hbm' := bks_mem l _ (List.getElem_mem hi1)
      have hO := HI.out _ (List.getElem_mem hi0)
      have hO' := HI.out _ (List.getElem_mem hi1)
      have hTl := HSUB.out 0 hi0
      have hTl' := HSUB.out 1 hi1
      have e0x : l[0] = y0 := by simp [hy]
      have e1x : l[1] = y1 := by simp [hy]
      rw [hx] at hO hbm hTl e0x
      rw [hx'] at hO' hbm' hTl' e1x
      have hbkl : bks l ≤ 4000000 := by have := HBK.out; omega
      obtain ⟨T0, hT0⟩ : ∃ T, T = text (.mk k1 s1 n1 q1) := ⟨_, rfl⟩
      obtain ⟨T1, hT1⟩ : ∃ T, T = text (.mk k2 s2 n2 q2) := ⟨_, rfl⟩
      rw [← e0x, ← e1x, ← hT0, ← hT1, ← HDD.out] at hky
      rw [← hT0] at hTl
      rw [← hT1] at hTl'
      have HE : Hid (R = [115, 101, 97, 108, 40] ++ T0 ++ [32] ++ D ++ [32] ++ T1 ++ [41]) := by
        rw [Hid, HRR.out, tx]
        simp only [show (4 : Int) ≠ 0 by decide, show (4 : Int) ≠ 1 by decide, show (4 : Int) ≠ 2 by decide, show (4 : Int) ≠ 3 by decide, if_false, if_true]
        rw [hky]; simp
      clear HRR
      have cT0 : ∀ d os, Calls Tryd.prog 20 #[.agg #[.int .i64 k1, .string ⟨⟨s1⟩⟩, .int .i64 n1, .slice B1 q1.length cb1]] (Go.Sort.grow (redrawn W2 d) os) fun e w'' => e = .returned (.string ⟨⟨T0⟩⟩) ∧ ∃ p : Regrown, w'' = Go.Sort.grow (redrawn W2 p.d) p.os := fun d os => by
        rw [hT0]
        exact Calls.regrown_of (hO S _ _ (by omega) (rep_at hrep (below_regrown W2 d os) (fun b hb => Nat.lt_of_lt_of_le (HS.out b hb) hb2.size)) (fun b hb => Nat.lt_of_lt_of_le (HS.out b hb) (Nat.le_trans hb2.size (below_regrown W2 d os).size)))
      have cT1 : ∀ d os, Calls Tryd.prog 20 #[.agg #[.int .i64 k2, .string ⟨⟨s2⟩⟩, .int .i64 n2, .slice B2 q2.length cb2]] (Go.Sort.grow (redrawn W2 d) os) fun e w'' => e = .returned (.string ⟨⟨T1⟩⟩) ∧ ∃ p : Regrown, w'' = Go.Sort.grow (redrawn W2 p.d) p.os := fun d os => by
        rw [hT1]
        exact Calls.regrown_of (hO' S _ _ (by omega) (rep_at hrep' (below_regrown W2 d os) (fun b hb => Nat.lt_of_lt_of_le (HS.out b hb) hb2.size)) (fun b hb => Nat.lt_of_lt_of_le (HS.out b hb) (Nat.le_trans hb2.size (below_regrown W2 d os).size)))
      have cD : ∀ d os, Calls Tryd.prog 52 #[.int .i64 n] (Go.Sort.grow (redrawn W2 d) os) fun e w'' => e = .returned (.string ⟨⟨D⟩⟩) ∧ ∃ p : Regrown, w'' = Go.Sort.grow (redrawn W2 p.d) p.os := fun d os => Calls.regrown_of (HD.out _)
      have l1 : ¬ 9223372036854775807 < 5 + T0.length := by omega
      have l2 : ¬ 9223372036854775807 < 5 + T0.length + 1 := by omega
      have l3 : ¬ 9223372036854775807 < 5 + T0.length + 1 + D.length := by omega
      have l4 : ¬ 9223372036854775807 < 5 + T0.length + 1 + D.length + 1 := by omega
      have l5 : ¬ 9223372036854775807 < 5 + T0.length + 1 + D.length + 1 + T1.length := by omega
      have l6 : ¬ 9223372036854775807 < 5 + T0.length + 1 + D.length + 1 + T1.length + 1 := by omega
      have hm2i : (m : Int) = 2 := by omega
      have hm0 : 0 < m := by omega
      have hm1 : 1 < m := by omega
      have hm0i : (0 : Int) < (m : Int) := by omega
      have hm1i : (1 : Int) < (m : Int) := by omega
      have g0 := fun d os => cell_regrown c0 d os
      have g1 := fun d os => cell_regrown c1 d os
      have g2 := fun d os => cell_regrown c2 d os
      have g3 := fun d os => cell_regrown c3 d os
      have i0 := fun d os => cell_regrown d0 d os
      have i1 := fun d os => cell_regrown d1 d os
      have i2 := fun d os => cell_regrown d2 d os
      have i3 := fun d os => cell_regrown d3 d os
      have j0 := fun d os => cell_regrown f0 d os
      have j1 := fun d os => cell_regrown f1 d os
      have j2 := fun d os => cell_regrown f2 d os
      have j3 := fun d os => cell_regrown f3 d os
      clear hky hy hx hx' hO hO' hbm hbm' hTl hTl' e0x e1x hT0 hT1 hrep hrep' hA' hm2 hl2 hi0 hi1 hb2
      go_enter Tryd.func20, Tryd.ntmps20
      go_wp2_with fail
      rw [← HW2.out, ← HZ.out]
      refine wp_region_quiet_below (by kernel_rfl) (by kernel_rfl) ?_
      repeat (quiet_step (first | with_reducible exact cT0 _ _ | with_reducible exact cT1 _ _ | with_reducible exact cD _ _))
      refine wpQuiet_nil ?_
      intro _ hw'
      obtain ⟨⟨dq, osq⟩, hw''⟩ := hw'
      subst hw''
      have b6 := below_regrown W2 dq osq
      have HE1 : Hid (Below w.heap.size w (Go.Sort.grow (redrawn W2 dq) osq)) := HB2.out.trans (b6.mono HB2.out.size)
      clear b6 g0 g1 g2 g3 i0 i1 i2 i3 j0 j1 j2 j3 cT0 cT1 cD
      generalize Go.Sort.grow (redrawn W2 dq) osq = w6 at *
      go_wp2
      go_ret
      exact ⟨ret_a (by rw [str_app, str_app, str_app, str_app, str_app, str_app, HE.out]), HE1.out⟩
    · have HE : Hid (R = [63]) := by
        rw [Hid, HRR.out, tx]
        simp only [show (4 : Int) ≠ 0 by decide, show (4 : Int) ≠ 1 by decide, show (4 : Int) ≠ 2 by decide, show (4 : Int) ≠ 3 by decide, if_false, if_true]
        exact ky_not _ _ _ (by rw [← HM.out]; exact hm2)
      clear HRR
      have hm2i : ¬ (m : Int) = 2 := by omega
      have hm2b : ((m : Int) == 2) = false := by simp; omega
      go_enter Tryd.func20, Tryd.ntmps20
      go_wp2
      go_ret
      exact ⟨ret_s HE.out.symm, by rw [← HW2.out]; exact HB2.out⟩
  · by_cases hm2 : m = 2
    · have hl2 : l.length = 2 := by rw [← HM.out]; exact hm2
      obtain ⟨y0, y1, hy, hky⟩ := ky_two [115, 117, 109, 40] n l hl2
      have hi0 : 0 < l.length := by omega
      have hi1 : 1 < l.length := by omega
      have hb2 := HB2.out
      obtain ⟨b, o, k1, s1, n1, q1, B1, cb1, rfl, hSb, hx, d0, d1, d2, d3, hrep⟩ := trow_get HR.out hb2 HS.out hi0
      obtain ⟨b', o', k2, s2, n2, q2, B2, cb2, hA', hSb', hx', f0, f1, f2, f3, hrep'⟩ := trow_get HR.out hb2 HS.out hi1
      obtain ⟨rfl, rfl⟩ : b = b' ∧ o = o' := by simpa using hA'
      simp only [Nat.zero_mul, Nat.one_mul, Nat.add_zero] at d0 d1 d2 d3 f0 f1 f2 f3
      have hbm := bks_mem l _ (List.getElem_mem hi0)
      have hbm' := bks_mem l _ (List.getElem_mem hi1)
      have hO := HI.out _ (List.getElem_mem hi0)
      have hO' := HI.out _ (List.getElem_mem hi1)
      have hTl := HSUB.out 0 hi0
      have hTl' := HSUB.out 1 hi1
      have e0x : l[0] = y0 := by simp [hy]
      have e1x : l[1] = y1 := by simp [hy]
      rw [hx] at hO hbm hTl e0x
      rw [hx'] at hO' hbm' hTl' e1x
      have hbkl : bks l ≤ 4000000 := by have := HBK.out; omega
      obtain ⟨T0, hT0⟩ : ∃ T, T = text (.mk k1 s1 n1 q1) := ⟨_, rfl⟩
      obtain ⟨T1, hT1⟩ : ∃ T, T = text (.mk k2 s2 n2 q2) := ⟨_, rfl⟩
      rw [← e0x, ← e1x, ← hT0, ← hT1, ← HDD.out] at hky
      rw [← hT0] at hTl
      rw [← hT1] at hTl'
      have HE : Hid (R = [115, 117, 109, 40] ++ T0 ++ [32] ++ D ++ [32] ++ T1 ++ [41]) := by
        rw [Hid, HRR.out, tx]
        simp only [show (5 : Int) ≠ 0 by decide, show (5 : Int) ≠ 1 by decide, show (5 : Int) ≠ 2 by decide, show (5 : Int) ≠ 3 by decide, show (5 : Int) ≠ 4 by decide, if_false, if_true]
        rw [hky]; simp
      clear HRR
      have cT0 : ∀ d os, Calls Tryd.prog 20 #[.agg #[.int .i64 k1, .string ⟨⟨s1⟩⟩, .int .i64 n1, .slice B1 q1.length cb1]] (Go.Sort.grow (redrawn W2 d) os) fun e w'' => e = .returned (.string ⟨⟨T0⟩⟩) ∧ ∃ p : Regrown, w'' = Go.Sort.grow (redrawn W2 p.d) p.os := fun d os => by
        rw [hT0]
        exact Calls.regrown_of (hO S _ _ (by omega) (rep_at hrep (below_regrown W2 d os) (fun b hb => Nat.lt_of_lt_of_le (HS.out b hb) hb2.size)) (fun b hb => Nat.lt_of_lt_of_le (HS.out b hb) (Nat.le_trans hb2.size (below_regrown W2 d os).size)))
      have cT1 : ∀ d os, Calls Tryd.prog 20 #[.agg #[.int .i64 k2, .string ⟨⟨s2⟩⟩, .int .i64 n2, .slice B2 q2.length cb2]] (Go.Sort.grow (redrawn W2 d) os) fun e w'' => e = .returned (.string ⟨⟨T1⟩⟩) ∧ ∃ p : Regrown, w'' = Go.Sort.grow (redrawn W2 p.d) p.os := fun d os => by
        rw [hT1]
        exact Calls.regrown_of (hO' S _ _ (by omega) (rep_at hrep' (below_regrown W2 d os) (fun b hb => Nat.lt_of_lt_of_le (HS.out b hb) hb2.size)) (fun b hb => Nat.lt_of_lt_of_le (HS.out b hb) (Nat.le_trans hb2.size (below_regrown W2 d os).size)))
      have cD : ∀ d os, Calls Tryd.prog 52 #[.int .i64 n] (Go.Sort.grow (redrawn W2 d) os) fun e w'' => e = .returned (.string ⟨⟨D⟩⟩) ∧ ∃ p : Regrown, w'' = Go.Sort.grow (redrawn W2 p.d) p.os := fun d os => Calls.regrown_of (HD.out _)
      have l1 : ¬ 9223372036854775807 < 4 + T0.length := by omega
      have l2 : ¬ 9223372036854775807 < 4 + T0.length + 1 := by omega
      have l3 : ¬ 9223372036854775807 < 4 + T0.length + 1 + D.length := by omega
      have l4 : ¬ 9223372036854775807 < 4 + T0.length + 1 + D.length + 1 := by omega
      have l5 : ¬ 9223372036854775807 < 4 + T0.length + 1 + D.length + 1 + T1.length := by omega
      have l6 : ¬ 9223372036854775807 < 4 + T0.length + 1 + D.length + 1 + T1.length + 1 := by omega
      have hm2i : (m : Int) = 2 := by omega
      have hm0 : 0 < m := by omega
      have hm1 : 1 < m := by omega
      have hm0i : (0 : Int) < (m : Int) := by omega
      have hm1i : (1 : Int) < (m : Int) := by omega
      have g0 := fun d os => cell_regrown c0 d os
      have g1 := fun d os => cell_regrown c1 d os
      have g2 := fun d os => cell_regrown c2 d os
      have g3 := fun d os => cell_regrown c3 d os
      have i0 := fun d os => cell_regrown d0 d os
      have i1 := fun d os => cell_regrown d1 d os
      have i2 := fun d os => cell_regrown d2 d os
      have i3 := fun d os => cell_regrown d3 d os
      have j0 := fun d os => cell_regrown f0 d os
      have j1 := fun d os => cell_regrown f1 d os
      have j2 := fun d os => cell_regrown f2 d os
      have j3 := fun d os => cell_regrown f3 d os
      clear hky hy hx hx' hO hO' hbm hbm' hTl hTl' e0x e1x hT0 hT1 hrep hrep' hA' hm2 hl2 hi0 hi1 hb2
      go_enter Tryd.func20, Tryd.ntmps20
      go_wp2_with fail
      rw [← HW2.out, ← HZ.out]
      refine wp_region_quiet_below (by kernel_rfl) (by kernel_rfl) ?_
      repeat (quiet_step (first | with_reducible exact cT0 _ _ | with_reducible exact cT1 _ _ | with_reducible exact cD _ _))
      refine wpQuiet_nil ?_
      intro _ hw'
      obtain ⟨⟨dq, osq⟩, hw''⟩ := hw'
      subst hw''
      have b6 := below_regrown W2 dq osq
      have HE1 : Hid (Below w.heap.size w (Go.Sort.grow (redrawn W2 dq) osq)) := HB2.out.trans (b6.mono HB2.out.size)
      clear b6 g0 g1 g2 g3 i0 i1 i2 i3 j0 j1 j2 j3 cT0 cT1 cD
      generalize Go.Sort.grow (redrawn W2 dq) osq = w6 at *
      go_wp2
      go_ret
      exact ⟨ret_a (by rw [str_app, str_app, str_app, str_app, str_app, str_app, HE.out]), HE1.out⟩
    · have HE : Hid (R = [63]) := by
        rw [Hid, HRR.out, tx]
        simp only [show (5 : Int) ≠ 0 by decide, show (5 : Int) ≠ 1 by decide, show (5 : Int) ≠ 2 by decide, show (5 : Int) ≠ 3 by decide, show (5 : Int) ≠ 4 by decide, if_false, if_true]
        exact ky_not _ _ _ (by rw [← HM.out]; exact hm2)
      clear HRR
      have hm2i : ¬ (m : Int) = 2 := by omega
      have hm2b : ((m : Int) == 2) = false := by simp; omega
      go_enter Tryd.func20, Tryd.ntmps20
      go_wp2
      go_ret
      exact ⟨ret_s HE.out.symm, by rw [← HW2.out]; exact HB2.out⟩
  · have HE : Hid (R = [63]) := by rw [Hid, HRR.out]; simp [tx, k0, k1, k2, k3, k4, k5]
    clear HRR
    go_enter Tryd.func20, Tryd.ntmps20
    go_wp2
    go_ret
    exact ⟨ret_s HE.out.symm, by rw [← HW2.out]; exact HB2.out⟩
)

set_option maxHeartbeats 400000 in
set_option maxRecDepth 100000 in
theorem refValid_any (x : Tm) (S : Nat → Prop) (v : Value) (w : World) (hbk : bk x ≤ 4000000) (hr : Rep w S x v) (hS : ∀ b, S b → b < w.heap.size) :
    Calls Tryd.prog 17 #[v] w fun e w' => e = .returned (.bool (vld 0 x)) ∧ Below w.heap.size w w' := by
  have hc := refvalid_any x 0 0 S v
  obtain ⟨V, hV⟩ : ∃ V, V = vld 0 x := ⟨_, rfl⟩
  rw [← hV] at hc ⊢
  clear hV
  obtain ⟨k, s, n, q⟩ := x
  have hr0 := hr
  obtain ⟨A, ca, rfl, -, -⟩ := rep_mk.1 hr
  have hb1 : Below w.heap.size w (w.alloc (.cells #[.int .i64 k, .string ⟨⟨s⟩⟩, .int .i64 n, .slice A q.length ca] 25)) := (Below.refl _ _).alloc (Nat.le_refl _) _
  have HC := Lib.hid (hc _ rfl (by omega) hbk (rep_below hr0 hb1 hS) (fun b hb => Nat.lt_of_lt_of_le (hS b hb) hb1.size))
  have HB1 := Lib.hid hb1
  clear hc hr hr0 hS hb1
  go_enter Tryd.func17, Tryd.ntmps17
  go_wp2_with fail
  refine HC.out.mono ?_
  rintro _ w1 ⟨rfl, b1⟩
  have HB2 : Hid (Below w.heap.size w w1) := HB1.out.trans (b1.mono HB1.out.size)
  clear b1 HC
  go_wp2
  go_ret
  exact ⟨rfl, HB2.out⟩
end Go.Proofs.YtfhcfaflggiacaaDoor
