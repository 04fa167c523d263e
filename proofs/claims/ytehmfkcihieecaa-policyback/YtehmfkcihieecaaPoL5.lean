/- The law PolicyBack, walked. (Laid with NS=1; written by wip/tools/gen/pol.py.) -/
import Derived.Test.YtehmfkcihieecaaPoW13
import Derived.Test.YtehmfkcihieecaaPoL0c
namespace Go.Proofs.Ytehmfkcihieecaa.Po
open Go.RowKit Go.Sort
open Te Te.Tt
open Go (Lit DataW MemPlace keyOf maxLen)

set_option maxHeartbeats 16000000 in
set_option maxRecDepth 100000 in
theorem policyBack_walk (l : List Ac) (A : Option Addr) (ca : Nat) (a b c : Nm) (V : World) (S : Nat → Prop) (hll : l.length ≤ maxLen) (hr : ARow V S l A) (hS : ∀ b, S b → b < V.heap.size) (hok : ∀ x ∈ l, AOk x) (ha : a.length ≤ maxLen) (hb : b.length ≤ maxLen) (hc0 : c.length ≤ maxLen) :
    Calls Try.prog 7 #[.slice A l.length ca, .string ⟨⟨a⟩⟩, .string ⟨⟨b⟩⟩, .string ⟨⟨c⟩⟩] V fun e w' => e = .returned (.bool true) ∧ RowKit.Below V.heap.size V w' := by
  obtain ⟨m, hm⟩ : ∃ m, m = l.length := ⟨_, rfl⟩
  have HOV : Hid (∀ W, RowKit.Below V.heap.size V W → Calls Try.prog 9 #[.slice A l.length ca] W fun e w' => e = .returned (.bool (ovr l)) ∧ w' = W) := fun W hW => over_any l A ca S W (hr.keep (fun _ h => h) (fun b hb => hW.block b (hS b hb))) hll
  obtain ⟨o, ho⟩ : ∃ o, o = ovr l := ⟨_, rfl⟩
  rw [← ho] at HOV
  have HOO := Lib.hid ho
  have HM := Lib.hid hm
  have HA := Lib.hid hr
  have HS := Lib.hid hS
  have HOK := Lib.hid hok
  have HWK := Lib.hid (works_any V)
  rw [← hm] at HOV ⊢
  clear hr hS hok ho hm hll
  go_enter Try.func7, Try.ntmps7
  go_wp2_with fail
  refine HWK.out.mono ?_
  rintro _ w1 ⟨rfl, b1⟩
  have HB1 := Lib.hid b1
  clear b1 HWK
  go_wp2_with fail
  refine (HOV.out w1 HB1.out).mono ?_
  rintro _ w2 ⟨rfl, rfl⟩
  clear HOV
  cases o
  case true =>
    go_wp2
    go_ret
    exact ⟨rfl, HB1.out⟩
  case false =>
  have HNO := Lib.hid (ovr_no HOO.out.symm)
  have hm40 : m ≤ 40 := by rw [HM.out]; exact HNO.out.1
  clear HOO
  go_wp2_with fail
  refine (one_new V w2 HB1.out).mono ?_
  rintro _ w3 ⟨g, bm, rfl, h3, -⟩
  have HO3 := Lib.hid h3
  clear h3 HB1
  go_wp2_with fail
  go_loopw [11] (fun iv wr => ∃ i : Nat, i ≤ m ∧ iv = .int .i64 (i : Nat) ∧ Hid (∃ σ n, One V (fun _ => False) g bm σ n wr ∧ n ≤ i)) (fun iv _ => m - (intOf iv).toNat)
  case atStart => exact ⟨0, by omega, rfl, Lib.hid ⟨_, _, HO3.out, Nat.le_refl _⟩⟩
  case round =>
    obtain ⟨i, hi, rfl, HI⟩ := hrel
    clear HO3
    obtain ⟨σ, n, hone, hni⟩ := HI.out
    have HO := Lib.hid hone
    clear HI hone
    by_cases hlt : i < m
    · have hil : (i : Int) < (m : Int) := by omega
      have hl1 : i < l.length := by rw [← HM.out]; exact hlt
      have hbel := HO.out.bel
      obtain ⟨b', o', rfl, hSb, hat⟩ := (HA.out.keep (w' := wr) (fun _ h => h) (fun b hb => hbel.block b (HS.out b hb))).resolve_left (fun h => by rw [h] at hl1; simp at hl1)
      obtain ⟨A1, a1, C1, c1, G1, g1, e0, e1, e2, e3, e4, e5, e6, e7, e8, e9, e10, e11, hA1, hC1, hG1, la1, lc1⟩ := hat i hl1
      have hmem := List.getElem_mem hl1
      have hlen := HNO.out.2 _ hmem
      have hD := one_done HO.out l[i] A1 a1 C1 c1 G1 g1 S hA1 hC1 hG1 la1 lc1 (fun b hb => Nat.lt_of_lt_of_le (HS.out b hb) hbel.size) (HOK.out _ hmem) hlen.1 hlen.2.1 hlen.2.2 (by omega)
      have HD := Lib.hid hD
      clear hD hlen hmem hat hSb hbel hA1 hC1 hG1 la1 lc1
      generalize l[i] = y at *
      generalize y.p.al.length = la at *
      generalize y.p.ac.length = lc at *
      generalize y.p.gr.length = lg at *
      clear hl1
      go_wp2_with fail
      refine HD.out.mono ?_
      rintro _ w4 ⟨⟨er, rfl⟩, σ', n', ho4, hn4⟩
      have HR4 : Hid (∃ σ n, One V (fun _ => False) g bm σ n w4 ∧ n ≤ i + 1) := ⟨σ', n', ho4, by omega⟩
      clear ho4 hn4 HD HO e0 e1 e2 e3 e4 e5 e6 e7 e8 e9 e10 e11
      go_wp2
      go_roundw
      case rel => exact ⟨i + 1, by omega, by go_num, HR4⟩
      case measure => simp [intOf]; omega
    · have hil : ¬ (i : Int) < (m : Int) := by omega
      have hnx : n < maxLen := by unfold maxLen; omega
      have HNX : Hid (n < maxLen) := hnx
      clear HA HS HOK HNO hnx
      obtain ⟨x, hx⟩ : ∃ x, x = decide (b ∈ (gt σ a).al) := ⟨_, rfl⟩
      obtain ⟨y, hy⟩ : ∃ y, y = decide (a ∈ (gt σ b).ac) := ⟨_, rfl⟩
      obtain ⟨p, hp⟩ : ∃ p, p = gt σ c := ⟨_, rfl⟩
      have HX := Lib.hid hx
      have HY := Lib.hid hy
      have HE1 := Lib.hid hp
      clear hx hy hp
      have hc := one_may HO.out a b ha hb
      rw [← HX.out] at hc
      rw [← HY.out] at hc
      have HC := Lib.hid hc
      clear hc
      go_wp2_with fail
      refine HC.out.mono ?_
      rintro _ w5 ⟨rfl, bb⟩
      have HOA := Lib.hid (HO.out.read bb (K' := fun _ => False) (fun i h => .inl h))
      clear bb HC HO
      cases x
      case true =>
        have HBW := Lib.hid HOA.out.bel
        clear HOA HX HY HE1
        go_wp2
        go_ret
        exact ⟨rfl, HBW.out⟩
      case false =>
      cases y
      case true =>
        have HBW := Lib.hid HOA.out.bel
        clear HOA HX HY HE1
        go_wp2
        go_ret
        exact ⟨rfl, HBW.out⟩
      case false =>
      obtain ⟨R1, hR1⟩ : ∃ R, rel σ a b (allF b true) = R := ⟨_, rfl⟩
      obtain ⟨R2, hR2⟩ : ∃ R, rel R1.1 b a (actF a true) = R := ⟨_, rfl⟩
      obtain ⟨R3, hR3⟩ : ∃ R, rel R2.1 a b (allF b false) = R := ⟨_, rfl⟩
      obtain ⟨R4, hR4⟩ : ∃ R, rel R3.1 b a (actF a false) = R := ⟨_, rfl⟩
      have hB := back_ok (of_decide_eq_false HX.out.symm) (of_decide_eq_false HY.out.symm)
      rw [hR1, hR2, hR3, hR4] at hB
      obtain ⟨τ1, e1⟩ := R1
      obtain ⟨τ2, e2⟩ := R2
      obtain ⟨τ3, e3⟩ := R3
      obtain ⟨τ4, e4⟩ := R4
      simp only at hR1 hR2 hR3 hR4 hB
      obtain ⟨t1, t2, t3, t4, t5⟩ := hB
      subst t5
      have H1 := Lib.hid hR1
      have H2 := Lib.hid hR2
      have H3 := Lib.hid hR3
      have H4 := Lib.hid hR4
      have T1 := Lib.hid t1
      have T2 := Lib.hid t2
      have T3 := Lib.hid t3
      have T4 := Lib.hid t4
      clear hR1 hR2 hR3 hR4 t1 t2 t3 t4
      have hget1 := one_get HOA.out c hc0
      unfold GetPost at hget1
      rw [← HE1.out] at hget1
      have hpl1 := gt_len HOA.out.ok c
      rw [← HE1.out] at hpl1
      have HPL1 := Lib.hid hpl1
      have HGET1 := Lib.hid hget1
      clear hget1 hpl1
      go_wp2_with fail
      refine HGET1.out.mono ?_
      rintro _ v1 ⟨s1, rfl, ho1, hl1, b1⟩
      obtain ⟨A1, a1, C1, c1, G1, g1, rfl⟩ := ho1.forms
      have hb1 : RowKit.Below w5.heap.size w5 (v1.alloc (.cells #[.string ⟨⟨p.nm⟩⟩, .int .i64 p.ver, .bool p.tr, .bool p.se, .slice A1 p.al.length a1, .slice C1 p.ac.length c1, .slice G1 p.gr.length g1, .int .i64 p.li] 32)) := b1.trans ((RowKit.Below.refl _ _).alloc (Nat.le_refl _) _ |>.mono b1.size)
      have hbz1 : RowKit.Below v1.heap.size v1 (v1.alloc (.cells #[.string ⟨⟨p.nm⟩⟩, .int .i64 p.ver, .bool p.tr, .bool p.se, .slice A1 p.al.length a1, .slice C1 p.ac.length c1, .slice G1 p.gr.length g1, .int .i64 p.li] 32)) := (RowKit.Below.refl _ _).alloc (Nat.le_refl _) _
      have hs1 : (v1.alloc (.cells #[.string ⟨⟨p.nm⟩⟩, .int .i64 p.ver, .bool p.tr, .bool p.se, .slice A1 p.al.length a1, .slice C1 p.ac.length c1, .slice G1 p.gr.length g1, .int .i64 p.li] 32)).heap.size = v1.heap.size + 1 := by simp
      have hO1 := HOA.out.read hb1 (K' := fun i => i = v1.heap.size ∨ Bl ⟨.slice A1 p.al.length a1, .slice C1 p.ac.length c1, .slice G1 p.gr.length g1⟩ i) (fun i h => by
        rcases h with h | h
        · subst h; exact .inr ⟨b1.size, by rw [hs1]; omega⟩
        · exact .inr ⟨hl1 i h, by have := ho1.lt i h; rw [hs1]; omega⟩)
      have HO1 := Lib.hid hO1
      have HPO1 := Lib.hid (ho1.below hbz1)
      have HLT1 := Lib.hid (fun i (hi : Bl ⟨.slice A1 p.al.length a1, .slice C1 p.ac.length c1, .slice G1 p.gr.length g1⟩ i) => ho1.lt i hi)
      have HGE1 := Lib.hid (fun i (hi : Bl ⟨.slice A1 p.al.length a1, .slice C1 p.ac.length c1, .slice G1 p.gr.length g1⟩ i) => hl1 i hi)
      have HGB1 := Lib.hid (heap_alloc_new v1 (.cells #[.string ⟨⟨p.nm⟩⟩, .int .i64 p.ver, .bool p.tr, .bool p.se, .slice A1 p.al.length a1, .slice C1 p.ac.length c1, .slice G1 p.gr.length g1, .int .i64 p.li] 32))
      simp only [pval]
      clear hO1 ho1 hl1 b1 hb1 hbz1 hs1 HGET1 HOA
      go_wp2_with fail
      generalize v1.alloc (.cells #[.string ⟨⟨p.nm⟩⟩, .int .i64 p.ver, .bool p.tr, .bool p.se, .slice A1 p.al.length a1, .slice C1 p.ac.length c1, .slice G1 p.gr.length g1, .int .i64 p.li] 32) = W1 at *
      generalize v1.heap.size = z1 at *
      have hc := one_allow HO1.out a b true ha hb HNX.out
      rw [H1.out] at hc
      have HC := Lib.hid hc
      clear hc
      refine HC.out.mono ?_
      rintro _ w6 ⟨rfl, oo, kk⟩
      have HO2 := Lib.hid oo
      have HGB1' := Lib.hid ((kk z1 (.inl rfl)).trans HGB1.out)
      have HPO1' := Lib.hid (HPO1.out.keep (fun i hi => kk i (.inr hi)))
      clear HGB1 HPO1
      rename Hid (w6.heap[z1]? = _) => HGB1
      rename Hid (POwn w6 p ⟨.slice A1 p.al.length a1, .slice C1 p.ac.length c1, .slice G1 p.gr.length g1⟩) => HPO1
      clear oo kk HC HO1
      have hc := one_acts HO2.out b a true hb ha HNX.out
      rw [H2.out] at hc
      have HC := Lib.hid hc
      clear hc
      go_wp2_with fail
      refine HC.out.mono ?_
      rintro _ w7 ⟨rfl, oo, kk⟩
      have HO3 := Lib.hid oo
      have HGB1' := Lib.hid ((kk z1 (.inl rfl)).trans HGB1.out)
      have HPO1' := Lib.hid (HPO1.out.keep (fun i hi => kk i (.inr hi)))
      clear HGB1 HPO1
      rename Hid (w7.heap[z1]? = _) => HGB1
      rename Hid (POwn w7 p ⟨.slice A1 p.al.length a1, .slice C1 p.ac.length c1, .slice G1 p.gr.length g1⟩) => HPO1
      clear oo kk HC HO2
      have hc := one_may HO3.out a b ha hb
      rw [T1.out] at hc
      rw [T2.out] at hc
      have HC := Lib.hid hc
      clear hc
      go_wp2_with fail
      refine HC.out.mono ?_
      rintro _ w8 ⟨rfl, bb⟩
      have HO4 := Lib.hid (HO3.out.read bb (K' := fun i => i = z1 ∨ Bl ⟨.slice A1 p.al.length a1, .slice C1 p.ac.length c1, .slice G1 p.gr.length g1⟩ i) (fun i h => .inl h))
      have HGB1' := Lib.hid ((bb.block z1 (Array.getElem?_eq_some_iff.1 HGB1.out).1).trans HGB1.out)
      have HPO1' := Lib.hid (HPO1.out.below bb)
      clear HGB1 HPO1
      rename Hid (w8.heap[z1]? = _) => HGB1
      rename Hid (POwn w8 p ⟨.slice A1 p.al.length a1, .slice C1 p.ac.length c1, .slice G1 p.gr.length g1⟩) => HPO1
      clear bb HC HO3
      have hc := one_allow HO4.out a b false ha hb HNX.out
      rw [H3.out] at hc
      have HC := Lib.hid hc
      clear hc
      go_wp2_with fail
      refine HC.out.mono ?_
      rintro _ w9 ⟨rfl, oo, kk⟩
      have HO5 := Lib.hid oo
      have HGB1' := Lib.hid ((kk z1 (.inl rfl)).trans HGB1.out)
      have HPO1' := Lib.hid (HPO1.out.keep (fun i hi => kk i (.inr hi)))
      clear HGB1 HPO1
      rename Hid (w9.heap[z1]? = _) => HGB1
      rename Hid (POwn w9 p ⟨.slice A1 p.al.length a1, .slice C1 p.ac.length c1, .slice G1 p.gr.length g1⟩) => HPO1
      clear oo kk HC HO4
      have hc := one_acts HO5.out b a false hb ha HNX.out
      rw [H4.out] at hc
      have HC := Lib.hid hc
      clear hc
      go_wp2_with fail
      refine HC.out.mono ?_
      rintro _ w10 ⟨rfl, oo, kk⟩
      have HO6 := Lib.hid oo
      have HGB1' := Lib.hid ((kk z1 (.inl rfl)).trans HGB1.out)
      have HPO1' := Lib.hid (HPO1.out.keep (fun i hi => kk i (.inr hi)))
      clear HGB1 HPO1
      rename Hid (w10.heap[z1]? = _) => HGB1
      rename Hid (POwn w10 p ⟨.slice A1 p.al.length a1, .slice C1 p.ac.length c1, .slice G1 p.gr.length g1⟩) => HPO1
      clear oo kk HC HO5
      have hc := one_may HO6.out a b ha hb
      rw [← HX.out] at hc
      rw [← HY.out] at hc
      have HC := Lib.hid hc
      clear hc
      go_wp2_with fail
      refine HC.out.mono ?_
      rintro _ w11 ⟨rfl, bb⟩
      have HO7 := Lib.hid (HO6.out.read bb (K' := fun i => i = z1 ∨ Bl ⟨.slice A1 p.al.length a1, .slice C1 p.ac.length c1, .slice G1 p.gr.length g1⟩ i) (fun i h => .inl h))
      have HGB1' := Lib.hid ((bb.block z1 (Array.getElem?_eq_some_iff.1 HGB1.out).1).trans HGB1.out)
      have HPO1' := Lib.hid (HPO1.out.below bb)
      clear HGB1 HPO1
      rename Hid (w11.heap[z1]? = _) => HGB1
      rename Hid (POwn w11 p ⟨.slice A1 p.al.length a1, .slice C1 p.ac.length c1, .slice G1 p.gr.length g1⟩) => HPO1
      clear bb HC HO6
      obtain ⟨q, hq⟩ : ∃ p, p = gt τ4 c := ⟨_, rfl⟩
      have HE2 := Lib.hid hq
      clear hq
      have hget2 := one_get HO7.out c hc0
      unfold GetPost at hget2
      rw [← HE2.out] at hget2
      have hpl2 := gt_len HO7.out.ok c
      rw [← HE2.out] at hpl2
      have HPL2 := Lib.hid hpl2
      have HGET2 := Lib.hid hget2
      clear hget2 hpl2
      go_wp2_with fail
      refine HGET2.out.mono ?_
      rintro _ v2 ⟨s2, rfl, ho2, hl2, b2⟩
      obtain ⟨A2, a2, C2, c2, G2, g2, rfl⟩ := ho2.forms
      have hb2 : RowKit.Below w11.heap.size w11 (v2.alloc (.cells #[.string ⟨⟨q.nm⟩⟩, .int .i64 q.ver, .bool q.tr, .bool q.se, .slice A2 q.al.length a2, .slice C2 q.ac.length c2, .slice G2 q.gr.length g2, .int .i64 q.li] 32)) := b2.trans ((RowKit.Below.refl _ _).alloc (Nat.le_refl _) _ |>.mono b2.size)
      have hbz2 : RowKit.Below v2.heap.size v2 (v2.alloc (.cells #[.string ⟨⟨q.nm⟩⟩, .int .i64 q.ver, .bool q.tr, .bool q.se, .slice A2 q.al.length a2, .slice C2 q.ac.length c2, .slice G2 q.gr.length g2, .int .i64 q.li] 32)) := (RowKit.Below.refl _ _).alloc (Nat.le_refl _) _
      have hs2 : (v2.alloc (.cells #[.string ⟨⟨q.nm⟩⟩, .int .i64 q.ver, .bool q.tr, .bool q.se, .slice A2 q.al.length a2, .slice C2 q.ac.length c2, .slice G2 q.gr.length g2, .int .i64 q.li] 32)).heap.size = v2.heap.size + 1 := by simp
      have hO2 := HO7.out.read hb2 (K' := fun _ => False) (fun i h => by
        exact h.elim)
      have HO2 := Lib.hid hO2
      have HPO2 := Lib.hid (ho2.below hbz2)
      have HLT2 := Lib.hid (fun i (hi : Bl ⟨.slice A2 q.al.length a2, .slice C2 q.ac.length c2, .slice G2 q.gr.length g2⟩ i) => ho2.lt i hi)
      have HGE2 := Lib.hid (fun i (hi : Bl ⟨.slice A2 q.al.length a2, .slice C2 q.ac.length c2, .slice G2 q.gr.length g2⟩ i) => hl2 i hi)
      have HGB2 := Lib.hid (heap_alloc_new v2 (.cells #[.string ⟨⟨q.nm⟩⟩, .int .i64 q.ver, .bool q.tr, .bool q.se, .slice A2 q.al.length a2, .slice C2 q.ac.length c2, .slice G2 q.gr.length g2, .int .i64 q.li] 32))
      have HGB1' := Lib.hid ((hb2.block z1 (Array.getElem?_eq_some_iff.1 HGB1.out).1).trans HGB1.out)
      have HPO1' := Lib.hid (HPO1.out.below hb2)
      simp only [pval]
      clear hO2 ho2 hl2 b2 hb2 hbz2 hs2 HGET2 HO7 HGB1 HPO1
      rename Hid ((v2.alloc _).heap[z1]? = _) => HGB1
      rename Hid (POwn (v2.alloc _) p ⟨.slice A1 p.al.length a1, .slice C1 p.ac.length c1, .slice G1 p.gr.length g1⟩) => HPO1
      have hpq : pEq p q = true := pEq_iff.2 (by rw [HE1.out, HE2.out])
      have hsame := Same_any p q (fun i => Bl ⟨.slice A1 p.al.length a1, .slice C1 p.ac.length c1, .slice G1 p.gr.length g1⟩ i ∨ Bl ⟨.slice A2 q.al.length a2, .slice C2 q.ac.length c2, .slice G2 q.gr.length g2⟩ i) _ _ (v2.alloc (.cells #[.string ⟨⟨q.nm⟩⟩, .int .i64 q.ver, .bool q.tr, .bool q.se, .slice A2 q.al.length a2, .slice C2 q.ac.length c2, .slice G2 q.gr.length g2, .int .i64 q.li] 32)) (HPO1.out.pv.keep (fun i h => .inl h) (fun _ _ => rfl)) (HPO2.out.pv.keep (fun i h => .inr h) (fun _ _ => rfl)) (fun i h => h.elim (fun h => HPO1.out.lt i h) (fun h => HPO2.out.lt i h)) (by have := HPL1.out; omega) (by have := HPL1.out; omega) (by have := HPL1.out; omega)
      rw [hpq] at hsame
      have HSM := Lib.hid hsame
      have HBW := Lib.hid HO2.out.bel
      obtain ⟨j0, j1, j2, j3, j4, j5, j6, j7⟩ := cell8 HGB1.out
      obtain ⟨d0, d1, d2, d3, d4, d5, d6, d7⟩ := cell8 HGB2.out
      clear hsame hpq HGB1 HGB2 HPO1 HPO2 HE1 HE2 HO2 H1 H2 H3 H4 T1 T2 HX HY
      by_cases he1 : e1 = 0
      case pos =>
        have he3 := T3.out he1
        subst he1 he3
        clear T3
        by_cases he2 : e2 = 0
        case pos =>
          have he4 := T4.out he2
          subst he2 he4
          clear T4
          go_wp2_with fail
          refine HSM.out.mono ?_
          rintro _ w13 ⟨rfl, b13⟩
          have HB13 := Lib.hid (HBW.out.trans (b13.mono HBW.out.size))
          clear b13 HSM j0 j1 j2 j3 j4 j5 j6 j7 d0 d1 d2 d3 d4 d5 d6 d7
          go_wp2
          go_ret
          exact ⟨by first | (simp; done) | simp_all, HB13.out⟩
        case neg =>
          have hb2 : (e2 == 0) = false := by simpa using he2
          clear T4
          go_wp2_with fail
          refine HSM.out.mono ?_
          rintro _ w13 ⟨rfl, b13⟩
          have HB13 := Lib.hid (HBW.out.trans (b13.mono HBW.out.size))
          clear b13 HSM j0 j1 j2 j3 j4 j5 j6 j7 d0 d1 d2 d3 d4 d5 d6 d7
          go_wp2
          go_ret
          exact ⟨by first | (simp; done) | simp_all, HB13.out⟩
      case neg =>
        have hb1 : (e1 == 0) = false := by simpa using he1
        clear T3
        by_cases he2 : e2 = 0
        case pos =>
          have he4 := T4.out he2
          subst he2 he4
          clear T4
          go_wp2_with fail
          refine HSM.out.mono ?_
          rintro _ w13 ⟨rfl, b13⟩
          have HB13 := Lib.hid (HBW.out.trans (b13.mono HBW.out.size))
          clear b13 HSM j0 j1 j2 j3 j4 j5 j6 j7 d0 d1 d2 d3 d4 d5 d6 d7
          go_wp2
          go_ret
          exact ⟨by first | (simp; done) | simp_all, HB13.out⟩
        case neg =>
          have hb2 : (e2 == 0) = false := by simpa using he2
          clear T4
          go_wp2_with fail
          refine HSM.out.mono ?_
          rintro _ w13 ⟨rfl, b13⟩
          have HB13 := Lib.hid (HBW.out.trans (b13.mono HBW.out.size))
          clear b13 HSM j0 j1 j2 j3 j4 j5 j6 j7 d0 d1 d2 d3 d4 d5 d6 d7
          go_wp2
          go_ret
          exact ⟨by first | (simp; done) | simp_all, HB13.out⟩
end Go.Proofs.Ytehmfkcihieecaa.Po
