/- The law PolicySets, walked. (Laid with NS=1; written by wip/tools/gen/pol.py.) -/
import Derived.Test.YtehmfkcihieecaaPoW13
import Derived.Test.YtehmfkcihieecaaPoL0
namespace Go.Proofs.Ytehmfkcihieecaa.Po
open Go.RowKit Go.Sort
open Te Te.Tt
open Go (Lit DataW MemPlace keyOf maxLen)

set_option maxHeartbeats 16000000 in
set_option maxRecDepth 100000 in
theorem policySets_walk (l : List Ac) (A : Option Addr) (ca : Nat) (a b : Nm) (on : Bool) (c d : Nm) (V : World) (S : Nat → Prop) (hll : l.length ≤ maxLen) (hr : ARow V S l A) (hS : ∀ b, S b → b < V.heap.size) (hok : ∀ x ∈ l, AOk x) (ha : a.length ≤ maxLen) (hb : b.length ≤ maxLen) (hc0 : c.length ≤ maxLen) (hd : d.length ≤ maxLen) :
    Calls Try.prog 3 #[.slice A l.length ca, .string ⟨⟨a⟩⟩, .string ⟨⟨b⟩⟩, .bool on, .string ⟨⟨c⟩⟩, .string ⟨⟨d⟩⟩] V fun e w' => e = .returned (.bool true) ∧ RowKit.Below V.heap.size V w' := by
  obtain ⟨m, hm⟩ : ∃ m, m = l.length := ⟨_, rfl⟩
  have HOV : Hid (∀ W, RowKit.Below V.heap.size V W → Calls Try.prog 9 #[.slice A l.length ca] W fun e w' => e = .returned (.bool (ovr l)) ∧ w' = W) := fun W hW => over_any l A ca S W (hr.keep (fun _ h => h) (fun b hb => hW.block b (hS b hb))) hll
  obtain ⟨o, ho⟩ : ∃ o, o = ovr l := ⟨_, rfl⟩
  rw [← ho] at HOV
  have HOO := Lib.hid ho
  have HM := Lib.hid hm
  have HA := Lib.hid hr
  have HS := Lib.hid hS
  have HOK := Lib.hid hok
  have HWK := Lib.hid (works_any V)
  rw [← hm] at HOV ⊢
  clear hr hS hok ho hm hll
  go_enter Try.func3, Try.ntmps3
  go_wp2_with fail
  refine HWK.out.mono ?_
  rintro _ w1 ⟨rfl, b1⟩
  have HB1 := Lib.hid b1
  clear b1 HWK
  go_wp2_with fail
  refine (HOV.out w1 HB1.out).mono ?_
  rintro _ w2 ⟨rfl, rfl⟩
  clear HOV
  cases o
  case true =>
    go_wp2
    go_ret
    exact ⟨rfl, HB1.out⟩
  case false =>
  have HNO := Lib.hid (ovr_no HOO.out.symm)
  have hm40 : m ≤ 40 := by rw [HM.out]; exact HNO.out.1
  clear HOO
  go_wp2_with fail
  refine (one_new V w2 HB1.out).mono ?_
  rintro _ w3 ⟨g, bm, rfl, h3, -⟩
  have HO3 := Lib.hid h3
  clear h3 HB1
  go_wp2_with fail
  go_loopw [15] (fun iv wr => ∃ i : Nat, i ≤ m ∧ iv = .int .i64 (i : Nat) ∧ Hid (∃ σ n, One V (fun _ => False) g bm σ n wr ∧ n ≤ i)) (fun iv _ => m - (intOf iv).toNat)
  case atStart => exact ⟨0, by omega, rfl, Lib.hid ⟨_, _, HO3.out, Nat.le_refl _⟩⟩
  case round =>
    obtain ⟨i, hi, rfl, HI⟩ := hrel
    clear HO3
    obtain ⟨σ, n, hone, hni⟩ := HI.out
    have HO := Lib.hid hone
    clear HI hone
    by_cases hlt : i < m
    · have hil : (i : Int) < (m : Int) := by omega
      have hl1 : i < l.length := by rw [← HM.out]; exact hlt
      have hbel := HO.out.bel
      obtain ⟨b', o', rfl, hSb, hat⟩ := (HA.out.keep (w' := wr) (fun _ h => h) (fun b hb => hbel.block b (HS.out b hb))).resolve_left (fun h => by rw [h] at hl1; simp at hl1)
      obtain ⟨A1, a1, C1, c1, G1, g1, e0, e1, e2, e3, e4, e5, e6, e7, e8, e9, e10, e11, hA1, hC1, hG1, la1, lc1⟩ := hat i hl1
      have hmem := List.getElem_mem hl1
      have hlen := HNO.out.2 _ hmem
      have hD := one_done HO.out l[i] A1 a1 C1 c1 G1 g1 S hA1 hC1 hG1 la1 lc1 (fun b hb => Nat.lt_of_lt_of_le (HS.out b hb) hbel.size) (HOK.out _ hmem) hlen.1 hlen.2.1 hlen.2.2 (by omega)
      have HD := Lib.hid hD
      clear hD hlen hmem hat hSb hbel hA1 hC1 hG1 la1 lc1
      generalize l[i] = y at *
      generalize y.p.al.length = la at *
      generalize y.p.ac.length = lc at *
      generalize y.p.gr.length = lg at *
      clear hl1
      go_wp2_with fail
      refine HD.out.mono ?_
      rintro _ w4 ⟨⟨er, rfl⟩, σ', n', ho4, hn4⟩
      have HR4 : Hid (∃ σ n, One V (fun _ => False) g bm σ n w4 ∧ n ≤ i + 1) := ⟨σ', n', ho4, by omega⟩
      clear ho4 hn4 HD HO e0 e1 e2 e3 e4 e5 e6 e7 e8 e9 e10 e11
      go_wp2
      go_roundw
      case rel => exact ⟨i + 1, by omega, by go_num, HR4⟩
      case measure => simp [intOf]; omega
    · have hil : ¬ (i : Int) < (m : Int) := by omega
      have hnx : n < maxLen := by unfold maxLen; omega
      have HNX : Hid (n < maxLen) := hnx
      clear HA HS HOK HNO hnx
      obtain ⟨p, hp⟩ : ∃ p, p = gt σ c := ⟨_, rfl⟩
      obtain ⟨u, hu⟩ : ∃ u, u = decide (d ∈ (gt σ c).al) := ⟨_, rfl⟩
      obtain ⟨v, hv⟩ : ∃ v, v = decide (c ∈ (gt σ d).ac) := ⟨_, rfl⟩
      obtain ⟨x, hx⟩ : ∃ x, x = decide (b ∈ (gt σ a).al) := ⟨_, rfl⟩
      obtain ⟨y, hy⟩ : ∃ y, y = decide (a ∈ (gt σ b).ac) := ⟨_, rfl⟩
      have HE1 := Lib.hid hp
      have HU := Lib.hid hu
      have HV := Lib.hid hv
      have HX := Lib.hid hx
      have HY := Lib.hid hy
      clear hp hu hv hx hy
      have hget1 := one_get HO.out c hc0
      unfold GetPost at hget1
      rw [← HE1.out] at hget1
      have hpl1 := gt_len HO.out.ok c
      rw [← HE1.out] at hpl1
      have HPL1 := Lib.hid hpl1
      have HGET1 := Lib.hid hget1
      clear hget1 hpl1
      go_wp2_with fail
      refine HGET1.out.mono ?_
      rintro _ v1 ⟨s1, rfl, ho1, hl1, b1⟩
      obtain ⟨A1, a1, C1, c1, G1, g1, rfl⟩ := ho1.forms
      have Z1V : Hid (V.heap.size ≤ v1.heap.size) := Nat.le_trans HO.out.bel.size b1.size
      have hb1 : RowKit.Below wr.heap.size wr (v1.alloc (.cells #[.string ⟨⟨p.nm⟩⟩, .int .i64 p.ver, .bool p.tr, .bool p.se, .slice A1 p.al.length a1, .slice C1 p.ac.length c1, .slice G1 p.gr.length g1, .int .i64 p.li] 32)) := b1.trans ((RowKit.Below.refl _ _).alloc (Nat.le_refl _) _ |>.mono b1.size)
      have hbz1 : RowKit.Below v1.heap.size v1 (v1.alloc (.cells #[.string ⟨⟨p.nm⟩⟩, .int .i64 p.ver, .bool p.tr, .bool p.se, .slice A1 p.al.length a1, .slice C1 p.ac.length c1, .slice G1 p.gr.length g1, .int .i64 p.li] 32)) := (RowKit.Below.refl _ _).alloc (Nat.le_refl _) _
      have hs1 : (v1.alloc (.cells #[.string ⟨⟨p.nm⟩⟩, .int .i64 p.ver, .bool p.tr, .bool p.se, .slice A1 p.al.length a1, .slice C1 p.ac.length c1, .slice G1 p.gr.length g1, .int .i64 p.li] 32)).heap.size = v1.heap.size + 1 := by simp
      have hO1 := HO.out.read hb1 (K' := fun i => i = v1.heap.size ∨ Bl ⟨.slice A1 p.al.length a1, .slice C1 p.ac.length c1, .slice G1 p.gr.length g1⟩ i) (fun i h => by
        rcases h with h | h
        · subst h; exact .inr ⟨b1.size, by rw [hs1]; omega⟩
        · exact .inr ⟨hl1 i h, by have := ho1.lt i h; rw [hs1]; omega⟩)
      have HO1 := Lib.hid hO1
      have HPO1 := Lib.hid (ho1.below hbz1)
      have HLT1 := Lib.hid (fun i (hi : Bl ⟨.slice A1 p.al.length a1, .slice C1 p.ac.length c1, .slice G1 p.gr.length g1⟩ i) => ho1.lt i hi)
      have HGE1 := Lib.hid (fun i (hi : Bl ⟨.slice A1 p.al.length a1, .slice C1 p.ac.length c1, .slice G1 p.gr.length g1⟩ i) => hl1 i hi)
      have HGB1 := Lib.hid (heap_alloc_new v1 (.cells #[.string ⟨⟨p.nm⟩⟩, .int .i64 p.ver, .bool p.tr, .bool p.se, .slice A1 p.al.length a1, .slice C1 p.ac.length c1, .slice G1 p.gr.length g1, .int .i64 p.li] 32))
      simp only [pval]
      clear hO1 ho1 hl1 b1 hb1 hbz1 hs1 HGET1 HO
      go_wp2_with fail
      generalize v1.alloc (.cells #[.string ⟨⟨p.nm⟩⟩, .int .i64 p.ver, .bool p.tr, .bool p.se, .slice A1 p.al.length a1, .slice C1 p.ac.length c1, .slice G1 p.gr.length g1, .int .i64 p.li] 32) = W1 at *
      have HZV1 : Hid (V.heap.size ≤ v1.heap.size) := Z1V.out
      generalize v1.heap.size = z1 at *
      have hc := one_may HO1.out c d hc0 hd
      rw [← HU.out] at hc
      rw [← HV.out] at hc
      have HC := Lib.hid hc
      clear hc
      refine HC.out.mono ?_
      rintro _ w5 ⟨rfl, bb⟩
      have HO2 := Lib.hid (HO1.out.read bb (K' := fun i => i = z1 ∨ Bl ⟨.slice A1 p.al.length a1, .slice C1 p.ac.length c1, .slice G1 p.gr.length g1⟩ i) (fun i h => .inl h))
      have HGB1' := Lib.hid ((bb.block z1 (Array.getElem?_eq_some_iff.1 HGB1.out).1).trans HGB1.out)
      have HPO1' := Lib.hid (HPO1.out.below bb)
      clear HGB1 HPO1
      rename Hid (w5.heap[z1]? = _) => HGB1
      rename Hid (POwn w5 p ⟨.slice A1 p.al.length a1, .slice C1 p.ac.length c1, .slice G1 p.gr.length g1⟩) => HPO1
      clear bb HC HO1
      have hc := one_may HO2.out a b ha hb
      rw [← HX.out] at hc
      rw [← HY.out] at hc
      have HC := Lib.hid hc
      clear hc
      go_wp2_with fail
      refine HC.out.mono ?_
      rintro _ w6 ⟨rfl, bb⟩
      have HO3 := Lib.hid (HO2.out.read bb (K' := fun i => i = z1 ∨ Bl ⟨.slice A1 p.al.length a1, .slice C1 p.ac.length c1, .slice G1 p.gr.length g1⟩ i) (fun i h => .inl h))
      have HGB1' := Lib.hid ((bb.block z1 (Array.getElem?_eq_some_iff.1 HGB1.out).1).trans HGB1.out)
      have HPO1' := Lib.hid (HPO1.out.below bb)
      clear HGB1 HPO1
      rename Hid (w6.heap[z1]? = _) => HGB1
      rename Hid (POwn w6 p ⟨.slice A1 p.al.length a1, .slice C1 p.ac.length c1, .slice G1 p.gr.length g1⟩) => HPO1
      clear bb HC HO2
      by_cases her : (rel σ a b (allF b on)).2 = 0
      case neg =>
        have hc := one_allow HO3.out a b on ha hb HNX.out
        rw [rel_err her] at hc
        have HC := Lib.hid hc
        clear hc
        go_wp2_with fail
        refine HC.out.mono ?_
        rintro _ w7 ⟨rfl, oo, kk⟩
        have HO4 := Lib.hid oo
        have HGB1' := Lib.hid ((kk z1 (.inl rfl)).trans HGB1.out)
        have HPO1' := Lib.hid (HPO1.out.keep (fun i hi => kk i (.inr hi)))
        clear HGB1 HPO1
        rename Hid (w7.heap[z1]? = _) => HGB1
        rename Hid (POwn w7 p ⟨.slice A1 p.al.length a1, .slice C1 p.ac.length c1, .slice G1 p.gr.length g1⟩) => HPO1
        clear oo kk HC HO3
        generalize (rel σ a b (allF b on)).2 = er at *
        obtain ⟨q, hq⟩ : ∃ q, q = gt σ c := ⟨_, rfl⟩
        have HE2 := Lib.hid hq
        clear hq
        have hc := one_may HO4.out a b ha hb
        rw [← HX.out] at hc
        rw [← HY.out] at hc
        have HC := Lib.hid hc
        clear hc
        go_wp2_with fail
        refine HC.out.mono ?_
        rintro _ w8 ⟨rfl, bb⟩
        have HO5 := Lib.hid (HO4.out.read bb (K' := fun i => i = z1 ∨ Bl ⟨.slice A1 p.al.length a1, .slice C1 p.ac.length c1, .slice G1 p.gr.length g1⟩ i) (fun i h => .inl h))
        have HGB1' := Lib.hid ((bb.block z1 (Array.getElem?_eq_some_iff.1 HGB1.out).1).trans HGB1.out)
        have HPO1' := Lib.hid (HPO1.out.below bb)
        clear HGB1 HPO1
        rename Hid (w8.heap[z1]? = _) => HGB1
        rename Hid (POwn w8 p ⟨.slice A1 p.al.length a1, .slice C1 p.ac.length c1, .slice G1 p.gr.length g1⟩) => HPO1
        clear bb HC HO4
        have hget2 := one_get HO5.out c hc0
        unfold GetPost at hget2
        rw [← HE2.out] at hget2
        have hpl2 := gt_len HO5.out.ok c
        rw [← HE2.out] at hpl2
        have HPL2 := Lib.hid hpl2
        have HGET2 := Lib.hid hget2
        clear hget2 hpl2
        go_wp2_with fail
        refine HGET2.out.mono ?_
        rintro _ v2 ⟨s2, rfl, ho2, hl2, b2⟩
        obtain ⟨A2, a2, C2, c2, G2, g2, rfl⟩ := ho2.forms
        have Z1L : Hid (z1 < v2.heap.size) := Nat.lt_of_lt_of_le (Array.getElem?_eq_some_iff.1 HGB1.out).1 b2.size
        have Z1W : Hid (z1 < w8.heap.size) := (Array.getElem?_eq_some_iff.1 HGB1.out).1
        have Z2V : Hid (V.heap.size ≤ v2.heap.size) := Nat.le_trans HO5.out.bel.size b2.size
        have hb2 : RowKit.Below w8.heap.size w8 (v2.alloc (.cells #[.string ⟨⟨q.nm⟩⟩, .int .i64 q.ver, .bool q.tr, .bool q.se, .slice A2 q.al.length a2, .slice C2 q.ac.length c2, .slice G2 q.gr.length g2, .int .i64 q.li] 32)) := b2.trans ((RowKit.Below.refl _ _).alloc (Nat.le_refl _) _ |>.mono b2.size)
        have hbz2 : RowKit.Below v2.heap.size v2 (v2.alloc (.cells #[.string ⟨⟨q.nm⟩⟩, .int .i64 q.ver, .bool q.tr, .bool q.se, .slice A2 q.al.length a2, .slice C2 q.ac.length c2, .slice G2 q.gr.length g2, .int .i64 q.li] 32)) := (RowKit.Below.refl _ _).alloc (Nat.le_refl _) _
        have hs2 : (v2.alloc (.cells #[.string ⟨⟨q.nm⟩⟩, .int .i64 q.ver, .bool q.tr, .bool q.se, .slice A2 q.al.length a2, .slice C2 q.ac.length c2, .slice G2 q.gr.length g2, .int .i64 q.li] 32)).heap.size = v2.heap.size + 1 := by simp
        have hO2 := HO5.out.read hb2 (K' := fun _ => False) (fun i h => by
          exact h.elim)
        have HO2 := Lib.hid hO2
        have HPO2 := Lib.hid (ho2.below hbz2)
        have HLT2 := Lib.hid (fun i (hi : Bl ⟨.slice A2 q.al.length a2, .slice C2 q.ac.length c2, .slice G2 q.gr.length g2⟩ i) => ho2.lt i hi)
        have HGE2 := Lib.hid (fun i (hi : Bl ⟨.slice A2 q.al.length a2, .slice C2 q.ac.length c2, .slice G2 q.gr.length g2⟩ i) => hl2 i hi)
        have HGB2 := Lib.hid (heap_alloc_new v2 (.cells #[.string ⟨⟨q.nm⟩⟩, .int .i64 q.ver, .bool q.tr, .bool q.se, .slice A2 q.al.length a2, .slice C2 q.ac.length c2, .slice G2 q.gr.length g2, .int .i64 q.li] 32))
        have HGB1' := Lib.hid ((hb2.block z1 (Array.getElem?_eq_some_iff.1 HGB1.out).1).trans HGB1.out)
        have HPO1' := Lib.hid (HPO1.out.below hb2)
        simp only [pval]
        clear hO2 ho2 hl2 b2 hb2 hbz2 hs2 HGET2 HO5 HGB1 HPO1
        rename Hid ((v2.alloc _).heap[z1]? = _) => HGB1
        rename Hid (POwn (v2.alloc _) p ⟨.slice A1 p.al.length a1, .slice C1 p.ac.length c1, .slice G1 p.gr.length g1⟩) => HPO1
        go_wp2_with fail
        generalize v2.alloc (.cells #[.string ⟨⟨q.nm⟩⟩, .int .i64 q.ver, .bool q.tr, .bool q.se, .slice A2 q.al.length a2, .slice C2 q.ac.length c2, .slice G2 q.gr.length g2, .int .i64 q.li] 32) = W2 at *
        have HZ12 : Hid (z1 ≠ v2.heap.size) := fun e => by have := Z1L.out; omega
        have HZV2 : Hid (V.heap.size ≤ v2.heap.size) := Z2V.out
        generalize v2.heap.size = z2 at *
        have hc := one_may HO2.out c d hc0 hd
        rw [← HU.out] at hc
        rw [← HV.out] at hc
        have HC := Lib.hid hc
        clear hc
        refine HC.out.mono ?_
        rintro _ w9 ⟨rfl, bb⟩
        have HO6 := Lib.hid (HO2.out.read bb (K' := fun _ => False) (fun i h => .inl h))
        have HGB1' := Lib.hid ((bb.block z1 (Array.getElem?_eq_some_iff.1 HGB1.out).1).trans HGB1.out)
        have HPO1' := Lib.hid (HPO1.out.below bb)
        have HGB2' := Lib.hid ((bb.block z2 (Array.getElem?_eq_some_iff.1 HGB2.out).1).trans HGB2.out)
        have HPO2' := Lib.hid (HPO2.out.below bb)
        clear HGB1 HPO1 HGB2 HPO2
        rename Hid (w9.heap[z1]? = _) => HGB1
        rename Hid (POwn w9 p ⟨.slice A1 p.al.length a1, .slice C1 p.ac.length c1, .slice G1 p.gr.length g1⟩) => HPO1
        rename Hid (w9.heap[z2]? = _) => HGB2
        rename Hid (POwn w9 q ⟨.slice A2 q.al.length a2, .slice C2 q.ac.length c2, .slice G2 q.gr.length g2⟩) => HPO2
        clear bb HC HO2
        have HBW := Lib.hid HO6.out.bel
        clear HO6
        have hS1 : ∀ i, Bl ⟨.slice A1 p.al.length a1, .slice C1 p.ac.length c1, .slice G1 p.gr.length g1⟩ i → i < w9.heap.size := fun i hi => HPO1.out.lt i hi
        have hS2 : ∀ i, Bl ⟨.slice A2 q.al.length a2, .slice C2 q.ac.length c2, .slice G2 q.gr.length g2⟩ i → i < w9.heap.size := fun i hi => HPO2.out.lt i hi
        have hsame := Same_any p q (fun i => Bl ⟨.slice A1 p.al.length a1, .slice C1 p.ac.length c1, .slice G1 p.gr.length g1⟩ i ∨ Bl ⟨.slice A2 q.al.length a2, .slice C2 q.ac.length c2, .slice G2 q.gr.length g2⟩ i) _ _ w9 (HPO1.out.pv.keep (fun i h => .inl h) (fun _ _ => rfl)) (HPO2.out.pv.keep (fun i h => .inr h) (fun _ _ => rfl)) (fun i h => h.elim (hS1 i) (hS2 i)) (by have := HPL1.out; omega) (by have := HPL1.out; omega) (by have := HPL1.out; omega)
        rw [show pEq p q = true from pEq_iff.2 (by rw [HE1.out, HE2.out])] at hsame
        have HSM := Lib.hid hsame
        obtain ⟨c0, c1, c2, c3, c4, c5, c6, c7⟩ := cell8 HGB1.out
        obtain ⟨d0, d1, d2, d3, d4, d5, d6, d7⟩ := cell8 HGB2.out
        have hne : (er == 0) = false := by simpa using her
        clear hsame hS1 hS2 HGB1 HGB2 HPO1 HPO2 HE1 HE2
        go_wp2_with fail
        refine HSM.out.mono ?_
        rintro _ w10 ⟨rfl, b10⟩
        have HB10 := Lib.hid (HBW.out.trans (b10.mono HBW.out.size))
        clear b10 HSM c0 c1 c2 c3 c4 c5 c6 c7 d0 d1 d2 d3 d4 d5 d6 d7
        go_wp2
        go_ret
        exact ⟨by simp, HB10.out⟩
      case pos =>
      obtain ⟨t1, t2, t3, t4⟩ := sets_ok HO3.out.ok her
      have hal := one_allow HO3.out a b on ha hb HNX.out
      rw [her] at hal
      generalize (rel σ a b (allF b on)).1 = τ at *
      have T1 := Lib.hid t1
      have T2 := Lib.hid t2
      have T3 := Lib.hid t3
      have T4 := Lib.hid t4
      have HAL := Lib.hid hal
      clear t1 t2 t3 t4 hal her
      have hc := HAL.out
      have HC := Lib.hid hc
      clear hc
      go_wp2_with fail
      refine HC.out.mono ?_
      rintro _ w7 ⟨rfl, oo, kk⟩
      have HO4 := Lib.hid oo
      have HGB1' := Lib.hid ((kk z1 (.inl rfl)).trans HGB1.out)
      have HPO1' := Lib.hid (HPO1.out.keep (fun i hi => kk i (.inr hi)))
      clear HGB1 HPO1
      rename Hid (w7.heap[z1]? = _) => HGB1
      rename Hid (POwn w7 p ⟨.slice A1 p.al.length a1, .slice C1 p.ac.length c1, .slice G1 p.gr.length g1⟩) => HPO1
      clear oo kk HC HO3
      clear HAL
      obtain ⟨q, hq⟩ : ∃ q, q = gt τ c := ⟨_, rfl⟩
      obtain ⟨mm, hmm⟩ : ∃ mm, mm = decide (d ∈ (gt τ c).al) := ⟨_, rfl⟩
      have HE2 := Lib.hid hq
      have HMM := Lib.hid hmm
      clear hq hmm
      have hc := one_may HO4.out a b ha hb
      rw [T1.out] at hc
      rw [T2.out] at hc
      rw [← HY.out] at hc
      have HC := Lib.hid hc
      clear hc
      go_wp2_with fail
      refine HC.out.mono ?_
      rintro _ w8 ⟨rfl, bb⟩
      have HO5 := Lib.hid (HO4.out.read bb (K' := fun i => i = z1 ∨ Bl ⟨.slice A1 p.al.length a1, .slice C1 p.ac.length c1, .slice G1 p.gr.length g1⟩ i) (fun i h => .inl h))
      have HGB1' := Lib.hid ((bb.block z1 (Array.getElem?_eq_some_iff.1 HGB1.out).1).trans HGB1.out)
      have HPO1' := Lib.hid (HPO1.out.below bb)
      clear HGB1 HPO1
      rename Hid (w8.heap[z1]? = _) => HGB1
      rename Hid (POwn w8 p ⟨.slice A1 p.al.length a1, .slice C1 p.ac.length c1, .slice G1 p.gr.length g1⟩) => HPO1
      clear bb HC HO4
      have hget2 := one_get HO5.out c hc0
      unfold GetPost at hget2
      rw [← HE2.out] at hget2
      have hpl2 := gt_len HO5.out.ok c
      rw [← HE2.out] at hpl2
      have HPL2 := Lib.hid hpl2
      have HGET2 := Lib.hid hget2
      clear hget2 hpl2
      go_wp2_with fail
      refine HGET2.out.mono ?_
      rintro _ v2 ⟨s2, rfl, ho2, hl2, b2⟩
      obtain ⟨A2, a2, C2, c2, G2, g2, rfl⟩ := ho2.forms
      have Z1L : Hid (z1 < v2.heap.size) := Nat.lt_of_lt_of_le (Array.getElem?_eq_some_iff.1 HGB1.out).1 b2.size
      have Z1W : Hid (z1 < w8.heap.size) := (Array.getElem?_eq_some_iff.1 HGB1.out).1
      have Z2V : Hid (V.heap.size ≤ v2.heap.size) := Nat.le_trans HO5.out.bel.size b2.size
      have hb2 : RowKit.Below w8.heap.size w8 (v2.alloc (.cells #[.string ⟨⟨q.nm⟩⟩, .int .i64 q.ver, .bool q.tr, .bool q.se, .slice A2 q.al.length a2, .slice C2 q.ac.length c2, .slice G2 q.gr.length g2, .int .i64 q.li] 32)) := b2.trans ((RowKit.Below.refl _ _).alloc (Nat.le_refl _) _ |>.mono b2.size)
      have hbz2 : RowKit.Below v2.heap.size v2 (v2.alloc (.cells #[.string ⟨⟨q.nm⟩⟩, .int .i64 q.ver, .bool q.tr, .bool q.se, .slice A2 q.al.length a2, .slice C2 q.ac.length c2, .slice G2 q.gr.length g2, .int .i64 q.li] 32)) := (RowKit.Below.refl _ _).alloc (Nat.le_refl _) _
      have hs2 : (v2.alloc (.cells #[.string ⟨⟨q.nm⟩⟩, .int .i64 q.ver, .bool q.tr, .bool q.se, .slice A2 q.al.length a2, .slice C2 q.ac.length c2, .slice G2 q.gr.length g2, .int .i64 q.li] 32)).heap.size = v2.heap.size + 1 := by simp
      have hO2 := HO5.out.read hb2 (K' := fun _ => False) (fun i h => by
        exact h.elim)
      have HO2 := Lib.hid hO2
      have HPO2 := Lib.hid (ho2.below hbz2)
      have HLT2 := Lib.hid (fun i (hi : Bl ⟨.slice A2 q.al.length a2, .slice C2 q.ac.length c2, .slice G2 q.gr.length g2⟩ i) => ho2.lt i hi)
      have HGE2 := Lib.hid (fun i (hi : Bl ⟨.slice A2 q.al.length a2, .slice C2 q.ac.length c2, .slice G2 q.gr.length g2⟩ i) => hl2 i hi)
      have HGB2 := Lib.hid (heap_alloc_new v2 (.cells #[.string ⟨⟨q.nm⟩⟩, .int .i64 q.ver, .bool q.tr, .bool q.se, .slice A2 q.al.length a2, .slice C2 q.ac.length c2, .slice G2 q.gr.length g2, .int .i64 q.li] 32))
      have HGB1' := Lib.hid ((hb2.block z1 (Array.getElem?_eq_some_iff.1 HGB1.out).1).trans HGB1.out)
      have HPO1' := Lib.hid (HPO1.out.below hb2)
      simp only [pval]
      clear hO2 ho2 hl2 b2 hb2 hbz2 hs2 HGET2 HO5 HGB1 HPO1
      rename Hid ((v2.alloc _).heap[z1]? = _) => HGB1
      rename Hid (POwn (v2.alloc _) p ⟨.slice A1 p.al.length a1, .slice C1 p.ac.length c1, .slice G1 p.gr.length g1⟩) => HPO1
      go_wp2_with fail
      generalize v2.alloc (.cells #[.string ⟨⟨q.nm⟩⟩, .int .i64 q.ver, .bool q.tr, .bool q.se, .slice A2 q.al.length a2, .slice C2 q.ac.length c2, .slice G2 q.gr.length g2, .int .i64 q.li] 32) = W2 at *
      have HZ12 : Hid (z1 ≠ v2.heap.size) := fun e => by have := Z1L.out; omega
      have HZV2 : Hid (V.heap.size ≤ v2.heap.size) := Z2V.out
      generalize v2.heap.size = z2 at *
      have hc := one_may HO2.out c d hc0 hd
      rw [← HMM.out] at hc
      rw [T2.out] at hc
      rw [← HV.out] at hc
      have HC := Lib.hid hc
      clear hc
      refine HC.out.mono ?_
      rintro _ w9 ⟨rfl, bb⟩
      have HO6 := Lib.hid (HO2.out.read bb (K' := fun _ => False) (fun i h => .inl h))
      have HGB1' := Lib.hid ((bb.block z1 (Array.getElem?_eq_some_iff.1 HGB1.out).1).trans HGB1.out)
      have HPO1' := Lib.hid (HPO1.out.below bb)
      have HGB2' := Lib.hid ((bb.block z2 (Array.getElem?_eq_some_iff.1 HGB2.out).1).trans HGB2.out)
      have HPO2' := Lib.hid (HPO2.out.below bb)
      clear HGB1 HPO1 HGB2 HPO2
      rename Hid (w9.heap[z1]? = _) => HGB1
      rename Hid (POwn w9 p ⟨.slice A1 p.al.length a1, .slice C1 p.ac.length c1, .slice G1 p.gr.length g1⟩) => HPO1
      rename Hid (w9.heap[z2]? = _) => HGB2
      rename Hid (POwn w9 q ⟨.slice A2 q.al.length a2, .slice C2 q.ac.length c2, .slice G2 q.gr.length g2⟩) => HPO2
      clear bb HC HO2
      have HBW := Lib.hid HO6.out.bel
      clear HO6
      have hpe : pEq { p with al := [] } { q with al := [] } = true := pEq_iff.2 (by rw [HE1.out, HE2.out]; exact (T3.out c).symm)
      have hm1 : (w9.setCell ⟨z1, 4, none⟩ (.slice none 0 0)).heap[z1]? = some (.cells #[.string ⟨⟨p.nm⟩⟩, .int .i64 p.ver, .bool p.tr, .bool p.se, .slice none 0 0, .slice C1 p.ac.length c1, .slice G1 p.gr.length g1, .int .i64 p.li] 32 (0, 0)) := heap_setCell_same _ _ _ _ _ _ HGB1.out
      have hm2 : (w9.setCell ⟨z1, 4, none⟩ (.slice none 0 0)).heap[z2]? = some (.cells #[.string ⟨⟨q.nm⟩⟩, .int .i64 q.ver, .bool q.tr, .bool q.se, .slice A2 q.al.length a2, .slice C2 q.ac.length c2, .slice G2 q.gr.length g2, .int .i64 q.li] 32 (0, 0)) := (heap_setCell_other _ _ _ _ (fun e => HZ12.out e.symm)).trans HGB2.out
      have hn1 : ((w9.setCell ⟨z1, 4, none⟩ (.slice none 0 0)).setCell ⟨z2, 4, none⟩ (.slice none 0 0)).heap[z1]? = some (.cells #[.string ⟨⟨p.nm⟩⟩, .int .i64 p.ver, .bool p.tr, .bool p.se, .slice none 0 0, .slice C1 p.ac.length c1, .slice G1 p.gr.length g1, .int .i64 p.li] 32 (0, 0)) := (heap_setCell_other _ _ _ _ HZ12.out).trans hm1
      have hn2 : ((w9.setCell ⟨z1, 4, none⟩ (.slice none 0 0)).setCell ⟨z2, 4, none⟩ (.slice none 0 0)).heap[z2]? = some (.cells #[.string ⟨⟨q.nm⟩⟩, .int .i64 q.ver, .bool q.tr, .bool q.se, .slice none 0 0, .slice C2 q.ac.length c2, .slice G2 q.gr.length g2, .int .i64 q.li] 32 (0, 0)) := heap_setCell_same _ _ _ _ _ _ hm2
      have hz12 : z1 < z2 := Z1L.out
      have hk1 : ∀ k, Bl ⟨.slice A1 p.al.length a1, .slice C1 p.ac.length c1, .slice G1 p.gr.length g1⟩ k → ((w9.setCell ⟨z1, 4, none⟩ (.slice none 0 0)).setCell ⟨z2, 4, none⟩ (.slice none 0 0)).heap[k]? = w9.heap[k]? := fun k hk => by
        have h1 := HLT1.out k hk
        exact (heap_setCell_other _ _ _ _ (show k ≠ z2 by omega)).trans (heap_setCell_other _ _ _ _ (show k ≠ z1 by omega))
      have hk2 : ∀ k, Bl ⟨.slice A2 q.al.length a2, .slice C2 q.ac.length c2, .slice G2 q.gr.length g2⟩ k → ((w9.setCell ⟨z1, 4, none⟩ (.slice none 0 0)).setCell ⟨z2, 4, none⟩ (.slice none 0 0)).heap[k]? = w9.heap[k]? := fun k hk => by
        have h1 := HLT2.out k hk
        have h2 := HGE2.out k hk
        have h3 := Z1W.out
        exact (heap_setCell_other _ _ _ _ (show k ≠ z2 by omega)).trans (heap_setCell_other _ _ _ _ (show k ≠ z1 by omega))
      have hsz : ((w9.setCell ⟨z1, 4, none⟩ (.slice none 0 0)).setCell ⟨z2, 4, none⟩ (.slice none 0 0)).heap.size = w9.heap.size := by simp
      have hS1 : ∀ i, Bl ⟨.slice A1 p.al.length a1, .slice C1 p.ac.length c1, .slice G1 p.gr.length g1⟩ i → i < ((w9.setCell ⟨z1, 4, none⟩ (.slice none 0 0)).setCell ⟨z2, 4, none⟩ (.slice none 0 0)).heap.size := fun i hi => by rw [hsz]; exact HPO1.out.lt i hi
      have hS2 : ∀ i, Bl ⟨.slice A2 q.al.length a2, .slice C2 q.ac.length c2, .slice G2 q.gr.length g2⟩ i → i < ((w9.setCell ⟨z1, 4, none⟩ (.slice none 0 0)).setCell ⟨z2, 4, none⟩ (.slice none 0 0)).heap.size := fun i hi => by rw [hsz]; exact HPO2.out.lt i hi
      have hBB : RowKit.Below V.heap.size V ((w9.setCell ⟨z1, 4, none⟩ (.slice none 0 0)).setCell ⟨z2, 4, none⟩ (.slice none 0 0)) := (HBW.out.setCell (p := ⟨z1, 4, none⟩) HZV1.out _).setCell (p := ⟨z2, 4, none⟩) HZV2.out _
      have hv1 : PV ((w9.setCell ⟨z1, 4, none⟩ (.slice none 0 0)).setCell ⟨z2, 4, none⟩ (.slice none 0 0)) (fun i => Bl ⟨.slice A1 p.al.length a1, .slice C1 p.ac.length c1, .slice G1 p.gr.length g1⟩ i ∨ Bl ⟨.slice A2 q.al.length a2, .slice C2 q.ac.length c2, .slice G2 q.gr.length g2⟩ i) { p with al := [] } (.agg #[.string ⟨⟨p.nm⟩⟩, .int .i64 p.ver, .bool p.tr, .bool p.se, .slice none 0 0, .slice C1 p.ac.length c1, .slice G1 p.gr.length g1, .int .i64 p.li]) := by
        obtain ⟨A', a', C', c', G', g', e, -, h2, h3, -, h5⟩ := (HPO1.out.pv.keep (S' := fun i => Bl ⟨.slice A1 p.al.length a1, .slice C1 p.ac.length c1, .slice G1 p.gr.length g1⟩ i ∨ Bl ⟨.slice A2 q.al.length a2, .slice C2 q.ac.length c2, .slice G2 q.gr.length g2⟩ i) (fun i h => .inl h) hk1)
        injection e with e
        simp at e
        obtain ⟨-, ⟨e1, e2⟩, e3, e4⟩ := e
        subst e1 e2 e3 e4
        exact ⟨none, 0, C1, c1, G1, g1, rfl, .inl rfl, h2, h3, Nat.le_refl _, h5⟩
      have hv2 : PV ((w9.setCell ⟨z1, 4, none⟩ (.slice none 0 0)).setCell ⟨z2, 4, none⟩ (.slice none 0 0)) (fun i => Bl ⟨.slice A1 p.al.length a1, .slice C1 p.ac.length c1, .slice G1 p.gr.length g1⟩ i ∨ Bl ⟨.slice A2 q.al.length a2, .slice C2 q.ac.length c2, .slice G2 q.gr.length g2⟩ i) { q with al := [] } (.agg #[.string ⟨⟨q.nm⟩⟩, .int .i64 q.ver, .bool q.tr, .bool q.se, .slice none 0 0, .slice C2 q.ac.length c2, .slice G2 q.gr.length g2, .int .i64 q.li]) := by
        obtain ⟨A', a', C', c', G', g', e, -, h2, h3, -, h5⟩ := (HPO2.out.pv.keep (S' := fun i => Bl ⟨.slice A1 p.al.length a1, .slice C1 p.ac.length c1, .slice G1 p.gr.length g1⟩ i ∨ Bl ⟨.slice A2 q.al.length a2, .slice C2 q.ac.length c2, .slice G2 q.gr.length g2⟩ i) (fun i h => .inr h) hk2)
        injection e with e
        simp at e
        obtain ⟨-, ⟨e1, e2⟩, e3, e4⟩ := e
        subst e1 e2 e3 e4
        exact ⟨none, 0, C2, c2, G2, g2, rfl, .inl rfl, h2, h3, Nat.le_refl _, h5⟩
      have hsame := Same_any { p with al := [] } { q with al := [] } _ _ _ _ hv1 hv2 (fun i h => h.elim (hS1 i) (hS2 i)) (Nat.zero_le _) (by have := HPL1.out; simp only; omega) (by have := HPL1.out; simp only; omega)
      rw [hpe] at hsame
      have HSM := Lib.hid hsame
      have HBB := Lib.hid hBB
      have HUM : Hid (¬ (c = a ∧ d = b) → mm = u) := fun h => by rw [HMM.out, HU.out]; exact T4.out c d h
      obtain ⟨c0, c1', c2', c3, c4, c5, c6, c7⟩ := cell8 HGB1.out
      obtain ⟨d0, d1, d2, d3, d4, d5, d6, d7⟩ := cell8 hm2
      obtain ⟨x0, x1, x2, x3, x4, x5, x6, x7⟩ := cell8 hn1
      obtain ⟨y0, y1, y2, y3, y4, y5, y6, y7⟩ := cell8 hn2
      have hf1 := fun k => frozen_of_row _ _ k _ _ HGB1.out
      have hf2 := fun k => frozen_of_row _ _ k _ _ hm2
      clear hsame hS1 hS2 hv1 hv2 hk1 hk2 hsz hBB hpe hm1 hm2 hn1 hn2 HGB1 HGB2 HPO1 HPO2 HE1 HE2 T1 T2 T3 T4 HMM HU HV HX HY HBW hz12
      go_wp2_with fail
      refine HSM.out.mono ?_
      rintro _ w10 ⟨rfl, b10⟩
      have HB10 := Lib.hid (HBB.out.trans (b10.mono HBB.out.size))
      clear b10 HSM c0 c1' c2' c3 c4 c5 c6 c7 d0 d1 d2 d3 d4 d5 d6 d7 x0 x1 x2 x3 x4 x5 x6 x7 y0 y1 y2 y3 y4 y5 y6 y7 hf1 hf2
      by_cases hca : c = a
      case neg =>
        obtain rfl := HUM.out (fun h => hca h.1)
        have hbeq : (c == a) = false := by simpa using hca
        clear HUM
        go_wp2
        go_ret
        exact ⟨by simp, HB10.out⟩
      by_cases hdb : d = b
      case neg =>
        obtain rfl := HUM.out (fun h => hdb h.2)
        have hbeq : (d == b) = false := by simpa using hdb
        subst hca
        clear HUM
        go_wp2
        go_ret
        exact ⟨by simp, HB10.out⟩
      subst hca hdb
      clear HUM
      go_wp2
      go_ret
      exact ⟨by simp, HB10.out⟩
end Go.Proofs.Ytehmfkcihieecaa.Po
