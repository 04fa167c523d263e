/- The law PolicyFlags, walked. (Laid with NS=1; written by wip/tools/gen/pol.py.) -/
import Derived.Test.YtehmfkcihieecaaPoW13
import Derived.Test.YtehmfkcihieecaaPoL0b
namespace Go.Proofs.Ytehmfkcihieecaa.Po
open Go.RowKit Go.Sort
open Te Te.Tt
open Go (Lit DataW MemPlace keyOf maxLen)

set_option maxHeartbeats 16000000 in
set_option maxRecDepth 100000 in
theorem policyFlags_walk (l : List Ac) (A : Option Addr) (ca : Nat) (a : Nm) (on : Bool) (c : Nm) (V : World) (S : Nat → Prop) (hll : l.length ≤ maxLen) (hr : ARow V S l A) (hS : ∀ b, S b → b < V.heap.size) (hok : ∀ x ∈ l, AOk x) (ha : a.length ≤ maxLen) (hc0 : c.length ≤ maxLen) :
    Calls Try.prog 5 #[.slice A l.length ca, .string ⟨⟨a⟩⟩, .bool on, .string ⟨⟨c⟩⟩] V fun e w' => e = .returned (.bool true) ∧ RowKit.Below V.heap.size V w' := by
  obtain ⟨m, hm⟩ : ∃ m, m = l.length := ⟨_, rfl⟩
  have HOV : Hid (∀ W, RowKit.Below V.heap.size V W → Calls Try.prog 9 #[.slice A l.length ca] W fun e w' => e = .returned (.bool (ovr l)) ∧ w' = W) := fun W hW => over_any l A ca S W (hr.keep (fun _ h => h) (fun b hb => hW.block b (hS b hb))) hll
  obtain ⟨o, ho⟩ : ∃ o, o = ovr l := ⟨_, rfl⟩
  rw [← ho] at HOV
  have HOO := Lib.hid ho
  have HM := Lib.hid hm
  have HA := Lib.hid hr
  have HS := Lib.hid hS
  have HOK := Lib.hid hok
  have HWK := Lib.hid (works_any V)
  rw [← hm] at HOV ⊢
  clear hr hS hok ho hm hll
  go_enter Try.func5, Try.ntmps5
  go_wp2_with fail
  refine HWK.out.mono ?_
  rintro _ w1 ⟨rfl, b1⟩
  have HB1 := Lib.hid b1
  clear b1 HWK
  go_wp2_with fail
  refine (HOV.out w1 HB1.out).mono ?_
  rintro _ w2 ⟨rfl, rfl⟩
  clear HOV
  cases o
  case true =>
    go_wp2
    go_ret
    exact ⟨rfl, HB1.out⟩
  case false =>
  have HNO := Lib.hid (ovr_no HOO.out.symm)
  have hm40 : m ≤ 40 := by rw [HM.out]; exact HNO.out.1
  clear HOO
  go_wp2_with fail
  refine (one_new V w2 HB1.out).mono ?_
  rintro _ w3 ⟨g, bm, rfl, h3, -⟩
  have HO3 := Lib.hid h3
  clear h3 HB1
  go_wp2_with fail
  go_loopw [11] (fun iv wr => ∃ i : Nat, i ≤ m ∧ iv = .int .i64 (i : Nat) ∧ Hid (∃ σ n, One V (fun _ => False) g bm σ n wr ∧ n ≤ i)) (fun iv _ => m - (intOf iv).toNat)
  case atStart => exact ⟨0, by omega, rfl, Lib.hid ⟨_, _, HO3.out, Nat.le_refl _⟩⟩
  case round =>
    obtain ⟨i, hi, rfl, HI⟩ := hrel
    clear HO3
    obtain ⟨σ, n, hone, hni⟩ := HI.out
    have HO := Lib.hid hone
    clear HI hone
    by_cases hlt : i < m
    · have hil : (i : Int) < (m : Int) := by omega
      have hl1 : i < l.length := by rw [← HM.out]; exact hlt
      have hbel := HO.out.bel
      obtain ⟨b', o', rfl, hSb, hat⟩ := (HA.out.keep (w' := wr) (fun _ h => h) (fun b hb => hbel.block b (HS.out b hb))).resolve_left (fun h => by rw [h] at hl1; simp at hl1)
      obtain ⟨A1, a1, C1, c1, G1, g1, e0, e1, e2, e3, e4, e5, e6, e7, e8, e9, e10, e11, hA1, hC1, hG1, la1, lc1⟩ := hat i hl1
      have hmem := List.getElem_mem hl1
      have hlen := HNO.out.2 _ hmem
      have hD := one_done HO.out l[i] A1 a1 C1 c1 G1 g1 S hA1 hC1 hG1 la1 lc1 (fun b hb => Nat.lt_of_lt_of_le (HS.out b hb) hbel.size) (HOK.out _ hmem) hlen.1 hlen.2.1 hlen.2.2 (by omega)
      have HD := Lib.hid hD
      clear hD hlen hmem hat hSb hbel hA1 hC1 hG1 la1 lc1
      generalize l[i] = y at *
      generalize y.p.al.length = la at *
      generalize y.p.ac.length = lc at *
      generalize y.p.gr.length = lg at *
      clear hl1
      go_wp2_with fail
      refine HD.out.mono ?_
      rintro _ w4 ⟨⟨er, rfl⟩, σ', n', ho4, hn4⟩
      have HR4 : Hid (∃ σ n, One V (fun _ => False) g bm σ n w4 ∧ n ≤ i + 1) := ⟨σ', n', ho4, by omega⟩
      clear ho4 hn4 HD HO e0 e1 e2 e3 e4 e5 e6 e7 e8 e9 e10 e11
      go_wp2
      go_roundw
      case rel => exact ⟨i + 1, by omega, by go_num, HR4⟩
      case measure => simp [intOf]; omega
    · have hil : ¬ (i : Int) < (m : Int) := by omega
      have hnx : n < maxLen := by unfold maxLen; omega
      have HNX : Hid (n < maxLen) := hnx
      clear HA HS HOK HNO hnx
      obtain ⟨p, hp⟩ : ∃ p, p = gt σ a := ⟨_, rfl⟩
      obtain ⟨q, hq⟩ : ∃ p, p = gt σ c := ⟨_, rfl⟩
      obtain ⟨e, he⟩ : ∃ e, e = errW (σ a).isSome := ⟨_, rfl⟩
      have HE1 := Lib.hid hp
      have HE2 := Lib.hid hq
      have HER := Lib.hid he
      clear hp hq he
      have hget1 := one_get HO.out a ha
      unfold GetPost at hget1
      rw [← HE1.out, ← HER.out] at hget1
      have hpl1 := gt_len HO.out.ok a
      rw [← HE1.out] at hpl1
      have HPL1 := Lib.hid hpl1
      have HGET1 := Lib.hid hget1
      clear hget1 hpl1
      go_wp2_with fail
      refine HGET1.out.mono ?_
      rintro _ v1 ⟨s1, rfl, ho1, hl1, b1⟩
      obtain ⟨A1, a1, C1, c1, G1, g1, rfl⟩ := ho1.forms
      have Z1V : Hid (V.heap.size ≤ v1.heap.size) := Nat.le_trans HO.out.bel.size b1.size
      have hb1 : RowKit.Below wr.heap.size wr (v1.alloc (.cells #[.string ⟨⟨p.nm⟩⟩, .int .i64 p.ver, .bool p.tr, .bool p.se, .slice A1 p.al.length a1, .slice C1 p.ac.length c1, .slice G1 p.gr.length g1, .int .i64 p.li] 32)) := b1.trans ((RowKit.Below.refl _ _).alloc (Nat.le_refl _) _ |>.mono b1.size)
      have hbz1 : RowKit.Below v1.heap.size v1 (v1.alloc (.cells #[.string ⟨⟨p.nm⟩⟩, .int .i64 p.ver, .bool p.tr, .bool p.se, .slice A1 p.al.length a1, .slice C1 p.ac.length c1, .slice G1 p.gr.length g1, .int .i64 p.li] 32)) := (RowKit.Below.refl _ _).alloc (Nat.le_refl _) _
      have hs1 : (v1.alloc (.cells #[.string ⟨⟨p.nm⟩⟩, .int .i64 p.ver, .bool p.tr, .bool p.se, .slice A1 p.al.length a1, .slice C1 p.ac.length c1, .slice G1 p.gr.length g1, .int .i64 p.li] 32)).heap.size = v1.heap.size + 1 := by simp
      have hO1 := HO.out.read hb1 (K' := fun i => i = v1.heap.size ∨ Bl ⟨.slice A1 p.al.length a1, .slice C1 p.ac.length c1, .slice G1 p.gr.length g1⟩ i) (fun i h => by
        rcases h with h | h
        · subst h; exact .inr ⟨b1.size, by rw [hs1]; omega⟩
        · exact .inr ⟨hl1 i h, by have := ho1.lt i h; rw [hs1]; omega⟩)
      have HO1 := Lib.hid hO1
      have HPO1 := Lib.hid (ho1.below hbz1)
      have HLT1 := Lib.hid (fun i (hi : Bl ⟨.slice A1 p.al.length a1, .slice C1 p.ac.length c1, .slice G1 p.gr.length g1⟩ i) => ho1.lt i hi)
      have HGE1 := Lib.hid (fun i (hi : Bl ⟨.slice A1 p.al.length a1, .slice C1 p.ac.length c1, .slice G1 p.gr.length g1⟩ i) => hl1 i hi)
      have HGB1 := Lib.hid (heap_alloc_new v1 (.cells #[.string ⟨⟨p.nm⟩⟩, .int .i64 p.ver, .bool p.tr, .bool p.se, .slice A1 p.al.length a1, .slice C1 p.ac.length c1, .slice G1 p.gr.length g1, .int .i64 p.li] 32))
      simp only [pval]
      clear hO1 ho1 hl1 b1 hb1 hbz1 hs1 HGET1 HO
      go_wp2_with fail
      generalize v1.alloc (.cells #[.string ⟨⟨p.nm⟩⟩, .int .i64 p.ver, .bool p.tr, .bool p.se, .slice A1 p.al.length a1, .slice C1 p.ac.length c1, .slice G1 p.gr.length g1, .int .i64 p.li] 32) = W1 at *
      have HZV1 : Hid (V.heap.size ≤ v1.heap.size) := Z1V.out
      generalize v1.heap.size = z1 at *
      have hget2 := one_get HO1.out c hc0
      unfold GetPost at hget2
      rw [← HE2.out] at hget2
      have hpl2 := gt_len HO1.out.ok c
      rw [← HE2.out] at hpl2
      have HPL2 := Lib.hid hpl2
      have HGET2 := Lib.hid hget2
      clear hget2 hpl2
      refine HGET2.out.mono ?_
      rintro _ v2 ⟨s2, rfl, ho2, hl2, b2⟩
      obtain ⟨A2, a2, C2, c2, G2, g2, rfl⟩ := ho2.forms
      have Z1L : Hid (z1 < v2.heap.size) := Nat.lt_of_lt_of_le (Array.getElem?_eq_some_iff.1 HGB1.out).1 b2.size
      have Z1W : Hid (z1 < W1.heap.size) := (Array.getElem?_eq_some_iff.1 HGB1.out).1
      have hb2 : RowKit.Below W1.heap.size W1 (v2.alloc (.cells #[.string ⟨⟨q.nm⟩⟩, .int .i64 q.ver, .bool q.tr, .bool q.se, .slice A2 q.al.length a2, .slice C2 q.ac.length c2, .slice G2 q.gr.length g2, .int .i64 q.li] 32)) := b2.trans ((RowKit.Below.refl _ _).alloc (Nat.le_refl _) _ |>.mono b2.size)
      have hbz2 : RowKit.Below v2.heap.size v2 (v2.alloc (.cells #[.string ⟨⟨q.nm⟩⟩, .int .i64 q.ver, .bool q.tr, .bool q.se, .slice A2 q.al.length a2, .slice C2 q.ac.length c2, .slice G2 q.gr.length g2, .int .i64 q.li] 32)) := (RowKit.Below.refl _ _).alloc (Nat.le_refl _) _
      have hs2 : (v2.alloc (.cells #[.string ⟨⟨q.nm⟩⟩, .int .i64 q.ver, .bool q.tr, .bool q.se, .slice A2 q.al.length a2, .slice C2 q.ac.length c2, .slice G2 q.gr.length g2, .int .i64 q.li] 32)).heap.size = v2.heap.size + 1 := by simp
      have hO2 := HO1.out.read hb2 (K' := fun i => (i = z1 ∨ Bl ⟨.slice A1 p.al.length a1, .slice C1 p.ac.length c1, .slice G1 p.gr.length g1⟩ i) ∨ (i = v2.heap.size ∨ Bl ⟨.slice A2 q.al.length a2, .slice C2 q.ac.length c2, .slice G2 q.gr.length g2⟩ i)) (fun i h => by
        rcases h with h | h | h
        · exact .inl h
        · subst h; exact .inr ⟨b2.size, by rw [hs2]; omega⟩
        · exact .inr ⟨hl2 i h, by have := ho2.lt i h; rw [hs2]; omega⟩)
      have HO2 := Lib.hid hO2
      have HPO2 := Lib.hid (ho2.below hbz2)
      have HLT2 := Lib.hid (fun i (hi : Bl ⟨.slice A2 q.al.length a2, .slice C2 q.ac.length c2, .slice G2 q.gr.length g2⟩ i) => ho2.lt i hi)
      have HGE2 := Lib.hid (fun i (hi : Bl ⟨.slice A2 q.al.length a2, .slice C2 q.ac.length c2, .slice G2 q.gr.length g2⟩ i) => hl2 i hi)
      have HGB2 := Lib.hid (heap_alloc_new v2 (.cells #[.string ⟨⟨q.nm⟩⟩, .int .i64 q.ver, .bool q.tr, .bool q.se, .slice A2 q.al.length a2, .slice C2 q.ac.length c2, .slice G2 q.gr.length g2, .int .i64 q.li] 32))
      have HGB1' := Lib.hid ((hb2.block z1 (Array.getElem?_eq_some_iff.1 HGB1.out).1).trans HGB1.out)
      have HPO1' := Lib.hid (HPO1.out.below hb2)
      simp only [pval]
      clear hO2 ho2 hl2 b2 hb2 hbz2 hs2 HGET2 HO1 HGB1 HPO1
      rename Hid ((v2.alloc _).heap[z1]? = _) => HGB1
      rename Hid (POwn (v2.alloc _) p ⟨.slice A1 p.al.length a1, .slice C1 p.ac.length c1, .slice G1 p.gr.length g1⟩) => HPO1
      go_wp2_with fail
      generalize v2.alloc (.cells #[.string ⟨⟨q.nm⟩⟩, .int .i64 q.ver, .bool q.tr, .bool q.se, .slice A2 q.al.length a2, .slice C2 q.ac.length c2, .slice G2 q.gr.length g2, .int .i64 q.li] 32) = W2 at *
      have Z12 : Hid (z1 < v2.heap.size) := Z1L.out
      generalize v2.heap.size = z2 at *
      cases hsa : σ a with
      | none =>
        have hf1 : chg σ a (truF on) = (σ, 40) := flag_no hsa
        have hf2 : chg σ a (senF (!on)) = (σ, 40) := flag_no hsa
        obtain rfl : e = 40 := by rw [HER.out, hsa]; rfl
        have F1 := Lib.hid hf1
        have F2 := Lib.hid hf2
        clear hf1 hf2 hsa
        have hc := one_trust HO2.out a on ha HNX.out
        rw [F1.out] at hc
        have HC := Lib.hid hc
        clear hc
        refine HC.out.mono ?_
        rintro _ w5 ⟨rfl, oo, kk⟩
        have HOA := Lib.hid oo
        have HGB1' := Lib.hid ((kk z1 (.inl (.inl rfl))).trans HGB1.out)
        have HPO1' := Lib.hid (HPO1.out.keep (fun i hi => kk i (.inl (.inr hi))))
        have HGB2' := Lib.hid ((kk z2 (.inr (.inl rfl))).trans HGB2.out)
        have HPO2' := Lib.hid (HPO2.out.keep (fun i hi => kk i (.inr (.inr hi))))
        clear HGB1 HPO1 HGB2 HPO2
        rename Hid (w5.heap[z1]? = _) => HGB1
        rename Hid (POwn w5 p ⟨.slice A1 p.al.length a1, .slice C1 p.ac.length c1, .slice G1 p.gr.length g1⟩) => HPO1
        rename Hid (w5.heap[z2]? = _) => HGB2
        rename Hid (POwn w5 q ⟨.slice A2 q.al.length a2, .slice C2 q.ac.length c2, .slice G2 q.gr.length g2⟩) => HPO2
        clear oo kk HC HO2
        have hc := one_sense HOA.out a (!on) ha HNX.out
        rw [F2.out] at hc
        have HC := Lib.hid hc
        clear hc
        go_wp2_with fail
        refine HC.out.mono ?_
        rintro _ w6 ⟨rfl, oo, kk⟩
        have HOB := Lib.hid oo
        have HGB1' := Lib.hid ((kk z1 (.inl (.inl rfl))).trans HGB1.out)
        have HPO1' := Lib.hid (HPO1.out.keep (fun i hi => kk i (.inl (.inr hi))))
        have HGB2' := Lib.hid ((kk z2 (.inr (.inl rfl))).trans HGB2.out)
        have HPO2' := Lib.hid (HPO2.out.keep (fun i hi => kk i (.inr (.inr hi))))
        clear HGB1 HPO1 HGB2 HPO2
        rename Hid (w6.heap[z1]? = _) => HGB1
        rename Hid (POwn w6 p ⟨.slice A1 p.al.length a1, .slice C1 p.ac.length c1, .slice G1 p.gr.length g1⟩) => HPO1
        rename Hid (w6.heap[z2]? = _) => HGB2
        rename Hid (POwn w6 q ⟨.slice A2 q.al.length a2, .slice C2 q.ac.length c2, .slice G2 q.gr.length g2⟩) => HPO2
        clear oo kk HC HOA
        obtain ⟨x, hx⟩ : ∃ p, p = gt σ a := ⟨_, rfl⟩
        obtain ⟨y, hy⟩ : ∃ p, p = gt σ c := ⟨_, rfl⟩
        have HE3 := Lib.hid hx
        have HE4 := Lib.hid hy
        clear hx hy
        have hget3 := one_get HOB.out a ha
        unfold GetPost at hget3
        rw [← HE3.out] at hget3
        have hpl3 := gt_len HOB.out.ok a
        rw [← HE3.out] at hpl3
        have HPL3 := Lib.hid hpl3
        have HGET3 := Lib.hid hget3
        clear hget3 hpl3
        go_wp2_with fail
        refine HGET3.out.mono ?_
        rintro _ v3 ⟨s3, rfl, ho3, hl3, b3⟩
        obtain ⟨A3, a3, C3, c3, G3, g3, rfl⟩ := ho3.forms
        have Z13 : Hid (z1 < v3.heap.size) := Nat.lt_of_lt_of_le (Array.getElem?_eq_some_iff.1 HGB1.out).1 b3.size
        have Z1W6 : Hid (z1 < w6.heap.size) := (Array.getElem?_eq_some_iff.1 HGB1.out).1
        have hb3 : RowKit.Below w6.heap.size w6 (v3.alloc (.cells #[.string ⟨⟨x.nm⟩⟩, .int .i64 x.ver, .bool x.tr, .bool x.se, .slice A3 x.al.length a3, .slice C3 x.ac.length c3, .slice G3 x.gr.length g3, .int .i64 x.li] 32)) := b3.trans ((RowKit.Below.refl _ _).alloc (Nat.le_refl _) _ |>.mono b3.size)
        have hbz3 : RowKit.Below v3.heap.size v3 (v3.alloc (.cells #[.string ⟨⟨x.nm⟩⟩, .int .i64 x.ver, .bool x.tr, .bool x.se, .slice A3 x.al.length a3, .slice C3 x.ac.length c3, .slice G3 x.gr.length g3, .int .i64 x.li] 32)) := (RowKit.Below.refl _ _).alloc (Nat.le_refl _) _
        have hs3 : (v3.alloc (.cells #[.string ⟨⟨x.nm⟩⟩, .int .i64 x.ver, .bool x.tr, .bool x.se, .slice A3 x.al.length a3, .slice C3 x.ac.length c3, .slice G3 x.gr.length g3, .int .i64 x.li] 32)).heap.size = v3.heap.size + 1 := by simp
        have hO3 := HOB.out.read hb3 (K' := fun _ => False) (fun i h => by
          exact h.elim)
        have HO3 := Lib.hid hO3
        have HPO3 := Lib.hid (ho3.below hbz3)
        have HLT3 := Lib.hid (fun i (hi : Bl ⟨.slice A3 x.al.length a3, .slice C3 x.ac.length c3, .slice G3 x.gr.length g3⟩ i) => ho3.lt i hi)
        have HGE3 := Lib.hid (fun i (hi : Bl ⟨.slice A3 x.al.length a3, .slice C3 x.ac.length c3, .slice G3 x.gr.length g3⟩ i) => hl3 i hi)
        have HGB3 := Lib.hid (heap_alloc_new v3 (.cells #[.string ⟨⟨x.nm⟩⟩, .int .i64 x.ver, .bool x.tr, .bool x.se, .slice A3 x.al.length a3, .slice C3 x.ac.length c3, .slice G3 x.gr.length g3, .int .i64 x.li] 32))
        have HGB1' := Lib.hid ((hb3.block z1 (Array.getElem?_eq_some_iff.1 HGB1.out).1).trans HGB1.out)
        have HPO1' := Lib.hid (HPO1.out.below hb3)
        have HGB2' := Lib.hid ((hb3.block z2 (Array.getElem?_eq_some_iff.1 HGB2.out).1).trans HGB2.out)
        have HPO2' := Lib.hid (HPO2.out.below hb3)
        simp only [pval]
        clear hO3 ho3 hl3 b3 hb3 hbz3 hs3 HGET3 HOB HGB1 HPO1 HGB2 HPO2
        rename Hid ((v3.alloc _).heap[z1]? = _) => HGB1
        rename Hid (POwn (v3.alloc _) p ⟨.slice A1 p.al.length a1, .slice C1 p.ac.length c1, .slice G1 p.gr.length g1⟩) => HPO1
        rename Hid ((v3.alloc _).heap[z2]? = _) => HGB2
        rename Hid (POwn (v3.alloc _) q ⟨.slice A2 q.al.length a2, .slice C2 q.ac.length c2, .slice G2 q.gr.length g2⟩) => HPO2
        go_wp2_with fail
        generalize v3.alloc (.cells #[.string ⟨⟨x.nm⟩⟩, .int .i64 x.ver, .bool x.tr, .bool x.se, .slice A3 x.al.length a3, .slice C3 x.ac.length c3, .slice G3 x.gr.length g3, .int .i64 x.li] 32) = W3 at *
        have Z1V3 : Hid (z1 < v3.heap.size) := Z13.out
        generalize v3.heap.size = z3 at *
        have hget4 := one_get HO3.out c hc0
        unfold GetPost at hget4
        rw [← HE4.out] at hget4
        have hpl4 := gt_len HO3.out.ok c
        rw [← HE4.out] at hpl4
        have HPL4 := Lib.hid hpl4
        have HGET4 := Lib.hid hget4
        clear hget4 hpl4
        refine HGET4.out.mono ?_
        rintro _ v4 ⟨s4, rfl, ho4, hl4, b4⟩
        obtain ⟨A4, a4, C4, c4, G4, g4, rfl⟩ := ho4.forms
        have Z1W3 : Hid (z1 < W3.heap.size) := (Array.getElem?_eq_some_iff.1 HGB1.out).1
        have Z3V4 : Hid (W3.heap.size ≤ v4.heap.size) := b4.size
        have hb4 : RowKit.Below W3.heap.size W3 (v4.alloc (.cells #[.string ⟨⟨y.nm⟩⟩, .int .i64 y.ver, .bool y.tr, .bool y.se, .slice A4 y.al.length a4, .slice C4 y.ac.length c4, .slice G4 y.gr.length g4, .int .i64 y.li] 32)) := b4.trans ((RowKit.Below.refl _ _).alloc (Nat.le_refl _) _ |>.mono b4.size)
        have hbz4 : RowKit.Below v4.heap.size v4 (v4.alloc (.cells #[.string ⟨⟨y.nm⟩⟩, .int .i64 y.ver, .bool y.tr, .bool y.se, .slice A4 y.al.length a4, .slice C4 y.ac.length c4, .slice G4 y.gr.length g4, .int .i64 y.li] 32)) := (RowKit.Below.refl _ _).alloc (Nat.le_refl _) _
        have hs4 : (v4.alloc (.cells #[.string ⟨⟨y.nm⟩⟩, .int .i64 y.ver, .bool y.tr, .bool y.se, .slice A4 y.al.length a4, .slice C4 y.ac.length c4, .slice G4 y.gr.length g4, .int .i64 y.li] 32)).heap.size = v4.heap.size + 1 := by simp
        have hO4 := HO3.out.read hb4 (K' := fun _ => False) (fun i h => by
          exact h.elim)
        have HO4 := Lib.hid hO4
        have HPO4 := Lib.hid (ho4.below hbz4)
        have HLT4 := Lib.hid (fun i (hi : Bl ⟨.slice A4 y.al.length a4, .slice C4 y.ac.length c4, .slice G4 y.gr.length g4⟩ i) => ho4.lt i hi)
        have HGE4 := Lib.hid (fun i (hi : Bl ⟨.slice A4 y.al.length a4, .slice C4 y.ac.length c4, .slice G4 y.gr.length g4⟩ i) => hl4 i hi)
        have HGB4 := Lib.hid (heap_alloc_new v4 (.cells #[.string ⟨⟨y.nm⟩⟩, .int .i64 y.ver, .bool y.tr, .bool y.se, .slice A4 y.al.length a4, .slice C4 y.ac.length c4, .slice G4 y.gr.length g4, .int .i64 y.li] 32))
        have HGB1' := Lib.hid ((hb4.block z1 (Array.getElem?_eq_some_iff.1 HGB1.out).1).trans HGB1.out)
        have HPO1' := Lib.hid (HPO1.out.below hb4)
        have HGB2' := Lib.hid ((hb4.block z2 (Array.getElem?_eq_some_iff.1 HGB2.out).1).trans HGB2.out)
        have HPO2' := Lib.hid (HPO2.out.below hb4)
        have HGB3' := Lib.hid ((hb4.block z3 (Array.getElem?_eq_some_iff.1 HGB3.out).1).trans HGB3.out)
        have HPO3' := Lib.hid (HPO3.out.below hb4)
        simp only [pval]
        clear hO4 ho4 hl4 b4 hb4 hbz4 hs4 HGET4 HO3 HGB1 HPO1 HGB2 HPO2 HGB3 HPO3
        rename Hid ((v4.alloc _).heap[z1]? = _) => HGB1
        rename Hid (POwn (v4.alloc _) p ⟨.slice A1 p.al.length a1, .slice C1 p.ac.length c1, .slice G1 p.gr.length g1⟩) => HPO1
        rename Hid ((v4.alloc _).heap[z2]? = _) => HGB2
        rename Hid (POwn (v4.alloc _) q ⟨.slice A2 q.al.length a2, .slice C2 q.ac.length c2, .slice G2 q.gr.length g2⟩) => HPO2
        rename Hid ((v4.alloc _).heap[z3]? = _) => HGB3
        rename Hid (POwn (v4.alloc _) x ⟨.slice A3 x.al.length a3, .slice C3 x.ac.length c3, .slice G3 x.gr.length g3⟩) => HPO3
        have hqy : pEq q y = true := pEq_iff.2 (by rw [HE2.out, HE4.out])
        have hsame := Same_any q y (fun i => Bl ⟨.slice A2 q.al.length a2, .slice C2 q.ac.length c2, .slice G2 q.gr.length g2⟩ i ∨ Bl ⟨.slice A4 y.al.length a4, .slice C4 y.ac.length c4, .slice G4 y.gr.length g4⟩ i) _ _ (v4.alloc (.cells #[.string ⟨⟨y.nm⟩⟩, .int .i64 y.ver, .bool y.tr, .bool y.se, .slice A4 y.al.length a4, .slice C4 y.ac.length c4, .slice G4 y.gr.length g4, .int .i64 y.li] 32)) (HPO2.out.pv.keep (fun i h => .inl h) (fun _ _ => rfl)) (HPO4.out.pv.keep (fun i h => .inr h) (fun _ _ => rfl)) (fun i h => h.elim (fun h => HPO2.out.lt i h) (fun h => HPO4.out.lt i h)) (by have := HPL2.out; omega) (by have := HPL2.out; omega) (by have := HPL2.out; omega)
        rw [hqy] at hsame
        have HSM := Lib.hid hsame
        have HBW := Lib.hid HO4.out.bel
        obtain ⟨j0, j1, j2, j3, j4, j5, j6, j7⟩ := cell8 HGB2.out
        obtain ⟨d0, d1, d2, d3, d4, d5, d6, d7⟩ := cell8 HGB4.out
        clear hsame hqy HGB1 HGB2 HGB3 HGB4 HPO1 HPO2 HPO3 HPO4 HE1 HE2 HE3 HE4 HO4 HER F1 F2
        go_wp2_with fail
        refine HSM.out.mono ?_
        rintro _ w10 ⟨rfl, b10⟩
        have HB10 := Lib.hid (HBW.out.trans (b10.mono HBW.out.size))
        clear b10 HSM j0 j1 j2 j3 j4 j5 j6 j7 d0 d1 d2 d3 d4 d5 d6 d7
        go_wp2
        go_ret
        exact ⟨by simp, HB10.out⟩
      | some p0 =>
        obtain ⟨f1, f2, f3, f4⟩ := flag_ok (on := on) hsa
        obtain rfl : e = 0 := by rw [HER.out, hsa]; rfl
        have hpp : p = p0 := by rw [HE1.out, gt_some hsa]
        have hsome : (chg (chg σ a (truF on)).1 a (senF (!on))).1 a = some { p0 with tr := on, se := !on } := by
          have e1 : chg σ a (truF on) = (up σ a { p0 with tr := on }, 0) := by unfold chg; rw [hsa]; rfl
          rw [e1]
          have e2 : chg (up σ a { p0 with tr := on }) a (senF (!on)) = (up (up σ a { p0 with tr := on }) a { p0 with tr := on, se := !on }, 0) := by unfold chg; rw [up_same]; rfl
          show (chg (up σ a _) a _).1 a = _
          rw [e2]
          exact up_same _ _ _
        have F1 := Lib.hid f1
        have F2 := Lib.hid f2
        have F3 := Lib.hid f3
        have F4 := Lib.hid f4
        have F5 := Lib.hid hsome
        have HPP := Lib.hid hpp
        clear f1 f2 f3 f4 hsome hpp hsa
        generalize hτ1 : (chg σ a (truF on)).1 = τ1 at *
        generalize hτ : (chg τ1 a (senF (!on))).1 = τ at *
        have T1 := Lib.hid hτ1
        have T2 := Lib.hid hτ
        clear hτ1 hτ
        have hc := one_trust HO2.out a on ha HNX.out
        rw [F1.out] at hc
        rw [T1.out] at hc
        have HC := Lib.hid hc
        clear hc
        refine HC.out.mono ?_
        rintro _ w5 ⟨rfl, oo, kk⟩
        have HOA := Lib.hid oo
        have HGB1' := Lib.hid ((kk z1 (.inl (.inl rfl))).trans HGB1.out)
        have HPO1' := Lib.hid (HPO1.out.keep (fun i hi => kk i (.inl (.inr hi))))
        have HGB2' := Lib.hid ((kk z2 (.inr (.inl rfl))).trans HGB2.out)
        have HPO2' := Lib.hid (HPO2.out.keep (fun i hi => kk i (.inr (.inr hi))))
        clear HGB1 HPO1 HGB2 HPO2
        rename Hid (w5.heap[z1]? = _) => HGB1
        rename Hid (POwn w5 p ⟨.slice A1 p.al.length a1, .slice C1 p.ac.length c1, .slice G1 p.gr.length g1⟩) => HPO1
        rename Hid (w5.heap[z2]? = _) => HGB2
        rename Hid (POwn w5 q ⟨.slice A2 q.al.length a2, .slice C2 q.ac.length c2, .slice G2 q.gr.length g2⟩) => HPO2
        clear oo kk HC HO2
        have hc := one_sense HOA.out a (!on) ha HNX.out
        rw [F2.out] at hc
        rw [T2.out] at hc
        have HC := Lib.hid hc
        clear hc
        go_wp2_with fail
        refine HC.out.mono ?_
        rintro _ w6 ⟨rfl, oo, kk⟩
        have HOB := Lib.hid oo
        have HGB1' := Lib.hid ((kk z1 (.inl (.inl rfl))).trans HGB1.out)
        have HPO1' := Lib.hid (HPO1.out.keep (fun i hi => kk i (.inl (.inr hi))))
        have HGB2' := Lib.hid ((kk z2 (.inr (.inl rfl))).trans HGB2.out)
        have HPO2' := Lib.hid (HPO2.out.keep (fun i hi => kk i (.inr (.inr hi))))
        clear HGB1 HPO1 HGB2 HPO2
        rename Hid (w6.heap[z1]? = _) => HGB1
        rename Hid (POwn w6 p ⟨.slice A1 p.al.length a1, .slice C1 p.ac.length c1, .slice G1 p.gr.length g1⟩) => HPO1
        rename Hid (w6.heap[z2]? = _) => HGB2
        rename Hid (POwn w6 q ⟨.slice A2 q.al.length a2, .slice C2 q.ac.length c2, .slice G2 q.gr.length g2⟩) => HPO2
        clear oo kk HC HOA
        obtain ⟨x, hx⟩ : ∃ p, p = gt τ a := ⟨_, rfl⟩
        obtain ⟨y, hy⟩ : ∃ p, p = gt τ c := ⟨_, rfl⟩
        have HE3 := Lib.hid hx
        have HE4 := Lib.hid hy
        clear hx hy
        have hget3 := one_get HOB.out a ha
        unfold GetPost at hget3
        rw [← HE3.out] at hget3
        have hpl3 := gt_len HOB.out.ok a
        rw [← HE3.out] at hpl3
        have HPL3 := Lib.hid hpl3
        have HGET3 := Lib.hid hget3
        clear hget3 hpl3
        go_wp2_with fail
        refine HGET3.out.mono ?_
        rintro _ v3 ⟨s3, rfl, ho3, hl3, b3⟩
        obtain ⟨A3, a3, C3, c3, G3, g3, rfl⟩ := ho3.forms
        have Z13 : Hid (z1 < v3.heap.size) := Nat.lt_of_lt_of_le (Array.getElem?_eq_some_iff.1 HGB1.out).1 b3.size
        have Z1W6 : Hid (z1 < w6.heap.size) := (Array.getElem?_eq_some_iff.1 HGB1.out).1
        have hb3 : RowKit.Below w6.heap.size w6 (v3.alloc (.cells #[.string ⟨⟨x.nm⟩⟩, .int .i64 x.ver, .bool x.tr, .bool x.se, .slice A3 x.al.length a3, .slice C3 x.ac.length c3, .slice G3 x.gr.length g3, .int .i64 x.li] 32)) := b3.trans ((RowKit.Below.refl _ _).alloc (Nat.le_refl _) _ |>.mono b3.size)
        have hbz3 : RowKit.Below v3.heap.size v3 (v3.alloc (.cells #[.string ⟨⟨x.nm⟩⟩, .int .i64 x.ver, .bool x.tr, .bool x.se, .slice A3 x.al.length a3, .slice C3 x.ac.length c3, .slice G3 x.gr.length g3, .int .i64 x.li] 32)) := (RowKit.Below.refl _ _).alloc (Nat.le_refl _) _
        have hs3 : (v3.alloc (.cells #[.string ⟨⟨x.nm⟩⟩, .int .i64 x.ver, .bool x.tr, .bool x.se, .slice A3 x.al.length a3, .slice C3 x.ac.length c3, .slice G3 x.gr.length g3, .int .i64 x.li] 32)).heap.size = v3.heap.size + 1 := by simp
        have hO3 := HOB.out.read hb3 (K' := fun _ => False) (fun i h => by
          exact h.elim)
        have HO3 := Lib.hid hO3
        have HPO3 := Lib.hid (ho3.below hbz3)
        have HLT3 := Lib.hid (fun i (hi : Bl ⟨.slice A3 x.al.length a3, .slice C3 x.ac.length c3, .slice G3 x.gr.length g3⟩ i) => ho3.lt i hi)
        have HGE3 := Lib.hid (fun i (hi : Bl ⟨.slice A3 x.al.length a3, .slice C3 x.ac.length c3, .slice G3 x.gr.length g3⟩ i) => hl3 i hi)
        have HGB3 := Lib.hid (heap_alloc_new v3 (.cells #[.string ⟨⟨x.nm⟩⟩, .int .i64 x.ver, .bool x.tr, .bool x.se, .slice A3 x.al.length a3, .slice C3 x.ac.length c3, .slice G3 x.gr.length g3, .int .i64 x.li] 32))
        have HGB1' := Lib.hid ((hb3.block z1 (Array.getElem?_eq_some_iff.1 HGB1.out).1).trans HGB1.out)
        have HPO1' := Lib.hid (HPO1.out.below hb3)
        have HGB2' := Lib.hid ((hb3.block z2 (Array.getElem?_eq_some_iff.1 HGB2.out).1).trans HGB2.out)
        have HPO2' := Lib.hid (HPO2.out.below hb3)
        simp only [pval]
        clear hO3 ho3 hl3 b3 hb3 hbz3 hs3 HGET3 HOB HGB1 HPO1 HGB2 HPO2
        rename Hid ((v3.alloc _).heap[z1]? = _) => HGB1
        rename Hid (POwn (v3.alloc _) p ⟨.slice A1 p.al.length a1, .slice C1 p.ac.length c1, .slice G1 p.gr.length g1⟩) => HPO1
        rename Hid ((v3.alloc _).heap[z2]? = _) => HGB2
        rename Hid (POwn (v3.alloc _) q ⟨.slice A2 q.al.length a2, .slice C2 q.ac.length c2, .slice G2 q.gr.length g2⟩) => HPO2
        go_wp2_with fail
        generalize v3.alloc (.cells #[.string ⟨⟨x.nm⟩⟩, .int .i64 x.ver, .bool x.tr, .bool x.se, .slice A3 x.al.length a3, .slice C3 x.ac.length c3, .slice G3 x.gr.length g3, .int .i64 x.li] 32) = W3 at *
        have Z1V3 : Hid (z1 < v3.heap.size) := Z13.out
        generalize v3.heap.size = z3 at *
        have hget4 := one_get HO3.out c hc0
        unfold GetPost at hget4
        rw [← HE4.out] at hget4
        have hpl4 := gt_len HO3.out.ok c
        rw [← HE4.out] at hpl4
        have HPL4 := Lib.hid hpl4
        have HGET4 := Lib.hid hget4
        clear hget4 hpl4
        refine HGET4.out.mono ?_
        rintro _ v4 ⟨s4, rfl, ho4, hl4, b4⟩
        obtain ⟨A4, a4, C4, c4, G4, g4, rfl⟩ := ho4.forms
        have Z1W3 : Hid (z1 < W3.heap.size) := (Array.getElem?_eq_some_iff.1 HGB1.out).1
        have Z3V4 : Hid (W3.heap.size ≤ v4.heap.size) := b4.size
        have hb4 : RowKit.Below W3.heap.size W3 (v4.alloc (.cells #[.string ⟨⟨y.nm⟩⟩, .int .i64 y.ver, .bool y.tr, .bool y.se, .slice A4 y.al.length a4, .slice C4 y.ac.length c4, .slice G4 y.gr.length g4, .int .i64 y.li] 32)) := b4.trans ((RowKit.Below.refl _ _).alloc (Nat.le_refl _) _ |>.mono b4.size)
        have hbz4 : RowKit.Below v4.heap.size v4 (v4.alloc (.cells #[.string ⟨⟨y.nm⟩⟩, .int .i64 y.ver, .bool y.tr, .bool y.se, .slice A4 y.al.length a4, .slice C4 y.ac.length c4, .slice G4 y.gr.length g4, .int .i64 y.li] 32)) := (RowKit.Below.refl _ _).alloc (Nat.le_refl _) _
        have hs4 : (v4.alloc (.cells #[.string ⟨⟨y.nm⟩⟩, .int .i64 y.ver, .bool y.tr, .bool y.se, .slice A4 y.al.length a4, .slice C4 y.ac.length c4, .slice G4 y.gr.length g4, .int .i64 y.li] 32)).heap.size = v4.heap.size + 1 := by simp
        have hO4 := HO3.out.read hb4 (K' := fun _ => False) (fun i h => by
          exact h.elim)
        have HO4 := Lib.hid hO4
        have HPO4 := Lib.hid (ho4.below hbz4)
        have HLT4 := Lib.hid (fun i (hi : Bl ⟨.slice A4 y.al.length a4, .slice C4 y.ac.length c4, .slice G4 y.gr.length g4⟩ i) => ho4.lt i hi)
        have HGE4 := Lib.hid (fun i (hi : Bl ⟨.slice A4 y.al.length a4, .slice C4 y.ac.length c4, .slice G4 y.gr.length g4⟩ i) => hl4 i hi)
        have HGB4 := Lib.hid (heap_alloc_new v4 (.cells #[.string ⟨⟨y.nm⟩⟩, .int .i64 y.ver, .bool y.tr, .bool y.se, .slice A4 y.al.length a4, .slice C4 y.ac.length c4, .slice G4 y.gr.length g4, .int .i64 y.li] 32))
        have HGB1' := Lib.hid ((hb4.block z1 (Array.getElem?_eq_some_iff.1 HGB1.out).1).trans HGB1.out)
        have HPO1' := Lib.hid (HPO1.out.below hb4)
        have HGB2' := Lib.hid ((hb4.block z2 (Array.getElem?_eq_some_iff.1 HGB2.out).1).trans HGB2.out)
        have HPO2' := Lib.hid (HPO2.out.below hb4)
        have HGB3' := Lib.hid ((hb4.block z3 (Array.getElem?_eq_some_iff.1 HGB3.out).1).trans HGB3.out)
        have HPO3' := Lib.hid (HPO3.out.below hb4)
        simp only [pval]
        clear hO4 ho4 hl4 b4 hb4 hbz4 hs4 HGET4 HO3 HGB1 HPO1 HGB2 HPO2 HGB3 HPO3
        rename Hid ((v4.alloc _).heap[z1]? = _) => HGB1
        rename Hid (POwn (v4.alloc _) p ⟨.slice A1 p.al.length a1, .slice C1 p.ac.length c1, .slice G1 p.gr.length g1⟩) => HPO1
        rename Hid ((v4.alloc _).heap[z2]? = _) => HGB2
        rename Hid (POwn (v4.alloc _) q ⟨.slice A2 q.al.length a2, .slice C2 q.ac.length c2, .slice G2 q.gr.length g2⟩) => HPO2
        rename Hid ((v4.alloc _).heap[z3]? = _) => HGB3
        rename Hid (POwn (v4.alloc _) x ⟨.slice A3 x.al.length a3, .slice C3 x.ac.length c3, .slice G3 x.gr.length g3⟩) => HPO3
        have hm1 : ((v4.alloc (.cells #[.string ⟨⟨y.nm⟩⟩, .int .i64 y.ver, .bool y.tr, .bool y.se, .slice A4 y.al.length a4, .slice C4 y.ac.length c4, .slice G4 y.gr.length g4, .int .i64 y.li] 32)).setCell ⟨z1, 2, none⟩ (.bool on)).heap[z1]? = some (.cells #[.string ⟨⟨p.nm⟩⟩, .int .i64 p.ver, .bool on, .bool p.se, .slice A1 p.al.length a1, .slice C1 p.ac.length c1, .slice G1 p.gr.length g1, .int .i64 p.li] 32 (0, 0)) := heap_setCell_same _ _ _ _ _ _ HGB1.out
        have hm2 : (((v4.alloc (.cells #[.string ⟨⟨y.nm⟩⟩, .int .i64 y.ver, .bool y.tr, .bool y.se, .slice A4 y.al.length a4, .slice C4 y.ac.length c4, .slice G4 y.gr.length g4, .int .i64 y.li] 32)).setCell ⟨z1, 2, none⟩ (.bool on)).setCell ⟨z1, 3, none⟩ (.bool (!on))).heap[z1]? = some (.cells #[.string ⟨⟨p.nm⟩⟩, .int .i64 p.ver, .bool on, .bool (!on), .slice A1 p.al.length a1, .slice C1 p.ac.length c1, .slice G1 p.gr.length g1, .int .i64 p.li] 32 (0, 0)) := heap_setCell_same _ _ _ _ _ _ hm1
        have hkeep : ∀ k, k ≠ z1 → (((v4.alloc (.cells #[.string ⟨⟨y.nm⟩⟩, .int .i64 y.ver, .bool y.tr, .bool y.se, .slice A4 y.al.length a4, .slice C4 y.ac.length c4, .slice G4 y.gr.length g4, .int .i64 y.li] 32)).setCell ⟨z1, 2, none⟩ (.bool on)).setCell ⟨z1, 3, none⟩ (.bool (!on))).heap[k]? = (v4.alloc (.cells #[.string ⟨⟨y.nm⟩⟩, .int .i64 y.ver, .bool y.tr, .bool y.se, .slice A4 y.al.length a4, .slice C4 y.ac.length c4, .slice G4 y.gr.length g4, .int .i64 y.li] 32)).heap[k]? := fun k hk => (heap_setCell_other _ _ _ _ hk).trans (heap_setCell_other _ _ _ _ hk)
        have hsz : (((v4.alloc (.cells #[.string ⟨⟨y.nm⟩⟩, .int .i64 y.ver, .bool y.tr, .bool y.se, .slice A4 y.al.length a4, .slice C4 y.ac.length c4, .slice G4 y.gr.length g4, .int .i64 y.li] 32)).setCell ⟨z1, 2, none⟩ (.bool on)).setCell ⟨z1, 3, none⟩ (.bool (!on))).heap.size = (v4.alloc (.cells #[.string ⟨⟨y.nm⟩⟩, .int .i64 y.ver, .bool y.tr, .bool y.se, .slice A4 y.al.length a4, .slice C4 y.ac.length c4, .slice G4 y.gr.length g4, .int .i64 y.li] 32)).heap.size := by simp only [World.size_setCell]
        have hk1 : ∀ k, Bl ⟨.slice A1 p.al.length a1, .slice C1 p.ac.length c1, .slice G1 p.gr.length g1⟩ k → (((v4.alloc (.cells #[.string ⟨⟨y.nm⟩⟩, .int .i64 y.ver, .bool y.tr, .bool y.se, .slice A4 y.al.length a4, .slice C4 y.ac.length c4, .slice G4 y.gr.length g4, .int .i64 y.li] 32)).setCell ⟨z1, 2, none⟩ (.bool on)).setCell ⟨z1, 3, none⟩ (.bool (!on))).heap[k]? = (v4.alloc (.cells #[.string ⟨⟨y.nm⟩⟩, .int .i64 y.ver, .bool y.tr, .bool y.se, .slice A4 y.al.length a4, .slice C4 y.ac.length c4, .slice G4 y.gr.length g4, .int .i64 y.li] 32)).heap[k]? := fun k hk => hkeep k (by have := HLT1.out k hk; omega)
        have hk2 : ∀ k, Bl ⟨.slice A2 q.al.length a2, .slice C2 q.ac.length c2, .slice G2 q.gr.length g2⟩ k → (((v4.alloc (.cells #[.string ⟨⟨y.nm⟩⟩, .int .i64 y.ver, .bool y.tr, .bool y.se, .slice A4 y.al.length a4, .slice C4 y.ac.length c4, .slice G4 y.gr.length g4, .int .i64 y.li] 32)).setCell ⟨z1, 2, none⟩ (.bool on)).setCell ⟨z1, 3, none⟩ (.bool (!on))).heap[k]? = (v4.alloc (.cells #[.string ⟨⟨y.nm⟩⟩, .int .i64 y.ver, .bool y.tr, .bool y.se, .slice A4 y.al.length a4, .slice C4 y.ac.length c4, .slice G4 y.gr.length g4, .int .i64 y.li] 32)).heap[k]? := fun k hk => hkeep k (by have h1 := HGE2.out k hk; have h2 := Z1W.out; omega)
        have hk3 : ∀ k, Bl ⟨.slice A3 x.al.length a3, .slice C3 x.ac.length c3, .slice G3 x.gr.length g3⟩ k → (((v4.alloc (.cells #[.string ⟨⟨y.nm⟩⟩, .int .i64 y.ver, .bool y.tr, .bool y.se, .slice A4 y.al.length a4, .slice C4 y.ac.length c4, .slice G4 y.gr.length g4, .int .i64 y.li] 32)).setCell ⟨z1, 2, none⟩ (.bool on)).setCell ⟨z1, 3, none⟩ (.bool (!on))).heap[k]? = (v4.alloc (.cells #[.string ⟨⟨y.nm⟩⟩, .int .i64 y.ver, .bool y.tr, .bool y.se, .slice A4 y.al.length a4, .slice C4 y.ac.length c4, .slice G4 y.gr.length g4, .int .i64 y.li] 32)).heap[k]? := fun k hk => hkeep k (by have h1 := HGE3.out k hk; have h2 := Z1W6.out; omega)
        have hk4 : ∀ k, Bl ⟨.slice A4 y.al.length a4, .slice C4 y.ac.length c4, .slice G4 y.gr.length g4⟩ k → (((v4.alloc (.cells #[.string ⟨⟨y.nm⟩⟩, .int .i64 y.ver, .bool y.tr, .bool y.se, .slice A4 y.al.length a4, .slice C4 y.ac.length c4, .slice G4 y.gr.length g4, .int .i64 y.li] 32)).setCell ⟨z1, 2, none⟩ (.bool on)).setCell ⟨z1, 3, none⟩ (.bool (!on))).heap[k]? = (v4.alloc (.cells #[.string ⟨⟨y.nm⟩⟩, .int .i64 y.ver, .bool y.tr, .bool y.se, .slice A4 y.al.length a4, .slice C4 y.ac.length c4, .slice G4 y.gr.length g4, .int .i64 y.li] 32)).heap[k]? := fun k hk => hkeep k (by have h1 := HGE4.out k hk; have h2 := Z1W3.out; omega)
        have hz2 := (hkeep z2 (by have := Z12.out; omega)).trans HGB2.out
        have hz3 := (hkeep z3 (by have := Z1V3.out; omega)).trans HGB3.out
        have hz4 := (hkeep v4.heap.size (by have := Nat.lt_of_lt_of_le Z1W3.out Z3V4.out; omega)).trans HGB4.out
        have hBB : RowKit.Below V.heap.size V (((v4.alloc (.cells #[.string ⟨⟨y.nm⟩⟩, .int .i64 y.ver, .bool y.tr, .bool y.se, .slice A4 y.al.length a4, .slice C4 y.ac.length c4, .slice G4 y.gr.length g4, .int .i64 y.li] 32)).setCell ⟨z1, 2, none⟩ (.bool on)).setCell ⟨z1, 3, none⟩ (.bool (!on))) := (HO4.out.bel.setCell (p := ⟨z1, 2, none⟩) HZV1.out _).setCell (p := ⟨z1, 3, none⟩) HZV1.out _
        have hv1 : PV (((v4.alloc (.cells #[.string ⟨⟨y.nm⟩⟩, .int .i64 y.ver, .bool y.tr, .bool y.se, .slice A4 y.al.length a4, .slice C4 y.ac.length c4, .slice G4 y.gr.length g4, .int .i64 y.li] 32)).setCell ⟨z1, 2, none⟩ (.bool on)).setCell ⟨z1, 3, none⟩ (.bool (!on))) (fun i => Bl ⟨.slice A1 p.al.length a1, .slice C1 p.ac.length c1, .slice G1 p.gr.length g1⟩ i ∨ Bl ⟨.slice A3 x.al.length a3, .slice C3 x.ac.length c3, .slice G3 x.gr.length g3⟩ i) { p with tr := on, se := !on } (.agg #[.string ⟨⟨p.nm⟩⟩, .int .i64 p.ver, .bool on, .bool (!on), .slice A1 p.al.length a1, .slice C1 p.ac.length c1, .slice G1 p.gr.length g1, .int .i64 p.li]) := by
          obtain ⟨A', a', C', c', G', g', e, h1, h2, h3, h4, h5⟩ := (HPO1.out.pv.keep (S' := fun i => Bl ⟨.slice A1 p.al.length a1, .slice C1 p.ac.length c1, .slice G1 p.gr.length g1⟩ i ∨ Bl ⟨.slice A3 x.al.length a3, .slice C3 x.ac.length c3, .slice G3 x.gr.length g3⟩ i) (fun i h => .inl h) hk1)
          injection e with e
          simp at e
          obtain ⟨⟨e0, e1⟩, ⟨e2, e3⟩, e4, e5⟩ := e
          subst e0 e1 e2 e3 e4 e5
          exact ⟨A1, a1, C1, c1, G1, g1, rfl, h1, h2, h3, h4, h5⟩
        have hv3 := HPO3.out.pv.keep (w' := (((v4.alloc (.cells #[.string ⟨⟨y.nm⟩⟩, .int .i64 y.ver, .bool y.tr, .bool y.se, .slice A4 y.al.length a4, .slice C4 y.ac.length c4, .slice G4 y.gr.length g4, .int .i64 y.li] 32)).setCell ⟨z1, 2, none⟩ (.bool on)).setCell ⟨z1, 3, none⟩ (.bool (!on)))) (S' := fun i => Bl ⟨.slice A1 p.al.length a1, .slice C1 p.ac.length c1, .slice G1 p.gr.length g1⟩ i ∨ Bl ⟨.slice A3 x.al.length a3, .slice C3 x.ac.length c3, .slice G3 x.gr.length g3⟩ i) (fun i h => .inr h) hk3
        have hv2 := HPO2.out.pv.keep (w' := (((v4.alloc (.cells #[.string ⟨⟨y.nm⟩⟩, .int .i64 y.ver, .bool y.tr, .bool y.se, .slice A4 y.al.length a4, .slice C4 y.ac.length c4, .slice G4 y.gr.length g4, .int .i64 y.li] 32)).setCell ⟨z1, 2, none⟩ (.bool on)).setCell ⟨z1, 3, none⟩ (.bool (!on)))) (S' := fun i => Bl ⟨.slice A2 q.al.length a2, .slice C2 q.ac.length c2, .slice G2 q.gr.length g2⟩ i ∨ Bl ⟨.slice A4 y.al.length a4, .slice C4 y.ac.length c4, .slice G4 y.gr.length g4⟩ i) (fun i h => .inl h) hk2
        have hv4 := HPO4.out.pv.keep (w' := (((v4.alloc (.cells #[.string ⟨⟨y.nm⟩⟩, .int .i64 y.ver, .bool y.tr, .bool y.se, .slice A4 y.al.length a4, .slice C4 y.ac.length c4, .slice G4 y.gr.length g4, .int .i64 y.li] 32)).setCell ⟨z1, 2, none⟩ (.bool on)).setCell ⟨z1, 3, none⟩ (.bool (!on)))) (S' := fun i => Bl ⟨.slice A2 q.al.length a2, .slice C2 q.ac.length c2, .slice G2 q.gr.length g2⟩ i ∨ Bl ⟨.slice A4 y.al.length a4, .slice C4 y.ac.length c4, .slice G4 y.gr.length g4⟩ i) (fun i h => .inr h) hk4
        have hlt13 : ∀ i, (fun i => Bl ⟨.slice A1 p.al.length a1, .slice C1 p.ac.length c1, .slice G1 p.gr.length g1⟩ i ∨ Bl ⟨.slice A3 x.al.length a3, .slice C3 x.ac.length c3, .slice G3 x.gr.length g3⟩ i) i → i < (((v4.alloc (.cells #[.string ⟨⟨y.nm⟩⟩, .int .i64 y.ver, .bool y.tr, .bool y.se, .slice A4 y.al.length a4, .slice C4 y.ac.length c4, .slice G4 y.gr.length g4, .int .i64 y.li] 32)).setCell ⟨z1, 2, none⟩ (.bool on)).setCell ⟨z1, 3, none⟩ (.bool (!on))).heap.size := fun i h => by rw [hsz]; exact h.elim (fun h => HPO1.out.lt i h) (fun h => HPO3.out.lt i h)
        have hlt24 : ∀ i, (fun i => Bl ⟨.slice A2 q.al.length a2, .slice C2 q.ac.length c2, .slice G2 q.gr.length g2⟩ i ∨ Bl ⟨.slice A4 y.al.length a4, .slice C4 y.ac.length c4, .slice G4 y.gr.length g4⟩ i) i → i < (((v4.alloc (.cells #[.string ⟨⟨y.nm⟩⟩, .int .i64 y.ver, .bool y.tr, .bool y.se, .slice A4 y.al.length a4, .slice C4 y.ac.length c4, .slice G4 y.gr.length g4, .int .i64 y.li] 32)).setCell ⟨z1, 2, none⟩ (.bool on)).setCell ⟨z1, 3, none⟩ (.bool (!on))).heap.size := fun i h => by rw [hsz]; exact h.elim (fun h => HPO2.out.lt i h) (fun h => HPO4.out.lt i h)
        have hs1 := Same_any { p with tr := on, se := !on } x (fun i => Bl ⟨.slice A1 p.al.length a1, .slice C1 p.ac.length c1, .slice G1 p.gr.length g1⟩ i ∨ Bl ⟨.slice A3 x.al.length a3, .slice C3 x.ac.length c3, .slice G3 x.gr.length g3⟩ i) _ _ (((v4.alloc (.cells #[.string ⟨⟨y.nm⟩⟩, .int .i64 y.ver, .bool y.tr, .bool y.se, .slice A4 y.al.length a4, .slice C4 y.ac.length c4, .slice G4 y.gr.length g4, .int .i64 y.li] 32)).setCell ⟨z1, 2, none⟩ (.bool on)).setCell ⟨z1, 3, none⟩ (.bool (!on))) hv1 hv3 hlt13 (by have := HPL1.out; simp only; omega) (by have := HPL1.out; simp only; omega) (by have := HPL1.out; simp only; omega)
        have hpx : pEq { p with tr := on, se := !on } x = true := pEq_iff.2 (by rw [HE3.out, F3.out, HPP.out])
        rw [hpx] at hs1
        have HSM := Lib.hid hs1
        have HBW := Lib.hid hBB
        obtain ⟨j0, j1, j2, j3, j4, j5, j6, j7⟩ := cell8 HGB1.out
        obtain ⟨d0, d1, d2, d3, d4, d5, d6, d7⟩ := cell8 hm1
        obtain ⟨x0, x1, x2, x3, x4, x5, x6, x7⟩ := cell8 hm2
        obtain ⟨y0, y1, y2, y3, y4, y5, y6, y7⟩ := cell8 hz3
        have hf1 := fun k => frozen_of_row _ _ k _ _ HGB1.out
        have hf2 := fun k => frozen_of_row _ _ k _ _ hm1
        by_cases hac : a = c
        case pos =>
          clear hm1 hm2 hkeep hsz hk1 hk2 hk3 hk4 hz2 hz3 hz4 hBB hv1 hv2 hv3 hv4 hlt13 hlt24 hs1 hpx HGB1 HGB2 HGB3 HGB4 HPO1 HPO2 HPO3 HPO4 HE1 HE2 HE3 HE4 HO4 HER F1 F2 F3 F4 F5 T1 T2 HPP
          subst hac
          go_wp2_with fail
          refine HSM.out.mono ?_
          rintro _ w10 ⟨rfl, b10⟩
          have HB10 := Lib.hid (HBW.out.trans (b10.mono HBW.out.size))
          clear b10 HSM j0 j1 j2 j3 j4 j5 j6 j7 d0 d1 d2 d3 d4 d5 d6 d7 x0 x1 x2 x3 x4 x5 x6 x7 y0 y1 y2 y3 y4 y5 y6 y7 hf1 hf2
          go_wp2
          go_ret
          exact ⟨by simp, HB10.out⟩
        have hqy : pEq q y = true := pEq_iff.2 (by rw [HE2.out, HE4.out]; exact (F4.out c (fun e => hac e.symm)).symm)
        have HS2 : Hid (∀ W, RowKit.Below (((v4.alloc (.cells #[.string ⟨⟨y.nm⟩⟩, .int .i64 y.ver, .bool y.tr, .bool y.se, .slice A4 y.al.length a4, .slice C4 y.ac.length c4, .slice G4 y.gr.length g4, .int .i64 y.li] 32)).setCell ⟨z1, 2, none⟩ (.bool on)).setCell ⟨z1, 3, none⟩ (.bool (!on))).heap.size (((v4.alloc (.cells #[.string ⟨⟨y.nm⟩⟩, .int .i64 y.ver, .bool y.tr, .bool y.se, .slice A4 y.al.length a4, .slice C4 y.ac.length c4, .slice G4 y.gr.length g4, .int .i64 y.li] 32)).setCell ⟨z1, 2, none⟩ (.bool on)).setCell ⟨z1, 3, none⟩ (.bool (!on))) W → Calls Try.prog 15 #[.agg #[.string ⟨⟨q.nm⟩⟩, .int .i64 q.ver, .bool q.tr, .bool q.se, .slice A2 q.al.length a2, .slice C2 q.ac.length c2, .slice G2 q.gr.length g2, .int .i64 q.li], .agg #[.string ⟨⟨y.nm⟩⟩, .int .i64 y.ver, .bool y.tr, .bool y.se, .slice A4 y.al.length a4, .slice C4 y.ac.length c4, .slice G4 y.gr.length g4, .int .i64 y.li]] W fun e w' => e = .returned (.bool true) ∧ RowKit.Below W.heap.size W w') := fun W hW => by
          have h := Same_any q y (fun i => Bl ⟨.slice A2 q.al.length a2, .slice C2 q.ac.length c2, .slice G2 q.gr.length g2⟩ i ∨ Bl ⟨.slice A4 y.al.length a4, .slice C4 y.ac.length c4, .slice G4 y.gr.length g4⟩ i) _ _ W (hv2.keep (fun _ h => h) (fun b hb => hW.block b (hlt24 b hb))) (hv4.keep (fun _ h => h) (fun b hb => hW.block b (hlt24 b hb))) (fun i hi => Nat.lt_of_lt_of_le (hlt24 i hi) hW.size) (by have := HPL2.out; omega) (by have := HPL2.out; omega) (by have := HPL2.out; omega)
          rw [hqy] at h
          exact h
        have HCC : Hid (∀ W, RowKit.Below (((v4.alloc (.cells #[.string ⟨⟨y.nm⟩⟩, .int .i64 y.ver, .bool y.tr, .bool y.se, .slice A4 y.al.length a4, .slice C4 y.ac.length c4, .slice G4 y.gr.length g4, .int .i64 y.li] 32)).setCell ⟨z1, 2, none⟩ (.bool on)).setCell ⟨z1, 3, none⟩ (.bool (!on))).heap.size (((v4.alloc (.cells #[.string ⟨⟨y.nm⟩⟩, .int .i64 y.ver, .bool y.tr, .bool y.se, .slice A4 y.al.length a4, .slice C4 y.ac.length c4, .slice G4 y.gr.length g4, .int .i64 y.li] 32)).setCell ⟨z1, 2, none⟩ (.bool on)).setCell ⟨z1, 3, none⟩ (.bool (!on))) W → W.heap[z2]? = some (.cells #[.string ⟨⟨q.nm⟩⟩, .int .i64 q.ver, .bool q.tr, .bool q.se, .slice A2 q.al.length a2, .slice C2 q.ac.length c2, .slice G2 q.gr.length g2, .int .i64 q.li] 32 (0, 0)) ∧ W.heap[v4.heap.size]? = some (.cells #[.string ⟨⟨y.nm⟩⟩, .int .i64 y.ver, .bool y.tr, .bool y.se, .slice A4 y.al.length a4, .slice C4 y.ac.length c4, .slice G4 y.gr.length g4, .int .i64 y.li] 32 (0, 0))) := fun W hW => ⟨(hW.block z2 (Array.getElem?_eq_some_iff.1 hz2).1).trans hz2, (hW.block v4.heap.size (Array.getElem?_eq_some_iff.1 hz4).1).trans hz4⟩
        have hbeq : (a == c) = false := by simpa using hac
        clear hm1 hm2 hkeep hsz hk1 hk2 hk3 hk4 hz2 hz3 hz4 hBB hv1 hv2 hv3 hv4 hlt13 hlt24 hs1 hpx hqy HGB1 HGB2 HGB3 HGB4 HPO1 HPO2 HPO3 HPO4 HE1 HE2 HE3 HE4 HO4 HER F1 F2 F3 F4 F5 T1 T2 HPP
        go_wp2_with fail
        refine HSM.out.mono ?_
        rintro _ w10 ⟨rfl, b10⟩
        have HB10 := Lib.hid (HBW.out.trans (b10.mono HBW.out.size))
        have HS3 := Lib.hid (HS2.out w10 b10)
        have hcc := HCC.out w10 b10
        clear b10 HSM j0 j1 j2 j3 j4 j5 j6 j7 d0 d1 d2 d3 d4 d5 d6 d7 x0 x1 x2 x3 x4 x5 x6 x7 y0 y1 y2 y3 y4 y5 y6 y7 hf1 hf2 HS2 HCC
        obtain ⟨j0, j1, j2, j3, j4, j5, j6, j7⟩ := cell8 hcc.1
        obtain ⟨d0, d1, d2, d3, d4, d5, d6, d7⟩ := cell8 hcc.2
        clear hcc
        go_wp2_with fail
        refine HS3.out.mono ?_
        rintro _ w11 ⟨rfl, b11⟩
        have HB11 := Lib.hid (HB10.out.trans (b11.mono HB10.out.size))
        clear b11 HS3 HB10 j0 j1 j2 j3 j4 j5 j6 j7 d0 d1 d2 d3 d4 d5 d6 d7
        go_wp2
        go_ret
        exact ⟨by simp, HB11.out⟩
end Go.Proofs.Ytehmfkcihieecaa.Po
