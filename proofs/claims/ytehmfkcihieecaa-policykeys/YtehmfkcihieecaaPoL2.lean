/- The law PolicyKeys, walked. (Laid with NS=1; written by wip/tools/gen/pol.py.) -/
import Derived.Test.YtehmfkcihieecaaPoW13
import Derived.Test.YtehmfkcihieecaaPoL0b
namespace Go.Proofs.Ytehmfkcihieecaa.Po
open Go.RowKit Go.Sort
open Te Te.Tt
open Go (Lit DataW MemPlace keyOf maxLen)

set_option maxHeartbeats 16000000 in
set_option maxRecDepth 100000 in
theorem policyKeys_walk (l : List Ac) (A : Option Addr) (ca : Nat) (a b : Nm) (V : World) (S : Nat → Prop) (hll : l.length ≤ maxLen) (hr : ARow V S l A) (hS : ∀ b, S b → b < V.heap.size) (hok : ∀ x ∈ l, AOk x) (ha : a.length ≤ maxLen) (hb : b.length ≤ maxLen) :
    Calls Try.prog 4 #[.slice A l.length ca, .string ⟨⟨a⟩⟩, .string ⟨⟨b⟩⟩] V fun e w' => e = .returned (.bool true) ∧ RowKit.Below V.heap.size V w' := by
  obtain ⟨m, hm⟩ : ∃ m, m = l.length := ⟨_, rfl⟩
  have HOV : Hid (∀ W, RowKit.Below V.heap.size V W → Calls Try.prog 9 #[.slice A l.length ca] W fun e w' => e = .returned (.bool (ovr l)) ∧ w' = W) := fun W hW => over_any l A ca S W (hr.keep (fun _ h => h) (fun b hb => hW.block b (hS b hb))) hll
  obtain ⟨o, ho⟩ : ∃ o, o = ovr l := ⟨_, rfl⟩
  rw [← ho] at HOV
  have HOO := Lib.hid ho
  have HM := Lib.hid hm
  have HA := Lib.hid hr
  have HS := Lib.hid hS
  have HOK := Lib.hid hok
  have HWK := Lib.hid (works_any V)
  rw [← hm] at HOV ⊢
  clear hr hS hok ho hm hll
  go_enter Try.func4, Try.ntmps4
  go_wp2_with fail
  refine HWK.out.mono ?_
  rintro _ w1 ⟨rfl, b1⟩
  have HB1 := Lib.hid b1
  clear b1 HWK
  go_wp2_with fail
  refine (HOV.out w1 HB1.out).mono ?_
  rintro _ w2 ⟨rfl, rfl⟩
  clear HOV
  cases o
  case true =>
    go_wp2
    go_ret
    exact ⟨rfl, HB1.out⟩
  case false =>
  have HNO := Lib.hid (ovr_no HOO.out.symm)
  have hm40 : m ≤ 40 := by rw [HM.out]; exact HNO.out.1
  clear HOO
  go_wp2_with fail
  refine (one_new V w2 HB1.out).mono ?_
  rintro _ w3 ⟨g, bm, rfl, h3, -⟩
  have HO3 := Lib.hid h3
  clear h3 HB1
  go_wp2_with fail
  go_loopw [9] (fun iv wr => ∃ i : Nat, i ≤ m ∧ iv = .int .i64 (i : Nat) ∧ Hid (∃ σ n, One V (fun _ => False) g bm σ n wr ∧ n ≤ i)) (fun iv _ => m - (intOf iv).toNat)
  case atStart => exact ⟨0, by omega, rfl, Lib.hid ⟨_, _, HO3.out, Nat.le_refl _⟩⟩
  case round =>
    obtain ⟨i, hi, rfl, HI⟩ := hrel
    clear HO3
    obtain ⟨σ, n, hone, hni⟩ := HI.out
    have HO := Lib.hid hone
    clear HI hone
    by_cases hlt : i < m
    · have hil : (i : Int) < (m : Int) := by omega
      have hl1 : i < l.length := by rw [← HM.out]; exact hlt
      have hbel := HO.out.bel
      obtain ⟨b', o', rfl, hSb, hat⟩ := (HA.out.keep (w' := wr) (fun _ h => h) (fun b hb => hbel.block b (HS.out b hb))).resolve_left (fun h => by rw [h] at hl1; simp at hl1)
      obtain ⟨A1, a1, C1, c1, G1, g1, e0, e1, e2, e3, e4, e5, e6, e7, e8, e9, e10, e11, hA1, hC1, hG1, la1, lc1⟩ := hat i hl1
      have hmem := List.getElem_mem hl1
      have hlen := HNO.out.2 _ hmem
      have hD := one_done HO.out l[i] A1 a1 C1 c1 G1 g1 S hA1 hC1 hG1 la1 lc1 (fun b hb => Nat.lt_of_lt_of_le (HS.out b hb) hbel.size) (HOK.out _ hmem) hlen.1 hlen.2.1 hlen.2.2 (by omega)
      have HD := Lib.hid hD
      clear hD hlen hmem hat hSb hbel hA1 hC1 hG1 la1 lc1
      generalize l[i] = y at *
      generalize y.p.al.length = la at *
      generalize y.p.ac.length = lc at *
      generalize y.p.gr.length = lg at *
      clear hl1
      go_wp2_with fail
      refine HD.out.mono ?_
      rintro _ w4 ⟨⟨er, rfl⟩, σ', n', ho4, hn4⟩
      have HR4 : Hid (∃ σ n, One V (fun _ => False) g bm σ n w4 ∧ n ≤ i + 1) := ⟨σ', n', ho4, by omega⟩
      clear ho4 hn4 HD HO e0 e1 e2 e3 e4 e5 e6 e7 e8 e9 e10 e11
      go_wp2
      go_roundw
      case rel => exact ⟨i + 1, by omega, by go_num, HR4⟩
      case measure => simp [intOf]; omega
    · have hil : ¬ (i : Int) < (m : Int) := by omega
      have hnx : n < maxLen := by unfold maxLen; omega
      have HNX : Hid (n < maxLen) := hnx
      clear HA HS HOK HNO hnx
      obtain ⟨k1, hk1⟩ : ∃ k, k = ky σ a := ⟨_, rfl⟩
      obtain ⟨k2, hk2⟩ : ∃ k, k = ky σ b := ⟨_, rfl⟩
      obtain ⟨e1, he1⟩ : ∃ k, k = errW (σ a).isSome := ⟨_, rfl⟩
      obtain ⟨e2, he2⟩ : ∃ k, k = errW (σ b).isSome := ⟨_, rfl⟩
      have HK1 := Lib.hid hk1
      have HK2 := Lib.hid hk2
      have HE1 := Lib.hid he1
      have HE2 := Lib.hid he2
      clear hk1 hk2 he1 he2
      have hc := one_key HO.out a ha
      rw [← HK1.out] at hc
      rw [← HE1.out] at hc
      simp only [kval] at hc
      have HC := Lib.hid hc
      clear hc
      go_wp2_with fail
      refine HC.out.mono ?_
      rintro _ v1 ⟨rfl, b1⟩
      have hb1 : RowKit.Below wr.heap.size wr (v1.alloc (.cells #[.int .i64 k1.k, .string ⟨⟨k1.s⟩⟩, .int .i64 k1.n, .slice none 0 0] 45)) := b1.trans ((RowKit.Below.refl _ _).alloc (Nat.le_refl _) _ |>.mono b1.size)
      have hs1 : (v1.alloc (.cells #[.int .i64 k1.k, .string ⟨⟨k1.s⟩⟩, .int .i64 k1.n, .slice none 0 0] 45)).heap.size = v1.heap.size + 1 := by simp
      have HO1 := Lib.hid (HO.out.read hb1 (K' := fun i => i = v1.heap.size) (fun i h => by
        subst h; exact .inr ⟨b1.size, by rw [hs1]; omega⟩))
      have HGB1 := Lib.hid (heap_alloc_new v1 (.cells #[.int .i64 k1.k, .string ⟨⟨k1.s⟩⟩, .int .i64 k1.n, .slice none 0 0] 45))
      clear b1 hb1 hs1 HC HO
      go_wp2_with fail
      generalize v1.alloc (.cells #[.int .i64 k1.k, .string ⟨⟨k1.s⟩⟩, .int .i64 k1.n, .slice none 0 0] 45) = W1 at *
      generalize v1.heap.size = z1 at *
      have hc := one_key HO1.out b hb
      rw [← HK2.out] at hc
      rw [← HE2.out] at hc
      simp only [kval] at hc
      have HC := Lib.hid hc
      clear hc
      refine HC.out.mono ?_
      rintro _ v2 ⟨rfl, b2⟩
      have hb2 : RowKit.Below W1.heap.size W1 (v2.alloc (.cells #[.int .i64 k2.k, .string ⟨⟨k2.s⟩⟩, .int .i64 k2.n, .slice none 0 0] 45)) := b2.trans ((RowKit.Below.refl _ _).alloc (Nat.le_refl _) _ |>.mono b2.size)
      have hs2 : (v2.alloc (.cells #[.int .i64 k2.k, .string ⟨⟨k2.s⟩⟩, .int .i64 k2.n, .slice none 0 0] 45)).heap.size = v2.heap.size + 1 := by simp
      have HO2 := Lib.hid (HO1.out.read hb2 (K' := fun i => i = z1 ∨ i = v2.heap.size) (fun i h => by
        rcases h with h | h
        · exact .inl h
        · subst h; exact .inr ⟨b2.size, by rw [hs2]; omega⟩))
      have HGB2 := Lib.hid (heap_alloc_new v2 (.cells #[.int .i64 k2.k, .string ⟨⟨k2.s⟩⟩, .int .i64 k2.n, .slice none 0 0] 45))
      have HGB1' := Lib.hid ((hb2.block z1 (Array.getElem?_eq_some_iff.1 HGB1.out).1).trans HGB1.out)
      clear b2 hb2 hs2 HC HO1 HGB1
      rename Hid ((v2.alloc _).heap[z1]? = _) => HGB1
      go_wp2_with fail
      generalize v2.alloc (.cells #[.int .i64 k2.k, .string ⟨⟨k2.s⟩⟩, .int .i64 k2.n, .slice none 0 0] 45) = W2 at *
      generalize v2.heap.size = z2 at *
      by_cases her : (chg σ a rekF).2 = 0
      case neg =>
        have hc := one_rekey HO2.out a ha HNX.out
        rw [chg_err her] at hc
        generalize (chg σ a rekF).2 = er at *
        have HC := Lib.hid hc
        clear hc
        refine HC.out.mono ?_
        rintro _ w5 ⟨rfl, oo, kk⟩
        have HOR := Lib.hid oo
        have HGB1' := Lib.hid ((kk z1 (.inl rfl)).trans HGB1.out)
        have HGB2' := Lib.hid ((kk z2 (.inr rfl)).trans HGB2.out)
        clear oo kk HC HO2 HGB1 HGB2
        rename Hid (w5.heap[z1]? = _) => HGB1
        rename Hid (w5.heap[z2]? = _) => HGB2
        obtain ⟨k3, hk3⟩ : ∃ k, k = ky σ a := ⟨_, rfl⟩
        obtain ⟨k4, hk4⟩ : ∃ k, k = ky σ b := ⟨_, rfl⟩
        have HK3 := Lib.hid hk3
        have HK4 := Lib.hid hk4
        clear hk3 hk4
        have hc := one_key HOR.out a ha
        rw [← HK3.out] at hc
        simp only [kval] at hc
        have HC := Lib.hid hc
        clear hc
        go_wp2_with fail
        refine HC.out.mono ?_
        rintro _ v3 ⟨rfl, b3⟩
        have hb3 : RowKit.Below w5.heap.size w5 (v3.alloc (.cells #[.int .i64 k3.k, .string ⟨⟨k3.s⟩⟩, .int .i64 k3.n, .slice none 0 0] 45)) := b3.trans ((RowKit.Below.refl _ _).alloc (Nat.le_refl _) _ |>.mono b3.size)
        have hs3 : (v3.alloc (.cells #[.int .i64 k3.k, .string ⟨⟨k3.s⟩⟩, .int .i64 k3.n, .slice none 0 0] 45)).heap.size = v3.heap.size + 1 := by simp
        have HO3 := Lib.hid (HOR.out.read hb3 (K' := fun _ => False) (fun i h => by
          exact h.elim))
        have HGB3 := Lib.hid (heap_alloc_new v3 (.cells #[.int .i64 k3.k, .string ⟨⟨k3.s⟩⟩, .int .i64 k3.n, .slice none 0 0] 45))
        have HGB1' := Lib.hid ((hb3.block z1 (Array.getElem?_eq_some_iff.1 HGB1.out).1).trans HGB1.out)
        have HGB2' := Lib.hid ((hb3.block z2 (Array.getElem?_eq_some_iff.1 HGB2.out).1).trans HGB2.out)
        clear b3 hb3 hs3 HC HOR HGB1 HGB2
        rename Hid ((v3.alloc _).heap[z1]? = _) => HGB1
        rename Hid ((v3.alloc _).heap[z2]? = _) => HGB2
        go_wp2_with fail
        generalize v3.alloc (.cells #[.int .i64 k3.k, .string ⟨⟨k3.s⟩⟩, .int .i64 k3.n, .slice none 0 0] 45) = W3 at *
        generalize v3.heap.size = z3 at *
        have hc := one_key HO3.out b hb
        rw [← HK4.out] at hc
        rw [← HE2.out] at hc
        simp only [kval] at hc
        have HC := Lib.hid hc
        clear hc
        refine HC.out.mono ?_
        rintro _ v4 ⟨rfl, b4⟩
        have hb4 : RowKit.Below W3.heap.size W3 (v4.alloc (.cells #[.int .i64 k4.k, .string ⟨⟨k4.s⟩⟩, .int .i64 k4.n, .slice none 0 0] 45)) := b4.trans ((RowKit.Below.refl _ _).alloc (Nat.le_refl _) _ |>.mono b4.size)
        have hs4 : (v4.alloc (.cells #[.int .i64 k4.k, .string ⟨⟨k4.s⟩⟩, .int .i64 k4.n, .slice none 0 0] 45)).heap.size = v4.heap.size + 1 := by simp
        have HO4 := Lib.hid (HO3.out.read hb4 (K' := fun _ => False) (fun i h => by
          exact h.elim))
        have HGB4 := Lib.hid (heap_alloc_new v4 (.cells #[.int .i64 k4.k, .string ⟨⟨k4.s⟩⟩, .int .i64 k4.n, .slice none 0 0] 45))
        have HGB1' := Lib.hid ((hb4.block z1 (Array.getElem?_eq_some_iff.1 HGB1.out).1).trans HGB1.out)
        have HGB2' := Lib.hid ((hb4.block z2 (Array.getElem?_eq_some_iff.1 HGB2.out).1).trans HGB2.out)
        have HGB3' := Lib.hid ((hb4.block z3 (Array.getElem?_eq_some_iff.1 HGB3.out).1).trans HGB3.out)
        clear b4 hb4 hs4 HC HO3 HGB1 HGB2 HGB3
        rename Hid ((v4.alloc _).heap[z1]? = _) => HGB1
        rename Hid ((v4.alloc _).heap[z2]? = _) => HGB2
        rename Hid ((v4.alloc _).heap[z3]? = _) => HGB3
        obtain rfl : k3 = k1 := by rw [HK3.out, HK1.out]
        obtain rfl : k4 = k2 := by rw [HK4.out, HK2.out]
        have HBW := Lib.hid HO4.out.bel
        obtain ⟨c0, c1, c2, c3⟩ := cell4 HGB1.out
        obtain ⟨d0, d1, d2, d3⟩ := cell4 HGB2.out
        obtain ⟨x0, x1, x2, x3⟩ := cell4 HGB3.out
        obtain ⟨y0, y1, y2, y3⟩ := cell4 HGB4.out
        have hs1 : Hid (∀ W, RowKit.Below (v4.alloc (.cells #[.int .i64 k4.k, .string ⟨⟨k4.s⟩⟩, .int .i64 k4.n, .slice none 0 0] 45)).heap.size (v4.alloc (.cells #[.int .i64 k4.k, .string ⟨⟨k4.s⟩⟩, .int .i64 k4.n, .slice none 0 0] 45)) W → Calls Try.prog 18 #[.agg #[.int .i64 k3.k, .string ⟨⟨k3.s⟩⟩, .int .i64 k3.n, .slice none 0 0], .agg #[.int .i64 k3.k, .string ⟨⟨k3.s⟩⟩, .int .i64 k3.n, .slice none 0 0]] W fun e w' => e = .returned (.bool true) ∧ RowKit.Below W.heap.size W w') := fun W _ => by
          have h := sameK_any k3 k3 W
          rw [show kEq k3 k3 = true from kEq_iff.2 rfl] at h
          exact h
        have hs2 : Hid (∀ W, RowKit.Below (v4.alloc (.cells #[.int .i64 k4.k, .string ⟨⟨k4.s⟩⟩, .int .i64 k4.n, .slice none 0 0] 45)).heap.size (v4.alloc (.cells #[.int .i64 k4.k, .string ⟨⟨k4.s⟩⟩, .int .i64 k4.n, .slice none 0 0] 45)) W → Calls Try.prog 18 #[.agg #[.int .i64 k4.k, .string ⟨⟨k4.s⟩⟩, .int .i64 k4.n, .slice none 0 0], .agg #[.int .i64 k4.k, .string ⟨⟨k4.s⟩⟩, .int .i64 k4.n, .slice none 0 0]] W fun e w' => e = .returned (.bool true) ∧ RowKit.Below W.heap.size W w') := fun W _ => by
          have h := sameK_any k4 k4 W
          rw [show kEq k4 k4 = true from kEq_iff.2 rfl] at h
          exact h
        have hne : (er == 0) = false := by simpa using her
        have HCL : Hid (∀ W, RowKit.Below (v4.alloc (.cells #[.int .i64 k4.k, .string ⟨⟨k4.s⟩⟩, .int .i64 k4.n, .slice none 0 0] 45)).heap.size (v4.alloc (.cells #[.int .i64 k4.k, .string ⟨⟨k4.s⟩⟩, .int .i64 k4.n, .slice none 0 0] 45)) W → (W.cell? ⟨z2, 0, none⟩ = some (.int .i64 k4.k) ∧ W.cell? ⟨z2, 1, none⟩ = some (.string ⟨⟨k4.s⟩⟩) ∧ W.cell? ⟨z2, 2, none⟩ = some (.int .i64 k4.n) ∧ W.cell? ⟨z2, 3, none⟩ = some (.slice none 0 0)) ∧ (W.cell? ⟨v4.heap.size, 0, none⟩ = some (.int .i64 k4.k) ∧ W.cell? ⟨v4.heap.size, 1, none⟩ = some (.string ⟨⟨k4.s⟩⟩) ∧ W.cell? ⟨v4.heap.size, 2, none⟩ = some (.int .i64 k4.n) ∧ W.cell? ⟨v4.heap.size, 3, none⟩ = some (.slice none 0 0))) := fun W hW => ⟨cell4 ((hW.block z2 (Array.getElem?_eq_some_iff.1 HGB2.out).1).trans HGB2.out), cell4 ((hW.block v4.heap.size (Array.getElem?_eq_some_iff.1 HGB4.out).1).trans HGB4.out)⟩
        clear HGB1 HGB2 HGB3 HGB4 HK3 HK4 HK1 HK2 HO4 HE1 HE2
        by_cases hz0 : e1 = 0
        case neg =>
          have hne1 : (e1 == 0) = false := by simpa using hz0
          go_wp2_with fail
          refine (hs1.out _ (RowKit.Below.refl _ _)).mono ?_
          rintro _ w8 ⟨rfl, b8⟩
          have HB8 := Lib.hid (HBW.out.trans (b8.mono HBW.out.size))
          clear c0 c1 c2 c3 d0 d1 d2 d3 x0 x1 x2 x3 y0 y1 y2 y3
          obtain ⟨⟨d0, d1, d2, d3⟩, ⟨y0, y1, y2, y3⟩⟩ := HCL.out w8 b8
          have hs3 := Lib.hid (hs2.out w8 b8)
          clear b8 HBW HCL hs1 hs2
          go_wp2_with fail
          refine hs3.out.mono ?_
          rintro _ w9 ⟨rfl, b9⟩
          have HB9 := Lib.hid (HB8.out.trans (b9.mono HB8.out.size))
          clear b9 HB8 hs3
          go_wp2
          go_ret
          exact ⟨by first | (simp; done) | simp [her], HB9.out⟩
        subst hz0
        go_wp2_with fail
        refine (hs1.out _ (RowKit.Below.refl _ _)).mono ?_
        rintro _ w8 ⟨rfl, b8⟩
        have HB8 := Lib.hid (HBW.out.trans (b8.mono HBW.out.size))
        clear c0 c1 c2 c3 d0 d1 d2 d3 x0 x1 x2 x3 y0 y1 y2 y3
        obtain ⟨⟨d0, d1, d2, d3⟩, ⟨y0, y1, y2, y3⟩⟩ := HCL.out w8 b8
        have hs3 := Lib.hid (hs2.out w8 b8)
        clear b8 HBW HCL hs1 hs2
        go_wp2_with fail
        refine hs3.out.mono ?_
        rintro _ w9 ⟨rfl, b9⟩
        have HB9 := Lib.hid (HB8.out.trans (b9.mono HB8.out.size))
        clear b9 HB8 hs3
        go_wp2
        go_ret
        exact ⟨by first | (simp; done) | simp [her], HB9.out⟩
      case pos =>
      obtain ⟨v, r1, r2, r3, r4, r5, r6, r7⟩ := rekey_ok HO2.out.ok her
      have hc := one_rekey HO2.out a ha HNX.out
      rw [her] at hc
      generalize (chg σ a rekF).1 = τ at *
      have R3 := Lib.hid r3
      have R4 := Lib.hid r4
      have R5 := Lib.hid r5
      have R6 := Lib.hid r6
      have R7 := Lib.hid r7
      have HC := Lib.hid hc
      clear hc r3 r4 r5 r6 r7 her
      refine HC.out.mono ?_
      rintro _ w5 ⟨rfl, oo, kk⟩
      have HOR := Lib.hid oo
      have HGB1' := Lib.hid ((kk z1 (.inl rfl)).trans HGB1.out)
      have HGB2' := Lib.hid ((kk z2 (.inr rfl)).trans HGB2.out)
      clear oo kk HC HO2 HGB1 HGB2
      rename Hid (w5.heap[z1]? = _) => HGB1
      rename Hid (w5.heap[z2]? = _) => HGB2
      obtain ⟨k3, hk3⟩ : ∃ k, k = ky τ a := ⟨_, rfl⟩
      obtain ⟨k4, hk4⟩ : ∃ k, k = ky τ b := ⟨_, rfl⟩
      have HK3 := Lib.hid hk3
      have HK4 := Lib.hid hk4
      clear hk3 hk4
      have hc := one_key HOR.out a ha
      rw [← HK3.out] at hc
      simp only [kval] at hc
      have HC := Lib.hid hc
      clear hc
      go_wp2_with fail
      refine HC.out.mono ?_
      rintro _ v3 ⟨rfl, b3⟩
      have hb3 : RowKit.Below w5.heap.size w5 (v3.alloc (.cells #[.int .i64 k3.k, .string ⟨⟨k3.s⟩⟩, .int .i64 k3.n, .slice none 0 0] 45)) := b3.trans ((RowKit.Below.refl _ _).alloc (Nat.le_refl _) _ |>.mono b3.size)
      have hs3 : (v3.alloc (.cells #[.int .i64 k3.k, .string ⟨⟨k3.s⟩⟩, .int .i64 k3.n, .slice none 0 0] 45)).heap.size = v3.heap.size + 1 := by simp
      have HO3 := Lib.hid (HOR.out.read hb3 (K' := fun _ => False) (fun i h => by
        exact h.elim))
      have HGB3 := Lib.hid (heap_alloc_new v3 (.cells #[.int .i64 k3.k, .string ⟨⟨k3.s⟩⟩, .int .i64 k3.n, .slice none 0 0] 45))
      have HGB1' := Lib.hid ((hb3.block z1 (Array.getElem?_eq_some_iff.1 HGB1.out).1).trans HGB1.out)
      have HGB2' := Lib.hid ((hb3.block z2 (Array.getElem?_eq_some_iff.1 HGB2.out).1).trans HGB2.out)
      clear b3 hb3 hs3 HC HOR HGB1 HGB2
      rename Hid ((v3.alloc _).heap[z1]? = _) => HGB1
      rename Hid ((v3.alloc _).heap[z2]? = _) => HGB2
      go_wp2_with fail
      generalize v3.alloc (.cells #[.int .i64 k3.k, .string ⟨⟨k3.s⟩⟩, .int .i64 k3.n, .slice none 0 0] 45) = W3 at *
      generalize v3.heap.size = z3 at *
      have hc := one_key HO3.out b hb
      rw [← HK4.out] at hc
      rw [R7.out] at hc
      rw [← HE2.out] at hc
      simp only [kval] at hc
      have HC := Lib.hid hc
      clear hc
      refine HC.out.mono ?_
      rintro _ v4 ⟨rfl, b4⟩
      have hb4 : RowKit.Below W3.heap.size W3 (v4.alloc (.cells #[.int .i64 k4.k, .string ⟨⟨k4.s⟩⟩, .int .i64 k4.n, .slice none 0 0] 45)) := b4.trans ((RowKit.Below.refl _ _).alloc (Nat.le_refl _) _ |>.mono b4.size)
      have hs4 : (v4.alloc (.cells #[.int .i64 k4.k, .string ⟨⟨k4.s⟩⟩, .int .i64 k4.n, .slice none 0 0] 45)).heap.size = v4.heap.size + 1 := by simp
      have HO4 := Lib.hid (HO3.out.read hb4 (K' := fun _ => False) (fun i h => by
        exact h.elim))
      have HGB4 := Lib.hid (heap_alloc_new v4 (.cells #[.int .i64 k4.k, .string ⟨⟨k4.s⟩⟩, .int .i64 k4.n, .slice none 0 0] 45))
      have HGB1' := Lib.hid ((hb4.block z1 (Array.getElem?_eq_some_iff.1 HGB1.out).1).trans HGB1.out)
      have HGB2' := Lib.hid ((hb4.block z2 (Array.getElem?_eq_some_iff.1 HGB2.out).1).trans HGB2.out)
      have HGB3' := Lib.hid ((hb4.block z3 (Array.getElem?_eq_some_iff.1 HGB3.out).1).trans HGB3.out)
      clear b4 hb4 hs4 HC HO3 HGB1 HGB2 HGB3
      rename Hid ((v4.alloc _).heap[z1]? = _) => HGB1
      rename Hid ((v4.alloc _).heap[z2]? = _) => HGB2
      rename Hid ((v4.alloc _).heap[z3]? = _) => HGB3
      obtain rfl : k1 = ⟨2, a, v⟩ := by rw [HK1.out, R3.out]
      obtain rfl : k3 = ⟨2, a, v + 1⟩ := by rw [HK3.out, R4.out]
      obtain rfl : e1 = 0 := by rw [HE1.out, R5.out]; rfl
      simp only at *
      have HBW := Lib.hid HO4.out.bel
      obtain ⟨c0, c1, c2, c3⟩ := cell4 HGB1.out
      obtain ⟨d0, d1, d2, d3⟩ := cell4 HGB2.out
      obtain ⟨x0, x1, x2, x3⟩ := cell4 HGB3.out
      obtain ⟨y0, y1, y2, y3⟩ := cell4 HGB4.out
      by_cases hab : a = b
      case pos =>
        subst hab
        clear HGB1 HGB2 HGB3 HGB4 HK3 HK4 HK1 HK2 HO4 HE1 HE2 R3 R4 R5 R6 R7
        go_wp2
        go_ret
        exact ⟨by simp, HBW.out⟩
      obtain rfl : k4 = k2 := by rw [HK4.out, HK2.out]; exact R6.out b (fun e => hab e.symm)
      have hbeq : (a == b) = false := by simpa using hab
      have hsm := sameK_any k4 k4 (v4.alloc (.cells #[.int .i64 k4.k, .string ⟨⟨k4.s⟩⟩, .int .i64 k4.n, .slice none 0 0] 45))
      rw [show kEq k4 k4 = true from kEq_iff.2 rfl] at hsm
      simp only [kval] at hsm
      have HSM := Lib.hid hsm
      clear hsm HGB1 HGB2 HGB3 HGB4 HK3 HK4 HK1 HK2 HO4 HE1 HE2 R3 R4 R5 R6 R7
      go_wp2_with fail
      refine HSM.out.mono ?_
      rintro _ w8 ⟨rfl, b8⟩
      have HB8 := Lib.hid (HBW.out.trans (b8.mono HBW.out.size))
      clear b8 HSM HBW
      go_wp2
      go_ret
      exact ⟨by simp, HB8.out⟩
end Go.Proofs.Ytehmfkcihieecaa.Po
