/- The law KnowMore, walked. (Laid with NS=1; written by gen/knl2.py.) -/
import Derived.Test.YtiidooponlbnmaaDoorKnMo
import Derived.Test.YtiidooponlbnmaaDoorKnL1
namespace Go.Proofs.YtiidooponlbnmaaDoor.Kn
open Go.RowKit Go.Sort
open Te Te.Tt
open Go (Lit DataW MemPlace keyOf maxLen)

set_option maxHeartbeats 16000000 in
set_option maxRecDepth 100000 in
theorem knowMore_walk (l : List Tm) (A : Option Addr) (ca : Nat) (x : Tm) (v : Value) (q : List Tm) (B : Option Addr) (cb : Nat) (U : World) (hkl : Te.Tt.bks l ≤ 1048576) (hkx : Te.Tt.bk x ≤ 1048576) (hkq : Te.Tt.bks q ≤ 1048576) (hrl : TRow U (Lo U) l A) (hrx : Rep U (Lo U) x v) (hrq : TRow U (Lo U) q B) (htab : TabB U.heap.size U) :
    Calls Tryd.prog 5 #[.slice A l.length ca, v, .slice B q.length cb] U fun e w' => e = .returned (.bool true) ∧ Below U.heap.size U w' := by
  have h1 := szs_le_bks l
  have h2 := szs_le_bks q
  have h3 := sz_le_bk x
  obtain ⟨xk, xs, xn, xl⟩ := x
  have hrx0 := hrx
  obtain ⟨XA, xc, rfl, -, -⟩ := rep_mk.1 hrx
  obtain ⟨V, hV⟩ : ∃ V, V = U.alloc (.cells #[.int .i64 xk, .string ⟨⟨xs⟩⟩, .int .i64 xn, .slice XA xl.length xc] 33) := ⟨_, rfl⟩
  obtain ⟨z, hz⟩ : ∃ z, z = U.heap.size := ⟨_, rfl⟩
  have hb0 : Below U.heap.size U V := by rw [hV]; exact (Below.refl _ _).alloc (Nat.le_refl _) _
  have hg0 : V.heap[z]? = some (.cells #[.int .i64 xk, .string ⟨⟨xs⟩⟩, .int .i64 xn, .slice XA xl.length xc] 33 (0, 0)) := by rw [hV, hz]; exact heap_alloc_new U _
  have hrl' := trow_below hrl hb0 (fun _ h => h)
  have hrq' := trow_below hrq hb0 (fun _ h => h)
  have hrx' := rep_below hrx0 hb0 (fun _ h => h)
  have hlo : ∀ i, Lo U i → i < V.heap.size := fun i hi => Nat.lt_of_lt_of_le hi hb0.size
  have HOL : Hid (∀ W, Below V.heap.size V W → Calls Tryd.prog 9 #[.slice A l.length ca] W fun e w' => e = .returned (.bool (decide (120 < 1 + Te.Tt.szs l))) ∧ Below W.heap.size W w') := fun W hW =>
    over_any l A ca (Lo U) W (by omega) (trow_below hrl' hW hlo) (fun i hi => Nat.lt_of_lt_of_le (hlo i hi) hW.size)
  have HOQ : Hid (∀ W, Below V.heap.size V W → Calls Tryd.prog 9 #[.slice B q.length cb] W fun e w' => e = .returned (.bool (decide (120 < 1 + Te.Tt.szs q))) ∧ Below W.heap.size W w') := fun W hW =>
    over_any q B cb (Lo U) W (by omega) (trow_below hrq' hW hlo) (fun i hi => Nat.lt_of_lt_of_le (hlo i hi) hW.size)
  have HOX : Hid (∀ W, Below V.heap.size V W → Calls Tryd.prog 22 #[.agg #[.int .i64 xk, .string ⟨⟨xs⟩⟩, .int .i64 xn, .slice XA xl.length xc], .int .i64 120] W fun e w' => e = .returned (.bool (decide (120 < sz (.mk xk xs xn xl)))) ∧ Below W.heap.size W w') := fun W hW =>
    Large_any (.mk xk xs xn xl) 120 (Lo U) _ W (by omega) (rep_below hrx' hW hlo) (fun i hi => Nat.lt_of_lt_of_le (hlo i hi) hW.size)
  obtain ⟨o1, ho1⟩ : ∃ o1, o1 = decide (120 < 1 + Te.Tt.szs l) := ⟨_, rfl⟩
  obtain ⟨o2, ho2⟩ : ∃ o2, o2 = decide (120 < 1 + Te.Tt.szs q) := ⟨_, rfl⟩
  obtain ⟨o3, ho3⟩ : ∃ o3, o3 = decide (120 < sz (.mk xk xs xn xl)) := ⟨_, rfl⟩
  rw [← ho1] at HOL
  rw [← ho2] at HOQ
  rw [← ho3] at HOX
  have HO1 := Lib.hid ho1
  have HO2 := Lib.hid ho2
  have HO3 := Lib.hid ho3
  have HRL := Lib.hid hrl'
  have HRQ := Lib.hid hrq'
  have HRX := Lib.hid hrx'
  have HLO := Lib.hid hlo
  have hT := TabB.up htab hb0
  have HT := Lib.hid hT
  have HB0 := Lib.hid hb0
  have HG0 := Lib.hid hg0
  have HVV := Lib.hid hV
  have HZZ := Lib.hid hz
  have HCZ : Hid (∀ W, Below V.heap.size V W → W.cell? ⟨z, 0, none⟩ = some (.int .i64 xk) ∧ W.cell? ⟨z, 1, none⟩ = some (.string ⟨⟨xs⟩⟩) ∧ W.cell? ⟨z, 2, none⟩ = some (.int .i64 xn) ∧ W.cell? ⟨z, 3, none⟩ = some (.slice XA xl.length xc)) := fun W hW => cell4 ((hW.block z (Array.getElem?_eq_some_iff.1 hg0).1).trans hg0)
  obtain ⟨m, hm⟩ : ∃ m, m = l.length := ⟨_, rfl⟩
  obtain ⟨n, hn⟩ : ∃ n, n = q.length := ⟨_, rfl⟩
  rw [← hm] at HOL ⊢
  rw [← hn] at HOQ ⊢
  have HM := Lib.hid hm
  have HN := Lib.hid hn
  have HWK := Lib.hid (worksK_any V hT)
  clear h1 h2 h3 hkl hkx hkq hrl hrq hrx hrx0 hrl' hrq' hrx' hlo htab hT ho1 ho2 ho3 hm hn hb0 hg0 hV hz
  go_enter Tryd.func5, Tryd.ntmps5
  go_wp2_with fail
  rw [← HVV.out, ← HZZ.out]
  refine HWK.out.mono ?_
  rintro _ w1 ⟨rfl, b1⟩
  have HB1 := Lib.hid b1
  clear b1 HWK
  go_wp2_with fail
  refine (HOL.out w1 HB1.out).mono ?_
  rintro _ w2 ⟨rfl, b2⟩
  have HB2 := Lib.hid (HB1.out.trans (b2.mono HB1.out.size))
  clear b2 HOL HB1
  cases o1
  case true =>
    go_wp2
    go_ret
    exact ⟨rfl, HB0.out.trans (HB2.out.mono HB0.out.size)⟩
  case false =>
  go_wp2_with fail
  refine (HOQ.out w2 HB2.out).mono ?_
  rintro _ w3 ⟨rfl, b3⟩
  have HB3 := Lib.hid (HB2.out.trans (b3.mono HB2.out.size))
  clear b3 HOQ HB2
  cases o2
  case true =>
    go_wp2
    go_ret
    exact ⟨rfl, HB0.out.trans (HB3.out.mono HB0.out.size)⟩
  case false =>
  obtain ⟨z0, z1, z2, z3⟩ := HCZ.out w3 HB3.out
  go_wp2_with fail
  refine (HOX.out w3 HB3.out).mono ?_
  rintro _ w4 ⟨rfl, b4⟩
  have HB4 := Lib.hid (HB3.out.trans (b4.mono HB3.out.size))
  clear b4 HOX HB3 z0 z1 z2 z3
  cases o3
  case true =>
    go_wp2
    go_ret
    exact ⟨rfl, HB0.out.trans (HB4.out.mono HB0.out.size)⟩
  case false =>
  have HSL : Hid (Te.Tt.szs l ≤ 119) := by have := HO1.out; rw [eq_comm, decide_eq_false_iff_not] at this; rw [Hid]; omega
  have HSQ : Hid (Te.Tt.szs q ≤ 119) := by have := HO2.out; rw [eq_comm, decide_eq_false_iff_not] at this; rw [Hid]; omega
  have HSX : Hid (sz (.mk xk xs xn xl) ≤ 120) := by have := HO3.out; rw [eq_comm, decide_eq_false_iff_not] at this; rw [Hid]; omega
  have hm119 : m ≤ 119 := by have h1 := szs_len l; have h2 := HSL.out; have h3 := HM.out; omega
  have hn119 : n ≤ 119 := by have h1 := szs_len q; have h2 := HSQ.out; have h3 := HN.out; omega
  clear HO1 HO2 HO3
  go_wp2_with fail
  refine (New_any w4).mono ?_
  rintro _ w5 ⟨g1, d1, e1, rfl, hs4, b4⟩
  have HS4 := Lib.hid hs4
  have HB5 := Lib.hid b4
  clear hs4 b4
  go_wp2_with fail
  refine (New_any w5).mono ?_
  rintro _ w6 ⟨g2, d2, e2, rfl, hs5, b5⟩
  have HTW : Hid (Two V g1 d1 e1 g2 d2 e2 (hs (l.take 0)) (hs (l.take 0)) (120 * 0) (120 * 0) w6) :=
    ⟨_, _, ⟨_, _, _, HS4.out.below b5, Inv.start.congr (fun y => by simp), fun i hi => Nat.le_trans HB4.out.size hi.1, by decide⟩, ⟨_, _, _, hs5, Inv.start.congr (fun y => by simp), fun i hi => Nat.le_trans HB4.out.size (Nat.le_trans HB5.out.size hi.1), by decide⟩, fun i hi h => by omega, HB4.out.trans ((HB5.out.trans (b5.mono HB5.out.size)).mono HB4.out.size)⟩
  clear hs5 b5 HS4 HB5 HB4
  go_wp2_with fail
  go_loopw [10] (fun iv wr => ∃ i : Nat, i ≤ m ∧ iv = .int .i64 (i : Nat) ∧ Hid (Two V g1 d1 e1 g2 d2 e2 (hs (l.take i)) (hs (l.take i)) (120 * i) (120 * i) wr)) (fun iv _ => m - (intOf iv).toNat)
  case atStart => exact ⟨0, by omega, rfl, HTW⟩
  case round =>
    obtain ⟨i, hi, rfl, HT2⟩ := hrel
    by_cases hlt : i < m
    · have hil : (i : Int) < (m : Int) := by omega
      have hlt1 : i < l.length := by have := HM.out; omega
      have hbel := HT2.out.bel
      obtain ⟨b, o, k, s, p, y, C, cy, hA, hSb, hx, c0, c1, c2, c3, hrep⟩ := trow_get HRL.out hbel HLO.out hlt1
      subst hA
      have hszx : sz (.mk k s p y) ≤ 119 := by
        have h1 := szs_mem l _ (List.getElem_mem hlt1)
        rw [hx] at h1
        have := HSL.out
        omega
      have hL1 := HT2.out.learn HT.out (.mk k s p y) (Lo U) _ hrep (fun i hi => Nat.lt_of_lt_of_le (HLO.out i hi) hbel.size) (120 * (i + 1)) (by omega) (by omega)
      have hx1 : l.take (i + 1) = l.take i ++ [.mk k s p y] := by rw [List.take_succ_eq_append_getElem hlt1, hx]
      have HL1 := Lib.hid hL1
      have HX1 := Lib.hid hx1
      have HSZ := Lib.hid hszx
      have HBL := Lib.hid hbel
      have HRP := Lib.hid hrep
      have HCL := Lib.hid (And.intro c0 (And.intro c1 (And.intro c2 c3)))
      have HSB := Lib.hid hSb
      clear hL1 hx hx1 hrep hbel hszx hSb
      go_wp2_with fail
      refine HL1.out.mono ?_
      rintro _ w7 ⟨rfl, ht7⟩
      clear HL1 c0 c1 c2 c3
      have hcc : ∀ o', w7.cell? ⟨b, o', none⟩ = wr.cell? ⟨b, o', none⟩ := fun o' => (ht7.bel.cell (p := ⟨b, o', none⟩) (HLO.out b HSB.out)).trans (HBL.out.cell (p := ⟨b, o', none⟩) (HLO.out b HSB.out)).symm
      have hrep7 : Rep w7 (Lo U) (.mk k s p y) _ := rep_keep (fun _ h => h) (fun c o' hc => (ht7.bel.cell (p := ⟨c, o', none⟩) (HLO.out c hc)).trans (HBL.out.cell (p := ⟨c, o', none⟩) (HLO.out c hc)).symm) _ _ HRP.out
      have hL2 := ht7.flip.learn HT.out (.mk k s p y) (Lo U) _ hrep7 (fun i hi => Nat.lt_of_lt_of_le (HLO.out i hi) ht7.bel.size) (120 * (i + 1)) (by have := HSZ.out; omega) (by omega)
      have c0 := (hcc (o + i * 4)).trans HCL.out.1
      have c1 := (hcc (o + i * 4 + 1)).trans HCL.out.2.1
      have c2 := (hcc (o + i * 4 + 2)).trans HCL.out.2.2.1
      have c3 := (hcc (o + i * 4 + 3)).trans HCL.out.2.2.2
      have HL2 := Lib.hid hL2
      clear hL2 hrep7 hcc ht7
      go_wp2_with fail
      refine HL2.out.mono ?_
      rintro _ w8 ⟨rfl, ht8⟩
      have hst : ∀ z, (hs (l.take i) z ∨ (z = .mk k s p y ∧ vld 0 (.mk k s p y) = true)) ↔ hs (l.take (i + 1)) z := hs_step _ _ _ (fun z => by show _ ↔ (z ∈ l.take (i + 1) ∧ vld 0 z = true); rw [HX1.out, List.mem_append, List.mem_singleton])
      have HT8 := Lib.hid (ht8.flip.congr hst hst (Nat.le_refl _) (Nat.le_refl _))
      clear ht8 HL2 c0 c1 c2 c3 HX1 hst HCL HRP HBL HSB
      go_wp2
      go_roundw
      case rel => exact ⟨i + 1, by omega, by go_num, HT8⟩
      case measure => simp [intOf]; omega
    · obtain rfl : i = m := by omega
      have HT3 : Hid (Two V g1 d1 e1 g2 d2 e2 (hs l) (hs l) (120 * i) (120 * i) wr) := by
        have e : l.take i = l := List.take_of_length_le (by have := HM.out; omega)
        have h := HT2.out
        rw [e] at h
        exact h
      have hil : ¬ (i : Int) < (i : Int) := by omega
      obtain ⟨F1, T1, fz1, s1, F2, T2, fz2, s2, hs1, hs2, hk1, hk2, hn1, hn2⟩ := HT3.out.known
      obtain ⟨M, hM⟩ : ∃ M, M = (vld 0 (.mk xk xs xn xl) && can s1.kn (.mk xk xs xn xl)) := ⟨_, rfl⟩
      have hC := Can_any wr F1 g1 d1 e1 T1 fz1 s1 hs1 (HT.out.up HT3.out.bel) (.mk xk xs xn xl) (Lo U) _ (rep_below HRX.out HT3.out.bel HLO.out) (fun i hi => Nat.lt_of_lt_of_le (HLO.out i hi) HT3.out.bel.size) (by have := HSX.out; omega)
      rw [← hM] at hC
      have HC := Lib.hid hC
      have HMM : Hid (M = true → vld 0 (.mk xk xs xn xl) = true ∧ ∀ kn, (∀ x, x ∈ kn ↔ Cl (hs l) x) → can kn (.mk xk xs xn xl) = true) := fun h => by
        rw [hM, Bool.and_eq_true] at h
        exact ⟨h.1, fun kn hkn => by rw [← can_congr (fun x => (hk1 x).trans (hkn x).symm)]; exact h.2⟩
      obtain ⟨z0, z1, z2, z3⟩ := HCZ.out wr HT3.out.bel
      clear HT2 HTW hlt hs1 hs2 hk1 hk2 hn1 hn2 hM hC
      go_wp2_with fail
      refine HC.out.mono ?_
      rintro _ w7 ⟨rfl, hb7⟩
      have HT4 := Lib.hid (HT3.out.below hb7)
      clear hb7 HC z0 z1 z2 z3 HT3
      obtain ⟨z0, z1, z2, z3⟩ := HCZ.out w7 HT4.out.bel
      have HL := Lib.hid (HT4.out.flip.learn HT.out (.mk xk xs xn xl) (Lo U) _ (rep_below HRX.out HT4.out.bel HLO.out) (fun i hi => Nat.lt_of_lt_of_le (HLO.out i hi) HT4.out.bel.size) (120 * i + 120) (by have := HSX.out; omega) (by omega))
      go_wp2_with fail
      refine HL.out.mono ?_
      rintro _ w8 ⟨rfl, ht8⟩
      have HT5 := Lib.hid ht8.flip
      clear ht8 HL z0 z1 z2 z3 HT4
      obtain ⟨H2, hH2⟩ : ∃ H2 : Tm → Prop, H2 = fun y => hs l y ∨ (y = .mk xk xs xn xl ∧ vld 0 (.mk xk xs xn xl) = true) := ⟨_, rfl⟩
      rw [← hH2] at HT5
      have HH2 := Lib.hid hH2
      clear hH2
      go_wp2_with fail
      go_loopw [12] (fun iv wr => ∃ j : Nat, j ≤ n ∧ iv = .int .i64 (j : Nat) ∧ Hid (Two V g1 d1 e1 g2 d2 e2 (hs l) H2 (120 * i) (120 * i + 120) wr)) (fun iv _ => n - (intOf iv).toNat)
      case atStart => exact ⟨0, by omega, rfl, HT5⟩
      case round =>
        obtain ⟨j, hj, rfl, HT6⟩ := hrel
        obtain ⟨F1, T1, fz1, s1, F2, T2, fz2, s2, hs1, hs2, hk1, hk2, hn1, hn2⟩ := HT6.out.known
        have hbel := HT6.out.bel
        have hsub : ∀ x ∈ s1.kn, x ∈ s2.kn := fun x hx => (hk2 x).2 (((hk1 x).1 hx).mono (fun y hy => .heard (by rw [HH2.out]; exact .inl hy)))
        by_cases hlt : j < n
        · have hjl : (j : Int) < (n : Int) := by omega
          have hlt1 : j < q.length := by have := HN.out; omega
          obtain ⟨b, o, k, s, p, y, C, cy, hA, hSb, hx, c0, c1, c2, c3, hrep⟩ := trow_get HRQ.out hbel HLO.out hlt1
          subst hA
          have hszx : sz (.mk k s p y) ≤ 262144 := by
            have h1 := szs_mem q _ (List.getElem_mem hlt1)
            rw [hx] at h1
            have := HSQ.out
            omega
          obtain ⟨K1, hK1⟩ : ∃ K1, K1 = (vld 0 (.mk k s p y) && decide (Tm.mk k s p y ∈ s1.kn)) := ⟨_, rfl⟩
          obtain ⟨K2, hK2⟩ : ∃ K2, K2 = (vld 0 (.mk k s p y) && decide (Tm.mk k s p y ∈ s2.kn)) := ⟨_, rfl⟩
          obtain ⟨C1, hC1⟩ : ∃ C1, C1 = (vld 0 (.mk k s p y) && can s1.kn (.mk k s p y)) := ⟨_, rfl⟩
          obtain ⟨C2, hC2⟩ : ∃ C2, C2 = (vld 0 (.mk k s p y) && can s2.kn (.mk k s p y)) := ⟨_, rfl⟩
          have f1 : K1 = true → K2 = true := fun h => by
            rw [hK1, Bool.and_eq_true, decide_eq_true_eq] at h
            rw [hK2, h.1, decide_eq_true (hsub _ h.2)]; rfl
          have f2 : K1 = true → C1 = true := fun h => by
            rw [hK1, Bool.and_eq_true, decide_eq_true_eq] at h
            rw [hC1, h.1, can_known h.2]; rfl
          have f3 : C1 = true → C2 = true := fun h => by
            rw [hC1, Bool.and_eq_true] at h
            rw [hC2, h.1, can_mono hsub _ h.2]; rfl
          have f4 : M = true → C2 = true → C1 = true := fun hM h => by
            rw [hC2, Bool.and_eq_true] at h
            obtain ⟨hv, hc⟩ := HMM.out hM
            have hall : ∀ x, H2 x → vld 0 x = true := fun x hx => by
              rw [HH2.out] at hx
              rcases hx with hx | ⟨hx, h'⟩
              · exact hx.2
              · rw [hx]; exact hv
            have hcan : ∀ x, H2 x → can s1.kn x = true := fun x hx => by
              rw [HH2.out] at hx
              rcases hx with hx | ⟨hx, h'⟩
              · exact can_known ((hk1 x).2 (.heard hx))
              · rw [hx]; exact hc s1.kn hk1
            rw [hC1, h.1, can_back hk1 hk2 hall hcan _ 0 h.1 h.2]; rfl
          obtain ⟨wx, hwx⟩ : ∃ wx, wx = wr.alloc (.cells #[.int .i64 k, .string ⟨⟨s⟩⟩, .int .i64 p, .slice C y.length cy] 33) := ⟨_, rfl⟩
          obtain ⟨yy, hyy⟩ : ∃ yy, yy = wr.heap.size := ⟨_, rfl⟩
          have hbx : Below wr.heap.size wr wx := by rw [hwx]; exact (Below.refl _ _).alloc (Nat.le_refl _) _
          have hgx : wx.heap[yy]? = some (.cells #[.int .i64 k, .string ⟨⟨s⟩⟩, .int .i64 p, .slice C y.length cy] 33 (0, 0)) := by rw [hwx, hyy]; exact heap_alloc_new wr _
          have hlw : ∀ i, Lo U i → i < wr.heap.size := fun i hi => Nat.lt_of_lt_of_le (HLO.out i hi) hbel.size
          have HK1 : Hid (∀ W, Below wx.heap.size wx W → Calls Tryd.prog 16 #[.pointer (some ⟨g1, 0, none⟩), .agg #[.int .i64 k, .string ⟨⟨s⟩⟩, .int .i64 p, .slice C y.length cy]] W fun e w' => e = .returned (.bool K1) ∧ Below W.heap.size W w') := fun W hW => by
            have hb := hbx.trans (hW.mono hbx.size)
            rw [hK1]; exact Knows_any W F1 g1 d1 e1 T1 fz1 s1 (hs1.below hb) ((HT.out.up hbel).up hb) _ (Lo U) _ (rep_below hrep hb hlw) (fun i hi => Nat.lt_of_lt_of_le (hlw i hi) hb.size) hszx
          have HK2 : Hid (∀ W, Below wx.heap.size wx W → Calls Tryd.prog 16 #[.pointer (some ⟨g2, 0, none⟩), .agg #[.int .i64 k, .string ⟨⟨s⟩⟩, .int .i64 p, .slice C y.length cy]] W fun e w' => e = .returned (.bool K2) ∧ Below W.heap.size W w') := fun W hW => by
            have hb := hbx.trans (hW.mono hbx.size)
            rw [hK2]; exact Knows_any W F2 g2 d2 e2 T2 fz2 s2 (hs2.below hb) ((HT.out.up hbel).up hb) _ (Lo U) _ (rep_below hrep hb hlw) (fun i hi => Nat.lt_of_lt_of_le (hlw i hi) hb.size) hszx
          have HC1 : Hid (∀ W, Below wx.heap.size wx W → Calls Tryd.prog 17 #[.pointer (some ⟨g1, 0, none⟩), .agg #[.int .i64 k, .string ⟨⟨s⟩⟩, .int .i64 p, .slice C y.length cy]] W fun e w' => e = .returned (.bool C1) ∧ Below W.heap.size W w') := fun W hW => by
            have hb := hbx.trans (hW.mono hbx.size)
            rw [hC1]; exact Can_any W F1 g1 d1 e1 T1 fz1 s1 (hs1.below hb) ((HT.out.up hbel).up hb) _ (Lo U) _ (rep_below hrep hb hlw) (fun i hi => Nat.lt_of_lt_of_le (hlw i hi) hb.size) hszx
          have HC2 : Hid (∀ W, Below wx.heap.size wx W → Calls Tryd.prog 17 #[.pointer (some ⟨g2, 0, none⟩), .agg #[.int .i64 k, .string ⟨⟨s⟩⟩, .int .i64 p, .slice C y.length cy]] W fun e w' => e = .returned (.bool C2) ∧ Below W.heap.size W w') := fun W hW => by
            have hb := hbx.trans (hW.mono hbx.size)
            rw [hC2]; exact Can_any W F2 g2 d2 e2 T2 fz2 s2 (hs2.below hb) ((HT.out.up hbel).up hb) _ (Lo U) _ (rep_below hrep hb hlw) (fun i hi => Nat.lt_of_lt_of_le (hlw i hi) hb.size) hszx
          have HCY : Hid (∀ W, Below wx.heap.size wx W → W.cell? ⟨yy, 0, none⟩ = some (.int .i64 k) ∧ W.cell? ⟨yy, 1, none⟩ = some (.string ⟨⟨s⟩⟩) ∧ W.cell? ⟨yy, 2, none⟩ = some (.int .i64 p) ∧ W.cell? ⟨yy, 3, none⟩ = some (.slice C y.length cy)) := fun W hW => cell4 ((hW.block yy (Array.getElem?_eq_some_iff.1 hgx).1).trans hgx)
          have HTX : Hid (∀ W, Below wx.heap.size wx W → Two V g1 d1 e1 g2 d2 e2 (hs l) H2 (120 * i) (120 * i + 120) W) := fun W hW => HT6.out.below (hbx.trans (hW.mono hbx.size))
          have HWX := Lib.hid hwx
          have HYY := Lib.hid hyy
          have HBX0 : Hid (Below wx.heap.size wx wx) := Below.refl _ _
          have hcase : (K1 = true ∧ K2 = true ∧ C1 = true ∧ C2 = true ∧ M = true) ∨ (K1 = true ∧ K2 = true ∧ C1 = true ∧ C2 = true ∧ M = false) ∨ (K1 = false ∧ C1 = true ∧ C2 = true ∧ M = true) ∨ (K1 = false ∧ C1 = true ∧ C2 = true ∧ M = false) ∨ (K1 = false ∧ C1 = false ∧ C2 = true ∧ M = false) ∨ (K1 = false ∧ C1 = false ∧ C2 = false ∧ M = true) ∨ (K1 = false ∧ C1 = false ∧ C2 = false ∧ M = false) := by
            clear hK1 hK2 hC1 hC2 HK1 HK2 HC1 HC2
            revert f1 f2 f3 f4
            cases K1 <;> cases K2 <;> cases C1 <;> cases C2 <;> cases M <;> simp
          clear hK1 hK2 hC1 hC2 f1 f2 f3 f4 hwx hyy hbx hgx hlw hszx hrep hx hs1 hs2 hk1 hk2 hn1 hn2 hsub hbel HT6 hSb
          rcases hcase with ⟨rfl, rfl, rfl, rfl, rfl⟩ | ⟨rfl, rfl, rfl, rfl, rfl⟩ | ⟨rfl, rfl, rfl, rfl⟩ | ⟨rfl, rfl, rfl, rfl⟩ | ⟨rfl, rfl, rfl, rfl⟩ | ⟨rfl, rfl, rfl, rfl⟩ | ⟨rfl, rfl, rfl, rfl⟩
          · obtain ⟨y0, y1, y2, y3⟩ := HCY.out wx HBX0.out
            go_wp2_with fail
            rw [← HWX.out, ← HYY.out]
            clear c0 c1 c2 c3
            refine (HK1.out _ HBX0.out).mono ?_
            rintro _ wy1 ⟨rfl, hb⟩
            have HBX1 := Lib.hid (HBX0.out.trans (hb.mono HBX0.out.size))
            clear hb y0 y1 y2 y3 HBX0
            obtain ⟨y0, y1, y2, y3⟩ := HCY.out _ HBX1.out
            go_wp2_with fail
            refine (HK2.out _ HBX1.out).mono ?_
            rintro _ wy2 ⟨rfl, hb⟩
            have HBX2 := Lib.hid (HBX1.out.trans (hb.mono HBX1.out.size))
            clear hb y0 y1 y2 y3 HBX1
            obtain ⟨y0, y1, y2, y3⟩ := HCY.out _ HBX2.out
            go_wp2_with fail
            refine (HC1.out _ HBX2.out).mono ?_
            rintro _ wy3 ⟨rfl, hb⟩
            have HBX3 := Lib.hid (HBX2.out.trans (hb.mono HBX2.out.size))
            clear hb y0 y1 y2 y3 HBX2
            obtain ⟨y0, y1, y2, y3⟩ := HCY.out _ HBX3.out
            go_wp2_with fail
            refine (HC1.out _ HBX3.out).mono ?_
            rintro _ wy4 ⟨rfl, hb⟩
            have HBX4 := Lib.hid (HBX3.out.trans (hb.mono HBX3.out.size))
            clear hb y0 y1 y2 y3 HBX3
            obtain ⟨y0, y1, y2, y3⟩ := HCY.out _ HBX4.out
            go_wp2_with fail
            refine (HC2.out _ HBX4.out).mono ?_
            rintro _ wy5 ⟨rfl, hb⟩
            have HBX5 := Lib.hid (HBX4.out.trans (hb.mono HBX4.out.size))
            clear hb y0 y1 y2 y3 HBX4
            obtain ⟨y0, y1, y2, y3⟩ := HCY.out _ HBX5.out
            go_wp2_with fail
            refine (HC2.out _ HBX5.out).mono ?_
            rintro _ wy6 ⟨rfl, hb⟩
            have HBX6 := Lib.hid (HBX5.out.trans (hb.mono HBX5.out.size))
            clear hb y0 y1 y2 y3 HBX5
            obtain ⟨y0, y1, y2, y3⟩ := HCY.out _ HBX6.out
            go_wp2_with fail
            refine (HC1.out _ HBX6.out).mono ?_
            rintro _ wy7 ⟨rfl, hb⟩
            have HBX7 := Lib.hid (HBX6.out.trans (hb.mono HBX6.out.size))
            clear hb y0 y1 y2 y3 HBX6
            obtain ⟨y0, y1, y2, y3⟩ := HCY.out _ HBX7.out
            have HT7 := Lib.hid (HTX.out _ HBX7.out)
            clear y0 y1 y2 y3 HK1 HK2 HC1 HC2 HCY HTX HWX HYY HBX7
            go_wp2
            go_roundw
            case rel => exact ⟨j + 1, by omega, by go_num, HT7⟩
            case measure => simp [intOf]; omega
          · obtain ⟨y0, y1, y2, y3⟩ := HCY.out wx HBX0.out
            go_wp2_with fail
            rw [← HWX.out, ← HYY.out]
            clear c0 c1 c2 c3
            refine (HK1.out _ HBX0.out).mono ?_
            rintro _ wy1 ⟨rfl, hb⟩
            have HBX1 := Lib.hid (HBX0.out.trans (hb.mono HBX0.out.size))
            clear hb y0 y1 y2 y3 HBX0
            obtain ⟨y0, y1, y2, y3⟩ := HCY.out _ HBX1.out
            go_wp2_with fail
            refine (HK2.out _ HBX1.out).mono ?_
            rintro _ wy2 ⟨rfl, hb⟩
            have HBX2 := Lib.hid (HBX1.out.trans (hb.mono HBX1.out.size))
            clear hb y0 y1 y2 y3 HBX1
            obtain ⟨y0, y1, y2, y3⟩ := HCY.out _ HBX2.out
            go_wp2_with fail
            refine (HC1.out _ HBX2.out).mono ?_
            rintro _ wy3 ⟨rfl, hb⟩
            have HBX3 := Lib.hid (HBX2.out.trans (hb.mono HBX2.out.size))
            clear hb y0 y1 y2 y3 HBX2
            obtain ⟨y0, y1, y2, y3⟩ := HCY.out _ HBX3.out
            go_wp2_with fail
            refine (HC1.out _ HBX3.out).mono ?_
            rintro _ wy4 ⟨rfl, hb⟩
            have HBX4 := Lib.hid (HBX3.out.trans (hb.mono HBX3.out.size))
            clear hb y0 y1 y2 y3 HBX3
            obtain ⟨y0, y1, y2, y3⟩ := HCY.out _ HBX4.out
            go_wp2_with fail
            refine (HC2.out _ HBX4.out).mono ?_
            rintro _ wy5 ⟨rfl, hb⟩
            have HBX5 := Lib.hid (HBX4.out.trans (hb.mono HBX4.out.size))
            clear hb y0 y1 y2 y3 HBX4
            obtain ⟨y0, y1, y2, y3⟩ := HCY.out _ HBX5.out
            have HT7 := Lib.hid (HTX.out _ HBX5.out)
            clear y0 y1 y2 y3 HK1 HK2 HC1 HC2 HCY HTX HWX HYY HBX5
            go_wp2
            go_roundw
            case rel => exact ⟨j + 1, by omega, by go_num, HT7⟩
            case measure => simp [intOf]; omega
          · obtain ⟨y0, y1, y2, y3⟩ := HCY.out wx HBX0.out
            go_wp2_with fail
            rw [← HWX.out, ← HYY.out]
            clear c0 c1 c2 c3
            refine (HK1.out _ HBX0.out).mono ?_
            rintro _ wy1 ⟨rfl, hb⟩
            have HBX1 := Lib.hid (HBX0.out.trans (hb.mono HBX0.out.size))
            clear hb y0 y1 y2 y3 HBX0
            obtain ⟨y0, y1, y2, y3⟩ := HCY.out _ HBX1.out
            go_wp2_with fail
            refine (HC1.out _ HBX1.out).mono ?_
            rintro _ wy2 ⟨rfl, hb⟩
            have HBX2 := Lib.hid (HBX1.out.trans (hb.mono HBX1.out.size))
            clear hb y0 y1 y2 y3 HBX1
            obtain ⟨y0, y1, y2, y3⟩ := HCY.out _ HBX2.out
            go_wp2_with fail
            refine (HC2.out _ HBX2.out).mono ?_
            rintro _ wy3 ⟨rfl, hb⟩
            have HBX3 := Lib.hid (HBX2.out.trans (hb.mono HBX2.out.size))
            clear hb y0 y1 y2 y3 HBX2
            obtain ⟨y0, y1, y2, y3⟩ := HCY.out _ HBX3.out
            go_wp2_with fail
            refine (HC2.out _ HBX3.out).mono ?_
            rintro _ wy4 ⟨rfl, hb⟩
            have HBX4 := Lib.hid (HBX3.out.trans (hb.mono HBX3.out.size))
            clear hb y0 y1 y2 y3 HBX3
            obtain ⟨y0, y1, y2, y3⟩ := HCY.out _ HBX4.out
            go_wp2_with fail
            refine (HC1.out _ HBX4.out).mono ?_
            rintro _ wy5 ⟨rfl, hb⟩
            have HBX5 := Lib.hid (HBX4.out.trans (hb.mono HBX4.out.size))
            clear hb y0 y1 y2 y3 HBX4
            obtain ⟨y0, y1, y2, y3⟩ := HCY.out _ HBX5.out
            have HT7 := Lib.hid (HTX.out _ HBX5.out)
            clear y0 y1 y2 y3 HK1 HK2 HC1 HC2 HCY HTX HWX HYY HBX5
            go_wp2
            go_roundw
            case rel => exact ⟨j + 1, by omega, by go_num, HT7⟩
            case measure => simp [intOf]; omega
          · obtain ⟨y0, y1, y2, y3⟩ := HCY.out wx HBX0.out
            go_wp2_with fail
            rw [← HWX.out, ← HYY.out]
            clear c0 c1 c2 c3
            refine (HK1.out _ HBX0.out).mono ?_
            rintro _ wy1 ⟨rfl, hb⟩
            have HBX1 := Lib.hid (HBX0.out.trans (hb.mono HBX0.out.size))
            clear hb y0 y1 y2 y3 HBX0
            obtain ⟨y0, y1, y2, y3⟩ := HCY.out _ HBX1.out
            go_wp2_with fail
            refine (HC1.out _ HBX1.out).mono ?_
            rintro _ wy2 ⟨rfl, hb⟩
            have HBX2 := Lib.hid (HBX1.out.trans (hb.mono HBX1.out.size))
            clear hb y0 y1 y2 y3 HBX1
            obtain ⟨y0, y1, y2, y3⟩ := HCY.out _ HBX2.out
            go_wp2_with fail
            refine (HC2.out _ HBX2.out).mono ?_
            rintro _ wy3 ⟨rfl, hb⟩
            have HBX3 := Lib.hid (HBX2.out.trans (hb.mono HBX2.out.size))
            clear hb y0 y1 y2 y3 HBX2
            obtain ⟨y0, y1, y2, y3⟩ := HCY.out _ HBX3.out
            have HT7 := Lib.hid (HTX.out _ HBX3.out)
            clear y0 y1 y2 y3 HK1 HK2 HC1 HC2 HCY HTX HWX HYY HBX3
            go_wp2
            go_roundw
            case rel => exact ⟨j + 1, by omega, by go_num, HT7⟩
            case measure => simp [intOf]; omega
          · obtain ⟨y0, y1, y2, y3⟩ := HCY.out wx HBX0.out
            go_wp2_with fail
            rw [← HWX.out, ← HYY.out]
            clear c0 c1 c2 c3
            refine (HK1.out _ HBX0.out).mono ?_
            rintro _ wy1 ⟨rfl, hb⟩
            have HBX1 := Lib.hid (HBX0.out.trans (hb.mono HBX0.out.size))
            clear hb y0 y1 y2 y3 HBX0
            obtain ⟨y0, y1, y2, y3⟩ := HCY.out _ HBX1.out
            go_wp2_with fail
            refine (HC1.out _ HBX1.out).mono ?_
            rintro _ wy2 ⟨rfl, hb⟩
            have HBX2 := Lib.hid (HBX1.out.trans (hb.mono HBX1.out.size))
            clear hb y0 y1 y2 y3 HBX1
            obtain ⟨y0, y1, y2, y3⟩ := HCY.out _ HBX2.out
            have HT7 := Lib.hid (HTX.out _ HBX2.out)
            clear y0 y1 y2 y3 HK1 HK2 HC1 HC2 HCY HTX HWX HYY HBX2
            go_wp2
            go_roundw
            case rel => exact ⟨j + 1, by omega, by go_num, HT7⟩
            case measure => simp [intOf]; omega
          · obtain ⟨y0, y1, y2, y3⟩ := HCY.out wx HBX0.out
            go_wp2_with fail
            rw [← HWX.out, ← HYY.out]
            clear c0 c1 c2 c3
            refine (HK1.out _ HBX0.out).mono ?_
            rintro _ wy1 ⟨rfl, hb⟩
            have HBX1 := Lib.hid (HBX0.out.trans (hb.mono HBX0.out.size))
            clear hb y0 y1 y2 y3 HBX0
            obtain ⟨y0, y1, y2, y3⟩ := HCY.out _ HBX1.out
            go_wp2_with fail
            refine (HC1.out _ HBX1.out).mono ?_
            rintro _ wy2 ⟨rfl, hb⟩
            have HBX2 := Lib.hid (HBX1.out.trans (hb.mono HBX1.out.size))
            clear hb y0 y1 y2 y3 HBX1
            obtain ⟨y0, y1, y2, y3⟩ := HCY.out _ HBX2.out
            go_wp2_with fail
            refine (HC2.out _ HBX2.out).mono ?_
            rintro _ wy3 ⟨rfl, hb⟩
            have HBX3 := Lib.hid (HBX2.out.trans (hb.mono HBX2.out.size))
            clear hb y0 y1 y2 y3 HBX2
            obtain ⟨y0, y1, y2, y3⟩ := HCY.out _ HBX3.out
            have HT7 := Lib.hid (HTX.out _ HBX3.out)
            clear y0 y1 y2 y3 HK1 HK2 HC1 HC2 HCY HTX HWX HYY HBX3
            go_wp2
            go_roundw
            case rel => exact ⟨j + 1, by omega, by go_num, HT7⟩
            case measure => simp [intOf]; omega
          · obtain ⟨y0, y1, y2, y3⟩ := HCY.out wx HBX0.out
            go_wp2_with fail
            rw [← HWX.out, ← HYY.out]
            clear c0 c1 c2 c3
            refine (HK1.out _ HBX0.out).mono ?_
            rintro _ wy1 ⟨rfl, hb⟩
            have HBX1 := Lib.hid (HBX0.out.trans (hb.mono HBX0.out.size))
            clear hb y0 y1 y2 y3 HBX0
            obtain ⟨y0, y1, y2, y3⟩ := HCY.out _ HBX1.out
            go_wp2_with fail
            refine (HC1.out _ HBX1.out).mono ?_
            rintro _ wy2 ⟨rfl, hb⟩
            have HBX2 := Lib.hid (HBX1.out.trans (hb.mono HBX1.out.size))
            clear hb y0 y1 y2 y3 HBX1
            obtain ⟨y0, y1, y2, y3⟩ := HCY.out _ HBX2.out
            have HT7 := Lib.hid (HTX.out _ HBX2.out)
            clear y0 y1 y2 y3 HK1 HK2 HC1 HC2 HCY HTX HWX HYY HBX2
            go_wp2
            go_roundw
            case rel => exact ⟨j + 1, by omega, by go_num, HT7⟩
            case measure => simp [intOf]; omega
        · obtain rfl : j = n := by omega
          have hjl : ¬ (j : Int) < (j : Int) := by omega
          have HL1 : Hid (∀ W, Below wr.heap.size wr W → Calls Tryd.prog 20 #[.pointer (some ⟨g1, 0, none⟩)] W fun e w' => e = .returned (.int .i64 (s1.kn.length : Nat)) ∧ Below W.heap.size W w') := fun W hW => Len_any W F1 g1 d1 e1 T1 fz1 s1 (hs1.below hW)
          have HL2 : Hid (∀ W, Below wr.heap.size wr W → Calls Tryd.prog 20 #[.pointer (some ⟨g2, 0, none⟩)] W fun e w' => e = .returned (.int .i64 (s2.kn.length : Nat)) ∧ Below W.heap.size W w') := fun W hW => Len_any W F2 g2 d2 e2 T2 fz2 s2 (hs2.below hW)
          have hle : s1.kn.length ≤ s2.kn.length := nodup_le _ _ hn1 hsub
          have HBW := Lib.hid hbel
          generalize s1.kn.length = N1 at *
          generalize s2.kn.length = N2 at *
          have hle2 : decide (((N2 : Nat) : Int) ≥ ((N1 : Nat) : Int)) = true := decide_eq_true (by omega)
          have hle3 : ((N1 : Nat) : Int) ≤ ((N2 : Nat) : Int) := by omega
          clear hs1 hs2 hk1 hk2 hn1 hn2 hsub hbel HT6 hlt
          go_wp2_with fail
          refine (HL2.out _ (Below.refl _ _)).mono ?_
          rintro _ w9 ⟨rfl, hb9⟩
          have HB9 := Lib.hid hb9
          clear hb9 HL2
          go_wp2_with fail
          refine (HL1.out _ HB9.out).mono ?_
          rintro _ w10 ⟨rfl, hb10⟩
          have HB10 := Lib.hid (HB9.out.trans (hb10.mono HB9.out.size))
          clear hb10 HL1
          go_wp2
          go_ret
          exact ⟨by simp, HB0.out.trans ((HBW.out.trans (HB10.out.mono HBW.out.size)).mono HB0.out.size)⟩
end Go.Proofs.YtiidooponlbnmaaDoor.Kn
