/- The law KnowOrder, walked. (Laid with NS=1.) -/
import Derived.Test.YtiidooponlbnmaaDoorKnL0
import Derived.Test.YtiidooponlbnmaaDoorKnW12
namespace Go.Proofs.YtiidooponlbnmaaDoor.Kn
open Go.RowKit Go.Sort
open Te Te.Tt
open Go (Lit DataW MemPlace keyOf maxLen)

theorem szs_le_bks : ∀ l : List Tm, Te.Tt.szs l ≤ Te.Tt.bks l
  | [] => by simp [Te.Tt.szs]
  | x :: r => by
    have h1 := sz_le_bk x
    have h2 := szs_le_bks r
    rw [Te.Tt.szs, Te.Tt.bks]
    omega

set_option maxHeartbeats 8000000 in
set_option maxRecDepth 100000 in
theorem knowOrder_walk (l : List Tm) (A : Option Addr) (ca : Nat) (q : List Tm) (B : Option Addr) (cb : Nat) (V : World) (hkl : Te.Tt.bks l ≤ 1048576) (hkq : Te.Tt.bks q ≤ 1048576) (hrl : TRow V (Lo V) l A) (hrq : TRow V (Lo V) q B) (htab : TabB V.heap.size V) :
    Calls Tryd.prog 4 #[.slice A l.length ca, .slice B q.length cb] V fun e w' => e = .returned (.bool true) ∧ Below V.heap.size V w' := by
  have h1 := szs_le_bks l
  have h2 := szs_le_bks q
  have HOL : Hid (∀ W, Below V.heap.size V W → Calls Tryd.prog 9 #[.slice A l.length ca] W fun e w' => e = .returned (.bool (decide (120 < 1 + Te.Tt.szs l))) ∧ Below W.heap.size W w') := fun W hW =>
    over_any l A ca (Lo V) W (by omega) (trow_below hrl hW (fun _ h => h)) (fun i hi => Nat.lt_of_lt_of_le hi hW.size)
  have HOQ : Hid (∀ W, Below V.heap.size V W → Calls Tryd.prog 9 #[.slice B q.length cb] W fun e w' => e = .returned (.bool (decide (120 < 1 + Te.Tt.szs q))) ∧ Below W.heap.size W w') := fun W hW =>
    over_any q B cb (Lo V) W (by omega) (trow_below hrq hW (fun _ h => h)) (fun i hi => Nat.lt_of_lt_of_le hi hW.size)
  obtain ⟨o1, ho1⟩ : ∃ o1, o1 = decide (120 < 1 + Te.Tt.szs l) := ⟨_, rfl⟩
  obtain ⟨o2, ho2⟩ : ∃ o2, o2 = decide (120 < 1 + Te.Tt.szs q) := ⟨_, rfl⟩
  rw [← ho1] at HOL
  rw [← ho2] at HOQ
  have HO1 := Lib.hid ho1
  have HO2 := Lib.hid ho2
  have HRL := Lib.hid hrl
  have HRQ := Lib.hid hrq
  have HT := Lib.hid htab
  obtain ⟨m, hm⟩ : ∃ m, m = l.length := ⟨_, rfl⟩
  obtain ⟨n, hn⟩ : ∃ n, n = q.length := ⟨_, rfl⟩
  rw [← hm] at HOL ⊢
  rw [← hn] at HOQ ⊢
  have HM := Lib.hid hm
  have HN := Lib.hid hn
  have HWK := Lib.hid (worksK_any V htab)
  clear h1 h2 hkl hkq hrl hrq htab ho1 ho2 hm hn
  go_enter Tryd.func4, Tryd.ntmps4
  go_wp2_with fail
  refine HWK.out.mono ?_
  rintro _ w1 ⟨rfl, b1⟩
  have HB1 := Lib.hid b1
  clear b1 HWK
  go_wp2_with fail
  refine (HOL.out w1 HB1.out).mono ?_
  rintro _ w2 ⟨rfl, b2⟩
  have HB2 := Lib.hid (HB1.out.trans (b2.mono HB1.out.size))
  clear b2 HOL HB1
  cases o1
  case true =>
    go_wp2
    go_ret
    exact ⟨rfl, HB2.out⟩
  case false =>
  go_wp2_with fail
  refine (HOQ.out w2 HB2.out).mono ?_
  rintro _ w3 ⟨rfl, b3⟩
  have HB3 := Lib.hid (HB2.out.trans (b3.mono HB2.out.size))
  clear b3 HOQ HB2
  cases o2
  case true =>
    go_wp2
    go_ret
    exact ⟨rfl, HB3.out⟩
  case false =>
  have HSL : Hid (Te.Tt.szs l ≤ 119) := by have := HO1.out; rw [eq_comm, decide_eq_false_iff_not] at this; rw [Hid]; omega
  have HSQ : Hid (Te.Tt.szs q ≤ 119) := by have := HO2.out; rw [eq_comm, decide_eq_false_iff_not] at this; rw [Hid]; omega
  have hm119 : m ≤ 119 := by have h1 := szs_len l; have h2 := HSL.out; have h3 := HM.out; omega
  have hn119 : n ≤ 119 := by have h1 := szs_len q; have h2 := HSQ.out; have h3 := HN.out; omega
  clear HO1 HO2
  go_wp2_with fail
  refine (New_any w3).mono ?_
  rintro _ w4 ⟨g1, d1, e1, rfl, hs4, b4⟩
  have HS4 := Lib.hid hs4
  have HB4 := Lib.hid b4
  clear hs4 b4
  go_wp2_with fail
  refine (New_any w4).mono ?_
  rintro _ w5 ⟨g2, d2, e2, rfl, hs5, b5⟩
  have HTW : Hid (Two V g1 d1 e1 g2 d2 e2 (hs (l.take 0)) (hs (l.drop (m - 0))) (120 * 0) (120 * 0) w5) :=
    ⟨_, _, ⟨_, _, _, HS4.out.below b5, Inv.start.congr (fun y => by simp), fun i hi => Nat.le_trans HB3.out.size hi.1, by decide⟩, ⟨_, _, _, hs5, Inv.start.congr (fun y => by simp [HM.out]), fun i hi => Nat.le_trans HB3.out.size (Nat.le_trans HB4.out.size hi.1), by decide⟩, fun i hi h => by omega, HB3.out.trans ((HB4.out.trans (b5.mono HB4.out.size)).mono HB3.out.size)⟩
  clear hs5 b5 HS4 HB4 HB3
  go_wp2_with fail
  go_loopw [8] (fun iv wr => ∃ i : Nat, i ≤ m ∧ iv = .int .i64 (i : Nat) ∧ Hid (Two V g1 d1 e1 g2 d2 e2 (hs (l.take i)) (hs (l.drop (m - i))) (120 * i) (120 * i) wr)) (fun iv _ => m - (intOf iv).toNat)
  case atStart => exact ⟨0, by omega, rfl, HTW⟩
  case round =>
    obtain ⟨i, hi, rfl, HT2⟩ := hrel
    by_cases hlt : i < m
    · have hil : (i : Int) < (m : Int) := by omega
      have hlt1 : i < l.length := by have := HM.out; omega
      have hbel := HT2.out.bel
      obtain ⟨b, o, k, s, p, y, C, cy, hA, hSb, hx, c0, c1, c2, c3, hrep⟩ := trow_get HRL.out hbel (fun _ h => h) hlt1
      subst hA
      have hszx : sz (.mk k s p y) ≤ 119 := by
        have h1 := szs_mem l _ (List.getElem_mem hlt1)
        rw [hx] at h1
        have := HSL.out
        omega
      have hL1 := HT2.out.learn HT.out (.mk k s p y) (Lo V) _ hrep (fun i hi => Nat.lt_of_lt_of_le hi hbel.size) (120 * (i + 1)) (by omega) (by omega)
      obtain ⟨j, hj⟩ : ∃ j, j = m - 1 - i := ⟨_, rfl⟩
      have hjm : j < m := by omega
      have hlt2 : j < l.length := by have := HM.out; omega
      have hx1 : l.take (i + 1) = l.take i ++ [.mk k s p y] := by rw [List.take_succ_eq_append_getElem hlt1, hx]
      have HL1 := Lib.hid hL1
      have HX1 := Lib.hid hx1
      clear hL1 hx hx1 hrep hbel hszx
      go_wp2_with fail
      refine HL1.out.mono ?_
      rintro _ w6 ⟨rfl, ht6⟩
      clear HL1 c0 c1 c2 c3
      obtain ⟨b', o', k', s', p', y', C', cy', hA, hSb', hx', c0, c1, c2, c3, hrep⟩ := trow_get HRL.out ht6.bel (fun _ h => h) hlt2
      injection hA with hA
      injection hA with e1' e2'
      subst e1' e2'
      have hszx : sz (.mk k' s' p' y') ≤ 119 := by
        have h1 := szs_mem l _ (List.getElem_mem hlt2)
        rw [hx'] at h1
        have := HSL.out
        omega
      have hL2 := ht6.flip.learn HT.out (.mk k' s' p' y') (Lo V) _ hrep (fun i hi => Nat.lt_of_lt_of_le hi ht6.bel.size) (120 * (i + 1)) (by omega) (by omega)
      have hx2 : l.drop (m - (i + 1)) = .mk k' s' p' y' :: l.drop (m - i) := by
        have e : m - (i + 1) = j := by omega
        rw [e, List.drop_eq_getElem_cons hlt2, hx', show j + 1 = m - i by omega]
      have hji : ((m : Nat) : Int) - 1 - (i : Nat) = (j : Nat) := by omega
      have hm1 : (((m - 1 : Nat) : Nat) : Int) = (m : Nat) - 1 := by omega
      have hj0 : (0 : Int) ≤ ((m : Nat) : Int) - 1 - (i : Nat) := by omega
      have hjl : ((m : Nat) : Int) - 1 - (i : Nat) < (m : Nat) := by omega
      have HL2 := Lib.hid hL2
      have HX2 := Lib.hid hx2
      clear hL2 hx' hx2 hrep hszx ht6 hj hjm hm1
      go_wp2_with fail
      refine HL2.out.mono ?_
      rintro _ w7 ⟨rfl, ht7⟩
      have HT7 := Lib.hid (ht7.flip.congr (hs_step _ _ _ (fun z => by show _ ↔ (z ∈ l.take (i + 1) ∧ vld 0 z = true); rw [HX1.out, List.mem_append, List.mem_singleton])) (hs_step _ _ _ (fun z => by show _ ↔ (z ∈ l.drop (m - (i + 1)) ∧ vld 0 z = true); rw [HX2.out, List.mem_cons, or_comm])) (Nat.le_refl _) (Nat.le_refl _))
      clear ht7 HL2 c0 c1 c2 c3 HX1 HX2
      go_wp2
      go_roundw
      case rel => exact ⟨i + 1, by omega, by go_num, HT7⟩
      case measure => simp [intOf]; omega
    · obtain rfl : i = m := by omega
      have HT3 : Hid (Two V g1 d1 e1 g2 d2 e2 (hs l) (hs l) (120 * i) (120 * i + 120 * 0) wr) := HT2.out.congr (fun y => by rw [List.take_of_length_le (by have := HM.out; omega)]) (fun y => by rw [Nat.sub_self, List.drop_zero]) (Nat.le_refl _) (by omega)
      have hil : ¬ (i : Int) < (i : Int) := by omega
      clear HT2 HTW hlt
      go_wp2_with fail
      go_loopw [9] (fun iv wr => ∃ j : Nat, j ≤ i ∧ iv = .int .i64 (j : Nat) ∧ Hid (Two V g1 d1 e1 g2 d2 e2 (hs l) (hs l) (120 * i) (120 * i + 120 * j) wr)) (fun iv _ => i - (intOf iv).toNat)
      case atStart => exact ⟨0, by omega, rfl, HT3⟩
      case round =>
        obtain ⟨j, hj, rfl, HT4⟩ := hrel
        by_cases hlt : j < i
        · have hjl : (j : Int) < (i : Int) := by omega
          have hlt1 : j < l.length := by have := HM.out; omega
          have hbel := HT4.out.bel
          obtain ⟨b, o, k, s, p, y, C, cy, hA, hSb, hx, c0, c1, c2, c3, hrep⟩ := trow_get HRL.out hbel (fun _ h => h) hlt1
          subst hA
          have hmem := List.getElem_mem hlt1
          rw [hx] at hmem
          have hszx : sz (.mk k s p y) ≤ 119 := by
            have h1 := szs_mem l _ hmem
            have := HSL.out
            omega
          have hL1 := HT4.out.flip.learn HT.out (.mk k s p y) (Lo V) _ hrep (fun i hi => Nat.lt_of_lt_of_le hi hbel.size) (120 * i + 120 * (j + 1)) (by omega) (by omega)
          have HL1 := Lib.hid hL1
          have HX1 := Lib.hid hmem
          clear hL1 hx hmem hrep hbel hszx
          go_wp2_with fail
          refine HL1.out.mono ?_
          rintro _ w7 ⟨rfl, ht7⟩
          have HT7 := Lib.hid (ht7.flip.congr (fun z => Iff.rfl) (hs_step _ _ (hs l) (fun z => by
            show _ ↔ (z ∈ l ∧ vld 0 z = true)
            constructor
            · rintro ⟨h1 | h1, h2⟩
              · exact ⟨h1, h2⟩
              · rw [h1]; exact ⟨HX1.out, by rw [← h1]; exact h2⟩
            · rintro ⟨h1, h2⟩
              exact ⟨.inl h1, h2⟩)) (Nat.le_refl _) (Nat.le_refl _))
          clear ht7 HL1 c0 c1 c2 c3 HX1
          go_wp2
          go_roundw
          case rel => exact ⟨j + 1, by omega, by go_num, HT7⟩
          case measure => simp [intOf]; omega
        · obtain rfl : j = i := by omega
          have hil : ¬ (j : Int) < (j : Int) := by omega
          clear hlt HT3
          go_wp2_with fail
          go_loopw [10] (fun iv wr => ∃ i : Nat, i ≤ n ∧ iv = .int .i64 (i : Nat) ∧ Hid (Two V g1 d1 e1 g2 d2 e2 (hs l) (hs l) (120 * j) (120 * j + 120 * j) wr)) (fun iv _ => n - (intOf iv).toNat)
          case atStart => exact ⟨0, by omega, rfl, HT4⟩
          case round =>
            obtain ⟨i, hi, rfl, HT5⟩ := hrel
            obtain ⟨F1, T1, fz1, s1, F2, T2, fz2, s2, hs1, hs2, hk1, hk2, hn1, hn2⟩ := HT5.out.known
            have hke : ∀ x, x ∈ s1.kn ↔ x ∈ s2.kn := fun x => (hk1 x).trans (hk2 x).symm
            have HKE := Lib.hid hke
            have HS1 := Lib.hid hs1
            have HS2 := Lib.hid hs2
            have hbel := HT5.out.bel
            have HTW' : Hid (TabB wr.heap.size wr) := HT.out.up hbel
            have HNL : Hid (s1.kn.length = s2.kn.length) := nodup_len hn1 hn2 hke
            by_cases hlt : i < n
            · have hil : (i : Int) < (n : Int) := by omega
              have hlt1 : i < q.length := by have := HN.out; omega
              obtain ⟨b, o, k, s, p, y, C, cy, hA, hSb, hx, c0, c1, c2, c3, hrep⟩ := trow_get HRQ.out hbel (fun _ h => h) hlt1
              subst hA
              have hszx : sz (.mk k s p y) ≤ 262144 := by
                have h1 := szs_mem q _ (List.getElem_mem hlt1)
                rw [hx] at h1
                have := HSQ.out
                omega
              have hlo : ∀ b, Lo V b → b < wr.heap.size := fun b hb => Nat.lt_of_lt_of_le hb hbel.size
              obtain ⟨a1, ha1⟩ : ∃ a1, a1 = (vld 0 (.mk k s p y) && decide (Tm.mk k s p y ∈ s1.kn)) := ⟨_, rfl⟩
              obtain ⟨a2, ha2⟩ : ∃ a2, a2 = (vld 0 (.mk k s p y) && can s1.kn (.mk k s p y)) := ⟨_, rfl⟩
              have ha1' : (vld 0 (.mk k s p y) && decide (Tm.mk k s p y ∈ s2.kn)) = a1 := by rw [ha1]; simp [hke]
              have ha2' : (vld 0 (.mk k s p y) && can s2.kn (.mk k s p y)) = a2 := by rw [ha2, can_congr hke]
              have kK1 : ∀ d os, Calls Tryd.prog 16 #[.pointer (some ⟨g1, 0, none⟩), .agg #[.int .i64 k, .string ⟨⟨s⟩⟩, .int .i64 p, .slice C y.length cy]] (Go.Sort.grow (redrawn wr d) os) fun e w'' => e = .returned (.bool a1) ∧ ∃ p : Regrown, w'' = Go.Sort.grow (redrawn wr p.d) p.os := fun d os => by
                rw [ha1]
                exact Calls.regrown_of (Knows_any _ F1 g1 d1 e1 T1 fz1 s1 (hs1.below (below_regrown wr d os)) (HTW'.out.up (below_regrown wr d os)) _ (Lo V) _ (rep_below hrep (below_regrown wr d os) hlo) (fun i hi => Nat.lt_of_lt_of_le (hlo i hi) (below_regrown wr d os).size) hszx)
              have kK2 : ∀ d os, Calls Tryd.prog 16 #[.pointer (some ⟨g2, 0, none⟩), .agg #[.int .i64 k, .string ⟨⟨s⟩⟩, .int .i64 p, .slice C y.length cy]] (Go.Sort.grow (redrawn wr d) os) fun e w'' => e = .returned (.bool a1) ∧ ∃ p : Regrown, w'' = Go.Sort.grow (redrawn wr p.d) p.os := fun d os => by
                rw [← ha1']
                exact Calls.regrown_of (Knows_any _ F2 g2 d2 e2 T2 fz2 s2 (hs2.below (below_regrown wr d os)) (HTW'.out.up (below_regrown wr d os)) _ (Lo V) _ (rep_below hrep (below_regrown wr d os) hlo) (fun i hi => Nat.lt_of_lt_of_le (hlo i hi) (below_regrown wr d os).size) hszx)
              have kC1 : ∀ d os, Calls Tryd.prog 17 #[.pointer (some ⟨g1, 0, none⟩), .agg #[.int .i64 k, .string ⟨⟨s⟩⟩, .int .i64 p, .slice C y.length cy]] (Go.Sort.grow (redrawn wr d) os) fun e w'' => e = .returned (.bool a2) ∧ ∃ p : Regrown, w'' = Go.Sort.grow (redrawn wr p.d) p.os := fun d os => by
                rw [ha2]
                exact Calls.regrown_of (Can_any _ F1 g1 d1 e1 T1 fz1 s1 (hs1.below (below_regrown wr d os)) (HTW'.out.up (below_regrown wr d os)) _ (Lo V) _ (rep_below hrep (below_regrown wr d os) hlo) (fun i hi => Nat.lt_of_lt_of_le (hlo i hi) (below_regrown wr d os).size) hszx)
              have kC2 : ∀ d os, Calls Tryd.prog 17 #[.pointer (some ⟨g2, 0, none⟩), .agg #[.int .i64 k, .string ⟨⟨s⟩⟩, .int .i64 p, .slice C y.length cy]] (Go.Sort.grow (redrawn wr d) os) fun e w'' => e = .returned (.bool a2) ∧ ∃ p : Regrown, w'' = Go.Sort.grow (redrawn wr p.d) p.os := fun d os => by
                rw [← ha2']
                exact Calls.regrown_of (Can_any _ F2 g2 d2 e2 T2 fz2 s2 (hs2.below (below_regrown wr d os)) (HTW'.out.up (below_regrown wr d os)) _ (Lo V) _ (rep_below hrep (below_regrown wr d os) hlo) (fun i hi => Nat.lt_of_lt_of_le (hlo i hi) (below_regrown wr d os).size) hszx)
              have i0 := cell_regrown c0
              have i1 := cell_regrown c1
              have i2 := cell_regrown c2
              have i3 := cell_regrown c3
              have HKS := Lib.hid (And.intro kK1 (And.intro kK2 (And.intro kC1 kC2)))
              clear ha1 ha2 ha1' ha2' hs1 hs2 hk1 hk2 hn1 hn2 hke hx hszx hlo hrep hbel kK1 kK2 kC1 kC2 i0 i1 i2 i3
              go_wp2_with fail
              have i0 := cell_regrown c0
              have i1 := cell_regrown c1
              have i2 := cell_regrown c2
              have i3 := cell_regrown c3
              obtain ⟨kK1, kK2, kC1, kC2⟩ := HKS.out
              refine wp_region_quiet_below (by kernel_rfl) (by kernel_rfl) ?_
              repeat (quiet_step (first | with_reducible exact kK1 _ _ | with_reducible exact kK2 _ _ | with_reducible exact kC1 _ _ | with_reducible exact kC2 _ _))
              refine wpQuiet_nil ?_
              intro _ hw'
              obtain ⟨⟨dq, osq⟩, hw''⟩ := hw'
              subst hw''
              have HT6 := Lib.hid (HT5.out.below (below_regrown wr dq osq))
              clear i0 i1 i2 i3 kK1 kK2 kC1 kC2 c0 c1 c2 c3 HKS HS1 HS2 HNL HKE HTW'
              generalize Go.Sort.grow (redrawn wr dq) osq = w8 at *
              go_wp2
              go_roundw
              case rel => exact ⟨i + 1, by omega, by go_num, HT6⟩
              case measure => simp [intOf]; omega
            · obtain rfl : i = n := by omega
              have hil : ¬ (i : Int) < (i : Int) := by omega
              have HL1 : Hid (∀ W, Below wr.heap.size wr W → Calls Tryd.prog 20 #[.pointer (some ⟨g1, 0, none⟩)] W fun e w' => e = .returned (.int .i64 (s1.kn.length : Nat)) ∧ Below W.heap.size W w') := fun W hW => Len_any W F1 g1 d1 e1 T1 fz1 s1 (HS1.out.below hW)
              have HL2 : Hid (∀ W, Below wr.heap.size wr W → Calls Tryd.prog 20 #[.pointer (some ⟨g2, 0, none⟩)] W fun e w' => e = .returned (.int .i64 (s1.kn.length : Nat)) ∧ Below W.heap.size W w') := fun W hW => by
                have h := Len_any W F2 g2 d2 e2 T2 fz2 s2 (HS2.out.below hW)
                rw [← HNL.out] at h
                exact h
              have HBW := Lib.hid hbel
              generalize s1.kn.length = N1 at *
              clear hs1 hs2 hk1 hk2 hn1 hn2 hke hbel HS1 HS2 HKE HNL HT5 HTW' hlt
              go_wp2_with fail
              refine (HL1.out _ (Below.refl _ _)).mono ?_
              rintro _ w8 ⟨rfl, hb8⟩
              have HB8 := Lib.hid hb8
              clear hb8 HL1
              go_wp2_with fail
              refine (HL2.out _ HB8.out).mono ?_
              rintro _ w9 ⟨rfl, hb9⟩
              have HB9 := Lib.hid (HB8.out.trans (hb9.mono HB8.out.size))
              clear hb9 HL2
              go_wp2
              go_ret
              exact ⟨by simp, HBW.out.trans (HB9.out.mono HBW.out.size)⟩
end Go.Proofs.YtiidooponlbnmaaDoor.Kn
