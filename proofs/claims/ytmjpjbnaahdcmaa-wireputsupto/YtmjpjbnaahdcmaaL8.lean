import Derived.Test.YtmjpjbnaahdcmaaL7
import Derived.StillTailTactics
namespace Go.Proofs.Ytmjpjbnaahdcmaa
open Go.RowKit
open Wr

set_option maxHeartbeats 1000000 in
set_option maxRecDepth 100000 in
theorem rvalid_any (x : It) (S : Nat → Prop) (v : Value) (w : World) (hk : bk x ≤ 100000) (hrep : Rep w S x v) (hS : ∀ b, S b → b < w.heap.size) :
    Calls Try.prog 14 #[v] w fun e w' => e = .returned (.bool (sz x 0).isSome) ∧ Below w.heap.size w w' := by
  obtain ⟨R, hR⟩ : ∃ R, R = (sz x 0).isSome := ⟨_, rfl⟩
  rw [← hR]
  rw [valid_eq] at hR
  obtain ⟨n, t, s, l⟩ := x
  obtain ⟨A, ca, rfl, hrow⟩ := rep_mk.1 hrep
  have H0 := Lib.hid (Hold.new hrep hS)
  have B0 : Hid (Below w.heap.size w (w.alloc (.cells #[.bool n, .int .i64 t, .string ⟨⟨s⟩⟩, .slice A l.length ca] 24))) := (Below.refl _ _).alloc (Nat.le_refl _) _
  have hwl := wr_bk _ (show bk (.mk n t s l) ≤ 500000 by omega)
  have HR := Lib.hid hR
  clear hR hrep hrow hS
  go_enter Try.func14, Try.ntmps14
  go_wp2_with fail
  refine (shape_any (.mk n t s l) 0 0 S _ _ rfl (by omega) (by omega) H0.out.rep H0.out.low).mono ?_
  rintro _ w1 ⟨rfl, hb1⟩
  have H1 := Lib.hid (H0.out.below hb1)
  have B1 := Lib.hid (B0.out.trans (hb1.mono B0.out.size))
  clear hb1
  obtain ⟨q0, q1, q2, q3⟩ := H1.out.cells
  cases hsh : sh (.mk n t s l) 0 with
  | false =>
    have HF : Hid (R = false) := by show _ = _; rw [HR.out, hsh]; rfl
    clear hsh HR
    go_wp2
    go_ret
    exact ⟨by rw [HF.out]; rfl, B1.out⟩
  | true =>
    have HF : Hid (R = decide ((wr (.mk n t s l)).length ≤ 65536)) := by show _ = _; rw [HR.out, hsh]; rfl
    have HSH := Lib.hid hsh
    clear hsh HR
    go_wp2_with fail
    refine (writeRef_any (.mk n t s l) 0 S _ _ HSH.out hk H1.out.rep H1.out.low).mono ?_
    rintro _ w2 ⟨rfl, hb2⟩
    have B2 := Lib.hid (B1.out.trans (hb2.mono B1.out.size))
    clear hb2
    generalize wr (.mk n t s l) = out at *
    by_cases h : out.length ≤ 65536
    · have h' : (out.length : Int) ≤ 65536 := by omega
      have HF2 : Hid (R = true) := by show _ = _; rw [HF.out]; simp [h]
      clear h HF
      go_wp2
      go_ret
      exact ⟨by rw [HF2.out]; rfl, B2.out⟩
    · have h' : (65536 : Int) < (out.length : Int) := by omega
      have HF2 : Hid (R = false) := by show _ = _; rw [HF.out]; simp [h]
      clear h HF
      go_wp2
      go_ret
      exact ⟨by rw [HF2.out]; simp; omega, B2.out⟩

set_option maxHeartbeats 1000000 in
set_option maxRecDepth 100000 in
theorem rput_any (x : It) (S : Nat → Prop) (v : Value) (w : World) (hk : bk x ≤ 100000) (hrep : Rep w S x v) (hS : ∀ b, S b → b < w.heap.size) :
    Calls Try.prog 12 #[v] w fun e w' => (e = if (sz x 0).isSome then .returned (.tuple #[.string ⟨⟨wr x⟩⟩, .int .i64 0]) else .returned (.tuple #[.string ⟨⟨[]⟩⟩, .int .i64 1])) ∧ Below w.heap.size w w' := by
  have hval := rvalid_any x S
  obtain ⟨n, t, s, l⟩ := x
  obtain ⟨A, ca, rfl, hrow⟩ := rep_mk.1 hrep
  have H0 := Lib.hid (Hold.new hrep hS)
  have B0 : Hid (Below w.heap.size w (w.alloc (.cells #[.bool n, .int .i64 t, .string ⟨⟨s⟩⟩, .slice A l.length ca] 24))) := (Below.refl _ _).alloc (Nat.le_refl _) _
  have HV := Lib.hid hval
  clear hrep hrow hS hval
  cases hz : sz (.mk n t s l) 0 with
  | none =>
    simp only [Option.isSome_none, Bool.false_eq_true, if_false]
    have HZ := Lib.hid hz
    clear hz
    go_enter Try.func12, Try.ntmps12
    go_wp2_with fail
    refine (HV.out _ _ hk H0.out.rep H0.out.low).mono ?_
    rintro _ w1 ⟨rfl, hb1⟩
    rw [HZ.out]
    simp only [Option.isSome_none]
    have B1 := Lib.hid (B0.out.trans (hb1.mono B0.out.size))
    clear hb1
    go_wp2
    go_ret2
    exact ⟨rfl, B1.out⟩
  | some m =>
    simp only [Option.isSome_some, if_true]
    have hsh := sz_sh _ _ _ hz
    have HZ := Lib.hid hz
    have HSH := Lib.hid hsh
    obtain ⟨out, hout⟩ : ∃ out, out = wr (.mk n t s l) := ⟨_, rfl⟩
    rw [← hout]
    have HO := Lib.hid hout
    clear hz hsh hout
    go_enter Try.func12, Try.ntmps12
    go_wp2_with fail
    refine (HV.out _ _ hk H0.out.rep H0.out.low).mono ?_
    rintro _ w1 ⟨rfl, hb1⟩
    rw [HZ.out]
    simp only [Option.isSome_some]
    have B1 := Lib.hid (B0.out.trans (hb1.mono B0.out.size))
    have H1 := Lib.hid (H0.out.below hb1)
    clear hb1
    obtain ⟨q0, q1, q2, q3⟩ := H1.out.cells
    go_wp2_with fail
    refine (writeRef_any (.mk n t s l) 0 S _ _ HSH.out hk H1.out.rep H1.out.low).mono ?_
    rintro _ w2 ⟨rfl, hb2⟩
    rw [← HO.out]
    have B2 := Lib.hid (B1.out.trans (hb2.mono B1.out.size))
    clear hb2
    go_wp2
    go_ret2
    exact ⟨rfl, B2.out⟩

def RsameSaid (x : It) : Prop := ∀ (y : It) (S T : Nat → Prop) (vx vy : Value) (w : World), bk x ≤ 2000000 → Rep w S x vx → Rep w T y vy → (∀ b, S b → b < w.heap.size) → (∀ b, T b → b < w.heap.size) →
  Calls Try.prog 13 #[vx, vy] w fun e w' => e = .returned (.bool (eqB x y)) ∧ Below w.heap.size w w'

set_option maxHeartbeats 2000000 in
set_option maxRecDepth 100000 in
theorem rsame_any : ∀ x, RsameSaid x := It.ind (by
  intro n t s l ih y S T vx vy w hk hrx hry hS hT
  obtain ⟨n', t', s', l'⟩ := y
  obtain ⟨A, ca, rfl, ha⟩ := rep_mk.1 hrx
  obtain ⟨B, cb, rfl, hb⟩ := rep_mk.1 hry
  rw [bk] at hk
  have hll := bks_len l
  obtain ⟨R, hR⟩ : ∃ R, R = eqB (.mk n t s l) (.mk n' t' s' l') := ⟨_, rfl⟩
  rw [← hR]
  have HR := Lib.hid hR
  have hX0 := Hold.new hrx hS
  have HX := Lib.hid (hX0.alloc (.cells #[.bool n', .int .i64 t', .string ⟨⟨s'⟩⟩, .slice B l'.length cb] 24))
  have HY := Lib.hid (Hold.new (rep_alloc (S' := T) hry (.cells #[.bool n, .int .i64 t, .string ⟨⟨s⟩⟩, .slice A l.length ca] 24) (fun c hc => ⟨hT c hc, hc⟩)) (fun c hc => by have := hT c hc; simp; omega))
  have HBL : Hid (Below w.heap.size w ((w.alloc (.cells #[.bool n, .int .i64 t, .string ⟨⟨s⟩⟩, .slice A l.length ca] 24)).alloc (.cells #[.bool n', .int .i64 t', .string ⟨⟨s'⟩⟩, .slice B l'.length cb] 24))) := ((Below.refl _ _).alloc (Nat.le_refl _) _).alloc (by simp) _
  have HS := Lib.hid hS
  have HT := Lib.hid hT
  have HA := Lib.hid ha
  have HB := Lib.hid hb
  have HIH := Lib.hid ih
  clear hR ih ha hb hS hT hX0 hrx hry
  by_cases h1 : n = n'
  · subst h1
    have hn1 : (n != n) = false := by simp
    by_cases h2 : t = t'
    · subst h2
      by_cases h3 : s = s'
      · subst h3
        by_cases h4 : l.length = l'.length
        · have HF : Hid (R = @decide (l = l') (Classical.propDecidable _)) := by
            show _ = _
            rw [HR.out]
            by_cases h : l = l'
            · subst h
              rw [eqB_true.2 rfl]
              exact (@decide_eq_true _ (Classical.propDecidable _) rfl).symm
            · rw [eqB_false.2 (fun e => h (by injection e))]
              exact (@decide_eq_false _ (Classical.propDecidable _) h).symm
          have H4 := Lib.hid h4
          clear HR
          rw [← h4] at HX HY HBL ⊢
          clear h4
          obtain ⟨W, hW⟩ : ∃ W, W = (w.alloc (.cells #[.bool n, .int .i64 t, .string ⟨⟨s⟩⟩, .slice A l.length ca] 24)).alloc (.cells #[.bool n, .int .i64 t, .string ⟨⟨s⟩⟩, .slice B l.length cb] 24) := ⟨_, rfl⟩
          have hWs : W.heap.size = w.heap.size + 2 := by rw [hW]; simp
          have HXW : Hid (Hold W S w.heap.size n t s l A ca) := by rw [hW]; exact HX.out
          have HYW : Hid (Hold W T (w.heap.size + 1) n t s l' B cb) := by
            have h := HY.out
            simp only [World.size_alloc] at h
            rw [hW]
            exact Lib.hid h
          have HBW : Hid (Below w.heap.size w W) := by rw [hW]; exact HBL.out
          have HW := Lib.hid hW
          have HWS := Lib.hid hWs
          clear hW hWs
          go_enter Try.func13, Try.ntmps13
          go_wp2
          go_loopw [5] (fun iv wr => ∃ i : Nat, iv = .int .i64 i ∧ i ≤ l.length ∧ Hid (∀ j, j < i → l[j]? = l'[j]?) ∧ Below W.heap.size W wr) (fun iv _ => l.length - (intOf iv).toNat)
          case atStart => exact ⟨0, rfl, by omega, Lib.hid (by simp), by rw [← HW.out]; exact Below.refl _ _⟩
          case round =>
            obtain ⟨i, rfl, hi, HE, hb⟩ := hrel
            have hXr := HXW.out.below hb
            have hYr := HYW.out.below hb
            obtain ⟨c0, c1, c2, c3⟩ := hXr.cells
            obtain ⟨g0, g1, g2, g3⟩ := hYr.cells
            rw [← H4.out] at g3
            have hbw : Below w.heap.size w wr := HBW.out.trans (hb.mono (by have := HWS.out; omega))
            have HXR := Lib.hid hXr
            have HYR := Lib.hid hYr
            clear hXr hYr
            by_cases hlt : i < l.length
            · have hltm : i < l'.length := by have := H4.out; omega
              have hgi : l[i]? = some l[i] := List.getElem?_eq_getElem hlt
              have hgm : l'[i]? = some l'[i] := List.getElem?_eq_getElem hltm
              rcases HA.out with h | ⟨b, o, rfl, hSb, hreps⟩
              · rw [h] at hlt; simp at hlt
              rcases HB.out with h | ⟨b', o', rfl, hTb, hreps'⟩
              · rw [h] at hltm; simp at hltm
              obtain ⟨v0, v1, v2, v3, d0, d1, d2, d3, hrep⟩ := reps_at l b o i _ hreps hgi
              obtain ⟨u0, u1, u2, u3, e0, e1, e2, e3, hrep'⟩ := reps_at l' b' o' i _ hreps' hgm
              have hmem : l[i] ∈ l := List.getElem_mem hlt
              have hbk := bks_mem l _ hmem
              have hih := HIH.out _ hmem
              have HXE := Lib.hid hgi
              have HYE := Lib.hid hgm
              generalize hxe : l[i] = x at *
              generalize hye : l'[i] = y at *
              have hrep0 := hrep
              have hrep0' := hrep'
              obtain ⟨xn, xt, xs0, xl⟩ := x
              obtain ⟨yn, yt, ys0, yl⟩ := y
              obtain ⟨A', cap', hv, hrow'⟩ := rep_mk.1 hrep
              injection hv with hv
              simp at hv
              obtain ⟨rfl, rfl, rfl, rfl⟩ := hv
              obtain ⟨B', cbp', hv, hrow''⟩ := rep_mk.1 hrep'
              injection hv with hv
              simp at hv
              obtain ⟨rfl, rfl, rfl, rfl⟩ := hv
              have hbS := HS.out b hSb
              have hbT := HT.out b' hTb
              obtain ⟨W8, hW8⟩ : ∃ W8, W8 = wr.drew := ⟨_, rfl⟩
              have hbw8 : Below w.heap.size w W8 := by rw [hW8]; exact hbw.drew
              have hb8 : Below W.heap.size W W8 := by rw [hW8]; exact hb.drew
              have hq0 := (hbw8.cell (p := ⟨b, o + i * 4, none⟩) hbS).trans d0
              have hq1 := (hbw8.cell (p := ⟨b, o + i * 4 + 1, none⟩) hbS).trans d1
              have hq2 := (hbw8.cell (p := ⟨b, o + i * 4 + 2, none⟩) hbS).trans d2
              have hq3 := (hbw8.cell (p := ⟨b, o + i * 4 + 3, none⟩) hbS).trans d3
              have hp0 := (hbw8.cell (p := ⟨b', o' + i * 4, none⟩) hbT).trans e0
              have hp1 := (hbw8.cell (p := ⟨b', o' + i * 4 + 1, none⟩) hbT).trans e1
              have hp2 := (hbw8.cell (p := ⟨b', o' + i * 4 + 2, none⟩) hbT).trans e2
              have hp3 := (hbw8.cell (p := ⟨b', o' + i * 4 + 3, none⟩) hbT).trans e3
              have hm3 : W8.cell? ⟨w.heap.size, 3, none⟩ = some (.slice (some ⟨b, o, none⟩) l.length ca) := by rw [hW8]; exact c3
              have hk3 : W8.cell? ⟨w.heap.size + 1, 3, none⟩ = some (.slice (some ⟨b', o', none⟩) l.length cb) := by rw [hW8]; exact g3
              have hil : (i : Int) < (l.length : Int) := by omega
              have HRX : Hid (Rep W8 S (.mk xn xt xs0 xl) (.agg #[.bool xn, .int .i64 xt, .string ⟨⟨xs0⟩⟩, .slice A' xl.length cap'])) := rep_below hrep0 hbw8 HS.out
              have HRY : Hid (Rep W8 T (.mk yn yt ys0 yl) (.agg #[.bool yn, .int .i64 yt, .string ⟨⟨ys0⟩⟩, .slice B' yl.length cbp'])) := rep_below hrep0' hbw8 HT.out
              have HSW : Hid (∀ c, S c → c < W8.heap.size) := fun c hc => by have := HS.out c hc; have := hbw8.size; omega
              have HTW : Hid (∀ c, T c → c < W8.heap.size) := fun c hc => by have := HT.out c hc; have := hbw8.size; omega
              have hEQ := @HE.out
              have hcur : ∀ b, eqB (.mk xn xt xs0 xl) (.mk yn yt ys0 yl) = b → (b = true → ∀ j, j < i + 1 → l[j]? = l'[j]?) ∧ (b = false → l ≠ l') := by
                rintro b rfl
                have e1 : l[i]? = some (.mk xn xt xs0 xl) := HXE.out
                have e2 : l'[i]? = some (.mk yn yt ys0 yl) := HYE.out
                refine ⟨fun h j hj => ?_, fun h hlm => ?_⟩
                · by_cases hji : j = i
                  · subst hji
                    rw [e1, e2, eqB_true.1 h]
                  · exact hEQ j (by omega)
                · rw [hlm, e2] at e1
                  injection e1 with e1
                  exact eqB_false.1 h e1.symm
              have HC := Lib.hid hcur
              have HIX := Lib.hid hih
              have HW8 := Lib.hid hW8
              have HBW8 := Lib.hid hbw8
              have HB8 := Lib.hid hb8
              clear hcur hEQ HE d0 d1 d2 d3 e0 e1 e2 e3 hih hmem hgi hgm hxe hye hrow' hrow'' hreps hreps' hrep hrep' hrep0 hrep0' hW8 hbw8 hb8
              go_wp2_with fail
              refine wp_region_still_tail 10 (by kernel_rfl) (by kernel_rfl) ?_
              change wpStill _ _ (World.drew _) (fun a' => wpList _ _ _ _ a' (World.drew _)) _ _
              rw [← HW8.out]
              simp only [List.take_succ_cons, List.take_zero, List.drop_succ_cons, List.drop_zero]
              repeat still_step
              refine wpStill_nil ?_
              go_wp2_with fail
              refine (HIX.out (.mk yn yt ys0 yl) S T _ _ _ (by omega) HRX.out HRY.out HSW.out HTW.out).mono ?_
              rintro _ w1 ⟨rfl, hb1⟩
              have hbel := HBW8.out.trans (hb1.mono HBW8.out.size)
              have hbel2 := HB8.out.trans (hb1.mono HB8.out.size)
              generalize hbe : eqB (.mk xn xt xs0 xl) (.mk yn yt ys0 yl) = be
              have hcc := HC.out be hbe
              clear hbe HC
              cases be with
              | false =>
                have hne := hcc.2 rfl
                have HRF : Hid (R = false) := by show _ = _; rw [HF.out]; exact @decide_eq_false _ (Classical.propDecidable _) hne
                clear hcc hne
                go_wp2
                go_ret
                exact ⟨by rw [HRF.out]; rfl, hbel⟩
              | true =>
                have HE2 := Lib.hid (hcc.1 rfl)
                clear hcc
                go_wp2
                exact ⟨⟨i + 1, by go_num, by omega, HE2, hbel2⟩, by simp [intOf]; omega⟩
            · have hie : i = l.length := by omega
              have hlm : l = l' := by
                apply List.ext_getElem?
                intro j
                by_cases hj : j < i
                · exact HE.out j hj
                · have := H4.out
                  rw [List.getElem?_eq_none (by omega), List.getElem?_eq_none (by omega)]
              have HRF : Hid (R = true) := by show _ = _; rw [HF.out]; exact @decide_eq_true _ (Classical.propDecidable _) hlm
              clear hlm hie HE
              go_wp2
              go_ret
              exact ⟨by rw [HRF.out]; rfl, hbw⟩
        · have HF : Hid (R = false) := by
            show _ = _
            rw [HR.out]
            exact eqB_false.2 (fun e => h4 (by injection e with _ _ _ e; rw [e]))
          have h4' : ((l.length : Int) != (l'.length : Int)) = true := by simp; omega
          have H4 := Lib.hid h4
          clear h4
          go_enter Try.func13, Try.ntmps13
          go_wp2
          go_ret
          exact ⟨by rw [HF.out]; rfl, HBL.out⟩
      · have HF : Hid (R = false) := by
          show _ = _
          rw [HR.out]
          exact eqB_false.2 (fun e => h3 (by injection e))
        obtain ⟨hs3, hs4⟩ := str_ne h3
        have H3 := Lib.hid h3
        clear h3
        go_enter Try.func13, Try.ntmps13
        go_wp2
        go_ret
        exact ⟨by rw [HF.out]; rfl, HBL.out⟩
    · have HF : Hid (R = false) := by
        show _ = _
        rw [HR.out]
        exact eqB_false.2 (fun e => h2 (by injection e))
      have hs3 : (t != t') = true := by simp [h2]
      have H2 := Lib.hid h2
      clear h2
      go_enter Try.func13, Try.ntmps13
      go_wp2
      go_ret
      exact ⟨by rw [HF.out]; rfl, HBL.out⟩
  · have HF : Hid (R = false) := by
      show _ = _
      rw [HR.out]
      exact eqB_false.2 (fun e => h1 (by injection e))
    have hs3 : (n != n') = true := by simp [h1]
    have H1 := Lib.hid h1
    clear h1
    go_enter Try.func13, Try.ntmps13
    go_wp2
    go_ret
    exact ⟨by rw [HF.out]; rfl, HBL.out⟩)
end Go.Proofs.Ytmjpjbnaahdcmaa
