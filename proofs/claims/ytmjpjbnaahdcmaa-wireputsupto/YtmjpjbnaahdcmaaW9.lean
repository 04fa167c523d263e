import Derived.Test.YtmjpjbnaahdcmaaW6
namespace Go.Proofs.Ytmjpjbnaahdcmaa
open Go.RowKit
open Wr

/-- Are two items the same? -/
noncomputable def eqB (x y : It) : Bool := @decide (x = y) (Classical.propDecidable _)
theorem eqB_true {x y : It} : eqB x y = true ↔ x = y := by
  unfold eqB
  exact @decide_eq_true_iff _ (Classical.propDecidable _)
theorem eqB_false {x y : It} : eqB x y = false ↔ x ≠ y := by
  unfold eqB
  exact @decide_eq_false_iff_not _ (Classical.propDecidable _)

def SameSaid (x : It) : Prop := ∀ (y : It) (d : Nat) (di : Int) (S T : Nat → Prop) (vx vy : Value) (w : World), di = d → d + bk x ≤ 65536 → Rep w S x vx → Rep w T y vy → (∀ b, S b → b < w.heap.size) → (∀ b, T b → b < w.heap.size) →
  Calls Try.prog 23 #[.int .i64 di, vx, vy] w fun e w' => e = .returned (.bool (eqB x y)) ∧ Below w.heap.size w w'

set_option maxHeartbeats 1000000 in
set_option maxRecDepth 100000 in
theorem equalFunc_any (l m : List It) (ih : ∀ x ∈ l, SameSaid x) (d : Nat) (di : Int) (S T : Nat → Prop) (A B : Option Addr) (ca cb : Nat) (w : World) (hdi : di = d) (hd : d + bks l ≤ 65536) (ha : Row w S l A) (hb : Row w T m B) (hS : ∀ b, S b → b < w.heap.size) (hT : ∀ b, T b → b < w.heap.size) (hlm : l.length = m.length) :
    Calls Try.prog 29 #[.slice A l.length ca, .slice B m.length cb, .func (.func 23) #[.int .i64 di] #[]] w fun e w' => e = .returned (.bool (@decide (l = m) (Classical.propDecidable _))) ∧ Below w.heap.size w w' := by
  obtain ⟨R, hR⟩ : ∃ R, R = @decide (l = m) (Classical.propDecidable _) := ⟨_, rfl⟩
  rw [← hR]
  have HR := Lib.hid hR
  have hll := bks_len l
  have HLM := Lib.hid hlm
  have HA := Lib.hid ha
  have HB := Lib.hid hb
  have HS := Lib.hid hS
  have HT := Lib.hid hT
  have HD := Lib.hid hdi
  have HIH := Lib.hid ih
  rw [← hlm]
  clear hR hlm ha hb hS hT hdi ih
  go_enter Try.func29, Try.ntmps29
  go_wp2
  go_loopw [17] (fun iv wr => ∃ i : Nat, iv = .int .i64 i ∧ i ≤ l.length ∧ Hid (∀ j, j < i → l[j]? = m[j]?) ∧ Below w.heap.size w wr) (fun iv _ => l.length - (intOf iv).toNat)
  case atStart => exact ⟨0, rfl, by omega, Lib.hid (by simp), Below.refl _ _⟩
  case round =>
    obtain ⟨i, rfl, hi, HE, hbw⟩ := hrel
    by_cases hlt : i < l.length
    · have hltm : i < m.length := by have := HLM.out; omega
      have hgi : l[i]? = some l[i] := List.getElem?_eq_getElem hlt
      have hgm : m[i]? = some m[i] := List.getElem?_eq_getElem hltm
      rcases HA.out with h | ⟨b, o, rfl, hSb, hreps⟩
      · rw [h] at hlt; simp at hlt
      rcases HB.out with h | ⟨b', o', rfl, hTb, hreps'⟩
      · rw [h] at hltm; simp at hltm
      obtain ⟨v0, v1, v2, v3, c0, c1, c2, c3, hrep⟩ := reps_at l b o i _ hreps hgi
      obtain ⟨u0, u1, u2, u3, e0, e1, e2, e3, hrep'⟩ := reps_at m b' o' i _ hreps' hgm
      have hmem : l[i] ∈ l := List.getElem_mem hlt
      have hbk := bks_mem l _ hmem
      have hih := HIH.out _ hmem
      have HXE := Lib.hid hgi
      have HYE := Lib.hid hgm
      generalize hxe : l[i] = x at *
      generalize hye : m[i] = y at *
      have hrep0 := hrep
      have hrep0' := hrep'
      obtain ⟨xn, xt, xs0, xl⟩ := x
      obtain ⟨yn, yt, ys0, yl⟩ := y
      obtain ⟨A', cap', hv, hrow'⟩ := rep_mk.1 hrep
      injection hv with hv
      simp at hv
      obtain ⟨rfl, rfl, rfl, rfl⟩ := hv
      obtain ⟨B', cbp', hv, hrow''⟩ := rep_mk.1 hrep'
      injection hv with hv
      simp at hv
      obtain ⟨rfl, rfl, rfl, rfl⟩ := hv
      have hbS := HS.out b hSb
      have hbT := HT.out b' hTb
      have hq0 := (hbw.cell (p := ⟨b, o + i * 4, none⟩) hbS).trans c0
      have hq1 := (hbw.cell (p := ⟨b, o + i * 4 + 1, none⟩) hbS).trans c1
      have hq2 := (hbw.cell (p := ⟨b, o + i * 4 + 2, none⟩) hbS).trans c2
      have hq3 := (hbw.cell (p := ⟨b, o + i * 4 + 3, none⟩) hbS).trans c3
      have hp0 := (hbw.cell (p := ⟨b', o' + i * 4, none⟩) hbT).trans e0
      have hp1 := (hbw.cell (p := ⟨b', o' + i * 4 + 1, none⟩) hbT).trans e1
      have hp2 := (hbw.cell (p := ⟨b', o' + i * 4 + 2, none⟩) hbT).trans e2
      have hp3 := (hbw.cell (p := ⟨b', o' + i * 4 + 3, none⟩) hbT).trans e3
      have hbw0 : b' < wr.heap.size := by have := hbw.size; omega
      have hil : (i : Int) < (l.length : Int) := by omega
      have HIX := Lib.hid hih
      clear c0 c1 c2 c3 e0 e1 e2 e3 hih hmem hgi hgm hxe hye hrow' hrow'' hreps hreps' hrep hrep'
      obtain ⟨X, hX⟩ : ∃ X, X = Obj.cells #[.bool xn, .int .i64 xt, .string ⟨⟨xs0⟩⟩, .slice A' xl.length cap'] 24 := ⟨_, rfl⟩
      obtain ⟨Y, hY⟩ : ∃ Y, Y = Obj.cells #[.bool yn, .int .i64 yt, .string ⟨⟨ys0⟩⟩, .slice B' yl.length cbp'] 24 := ⟨_, rfl⟩
      have hws := hbw.size
      have HRX : Hid (Rep ((wr.alloc X).alloc Y) S (.mk xn xt xs0 xl) (.agg #[.bool xn, .int .i64 xt, .string ⟨⟨xs0⟩⟩, .slice A' xl.length cap'])) :=
        rep_alloc (S := S) (rep_alloc (S := S) (rep_keep (fun _ h => h) (fun c o hc => hbw.cell (p := ⟨c, o, none⟩) (HS.out c hc)) _ _ hrep0) _ (fun c hc => ⟨by have := HS.out c hc; omega, hc⟩)) _ (fun c hc => ⟨by have := HS.out c hc; simp; omega, hc⟩)
      have HRY : Hid (Rep ((wr.alloc X).alloc Y) T (.mk yn yt ys0 yl) (.agg #[.bool yn, .int .i64 yt, .string ⟨⟨ys0⟩⟩, .slice B' yl.length cbp'])) :=
        rep_alloc (S := T) (rep_alloc (S := T) (rep_keep (fun _ h => h) (fun c o hc => hbw.cell (p := ⟨c, o, none⟩) (HT.out c hc)) _ _ hrep0') _ (fun c hc => ⟨by have := HT.out c hc; omega, hc⟩)) _ (fun c hc => ⟨by have := HT.out c hc; simp; omega, hc⟩)
      have HSW : Hid (∀ c, S c → c < ((wr.alloc X).alloc Y).heap.size) := fun c hc => by have := HS.out c hc; simp; omega
      have HTW : Hid (∀ c, T c → c < ((wr.alloc X).alloc Y).heap.size) := fun c hc => by have := HT.out c hc; simp; omega
      subst hX hY
      have hEQ := @HE.out
      have hcur : ∀ b, eqB (.mk xn xt xs0 xl) (.mk yn yt ys0 yl) = b → (b = true → ∀ j, j < i + 1 → l[j]? = m[j]?) ∧ (b = false → l ≠ m) := by
        rintro b rfl
        have e1 : l[i]? = some (.mk xn xt xs0 xl) := HXE.out
        have e2 : m[i]? = some (.mk yn yt ys0 yl) := HYE.out
        refine ⟨fun h j hj => ?_, fun h hlm => ?_⟩
        · by_cases hji : j = i
          · subst hji
            rw [e1, e2, eqB_true.1 h]
          · exact hEQ j (by omega)
        · rw [hlm, e2] at e1
          injection e1 with e1
          exact eqB_false.1 h e1.symm
      have HC := Lib.hid hcur
      clear hcur hEQ HE
      go_wp2_with fail
      refine (HIX.out (.mk yn yt ys0 yl) d di S T _ _ _ HD.out (by omega) HRX.out HRY.out HSW.out HTW.out).mono ?_
      rintro _ w1 ⟨rfl, hb1⟩
      have hbel : Below w.heap.size w w1 := ((hbw.alloc hws _).alloc (by simp; omega) _).trans (hb1.mono (by simp; omega))
      generalize hbe : eqB (.mk xn xt xs0 xl) (.mk yn yt ys0 yl) = be
      have hcc := HC.out be hbe
      clear hbe HC
      cases be with
      | false =>
        have hne := hcc.2 rfl
        have HRF : Hid (R = false) := by show _ = _; rw [HR.out]; exact @decide_eq_false _ (Classical.propDecidable _) hne
        clear hcc hne
        go_wp2
        go_ret
        exact ⟨by rw [HRF.out]; rfl, hbel⟩
      | true =>
        have HE2 := Lib.hid (hcc.1 rfl)
        clear hcc
        go_wp2
        exact ⟨⟨i + 1, by go_num, by omega, HE2, hbel⟩, by simp [intOf]; omega⟩
    · have hie : i = l.length := by omega
      have hlm : l = m := by
        apply List.ext_getElem?
        intro j
        by_cases hj : j < i
        · exact HE.out j hj
        · have := HLM.out
          rw [List.getElem?_eq_none (by omega), List.getElem?_eq_none (by omega)]
      have HRF : Hid (R = true) := by show _ = _; rw [HR.out]; exact @decide_eq_true _ (Classical.propDecidable _) hlm
      clear hlm hie HE
      go_wp2
      go_ret
      exact ⟨by rw [HRF.out]; rfl, hbw⟩
end Go.Proofs.Ytmjpjbnaahdcmaa
