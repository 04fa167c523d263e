/- The law KnowOpens returns true, and its arguments read behind the call as they read before; the program's tables start as the program's text lays them. Condition: the arguments are together of bulk at most 1048576. -/
import Derived.Test.YtiidooponlbnmaaDoorKnL4
import Derived.Test.YtiidooponlbnmaaDoorTmTab
import Derived.Test.YtiidooponlbnmaaDoorCyOpen
import Derived.Test.YtiidooponlbnmaaDoorCards
import Derived.Test.YtiidooponlbnmaaDoorTie
import Derived.WalkKit
import Derived.ProofKit
import Derived.OpenShut
import Derived.ShutString
import Derived.ChangeOld
import Derived.Deep.DeepHandedRow
import Derived.Lib.LaidTab
import Derived.JoinedCond
import Derived.ChangeArms
namespace Go.Proofs.YtiidooponlbnmaaDoor
open Go.ChangeShapes Go.WideShapes Go.ChangeAt Go.RowKit Go.Joins
open Te Te.Tt
open Go.ChangeMaps (open_string shut_string)

set_option maxRecDepth 100000 in
theorem knowOpens_contract (H : Type) (enc : TypeId × Value → H) (W : World) (base : Nat) (args : Array Value) (ds gs : List (DataW H)) (before : List MemPlace)
    (hval : ∀ (j : Nat) t v, Tryd.f7.params[j]? = some t → args[j]? = some v → Value.okWide Tryd.prog W .any base t v)
    (hW : DataW.Whole enc Tryd.prog Tryd.f7.params.toList Rows.knowOpensSpec.vars false W args.toList ds gs before) (hk : Rows.uptoSmall H (ds ++ gs) = true) (hL : laidMetH Tryd.prog Rows.knowOpensUptoRow.laid W) :
    Calls Tryd.prog 7 args W fun e W' => ∃ v, e = .returned v ∧ Rows.knowOpensSpec.post enc Tryd.prog Tryd.f7 false true false false W args v W' := by
  have hW' := hW
  obtain ⟨p, q, hA0, hV, rfl, hfz, hnd⟩ := hW
  have hA : DataW.TrodAll enc Tryd.prog W 0 (fun _ => true) true Tryd.f7.params.toList args.toList ds p := hA0
  rw [Tryd.params7] at hA hval
  obtain ⟨v0, vs0, d0, ds0, p0, q0, hargs, rfl, rfl, h0, r0⟩ := trodAll_cons hA
  obtain ⟨v1, vs1, d1, ds1, p1, q1, rfl, rfl, rfl, h1, r1⟩ := trodAll_cons r0
  obtain ⟨v2, vs2, d2, ds2, p2, q2, rfl, rfl, rfl, h2, r2⟩ := trodAll_cons r1
  obtain ⟨v3, vs3, d3, ds3, p3, q3, rfl, rfl, rfl, h3, r3⟩ := trodAll_cons r2
  obtain ⟨rfl, rfl, rfl⟩ := trodAll_nil r3
  obtain rfl : args = #[v0, v1, v2, v3] := by cases args; simp_all
  obtain ⟨rfl, rfl⟩ := trodVars_none hV
  have hbulk : Rows.uptoBulk d0 + Rows.uptoBulk d1 + Rows.uptoBulk d2 + Rows.uptoBulk d3 ≤ 1048576 := by
    have h : Rows.uptoBulkAll ([d0, d1, d2, d3] ++ []) ≤ 1048576 := of_decide_eq_true hk
    simp only [List.append_nil, Rows.uptoBulkAll] at h
    omega
  have k0 := h0
  have lt0 : ∀ x ∈ p0, x.block < W.heap.size := by obtain ⟨m, hm⟩ := k0; exact DataW.trod_lt m _ _ _ hm
  obtain ⟨x0, hrep0, hb0⟩ := Cy.term_arg5 (hval 0 33 v0 rfl rfl) h0
  have hk0 : Cy.b5 x0 ≤ 1048576 := by omega
  have k1 := h1
  have lt1 : ∀ x ∈ p1, x.block < W.heap.size := by obtain ⟨m, hm⟩ := k1; exact DataW.trod_lt m _ _ _ hm
  obtain ⟨x1, hrep1, hb1⟩ := Cy.term_arg5 (hval 1 33 v1 rfl rfl) h1
  have hk1 : Cy.b5 x1 ≤ 1048576 := by omega
  obtain ⟨b2, rfl⟩ := okWide_bool Tryd.underlying4 (hval 2 4 v2 rfl rfl)
  obtain ⟨rfl, rfl⟩ : d2 = .lit (.bool b2) ∧ p2 = [] := by
    obtain ⟨fb, hfb⟩ := h2
    obtain ⟨bb, hcs, hx⟩ := Go.DataW.trod_bool Tryd.underlying4 hfb
    simp [Value.cells] at hcs
    injection hx with hx1 hx2
    exact ⟨by rw [hx1, hcs], hx2⟩
  obtain ⟨a3, rfl, rfl, rfl, w3⟩ := open_int Tryd.underlying3 (hval 3 3 v3 rfl rfl) h3
  have hi3 : -9223372036854775808 ≤ a3 ∧ a3 ≤ 9223372036854775807 := by simpa [Lit.wf, IntKind.min, IntKind.max, IntKind.signed, IntKind.bits] using w3
  clear hA0
  refine (Kn.knowOpens_walk x0 v0 x1 v1 b2 a3 W (by have := (Cy.b5_sz x0).1; omega) (by have := (Cy.b5_sz x1).1; omega) hrep0 hrep1 (Te.tabs_of hL)).mono fun e W' ⟨he, bel⟩ => ?_
  subst he
  exact ⟨_, rfl, _, _, _, [], _, [], hW', trodAll_mk1 (shut_bool Tryd.underlying4 _), (trodAll_cons_mk (Below.trod laidT (by kernel_rfl) (of_decide_eq_true (by kernel_rfl)) k0 bel lt0) (trodAll_cons_mk (Below.trod laidT (by kernel_rfl) (of_decide_eq_true (by kernel_rfl)) k1 bel lt1) (trodAll_cons_mk (shut_bool Tryd.underlying4 _) (trodAll_cons_mk (shut_int Tryd.underlying3 w3) trodAll_mk0)))), rfl, bel.frame _, fun h => by cases h⟩

theorem knowOpens_laid_met (os : Os) : laidMet Tryd.prog Rows.knowOpensUptoRow.laid ((Te.laidWorld os).forCall (fun _ _ => 0) ⟨#[], #[.agg #[.int .i64 0, .string .empty, .int .i64 0, .slice none 0 0], .agg #[.int .i64 0, .string .empty, .int .i64 0, .slice none 0 0], .bool false, .int .i64 0], []⟩).memory :=
  laidMet_of_run' 8 (by kernel_rfl) (by kernel_rfl)
theorem knowOpens_reads (os : Os) {H : Type} (enc : TypeId × Value → H) : ∃ places, DataW.whole enc Tryd.prog ((Te.laidWorld os).forCall (fun _ _ => 0) ⟨#[], #[.agg #[.int .i64 0, .string .empty, .int .i64 0, .slice none 0 0], .agg #[.int .i64 0, .string .empty, .int .i64 0, .slice none 0 0], .bool false, .int .i64 0], []⟩).memory Tryd.f7.params.toList Rows.knowOpensSpec.vars false (#[.agg #[.int .i64 0, .string .empty, .int .i64 0, .slice none 0 0], .agg #[.int .i64 0, .string .empty, .int .i64 0, .slice none 0 0], .bool false, .int .i64 0] : Array Value).toList 8 = some ([.agg [.lit (.int .i64 0), .lit (.string []), .lit (.int .i64 0), .nil], .agg [.lit (.int .i64 0), .lit (.string []), .lit (.int .i64 0), .nil], .lit (.bool false), .lit (.int .i64 0)], [], places) :=
  ⟨[], by kernel_rfl⟩

set_option maxRecDepth 100000 in
theorem knowOpens_lifted (os : Os) (started : os.Started) (H : Type) (enc : TypeId × Value → H) (F : Stop.Interp) :
    ReturnsInHanded {} Tryd.checked os 7 .any ((Rows.OpenSpec.upto Rows.knowOpensSpec).preRow enc Tryd.prog Tryd.f7 Rows.knowOpensUptoRow.domain false Rows.knowOpensUptoRow.laid) (((Rows.OpenSpec.upto Rows.knowOpensSpec).at F).post enc Tryd.prog Tryd.f7 false true false false) := by
  obtain ⟨places, hx⟩ := knowOpens_reads os enc
  refine returnsInHanded_of_row (C := Tryd.checked) (s := Rows.OpenSpec.upto Rows.knowOpensSpec) own started (by kernel_rfl) Tryd.func7
    (witness_row_at (enc := enc) (C := Tryd.checked) false (Te.laidWorld os) #[.agg #[.int .i64 0, .string .empty, .int .i64 0, .slice none 0 0], .agg #[.int .i64 0, .string .empty, .int .i64 0, .slice none 0 0], .bool false, .int .i64 0] rfl (by kernel_rfl) (by kernel_rfl) (by kernel_rfl)
      (OpenSpec.preRow_of_cond 8 hx (by kernel_rfl) (fun k hk => by cases hk; kernel_rfl) (by kernel_rfl) (knowOpens_laid_met os))) ?_
  intro W base args ds gs before hval hW _ hcond _ hL _ _
  exact knowOpens_contract H enc W base args ds gs before hval hW (hcond _ rfl) hL

theorem knowOpens_said : Rows.KnowOpensUptoSaid :=
  OpenClaim.holds_of_cond 7 Tryd.f7 rfl rfl rfl rfl rfl rfl rfl ⟨rfl, rfl, rfl, rfl, rfl⟩ rfl rfl rfl rfl rfl (by kernel_rfl) Tryd.func7 (by kernel_rfl)
    (of_decide_eq_true (by kernel_rfl)) (by unfold Func.isWrapper; first | (rw [if_pos (by decide +kernel)]; kernel_rfl) | (rw [if_neg (by decide +kernel)]; exact ⟨rfl, rfl⟩))
    (fun os started H enc _ F => by rw [OpenClaim.pre_eq_preRow]; exact knowOpens_lifted os started H enc F)

theorem knowOpens_plain (f : FuncId) (fn : Func) (hf : Tryd.pinned.checked.prog.funcNamed "legate/legatelaw11.KnowOpens" = some f) (hfn : Tryd.pinned.checked.prog.funcs[f]? = some fn) :
    false = Tryd.pinned.checked.prog.looks [] ∧ ∀ (j : Nat) t, fn.params[j]? = some t → Tryd.pinned.checked.prog.wantsStandIn t = false := by
  obtain rfl : f = 7 := Option.some.inj ((show Tryd.prog.funcNamed "legate/legatelaw11.KnowOpens" = some 7 by kernel_rfl).symm.trans hf) |>.symm
  obtain rfl : fn = Tryd.f7 := (Option.some.inj (Tryd.func7.symm.trans hfn)).symm
  refine ⟨by kernel_rfl, fun j t ht => ?_⟩
  rw [Tryd.params7] at ht
  have hs3 : Tryd.pinned.checked.prog.wantsStandIn 3 = false := by kernel_rfl
  have hs4 : Tryd.pinned.checked.prog.wantsStandIn 4 = false := by kernel_rfl
  have hs33 : Tryd.pinned.checked.prog.wantsStandIn 33 = false := by kernel_rfl
  match j, ht with
  | 0, ht => (obtain rfl : 33 = t := (by simpa using ht)); exact hs33
  | 1, ht => (obtain rfl : 33 = t := (by simpa using ht)); exact hs33
  | 2, ht => (obtain rfl : 4 = t := (by simpa using ht)); exact hs4
  | 3, ht => (obtain rfl : 3 = t := (by simpa using ht)); exact hs3
  | j + 4, ht => simp at ht

theorem knowOpens_card : Rows.KnowOpensUptoCardSaid :=
  Claim7.holds_tied_plain_at .later [] _ _ _ _ knowOpens_said (fun _ h => by cases h) (by kernel_rfl) (fun _ h => by cases h) knowOpensUpto_row_tie rfl ⟨rfl, rfl⟩ (by kernel_rfl) rfl knowOpens_plain (by kernel_rfl)
#print axioms knowOpens_card
end Go.Proofs.YtiidooponlbnmaaDoor
