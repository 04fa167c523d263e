/- The law KnowSecret returns true, and its arguments read behind the call as they read before; the program's tables start as the program's text lays them. Condition: the arguments are together of bulk at most 1048576. -/
import Derived.Test.YtiidooponlbnmaaDoorKnL3
import Derived.Test.YtiidooponlbnmaaDoorTmTab
import Derived.Test.YtiidooponlbnmaaDoorCyOpen
import Derived.Test.YtiidooponlbnmaaDoorCards
import Derived.Test.YtiidooponlbnmaaDoorTie
import Derived.WalkKit
import Derived.ProofKit
import Derived.OpenShut
import Derived.ShutString
import Derived.ChangeOld
import Derived.Deep.DeepHandedRow
import Derived.Lib.LaidTab
import Derived.JoinedCond
namespace Go.Proofs.YtiidooponlbnmaaDoor
open Go.ChangeShapes Go.WideShapes Go.ChangeAt Go.RowKit Go.Joins
open Te Te.Tt
open Go.ChangeMaps (open_string shut_string)

set_option maxRecDepth 100000 in
theorem knowSecret_contract (H : Type) (enc : TypeId × Value → H) (W : World) (base : Nat) (args : Array Value) (ds gs : List (DataW H)) (before : List MemPlace)
    (hval : ∀ (j : Nat) t v, Tryd.f6.params[j]? = some t → args[j]? = some v → Value.okWide Tryd.prog W .any base t v)
    (hW : DataW.Whole enc Tryd.prog Tryd.f6.params.toList Rows.knowSecretSpec.vars false W args.toList ds gs before) (hk : Rows.uptoSmall H (ds ++ gs) = true) (hL : laidMetH Tryd.prog Rows.knowSecretUptoRow.laid W) :
    Calls Tryd.prog 6 args W fun e W' => ∃ v, e = .returned v ∧ Rows.knowSecretSpec.post enc Tryd.prog Tryd.f6 false true false false W args v W' := by
  have hW' := hW
  obtain ⟨p, q, hA0, hV, rfl, hfz, hnd⟩ := hW
  have hA : DataW.TrodAll enc Tryd.prog W 0 (fun _ => true) true Tryd.f6.params.toList args.toList ds p := hA0
  rw [Tryd.params6] at hA hval
  obtain ⟨v0, vs0, d0, ds0, p0, q0, hargs, rfl, rfl, h0, r0⟩ := trodAll_cons hA
  obtain ⟨v1, vs1, d1, ds1, p1, q1, rfl, rfl, rfl, h1, r1⟩ := trodAll_cons r0
  obtain ⟨v2, vs2, d2, ds2, p2, q2, rfl, rfl, rfl, h2, r2⟩ := trodAll_cons r1
  obtain ⟨rfl, rfl, rfl⟩ := trodAll_nil r2
  obtain rfl : args = #[v0, v1, v2] := by cases args; simp_all
  obtain ⟨rfl, rfl⟩ := trodVars_none hV
  have hbulk : Rows.uptoBulk d0 + Rows.uptoBulk d1 + Rows.uptoBulk d2 ≤ 1048576 := by
    have h : Rows.uptoBulkAll ([d0, d1, d2] ++ []) ≤ 1048576 := of_decide_eq_true hk
    simp only [List.append_nil, Rows.uptoBulkAll] at h
    omega
  have k0 := h0
  have lt0 : ∀ x ∈ p0, x.block < W.heap.size := by obtain ⟨m, hm⟩ := k0; exact DataW.trod_lt m _ _ _ hm
  obtain ⟨l0, A0, c0, rfl, hrow0, hb0⟩ := Cy.row_arg5 (hval 0 22 v0 rfl rfl) h0
  have hk0 : Cy.b5s l0 ≤ 1048576 := by omega
  have k1 := h1
  have lt1 : ∀ x ∈ p1, x.block < W.heap.size := by obtain ⟨m, hm⟩ := k1; exact DataW.trod_lt m _ _ _ hm
  obtain ⟨x1, hrep1, hb1⟩ := Cy.term_arg5 (hval 1 33 v1 rfl rfl) h1
  have hk1 : Cy.b5 x1 ≤ 1048576 := by omega
  have k2 := h2
  have lt2 : ∀ x ∈ p2, x.block < W.heap.size := by obtain ⟨m, hm⟩ := k2; exact DataW.trod_lt m _ _ _ hm
  obtain ⟨x2, hrep2, hb2⟩ := Cy.term_arg5 (hval 2 33 v2 rfl rfl) h2
  have hk2 : Cy.b5 x2 ≤ 1048576 := by omega
  clear hA0
  refine (Kn.knowSecret_walk l0 A0 c0 x1 v1 x2 v2 W (by have := (Cy.b5_sz (.mk 0 [] 0 l0)).1; rw [sz, Cy.b5] at this; simp only [List.length_nil] at this; omega) (by have := (Cy.b5_sz x1).1; omega) (by have := (Cy.b5_sz x2).1; omega) hrow0 hrep1 hrep2 (Te.tabs_of hL)).mono fun e W' ⟨he, bel⟩ => ?_
  subst he
  exact ⟨_, rfl, _, _, _, [], _, [], hW', trodAll_mk1 (shut_bool Tryd.underlying4 _), (trodAll_cons_mk (Below.trod laidT (by kernel_rfl) (of_decide_eq_true (by kernel_rfl)) k0 bel lt0) (trodAll_cons_mk (Below.trod laidT (by kernel_rfl) (of_decide_eq_true (by kernel_rfl)) k1 bel lt1) (trodAll_cons_mk (Below.trod laidT (by kernel_rfl) (of_decide_eq_true (by kernel_rfl)) k2 bel lt2) trodAll_mk0))), rfl, bel.frame _, fun h => by cases h⟩

theorem knowSecret_laid_met (os : Os) : laidMet Tryd.prog Rows.knowSecretUptoRow.laid ((Te.laidWorld os).forCall (fun _ _ => 0) ⟨#[], #[.slice none 0 0, .agg #[.int .i64 0, .string .empty, .int .i64 0, .slice none 0 0], .agg #[.int .i64 0, .string .empty, .int .i64 0, .slice none 0 0]], []⟩).memory :=
  laidMet_of_run' 8 (by kernel_rfl) (by kernel_rfl)
theorem knowSecret_reads (os : Os) {H : Type} (enc : TypeId × Value → H) : ∃ places, DataW.whole enc Tryd.prog ((Te.laidWorld os).forCall (fun _ _ => 0) ⟨#[], #[.slice none 0 0, .agg #[.int .i64 0, .string .empty, .int .i64 0, .slice none 0 0], .agg #[.int .i64 0, .string .empty, .int .i64 0, .slice none 0 0]], []⟩).memory Tryd.f6.params.toList Rows.knowSecretSpec.vars false (#[.slice none 0 0, .agg #[.int .i64 0, .string .empty, .int .i64 0, .slice none 0 0], .agg #[.int .i64 0, .string .empty, .int .i64 0, .slice none 0 0]] : Array Value).toList 8 = some ([.nil, .agg [.lit (.int .i64 0), .lit (.string []), .lit (.int .i64 0), .nil], .agg [.lit (.int .i64 0), .lit (.string []), .lit (.int .i64 0), .nil]], [], places) :=
  ⟨[], by kernel_rfl⟩

set_option maxRecDepth 100000 in
theorem knowSecret_lifted (os : Os) (started : os.Started) (H : Type) (enc : TypeId × Value → H) (F : Stop.Interp) :
    ReturnsInHanded {} Tryd.checked os 6 .any ((Rows.OpenSpec.upto Rows.knowSecretSpec).preRow enc Tryd.prog Tryd.f6 Rows.knowSecretUptoRow.domain false Rows.knowSecretUptoRow.laid) (((Rows.OpenSpec.upto Rows.knowSecretSpec).at F).post enc Tryd.prog Tryd.f6 false true false false) := by
  obtain ⟨places, hx⟩ := knowSecret_reads os enc
  refine returnsInHanded_of_row (C := Tryd.checked) (s := Rows.OpenSpec.upto Rows.knowSecretSpec) own started (by kernel_rfl) Tryd.func6
    (witness_row_at (enc := enc) (C := Tryd.checked) false (Te.laidWorld os) #[.slice none 0 0, .agg #[.int .i64 0, .string .empty, .int .i64 0, .slice none 0 0], .agg #[.int .i64 0, .string .empty, .int .i64 0, .slice none 0 0]] rfl (by kernel_rfl) (by kernel_rfl) (by kernel_rfl)
      (OpenSpec.preRow_of_cond 8 hx (by kernel_rfl) (fun k hk => by cases hk; kernel_rfl) (by kernel_rfl) (knowSecret_laid_met os))) ?_
  intro W base args ds gs before hval hW _ hcond _ hL _ _
  exact knowSecret_contract H enc W base args ds gs before hval hW (hcond _ rfl) hL

theorem knowSecret_said : Rows.KnowSecretUptoSaid :=
  OpenClaim.holds_of_cond 6 Tryd.f6 rfl rfl rfl rfl rfl rfl rfl ⟨rfl, rfl, rfl, rfl, rfl⟩ rfl rfl rfl rfl rfl (by kernel_rfl) Tryd.func6 (by kernel_rfl)
    (of_decide_eq_true (by kernel_rfl)) (by unfold Func.isWrapper; first | (rw [if_pos (by decide +kernel)]; kernel_rfl) | (rw [if_neg (by decide +kernel)]; exact ⟨rfl, rfl⟩))
    (fun os started H enc _ F => by rw [OpenClaim.pre_eq_preRow]; exact knowSecret_lifted os started H enc F)

theorem knowSecret_plain (f : FuncId) (fn : Func) (hf : Tryd.pinned.checked.prog.funcNamed "legate/legatelaw11.KnowSecret" = some f) (hfn : Tryd.pinned.checked.prog.funcs[f]? = some fn) :
    false = Tryd.pinned.checked.prog.looks [] ∧ ∀ (j : Nat) t, fn.params[j]? = some t → Tryd.pinned.checked.prog.wantsStandIn t = false := by
  obtain rfl : f = 6 := Option.some.inj ((show Tryd.prog.funcNamed "legate/legatelaw11.KnowSecret" = some 6 by kernel_rfl).symm.trans hf) |>.symm
  obtain rfl : fn = Tryd.f6 := (Option.some.inj (Tryd.func6.symm.trans hfn)).symm
  refine ⟨by kernel_rfl, fun j t ht => ?_⟩
  rw [Tryd.params6] at ht
  have hs22 : Tryd.pinned.checked.prog.wantsStandIn 22 = false := by kernel_rfl
  have hs33 : Tryd.pinned.checked.prog.wantsStandIn 33 = false := by kernel_rfl
  match j, ht with
  | 0, ht => (obtain rfl : 22 = t := (by simpa using ht)); exact hs22
  | 1, ht => (obtain rfl : 33 = t := (by simpa using ht)); exact hs33
  | 2, ht => (obtain rfl : 33 = t := (by simpa using ht)); exact hs33
  | j + 3, ht => simp at ht

theorem knowSecret_card : Rows.KnowSecretUptoCardSaid :=
  Claim7.holds_tied_plain_at .later [] _ _ _ _ knowSecret_said (fun _ h => by cases h) (by kernel_rfl) (fun _ h => by cases h) knowSecretUpto_row_tie rfl ⟨rfl, rfl⟩ (by kernel_rfl) rfl knowSecret_plain (by kernel_rfl)
#print axioms knowSecret_card
end Go.Proofs.YtiidooponlbnmaaDoor
