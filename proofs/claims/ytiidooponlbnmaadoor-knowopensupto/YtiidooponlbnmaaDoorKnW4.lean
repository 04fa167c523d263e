/- has, waited, opened. (Laid with NS=1.) -/
import Derived.Test.YtiidooponlbnmaaDoorKnSt
import Derived.Test.YtiidooponlbnmaaDoorKnW2
import Derived.Maps.OwnOps
import Derived.WalkKit
namespace Go.Proofs.YtiidooponlbnmaaDoor.Kn
open Go.RowKit
open Te Te.Tt
open Go (Lit DataW MemPlace keyOf maxLen)

abbrev zT : Value := .agg #[.int .i64 0, .string ⟨#[]⟩, .int .i64 0, .slice none 0 0]
theorem zeroT (w : World) : (zeroValue 33).run Tryd.prog w = .ok zT w := by kernel_rfl
theorem zeroL (w : World) : (zeroValue 22).run Tryd.prog w = .ok nils w := by kernel_rfl
/-- What is looked up is a term's value, whether it is there or not. -/
theorem look_shape {w : World} {T : Nat → Prop} {kn : List Tm} {D : DataW Value} (h4 : ∀ kl, Maps.has D kl = true → ∃ x ∈ kn, ∃ v, kl = .string (mk x) ∧ (∀ z, D.atKey kl z = .held v) ∧ RepC w T x v) {kl : Lit} {v : Value} {ps : List MemPlace} (hv : tok v = some (D.atKey kl (.held zT), ps)) :
    ∃ k s n A m c, v = .agg #[.int .i64 k, .string s, .int .i64 n, .slice A m c] := by
  cases hh : Maps.has D kl with
  | false =>
    rw [Maps.atKey_of_not_has hh] at hv
    exact ⟨_, _, _, _, _, _, tok_inv hv⟩
  | true =>
    obtain ⟨x, _, u, _, hu, hr⟩ := h4 kl hh
    rw [hu] at hv
    obtain ⟨k, s, n, l⟩ := x
    obtain ⟨A, ca, e, _⟩ := repc_mk.1 hr
    exact ⟨_, _, _, _, _, _, (tok_inv hv).trans e⟩
theorem wpList_lookup_tok {P : Program} (w : World) {ops : Array Oper} {rest : List Oper} {o : Oper} {a : Act} {Q : Exit → Act → World → Prop} (hg : o.guard = none) (m x : Operand) (t : TypeId) (hop : o.op = Op.lookup t m x false)
    (k e : TypeId) (K : Go.Maps.Keyed P k) (ht : P.underlying t = some (.map k e)) {z : Value} (hz : (zeroValue e).run P w = .ok z w) (b n : Nat) (D : DataW Value)
    (hm : a.eval m = .map (some b)) (hown : w.ownsMap P k tok b n D) (key : Value) (kl : Lit) (hx : a.eval x = key) (hkey : keyOf P k key = some kl) (v : Value) (hv : D.atKey kl (.held z) = .held v)
    (hK : wpList P ops Q rest (a.put o.dst v) w) : wpList P ops Q (o :: rest) a w := by
  refine wpList_plain hg fun K' hK' => ?_
  obtain ⟨v', ps, hrun, hv'⟩ := hown.lookup K ht hz (tok_mk z) hkey
  rw [hv] at hv'
  obtain rfl := tok_inv hv'
  unfold Oper.wp
  simp [execOp, hop, hm, hx, hrun, Result.andThen]
  exact hK' _ _ hK

set_option maxHeartbeats 1000000 in
set_option maxRecDepth 100000 in
theorem has_any (w : World) (F : Nat → Prop) (g bk bw : Nat) (T : Nat → Prop) (f : Tm → Value) (s : St) (h : SR w F g bk bw T f s) (x : Tm) (hx : vld 0 x = true) (hl : (mk x).length ≤ 1000000000000) :
    Calls Tryd.prog 39 #[.pointer (some ⟨g, 0, none⟩), .string ⟨⟨mk x⟩⟩] w fun e w' => e = .returned (.bool (decide (x ∈ s.kn))) ∧ Below w.heap.size w w' := by
  obtain ⟨c0, c1⟩ : w.cell? ⟨g, 0, none⟩ = some (.map (some bk)) ∧ w.cell? ⟨g, 1, none⟩ = some (.map (some bw)) := ⟨by rw [cell_of_row _ _ _ _ _ _ h.st]; rfl, by rw [cell_of_row _ _ _ _ _ _ h.st]; rfl⟩
  obtain ⟨D, hown, h2, h3, h4⟩ := h.km
  have hk := hkey (mk x) hl
  have hh := h2 x hx
  obtain ⟨m, hm⟩ : ∃ m, m = mk x := ⟨_, rfl⟩
  obtain ⟨b, hb⟩ : ∃ b, b = decide (x ∈ s.kn) := ⟨_, rfl⟩
  rw [← hb] at hh ⊢
  rw [← hm] at hk hh ⊢
  have HK := Lib.hid hk
  have HO := Lib.hid hown
  have HH := Lib.hid hh
  have H4 := Lib.hid h4
  clear h h2 h3 h4 hown hk hh hm hb hx hl
  go_enter Tryd.func39, Tryd.ntmps39
  go_wp2_with (first | (at_lookup; refine wpList_lookup_own_ok _ rfl (.tmp 11) (.tmp 12) 52 rfl 9 33 law Tryd.underlying52 tok (zeroT _) (.held zT) [] rfl bk s.kn.length D rfl HO.out _ (.string m) rfl HK.out ?_; intro v ps hv; obtain ⟨k, t, n, A, mm, c, rfl⟩ := look_shape H4.out hv; clear hv; rw [HH.out]))
  go_ret
  exact ⟨rfl, (Below.refl _ _).alloc (Nat.le_refl _) _⟩

section
variable {P : Program} {ops : Array Oper} {rest : List Oper} {o : Oper} {a : Act} {Q : Exit → Act → World → Prop} {K : Act → World → Prop} {E : Prop}
theorem op_lookup_run (w : World) (hg : o.guard = none) (m x : Operand) (t : TypeId) (ho : o.op = Op.lookup t m x false) (vm vx : Value) (hm : a.eval m = vm) (hx : a.eval x = vx) {v' : Value}
    (hr : (Instr.lookup t vm vx false).run P w = .ok v' w) (h : K (a.put o.dst v') w) : if Region.wanted o (yielded ops a.tmps) = true then o.wp P a w K Q else E := by
  have hw : Region.wanted o (yielded ops a.tmps) = true := by simp [Region.wanted, hg]
  rw [if_pos hw]
  unfold Oper.wp
  simp [execOp, ho, hm, hx, hr, Result.andThen]
  exact h
theorem op_update_run (w : World) (hg : o.guard = none) (m x v : Operand) (t : TypeId) (ho : o.op = Op.mapUpdate t m x v) (vm vx vv : Value) (hm : a.eval m = vm) (hx : a.eval x = vx) (hv : a.eval v = vv) {w' : World}
    (hr : (Instr.mapUpdate t vm vx vv).run P w = .ok () w') (h : K (a.put o.dst undef) w') : if Region.wanted o (yielded ops a.tmps) = true then o.wp P a w K Q else E := by
  have hw : Region.wanted o (yielded ops a.tmps) = true := by simp [Region.wanted, hg]
  rw [if_pos hw]
  unfold Oper.wp
  simp [execOp, ho, hm, hx, hv, hr, Result.andThen]
  exact h
end

set_option maxHeartbeats 1000000 in
set_option maxRecDepth 100000 in
theorem waited_any (w : World) (F : Nat → Prop) (g bk bw : Nat) (T : Nat → Prop) (f : Tm → Value) (s : St) (h : SR w F g bk bw T f s) (x : Tm) (hx : vld 0 x = true) (hl : (mk x).length ≤ 1000000000000) :
    Calls Tryd.prog 49 #[.pointer (some ⟨g, 0, none⟩), .string ⟨⟨mk x⟩⟩] w fun e w' => e = .returned (f x) ∧ SR w' F g bk bw T (upd f x nils) ⟨s.kn, s.wt.filter fun p => !decide (p.1 = x)⟩ ∧ w.mapTurned w' bw := by
  obtain ⟨c0, c1⟩ : w.cell? ⟨g, 0, none⟩ = some (.map (some bk)) ∧ w.cell? ⟨g, 1, none⟩ = some (.map (some bw)) := ⟨by rw [cell_of_row _ _ _ _ _ _ h.st]; rfl, by rw [cell_of_row _ _ _ _ _ _ h.st]; rfl⟩
  obtain ⟨D, hown, h2, h3⟩ := h.wm
  have HSR := Lib.hid h
  have HK := Lib.hid (hkey (mk x) hl)
  have HO := Lib.hid hown
  have HH := Lib.hid (h3 x hx).2
  have H2 := Lib.hid h2
  have H3 := Lib.hid h3
  have HX := Lib.hid hx
  obtain ⟨m, hm⟩ : ∃ m, m = mk x := ⟨_, rfl⟩
  obtain ⟨v, hv⟩ : ∃ v, v = f x := ⟨_, rfl⟩
  rw [← hm, ← hv] at HH
  rw [← hm] at HK
  rw [← hm, ← hv]
  have HM := Lib.hid hm
  clear h h2 h3 hown hx hl hm hv
  go_enter Tryd.func49, Tryd.ntmps49
  go_wp2_with (first | (at_lookup; refine wpList_lookup_tok _ rfl (.tmp 9) (.tmp 10) 53 rfl 9 22 law Tryd.underlying53 (zeroL _) bw _ D rfl HO.out _ (.string m) rfl HK.out v HH.out ?_) | (at_delete; refine wpList_delete_own _ rfl (.tmp 15) (.tmp 16) 53 9 rfl 22 law Tryd.underlying53 tok bw _ D rfl HO.out _ (.string m) rfl HK.out ?_; intro w1 hown1 hturn1; have HOWN1 := Lib.hid hown1; have HTURN1 := Lib.hid hturn1; clear hown1 hturn1))
  go_ret
  have ho1 := HOWN1.out
  rw [HM.out] at ho1
  exact ⟨rfl, HSR.out.wake H2.out H3.out (HO.out.tidy law) ho1 HTURN1.out HX.out, HTURN1.out⟩

set_option maxHeartbeats 1000000 in
set_option maxRecDepth 100000 in
theorem openedK_any (w : World) (F : Nat → Prop) (g bk bw : Nat) (T : Nat → Prop) (f : Tm → Value) (s : St) (h : SR w F g bk bw T f s) (x y : Tm) (hx : vld 0 x = true) (hl : (mk x).length ≤ 1000000000000) (hk : x ∈ s.kn) (v : Value) (hr : RepC w T y v) :
    Calls Tryd.prog 50 #[.pointer (some ⟨g, 0, none⟩), .string ⟨⟨mk x⟩⟩, v] w fun e w' => ∃ b, e = .returned (.slice (some ⟨b, 0, none⟩) 1 1) ∧ QRow w' T [y] (some ⟨b, 0, none⟩) ∧ Below w.heap.size w w' := by
  obtain ⟨k', s', n', p⟩ := y
  have hr0 := hr
  obtain ⟨A, ca, rfl, -, -⟩ := repc_mk.1 hr
  have hTl : ∀ i, T i → i < w.heap.size := fun i hi => h.lt i (h.tF i hi).1
  have hb1 : Below w.heap.size w (w.alloc (.cells #[.int .i64 k', .string ⟨⟨s'⟩⟩, .int .i64 n', .slice A p.length ca] 33)) := (Below.refl _ _).alloc (Nat.le_refl _) _
  have hz := heap_alloc_new w (.cells #[.int .i64 k', .string ⟨⟨s'⟩⟩, .int .i64 n', .slice A p.length ca] 33)
  obtain ⟨z, hzz⟩ : ∃ z, z = w.heap.size := ⟨_, rfl⟩
  rw [← hzz] at hz
  have HC := Lib.hid (has_any _ F g bk bw T f s (h.below hb1) x hx hl)
  have HB1 := Lib.hid hb1
  have HR := Lib.hid hr0
  have HTL := Lib.hid hTl
  have HZZ := Lib.hid hzz
  have HZ := Lib.hid hz
  have e : decide (x ∈ s.kn) = true := decide_eq_true hk
  rw [e] at HC
  obtain ⟨m, hm⟩ : ∃ m, m = mk x := ⟨_, rfl⟩
  rw [← hm] at HC ⊢
  clear h hx hl hk hr hr0 hb1 hTl hz hzz hm e
  go_enter Tryd.func50, Tryd.ntmps50
  go_wp2_with fail
  rw [← HZZ.out]
  refine HC.out.mono ?_
  rintro _ w2 ⟨rfl, hb2⟩
  have hlt := (Array.getElem?_eq_some_iff.1 HZ.out).1
  obtain ⟨c0, c1, c2, c3⟩ := cell4 ((hb2.block z hlt).trans HZ.out)
  have HB2 := Lib.hid (HB1.out.trans (hb2.mono HB1.out.size))
  clear hb2 HC HZ hlt
  go_wp2
  go_ret
  exact ⟨_, rfl, QRow.new (repc_keep (fun _ h => h) (fun c o hc => HB2.out.cell (p := ⟨c, o, none⟩) (HTL.out c hc)) _ _ HR.out) (fun i hi => Nat.lt_of_lt_of_le (HTL.out i hi) HB2.out.size) _, HB2.out.trans ((Below.refl _ _).alloc HB2.out.size _)⟩
end Go.Proofs.YtiidooponlbnmaaDoor.Kn
