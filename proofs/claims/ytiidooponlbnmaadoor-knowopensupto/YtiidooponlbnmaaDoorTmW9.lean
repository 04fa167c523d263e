/- Parts. -/
import Derived.Test.YtiidooponlbnmaaDoorTmW3
import Derived.Test.YtiidooponlbnmaaDoorTmW5
import Derived.Test.YtiidooponlbnmaaDoorTmInv
import Derived.Laws.OwnMore
namespace Go.Proofs.YtiidooponlbnmaaDoor.Te
open Go.RowKit Go.Shelf
open Tt
attribute [local go_sem] Oper.semAt_some

theorem Kps.appd {n0 B : Nat} {W W' : World} {t : TypeId} {v v' : Value} (hb : Boxed W B t v) (hb' : Boxed W' B t v') (hat : v'.ownBlock = v.ownBlock ∨ ∃ k, v'.ownBlock = some k ∧ W.heap.size ≤ k)
    (hkeep : ∀ b o, W.heap[b]? = some o → b ≠ B → some b ≠ v.ownBlock → W'.heap[b]? = some o) (hbel : Below n0 W W') (hlt : ∀ b, v'.ownBlock = some b → b < W'.heap.size) : Kps n0 B W W' := by
  have r := rowAt_box hb
  have r' := rowAt_box hb'
  refine ⟨hbel, fun b o h1 _ h2 => hkeep b o h1 (fun e => h2 (.inl e)) (fun e => h2 (.inr (by rw [r, ← e]))), fun b hlt' hm => ?_, fun hv => ⟨hb'.lt, fun b hb2 => hlt b (by rw [← r', hb2])⟩⟩
  rcases hm with rfl | hm
  · exact .inl rfl
  · rw [r'] at hm
    rcases hat with h | ⟨k, h, hk⟩
    · exact .inr (by rw [r, ← h, hm])
    · rw [h] at hm; cases hm; omega

def vcells : Value → List Value
  | .agg a => a.toList
  | _ => []
def flatEls {w0 : World} {S : Nat → Prop} (pre : List (El w0 S)) : List Value := pre.flatMap fun x => vcells x.1.2.2
theorem flatEls_snoc {w0 : World} {S : Nat → Prop} (pre : List (El w0 S)) (x : El w0 S) : flatEls (pre ++ [x]) = flatEls pre ++ vcells x.1.2.2 := by
  simp [flatEls]
theorem els_flat {w0 : World} {S : Nat → Prop} : ∀ pre : List (El w0 S), Els w0 S (pre.map fun x => x.1.2.1) (flatEls pre)
  | [] => by simp [Els, flatEls]
  | x :: r => by
    have h := els_flat r
    obtain ⟨⟨d, y, u⟩, hu, hd⟩ := x
    obtain ⟨k, s, m, q⟩ := y
    have hu0 := hu
    obtain ⟨A, ca, rfl, -, -⟩ := rep_mk.1 hu
    simp only [List.map_cons, flatEls, List.flatMap_cons]
    exact els_app [Tm.mk k s m q] [.int .i64 k, .string ⟨⟨s⟩⟩, .int .i64 m, .slice A q.length ca] _ _ (els_one hu0) h

/-- What is so behind the two stores of 'l = append(l, p)', in either order. -/
structure Fin2 (n0 B g o : Nat) (v' : Value) (u : List Value) (cur : Array Value) (w1 W' : World) : Prop where
  box : Boxed W' B 22 v'
  row : ∃ cur' : Array Value, W'.heap[g]? = some (.cells cur' 33 (0, 0)) ∧ cur'.size = cur.size ∧ cur'.toList.take (o + 4) = cur.toList.take o ++ u
  rest : ∀ b, b ≠ B → b ≠ g → W'.heap[b]? = w1.heap[b]?
  size : W'.heap.size = w1.heap.size
  below : Below n0 w1 W'
  others : KeepsOthers w1 W'

theorem fin2_a {n0 B g o : Nat} {v v' u0 u1 u2 u3 : Value} {cur : Array Value} {w1 : World} (hg : w1.heap[g]? = some (.cells cur 33 (0, 0))) (hB : Boxed w1 B 22 v) (hne : g ≠ B) (hs : o + 4 ≤ cur.size) (h1 : n0 ≤ B) (h2 : n0 ≤ g) :
    Fin2 n0 B g o v' [u0, u1, u2, u3] cur w1 (((((w1.setCell ⟨g, o, none⟩ u0).setCell ⟨g, o + 1, none⟩ u1).setCell ⟨g, o + 2, none⟩ u2).setCell ⟨g, o + 3, none⟩ u3).setCell ⟨B, 0, none⟩ v') := by
  have hko := ((((KeepsOthers.setCell w1 ⟨g, o, none⟩ u0).trans (KeepsOthers.setCell _ ⟨g, o + 1, none⟩ u1)).trans (KeepsOthers.setCell _ ⟨g, o + 2, none⟩ u2)).trans (KeepsOthers.setCell _ ⟨g, o + 3, none⟩ u3)).trans (KeepsOthers.setCell _ ⟨B, 0, none⟩ v')
  obtain ⟨cur', he, hsz, htk⟩ := set4at hg hs u0 u1 u2 u3
  rw [he] at hko ⊢
  have hrow := setRow_heap w1 g cur cur' _ _ hg
  have hB1 : Boxed (w1.setRow g cur') B 22 v := (setRow_other w1 g B _ (Ne.symm hne)).trans hB
  exact ⟨hB1.set v', ⟨cur', (Below.heap_setCell _ ⟨B, 0, none⟩ v' g hne).trans hrow, hsz, htk⟩, fun b hb hb' => (Below.heap_setCell _ ⟨B, 0, none⟩ v' b hb).trans (setRow_other w1 g b _ hb'), by simp [World.setRow], (below_setRow4 (Below.refl _ _) h2 cur').setCell (p := ⟨B, 0, none⟩) h1 v', hko⟩
theorem fin2_b {n0 B g o : Nat} {v v' u0 u1 u2 u3 : Value} {cur : Array Value} {w1 : World} (hg : w1.heap[g]? = some (.cells cur 33 (0, 0))) (hB : Boxed w1 B 22 v) (hne : g ≠ B) (hs : o + 4 ≤ cur.size) (h1 : n0 ≤ B) (h2 : n0 ≤ g) :
    Fin2 n0 B g o v' [u0, u1, u2, u3] cur w1 (((((w1.setCell ⟨B, 0, none⟩ v').setCell ⟨g, o, none⟩ u0).setCell ⟨g, o + 1, none⟩ u1).setCell ⟨g, o + 2, none⟩ u2).setCell ⟨g, o + 3, none⟩ u3) := by
  have hko := ((((KeepsOthers.setCell w1 ⟨B, 0, none⟩ v').trans (KeepsOthers.setCell _ ⟨g, o, none⟩ u0)).trans (KeepsOthers.setCell _ ⟨g, o + 1, none⟩ u1)).trans (KeepsOthers.setCell _ ⟨g, o + 2, none⟩ u2)).trans (KeepsOthers.setCell _ ⟨g, o + 3, none⟩ u3)
  have hg' : (w1.setCell ⟨B, 0, none⟩ v').heap[g]? = some (.cells cur 33 (0, 0)) := (Below.heap_setCell _ ⟨B, 0, none⟩ v' g hne).trans hg
  obtain ⟨cur', he, hsz, htk⟩ := set4at hg' hs u0 u1 u2 u3
  rw [he] at hko ⊢
  have hrow := setRow_heap _ g cur cur' _ _ hg'
  exact ⟨(setRow_other _ g B _ (Ne.symm hne)).trans (hB.set v'), ⟨cur', hrow, hsz, htk⟩, fun b hb hb' => (setRow_other _ g b _ hb').trans (Below.heap_setCell _ ⟨B, 0, none⟩ v' b hb), by simp [World.setRow], below_setRow4 ((Below.refl _ _).setCell (p := ⟨B, 0, none⟩) h1 v') h2 cur', hko⟩

theorem opIn_append_run {F : Fence} {n : Nat} {P : Program} {ops : Array Oper} (w : World) {o : Oper} {a : Act} {K : Act → World → Prop} {Q : Exit → Act → World → Prop} {E : Prop}
    (hg : o.guard = none) (s x : Operand) (t : TypeId) (hop : o.op = Op.call { callee := Callee.builtin Builtin.append, args := #[s, x], argTypes := #[t, t] }) (v u : Value) (hs : a.eval s = v) (hx : a.eval x = u) {v' : Value} {w' : World}
    (hr : (Builtin.append_ #[t, t] o.type #[v, u]).run P w = .ok v' w') (h : K (a.put o.dst v') w') : if Region.wanted o (yielded ops a.tmps) = true then o.wpIn F n P a w K Q else E := by
  have hw : Region.wanted o (yielded ops a.tmps) = true := by simp [Region.wanted, hg]
  rw [if_pos hw]
  unfold Oper.wpIn
  refine ⟨?_, ?_⟩
  · simp [Oper.about, hop, resolve, Target.leads, Sem.run_pure]
  · rw [Oper.semAt_plain F _ _ (by rw [hop]; intro c hc'; cases hc')]
    simp [execOp, hop, resolve, invoke, builtin, hs, hx, hr, Result.andThen]
    exact h

/-- Where 'l = append(l, p)' stands when some of its operations have come up. -/
structure PI (B g : Nat) (n : Nat) (v v' p : Value) (h : Nat) (T : Value → Value → Value → Value → Value → Value → Act) (W0 W3 w1 w6 w7 w67 w76 : World) (L : Nat → Bool) (a : Act) (W : World) : Prop where
  frame : ∃ t10 t11 t12 t13 t14 t15, a = T t10 t11 t12 t13 t14 t15 ∧ (L 0 = true → t10 = v) ∧ (L 1 = true → t11 = p) ∧ (L 2 = true → t12 = .int .i64 (n : Nat)) ∧ (L 3 = true → t13 = .slice (some ⟨h, 0, none⟩) 1 1) ∧ (L 4 = true → t14 = v') ∧ (L 5 = true → t15 = .pointer (some ⟨g, n * 4, none⟩))
  o4 : L 4 = true → L 0 = true ∧ L 1 = true ∧ L 2 = true ∧ L 3 = true
  o5 : L 5 = true → L 4 = true
  o6 : L 6 = true → L 4 = true ∧ L 5 = true
  o7 : L 7 = true → L 4 = true
  early : L 4 = false → W = if L 3 = true then W3 else W0
  late : L 4 = true → (L 6 = false → L 7 = false → W = w1) ∧ (L 6 = true → L 7 = false → W = w6) ∧ (L 6 = false → L 7 = true → W = w7) ∧ (L 6 = true → L 7 = true → W = w67 ∨ W = w76)

end Go.Proofs.YtiidooponlbnmaaDoor.Te
