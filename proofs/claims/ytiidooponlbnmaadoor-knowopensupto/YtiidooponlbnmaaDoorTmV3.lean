/- append of one term onto a row of one's own. -/
import Derived.Test.YtiidooponlbnmaaDoorTmW13
import Derived.OwnWalk
namespace Go.Proofs.YtiidooponlbnmaaDoor.Te
open Go.RowKit
open Tt

/-- A row of terms of one's own, with whatever room. -/
def OwnT (S : Nat → Prop) (w : World) (base : Nat) (v : Value) (l : List Tm) : Prop := ∃ xs, w.ownsRow base 33 4 v l.length xs ∧ Els w S l xs

theorem OwnT.nil (S : Nat → Prop) (w : World) (base : Nat) : OwnT S w base (.slice none 0 0) [] := ⟨[], World.ownsRow_nil w base _ _, by rw [Els]⟩
theorem OwnT.form {S : Nat → Prop} {w : World} {base : Nat} {v : Value} {l : List Tm} (h : OwnT S w base v l) : ∃ A ca, v = .slice A l.length ca := by
  obtain ⟨xs, ⟨_, h⟩, _⟩ := h
  rcases h with ⟨rfl, h0⟩ | ⟨g, cap, cur, rfl, _⟩
  · exact ⟨none, 0, by rw [h0]⟩
  · exact ⟨_, _, rfl⟩
theorem OwnT.lt {S : Nat → Prop} {w : World} {base : Nat} {v : Value} {l : List Tm} (h : OwnT S w base v l) : ∀ k, v.ownBlock = some k → base ≤ k ∧ k < w.heap.size := by
  obtain ⟨xs, h, _⟩ := h
  exact World.ownsRow.lt h
theorem OwnT.row {S S' : Nat → Prop} {w : World} {base n ca : Nat} {A : Option Addr} {l : List Tm} (h : OwnT S w base (.slice A n ca) l) (hS : ∀ b, S b → S' b) (hO : ∀ b, (Value.slice A n ca).ownBlock = some b → S' b) : TRow w S' l A := by
  obtain ⟨A', ca', hf⟩ := h.form
  injection hf with e1 e2 e3
  subst e1 e2 e3
  obtain ⟨xs, h1, h2⟩ := h
  exact trow_of_own h1 (els_keep hS (fun _ _ _ => rfl) _ _ h2) rfl hO
/-- It stays where its own block, and what its terms lead to, stays. -/
theorem OwnT.keep {S S' : Nat → Prop} {w w' : World} {base : Nat} {v : Value} {l : List Tm} (h : OwnT S w base v l) (ho : ∀ k, v.ownBlock = some k → w'.heap[k]? = w.heap[k]?) (hS : ∀ b, S b → S' b) (hk : ∀ b, S b → w'.heap[b]? = w.heap[b]?) : OwnT S' w' base v l := by
  obtain ⟨xs, ⟨h0, h1⟩, h2⟩ := h
  refine ⟨xs, ⟨h0, ?_⟩, els_keep hS (fun b o hb => World.cell?_of_block (a := ⟨b, o, none⟩) (hk b hb)) _ _ h2⟩
  rcases h1 with h1 | ⟨g, cap, cur, rfl, h3, h4, h5⟩
  · exact .inl h1
  · exact .inr ⟨g, cap, cur, rfl, h3, (ho g rfl).trans h4, h5⟩
theorem OwnT.below {S : Nat → Prop} {w w' : World} {base : Nat} {v : Value} {l : List Tm} (h : OwnT S w base v l) (hb : Below w.heap.size w w') (hS : ∀ b, S b → b < w.heap.size) : OwnT S w' base v l :=
  h.keep (fun k hk => hb.block k (h.lt k hk).2) (fun _ h => h) (fun b hb' => hb.block b (hS b hb'))

theorem NewRow.own {S S' : Nat → Prop} {m base : Nat} {w' : World} {l : List Tm} {u : Value} (h : NewRow S m w' l u) (hm : base ≤ m) (hl : l.length ≤ 1000000) (hS : ∀ b, S b → S' b) : OwnT S' w' base u l := by
  obtain ⟨g, xs, rfl, hg, hc, he⟩ := h
  have hlen := els_len l xs he
  refine ⟨xs, ⟨hlen, .inr ⟨g, l.length, xs.toArray, rfl, by omega, hc, Nat.le_refl _, by simp [maxLen]; omega, by simpa using hlen, ?_⟩⟩, els_keep hS (fun _ _ _ => rfl) l xs he⟩
  simp [← hlen]

theorem one_cells {w : World} {S : Nat → Prop} {x : Tm} {v0 v1 v2 v3 : Value} (h : Rep w S x (.agg #[v0, v1, v2, v3])) : ∀ u ∈ [v0, v1, v2, v3], u.oneCell' = true := by
  have := els_one_cell [x] [v0, v1, v2, v3] (els_one h)
  exact this

set_option maxHeartbeats 400000 in
set_option maxRecDepth 100000 in
theorem wpList_appT (wr : World) {ops : Array Oper} {rest : List Oper} {o : Oper} {a : Act} {Q : Exit → Act → World → Prop} (hgd : o.guard = none) (s x : Operand)
    (ho : o.op = .call { callee := .builtin .append, args := #[s, x], argTypes := #[22, 22] }) (base : Nat) (v : Value) (l : List Tm) (y : Tm) (v0 v1 v2 v3 : Value) (S : Nat → Prop) (hs : a.eval s = v) (m : Nat) (hm : m = wr.heap.size) (hx : a.eval x = .slice (some ⟨m, 0, none⟩) 1 1)
    (hown : OwnT S wr base v l) (hy : Rep wr S y (.agg #[v0, v1, v2, v3])) (hS : ∀ b, S b → b < base) (hl : l.length ≤ 1000000) (hbase : base ≤ wr.heap.size)
    (h : ∀ v' w', OwnT S w' base v' (l ++ [y]) → Below base wr w' → (∀ k, k < wr.heap.size → v.ownBlock ≠ some k → w'.heap[k]? = wr.heap[k]?) → (∀ k, v'.ownBlock = some k → v.ownBlock = some k ∨ wr.heap.size ≤ k) → wr.heap.size ≤ w'.heap.size → wpList Tryd.prog ops Q rest (a.put o.dst v') w') :
    wpList Tryd.prog ops Q (o :: rest) a (wr.alloc (.cells #[v0, v1, v2, v3] 33)) := by
  subst hm
  obtain ⟨i, hi, he⟩ := Option.map_eq_some_iff.1 infoT
  simp only [Prod.mk.injEq] at he
  obtain ⟨hz, hsz, hb⟩ := he
  have hg := heap_alloc_new wr (.cells #[v0, v1, v2, v3] 33)
  have hlt := hown.lt
  obtain ⟨xs, hrow, hels⟩ := hown
  have hown' : (wr.alloc (.cells #[v0, v1, v2, v3] 33)).ownsRow base 33 4 v l.length xs := World.ownsRow.alloc hrow _
  refine wpList_append_own_at _ hgd s x 22 ho base 33 i _ 4 56 Tryd.underlying22 hi hz hsz hb rfl (by decide) v l.length xs hs hown' ⟨wr.heap.size, 0, none⟩ 1 1 [v0, v1, v2, v3] hx rfl (fun j u hu => ?_) (one_cells hy) (by simp only [maxLen]; omega) (by omega) (by simp; omega) fun v' w' h1 h2 _ h4 => h v' w' ?_ ?_ ?_ ?_ ?_
  · rw [Addr.add_lit]
    exact (cell_of_row _ _ _ _ _ _ hg).trans (by simpa using hu)
  · refine ⟨_, by rw [List.length_append, List.length_singleton]; exact h1, ?_⟩
    have hblk : ∀ b, S b → w'.heap[b]? = wr.heap[b]? := fun b hb' => by
      have hb2 := hS b hb'
      rw [h2.block b (by simp; omega) (fun e => by have := hlt b e.symm; omega)]
      exact heap_alloc_old wr _ (by omega)
    exact els_keep (fun _ h => h) (fun b o hb' => World.cell?_of_block (a := ⟨b, o, none⟩) (hblk b hb')) _ _ (els_app l xs [y] [v0, v1, v2, v3] hels (els_one hy))
  · exact Below.grown ((Below.refl _ _).alloc hbase _) h2 (by simp; omega) (fun k hk => (hlt k hk).1)
  · intro k hk hne
    rw [h2.block k (by simp; omega) (fun e => hne e.symm)]
    exact heap_alloc_old wr _ hk
  · intro k hk
    rcases h4 with h4 | h4
    · exact .inl (h4 ▸ hk)
    · rw [h4] at hk
      injection hk with hk
      simp at hk
      exact .inr (by omega)
  · have := h2.size
    simp at this
    omega

/-- One cell of a term's block is set. -/
theorem set1L {w : World} {g : Nat} {v0 v1 v2 v3 : Value} {t : TypeId} (h : w.heap[g]? = some (.cells #[v0, v1, v2, v3] t (0, 0))) (u : Value) : w.setCell ⟨g, 3, none⟩ u = w.setRow g #[v0, v1, v2, u] := by
  rw [setCell_eq_setRow w g 3 _ t (0, 0) u h]
  rfl
theorem lrow_one {w : World} {S : Nat → Prop} {x : Tm} {a0 a1 a2 a3 : Value} (hx : Rep w S x (.agg #[a0, a1, a2, a3])) (hS : ∀ b, S b → b < w.heap.size) (t : TypeId) :
    LRow (w.alloc (.cells #[a0, a1, a2, a3] t)) S [x] (some ⟨w.heap.size, 0, none⟩) := by
  refine .inr ⟨w.heap.size, 0, [a0, a1, a2, a3], rfl, by simp, by rw [Els, Els]; exact ⟨rep_alloc hx _ (fun b hb => ⟨hS b hb, hb⟩), rfl⟩, fun j u hj => ?_⟩
  rw [Nat.zero_add, cell_of_row _ _ _ _ _ _ (heap_alloc_new w _)]
  simpa using hj
end Go.Proofs.YtiidooponlbnmaaDoor.Te
