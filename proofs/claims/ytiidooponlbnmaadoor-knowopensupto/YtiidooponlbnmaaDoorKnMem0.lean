/- A term in memory, each list with room for what is in it. (Laid with NS=1.) -/
import Derived.Test.YtiidooponlbnmaaDoorTmV3
namespace Go.Proofs.YtiidooponlbnmaaDoor.Kn
open Go.RowKit
open Te Te.Tt

mutual
/-- The value v is the term x in the world w; whatever memory it leads to lies in blocks that S lets. -/
def RepC (w : World) (S : Nat → Prop) : Tm → Value → Prop
  | .mk k s n l, v => ∃ (A : Option Addr) (cap : Nat), v = .agg #[.int .i64 k, .string ⟨⟨s⟩⟩, .int .i64 n, .slice A l.length cap] ∧ (InR n ∧ l.length ≤ cap) ∧ (l = [] ∨ ∃ b o, A = some ⟨b, o, none⟩ ∧ S b ∧ RepsC w S l b o)
/-- The terms l lie one behind the other from cell o of block b on. -/
def RepsC (w : World) (S : Nat → Prop) : List Tm → Nat → Nat → Prop
  | [], _, _ => True
  | x :: r, b, o => (∃ v0 v1 v2 v3, w.cell? ⟨b, o, none⟩ = some v0 ∧ w.cell? ⟨b, o + 1, none⟩ = some v1 ∧ w.cell? ⟨b, o + 2, none⟩ = some v2 ∧ w.cell? ⟨b, o + 3, none⟩ = some v3 ∧ RepC w S x (.agg #[v0, v1, v2, v3])) ∧ RepsC w S r b (o + 4)
end

/-- A slice whose terms are l. -/
def TRowC (w : World) (S : Nat → Prop) (l : List Tm) (A : Option Addr) : Prop := l = [] ∨ ∃ b o, A = some ⟨b, o, none⟩ ∧ S b ∧ RepsC w S l b o

theorem repc_mk {w : World} {S : Nat → Prop} {k : Int} {s : List UInt8} {n : Int} {l : List Tm} {v : Value} :
    RepC w S (.mk k s n l) v ↔ ∃ (A : Option Addr) (cap : Nat), v = .agg #[.int .i64 k, .string ⟨⟨s⟩⟩, .int .i64 n, .slice A l.length cap] ∧ (InR n ∧ l.length ≤ cap) ∧ TRowC w S l A := by
  rw [RepC]; rfl

theorem repc_keep {w w' : World} {S S' : Nat → Prop} (hS : ∀ b, S b → S' b) (hc : ∀ b o, S b → w'.cell? ⟨b, o, none⟩ = w.cell? ⟨b, o, none⟩) :
    ∀ x v, RepC w S x v → RepC w' S' x v := fun x =>
  Tm.rec (motive_1 := fun x => ∀ v, RepC w S x v → RepC w' S' x v) (motive_2 := fun l => ∀ b o, S b → RepsC w S l b o → RepsC w' S' l b o)
    (fun k s n l hl v h => by
      rw [RepC] at h ⊢
      obtain ⟨A, cap, rfl, hn, h⟩ := h
      refine ⟨A, cap, rfl, hn, ?_⟩
      rcases h with h | ⟨b, o, rfl, hb, hr⟩
      · exact .inl h
      · exact .inr ⟨b, o, rfl, hS b hb, hl b o hb hr⟩)
    (fun b o _ _ => by rw [RepsC]; trivial)
    (fun x l hx hl b o hb h => by
      rw [RepsC] at h ⊢
      obtain ⟨⟨v0, v1, v2, v3, h0, h1, h2, h3, h4⟩, h5⟩ := h
      exact ⟨⟨v0, v1, v2, v3, by rw [hc b _ hb, h0], by rw [hc b _ hb, h1], by rw [hc b _ hb, h2], by rw [hc b _ hb, h3], hx _ h4⟩, hl b _ hb h5⟩) x

theorem trowc_keep {w w' : World} {S S' : Nat → Prop} {l : List Tm} {A : Option Addr} (hS : ∀ b, S b → S' b) (hc : ∀ b o, S b → w'.cell? ⟨b, o, none⟩ = w.cell? ⟨b, o, none⟩) (h : TRowC w S l A) : TRowC w' S' l A := by
  have h1 := repc_keep hS hc (.mk 0 [] 0 l) _ (repc_mk.2 ⟨A, l.length, rfl, ⟨⟨by omega, by omega⟩, Nat.le_refl _⟩, h⟩)
  obtain ⟨A', cap', hv, _, hr⟩ := repc_mk.1 h1
  injection hv with hv
  simp at hv
  rw [hv.1]
  exact hr

theorem repc_alloc {w : World} {S S' : Nat → Prop} {x : Tm} {v : Value} (h : RepC w S x v) (o : Obj) (hS : ∀ b, S b → b < w.heap.size ∧ S' b) : RepC (w.alloc o) S' x v :=
  repc_keep (fun b hb => (hS b hb).2) (fun b _ hb => World.cell?_of_block (Below.heap_alloc w o b (hS b hb).1)) _ _ h
theorem repc_below {w w' : World} {S : Nat → Prop} {x : Tm} {v : Value} (h : RepC w S x v) (hb : Below w.heap.size w w') (hS : ∀ b, S b → b < w.heap.size) : RepC w' S x v :=
  repc_keep (fun _ h => h) (fun c o hc => hb.cell (p := ⟨c, o, none⟩) (hS c hc)) _ _ h
theorem trowc_below {w w' : World} {S : Nat → Prop} {l : List Tm} {A : Option Addr} (h : TRowC w S l A) (hb : Below w.heap.size w w') (hS : ∀ b, S b → b < w.heap.size) : TRowC w' S l A :=
  trowc_keep (fun _ h => h) (fun c o hc => hb.cell (p := ⟨c, o, none⟩) (hS c hc)) h
theorem repc_at {w w' : World} {n : Nat} {S : Nat → Prop} {x : Tm} {v : Value} (h : RepC w S x v) (hb : Below n w w') (hS : ∀ b, S b → b < n) : RepC w' S x v :=
  repc_keep (fun _ h => h) (fun c o hc => hb.cell (p := ⟨c, o, none⟩) (hS c hc)) _ _ h
theorem trowc_at {w w' : World} {n : Nat} {S : Nat → Prop} {l : List Tm} {A : Option Addr} (h : TRowC w S l A) (hb : Below n w w') (hS : ∀ b, S b → b < n) : TRowC w' S l A :=
  trowc_keep (fun _ h => h) (fun c o hc => hb.cell (p := ⟨c, o, none⟩) (hS c hc)) h

theorem repsc_at {w : World} {S : Nat → Prop} : ∀ (l : List Tm) (b o i : Nat) (x : Tm), RepsC w S l b o → l[i]? = some x →
    ∃ v0 v1 v2 v3, w.cell? ⟨b, o + i * 4, none⟩ = some v0 ∧ w.cell? ⟨b, o + i * 4 + 1, none⟩ = some v1 ∧ w.cell? ⟨b, o + i * 4 + 2, none⟩ = some v2 ∧ w.cell? ⟨b, o + i * 4 + 3, none⟩ = some v3 ∧ RepC w S x (.agg #[v0, v1, v2, v3])
  | [], _, _, _, _, _, h => by simp at h
  | y :: r, b, o, 0, x, h, hx => by
    rw [RepsC] at h
    simp at hx
    subst hx
    simpa using h.1
  | y :: r, b, o, i + 1, x, h, hx => by
    rw [RepsC] at h
    simp at hx
    have := repsc_at r b (o + 4) i x h.2 hx
    have e : o + 4 + i * 4 = o + (i + 1) * 4 := by omega
    rw [e] at this
    exact this

/-- The cells xs are the terms l, four cells each. -/
def ElsC (w : World) (S : Nat → Prop) : List Tm → List Value → Prop
  | [], xs => xs = []
  | x :: r, v0 :: v1 :: v2 :: v3 :: xs => RepC w S x (.agg #[v0, v1, v2, v3]) ∧ ElsC w S r xs
  | _ :: _, _ => False

theorem elsc_keep {w w' : World} {S S' : Nat → Prop} (hS : ∀ b, S b → S' b) (hc : ∀ b o, S b → w'.cell? ⟨b, o, none⟩ = w.cell? ⟨b, o, none⟩) :
    ∀ l xs, ElsC w S l xs → ElsC w' S' l xs
  | [], xs, h => by rw [ElsC] at h ⊢; exact h
  | x :: r, v0 :: v1 :: v2 :: v3 :: xs, h => by rw [ElsC] at h ⊢; exact ⟨repc_keep hS hc _ _ h.1, elsc_keep hS hc r xs h.2⟩
  | _ :: _, [], h => by simp [ElsC] at h
  | _ :: _, [_], h => by simp [ElsC] at h
  | _ :: _, [_, _], h => by simp [ElsC] at h
  | _ :: _, [_, _, _], h => by simp [ElsC] at h

theorem elsc_app {w : World} {S : Nat → Prop} : ∀ l xs m ys, ElsC w S l xs → ElsC w S m ys → ElsC w S (l ++ m) (xs ++ ys)
  | [], xs, m, ys, h, h' => by
    rw [ElsC] at h
    subst h
    exact h'
  | y :: r, u0 :: u1 :: u2 :: u3 :: xs, m, ys, h, h' => by
    rw [ElsC] at h
    simp only [List.cons_append]
    rw [ElsC]
    exact ⟨h.1, elsc_app r xs m ys h.2 h'⟩
  | _ :: _, [], _, _, h, _ => by simp [ElsC] at h
  | _ :: _, [_], _, _, h, _ => by simp [ElsC] at h
  | _ :: _, [_, _], _, _, h, _ => by simp [ElsC] at h
  | _ :: _, [_, _, _], _, _, h, _ => by simp [ElsC] at h
theorem elsc_one {w : World} {S : Nat → Prop} {x : Tm} {v0 v1 v2 v3 : Value} (hx : RepC w S x (.agg #[v0, v1, v2, v3])) : ElsC w S [x] [v0, v1, v2, v3] := by
  rw [ElsC]; exact ⟨hx, by rw [ElsC]⟩

theorem elsc_reps {w : World} {S : Nat → Prop} {b : Nat} : ∀ l xs o, ElsC w S l xs → (∀ j u, xs[j]? = some u → w.cell? ⟨b, o + j, none⟩ = some u) → RepsC w S l b o
  | [], xs, o, _, _ => by rw [RepsC]; trivial
  | x :: r, v0 :: v1 :: v2 :: v3 :: xs, o, h, hc => by
    rw [ElsC] at h
    rw [RepsC]
    refine ⟨⟨v0, v1, v2, v3, hc 0 v0 rfl, hc 1 v1 rfl, hc 2 v2 rfl, hc 3 v3 rfl, h.1⟩, elsc_reps r xs (o + 4) h.2 fun j u hj => ?_⟩
    have := hc (j + 4) u (by simpa using hj)
    rw [show o + (j + 4) = o + 4 + j by omega] at this
    exact this
  | _ :: _, [], _, h, _ => by simp [ElsC] at h
  | _ :: _, [_], _, h, _ => by simp [ElsC] at h
  | _ :: _, [_, _], _, h, _ => by simp [ElsC] at h
  | _ :: _, [_, _, _], _, h, _ => by simp [ElsC] at h

theorem elsc_len {w : World} {S : Nat → Prop} : ∀ l xs, ElsC w S l xs → xs.length = l.length * 4
  | [], xs, h => by rw [ElsC] at h; subst h; rfl
  | x :: r, v0 :: v1 :: v2 :: v3 :: xs, h => by
    rw [ElsC] at h
    have := elsc_len r xs h.2
    simp [this]; omega
  | _ :: _, [], h => by simp [ElsC] at h
  | _ :: _, [_], h => by simp [ElsC] at h
  | _ :: _, [_, _], h => by simp [ElsC] at h
  | _ :: _, [_, _, _], h => by simp [ElsC] at h

/-- The cells of a row are its terms. -/
theorem repsc_els {w : World} {S : Nat → Prop} {b : Nat} : ∀ l o, RepsC w S l b o → ∃ xs, ElsC w S l xs ∧ ∀ j u, xs[j]? = some u → w.cell? ⟨b, o + j, none⟩ = some u
  | [], o, _ => ⟨[], by rw [ElsC], by simp⟩
  | x :: r, o, h => by
    rw [RepsC] at h
    obtain ⟨⟨v0, v1, v2, v3, h0, h1, h2, h3, h4⟩, h5⟩ := h
    obtain ⟨xs, he, hc⟩ := repsc_els r (o + 4) h5
    refine ⟨v0 :: v1 :: v2 :: v3 :: xs, by rw [ElsC]; exact ⟨h4, he⟩, fun j u hj => ?_⟩
    match j, hj with
    | 0, hj => simp at hj; subst hj; simpa using h0
    | 1, hj => simp at hj; subst hj; exact h1
    | 2, hj => simp at hj; subst hj; exact h2
    | 3, hj => simp at hj; subst hj; exact h3
    | j + 4, hj =>
      have := hc j u (by simpa using hj)
      rw [show o + 4 + j = o + (j + 4) by omega] at this
      exact this

/-- A row that the call owns, and whose cells are terms, is a slice of them. -/
theorem trowc_of_own {w : World} {S : Nat → Prop} {base n cap : Nat} {A : Option Addr} {l : List Tm} {xs : List Value} (h : w.ownsRow base 33 4 (.slice A n cap) n xs) (he : ElsC w S l xs) (hl : l.length = n) (hS : ∀ b, (Value.slice A n cap).ownBlock = some b → S b) : TRowC w S l A := by
  rcases h.2 with ⟨hv, hn⟩ | ⟨g, cap', cur, hv, _⟩
  · exact .inl (List.eq_nil_of_length_eq_zero (by omega))
  · injection hv with h1 h2 h3
    subst h1
    refine .inr ⟨g, 0, rfl, hS g rfl, elsc_reps l xs 0 he fun j u hj => ?_⟩
    have := h.cells (g := g) rfl j u hj
    rw [Nat.zero_add]
    simpa [Addr.add_lit] using this

/-- A row of terms of one's own, with whatever room. -/
def OwnC (S : Nat → Prop) (w : World) (base : Nat) (v : Value) (l : List Tm) : Prop := ∃ xs, w.ownsRow base 33 4 v l.length xs ∧ ElsC w S l xs

theorem OwnC.nil (S : Nat → Prop) (w : World) (base : Nat) : OwnC S w base (.slice none 0 0) [] := ⟨[], World.ownsRow_nil w base _ _, by rw [ElsC]⟩
theorem OwnC.form {S : Nat → Prop} {w : World} {base : Nat} {v : Value} {l : List Tm} (h : OwnC S w base v l) : ∃ A ca, v = .slice A l.length ca := by
  obtain ⟨xs, ⟨_, h⟩, _⟩ := h
  rcases h with ⟨rfl, h0⟩ | ⟨g, cap, cur, rfl, _⟩
  · exact ⟨none, 0, by rw [h0]⟩
  · exact ⟨_, _, rfl⟩
theorem OwnC.lt {S : Nat → Prop} {w : World} {base : Nat} {v : Value} {l : List Tm} (h : OwnC S w base v l) : ∀ k, v.ownBlock = some k → base ≤ k ∧ k < w.heap.size := by
  obtain ⟨xs, h, _⟩ := h
  exact World.ownsRow.lt h
theorem OwnC.row {S S' : Nat → Prop} {w : World} {base n ca : Nat} {A : Option Addr} {l : List Tm} (h : OwnC S w base (.slice A n ca) l) (hS : ∀ b, S b → S' b) (hO : ∀ b, (Value.slice A n ca).ownBlock = some b → S' b) : TRowC w S' l A := by
  obtain ⟨A', ca', hf⟩ := h.form
  injection hf with e1 e2 e3
  subst e1 e2 e3
  obtain ⟨xs, h1, h2⟩ := h
  exact trowc_of_own h1 (elsc_keep hS (fun _ _ _ => rfl) _ _ h2) rfl hO
/-- It stays where its own block, and what its terms lead to, stays. -/
theorem OwnC.keep {S S' : Nat → Prop} {w w' : World} {base : Nat} {v : Value} {l : List Tm} (h : OwnC S w base v l) (ho : ∀ k, v.ownBlock = some k → w'.heap[k]? = w.heap[k]?) (hS : ∀ b, S b → S' b) (hk : ∀ b, S b → w'.heap[b]? = w.heap[b]?) : OwnC S' w' base v l := by
  obtain ⟨xs, ⟨h0, h1⟩, h2⟩ := h
  refine ⟨xs, ⟨h0, ?_⟩, elsc_keep hS (fun b o hb => World.cell?_of_block (a := ⟨b, o, none⟩) (hk b hb)) _ _ h2⟩
  rcases h1 with h1 | ⟨g, cap, cur, rfl, h3, h4, h5⟩
  · exact .inl h1
  · exact .inr ⟨g, cap, cur, rfl, h3, (ho g rfl).trans h4, h5⟩
theorem OwnC.below {S : Nat → Prop} {w w' : World} {base : Nat} {v : Value} {l : List Tm} (h : OwnC S w base v l) (hb : Below w.heap.size w w') (hS : ∀ b, S b → b < w.heap.size) : OwnC S w' base v l :=
  h.keep (fun k hk => hb.block k (h.lt k hk).2) (fun _ h => h) (fun b hb' => hb.block b (hS b hb'))


mutual
/-- It is the term, as ever. -/
theorem RepC.rep {w : World} {S : Nat → Prop} : ∀ {x : Tm} {v : Value}, RepC w S x v → Rep w S x v
  | .mk k s n l, v, h => by
    rw [RepC] at h
    rw [Rep]
    obtain ⟨A, cap, rfl, hn, h⟩ := h
    refine ⟨A, cap, rfl, hn.1, ?_⟩
    rcases h with h | ⟨b, o, rfl, hb, hr⟩
    · exact .inl h
    · exact .inr ⟨b, o, rfl, hb, RepsC.reps hr⟩
theorem RepsC.reps {w : World} {S : Nat → Prop} : ∀ {l : List Tm} {b o : Nat}, RepsC w S l b o → Reps w S l b o
  | [], _, _, _ => by rw [Reps]; trivial
  | x :: r, b, o, h => by
    rw [RepsC] at h
    rw [Reps]
    obtain ⟨⟨v0, v1, v2, v3, h0, h1, h2, h3, h4⟩, h5⟩ := h
    exact ⟨⟨v0, v1, v2, v3, h0, h1, h2, h3, RepC.rep h4⟩, RepsC.reps h5⟩
end
theorem elsc_one_cell {w : World} {S : Nat → Prop} : ∀ (l : List Tm) (xs : List Value), ElsC w S l xs → ∀ u ∈ xs, u.oneCell' = true
  | [], xs, h, u, hu => by rw [ElsC] at h; subst h; cases hu
  | x :: r, v0 :: v1 :: v2 :: v3 :: xs, h, u, hu => by
    rw [ElsC] at h
    obtain ⟨k, s, n, q⟩ := x
    obtain ⟨A, ca, hv, -, -⟩ := repc_mk.1 h.1
    injection hv with hv
    simp at hv
    obtain ⟨rfl, rfl, rfl, rfl⟩ := hv
    simp only [List.mem_cons] at hu
    rcases hu with rfl | rfl | rfl | rfl | hu
    · rfl
    · rfl
    · rfl
    · rfl
    · exact elsc_one_cell r xs h.2 u hu
  | _ :: _, [], h, _, _ => by simp [ElsC] at h
  | _ :: _, [_], h, _, _ => by simp [ElsC] at h
  | _ :: _, [_, _], h, _, _ => by simp [ElsC] at h
  | _ :: _, [_, _, _], h, _, _ => by simp [ElsC] at h
end Go.Proofs.YtiidooponlbnmaaDoor.Kn
