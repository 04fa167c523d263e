/- A term in memory. -/
import Derived.Test.YtehmfkcihieecaaRows
import Derived.Test.YtehmfkcihieecaaTmPure
import Derived.WalkKit
import Derived.Below
import Derived.Maps.AppendAt
import Derived.Lib.Hide
import Derived.RangeFuncBox
namespace Go.Proofs.Ytehmfkcihieecaa.Te
open Go.RowKit
open Tt

theorem heap_alloc_new (w : World) (o : Obj) : (w.alloc o).heap[w.heap.size]? = some o := World.alloc_heap_new w o
theorem heap_alloc_old (w : World) (o : Obj) {i : Nat} (h : i < w.heap.size) : (w.alloc o).heap[i]? = w.heap[i]? := Below.heap_alloc w o i h

/-- What an int holds. -/
def InR (n : Int) : Prop := -9223372036854775808 ≤ n ∧ n ≤ 9223372036854775807

mutual
/-- The value v is the term x in the world w; whatever memory it leads to lies in blocks that S lets. -/
def Rep (w : World) (S : Nat → Prop) : Tm → Value → Prop
  | .mk k s n l, v => ∃ (A : Option Addr) (cap : Nat), v = .agg #[.int .i64 k, .string ⟨⟨s⟩⟩, .int .i64 n, .slice A l.length cap] ∧ InR n ∧ (l = [] ∨ ∃ b o, A = some ⟨b, o, none⟩ ∧ S b ∧ Reps w S l b o)
/-- The terms l lie one behind the other from cell o of block b on. -/
def Reps (w : World) (S : Nat → Prop) : List Tm → Nat → Nat → Prop
  | [], _, _ => True
  | x :: r, b, o => (∃ v0 v1 v2 v3, w.cell? ⟨b, o, none⟩ = some v0 ∧ w.cell? ⟨b, o + 1, none⟩ = some v1 ∧ w.cell? ⟨b, o + 2, none⟩ = some v2 ∧ w.cell? ⟨b, o + 3, none⟩ = some v3 ∧ Rep w S x (.agg #[v0, v1, v2, v3])) ∧ Reps w S r b (o + 4)
end

/-- A slice whose terms are l. -/
def TRow (w : World) (S : Nat → Prop) (l : List Tm) (A : Option Addr) : Prop := l = [] ∨ ∃ b o, A = some ⟨b, o, none⟩ ∧ S b ∧ Reps w S l b o

theorem rep_mk {w : World} {S : Nat → Prop} {k : Int} {s : List UInt8} {n : Int} {l : List Tm} {v : Value} :
    Rep w S (.mk k s n l) v ↔ ∃ (A : Option Addr) (cap : Nat), v = .agg #[.int .i64 k, .string ⟨⟨s⟩⟩, .int .i64 n, .slice A l.length cap] ∧ InR n ∧ TRow w S l A := by
  rw [Rep]; rfl

theorem rep_keep {w w' : World} {S S' : Nat → Prop} (hS : ∀ b, S b → S' b) (hc : ∀ b o, S b → w'.cell? ⟨b, o, none⟩ = w.cell? ⟨b, o, none⟩) :
    ∀ x v, Rep w S x v → Rep w' S' x v := fun x =>
  Tm.rec (motive_1 := fun x => ∀ v, Rep w S x v → Rep w' S' x v) (motive_2 := fun l => ∀ b o, S b → Reps w S l b o → Reps w' S' l b o)
    (fun k s n l hl v h => by
      rw [Rep] at h ⊢
      obtain ⟨A, cap, rfl, hn, h⟩ := h
      refine ⟨A, cap, rfl, hn, ?_⟩
      rcases h with h | ⟨b, o, rfl, hb, hr⟩
      · exact .inl h
      · exact .inr ⟨b, o, rfl, hS b hb, hl b o hb hr⟩)
    (fun b o _ _ => by rw [Reps]; trivial)
    (fun x l hx hl b o hb h => by
      rw [Reps] at h ⊢
      obtain ⟨⟨v0, v1, v2, v3, h0, h1, h2, h3, h4⟩, h5⟩ := h
      exact ⟨⟨v0, v1, v2, v3, by rw [hc b _ hb, h0], by rw [hc b _ hb, h1], by rw [hc b _ hb, h2], by rw [hc b _ hb, h3], hx _ h4⟩, hl b _ hb h5⟩) x

theorem trow_keep {w w' : World} {S S' : Nat → Prop} {l : List Tm} {A : Option Addr} (hS : ∀ b, S b → S' b) (hc : ∀ b o, S b → w'.cell? ⟨b, o, none⟩ = w.cell? ⟨b, o, none⟩) (h : TRow w S l A) : TRow w' S' l A := by
  have h1 := rep_keep hS hc (.mk 0 [] 0 l) _ (rep_mk.2 ⟨A, 0, rfl, ⟨by omega, by omega⟩, h⟩)
  obtain ⟨A', cap', hv, _, hr⟩ := rep_mk.1 h1
  injection hv with hv
  simp at hv
  rw [hv.1]
  exact hr

theorem rep_alloc {w : World} {S S' : Nat → Prop} {x : Tm} {v : Value} (h : Rep w S x v) (o : Obj) (hS : ∀ b, S b → b < w.heap.size ∧ S' b) : Rep (w.alloc o) S' x v :=
  rep_keep (fun b hb => (hS b hb).2) (fun b _ hb => World.cell?_of_block (Below.heap_alloc w o b (hS b hb).1)) _ _ h
theorem rep_below {w w' : World} {S : Nat → Prop} {x : Tm} {v : Value} (h : Rep w S x v) (hb : Below w.heap.size w w') (hS : ∀ b, S b → b < w.heap.size) : Rep w' S x v :=
  rep_keep (fun _ h => h) (fun c o hc => hb.cell (p := ⟨c, o, none⟩) (hS c hc)) _ _ h
theorem trow_below {w w' : World} {S : Nat → Prop} {l : List Tm} {A : Option Addr} (h : TRow w S l A) (hb : Below w.heap.size w w') (hS : ∀ b, S b → b < w.heap.size) : TRow w' S l A :=
  trow_keep (fun _ h => h) (fun c o hc => hb.cell (p := ⟨c, o, none⟩) (hS c hc)) h
theorem rep_at {w w' : World} {n : Nat} {S : Nat → Prop} {x : Tm} {v : Value} (h : Rep w S x v) (hb : Below n w w') (hS : ∀ b, S b → b < n) : Rep w' S x v :=
  rep_keep (fun _ h => h) (fun c o hc => hb.cell (p := ⟨c, o, none⟩) (hS c hc)) _ _ h
theorem trow_at {w w' : World} {n : Nat} {S : Nat → Prop} {l : List Tm} {A : Option Addr} (h : TRow w S l A) (hb : Below n w w') (hS : ∀ b, S b → b < n) : TRow w' S l A :=
  trow_keep (fun _ h => h) (fun c o hc => hb.cell (p := ⟨c, o, none⟩) (hS c hc)) h

theorem reps_at {w : World} {S : Nat → Prop} : ∀ (l : List Tm) (b o i : Nat) (x : Tm), Reps w S l b o → l[i]? = some x →
    ∃ v0 v1 v2 v3, w.cell? ⟨b, o + i * 4, none⟩ = some v0 ∧ w.cell? ⟨b, o + i * 4 + 1, none⟩ = some v1 ∧ w.cell? ⟨b, o + i * 4 + 2, none⟩ = some v2 ∧ w.cell? ⟨b, o + i * 4 + 3, none⟩ = some v3 ∧ Rep w S x (.agg #[v0, v1, v2, v3])
  | [], _, _, _, _, _, h => by simp at h
  | y :: r, b, o, 0, x, h, hx => by
    rw [Reps] at h
    simp at hx
    subst hx
    simpa using h.1
  | y :: r, b, o, i + 1, x, h, hx => by
    rw [Reps] at h
    simp at hx
    have := reps_at r b (o + 4) i x h.2 hx
    have e : o + 4 + i * 4 = o + (i + 1) * 4 := by omega
    rw [e] at this
    exact this

/-- The i-th term of a slice: its cells, and that they are it. -/
theorem trow_get {w w' : World} {n : Nat} {S : Nat → Prop} {l : List Tm} {A : Option Addr} {i : Nat} (h : TRow w S l A) (hb : Below n w w') (hS : ∀ b, S b → b < n) (hi : i < l.length) :
    ∃ b o k s m q B cb, A = some ⟨b, o, none⟩ ∧ S b ∧ l[i] = .mk k s m q ∧ w'.cell? ⟨b, o + i * 4, none⟩ = some (.int .i64 k) ∧ w'.cell? ⟨b, o + i * 4 + 1, none⟩ = some (.string ⟨⟨s⟩⟩) ∧ w'.cell? ⟨b, o + i * 4 + 2, none⟩ = some (.int .i64 m) ∧ w'.cell? ⟨b, o + i * 4 + 3, none⟩ = some (.slice B q.length cb) ∧
      Rep w' S (.mk k s m q) (.agg #[.int .i64 k, .string ⟨⟨s⟩⟩, .int .i64 m, .slice B q.length cb]) := by
  rcases h with h | ⟨b, o, rfl, hSb, hreps⟩
  · rw [h] at hi; simp at hi
  · obtain ⟨v0, v1, v2, v3, d0, d1, d2, d3, hrep⟩ := reps_at l b o i _ hreps (List.getElem?_eq_getElem hi)
    cases hx : l[i] with
    | mk k s m q =>
      rw [hx] at hrep
      have hrep' := rep_at hrep hb hS
      obtain ⟨B, cb, hv, hm, hrow'⟩ := rep_mk.1 hrep
      injection hv with hv
      simp at hv
      obtain ⟨rfl, rfl, rfl, rfl⟩ := hv
      have hbS := hS b hSb
      exact ⟨b, o, k, s, m, q, B, cb, rfl, hSb, rfl, (hb.cell (p := ⟨b, o + i * 4, none⟩) hbS).trans d0, (hb.cell (p := ⟨b, o + i * 4 + 1, none⟩) hbS).trans d1, (hb.cell (p := ⟨b, o + i * 4 + 2, none⟩) hbS).trans d2, (hb.cell (p := ⟨b, o + i * 4 + 3, none⟩) hbS).trans d3, hrep'⟩

/-- The cells xs are the terms l, four cells each. -/
def Els (w : World) (S : Nat → Prop) : List Tm → List Value → Prop
  | [], xs => xs = []
  | x :: r, v0 :: v1 :: v2 :: v3 :: xs => Rep w S x (.agg #[v0, v1, v2, v3]) ∧ Els w S r xs
  | _ :: _, _ => False

theorem els_keep {w w' : World} {S S' : Nat → Prop} (hS : ∀ b, S b → S' b) (hc : ∀ b o, S b → w'.cell? ⟨b, o, none⟩ = w.cell? ⟨b, o, none⟩) :
    ∀ l xs, Els w S l xs → Els w' S' l xs
  | [], xs, h => by rw [Els] at h ⊢; exact h
  | x :: r, v0 :: v1 :: v2 :: v3 :: xs, h => by rw [Els] at h ⊢; exact ⟨rep_keep hS hc _ _ h.1, els_keep hS hc r xs h.2⟩
  | _ :: _, [], h => by simp [Els] at h
  | _ :: _, [_], h => by simp [Els] at h
  | _ :: _, [_, _], h => by simp [Els] at h
  | _ :: _, [_, _, _], h => by simp [Els] at h

theorem els_app {w : World} {S : Nat → Prop} : ∀ l xs m ys, Els w S l xs → Els w S m ys → Els w S (l ++ m) (xs ++ ys)
  | [], xs, m, ys, h, h' => by
    rw [Els] at h
    subst h
    exact h'
  | y :: r, u0 :: u1 :: u2 :: u3 :: xs, m, ys, h, h' => by
    rw [Els] at h
    simp only [List.cons_append]
    rw [Els]
    exact ⟨h.1, els_app r xs m ys h.2 h'⟩
  | _ :: _, [], _, _, h, _ => by simp [Els] at h
  | _ :: _, [_], _, _, h, _ => by simp [Els] at h
  | _ :: _, [_, _], _, _, h, _ => by simp [Els] at h
  | _ :: _, [_, _, _], _, _, h, _ => by simp [Els] at h
theorem els_one {w : World} {S : Nat → Prop} {x : Tm} {v0 v1 v2 v3 : Value} (hx : Rep w S x (.agg #[v0, v1, v2, v3])) : Els w S [x] [v0, v1, v2, v3] := by
  rw [Els]; exact ⟨hx, by rw [Els]⟩

theorem els_reps {w : World} {S : Nat → Prop} {b : Nat} : ∀ l xs o, Els w S l xs → (∀ j u, xs[j]? = some u → w.cell? ⟨b, o + j, none⟩ = some u) → Reps w S l b o
  | [], xs, o, _, _ => by rw [Reps]; trivial
  | x :: r, v0 :: v1 :: v2 :: v3 :: xs, o, h, hc => by
    rw [Els] at h
    rw [Reps]
    refine ⟨⟨v0, v1, v2, v3, hc 0 v0 rfl, hc 1 v1 rfl, hc 2 v2 rfl, hc 3 v3 rfl, h.1⟩, els_reps r xs (o + 4) h.2 fun j u hj => ?_⟩
    have := hc (j + 4) u (by simpa using hj)
    rw [show o + (j + 4) = o + 4 + j by omega] at this
    exact this
  | _ :: _, [], _, h, _ => by simp [Els] at h
  | _ :: _, [_], _, h, _ => by simp [Els] at h
  | _ :: _, [_, _], _, h, _ => by simp [Els] at h
  | _ :: _, [_, _, _], _, h, _ => by simp [Els] at h

theorem els_len {w : World} {S : Nat → Prop} : ∀ l xs, Els w S l xs → xs.length = l.length * 4
  | [], xs, h => by rw [Els] at h; subst h; rfl
  | x :: r, v0 :: v1 :: v2 :: v3 :: xs, h => by
    rw [Els] at h
    have := els_len r xs h.2
    simp [this]; omega
  | _ :: _, [], h => by simp [Els] at h
  | _ :: _, [_], h => by simp [Els] at h
  | _ :: _, [_, _], h => by simp [Els] at h
  | _ :: _, [_, _, _], h => by simp [Els] at h

/-- The cells of a row are its terms. -/
theorem reps_els {w : World} {S : Nat → Prop} {b : Nat} : ∀ l o, Reps w S l b o → ∃ xs, Els w S l xs ∧ ∀ j u, xs[j]? = some u → w.cell? ⟨b, o + j, none⟩ = some u
  | [], o, _ => ⟨[], by rw [Els], by simp⟩
  | x :: r, o, h => by
    rw [Reps] at h
    obtain ⟨⟨v0, v1, v2, v3, h0, h1, h2, h3, h4⟩, h5⟩ := h
    obtain ⟨xs, he, hc⟩ := reps_els r (o + 4) h5
    refine ⟨v0 :: v1 :: v2 :: v3 :: xs, by rw [Els]; exact ⟨h4, he⟩, fun j u hj => ?_⟩
    match j, hj with
    | 0, hj => simp at hj; subst hj; simpa using h0
    | 1, hj => simp at hj; subst hj; exact h1
    | 2, hj => simp at hj; subst hj; exact h2
    | 3, hj => simp at hj; subst hj; exact h3
    | j + 4, hj =>
      have := hc j u (by simpa using hj)
      rw [show o + 4 + j = o + (j + 4) by omega] at this
      exact this

/-- A row that the call owns, and whose cells are terms, is a slice of them. -/
theorem trow_of_own {w : World} {S : Nat → Prop} {base n cap : Nat} {A : Option Addr} {l : List Tm} {xs : List Value} (h : w.ownsRow base 45 4 (.slice A n cap) n xs) (he : Els w S l xs) (hl : l.length = n) (hS : ∀ b, (Value.slice A n cap).ownBlock = some b → S b) : TRow w S l A := by
  rcases h.2 with ⟨hv, hn⟩ | ⟨g, cap', cur, hv, _⟩
  · exact .inl (List.eq_nil_of_length_eq_zero (by omega))
  · injection hv with h1 h2 h3
    subst h1
    refine .inr ⟨g, 0, rfl, hS g rfl, els_reps l xs 0 he fun j u hj => ?_⟩
    have := h.cells (g := g) rfl j u hj
    rw [Nat.zero_add]
    simpa [Addr.add_lit] using this

theorem cell4 {w : World} {g : Nat} {v0 v1 v2 v3 : Value} {t : TypeId} {fr : Nat × Nat} (h : w.heap[g]? = some (.cells #[v0, v1, v2, v3] t fr)) :
    w.cell? ⟨g, 0, none⟩ = some v0 ∧ w.cell? ⟨g, 1, none⟩ = some v1 ∧ w.cell? ⟨g, 2, none⟩ = some v2 ∧ w.cell? ⟨g, 3, none⟩ = some v3 :=
  ⟨by rw [cell_of_row _ _ _ _ _ _ h]; rfl, by rw [cell_of_row _ _ _ _ _ _ h]; rfl, by rw [cell_of_row _ _ _ _ _ _ h]; rfl, by rw [cell_of_row _ _ _ _ _ _ h]; rfl⟩

/-- The cells of a term's block. -/
abbrev tcells (k : Int) (s : List UInt8) (n : Int) (A : Option Addr) (m ca : Nat) : Array Value := #[.int .i64 k, .string ⟨⟨s⟩⟩, .int .i64 n, .slice A m ca]

/-- Block g holds a term. -/
def Hold (w : World) (S : Nat → Prop) (g : Nat) (k : Int) (s : List UInt8) (n : Int) (l : List Tm) (A : Option Addr) (ca : Nat) : Prop :=
  w.heap[g]? = some (.cells #[.int .i64 k, .string ⟨⟨s⟩⟩, .int .i64 n, .slice A l.length ca] 45 (0, 0)) ∧ Rep w S (.mk k s n l) (.agg #[.int .i64 k, .string ⟨⟨s⟩⟩, .int .i64 n, .slice A l.length ca]) ∧ ∀ b, S b → b < w.heap.size

section
variable {w w' : World} {S : Nat → Prop} {g : Nat} {k : Int} {s : List UInt8} {n : Int} {l : List Tm} {A : Option Addr} {ca : Nat}
theorem Hold.lt (h : Hold w S g k s n l A ca) : g < w.heap.size := (Array.getElem?_eq_some_iff.1 h.1).1
theorem Hold.below (h : Hold w S g k s n l A ca) (hb : Below w.heap.size w w') : Hold w' S g k s n l A ca :=
  ⟨(hb.block g h.lt).trans h.1, rep_below h.2.1 hb h.2.2, fun b hb' => Nat.lt_of_lt_of_le (h.2.2 b hb') hb.size⟩
theorem Hold.alloc (h : Hold w S g k s n l A ca) (o : Obj) : Hold (w.alloc o) S g k s n l A ca := h.below ((Below.refl _ _).alloc (Nat.le_refl _) o)
theorem Hold.drew (h : Hold w S g k s n l A ca) : Hold w.drew S g k s n l A ca := h.below (Below.refl _ _).drew
theorem Hold.new (h : Rep w S (.mk k s n l) (.agg #[.int .i64 k, .string ⟨⟨s⟩⟩, .int .i64 n, .slice A l.length ca])) (hS : ∀ b, S b → b < w.heap.size) :
    Hold (w.alloc (.cells #[.int .i64 k, .string ⟨⟨s⟩⟩, .int .i64 n, .slice A l.length ca] 45)) S w.heap.size k s n l A ca :=
  ⟨heap_alloc_new w _, rep_alloc h _ (fun c hc => ⟨hS c hc, hc⟩), fun b hb => by have := hS b hb; simp; omega⟩
theorem Hold.cells (h : Hold w S g k s n l A ca) : w.cell? ⟨g, 0, none⟩ = some (.int .i64 k) ∧ w.cell? ⟨g, 1, none⟩ = some (.string ⟨⟨s⟩⟩) ∧ w.cell? ⟨g, 2, none⟩ = some (.int .i64 n) ∧ w.cell? ⟨g, 3, none⟩ = some (.slice A l.length ca) := cell4 h.1
theorem Hold.rep (h : Hold w S g k s n l A ca) : Rep w S (.mk k s n l) (.agg #[.int .i64 k, .string ⟨⟨s⟩⟩, .int .i64 n, .slice A l.length ca]) := h.2.1
theorem Hold.row (h : Hold w S g k s n l A ca) : TRow w S l A := by
  obtain ⟨A', ca', hv, _, hr⟩ := rep_mk.1 h.2.1
  injection hv with hv
  simp at hv
  rw [hv.1]; exact hr
theorem Hold.inr (h : Hold w S g k s n l A ca) : InR n := by
  obtain ⟨A', ca', hv, hn, hr⟩ := rep_mk.1 h.2.1
  exact hn
theorem Hold.low (h : Hold w S g k s n l A ca) : ∀ b, S b → b < w.heap.size := h.2.2
end
end Go.Proofs.Ytehmfkcihieecaa.Te
