import Derived.Test.YtmjpjbnaahdcmaaRows
import Derived.Test.YtmjpjbnaahdcmaaPure
import Derived.WalkKit
import Derived.Below
import Derived.Maps.AppendAt
namespace Go.Proofs.Ytmjpjbnaahdcmaa
open Go.RowKit
open Wr

/-- A zero item. -/
def zeroItem : Value := .agg #[.bool false, .int .i64 0, .string ⟨⟨[]⟩⟩, .slice none 0 0]

mutual
/-- The value v is the item x in the world w; whatever memory it leads to lies in blocks that S lets. -/
def Rep (w : World) (S : Nat → Prop) : It → Value → Prop
  | .mk n t s l, v => ∃ (A : Option Addr) (cap : Nat), v = .agg #[.bool n, .int .i64 t, .string ⟨⟨s⟩⟩, .slice A l.length cap] ∧ (l = [] ∨ ∃ b o, A = some ⟨b, o, none⟩ ∧ S b ∧ Reps w S l b o)
/-- The items l lie one behind the other from cell o of block b on. -/
def Reps (w : World) (S : Nat → Prop) : List It → Nat → Nat → Prop
  | [], _, _ => True
  | x :: r, b, o => (∃ v0 v1 v2 v3, w.cell? ⟨b, o, none⟩ = some v0 ∧ w.cell? ⟨b, o + 1, none⟩ = some v1 ∧ w.cell? ⟨b, o + 2, none⟩ = some v2 ∧ w.cell? ⟨b, o + 3, none⟩ = some v3 ∧ Rep w S x (.agg #[v0, v1, v2, v3])) ∧ Reps w S r b (o + 4)
end

/-- A slice whose items are l. -/
def Row (w : World) (S : Nat → Prop) (l : List It) (A : Option Addr) : Prop := l = [] ∨ ∃ b o, A = some ⟨b, o, none⟩ ∧ S b ∧ Reps w S l b o

theorem rep_mk {w : World} {S : Nat → Prop} {n : Bool} {t : Int} {s : List UInt8} {l : List It} {v : Value} :
    Rep w S (.mk n t s l) v ↔ ∃ (A : Option Addr) (cap : Nat), v = .agg #[.bool n, .int .i64 t, .string ⟨⟨s⟩⟩, .slice A l.length cap] ∧ Row w S l A := by
  rw [Rep]; rfl

theorem rep_keep {w w' : World} {S S' : Nat → Prop} (hS : ∀ b, S b → S' b) (hc : ∀ b o, S b → w'.cell? ⟨b, o, none⟩ = w.cell? ⟨b, o, none⟩) :
    ∀ x v, Rep w S x v → Rep w' S' x v := fun x =>
  It.rec (motive_1 := fun x => ∀ v, Rep w S x v → Rep w' S' x v) (motive_2 := fun l => ∀ b o, S b → Reps w S l b o → Reps w' S' l b o)
    (fun n t s l hl v h => by
      rw [Rep] at h ⊢
      obtain ⟨A, cap, rfl, h⟩ := h
      refine ⟨A, cap, rfl, ?_⟩
      rcases h with h | ⟨b, o, rfl, hb, hr⟩
      · exact .inl h
      · exact .inr ⟨b, o, rfl, hS b hb, hl b o hb hr⟩)
    (fun b o _ _ => by rw [Reps]; trivial)
    (fun x l hx hl b o hb h => by
      rw [Reps] at h ⊢
      obtain ⟨⟨v0, v1, v2, v3, h0, h1, h2, h3, h4⟩, h5⟩ := h
      exact ⟨⟨v0, v1, v2, v3, by rw [hc b _ hb, h0], by rw [hc b _ hb, h1], by rw [hc b _ hb, h2], by rw [hc b _ hb, h3], hx _ h4⟩, hl b _ hb h5⟩) x

theorem reps_at {w : World} {S : Nat → Prop} : ∀ (l : List It) (b o i : Nat) (x : It), Reps w S l b o → l[i]? = some x →
    ∃ v0 v1 v2 v3, w.cell? ⟨b, o + i * 4, none⟩ = some v0 ∧ w.cell? ⟨b, o + i * 4 + 1, none⟩ = some v1 ∧ w.cell? ⟨b, o + i * 4 + 2, none⟩ = some v2 ∧ w.cell? ⟨b, o + i * 4 + 3, none⟩ = some v3 ∧ Rep w S x (.agg #[v0, v1, v2, v3])
  | [], _, _, _, _, _, h => by simp at h
  | y :: r, b, o, 0, x, h, hx => by
    rw [Reps] at h
    simp at hx
    subst hx
    simpa using h.1
  | y :: r, b, o, i + 1, x, h, hx => by
    rw [Reps] at h
    simp at hx
    have := reps_at r b (o + 4) i x h.2 hx
    have e : o + 4 + i * 4 = o + (i + 1) * 4 := by omega
    rw [e] at this
    exact this

/-- The cells xs are the items l, four cells each. -/
def Els (w : World) (S : Nat → Prop) : List It → List Value → Prop
  | [], xs => xs = []
  | x :: r, v0 :: v1 :: v2 :: v3 :: xs => Rep w S x (.agg #[v0, v1, v2, v3]) ∧ Els w S r xs
  | _ :: _, _ => False

theorem els_keep {w w' : World} {S S' : Nat → Prop} (hS : ∀ b, S b → S' b) (hc : ∀ b o, S b → w'.cell? ⟨b, o, none⟩ = w.cell? ⟨b, o, none⟩) :
    ∀ l xs, Els w S l xs → Els w' S' l xs
  | [], xs, h => by rw [Els] at h ⊢; exact h
  | x :: r, v0 :: v1 :: v2 :: v3 :: xs, h => by rw [Els] at h ⊢; exact ⟨rep_keep hS hc _ _ h.1, els_keep hS hc r xs h.2⟩
  | _ :: _, [], h => by simp [Els] at h
  | _ :: _, [_], h => by simp [Els] at h
  | _ :: _, [_, _], h => by simp [Els] at h
  | _ :: _, [_, _, _], h => by simp [Els] at h

theorem els_snoc {w : World} {S : Nat → Prop} {x : It} {v0 v1 v2 v3 : Value} (hx : Rep w S x (.agg #[v0, v1, v2, v3])) :
    ∀ l xs, Els w S l xs → Els w S (l ++ [x]) (xs ++ [v0, v1, v2, v3])
  | [], xs, h => by
    rw [Els] at h
    subst h
    simp only [List.nil_append]
    rw [Els]
    exact ⟨hx, by rw [Els]⟩
  | y :: r, u0 :: u1 :: u2 :: u3 :: xs, h => by
    rw [Els] at h
    simp only [List.cons_append]
    rw [Els]
    exact ⟨h.1, els_snoc hx r xs h.2⟩
  | _ :: _, [], h => by simp [Els] at h
  | _ :: _, [_], h => by simp [Els] at h
  | _ :: _, [_, _], h => by simp [Els] at h
  | _ :: _, [_, _, _], h => by simp [Els] at h

theorem els_reps {w : World} {S : Nat → Prop} {b : Nat} : ∀ l xs o, Els w S l xs → (∀ j u, xs[j]? = some u → w.cell? ⟨b, o + j, none⟩ = some u) → Reps w S l b o
  | [], xs, o, _, _ => by rw [Reps]; trivial
  | x :: r, v0 :: v1 :: v2 :: v3 :: xs, o, h, hc => by
    rw [Els] at h
    rw [Reps]
    refine ⟨⟨v0, v1, v2, v3, hc 0 v0 rfl, hc 1 v1 rfl, hc 2 v2 rfl, hc 3 v3 rfl, h.1⟩, els_reps r xs (o + 4) h.2 fun j u hj => ?_⟩
    have := hc (j + 4) u (by simpa using hj)
    rw [show o + (j + 4) = o + 4 + j by omega] at this
    exact this
  | _ :: _, [], _, h, _ => by simp [Els] at h
  | _ :: _, [_], _, h, _ => by simp [Els] at h
  | _ :: _, [_, _], _, h, _ => by simp [Els] at h
  | _ :: _, [_, _, _], _, h, _ => by simp [Els] at h

theorem els_len {w : World} {S : Nat → Prop} : ∀ l xs, Els w S l xs → xs.length = l.length * 4
  | [], xs, h => by rw [Els] at h; subst h; rfl
  | x :: r, v0 :: v1 :: v2 :: v3 :: xs, h => by
    rw [Els] at h
    have := els_len r xs h.2
    simp [this]; omega
  | _ :: _, [], h => by simp [Els] at h
  | _ :: _, [_], h => by simp [Els] at h
  | _ :: _, [_, _], h => by simp [Els] at h
  | _ :: _, [_, _, _], h => by simp [Els] at h

/-- A row that the call owns, and whose cells are items, is a slice of them. -/
theorem row_of_own {w : World} {S : Nat → Prop} {base n cap : Nat} {A : Option Addr} {l : List It} {xs : List Value} (h : w.ownsRow base 24 4 (.slice A n cap) n xs) (he : Els w S l xs) (hl : l.length = n) (hS : ∀ b, (Value.slice A n cap).ownBlock = some b → S b) : Row w S l A := by
  rcases h.2 with ⟨hv, hn⟩ | ⟨g, cap', cur, hv, _⟩
  · exact .inl (List.eq_nil_of_length_eq_zero (by omega))
  · injection hv with h1 h2 h3
    subst h1
    refine .inr ⟨g, 0, rfl, hS g rfl, els_reps l xs 0 he fun j u hj => ?_⟩
    have := h.cells (g := g) rfl j u hj
    rw [Nat.zero_add]
    simpa [Addr.add_lit] using this
end Go.Proofs.Ytmjpjbnaahdcmaa
