/- write, list, keyed, Text. -/
import Derived.Test.YtiidooponlbnmaaDoorTmB
import Derived.Test.YtiidooponlbnmaaDoorTmInv
import Derived.Lib.ItoaLen
namespace Go.Proofs.YtiidooponlbnmaaDoor.Te
open Go.RowKit
open Tt

theorem itoa_len (n : Int) (h : InR n) : (Lib.itoa n).length ≤ 21 := Lib.itoa_length_le n h.1 h.2

theorem trow_two_get {w : World} {S : Nat → Prop} {x y : Tm} {A : Option Addr} (h : TRow w S [x, y] A) : ∃ b o x0 x1 x2 x3 y0 y1 y2 y3, A = some ⟨b, o, none⟩ ∧ S b ∧ w.cell? ⟨b, o, none⟩ = some x0 ∧ w.cell? ⟨b, o + 1, none⟩ = some x1 ∧ w.cell? ⟨b, o + 2, none⟩ = some x2 ∧ w.cell? ⟨b, o + 3, none⟩ = some x3 ∧
    w.cell? ⟨b, o + 4, none⟩ = some y0 ∧ w.cell? ⟨b, o + 5, none⟩ = some y1 ∧ w.cell? ⟨b, o + 6, none⟩ = some y2 ∧ w.cell? ⟨b, o + 7, none⟩ = some y3 ∧ Rep w S x (.agg #[x0, x1, x2, x3]) ∧ Rep w S y (.agg #[y0, y1, y2, y3]) := by
  rcases h with h | ⟨b, o, rfl, hb, hr⟩
  · cases h
  · rw [Reps, Reps] at hr
    obtain ⟨⟨x0, x1, x2, x3, h0, h1, h2, h3, h4⟩, ⟨y0, y1, y2, y3, g0, g1, g2, g3, g4⟩, -⟩ := hr
    exact ⟨b, o, x0, x1, x2, x3, y0, y1, y2, y3, rfl, hb, h0, h1, h2, h3, g0, g1, g2, g3, h4, g4⟩

end Go.Proofs.YtiidooponlbnmaaDoor.Te
