import Derived.Test.YtmjpjbnaahdcmaaOpen
namespace Go.Proofs.Ytmjpjbnaahdcmaa
open Go.RowKit Go.ChangeShapes Go.WideShapes Go.Deep Go.Joins
open Wr

theorem row_arg {H : Type} {enc : TypeId × Value → H} {w : World} {base : Nat} {spare : Nat → Bool} {held : Bool} {r : Reach} {b0 : Nat} {v : Value} {d : DataW H} {p : List MemPlace}
    (hv : Value.okWide Try.prog w r b0 22 v) (h : DataW.Trod enc Try.prog w base spare held 22 v d p) :
    ∃ (l : List It) (A : Option Addr) (ca : Nat), v = .slice A l.length ca ∧ Row w (fun b => b < w.heap.size) l A ∧ bks l + 1 ≤ Rows.uptoBulk d := by
  obtain ⟨a0, len, cap, rfl⟩ := okWide_slice Try.underlying22 hv
  obtain ⟨fuel, hf⟩ := h
  exact row_of_trod (N := Rows.uptoBulk d) (fun fuel cs x hx ht => item_of_trod _ fuel cs x hx ht) (Nat.le_refl _) (by simpa [Value.cells] using hf)
end Go.Proofs.Ytmjpjbnaahdcmaa
