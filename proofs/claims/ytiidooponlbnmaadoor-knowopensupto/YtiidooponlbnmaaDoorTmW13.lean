/- works. -/
import Derived.Test.YtiidooponlbnmaaDoorTmW12
import Derived.Test.YtiidooponlbnmaaDoorTmW9
import Derived.Test.YtiidooponlbnmaaDoorTmW8
import Derived.Test.YtiidooponlbnmaaDoorTmW6
import Derived.Test.YtiidooponlbnmaaDoorTmW2
namespace Go.Proofs.YtiidooponlbnmaaDoor.Te
open Go.RowKit
open Tt

theorem TabB.up {w W : World} (h : TabB w.heap.size w) (hb : Below w.heap.size w W) : TabB W.heap.size W := fun w' h' => h w' (hb.trans (h'.mono hb.size))
theorem rep_flat (w : World) (S : Nat → Prop) (k : Int) (s : List UInt8) (n : Int) (hn : InR n) : Rep w S (.mk k s n []) (.agg #[.int .i64 k, .string ⟨⟨s⟩⟩, .int .i64 n, .slice none 0 0]) :=
  rep_mk.2 ⟨none, 0, rfl, hn, .inl rfl⟩

theorem NewRow.form {S : Nat → Prop} {m : Nat} {w' : World} {l : List Tm} {u : Value} (h : NewRow S m w' l u) (hS : ∀ b, S b → b < w'.heap.size) : ∃ g, u = .slice (some ⟨g, 0, none⟩) l.length l.length ∧ TRow w' (Lo w') l (some ⟨g, 0, none⟩) := by
  have hr := h.rep hS 0 [] 0 ⟨by omega, by omega⟩
  obtain ⟨g, xs, rfl, -, -, -⟩ := h
  obtain ⟨A, ca, hv, -, hrow⟩ := rep_mk.1 hr
  injection hv with hv
  simp at hv
  refine ⟨g, rfl, ?_⟩
  rw [hv.1]; exact hrow

/-- The document's example. -/
def exT : Tm := .mk 4 [] 2 [.mk 2 [97, 110, 110] 1 [], .mk 3 [] 0 [.mk 0 [120] 0 [], .mk 1 [] (-3) []]]
def exU : Tm := .mk 5 [] 3 [.mk 2 [] 2 [], .mk 1 [] 0 []]
theorem exT_text : text exT = [115, 101, 97, 108, 40, 107, 101, 121, 40, 97, 110, 110, 32, 49, 41, 32, 50, 32, 91, 120, 32, 45, 51, 93, 41] := by decide +kernel
theorem exU_text : text exU = [115, 117, 109, 40, 107, 101, 121, 40, 32, 50, 41, 32, 51, 32, 48, 41] := by decide +kernel
theorem exT_vld : vld 0 exT = true := by decide +kernel
theorem exT_sz : sz exT = 5 := by decide +kernel
theorem exT_ord : ord exT exT = 0 := by decide +kernel
theorem ex_ord : ord (.mk 1 [] 1 []) (.mk 1 [] 2 []) = -1 := by decide +kernel
theorem ex_name : isName [97, 45, 49] = true := by decide +kernel

end Go.Proofs.YtiidooponlbnmaaDoor.Te
