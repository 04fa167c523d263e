/- write, Text. -/
import Derived.Test.YtiidooponlbnmaaDoorTmW11
import Derived.Lib.ConvBytes
import Derived.Laws.BytesString
namespace Go.Proofs.YtiidooponlbnmaaDoor.Te
open Go.RowKit
open Tt

theorem ky_two (h : List UInt8) (n : Int) (q : List Tm) (h2 : q.length = 2) : ∃ x y, q = [x, y] ∧ ky h n (texts q) = h ++ text x ++ 32 :: (Lib.itoa n ++ 32 :: (text y ++ [41])) := by
  match q, h2 with
  | [x, y], _ => exact ⟨x, y, rfl, by simp [texts, ky]⟩
theorem ky_not (h : List UInt8) (n : Int) (q : List Tm) (h2 : q.length ≠ 2) : ky h n (texts q) = [63] := by
  match q, h2 with
  | [], _ => simp [texts, ky]
  | [x], _ => simp [texts, ky]
  | [x, y], h => simp at h
  | x :: y :: u :: r, _ => simp [texts, ky]

theorem Buf.conv {B : Nat} {w : World} {v : Value} {l : List UInt8} (h : Buf B w v l) : (convert 68 9 v).run Tryd.prog w = .ok (.string ⟨⟨l⟩⟩) w := by
  rcases h.1.2 with ⟨rfl, h0⟩ | ⟨g, cap, cur, rfl, hbg, hgc, hnc, hcm, hcs, htake⟩
  · obtain rfl : l = [] := List.eq_nil_of_length_eq_zero h0
    rw [run_convert_bytes_string w 68 9 5 none _ _ Tryd.underlying68 Tryd.underlying5 Tryd.underlying9]
    rfl
  · exact run_convert_bytes_back (P := Tryd.prog) w 68 9 5 ⟨g, 0, none⟩ cap l Tryd.underlying68 Tryd.underlying5 Tryd.underlying9 (fun j hj => by
      have := h.1.cells (g := g) rfl j (.int .u8 (l[j].toNat : Nat)) (by rw [Lib.byteCells, List.getElem?_map, List.getElem?_eq_getElem hj]; rfl)
      exact this)

end Go.Proofs.YtiidooponlbnmaaDoor.Te
