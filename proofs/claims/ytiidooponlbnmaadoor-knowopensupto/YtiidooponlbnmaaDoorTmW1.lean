/- Size, Parts. -/
import Derived.Test.YtiidooponlbnmaaDoorTmIt
import Derived.Sort.CutIn
namespace Go.Proofs.YtiidooponlbnmaaDoor.Te
open Go.RowKit Go.Shelf
open Tt
attribute [local go_sem] Oper.semAt_some

theorem rowAt_box {W : World} {B : Nat} {t : TypeId} {v : Value} (h : Boxed W B t v) : rowAt W B = v.ownBlock := by
  rw [rowAt, h.cell]; rfl
/-- The box B gets another value that leads nowhere. -/
theorem Kps.put {n0 B : Nat} {W : World} {t : TypeId} {v v' : Value} (h : Boxed W B t v) (hn : n0 ≤ B) (hv' : v'.ownBlock = none) : Kps n0 B W (W.setCell ⟨B, 0, none⟩ v') := by
  have hr := rowAt_box (h.set v')
  rw [hv'] at hr
  refine ⟨(Below.refl _ _).setCell (p := ⟨B, 0, none⟩) hn v', fun b o hb _ hm => ?_, fun b _ hm => ?_, fun hv => ⟨(h.set v').lt, fun b hb => ?_⟩⟩
  · rw [Below.heap_setCell _ _ _ b (fun e => hm (.inl e))]; exact hb
  · rcases hm with rfl | hm
    · exact .inl rfl
    · rw [hr] at hm; cases hm
  · rw [hr] at hb; cases hb

end Go.Proofs.YtiidooponlbnmaaDoor.Te
