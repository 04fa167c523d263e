/- What the rows' list of variables gives: the two tables' cells. -/
import Derived.Test.YtdjehpbkkbahcaaDoorGShaWa
import Derived.ProofKit
import Derived.Deep.DeepHandedRow
import Derived.Lib.LaidTab
import Derived.LaidSub
namespace Go.Proofs.YtdjehpbkkbahcaaDoor
open Go.RowKit

theorem own : ownKnob Tryd.prog.godebug = none := by kernel_rfl
theorem g0 : Tryd.prog.globalNamed "legate/sha.squareRoots" = some 0 := by kernel_rfl
theorem g1 : Tryd.prog.globalNamed "legate/sha.cubeRoots" = some 1 := by kernel_rfl
theorem g0t : (Tryd.prog.globals[0]?).map (·.type) = some 63 := by kernel_rfl
theorem g1t : (Tryd.prog.globals[1]?).map (·.type) = some 82 := by kernel_rfl
theorem cells36 : Tryd.prog.cellsOf 63 = 8 := by kernel_rfl
theorem cells50 : Tryd.prog.cellsOf 82 = 64 := by kernel_rfl
theorem cells35 : Tryd.prog.cellsOf 62 = 1 := by kernel_rfl

def ints (l : List Nat) : List Int := l.map Int.ofNat
def listed : List (String × DataW Unit) := [("legate/sha.cubeRoots", Rows.laid_legate_sha_cubeRoots), ("legate/sha.squareRoots", Rows.laid_legate_sha_squareRoots)]
theorem cube_data : (Rows.laid_legate_sha_cubeRoots : DataW Unit) = Lib.tabData .u32 (ints Sh.KK) := by rfl
theorem square_data : (Rows.laid_legate_sha_squareRoots : DataW Unit) = Lib.tabData .u32 (ints Sh.SQ) := by rfl

theorem getD_map (l : List Nat) (i : Nat) : (ints l).getD i 0 = ((l.getD i 0 : Nat) : Int) := by
  simp only [ints, List.getD_eq_getElem?_getD, List.getElem?_map]
  cases l[i]? <;> rfl

theorem tabs_of {W : World} (h : laidMetH Tryd.prog listed W) : Tabs W := by
  have hc : Lib.TabIs Tryd.prog W "legate/sha.cubeRoots" .u32 (ints Sh.KK) := by
    have h1 := laidMetH.filter (fun x => x.1 == "legate/sha.cubeRoots") h
    have e : listed.filter (fun x => x.1 == "legate/sha.cubeRoots") = [("legate/sha.cubeRoots", Lib.tabData .u32 (ints Sh.KK))] := by rw [← cube_data]; rfl
    rw [e] at h1
    exact Lib.tabIs_of_head (rest := []) g1 g1t Tryd.underlying82 Tryd.underlying62 cells35 cells50 h1
  have hs : Lib.TabIs Tryd.prog W "legate/sha.squareRoots" .u32 (ints Sh.SQ) := by
    have h1 := laidMetH.filter (fun x => x.1 == "legate/sha.squareRoots") h
    have e : listed.filter (fun x => x.1 == "legate/sha.squareRoots") = [("legate/sha.squareRoots", Lib.tabData .u32 (ints Sh.SQ))] := by rw [← square_data]; rfl
    rw [e] at h1
    exact Lib.tabIs_of_head (rest := []) g0 g0t Tryd.underlying63 Tryd.underlying62 cells35 cells36 h1
  have k1 : ∀ i, i < 64 → W.cell? ⟨1, i, none⟩ = some (.int .u32 (Sh.KK.getD i 0 : Nat)) := fun i hi => by
    rw [← getD_map]
    exact hc.cell g1 i (by rw [ints, List.length_map]; exact hi)
  have k0 : ∀ i, i < 8 → W.cell? ⟨0, i, none⟩ = some (.int .u32 (Sh.SQ.getD i 0 : Nat)) := fun i hi => by
    rw [← getD_map]
    exact hs.cell g0 i (by rw [ints, List.length_map]; exact hi)
  exact ⟨k0, k1, block_lt_of_cell (k1 0 (by decide))⟩

/-- A block that holds a table. -/
def laidObj (l : List Nat) : Obj → Obj
  | .cells _ t frozen => .cells (cells l) t frozen
  | o => o
/-- A world for the witness: the settled one, the tables holding what their initialisers lay. -/
noncomputable def laidWorld (os : Os) : World :=
  { World.holding Tryd.prog os ⟨#[], #[], []⟩ with heap := ((World.holding Tryd.prog os ⟨#[], #[], []⟩).heap.modify 0 (laidObj Sh.SQ)).modify 1 (laidObj Sh.KK) }
end Go.Proofs.YtdjehpbkkbahcaaDoor

