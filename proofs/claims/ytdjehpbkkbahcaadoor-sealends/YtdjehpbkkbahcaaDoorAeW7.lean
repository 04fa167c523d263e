/- Swap, Expand. -/
import Derived.Test.YtdjehpbkkbahcaaDoorAeW6
namespace Go.Proofs.YtdjehpbkkbahcaaDoor
open Go.RowKit

set_option maxRecDepth 100000 in
/-- A table of its own, made by a call and laid into a new block. -/
theorem infoSB : (Tryd.prog.info? 94).map (·.size) = some (bcells Ae.SB).size := by rw [infoA256, bcells_size, SB_length]
theorem sizeSB : (bcells (List.replicate 256 0)).size = (bcells Ae.SB).size := by rw [noughts_size, bcells_size, SB_length]
theorem tabNew (W : World) : TabAt (W.alloc (.cells (bcells Ae.SB) 94)) W.heap.size := heap_alloc_new W _

end Go.Proofs.YtdjehpbkkbahcaaDoor
