/- Swap, Expand. -/
import Derived.Test.YtjoaajjfmmiaaaaAeW6
namespace Go.Proofs.Ytjoaajjfmmiaaaa
open Go.RowKit

/-- A table of its own, made by a call and laid into a new block. -/
theorem infoSB : (Try.prog.info? 39).map (·.size) = some (bcells Ae.SB).size := by rw [infoA256, bcells_size, SB_length]
theorem sizeSB : (bcells (List.replicate 256 0)).size = (bcells Ae.SB).size := by rw [noughts_size, bcells_size, SB_length]
theorem tabNew (W : World) : TabAt (W.alloc (.cells (bcells Ae.SB) 39)) W.heap.size := heap_alloc_new W _

end Go.Proofs.Ytjoaajjfmmiaaaa
