/- Start, Block, Sum. -/
import Derived.Test.YtdjehpbkkbahcaaDoorShaW7
import Derived.Test.YtdjehpbkkbahcaaDoorShaW8
namespace Go.Proofs.YtdjehpbkkbahcaaDoor
open Go.RowKit

theorem start_st (w : World) (HT : Tabs w) : Calls Tryd.prog 48 #[] w fun e w' => e = .returned (.agg (cells Sh.start.list)) ∧ Below w.heap.size w w' := start_any w HT

theorem blocks_one (v : Sh.St) (b : List UInt8) (hb : b.length = 64) : Sh.blocks v b = Sh.beh v b := by
  rw [Sh.blocks, hb, show 64 / 64 = 0 + 1 by decide, thr_succ, Sh.thr, Nat.zero_mul, List.drop_zero, List.take_of_length_le (by omega)]

end Go.Proofs.YtdjehpbkkbahcaaDoor
