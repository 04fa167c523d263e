/- The calls at any argument; works. -/
import Derived.Test.YtdjehpbkkbahcaaDoorDeW2
import Derived.Test.YtdjehpbkkbahcaaDoorHmW4
namespace Go.Proofs.YtdjehpbkkbahcaaDoor
open Go.RowKit

theorem macIs (k s : List UInt8) (hk : k.length ≤ 10000) (hs : s.length ≤ 10000) : MacIs k s (Hm.mac k s) := fun w h => Mac_any k s w h hk hs
theorem keyIs (b l : List UInt8) (n : Int) (hb : b.length ≤ 10000) (hl : l.length ≤ 5000) : KeyIs b n l (De.key b n l) := fun w h =>
  dKey_by b l _ n w h hl (Lib.hid (macIs b _ hb (by rw [De.txt_length]; omega)))
theorem dCipher_any (b : List UInt8) (n : Int) (w : World) (HT : Tabs w) (hb : b.length ≤ 10000) :
    Calls Tryd.prog 39 #[.string ⟨⟨b⟩⟩, .int .i64 n] w fun e w' => e = .returned (.string ⟨⟨(De.key b n [99, 105, 112, 104, 101, 114]).take 16⟩⟩) ∧ Below w.heap.size w w' :=
  dCipher_by b _ n w HT (De.key_length _ _ _) (Lib.hid (keyIs b _ n hb (by decide)))
theorem dSum_any (b : List UInt8) (n : Int) (w : World) (HT : Tabs w) (hb : b.length ≤ 10000) :
    Calls Tryd.prog 18 #[.string ⟨⟨b⟩⟩, .int .i64 n] w fun e w' => e = .returned (.string ⟨⟨De.key b n [115, 117, 109]⟩⟩) ∧ Below w.heap.size w w' :=
  dSum_by b _ n w HT (Lib.hid (keyIs b _ n hb (by decide)))
end Go.Proofs.YtdjehpbkkbahcaaDoor
