/- works, of layer 4's laws. -/
import Derived.Test.YtdjehpbkkbahcaaDoorAeW8
namespace Go.Proofs.YtdjehpbkkbahcaaDoor
open Go.RowKit

end Go.Proofs.YtdjehpbkkbahcaaDoor
