/- works, of layer 4's laws. -/
import Derived.Test.YtjoaajjfmmiaaaaAeW8
namespace Go.Proofs.Ytjoaajjfmmiaaaa
open Go.RowKit

end Go.Proofs.Ytjoaajjfmmiaaaa
