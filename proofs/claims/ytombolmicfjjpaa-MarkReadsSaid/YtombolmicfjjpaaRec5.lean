/- Contracts: whether two records are one. -/
import Derived.Test.YtombolmicfjjpaaRec4
import Derived.Deep.RegionHeld3
namespace Go.Proofs.Ytombolmicfjjpaa
open Go.RowKit

end Go.Proofs.Ytombolmicfjjpaa
