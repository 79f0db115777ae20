/- Contracts: whether two records are one. -/
import Derived.Test.YtedbadkfbkecbaaRec4
import Derived.Deep.RegionHeld3
namespace Go.Proofs.Ytedbadkfbkecbaa
open Go.RowKit

end Go.Proofs.Ytedbadkfbkecbaa
