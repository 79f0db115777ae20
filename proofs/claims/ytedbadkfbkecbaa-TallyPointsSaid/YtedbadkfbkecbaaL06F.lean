/- Layer 6, walked: HeaderFinds. -/
import Derived.Test.YtedbadkfbkecbaaHdr3
namespace Go.Proofs.Ytedbadkfbkecbaa
open Go.RowKit

end Go.Proofs.Ytedbadkfbkecbaa
