/- Contracts of package record: reading. -/
import Derived.Test.YtedbadkfbkecbaaRec3
namespace Go.Proofs.Ytedbadkfbkecbaa
open Go.RowKit

end Go.Proofs.Ytedbadkfbkecbaa
