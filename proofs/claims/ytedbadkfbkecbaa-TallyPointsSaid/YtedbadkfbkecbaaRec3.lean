/- Contracts of package record: reading the fields. -/
import Derived.Test.YtedbadkfbkecbaaRec2
namespace Go.Proofs.Ytedbadkfbkecbaa
open Go.RowKit

end Go.Proofs.Ytedbadkfbkecbaa
