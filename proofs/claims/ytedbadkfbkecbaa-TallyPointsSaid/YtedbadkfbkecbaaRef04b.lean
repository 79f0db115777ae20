/- Contracts of cursitorref04: reading. -/
import Derived.Test.YtedbadkfbkecbaaRef04
namespace Go.Proofs.Ytedbadkfbkecbaa
open Go.RowKit

end Go.Proofs.Ytedbadkfbkecbaa
