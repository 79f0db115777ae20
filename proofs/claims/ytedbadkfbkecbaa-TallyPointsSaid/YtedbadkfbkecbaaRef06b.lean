/- Contracts of cursitorref06: Read. -/
import Derived.Test.YtedbadkfbkecbaaRef06
namespace Go.Proofs.Ytedbadkfbkecbaa
open Go.RowKit

end Go.Proofs.Ytedbadkfbkecbaa
