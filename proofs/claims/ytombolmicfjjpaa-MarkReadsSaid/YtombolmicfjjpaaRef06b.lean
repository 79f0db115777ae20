/- Contracts of cursitorref06: Read. -/
import Derived.Test.YtombolmicfjjpaaRef06
namespace Go.Proofs.Ytombolmicfjjpaa
open Go.RowKit

end Go.Proofs.Ytombolmicfjjpaa
