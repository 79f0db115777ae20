/- Contracts of cursitorref04: reading. -/
import Derived.Test.YtombolmicfjjpaaRef04
namespace Go.Proofs.Ytombolmicfjjpaa
open Go.RowKit

end Go.Proofs.Ytombolmicfjjpaa
