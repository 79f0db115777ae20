/- Contracts of cursitorref03: reading. -/
import Derived.Test.YtombolmicfjjpaaRef03
namespace Go.Proofs.Ytombolmicfjjpaa
open Go.RowKit

end Go.Proofs.Ytombolmicfjjpaa
