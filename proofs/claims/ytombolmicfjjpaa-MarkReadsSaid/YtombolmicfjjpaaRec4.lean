/- Contracts of package record: reading. -/
import Derived.Test.YtombolmicfjjpaaRec3
namespace Go.Proofs.Ytombolmicfjjpaa
open Go.RowKit

end Go.Proofs.Ytombolmicfjjpaa
