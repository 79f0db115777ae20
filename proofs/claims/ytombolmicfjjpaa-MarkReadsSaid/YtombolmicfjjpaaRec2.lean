/- Contracts of package record: writing. -/
import Derived.Test.YtombolmicfjjpaaRec1
namespace Go.Proofs.Ytombolmicfjjpaa
open Go.RowKit

end Go.Proofs.Ytombolmicfjjpaa
