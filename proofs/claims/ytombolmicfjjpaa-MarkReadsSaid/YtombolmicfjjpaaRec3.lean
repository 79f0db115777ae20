/- Contracts of package record: reading the fields. -/
import Derived.Test.YtombolmicfjjpaaRec2
namespace Go.Proofs.Ytombolmicfjjpaa
open Go.RowKit

end Go.Proofs.Ytombolmicfjjpaa
