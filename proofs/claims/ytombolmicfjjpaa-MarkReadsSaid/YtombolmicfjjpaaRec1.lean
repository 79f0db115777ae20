/- Contracts of package record: whether one may be. -/
import Derived.Test.YtombolmicfjjpaaRecP
namespace Go.Proofs.Ytombolmicfjjpaa
open Go.RowKit

end Go.Proofs.Ytombolmicfjjpaa
