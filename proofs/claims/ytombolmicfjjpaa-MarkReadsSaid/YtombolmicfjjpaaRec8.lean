/- A record there and back (pure). -/
import Derived.Test.YtombolmicfjjpaaRec6
namespace Go.Proofs.Ytombolmicfjjpaa
open Go.RowKit

end Go.Proofs.Ytombolmicfjjpaa
