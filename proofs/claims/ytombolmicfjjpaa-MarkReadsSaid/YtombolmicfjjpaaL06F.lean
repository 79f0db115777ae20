/- Layer 6, walked: HeaderFinds. -/
import Derived.Test.YtombolmicfjjpaaHdr3
namespace Go.Proofs.Ytombolmicfjjpaa
open Go.RowKit

end Go.Proofs.Ytombolmicfjjpaa
