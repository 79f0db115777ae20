/- Layer 6, walked: HeaderWrites. -/
import Derived.Test.YtombolmicfjjpaaRef06
import Derived.Test.YtombolmicfjjpaaL06F
namespace Go.Proofs.Ytombolmicfjjpaa
open Go.RowKit

end Go.Proofs.Ytombolmicfjjpaa
