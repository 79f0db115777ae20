/- Layer 6, walked: HeaderFinds. -/
import Derived.Test.YtcjgdlfcfcabiaaGreatHdr3
namespace Go.Proofs.YtcjgdlfcfcabiaaGreat
open Go.RowKit

end Go.Proofs.YtcjgdlfcfcabiaaGreat
