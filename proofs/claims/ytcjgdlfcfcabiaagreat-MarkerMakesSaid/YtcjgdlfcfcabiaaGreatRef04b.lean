/- Contracts of cursitorref04: reading. -/
import Derived.Test.YtcjgdlfcfcabiaaGreatRef04
namespace Go.Proofs.YtcjgdlfcfcabiaaGreat
open Go.RowKit

end Go.Proofs.YtcjgdlfcfcabiaaGreat
