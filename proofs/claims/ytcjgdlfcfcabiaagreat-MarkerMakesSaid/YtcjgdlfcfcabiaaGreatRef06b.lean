/- Contracts of cursitorref06: Read. -/
import Derived.Test.YtcjgdlfcfcabiaaGreatRef06
namespace Go.Proofs.YtcjgdlfcfcabiaaGreat
open Go.RowKit

end Go.Proofs.YtcjgdlfcfcabiaaGreat
