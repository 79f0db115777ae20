/- A text. -/
import Derived.Test.YtmpehoebgifmnaaRec4
import Derived.Deep.RegionHeld3
namespace Go.Proofs.Ytmpehoebgifmnaa
open Go.RowKit

end Go.Proofs.Ytmpehoebgifmnaa
