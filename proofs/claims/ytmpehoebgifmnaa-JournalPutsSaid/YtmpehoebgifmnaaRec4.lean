/- A text. -/
import Derived.Test.YtmpehoebgifmnaaRec3
namespace Go.Proofs.Ytmpehoebgifmnaa
open Go.RowKit

end Go.Proofs.Ytmpehoebgifmnaa
