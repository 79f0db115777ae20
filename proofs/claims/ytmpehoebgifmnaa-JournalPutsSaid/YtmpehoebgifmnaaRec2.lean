/- A text. -/
import Derived.Test.YtmpehoebgifmnaaRec1
namespace Go.Proofs.Ytmpehoebgifmnaa
open Go.RowKit

end Go.Proofs.Ytmpehoebgifmnaa
