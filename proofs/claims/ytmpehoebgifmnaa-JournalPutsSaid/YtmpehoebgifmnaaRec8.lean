/- A text. -/
import Derived.Test.YtmpehoebgifmnaaRec6
namespace Go.Proofs.Ytmpehoebgifmnaa
open Go.RowKit

end Go.Proofs.Ytmpehoebgifmnaa
