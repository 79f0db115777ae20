/- A text. -/
import Derived.Test.YtmpehoebgifmnaaRec2
namespace Go.Proofs.Ytmpehoebgifmnaa
open Go.RowKit

end Go.Proofs.Ytmpehoebgifmnaa
