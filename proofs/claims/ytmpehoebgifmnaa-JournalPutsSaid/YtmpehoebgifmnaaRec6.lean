/- A text. -/
import Derived.Test.YtmpehoebgifmnaaRec5
import Derived.Test.YtmpehoebgifmnaaL06W
namespace Go.Proofs.Ytmpehoebgifmnaa
open Go.RowKit

end Go.Proofs.Ytmpehoebgifmnaa
