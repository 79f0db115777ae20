/- A text. -/
import Derived.Test.YtmpehoebgifmnaaRecP
namespace Go.Proofs.Ytmpehoebgifmnaa
open Go.RowKit

end Go.Proofs.Ytmpehoebgifmnaa
