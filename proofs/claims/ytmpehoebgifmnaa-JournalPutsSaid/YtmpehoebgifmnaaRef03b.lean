/- A text. -/
import Derived.Test.YtmpehoebgifmnaaRef03
namespace Go.Proofs.Ytmpehoebgifmnaa
open Go.RowKit

end Go.Proofs.Ytmpehoebgifmnaa
