/- A text. -/
import Derived.Test.YtmpehoebgifmnaaRef06
namespace Go.Proofs.Ytmpehoebgifmnaa
open Go.RowKit

end Go.Proofs.Ytmpehoebgifmnaa
