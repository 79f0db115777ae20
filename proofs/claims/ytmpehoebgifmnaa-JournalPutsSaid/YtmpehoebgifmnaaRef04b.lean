/- A text. -/
import Derived.Test.YtmpehoebgifmnaaRef04
namespace Go.Proofs.Ytmpehoebgifmnaa
open Go.RowKit

end Go.Proofs.Ytmpehoebgifmnaa
