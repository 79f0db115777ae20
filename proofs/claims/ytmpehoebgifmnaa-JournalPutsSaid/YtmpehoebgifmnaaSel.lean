/- A text. -/
import Derived.Test.YtmpehoebgifmnaaSep
namespace Go.Proofs.Ytmpehoebgifmnaa
open Go.RowKit

end Go.Proofs.Ytmpehoebgifmnaa
