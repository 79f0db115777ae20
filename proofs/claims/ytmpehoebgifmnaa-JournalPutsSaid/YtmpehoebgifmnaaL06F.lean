/- A text. -/
import Derived.Test.YtmpehoebgifmnaaHdr3
namespace Go.Proofs.Ytmpehoebgifmnaa
open Go.RowKit

end Go.Proofs.Ytmpehoebgifmnaa
