/- A text. -/
import Derived.Test.YtmpehoebgifmnaaHdr3
import Derived.Test.YtmpehoebgifmnaaIntsP
namespace Go.Proofs.Ytmpehoebgifmnaa
open Go.RowKit

def hsum (l : List HdrS) : Nat := (l.map fun h => h.key.length + h.val.data.length + 1).sum
end Go.Proofs.Ytmpehoebgifmnaa
