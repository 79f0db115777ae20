/- Headers, there and back. -/
import Derived.Test.YtombolmicfjjpaaHdr3
import Derived.Test.YtombolmicfjjpaaIntsP
namespace Go.Proofs.Ytombolmicfjjpaa
open Go.RowKit

def hsum (l : List HdrS) : Nat := (l.map fun h => h.key.length + h.val.data.length + 1).sum
end Go.Proofs.Ytombolmicfjjpaa
