/- Contracts of package record: writing. -/
import Derived.Test.YtmpehoebgifmnaaDoorRec1
namespace Go.Proofs.YtmpehoebgifmnaaDoor
open Go.RowKit

theorem put_ok (a b : Bs) : (⟨a, 0⟩ : OutS).put b = ⟨a ++ b, 0⟩ := rfl
def encOk (x : RecS) : Bs := if recOk x = 0 then encR x else []
end Go.Proofs.YtmpehoebgifmnaaDoor
