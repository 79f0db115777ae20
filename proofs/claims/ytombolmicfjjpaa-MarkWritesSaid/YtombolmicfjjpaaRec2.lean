/- Contracts of package record: writing. -/
import Derived.Test.YtombolmicfjjpaaRec1
namespace Go.Proofs.Ytombolmicfjjpaa
open Go.RowKit

theorem put_ok (a b : Bs) : (⟨a, 0⟩ : OutS).put b = ⟨a ++ b, 0⟩ := rfl
def encOk (x : RecS) : Bs := if recOk x = 0 then encR x else []
end Go.Proofs.Ytombolmicfjjpaa
