/- Contracts: whether two records are one. -/
import Derived.Test.YtmpehoebgifmnaaDoorRec4
import Derived.Deep.RegionHeld3
namespace Go.Proofs.YtmpehoebgifmnaaDoor
open Go.RowKit

theorem dec_false {a b : RecS} (h : ¬ a = b) {r : Bool} (hr : decide (a = b) = r) : r = false := by rw [← hr]; exact decide_eq_false h

end Go.Proofs.YtmpehoebgifmnaaDoor
