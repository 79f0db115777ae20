/- A text. -/
import Derived.Test.YtmpehoebgifmnaaRef06
import Derived.Test.YtmpehoebgifmnaaL06F
namespace Go.Proofs.Ytmpehoebgifmnaa
open Go.RowKit

def Fit (n : Nat) : Prop := n ≤ 140737488351232
end Go.Proofs.Ytmpehoebgifmnaa
