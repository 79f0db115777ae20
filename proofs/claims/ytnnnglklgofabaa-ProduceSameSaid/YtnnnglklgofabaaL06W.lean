/- A text. -/
import Derived.Test.YtnnnglklgofabaaRef06
import Derived.Test.YtnnnglklgofabaaL06F
namespace Go.Proofs.Ytnnnglklgofabaa
open Go.RowKit

def Fit (n : Nat) : Prop := n ≤ 140737488351232
def HFit (l : List HdrS) : Prop := ∀ x ∈ l, x.key.length ≤ 140737488351232 ∧ x.val.data.length ≤ 140737488351232
def smallN (l : List HdrS) : Int := if hsum l ≤ 1000 then 1 else 0
end Go.Proofs.Ytnnnglklgofabaa
