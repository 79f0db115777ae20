/- A text. -/
import Derived.Test.YtnnnglklgofabaaGreatRef06
import Derived.Test.YtnnnglklgofabaaGreatL06F
namespace Go.Proofs.YtnnnglklgofabaaGreat
open Go.RowKit

def Fit (n : Nat) : Prop := n ≤ 140737488351232
def HFit (l : List HdrS) : Prop := ∀ x ∈ l, x.key.length ≤ 140737488351232 ∧ x.val.data.length ≤ 140737488351232
def smallN (l : List HdrS) : Int := if hsum l ≤ 1000 then 1 else 0
end Go.Proofs.YtnnnglklgofabaaGreat
