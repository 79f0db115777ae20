/- Contracts: control records. -/
import Derived.Test.YtombolmicfjjpaaCtl1
import Derived.Test.YtombolmicfjjpaaCtl2
import Derived.Test.YtombolmicfjjpaaRec1
namespace Go.Proofs.Ytombolmicfjjpaa
open Go.RowKit

theorem know_nil0 {α : Type} (R : List Value → α → Prop) (sz : Nat) (K : Know) : K.has (Know.flat R (.slice none 0 0) sz []) := fun _ _ _ => ⟨none, 0, rfl, fun h => absurd h (by simp)⟩

def ctlRead (n1 n2 : Bool) (d1 d2 : Bs) (many o : Int) : Int × Int × Int :=
  if n1 = true ∨ n2 = true ∨ many ≠ 0 ∨ o ≠ 0 then (0, 0, 12)
  else if (verRd 2 way 12 d1).2 ≠ 0 then (0, 0, (verRd 2 way 12 d1).2)
  else if (verRd 4 time0 11 d2).2 ≠ 0 then (0, 0, (verRd 4 time0 11 d2).2)
  else ((verRd 2 way 12 d1).1, (verRd 4 time0 11 d2).1, 0)

end Go.Proofs.Ytombolmicfjjpaa
