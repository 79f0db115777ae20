/- Contracts: decoding a record; whether it may be, by the document. -/
import Derived.Test.YtmpehoebgifmnaaDoorRec5
import Derived.Test.YtmpehoebgifmnaaDoorL06W
namespace Go.Proofs.YtmpehoebgifmnaaDoor
open Go.RowKit

def decJ (s : Bs) : InS := (⟨s, 0, 0⟩ : InS).record.2.close
def decR (s : Bs) : RecS := if (decJ s).err = 0 then (⟨s, 0, 0⟩ : InS).record.1 else RecS.zero
def badR (a b c : Bool) : Int := if a && b && c then 0 else 4

def smallR (x : RecS) : Int := if 500 < x.key.data.length ∨ 500 < x.val.data.length then 0 else smallN x.hdrs
end Go.Proofs.YtmpehoebgifmnaaDoor
