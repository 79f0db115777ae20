/- Layer 6, walked: HeaderWrites. -/
import Derived.Test.YtmpehoebgifmnaaDoorRef06
import Derived.Test.YtmpehoebgifmnaaDoorL06F
namespace Go.Proofs.YtmpehoebgifmnaaDoor
open Go.RowKit

def Fit (n : Nat) : Prop := n ≤ 140737488351232
def HFit (l : List HdrS) : Prop := ∀ x ∈ l, x.key.length ≤ 140737488351232 ∧ x.val.data.length ≤ 140737488351232
def smallN (l : List HdrS) : Int := if hsum l ≤ 1000 then 1 else 0
theorem hsum_take (l : List HdrS) (k : Nat) (hk : k < l.length) : hsum (l.take (k + 1)) = hsum (l.take k) + (l[k].key.length + l[k].val.data.length + 1) := by
  rw [List.take_succ_eq_append_getElem hk]
  unfold hsum
  rw [List.map_append, List.sum_append]
  simp
theorem hsum_take_le (l : List HdrS) (k : Nat) : hsum (l.take k) ≤ hsum l := by
  have : hsum l = hsum (l.take k) + hsum (l.drop k) := by
    unfold hsum
    rw [← List.sum_append, ← List.map_append, List.take_append_drop]
  omega
end Go.Proofs.YtmpehoebgifmnaaDoor
