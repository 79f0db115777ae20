/- Batches (pure): rows. -/
import Derived.Test.YtcjgdlfcfcabiaaBatP
import Derived.Test.YtcjgdlfcfcabiaaRecs
namespace Go.Proofs.Ytcjgdlfcfcabiaa
open Go.RowKit

def FitB (l : List (RecS × Value)) : Prop := ∀ x ∈ l, x.1.R ∧ HFit x.1.hdrs ∧ x.1.sum ≤ 1000000
theorem sum_hdrs {x : RecS} (h : x.sum ≤ 1000000) : x.hdrs.length ≤ 1000000 := by have := hsum_le x.hdrs; unfold RecS.sum at h; omega
theorem sum_data {x : RecS} (h : x.sum ≤ 1000000) : x.key.data.length ≤ 140737488355328 ∧ x.val.data.length ≤ 140737488355328 := by unfold RecS.sum at h; omega
theorem drop_recs (l : List (RecS × Value)) (k : Nat) (h : k < l.length) (x : RecS) (hx : l[k].1 = x) : (l.map (·.1)).drop k = x :: (l.map (·.1)).drop (k + 1) := by
  subst hx
  rw [List.drop_eq_getElem_cons (by simpa using h), List.getElem_map]
def GOf (r : Except Int Int) : Int := match r with | .ok g => g | .error _ => 0
theorem rowsC_cons (first last : Int) (r : RecS) (t : List RecS) (ah g : Int) : rowsC first last (r :: t) ah g = if r.off ≤ ah ∨ last < r.off then .error 13 else if r.time < -first ∨ 9223372036854775807 - first < r.time then .error 11 else rowsC first last t r.off (max g (first + r.time)) := rfl

end Go.Proofs.Ytcjgdlfcfcabiaa
