/- Numbers of fixed sizes, one behind the other. -/
import Derived.Test.YtombolmicfjjpaaKeyP
namespace Go.Proofs.Ytombolmicfjjpaa
open Go.RowKit

theorem int_okA (k : Nat) (h1 : 1 ≤ k) (h8 : k ≤ 8) (s : Bs) (pos : Nat) (hp : pos + k ≤ s.length) : (⟨s, pos, 0⟩ : InS).int k = (sInt ((s.drop pos).take k), ⟨s, pos + k, 0⟩) := by
  have h := (rds_intN k h1 h8).ok s pos (sInt ((s.drop pos).take k)) k (by omega) (by unfold getIntN; rw [if_neg (by rw [List.length_drop]; omega)])
  exact h.2
def FitsAll (l : List (Int × Nat)) : Prop := ∀ x ∈ l, fits x.1 x.2
instance (l : List (Int × Nat)) : Decidable (FitsAll l) := by unfold FitsAll; infer_instance
theorem OutS.put_err {o : OutS} (h : o.err ≠ 0) (s : Bs) : o.put s = o := if_neg h
theorem OutS.fail_stuck {o : OutS} (h : o.err ≠ 0) (e : Int) : o.fail e = o := if_neg h
theorem OutS.int_stuck {o : OutS} (h : o.err ≠ 0) (n k : Int) : o.int n k = o := by
  unfold OutS.int; split
  · exact OutS.put_err h _
  · exact OutS.fail_stuck h _
theorem sInt_fits (s : Bs) (k : Nat) (h1 : 1 ≤ k) (h8 : k ≤ 8) (hl : s.length = k) : fits (sInt s) k := by
  have h := beBytes_sInt s
  have h2 : sInt (beBytes (sInt s) k) = sInt s := by rw [← hl, h]
  have h3 := (sInt_beBytes_iff (sInt s) k h1).1 h2
  refine ⟨by omega, by omega, ?_⟩
  rw [Int.toNat_natCast]
  exact h3
end Go.Proofs.Ytombolmicfjjpaa
