/- A text. -/
import Derived.Test.YtmpehoebgifmnaaKeyP
namespace Go.Proofs.Ytmpehoebgifmnaa
open Go.RowKit

def FitsAll (l : List (Int × Nat)) : Prop := ∀ x ∈ l, fits x.1 x.2
instance (l : List (Int × Nat)) : Decidable (FitsAll l) := by unfold FitsAll; infer_instance
theorem OutS.put_err {o : OutS} (h : o.err ≠ 0) (s : Bs) : o.put s = o := if_neg h
theorem OutS.fail_stuck {o : OutS} (h : o.err ≠ 0) (e : Int) : o.fail e = o := if_neg h
theorem OutS.int_stuck {o : OutS} (h : o.err ≠ 0) (n k : Int) : o.int n k = o := by
 unfold OutS.int; split
 · exact OutS.put_err h _
 · exact OutS.fail_stuck h _
theorem sInt_fits (s : Bs) (k : Nat) (h1 : 1 ≤ k) (h8 : k ≤ 8) (hl : s.length = k) : fits (sInt s) k := by
 have h := beBytes_sInt s; have h2 : sInt (beBytes (sInt s) k) = sInt s := by rw [← hl, h]
 have h3 := (sInt_beBytes_iff (sInt s) k h1).1 h2; refine ⟨by omega, by omega, ?_⟩; rw [Int.toNat_natCast]; exact h3
end Go.Proofs.Ytmpehoebgifmnaa
