/- Numbers of fixed sizes, one behind the other. -/
import Derived.Test.YtombolmicfjjpaaKeyP
namespace Go.Proofs.Ytombolmicfjjpaa
open Go.RowKit

def FitsAll (l : List (Int × Nat)) : Prop := ∀ x ∈ l, fits x.1 x.2
instance (l : List (Int × Nat)) : Decidable (FitsAll l) := by unfold FitsAll; infer_instance
end Go.Proofs.Ytombolmicfjjpaa
