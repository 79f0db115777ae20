/- Layer 6, walked: HeaderWrites. -/
import Derived.Test.YtombolmicfjjpaaRef06
import Derived.Test.YtombolmicfjjpaaL06F
namespace Go.Proofs.Ytombolmicfjjpaa
open Go.RowKit

def Fit (n : Nat) : Prop := n ≤ 140737488351232
end Go.Proofs.Ytombolmicfjjpaa
