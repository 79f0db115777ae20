/- A text. -/
import Derived.Test.YtnnnglklgofabaaBlobP
namespace Go.Proofs.Ytnnnglklgofabaa
open Go.RowKit

theorem fail_stuck {i : InS} (h : i.err ≠ 0) (e : Int) : i.fail e = i := if_neg h
def keyRight (s : Bs) : Bool := !s.isEmpty && decide (s.length ≤ 32767)
end Go.Proofs.Ytnnnglklgofabaa
