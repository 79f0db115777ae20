/- Keys, there and back. -/
import Derived.Test.YtedbadkfbkecbaaBlobP
namespace Go.Proofs.Ytedbadkfbkecbaa
open Go.RowKit

theorem fail_stuck {i : InS} (h : i.err ≠ 0) (e : Int) : i.fail e = i := if_neg h
end Go.Proofs.Ytedbadkfbkecbaa
