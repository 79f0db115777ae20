/- Letters of words (pure). -/
import Derived.Test.YtenojajfacacoaaDoorSc4
namespace Go.Proofs.YtenojajfacacoaaDoor
open Go.RowKit

/-- The letters that are set, in a word. -/
def letB (a t c : Bool) : Bs := (if a then [97] else []) ++ ((if t then [116] else []) ++ (if c then [99] else []))
def letW (a t c : Bool) : Bs := if letB a t c = [] then [45] else letB a t c
def hasB (s : Bs) (c : UInt8) : Bool := decide (0 ≤ Lib.indexByte s c)
/-- Letters of a word, and whether it is one. -/
def letOk (s : Bs) : Bool := letW (hasB s 97) (hasB s 116) (hasB s 99) == s
theorem letOk_back : ∀ a t c : Bool, hasB (letW a t c) 97 = a ∧ hasB (letW a t c) 116 = t ∧ hasB (letW a t c) 99 = c ∧ letOk (letW a t c) = true := by decide +kernel

end Go.Proofs.YtenojajfacacoaaDoor
