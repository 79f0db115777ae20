/- Texts, one behind the other, opened. -/
import Derived.Test.YtkenneeejdngaaaL05C
import Derived.Test.YtkenneeejdngaaaOpen
namespace Go.Proofs.Ytkenneeejdngaaa
open Go.RowKit

section
variable {H : Type} {enc : TypeId × Value → H} {w : World} {spare : Nat → Bool} {held : Bool}
theorem rs_opens {N : Nat} : ∀ n cs y, DataW.trod enc Try.prog w 0 spare held n 9 cs = some y → Light 9 y.1 → (∀ x ∈ y.2, x.block < N) → ∃ x : Bs, RStr w cs x ∧ x.length ≤ 140737488351232 := fun n cs y h hl _ => opens_str Try.underlying9 h hl
theorem cells_str1 : Try.prog.cellsOf 9 = 1 := by kernel_rfl
end

end Go.Proofs.Ytkenneeejdngaaa
