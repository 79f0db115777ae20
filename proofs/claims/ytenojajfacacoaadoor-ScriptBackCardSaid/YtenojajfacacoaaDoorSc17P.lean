/- Rows of numbers, made. -/
import Derived.Test.YtenojajfacacoaaDoorSc16P
import Derived.Deep.OwnRows
namespace Go.Proofs.YtenojajfacacoaaDoor
open Go.RowKit

theorem mk_ints (nw : Nat) (hn : nw ≤ 1000000) (w : World) : (Instr.makeSlice 23 (.int .i64 (nw : Int)) (.int .i64 (nw : Int))).run Tryd.prog w = .ok (.slice (some ⟨w.heap.size, 0, none⟩) nw nw) (w.alloc (.cells (madeCells #[Value.int .i64 0] nw) 3 (0, 0))) := by
  have h := run_make_row' 23 3 (.int .i64 0) 8 Tryd.underlying23 (by kernel_rfl) rfl .i64 .i64 nw (by omega) (by omega) w
  have e : (madeCells (Value.int .i64 0).cells nw) = (madeCells #[Value.int .i64 0] nw) := rfl
  first | exact h | (rw [e] at h; exact h) | (simpa using h)
theorem made_len (nw : Nat) : (madeCells #[Value.int .i64 0] nw).size = nw := by simp [madeCells]

end Go.Proofs.YtenojajfacacoaaDoor
