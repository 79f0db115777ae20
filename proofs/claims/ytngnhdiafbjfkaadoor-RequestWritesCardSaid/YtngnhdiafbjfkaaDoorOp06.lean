/- The elements of arguments, opened: headers. -/
import Derived.Test.YtngnhdiafbjfkaaDoorL06F
import Derived.Test.YtngnhdiafbjfkaaDoorOp00
namespace Go.Proofs.YtngnhdiafbjfkaaDoor
open Go.RowKit

open Go.ChangeShapes Go.WideShapes Go.ChangeAt Go.Deep

theorem cells_blob : Tryd.prog.cellsOf 36 = 2 := by kernel_rfl
theorem cells_bool : Tryd.prog.cellsOf 4 = 1 := by kernel_rfl
section
variable {H : Type} {enc : TypeId × Value → H} {w : World} {spare : Nat → Bool} {held : Bool}
set_option maxRecDepth 100000 in
theorem blob_open : ∀ n a b y, DataW.trod enc Tryd.prog w 0 spare held n 36 [a, b] = some y → ∃ (nl : Bool) (d : ByteArray), a = .bool nl ∧ b = .string d ∧ d.size ≤ maxLen := by
  intro n a b y h
  obtain ⟨xs, n', _, hx, hl, hxl, hg⟩ := DataW.trod_struct Tryd.underlying36 h
  have g0 : DataW.trod enc Tryd.prog w 0 spare held n' 4 (List.take (Tryd.prog.cellsOf 4) (List.drop 0 [a, b])) = xs[0]? := hg 0 _ rfl
  have g1 : DataW.trod enc Tryd.prog w 0 spare held n' 9 (List.take (Tryd.prog.cellsOf 9) (List.drop 1 [a, b])) = xs[1]? := hg 1 _ rfl
  rw [cells_bool] at g0
  rw [cells_str] at g1
  obtain ⟨y0, y1, rfl⟩ := len2 hxl
  obtain ⟨x0, e0, _⟩ := DataW.trod_bool Tryd.underlying4 g0
  obtain ⟨x1, e1, _, q1⟩ := DataW.trod_string Tryd.underlying9 g1
  simp at e0 e1
  exact ⟨x0, x1, e0, e1, q1⟩
end
end Go.Proofs.YtngnhdiafbjfkaaDoor
