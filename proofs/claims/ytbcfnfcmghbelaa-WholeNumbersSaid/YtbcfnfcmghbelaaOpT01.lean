/- The elements of arguments, opened: numbers and their sizes. -/
import Derived.Test.YtbcfnfcmghbelaaT01
import Derived.Test.YtbcfnfcmghbelaaOp00
namespace Go.Proofs.Ytbcfnfcmghbelaa
open Go.ChangeShapes Go.WideShapes Go.ChangeAt Go.RowKit Go.Deep

theorem cells_field : Try.prog.cellsOf 87 = 2 := by kernel_rfl

section
variable {H : Type} {enc : TypeId × Value → H} {w : World} {spare : Nat → Bool} {held : Bool}
set_option maxRecDepth 100000 in
theorem rfield_open {N : Nat} : ∀ n cs y, DataW.trod enc Try.prog w 0 spare held n 87 cs = some y → (∀ x ∈ y.2, x.block < N) → ∃ x, RField w cs x := by
  intro n cs y h _
  obtain ⟨xs, n', _, hx, hl, hxl, hg⟩ := DataW.trod_struct Try.underlying87 h
  rw [cells_field] at hl
  obtain ⟨a, b, rfl⟩ := len2 hl
  have g0 : DataW.trod enc Try.prog w 0 spare held n' 3 (List.take (Try.prog.cellsOf 3) (List.drop 0 [a, b])) = xs[0]? := hg 0 _ rfl
  have g1 : DataW.trod enc Try.prog w 0 spare held n' 3 (List.take (Try.prog.cellsOf 3) (List.drop 1 [a, b])) = xs[1]? := hg 1 _ rfl
  rw [cells_int] at g0 g1
  obtain ⟨y0, y1, rfl⟩ := len2 hxl
  obtain ⟨x0, e0, _, q0⟩ := DataW.trod_int Try.underlying3 g0
  obtain ⟨x1, e1, _, q1⟩ := DataW.trod_int Try.underlying3 g1
  simp at e0 e1
  subst e0 e1
  have r0 := wf_i64 q0
  exact ⟨⟨x0, x1⟩, rfl, r0.1, r0.2⟩
end

end Go.Proofs.Ytbcfnfcmghbelaa
