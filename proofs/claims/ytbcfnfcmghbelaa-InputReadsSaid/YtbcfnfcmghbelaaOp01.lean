/- The elements of arguments, opened: layers 1 and 2. -/
import Derived.Test.YtbcfnfcmghbelaaL01
import Derived.Test.YtbcfnfcmghbelaaOp00
namespace Go.Proofs.Ytbcfnfcmghbelaa
open Go.ChangeShapes Go.WideShapes Go.ChangeAt Go.RowKit Go.Deep

theorem cells_act1 : Try.prog.cellsOf 27 = 3 := by kernel_rfl

section
variable {H : Type} {enc : TypeId × Value → H} {w : World} {spare : Nat → Bool} {held : Bool}
set_option maxRecDepth 100000 in
theorem ract_open {N : Nat} : ∀ n cs y, DataW.trod enc Try.prog w 0 spare held n 27 cs = some y → (∀ x ∈ y.2, x.block < N) → ∃ x, RAct w cs x := by
  intro n cs y h _
  obtain ⟨xs, n', _, hx, hl, hxl, hg⟩ := DataW.trod_struct Try.underlying27 h
  rw [cells_act1] at hl
  obtain ⟨a, b, c, rfl⟩ := len3 hl
  have g0 : DataW.trod enc Try.prog w 0 spare held n' 5 (List.take (Try.prog.cellsOf 5) (List.drop 0 [a, b, c])) = xs[0]? := hg 0 _ rfl
  have g1 : DataW.trod enc Try.prog w 0 spare held n' 3 (List.take (Try.prog.cellsOf 3) (List.drop 1 [a, b, c])) = xs[1]? := hg 1 _ rfl
  have g2 : DataW.trod enc Try.prog w 0 spare held n' 3 (List.take (Try.prog.cellsOf 3) (List.drop 2 [a, b, c])) = xs[2]? := hg 2 _ rfl
  rw [cells_u8] at g0
  rw [cells_int] at g1 g2
  obtain ⟨y0, y1, y2, rfl⟩ := len3 hxl
  obtain ⟨x0, e0, _, q0⟩ := DataW.trod_int Try.underlying5 g0
  obtain ⟨x1, e1, _, q1⟩ := DataW.trod_int Try.underlying3 g1
  obtain ⟨x2, e2, _, q2⟩ := DataW.trod_int Try.underlying3 g2
  simp at e0 e1 e2
  subst e0 e1 e2
  have r0 := wf_u8 q0
  have r1 := wf_i64 q1
  have r2 := wf_i64 q2
  exact ⟨⟨x0, x1, x2⟩, rfl, r0.1, r0.2, r1.1, r1.2, r2.1, r2.2⟩
end

end Go.Proofs.Ytbcfnfcmghbelaa
