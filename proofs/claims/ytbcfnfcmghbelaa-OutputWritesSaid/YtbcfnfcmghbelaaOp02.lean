/- The elements of arguments, opened: layer 2. -/
import Derived.Test.YtbcfnfcmghbelaaL02W
import Derived.Test.YtbcfnfcmghbelaaOp00
namespace Go.Proofs.Ytbcfnfcmghbelaa
open Go.ChangeShapes Go.WideShapes Go.ChangeAt Go.RowKit Go.Deep

theorem cells_act2 : Try.prog.cellsOf 47 = 4 := by kernel_rfl

section
variable {H : Type} {enc : TypeId × Value → H} {w : World} {spare : Nat → Bool} {held : Bool}
set_option maxRecDepth 100000 in
theorem ractw_open {N : Nat} : ∀ n cs y, DataW.trod enc Try.prog w 0 spare held n 47 cs = some y → (∀ x ∈ y.2, x.block < N) → ∃ x, RActW w cs x := by
  intro n cs y h _
  obtain ⟨xs, n', _, hx, hl, hxl, hg⟩ := DataW.trod_struct Try.underlying47 h
  rw [cells_act2] at hl
  obtain ⟨a, b, c, d, rfl⟩ := len4 hl
  have g0 : DataW.trod enc Try.prog w 0 spare held n' 5 (List.take (Try.prog.cellsOf 5) (List.drop 0 [a, b, c, d])) = xs[0]? := hg 0 _ rfl
  have g1 : DataW.trod enc Try.prog w 0 spare held n' 9 (List.take (Try.prog.cellsOf 9) (List.drop 1 [a, b, c, d])) = xs[1]? := hg 1 _ rfl
  have g2 : DataW.trod enc Try.prog w 0 spare held n' 3 (List.take (Try.prog.cellsOf 3) (List.drop 2 [a, b, c, d])) = xs[2]? := hg 2 _ rfl
  have g3 : DataW.trod enc Try.prog w 0 spare held n' 3 (List.take (Try.prog.cellsOf 3) (List.drop 3 [a, b, c, d])) = xs[3]? := hg 3 _ rfl
  rw [cells_u8] at g0
  rw [cells_str] at g1
  rw [cells_int] at g2 g3
  obtain ⟨y0, y1, y2, y3, rfl⟩ := len4 hxl
  obtain ⟨x0, e0, _, q0⟩ := DataW.trod_int Try.underlying5 g0
  obtain ⟨x1, e1, _, q1⟩ := DataW.trod_string Try.underlying9 g1
  obtain ⟨x2, e2, _, q2⟩ := DataW.trod_int Try.underlying3 g2
  obtain ⟨x3, e3, _, q3⟩ := DataW.trod_int Try.underlying3 g3
  simp at e0 e1 e2 e3
  subst e0 e1 e2 e3
  have r0 := wf_u8 q0
  have r2 := wf_i64 q2
  have r3 := wf_i64 q3
  exact ⟨⟨x0, x1.data.toList, x2, x3⟩, rfl, r0.1, r0.2, q1, r2.1, r2.2, r3.1, r3.2⟩
end

end Go.Proofs.Ytbcfnfcmghbelaa
