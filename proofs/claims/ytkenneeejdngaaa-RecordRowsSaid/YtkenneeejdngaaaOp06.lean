/- The elements of arguments, opened: headers. -/
import Derived.Test.YtkenneeejdngaaaL06F
import Derived.Test.YtkenneeejdngaaaOp00
namespace Go.Proofs.Ytkenneeejdngaaa
open Go.RowKit

open Go.ChangeShapes Go.WideShapes Go.ChangeAt Go.Deep

theorem cells_hdr : Try.prog.cellsOf 57 = 3 := by kernel_rfl
theorem cells_blob : Try.prog.cellsOf 55 = 2 := by kernel_rfl
theorem cells_bool : Try.prog.cellsOf 4 = 1 := by kernel_rfl
section
variable {H : Type} {enc : TypeId × Value → H} {w : World} {spare : Nat → Bool} {held : Bool}
set_option maxRecDepth 100000 in
theorem blob_open : ∀ n a b y, DataW.trod enc Try.prog w 0 spare held n 55 [a, b] = some y → ∃ (nl : Bool) (d : ByteArray), a = .bool nl ∧ b = .string d ∧ d.size ≤ maxLen := by
  intro n a b y h
  obtain ⟨xs, n', _, hx, hl, hxl, hg⟩ := DataW.trod_struct Try.underlying55 h
  have g0 : DataW.trod enc Try.prog w 0 spare held n' 4 (List.take (Try.prog.cellsOf 4) (List.drop 0 [a, b])) = xs[0]? := hg 0 _ rfl
  have g1 : DataW.trod enc Try.prog w 0 spare held n' 9 (List.take (Try.prog.cellsOf 9) (List.drop 1 [a, b])) = xs[1]? := hg 1 _ rfl
  rw [cells_bool] at g0
  rw [cells_str] at g1
  obtain ⟨y0, y1, rfl⟩ := len2 hxl
  obtain ⟨x0, e0, _⟩ := DataW.trod_bool Try.underlying4 g0
  obtain ⟨x1, e1, _, q1⟩ := DataW.trod_string Try.underlying9 g1
  simp at e0 e1
  exact ⟨x0, x1, e0, e1, q1⟩
set_option maxRecDepth 100000 in
theorem rhdr_open {N : Nat} : ∀ n cs y, DataW.trod enc Try.prog w 0 spare held n 57 cs = some y → (∀ x ∈ y.2, x.block < N) → ∃ x : HdrS, RHdr cs x := by
  intro n cs y h _
  obtain ⟨xs, n', _, hx, hl, hxl, hg⟩ := DataW.trod_struct Try.underlying57 h
  rw [cells_hdr] at hl
  obtain ⟨a, b, c, rfl⟩ := len3 hl
  have g0 : DataW.trod enc Try.prog w 0 spare held n' 9 (List.take (Try.prog.cellsOf 9) (List.drop 0 [a, b, c])) = xs[0]? := hg 0 _ rfl
  have g1 : DataW.trod enc Try.prog w 0 spare held n' 55 (List.take (Try.prog.cellsOf 55) (List.drop 1 [a, b, c])) = xs[1]? := hg 1 _ rfl
  rw [cells_str] at g0
  rw [cells_blob] at g1
  obtain ⟨y0, y1, rfl⟩ := len2 hxl
  obtain ⟨x0, e0, _, q0⟩ := DataW.trod_string Try.underlying9 g0
  obtain ⟨nl, d, e1, e2, _⟩ := blob_open _ _ _ _ g1
  simp at e0
  subst e0 e1 e2
  exact ⟨⟨x0.data.toList, ⟨nl, d.data.toList⟩⟩, rfl⟩
end

end Go.Proofs.Ytkenneeejdngaaa
