/- The elements of arguments, opened, with their reach: headers. -/
import Derived.Test.YtkenneeejdngaaaOpen
import Derived.Test.YtkenneeejdngaaaOp06
namespace Go.Proofs.Ytkenneeejdngaaa
open Go.RowKit
open Go.ChangeShapes Go.WideShapes Go.ChangeAt Go.Deep

section
variable {H : Type} {enc : TypeId × Value → H} {w : World} {spare : Nat → Bool} {held : Bool}
set_option maxRecDepth 100000 in
theorem blob_opens {N : Nat} : ∀ n cs y, DataW.trod enc Try.prog w 0 spare held n 55 cs = some y → Light 55 y.1 → (∀ x ∈ y.2, x.block < N) → ∃ x : BlobS, cs = [.bool x.null, .string (bb x.data)] ∧ x.data.length ≤ 140737488351232 := by
  intro n cs y h hl hN
  obtain ⟨hc, m, hf⟩ := opens_field Try.underlying55 h hl hN
  rw [cells_blob] at hc
  obtain ⟨a, b, rfl⟩ := len2 hc
  obtain ⟨z0, g0, l0, _⟩ := hf 0 _ rfl
  obtain ⟨z1, g1, l1, _⟩ := hf 1 _ rfl
  have g0 : DataW.trod enc Try.prog w 0 spare held m 4 (List.take (Try.prog.cellsOf 4) (List.drop 0 [a, b])) = some z0 := g0
  have g1 : DataW.trod enc Try.prog w 0 spare held m 9 (List.take (Try.prog.cellsOf 9) (List.drop 1 [a, b])) = some z1 := g1
  rw [cells_bool] at g0
  rw [cells_str] at g1
  obtain ⟨x, e0⟩ := opens_bool Try.underlying4 g0
  obtain ⟨s, e1, hs⟩ := opens_str Try.underlying9 g1 l1
  simp at e0 e1
  subst e0 e1
  exact ⟨⟨x, s⟩, rfl, hs⟩
set_option maxRecDepth 100000 in
theorem rhdr_opens {N : Nat} : ∀ n cs y, DataW.trod enc Try.prog w 0 spare held n 57 cs = some y → Light 57 y.1 → (∀ x ∈ y.2, x.block < N) → ∃ x : HdrS, RHdr cs x ∧ (x.key.length ≤ 140737488351232 ∧ x.val.data.length ≤ 140737488351232) := by
  intro n cs y h hl hN
  obtain ⟨hc, m, hf⟩ := opens_field Try.underlying57 h hl hN
  rw [cells_hdr] at hc
  obtain ⟨a, b, c, rfl⟩ := len3 hc
  obtain ⟨z0, g0, l0, n0⟩ := hf 0 _ rfl
  obtain ⟨z1, g1, l1, n1⟩ := hf 1 _ rfl
  have g0 : DataW.trod enc Try.prog w 0 spare held m 9 (List.take (Try.prog.cellsOf 9) (List.drop 0 [a, b, c])) = some z0 := g0
  have g1 : DataW.trod enc Try.prog w 0 spare held m 55 (List.take (Try.prog.cellsOf 55) (List.drop 1 [a, b, c])) = some z1 := g1
  rw [cells_str] at g0
  rw [cells_blob] at g1
  obtain ⟨s, e0, hs⟩ := opens_str Try.underlying9 g0 l0
  obtain ⟨x, e1, hx⟩ := blob_opens _ _ _ g1 l1 n1
  simp at e0 e1
  obtain ⟨e1, e2⟩ := e1
  subst e0 e1 e2
  exact ⟨⟨s, x⟩, rfl, hs, hx⟩
end

end Go.Proofs.Ytkenneeejdngaaa
