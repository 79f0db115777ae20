/- Arrays of three, by value. -/
import Derived.Lib.SmallJoins
import Derived.Laws.IdiomArrays
import Derived.Test.YtngnhdiafbjfkaaArgs
namespace Go.Proofs.Ytngnhdiafbjfkaa
open Go.Joins Go.ChangeShapes Go.WideShapes Go.RowKit Go.Deep
section
variable {H : Type} {enc : TypeId × Value → H} {P : Program} {w : World} {base : Nat} {spare : Nat → Bool} {held : Bool}
theorem open_bools3 {r : Reach} {b0 : Nat} {t e : TypeId} {v : Value} {d : DataW H} {p : List MemPlace} (ht : P.underlying t = some (.array 3 e)) (he : P.underlying e = some .bool) (hce : P.cellsOf e = 1) (hC : P.cellsOf t = 3)
    (hv : Value.okWide P w r b0 t v) (h : DataW.Trod enc P w base spare held t v d p) : ∃ x0 x1 x2 : Bool, v = .agg #[.bool x0, .bool x1, .bool x2] := by
  unfold Value.okWide at hv
  rw [ht] at hv
  obtain ⟨cs, rfl, hsz, _⟩ := hv
  obtain ⟨l⟩ := cs
  match l, hsz.trans hC with
  | [c0, c1, c2], _ =>
    obtain ⟨fuel, hf⟩ := h
    obtain ⟨y0, y1, y2, n, _, h0, h1, h2⟩ := trod_array3 ht hce hf
    obtain ⟨x0, e0, _⟩ := DataW.trod_bool he h0
    obtain ⟨x1, e1, _⟩ := DataW.trod_bool he h1
    obtain ⟨x2, e2, _⟩ := DataW.trod_bool he h2
    simp at e0 e1 e2
    subst e0 e1 e2
    exact ⟨x0, x1, x2, rfl⟩
end
end Go.Proofs.Ytngnhdiafbjfkaa
