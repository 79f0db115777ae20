/- A head of a request, opened, with its reach. -/
import Derived.Test.YtngnhdiafbjfkaaDoorOpen6
import Derived.Test.YtngnhdiafbjfkaaDoorReq9
import Derived.Lib.SmallJoins
import Derived.Test.YtngnhdiafbjfkaaDoorArgs
namespace Go.Proofs.YtngnhdiafbjfkaaDoor
open Go.Joins Go.RowKit
open Go.ChangeShapes Go.WideShapes Go.ChangeAt Go.Deep

theorem cells_head : Tryd.prog.cellsOf 38 = 5 := by kernel_rfl
section
variable {H : Type} {enc : TypeId × Value → H} {w : World} {spare : Nat → Bool} {held : Bool}
set_option maxHeartbeats 1000000 in
set_option maxRecDepth 100000 in
theorem head_open {r : Reach} {b0 N : Nat} {v : Value} {d : DataW H} {p : List MemPlace} (hv : Value.okWide Tryd.prog w r b0 38 v) (h : DataW.Trod enc Tryd.prog w 0 spare held 38 v d p) (hl : Light 38 d) (hN : ∀ x ∈ p, x.block < N) :
    ∃ (x : HeadS), v = .agg #[.int .i64 x.kind, .int .i64 x.ver, .int .i64 x.num, .bool x.cli.null, .string (bb x.cli.data)] ∧ x.R := by
  obtain ⟨cs, rfl, hsz⟩ := okWide_struct Tryd.underlying38 hv
  obtain ⟨l⟩ := cs
  match l, hsz.trans cells_head with
  | [c0, c1, c2, c3, c4], _ =>
    obtain ⟨fuel, hf⟩ := h
    obtain ⟨hc, m, hg⟩ := opens_field Tryd.underlying38 hf hl hN
    obtain ⟨z0, g0, l0, n0⟩ := hg 0 _ rfl
    have g0 : DataW.trod enc Tryd.prog w 0 spare held m 3 (List.take (Tryd.prog.cellsOf 3) (List.drop 0 [c0, c1, c2, c3, c4])) = some z0 := g0
    rw [cells_int] at g0
    obtain ⟨z1, g1, l1, n1⟩ := hg 1 _ rfl
    have g1 : DataW.trod enc Tryd.prog w 0 spare held m 3 (List.take (Tryd.prog.cellsOf 3) (List.drop 1 [c0, c1, c2, c3, c4])) = some z1 := g1
    rw [cells_int] at g1
    obtain ⟨z2, g2, l2, n2⟩ := hg 2 _ rfl
    have g2 : DataW.trod enc Tryd.prog w 0 spare held m 3 (List.take (Tryd.prog.cellsOf 3) (List.drop 2 [c0, c1, c2, c3, c4])) = some z2 := g2
    rw [cells_int] at g2
    obtain ⟨z3, g3, l3, n3⟩ := hg 3 _ rfl
    have g3 : DataW.trod enc Tryd.prog w 0 spare held m 36 (List.take (Tryd.prog.cellsOf 36) (List.drop 3 [c0, c1, c2, c3, c4])) = some z3 := g3
    rw [cells_blob] at g3
    obtain ⟨x0, e0, r0⟩ := opens_i64 Tryd.underlying3 g0
    obtain ⟨x1, e1, r1⟩ := opens_i64 Tryd.underlying3 g1
    obtain ⟨x2, e2, r2⟩ := opens_i64 Tryd.underlying3 g2
    obtain ⟨x3, e3, s3⟩ := blob_opens _ _ _ g3 l3 n3
    simp at e0 e1 e2 e3
    obtain ⟨e3a, e3b⟩ := e3
    subst e0 e1 e2 e3a e3b
    exact ⟨⟨x0, x1, x2, x3⟩, rfl, ⟨r0, r1, r2⟩⟩
end
end Go.Proofs.YtngnhdiafbjfkaaDoor
