/- The table of requests, out of what the row lists. -/
import Derived.Test.YtngnhdiafbjfkaaDoorCards
import Derived.Test.YtngnhdiafbjfkaaDoorLaw
import Derived.Test.YtngnhdiafbjfkaaDoorVer1
import Derived.OpenShut
import Derived.MakeChecks
import Derived.LaidMore
namespace Go.Proofs.YtngnhdiafbjfkaaDoor
open Go.ChangeShapes Go.WideShapes Go.ChangeAt Go.RowKit

theorem gReqs : Tryd.prog.globalNamed "cursitor/version.requests" = some 0 := by kernel_rfl
theorem gReqsType : (Tryd.prog.globals[0]?).map (·.type) = some 62 := by kernel_rfl
theorem cells_req : Tryd.prog.cellsOf 59 = 4 := by kernel_rfl
theorem cells_reqs : Tryd.prog.cellsOf 62 = 20 := by kernel_rfl
theorem cells_i64 : Tryd.prog.cellsOf 3 = 1 := by kernel_rfl
theorem cells_s1 : Tryd.prog.cellsOf 9 = 1 := by kernel_rfl
theorem dlen4 {α : Type} {l : List α} (h : l.length = 4) : ∃ a b c d, l = [a, b, c, d] := by
  match l, h with
  | [a, b, c, d], _ => exact ⟨a, b, c, d, rfl⟩
section
variable {H : Type} {enc : TypeId × Value → H} {w : World} {spare : Nat → Bool} {held : Bool}
set_option maxRecDepth 100000 in
theorem req_row {n : Nat} {cs : List Value} {y : DataW H × List MemPlace} {a b c : Int} {s : Bs} (h : DataW.trod enc Tryd.prog w 0 spare held n 59 cs = some y)
    (hy : y.1 = .agg [.lit (.int .i64 a), .lit (.string s), .lit (.int .i64 b), .lit (.int .i64 c)]) : cs = [.int .i64 a, .string ⟨s.toArray⟩, .int .i64 b, .int .i64 c] := by
  obtain ⟨xs, m, _, rfl, hcl, hxl, hg⟩ := DataW.trod_struct Tryd.underlying59 h
  rw [cells_req] at hcl
  obtain ⟨c0, c1, c2, c3, rfl⟩ := dlen4 hcl
  obtain ⟨x0, x1, x2, x3, rfl⟩ := dlen4 hxl
  have g0 : DataW.trod enc Tryd.prog w 0 spare held m 3 (List.take (Tryd.prog.cellsOf 3) (List.drop 0 [c0, c1, c2, c3])) = some x0 := hg 0 _ rfl
  have g1 : DataW.trod enc Tryd.prog w 0 spare held m 9 (List.take (Tryd.prog.cellsOf 9) (List.drop 1 [c0, c1, c2, c3])) = some x1 := hg 1 _ rfl
  have g2 : DataW.trod enc Tryd.prog w 0 spare held m 3 (List.take (Tryd.prog.cellsOf 3) (List.drop 2 [c0, c1, c2, c3])) = some x2 := hg 2 _ rfl
  have g3 : DataW.trod enc Tryd.prog w 0 spare held m 3 (List.take (Tryd.prog.cellsOf 3) (List.drop 3 [c0, c1, c2, c3])) = some x3 := hg 3 _ rfl
  rw [cells_i64] at g0 g2 g3
  rw [cells_s1] at g1
  obtain ⟨k0, e0, f0, _⟩ := DataW.trod_int Tryd.underlying3 g0
  obtain ⟨k1, e1, f1, _⟩ := DataW.trod_string Tryd.underlying9 g1
  obtain ⟨k2, e2, f2, _⟩ := DataW.trod_int Tryd.underlying3 g2
  obtain ⟨k3, e3, f3, _⟩ := DataW.trod_int Tryd.underlying3 g3
  subst f0 f1 f2 f3
  simp at hy e0 e1 e2 e3
  obtain ⟨h0, h1, h2, h3⟩ := hy
  subst h0 h1 h2 h3 e0 e1 e2 e3
  rfl
end
theorem reqs_of_laid {W : World} (h : laidMetH Tryd.prog [("cursitor/version.requests", Rows.laid_cursitor_version_requests)] W) : Know.reqs.p W (· < W.heap.size) := by
  rw [MakeChecks.laidMetH_plain _ _ _ (by as_aux_lemma => kernel_rfl)] at h
  obtain ⟨ps, ⟨g0, t0, cs0, f0, p0, q0, hg0, ht0, hv0, hd0, _, _⟩, _, _⟩ := h
  obtain rfl := Option.some.inj (gReqs.symm.trans hg0)
  obtain rfl := Option.some.inj (gReqsType.symm.trans ht0)
  obtain ⟨xs, m1, rfl, hx1, hlen, hn5, hel⟩ := DataW.trod_array Tryd.underlying62 hd0
  rw [cells_req] at hel
  rw [cells_reqs] at hlen
  match xs, hn5, hx1, hel with
  | [x0, x1, x2, x3, x4], _, hx1, hel =>
    have hx2 := congrArg (·.1) hx1
    simp only [List.map_cons, List.map_nil, Rows.laid_cursitor_version_requests, DataW.agg.injEq, List.cons.injEq] at hx2
    obtain ⟨d0, d1, d2, d3, d4, _⟩ := hx2
    have r0 := req_row (hel 0 (by decide)) d0.symm
    have r1 := req_row (hel 1 (by decide)) d1.symm
    have r2 := req_row (hel 2 (by decide)) d2.symm
    have r3 := req_row (hel 3 (by decide)) d3.symm
    have r4 := req_row (hel 4 (by decide)) d4.symm
    have hcs : cs0.toList = reqCells := by
      have e : cs0.toList = (cs0.toList.drop (0 * 4)).take 4 ++ ((cs0.toList.drop (1 * 4)).take 4 ++ ((cs0.toList.drop (2 * 4)).take 4 ++ ((cs0.toList.drop (3 * 4)).take 4 ++ (cs0.toList.drop (4 * 4)).take 4))) := by
        generalize cs0.toList = l at hlen
        refine List.ext_getElem? fun i => ?_
        simp only [List.getElem?_append, List.length_take, List.length_drop, List.getElem?_take, List.getElem?_drop, hlen]
        repeat' split
        all_goals first
          | (congr 1; omega)
          | (rw [List.getElem?_eq_none (by omega)])
          | omega
      rw [e, r0, r1, r2, r3, r4]
      rfl
    have hcell : ∀ j u, reqCells[j]? = some u → W.cell? ⟨0, j, Option.none⟩ = some u := by
      intro j u hu
      have := World.var?_cell hg0 hv0 j
      rw [this, ← Array.getElem?_toList, hcs]
      exact hu
    have hb : 0 < W.heap.size := World.block_lt_of_cell? W _ (hcell 0 _ rfl)
    exact ⟨hb, hb, hcell⟩
/-- A world for the witness: the settled one, the table holding what its initialiser lays. -/
noncomputable def reqWorld (os : Os) : World :=
  { World.holding Tryd.prog os ⟨#[], #[], []⟩ with heap := (World.holding Tryd.prog os ⟨#[], #[], []⟩).heap.modify 0 fun
      | .cells _ t frozen => .cells #[.int .i64 0, .string ⟨#[112, 114, 111, 100, 117, 99, 101]⟩, .int .i64 3, .int .i64 4, .int .i64 22, .string ⟨#[98, 101, 103, 105, 110]⟩, .int .i64 0, .int .i64 1, .int .i64 24, .string ⟨#[97, 100, 100]⟩, .int .i64 0, .int .i64 0, .int .i64 26, .string ⟨#[101, 110, 100]⟩, .int .i64 0, .int .i64 0, .int .i64 27, .string ⟨#[109, 97, 114, 107]⟩, .int .i64 0, .int .i64 1] t frozen
      | o => o }

end Go.Proofs.YtngnhdiafbjfkaaDoor
