/- Of a request that ends a transaction, or begins one, its head says which body follows, and in which version, and both are read again, and nothing is left: proved of all, the table of requests as the program lays it. -/
import Derived.Test.YthppodbjjfkmfaaDoorCards
import Derived.Test.YthppodbjjfkmfaaDoorLaw
import Derived.Test.YthppodbjjfkmfaaDoorVer1
import Derived.OpenShut
import Derived.MakeChecks
import Derived.LaidMore
import Derived.Test.YthppodbjjfkmfaaDoorTie
import Derived.Deep.DeepHandedRow
import Derived.SevenTiedAt
import Derived.Test.YthppodbjjfkmfaaDoorGWholeTxnsCard4
import Derived.Test.YthppodbjjfkmfaaDoorArgs
/- The table of requests, out of what the row lists. -/
namespace Go.Proofs.YthppodbjjfkmfaaDoor
open Go.ChangeShapes Go.WideShapes Go.ChangeAt Go.RowKit

theorem gReqs : Tryd.prog.globalNamed "cursitor/version.requests" = some 0 := by kernel_rfl
theorem gReqsType : (Tryd.prog.globals[0]?).map (·.type) = some 88 := by kernel_rfl
theorem cells_req : Tryd.prog.cellsOf 75 = 4 := by kernel_rfl
theorem cells_reqs : Tryd.prog.cellsOf 88 = 20 := by kernel_rfl
theorem cells_i64 : Tryd.prog.cellsOf 3 = 1 := by kernel_rfl
theorem cells_s1 : Tryd.prog.cellsOf 9 = 1 := by kernel_rfl
theorem dlen4 {α : Type} {l : List α} (h : l.length = 4) : ∃ a b c d, l = [a, b, c, d] := by
  match l, h with
  | [a, b, c, d], _ => exact ⟨a, b, c, d, rfl⟩
section
variable {H : Type} {enc : TypeId × Value → H} {w : World} {spare : Nat → Bool} {held : Bool}
set_option maxRecDepth 100000 in
theorem req_row {n : Nat} {cs : List Value} {y : DataW H × List MemPlace} {a b c : Int} {s : Bs} (h : DataW.trod enc Tryd.prog w 0 spare held n 75 cs = some y)
    (hy : y.1 = .agg [.lit (.int .i64 a), .lit (.string s), .lit (.int .i64 b), .lit (.int .i64 c)]) : cs = [.int .i64 a, .string ⟨s.toArray⟩, .int .i64 b, .int .i64 c] := by
  obtain ⟨xs, m, _, rfl, hcl, hxl, hg⟩ := DataW.trod_struct Tryd.underlying75 h
  rw [cells_req] at hcl
  obtain ⟨c0, c1, c2, c3, rfl⟩ := dlen4 hcl
  obtain ⟨x0, x1, x2, x3, rfl⟩ := dlen4 hxl
  have g0 : DataW.trod enc Tryd.prog w 0 spare held m 3 (List.take (Tryd.prog.cellsOf 3) (List.drop 0 [c0, c1, c2, c3])) = some x0 := hg 0 _ rfl
  have g1 : DataW.trod enc Tryd.prog w 0 spare held m 9 (List.take (Tryd.prog.cellsOf 9) (List.drop 1 [c0, c1, c2, c3])) = some x1 := hg 1 _ rfl
  have g2 : DataW.trod enc Tryd.prog w 0 spare held m 3 (List.take (Tryd.prog.cellsOf 3) (List.drop 2 [c0, c1, c2, c3])) = some x2 := hg 2 _ rfl
  have g3 : DataW.trod enc Tryd.prog w 0 spare held m 3 (List.take (Tryd.prog.cellsOf 3) (List.drop 3 [c0, c1, c2, c3])) = some x3 := hg 3 _ rfl
  rw [cells_i64] at g0 g2 g3
  rw [cells_s1] at g1
  obtain ⟨k0, e0, f0, _⟩ := DataW.trod_int Tryd.underlying3 g0
  obtain ⟨k1, e1, f1, _⟩ := DataW.trod_string Tryd.underlying9 g1
  obtain ⟨k2, e2, f2, _⟩ := DataW.trod_int Tryd.underlying3 g2
  obtain ⟨k3, e3, f3, _⟩ := DataW.trod_int Tryd.underlying3 g3
  subst f0 f1 f2 f3
  simp at hy e0 e1 e2 e3
  obtain ⟨h0, h1, h2, h3⟩ := hy
  subst h0 h1 h2 h3 e0 e1 e2 e3
  rfl
end
theorem reqs_of_laid {W : World} (h : laidMetH Tryd.prog [("cursitor/version.requests", Rows.laid_cursitor_version_requests)] W) : Know.reqs.p W (· < W.heap.size) := by
  rw [MakeChecks.laidMetH_plain _ _ _ (by as_aux_lemma => kernel_rfl)] at h
  obtain ⟨ps, ⟨g0, t0, cs0, f0, p0, q0, hg0, ht0, hv0, hd0, _, _⟩, _, _⟩ := h
  obtain rfl := Option.some.inj (gReqs.symm.trans hg0)
  obtain rfl := Option.some.inj (gReqsType.symm.trans ht0)
  obtain ⟨xs, m1, rfl, hx1, hlen, hn5, hel⟩ := DataW.trod_array Tryd.underlying88 hd0
  rw [cells_req] at hel
  rw [cells_reqs] at hlen
  match xs, hn5, hx1, hel with
  | [x0, x1, x2, x3, x4], _, hx1, hel =>
    have hx2 := congrArg (·.1) hx1
    simp only [List.map_cons, List.map_nil, Rows.laid_cursitor_version_requests, DataW.agg.injEq, List.cons.injEq] at hx2
    obtain ⟨d0, d1, d2, d3, d4, _⟩ := hx2
    have r0 := req_row (hel 0 (by decide)) d0.symm
    have r1 := req_row (hel 1 (by decide)) d1.symm
    have r2 := req_row (hel 2 (by decide)) d2.symm
    have r3 := req_row (hel 3 (by decide)) d3.symm
    have r4 := req_row (hel 4 (by decide)) d4.symm
    have hcs : cs0.toList = reqCells := by
      have e : cs0.toList = (cs0.toList.drop (0 * 4)).take 4 ++ ((cs0.toList.drop (1 * 4)).take 4 ++ ((cs0.toList.drop (2 * 4)).take 4 ++ ((cs0.toList.drop (3 * 4)).take 4 ++ (cs0.toList.drop (4 * 4)).take 4))) := by
        generalize cs0.toList = l at hlen
        refine List.ext_getElem? fun i => ?_
        simp only [List.getElem?_append, List.length_take, List.length_drop, List.getElem?_take, List.getElem?_drop, hlen]
        repeat' split
        all_goals first
          | (congr 1; omega)
          | (rw [List.getElem?_eq_none (by omega)])
          | omega
      rw [e, r0, r1, r2, r3, r4]
      rfl
    have hcell : ∀ j u, reqCells[j]? = some u → W.cell? ⟨0, j, Option.none⟩ = some u := by
      intro j u hu
      have := World.var?_cell hg0 hv0 j
      rw [this, ← Array.getElem?_toList, hcs]
      exact hu
    have hb : 0 < W.heap.size := World.block_lt_of_cell? W _ (hcell 0 _ rfl)
    exact ⟨hb, hb, hcell⟩
/-- A world for the witness: the settled one, the table holding what its initialiser lays. -/
noncomputable def reqWorld (os : Os) : World :=
  { World.holding Tryd.prog os ⟨#[], #[], []⟩ with heap := (World.holding Tryd.prog os ⟨#[], #[], []⟩).heap.modify 0 fun
      | .cells _ t frozen => .cells #[.int .i64 0, .string ⟨#[112, 114, 111, 100, 117, 99, 101]⟩, .int .i64 3, .int .i64 4, .int .i64 22, .string ⟨#[98, 101, 103, 105, 110]⟩, .int .i64 0, .int .i64 1, .int .i64 24, .string ⟨#[97, 100, 100]⟩, .int .i64 0, .int .i64 0, .int .i64 26, .string ⟨#[101, 110, 100]⟩, .int .i64 0, .int .i64 0, .int .i64 27, .string ⟨#[109, 97, 114, 107]⟩, .int .i64 0, .int .i64 1] t frozen
      | o => o }

end Go.Proofs.YthppodbjjfkmfaaDoor

/- Of a request that ends a transaction, or begins one, its head says which body follows, and in which version, and both are read again, and nothing is left: proved of all, the table of requests as the program lays it. -/
namespace Go.Proofs.YthppodbjjfkmfaaDoor
open Go.ChangeShapes Go.WideShapes Go.ChangeAt Go.ChangeMaps Go.RowKit

set_option maxRecDepth 100000 in
theorem wholeTxns_met (os : Os) : laidMet Tryd.prog Rows.wholeTxnsRow.laid ((reqWorld os).forCall (fun _ _ => 0) ⟨#[], #[.agg #[.int .i64 0, .int .i64 0, .int .i64 0, .bool false, .string ⟨#[]⟩], .agg #[.bool false, .string ⟨#[]⟩, .int .i64 0, .int .i64 0, .int .i64 0], .agg #[.string ⟨#[]⟩, .int .i64 0, .int .i64 0, .bool false]], []⟩).memory := laidMet_of_run' 8 (by as_aux_lemma => kernel_rfl) (by as_aux_lemma => kernel_rfl)
theorem wholeTxns_reads (os : Os) {H : Type} (enc : TypeId × Value → H) : ∃ places, DataW.whole enc Tryd.prog ((reqWorld os).forCall (fun _ _ => 0) ⟨#[], #[.agg #[.int .i64 0, .int .i64 0, .int .i64 0, .bool false, .string ⟨#[]⟩], .agg #[.bool false, .string ⟨#[]⟩, .int .i64 0, .int .i64 0, .int .i64 0], .agg #[.string ⟨#[]⟩, .int .i64 0, .int .i64 0, .bool false]], []⟩).memory Tryd.f3.params.toList Rows.wholeTxnsSpec.vars false #[.agg #[.int .i64 0, .int .i64 0, .int .i64 0, .bool false, .string ⟨#[]⟩], .agg #[.bool false, .string ⟨#[]⟩, .int .i64 0, .int .i64 0, .int .i64 0], .agg #[.string ⟨#[]⟩, .int .i64 0, .int .i64 0, .bool false]].toList 8 = some ([.agg [.lit (.int .i64 0), .lit (.int .i64 0), .lit (.int .i64 0), .agg [.lit (.bool false), .lit (.string [])]], .agg [.agg [.lit (.bool false), .lit (.string [])], .lit (.int .i64 0), .lit (.int .i64 0), .lit (.int .i64 0)], .agg [.lit (.string []), .lit (.int .i64 0), .lit (.int .i64 0), .lit (.bool false)]], [], places) := ⟨[], by as_aux_lemma => kernel_rfl⟩
set_option maxRecDepth 100000 in
theorem wholeTxns_lifted (os : Os) (started : os.Started) (H : Type) (enc : TypeId × Value → H) (F : Stop.Interp) :
    ReturnsInHanded {} Tryd.checked os 3 .any ((OpenSpec.ofChange Rows.wholeTxnsSpec).preRow enc Tryd.prog Tryd.f3 Rows.wholeTxnsRow.domain false Rows.wholeTxnsRow.laid) (((OpenSpec.ofChange Rows.wholeTxnsSpec).at F).post enc Tryd.prog Tryd.f3 false true false false) := by
  obtain ⟨places, hx⟩ := wholeTxns_reads os enc
  refine returnsInHanded_of_row (C := Tryd.checked) (s := OpenSpec.ofChange Rows.wholeTxnsSpec) Tryd.own started (by as_aux_lemma => kernel_rfl) Tryd.func3
    (witness_row_at (enc := enc) (C := Tryd.checked) false (reqWorld os) #[.agg #[.int .i64 0, .int .i64 0, .int .i64 0, .bool false, .string ⟨#[]⟩], .agg #[.bool false, .string ⟨#[]⟩, .int .i64 0, .int .i64 0, .int .i64 0], .agg #[.string ⟨#[]⟩, .int .i64 0, .int .i64 0, .bool false]] rfl (by as_aux_lemma => kernel_rfl) (by as_aux_lemma => kernel_rfl) (by as_aux_lemma => kernel_rfl)
      (OpenSpec.preRow_of_cond 8 hx (by as_aux_lemma => kernel_rfl) (fun k hk => by cases hk) (by as_aux_lemma => kernel_rfl) (wholeTxns_met os))) ?_
  intro W base args ds gs before hval0 hW _ _ hsz0 hL _ _
  have hval : ∀ (j : Nat) t v, Tryd.f3.params[j]? = some t → args[j]? = some v → Value.okWide Tryd.prog W .any base t v := hval0
  clear hval0
  have hreq := reqs_of_laid hL
  refine law_contract (n := 3) (tb := 4) (s := Rows.wholeTxnsSpec) rfl rfl rfl Tryd.underlying4 (by intro ds h; match ds, h with | [d0, d1, d2], _ => rfl) (by as_aux_lemma => kernel_rfl) hW ?_
  intro p hA0 hlt
  have hA : DataW.TrodAll enc Tryd.prog W 0 (fun _ => true) true Tryd.f3.params.toList args.toList ds p := hA0
  clear hA0
  rw [Tryd.params3] at hA hval
  obtain ⟨v0, v1, v2, d0, d1, d2, p0, p1, p2, rfl, rfl, rfl, h0, h1, h2⟩ := trodAll_three hA
  have hsz : (DataW.weightsEach Tryd.prog (Tryd.f3.params.toList ++ (OpenSpec.ofChange Rows.wholeTxnsSpec).bare.plain.varTypes Tryd.prog) ([d0, d1, d2] ++ gs)).all (· ≤ reachBytes) = true := hsz0
  rw [Tryd.params3] at hsz
  have lg0 : Light 25 d0 := light_arg hsz (j := 0) rfl rfl
  have lg1 : Light 27 d1 := light_arg hsz (j := 1) rfl rfl
  have lg2 : Light 29 d2 := light_arg hsz (j := 2) rfl rfl
  obtain ⟨x0, rfl, hx0⟩ := head_open (hval 0 25 v0 rfl rfl) h0 lg0 (fun y hy => hlt y (by simp [hy]))
  obtain ⟨nl, dd, tm, p_, e_, rfl, hp_⟩ := begin_open (hval 1 27 v1 rfl rfl) h1 lg1 (fun y hy => hlt y (by simp [hy]))
  obtain ⟨id_, p2, e2, c_, rfl, hp2⟩ := end_open (hval 2 29 v2 rfl rfl) h2 lg2 (fun y hy => hlt y (by simp [hy]))
  exact wholeTxns_any x0.kind x0.ver x0.num x0.cli.null x0.cli.data nl dd tm p_ e_ id_ p2 e2 c_ hx0 hp_ hp2 (Know.has_refl _) (St.start hreq)

theorem wholeTxns_said : Rows.WholeTxnsSaid :=
  OpenClaim.holds_of_cond 3 Tryd.f3 rfl rfl rfl rfl rfl rfl rfl ⟨rfl, rfl, rfl, rfl, rfl⟩ rfl rfl rfl rfl rfl (by as_aux_lemma => kernel_rfl) Tryd.func3 (by as_aux_lemma => kernel_rfl)
    (of_decide_eq_true (by as_aux_lemma => kernel_rfl)) (by as_aux_lemma => (unfold Func.isWrapper; rw [if_neg (by as_aux_lemma => decide +kernel)]; exact ⟨rfl, rfl⟩))
    (fun os started H enc _ F => by rw [OpenClaim.pre_eq_preRow]; exact wholeTxns_lifted os started H enc F)

theorem wholeTxns_plain (f : FuncId) (fn : Func) (hf : Tryd.pinned.checked.prog.funcNamed "cursitor/cursitortop.WholeTxns" = some f) (hfn : Tryd.pinned.checked.prog.funcs[f]? = some fn) :
    false = Tryd.pinned.checked.prog.looks [] ∧ ∀ (j : Nat) t, fn.params[j]? = some t → Tryd.pinned.checked.prog.wantsStandIn t = false := by
  obtain rfl : f = 3 := Option.some.inj ((show Tryd.prog.funcNamed "cursitor/cursitortop.WholeTxns" = some 3 by as_aux_lemma => kernel_rfl).symm.trans hf) |>.symm
  obtain rfl : fn = Tryd.f3 := (Option.some.inj (Tryd.func3.symm.trans hfn)).symm
  refine ⟨by as_aux_lemma => kernel_rfl, fun j t ht => ?_⟩
  rw [Tryd.params3] at ht
  have hm : t ∈ [25, 27, 29] := by simpa using Array.mem_of_getElem? ht
  have hall : ([25, 27, 29].all fun u => !Tryd.prog.wantsStandIn u) = true := by as_aux_lemma => kernel_rfl
  exact (show Tryd.prog.wantsStandIn t = false by simpa using List.all_eq_true.1 hall t hm)

theorem wholeTxnsCard_holds : Rows.WholeTxnsCardSaid :=
  Claim7.holds_tied_plain_at .later [] _ _ _ _ wholeTxns_said (fun _ h => by cases h) (by as_aux_lemma => kernel_rfl) (fun _ h => by cases h) wholeTxns_row_tie rfl ⟨rfl, rfl⟩ (by as_aux_lemma => kernel_rfl) rfl wholeTxns_plain (by as_aux_lemma => kernel_rfl)

end Go.Proofs.YthppodbjjfkmfaaDoor
