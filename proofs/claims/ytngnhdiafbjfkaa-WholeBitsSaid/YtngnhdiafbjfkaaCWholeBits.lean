/- What a batch is, in 61 bytes: its bits tell what it is, and other bits there change no number beside them: proved of all. -/
import Derived.Test.YtngnhdiafbjfkaaT05
import Derived.Test.YtngnhdiafbjfkaaArgs
import Derived.Test.YtngnhdiafbjfkaaAgg
import Derived.Test.YtngnhdiafbjfkaaArr
namespace Go.Proofs.Ytngnhdiafbjfkaa
open Go.ChangeShapes Go.WideShapes Go.ChangeAt Go.ChangeMaps Go.RowKit

set_option maxRecDepth 100000 in
theorem wholeBits_lifted (os : Os) (started : os.Started) (H : Type) (enc : TypeId × Value → H) :
    ReturnsInHanded {} Try.checked os 9 .any (Rows.wholeBitsSpec.pre6 enc Try.prog Try.f9 Rows.wholeBitsRow.domain false) (Rows.wholeBitsSpec.post enc Try.prog Try.f9 false true false false) := by
  refine returnsInHanded_of_change (C := Try.checked) Try.own started (by as_aux_lemma => kernel_rfl) Try.func9
    (ChangeSpec.witness6 (enc := enc) (C := Try.checked) false ⟨#[], #[.agg #[.bool false, .bool false, .bool false], .agg #[.int .i64 0, .int .i64 0, .int .i64 0, .int .i64 0, .int .i64 0, .int .i64 0, .int .i64 0, .int .i64 0, .int .i64 0, .int .i64 0, .int .i64 0, .int .i64 0], .int .u16 0], []⟩ 8 (by as_aux_lemma => kernel_rfl) (by as_aux_lemma => kernel_rfl) (by as_aux_lemma => kernel_rfl) (by as_aux_lemma => kernel_rfl)) ?_
  intro W base args ds gs before hval0 hW hcnd _
  have hval : ∀ (j : Nat) t v, Try.f9.params[j]? = some t → args[j]? = some v → Value.okWide Try.prog W .any base t v := hval0
  clear hval0
  refine law_contract (n := 3) (tb := 4) rfl rfl rfl Try.underlying4 (by intro ds h; match ds, h with | [d0, d1, d2], _ => rfl) (by as_aux_lemma => kernel_rfl) hW ?_
  intro p hA0 hlt
  have hA : DataW.TrodAll enc Try.prog W 0 (fun _ => true) true Try.f9.params.toList args.toList ds p := hA0
  clear hA0
  rw [Try.params9] at hA hval
  obtain ⟨v0, v1, v2, d0, d1, d2, p0, p1, p2, rfl, rfl, rfl, h0, h1, h2⟩ := trodAll_three hA
  obtain ⟨u0, u1, u2, rfl⟩ := open_bools3 Try.underlying62 Try.underlying4 (by kernel_rfl) (by kernel_rfl) (hval 0 62 v0 rfl rfl) h0
  obtain ⟨x0, x1, x2, x3, x4, x5, x6, x7, x8, x9, x10, x11, y0, y1, y2, y3, y4, y5, y6, y7, y8, y9, y10, y11, nq, rfl, rfl, g0, g1, g2, g3, g4, g5, g6, g7, g8, g9, g10, g11⟩ := open_agg12 Try.underlying35 (by kernel_rfl) (by kernel_rfl) (hval 1 35 v1 rfl rfl) h1
  obtain ⟨n0, e0, _, wf0⟩ := DataW.trod_int Try.underlying3 g0
  obtain rfl : x0 = .int .i64 n0 := by simpa using e0
  obtain ⟨n1, e1, _, wf1⟩ := DataW.trod_int Try.underlying3 g1
  obtain rfl : x1 = .int .i64 n1 := by simpa using e1
  obtain ⟨n2, e2, _, wf2⟩ := DataW.trod_int Try.underlying3 g2
  obtain rfl : x2 = .int .i64 n2 := by simpa using e2
  obtain ⟨n3, e3, _, wf3⟩ := DataW.trod_int Try.underlying3 g3
  obtain rfl : x3 = .int .i64 n3 := by simpa using e3
  obtain ⟨n4, e4, _, wf4⟩ := DataW.trod_int Try.underlying3 g4
  obtain rfl : x4 = .int .i64 n4 := by simpa using e4
  obtain ⟨n5, e5, _, wf5⟩ := DataW.trod_int Try.underlying3 g5
  obtain rfl : x5 = .int .i64 n5 := by simpa using e5
  obtain ⟨n6, e6, _, wf6⟩ := DataW.trod_int Try.underlying3 g6
  obtain rfl : x6 = .int .i64 n6 := by simpa using e6
  obtain ⟨n7, e7, _, wf7⟩ := DataW.trod_int Try.underlying3 g7
  obtain rfl : x7 = .int .i64 n7 := by simpa using e7
  obtain ⟨n8, e8, _, wf8⟩ := DataW.trod_int Try.underlying3 g8
  obtain rfl : x8 = .int .i64 n8 := by simpa using e8
  obtain ⟨n9, e9, _, wf9⟩ := DataW.trod_int Try.underlying3 g9
  obtain rfl : x9 = .int .i64 n9 := by simpa using e9
  obtain ⟨n10, e10, _, wf10⟩ := DataW.trod_int Try.underlying3 g10
  obtain rfl : x10 = .int .i64 n10 := by simpa using e10
  obtain ⟨n11, e11, _, wf11⟩ := DataW.trod_int Try.underlying3 g11
  obtain rfl : x11 = .int .i64 n11 := by simpa using e11
  have hxR : (⟨n0, n1, n2, n3, n4, n5, n6, n7, n8, n9, n10, n11⟩ : PreS).R := by
    intro n hn
    simp only [PreS.list, List.mem_cons, List.not_mem_nil, or_false] at hn
    rcases hn with rfl | rfl | rfl | rfl | rfl | rfl | rfl | rfl | rfl | rfl | rfl | rfl
    · exact wf_i64 wf0
    · exact wf_i64 wf1
    · exact wf_i64 wf2
    · exact wf_i64 wf3
    · exact wf_i64 wf4
    · exact wf_i64 wf5
    · exact wf_i64 wf6
    · exact wf_i64 wf7
    · exact wf_i64 wf8
    · exact wf_i64 wf9
    · exact wf_i64 wf10
    · exact wf_i64 wf11
  obtain ⟨a2, rfl, rfl, rfl, wa2⟩ := open_int Try.underlying63 (hval 2 63 v2 rfl rfl) h2
  have r2 := wf_u16 wa2
  exact wholeBits_any u0 u1 u2 ⟨n0, n1, n2, n3, n4, n5, n6, n7, n8, n9, n10, n11⟩ a2 W hxR r2

theorem wholeBits_holds : Rows.WholeBitsSaid :=
  OpenClaim.holds_of_wide 9 Try.f9 rfl rfl rfl rfl rfl rfl rfl ⟨rfl, rfl, rfl, rfl, rfl⟩ rfl rfl rfl rfl rfl (by as_aux_lemma => kernel_rfl) Try.func9 (by as_aux_lemma => kernel_rfl)
    (of_decide_eq_true (by as_aux_lemma => kernel_rfl)) (by as_aux_lemma => (unfold Func.isWrapper; rw [if_neg (by as_aux_lemma => decide +kernel)]; exact ⟨rfl, rfl⟩))
    (fun os started H enc _ => wholeBits_lifted os started H enc)

end Go.Proofs.Ytngnhdiafbjfkaa
