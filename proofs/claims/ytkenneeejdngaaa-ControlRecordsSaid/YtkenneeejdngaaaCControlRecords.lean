/- How any record ends a transaction, or why it doesn't, is the document's: proved of every record. -/
import Derived.Test.YtkenneeejdngaaaL08R
import Derived.Test.YtkenneeejdngaaaOpen7
namespace Go.Proofs.Ytkenneeejdngaaa
open Go.ChangeShapes Go.WideShapes Go.ChangeAt Go.ChangeMaps Go.RowKit

set_option maxRecDepth 100000 in
theorem controlRecords_lifted (os : Os) (started : os.Started) (H : Type) (enc : TypeId × Value → H) :
    ReturnsInHanded {} Try.checked os 12 .any (Rows.controlRecordsSpec.pre6 enc Try.prog Try.f12 Rows.controlRecordsRow.domain false) (Rows.controlRecordsSpec.post enc Try.prog Try.f12 false true false false) := by
  refine returnsInHanded_of_change_sized (C := Try.checked) Try.own started (by as_aux_lemma => kernel_rfl) Try.func12
    (ChangeSpec.witness6 (enc := enc) (C := Try.checked) false ⟨#[], #[.agg #[.int .i64 0, .int .i64 0, .bool false, .string ⟨#[]⟩, .bool false, .string ⟨#[]⟩, .slice none 0 0]], []⟩ 8 (by as_aux_lemma => kernel_rfl) (by as_aux_lemma => kernel_rfl) (by as_aux_lemma => kernel_rfl) (by as_aux_lemma => kernel_rfl)) ?_
  intro W base args ds gs before hval0 hW hcnd hsz0 _
  have hval : ∀ (j : Nat) t v, Try.f12.params[j]? = some t → args[j]? = some v → Value.okWide Try.prog W .any base t v := hval0
  clear hval0
  refine law_contract (n := 1) (tb := 4) rfl rfl rfl Try.underlying4 (by intro ds h; match ds, h with | [d0], _ => rfl) (by as_aux_lemma => kernel_rfl) hW ?_
  intro p hA0 hlt
  have hA : DataW.TrodAll enc Try.prog W 0 (fun _ => true) true Try.f12.params.toList args.toList ds p := hA0
  clear hA0
  rw [Try.params12] at hA hval
  obtain ⟨v0, d0, rfl, rfl, h0⟩ := trodAll_one hA
  have hsz : (DataW.weightsEach Try.prog (Try.f12.params.toList ++ Rows.controlRecordsSpec.plain.varTypes Try.prog) ([d0] ++ gs)).all (· ≤ reachBytes) = true := hsz0
  rw [Try.params12] at hsz
  have lg0 : Light 62 d0 := light_arg hsz (j := 0) rfl rfl
  obtain ⟨x0, w0, rfl, hx0, hr0, hl0, hq0, sa0, sb0⟩ := rec_open (hval 0 62 v0 rfl rfl) h0 lg0 (fun y hy => hlt y (by simp [hy])) (Nat.le_refl _)
  exact controlRecords_any x0 w0 W hr0 hl0 hq0 sa0 sb0

theorem controlRecords_holds : Rows.ControlRecordsSaid :=
  OpenClaim.holds_of_wide 12 Try.f12 rfl rfl rfl rfl rfl rfl rfl ⟨rfl, rfl, rfl, rfl, rfl⟩ rfl rfl rfl rfl rfl (by as_aux_lemma => kernel_rfl) Try.func12 (by as_aux_lemma => kernel_rfl)
    (of_decide_eq_true (by as_aux_lemma => kernel_rfl)) (by as_aux_lemma => (unfold Func.isWrapper; rw [if_neg (by as_aux_lemma => decide +kernel)]; exact ⟨rfl, rfl⟩))
    (fun os started H enc _ => controlRecords_lifted os started H enc)

end Go.Proofs.Ytkenneeejdngaaa
