/- Bytes of a batch that are harmed within 32 bits in a row, behind what isn't summed, are none; nor are those that are cut, or have more behind them: proved of every batch, every place and every mask. -/
import Derived.Test.YtcjgdlfcfcabiaaGBatchHarms11
/- Bytes of a batch that are harmed within 32 bits in a row, behind what isn't summed, are none; nor are those that are cut, or have more behind them: proved of every batch, every place and every mask. -/
namespace Go.Proofs.Ytcjgdlfcfcabiaa
open Go.ChangeShapes Go.WideShapes Go.ChangeAt Go.ChangeMaps Go.RowKit

set_option maxRecDepth 100000 in
theorem batchHarms_lifted (os : Os) (started : os.Started) (H : Type) (enc : TypeId × Value → H) :
    ReturnsInHanded {} Try.checked os 8 .any (Rows.batchHarmsSpec.pre6 enc Try.prog Try.f8 Rows.batchHarmsRow.domain false) (Rows.batchHarmsSpec.post enc Try.prog Try.f8 false true false false) := by
  refine returnsInHanded_of_change_sized (C := Try.checked) Try.own started (by as_aux_lemma => kernel_rfl) Try.func8
    (ChangeSpec.witness6 (enc := enc) (C := Try.checked) false ⟨#[], #[.agg #[.int .i64 0, .int .i64 0, .bool false, .bool false, .bool false, .int .i64 0, .int .i64 0, .int .i64 0, .int .i64 0, .int .i64 0, .int .i64 0, .slice none 0 0], .int .u16 0, .int .u32 0], []⟩ 8 (by as_aux_lemma => kernel_rfl) (by as_aux_lemma => kernel_rfl) (by as_aux_lemma => kernel_rfl) (by as_aux_lemma => kernel_rfl)) ?_
  intro W base args ds gs before hval0 hW hcnd hsz0 _
  have hval : ∀ (j : Nat) t v, Try.f8.params[j]? = some t → args[j]? = some v → Value.okWide Try.prog W .any base t v := hval0
  clear hval0
  refine law_contract (n := 3) (tb := 4) rfl rfl rfl Try.underlying4 (by intro ds h; match ds, h with | [d0, d1, d2], _ => rfl) (by as_aux_lemma => kernel_rfl) hW ?_
  intro p hA0 hlt
  have hA : DataW.TrodAll enc Try.prog W 0 (fun _ => true) true Try.f8.params.toList args.toList ds p := hA0
  clear hA0
  rw [Try.params8] at hA hval
  obtain ⟨v0, v1, v2, d0, d1, d2, p0, p1, p2, rfl, rfl, rfl, h0, h1, h2⟩ := trodAll_three hA
  have hsz : (DataW.weightsEach Try.prog (Try.f8.params.toList ++ Rows.batchHarmsSpec.plain.varTypes Try.prog) ([d0, d1, d2] ++ gs)).all (· ≤ reachBytes) = true := hsz0
  rw [Try.params8] at hsz
  have lg0 : Light 32 d0 := light_arg hsz (j := 0) rfl rfl
  obtain ⟨base, leader, app, txn, ctl, last, first, maxt, prod, epoch, sq, l, q, cap, rfl, hR, hfw, hst⟩ := bat_open (hval 0 32 v0 rfl rfl) h0 lg0 (fun y hy => hlt y (by simp [hy]))
  obtain ⟨a1, rfl, rfl, rfl, wa1⟩ := open_int Try.underlying65 (hval 1 65 v1 rfl rfl) h1
  have r1 := wf_u16 wa1
  obtain ⟨a2, rfl, rfl, rfl, wa2⟩ := open_int Try.underlying66 (hval 2 66 v2 rfl rfl) h2
  have r2 := wf_u32 wa2
  exact batchHarms_any base leader app txn ctl last first maxt prod epoch sq l q cap a1 a2 r1 r2 _ rfl hR hfw (Know.has_refl _) hst

theorem batchHarms_holds : Rows.BatchHarmsSaid :=
  OpenClaim.holds_of_wide 8 Try.f8 rfl rfl rfl rfl rfl rfl rfl ⟨rfl, rfl, rfl, rfl, rfl⟩ rfl rfl rfl rfl rfl (by as_aux_lemma => kernel_rfl) Try.func8 (by as_aux_lemma => kernel_rfl)
    (of_decide_eq_true (by as_aux_lemma => kernel_rfl)) (by as_aux_lemma => (unfold Func.isWrapper; rw [if_neg (by as_aux_lemma => decide +kernel)]; exact ⟨rfl, rfl⟩))
    (fun os started H enc _ => batchHarms_lifted os started H enc)

end Go.Proofs.Ytcjgdlfcfcabiaa
