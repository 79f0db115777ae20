/- Of any sizes their quarters, and the sums of every fourth one by these, and any number, turned: proved of every row of sizes, every number of quarters and every point of whole numbers. -/
import Derived.Test.YtombolmicfjjpaaGTallyQuarters2
/- Of any sizes their quarters, and the sums of every fourth one by these, and any number, turned: proved of every row of sizes, every number of quarters and every point of whole numbers. -/
namespace Go.Proofs.Ytombolmicfjjpaa
open Go.ChangeShapes Go.WideShapes Go.ChangeAt Go.ChangeMaps Go.RowKit

set_option maxRecDepth 100000 in
theorem tallyQuarters_lifted (os : Os) (started : os.Started) (H : Type) (enc : TypeId × Value → H) :
    ReturnsInHanded {} Try.checked os 12 .any (Rows.tallyQuartersSpec.pre6 enc Try.prog Try.f12 Rows.tallyQuartersRow.domain false) (Rows.tallyQuartersSpec.post enc Try.prog Try.f12 false true false false) := by
  refine returnsInHanded_of_change_sized (C := Try.checked) Try.own started (by as_aux_lemma => kernel_rfl) Try.func12
    (ChangeSpec.witness6 (enc := enc) (C := Try.checked) false ⟨#[], #[.slice none 0 0, .int .i64 0, .agg #[.int .i32 0, .int .i32 0]], []⟩ 8 (by as_aux_lemma => kernel_rfl) (by as_aux_lemma => kernel_rfl) (by as_aux_lemma => kernel_rfl) (by as_aux_lemma => kernel_rfl)) ?_
  intro W base args ds gs before hval0 hW hcnd hsz0 _
  have hval : ∀ (j : Nat) t v, Try.f12.params[j]? = some t → args[j]? = some v → Value.okWide Try.prog W .any base t v := hval0
  clear hval0
  refine law_contract (n := 3) (tb := 4) rfl rfl rfl Try.underlying4 (by intro ds h; match ds, h with | [d0, d1, d2], _ => rfl) (by as_aux_lemma => kernel_rfl) hW ?_
  intro p hA0 hlt
  have hA : DataW.TrodAll enc Try.prog W 0 (fun _ => true) true Try.f12.params.toList args.toList ds p := hA0
  clear hA0
  rw [Try.params12] at hA hval
  obtain ⟨v0, v1, v2, d0, d1, d2, p0, p1, p2, rfl, rfl, rfl, h0, h1, h2⟩ := trodAll_three hA
  have hsz : (DataW.weightsEach Try.prog (Try.f12.params.toList ++ Rows.tallyQuartersSpec.plain.varTypes Try.prog) ([d0, d1, d2] ++ gs)).all (· ≤ reachBytes) = true := hsz0
  rw [Try.params12] at hsz
  obtain ⟨c0, e0, k0, rfl⟩ := okWide_slice Try.underlying102 (hval 0 102 v0 rfl rfl)
  have lg0 : Light 102 d0 := light_arg hsz (j := 0) rfl rfl
  obtain ⟨fuel0, hf0⟩ := h0
  obtain ⟨w0, l0, hw0, hrq0, hbl0, hl0⟩ := opens_rows (R := fun w cs x => (fun _ cs x => RI32 cs x) w cs x ∧ (fun x : Int => -2147483648 ≤ x ∧ x < 2147483648) x) (N := W.heap.size) Try.underlying102 cells_i32 (by decide) ri32_opens hf0 lg0 (fun y hy => hlt y (by simp [hy])) (Nat.le_refl _)
  obtain ⟨hr0, hq0⟩ := hrq0.part
  obtain rfl : w0 = Value.slice c0 e0 k0 := by simpa [Value.cells] using hw0.symm
  obtain ⟨a1, rfl, rfl, rfl, wa1⟩ := open_int Try.underlying3 (hval 1 3 v1 rfl rfl) h1
  have r1 := wf_i64 wa1
  obtain ⟨n2, m2, rfl, rn2, rm2⟩ := open_i32s2 Try.underlying103 Try.underlying21 (by kernel_rfl) (by kernel_rfl) (hval 2 103 v2 rfl rfl) h2
  exact tallyQuarters_any l0 _ a1 n2 m2 W hq0 rn2 rm2 hr0

theorem tallyQuarters_holds : Rows.TallyQuartersSaid :=
  OpenClaim.holds_of_wide 12 Try.f12 rfl rfl rfl rfl rfl rfl rfl ⟨rfl, rfl, rfl, rfl, rfl⟩ rfl rfl rfl rfl rfl (by as_aux_lemma => kernel_rfl) Try.func12 (by as_aux_lemma => kernel_rfl)
    (of_decide_eq_true (by as_aux_lemma => kernel_rfl)) (by as_aux_lemma => (unfold Func.isWrapper; rw [if_neg (by as_aux_lemma => decide +kernel)]; exact ⟨rfl, rfl⟩))
    (fun os started H enc _ => tallyQuarters_lifted os started H enc)

end Go.Proofs.Ytombolmicfjjpaa
