/- Bytes behind their lengths, of four kinds, one behind the other, are read again as they were: proved of every row of them and of kinds. -/
import Derived.Test.YtbcfnfcmghbelaaBbk5
import Derived.Test.YtbcfnfcmghbelaaOpenF
namespace Go.Proofs.Ytbcfnfcmghbelaa
open Go.ChangeShapes Go.WideShapes Go.ChangeAt Go.ChangeMaps Go.RowKit

set_option maxRecDepth 100000 in
theorem blobBack_lifted (os : Os) (started : os.Started) (H : Type) (enc : TypeId × Value → H) :
    ReturnsInHanded {} Try.checked os 11 .any (Rows.blobBackSpec.pre6 enc Try.prog Try.f11 Rows.blobBackRow.domain false) (Rows.blobBackSpec.post enc Try.prog Try.f11 false true false false) := by
  refine returnsInHanded_of_change_sized (C := Try.checked) Try.own started (by as_aux_lemma => kernel_rfl) Try.func11
    (ChangeSpec.witness6 (enc := enc) (C := Try.checked) false ⟨#[], #[.slice none 0 0, .slice none 0 0], []⟩ 8 (by as_aux_lemma => kernel_rfl) (by as_aux_lemma => kernel_rfl) (by as_aux_lemma => kernel_rfl) (by as_aux_lemma => kernel_rfl)) ?_
  intro W base args ds gs before hval0 hW hcnd hsz0 _
  have hval : ∀ (j : Nat) t v, Try.f11.params[j]? = some t → args[j]? = some v → Value.okWide Try.prog W .any base t v := hval0
  clear hval0
  refine law_contract (n := 2) (tb := 4) rfl rfl rfl Try.underlying4 (by intro ds h; match ds, h with | [d0, d1], _ => rfl) (by as_aux_lemma => kernel_rfl) hW ?_
  intro p hA0 hlt
  have hA : DataW.TrodAll enc Try.prog W 0 (fun _ => true) true Try.f11.params.toList args.toList ds p := hA0
  clear hA0
  rw [Try.params11] at hA hval
  obtain ⟨v0, v1, d0, d1, p0, p1, rfl, rfl, rfl, h0, h1⟩ := trodAll_two hA
  have hsz : (DataW.weightsEach Try.prog (Try.f11.params.toList ++ Rows.blobBackSpec.plain.varTypes Try.prog) ([d0, d1] ++ gs)).all (· ≤ reachBytes) = true := hsz0
  rw [Try.params11] at hsz
  obtain ⟨c0, e0, k0, rfl⟩ := okWide_slice Try.underlying83 (hval 0 83 v0 rfl rfl)
  have lg0 : Light 83 d0 := light_arg hsz (j := 0) rfl rfl
  obtain ⟨fuel0, hf0⟩ := h0
  obtain ⟨w0, l0, hw0, hrq0, hbl0, hl0⟩ := opens_rows (R := fun w cs x => (fun _ cs x => RB cs x) w cs x ∧ (fun x : BlobS => x.data.length ≤ 140737488351232) x) (N := W.heap.size) Try.underlying83 cells_blob (by decide) rb_opens hf0 lg0 (fun y hy => hlt y (by simp [hy])) (Nat.le_refl _)
  obtain ⟨hr0, hq0⟩ := hrq0.part
  obtain rfl : w0 = Value.slice c0 e0 k0 := by simpa [Value.cells] using hw0.symm
  obtain ⟨c1, e1, k1, rfl⟩ := okWide_slice Try.underlying43 (hval 1 43 v1 rfl rfl)
  have lg1 : Light 43 d1 := light_arg hsz (j := 1) rfl rfl
  obtain ⟨fuel1, hf1⟩ := h1
  obtain ⟨w1, l1, hw1, hrq1, hbl1, hl1⟩ := opens_rows (R := fun w cs x => (fun _ cs x => RU cs x) w cs x ∧ (fun x : Int => 0 ≤ x ∧ x < 256) x) (N := W.heap.size) Try.underlying43 cells_u8 (by decide) ru_opens hf1 lg1 (fun y hy => hlt y (by simp [hy])) (Nat.le_refl _)
  obtain ⟨hr1, hq1⟩ := hrq1.part
  obtain rfl : w1 = Value.slice c1 e1 k1 := by simpa [Value.cells] using hw1.symm
  exact blobBack_any l0 l1 _ _ W hq1 hr0 hr1

theorem blobBack_holds : Rows.BlobBackSaid :=
  OpenClaim.holds_of_wide 11 Try.f11 rfl rfl rfl rfl rfl rfl rfl ⟨rfl, rfl, rfl, rfl, rfl⟩ rfl rfl rfl rfl rfl (by as_aux_lemma => kernel_rfl) Try.func11 (by as_aux_lemma => kernel_rfl)
    (of_decide_eq_true (by as_aux_lemma => kernel_rfl)) (by as_aux_lemma => (unfold Func.isWrapper; rw [if_neg (by as_aux_lemma => decide +kernel)]; exact ⟨rfl, rfl⟩))
    (fun os started H enc _ => blobBack_lifted os started H enc)

end Go.Proofs.Ytbcfnfcmghbelaa
