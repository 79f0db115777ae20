/- Records, one behind the other, are read again, one behind the other, and two are one just if all of their fields are: proved of every row of records. -/
import Derived.Test.YtkenneeejdngaaaL07RM
import Derived.Test.YtkenneeejdngaaaOpenR
namespace Go.Proofs.Ytkenneeejdngaaa
open Go.ChangeShapes Go.WideShapes Go.ChangeAt Go.ChangeMaps Go.RowKit

set_option maxRecDepth 100000 in
theorem recordRows_lifted (os : Os) (started : os.Started) (H : Type) (enc : TypeId × Value → H) :
    ReturnsInHanded {} Try.checked os 10 .any (Rows.recordRowsSpec.pre6 enc Try.prog Try.f10 Rows.recordRowsRow.domain false) (Rows.recordRowsSpec.post enc Try.prog Try.f10 false true false false) := by
  refine returnsInHanded_of_change_sized (C := Try.checked) Try.own started (by as_aux_lemma => kernel_rfl) Try.func10
    (ChangeSpec.witness6 (enc := enc) (C := Try.checked) false ⟨#[], #[.slice none 0 0], []⟩ 8 (by as_aux_lemma => kernel_rfl) (by as_aux_lemma => kernel_rfl) (by as_aux_lemma => kernel_rfl) (by as_aux_lemma => kernel_rfl)) ?_
  intro W base args ds gs before hval0 hW hcnd hsz0 _
  have hval : ∀ (j : Nat) t v, Try.f10.params[j]? = some t → args[j]? = some v → Value.okWide Try.prog W .any base t v := hval0
  clear hval0
  refine law_contract (n := 1) (tb := 4) rfl rfl rfl Try.underlying4 (by intro ds h; match ds, h with | [d0], _ => rfl) (by as_aux_lemma => kernel_rfl) hW ?_
  intro p hA0 hlt
  have hA : DataW.TrodAll enc Try.prog W 0 (fun _ => true) true Try.f10.params.toList args.toList ds p := hA0
  clear hA0
  rw [Try.params10] at hA hval
  obtain ⟨v0, d0, rfl, rfl, h0⟩ := trodAll_one hA
  have hsz : (DataW.weightsEach Try.prog (Try.f10.params.toList ++ Rows.recordRowsSpec.plain.varTypes Try.prog) ([d0] ++ gs)).all (· ≤ reachBytes) = true := hsz0
  rw [Try.params10] at hsz
  obtain ⟨c0, e0, k0, rfl⟩ := okWide_slice Try.underlying75 (hval 0 75 v0 rfl rfl)
  have lg0 : Light 75 d0 := light_arg hsz (j := 0) rfl rfl
  obtain ⟨fuel0, hf0⟩ := h0
  obtain ⟨w0, l0, hw0, hrq0, hbl0, hl0⟩ := opens_rows (R := fun w cs x => (fun _ cs x => RRec cs x) w cs x ∧ QRec W x) (N := W.heap.size) Try.underlying75 cells_rec (by decide) rrec_opens hf0 lg0 (fun y hy => hlt y (by simp [hy])) (Nat.le_refl _)
  obtain ⟨hr0, hq0⟩ := hrq0.part
  obtain rfl : w0 = Value.slice c0 e0 k0 := by simpa [Value.cells] using hw0.symm
  exact recordRows_any l0 _ W (QRec.fit hq0) (QRec.start hr0 hq0)

theorem recordRows_holds : Rows.RecordRowsSaid :=
  OpenClaim.holds_of_wide 10 Try.f10 rfl rfl rfl rfl rfl rfl rfl ⟨rfl, rfl, rfl, rfl, rfl⟩ rfl rfl rfl rfl rfl (by as_aux_lemma => kernel_rfl) Try.func10 (by as_aux_lemma => kernel_rfl)
    (of_decide_eq_true (by as_aux_lemma => kernel_rfl)) (by as_aux_lemma => (unfold Func.isWrapper; rw [if_neg (by as_aux_lemma => decide +kernel)]; exact ⟨rfl, rfl⟩))
    (fun os started H enc _ => recordRows_lifted os started H enc)

end Go.Proofs.Ytkenneeejdngaaa
