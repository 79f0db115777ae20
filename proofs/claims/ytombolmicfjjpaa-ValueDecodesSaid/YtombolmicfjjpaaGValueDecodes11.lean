/- Which value any bytes are, or why none, is the document's, and whatever they are read as is written so: proved of every text. -/
import Derived.Test.YtombolmicfjjpaaGValueDecodes9
import Derived.Test.YtombolmicfjjpaaGValueDecodes10
import Derived.Test.YtombolmicfjjpaaGValueDecodes8
import Derived.Test.YtombolmicfjjpaaArgs
/- ValueDecodes, any. -/
namespace Go.Proofs.Ytombolmicfjjpaa
open Go.RowKit

theorem lenT_nil : LenT [] := ⟨by decide, fun x hx => by cases hx⟩
theorem has_nilT (K : Know) : K.has (Know.tops (.slice none 0 0) []) := Know.has_trans (tops_nil K) (Know.has_right (Know.has_refl _))
theorem same_zT {W0 w : World} {K : Know} {L : List Res} (h : St W0 w K L) : Calls Try.prog 20 #[.agg #[.int .i64 0, .int .i64 0, .int .i64 0, .int .i64 0, .slice none 0 0, .int .i64 0, .int .i64 0], .agg #[.int .i64 0, .int .i64 0, .int .i64 0, .int .i64 0, .slice none 0 0, .int .i64 0, .int .i64 0]] w fun en w' => en = .returned (.bool true) ∧ St W0 w' K L :=
  ref14_sameT 0 0 0 0 0 0 [] [] none none 0 0 rfl lenT_nil lenT_nil (has_nilT _) (has_nilT _) h
theorem encode_zT {W0 w : World} {K : Know} {L : List Res} (h : St W0 w K L) : Calls Try.prog 15 #[.agg #[.int .i64 0, .int .i64 0, .int .i64 0, .int .i64 0, .slice none 0 0, .int .i64 0, .int .i64 0]] w fun en w' => en = .returned (.tuple #[.string ⟨#[]⟩, .int .i64 10]) ∧ St W0 w' K L :=
  val_encode_bad 0 0 0 0 0 0 [] none 0 10 (by kernel_rfl) (by decide) few_nil (has_nilT _) h
set_option maxHeartbeats 1000000 in
set_option maxRecDepth 100000 in
theorem vd_long (S : Bs) (hl : 2000 < S.length) {W0 w : World} {K : Know} {L : List Res} (h : St W0 w K L) :
    Calls Try.prog 4 #[.string (bb S)] w fun en w' => en = .returned (.bool true) ∧ Below W0.heap.size W0 w' := by
  have H := Lib.hid h
  have hli : 2000 < (S.length : Int) := by omega
  clear h hl
  go_enter Try.func4, Try.ntmps4
  go_wp2_with (go_at_call 13; (with_reducible refine (speaks14 H.out).mono ?_); rintro e_ wn ⟨rfl, h⟩; replace H := Lib.hid h; clear h)
  go_ret
  exact ⟨rfl, H.out.below⟩

set_option maxHeartbeats 4000000 in
set_option maxRecDepth 100000 in
theorem vd_bad (S : Bs) (hl : S.length ≤ 2000) (v : ValS) (E : Int) (hd : valDec S = (v, E)) (h0 : E ≠ 0) {W0 w : World} {K : Know} {L : List Res} (h : St W0 w K L) :
    Calls Try.prog 4 #[.string (bb S)] w fun en w' => en = .returned (.bool true) ∧ Below W0.heap.size W0 w' := by
  have H := Lib.hid h
  have hli : ¬ 2000 < (S.length : Int) := by omega
  have HSL := Lib.hid (show S.length ≤ 1000000 by omega)
  have HD := Lib.hid hd
  have H0 := Lib.hid h0
  have g1 : (E == 0) = false := by rw [beq_eq_false_iff_ne]; exact h0
  have g2 : (E != 0) = true := by simp [bne, g1]
  have g3 : (E == E) = true := beq_self_eq_true _
  have g4 : (E != E) = false := by simp [bne, g3]
  clear h hl hd h0
  go_enter Try.func4, Try.ntmps4
  go_wp2_with (first
    | (go_at_call 13; (with_reducible refine (speaks14 H.out).mono ?_); rintro e_ wn ⟨rfl, h⟩; replace H := Lib.hid h; clear h)
    | (go_at_call 18; (with_reducible refine (val_decode_bad S HSL.out v E HD.out H0.out H.out).mono ?_); rintro e_ wn ⟨rfl, h⟩; obtain ⟨vb, hvb⟩ : ∃ b, wn.heap.size = b := ⟨_, rfl⟩; have h := h.allocRaw #[.int .i64 0, .int .i64 0, .int .i64 0, .int .i64 0, .slice none 0 0, .int .i64 0, .int .i64 0] 24; rw [hvb] at h; replace H := Lib.hid h; clear h)
    | (go_at_call 23; (with_reducible refine (ref14_decode_bad S HSL.out v E HD.out H0.out H.out).mono ?_); rintro e_ wn ⟨rfl, h⟩; obtain ⟨wb, hwb⟩ : ∃ b, wn.heap.size = b := ⟨_, rfl⟩; have h := h.allocRaw #[.int .i64 0, .int .i64 0, .int .i64 0, .int .i64 0, .slice none 0 0, .int .i64 0, .int .i64 0] 24; rw [hwb] at h; have c0 := h.p1.rawCell 0; have c1 := h.p1.rawCell 1; have c2 := h.p1.rawCell 2; have c3 := h.p1.rawCell 3; have c4 := h.p1.rawCell 4; have c5 := h.p1.rawCell 5; have c6 := h.p1.rawCell 6; simp at c0 c1 c2 c3 c4 c5 c6; replace H := Lib.hid h; clear h)
    | (go_at_call 20; clear c0 c1 c2 c3 c4 c5 c6; (with_reducible refine (same_zT H.out).mono ?_); rintro e_ wn ⟨rfl, h⟩; have c0 := h.p1.rawCell 0; have c1 := h.p1.rawCell 1; have c2 := h.p1.rawCell 2; have c3 := h.p1.rawCell 3; have c4 := h.p1.rawCell 4; have c5 := h.p1.rawCell 5; have c6 := h.p1.rawCell 6; simp at c0 c1 c2 c3 c4 c5 c6; replace H := Lib.hid h; clear h)
    | (go_at_call 15; clear c0 c1 c2 c3 c4 c5 c6; (with_reducible refine (encode_zT H.out).mono ?_); rintro e_ wn ⟨rfl, h⟩; replace H := Lib.hid h; clear h))
  go_ret
  exact ⟨rfl, H.out.below⟩

set_option maxHeartbeats 4000000 in
set_option maxRecDepth 100000 in
theorem vd_good (S : Bs) (hl : S.length ≤ 2000) (p e t u x y : Int) (l : List TopS) (hd : valDec S = (⟨p, e, t, u, l, x, y⟩, 0)) (hfl : FewL l) {W0 w : World} {K : Know} {L : List Res} (h : St W0 w K L) :
    Calls Try.prog 4 #[.string (bb S)] w fun en w' => en = .returned (.bool true) ∧ Below W0.heap.size W0 w' := by
  have H := Lib.hid h
  have hli : ¬ 2000 < (S.length : Int) := by omega
  have HSL := Lib.hid (show S.length ≤ 1000000 by omega)
  have HD := Lib.hid hd
  have HFL := Lib.hid hfl
  obtain ⟨h1, h2, h3⟩ := valDec_one hd
  have HS := Lib.hid h1
  have HE := Lib.hid h2
  have HR := Lib.hid h3
  have gs : (S == S) = true := beq_self_eq_true _
  clear h hl hd hfl h1 h2 h3
  go_enter Try.func4, Try.ntmps4
  go_wp2_with (first
    | (go_at_call 13; (with_reducible refine (speaks14 H.out).mono ?_); rintro e_ wn ⟨rfl, h⟩; replace H := Lib.hid h; clear h)
    | (go_at_call 18; (with_reducible refine (val_decode_okV S HSL.out p e t u x y l HD.out H.out).mono ?_); rintro e_ wn ⟨q, cap, lr, rfl, hlr, h⟩; have HLR := Lib.hid hlr; clear hlr; obtain ⟨vb, hvb⟩ : ∃ b, wn.heap.size = b := ⟨_, rfl⟩; have h := h.allocRaw #[.int .i64 p, .int .i64 e, .int .i64 t, .int .i64 u, .slice q lr.length cap, .int .i64 x, .int .i64 y] 24; rw [hvb] at h; replace H := Lib.hid h; clear h)
    | (go_at_call 23; (with_reducible refine (ref14_decode_ok S HSL.out p e t u x y l HD.out H.out).mono ?_); rintro e_ wn ⟨q2, cap2, lr2, rfl, hlr, h⟩; have HLR2 := Lib.hid hlr; clear hlr; obtain ⟨wb, hwb⟩ : ∃ b, wn.heap.size = b := ⟨_, rfl⟩; have h := h.allocRaw #[.int .i64 p, .int .i64 e, .int .i64 t, .int .i64 u, .slice q2 lr2.length cap2, .int .i64 x, .int .i64 y] 24; rw [hwb] at h; have c0 := h.p1.rawCell 0; have c1 := h.p1.rawCell 1; have c2 := h.p1.rawCell 2; have c3 := h.p1.rawCell 3; have c4 := h.p1.rawCell 4; have c5 := h.p1.rawCell 5; have c6 := h.p1.rawCell 6; simp at c0 c1 c2 c3 c4 c5 c6; replace H := Lib.hid h; clear h)
    | (go_at_call 20; clear c0 c1 c2 c3 c4 c5 c6; (with_reducible refine (ref14_sameT p e t u x y lr lr2 q q2 cap cap2 (HLR.out.trans HLR2.out.symm) (lenT_of (fewT_of (by rw [HLR.out]; exact HFL.out))) (lenT_of (fewT_of (by rw [HLR2.out]; exact HFL.out))) (Know.has_left (Know.has_right (Know.has_refl _))) (Know.has_right (Know.has_refl _)) H.out).mono ?_); rintro e_ wn ⟨rfl, h⟩; have c0 := h.p1.rawCell 0; have c1 := h.p1.rawCell 1; have c2 := h.p1.rawCell 2; have c3 := h.p1.rawCell 3; have c4 := h.p1.rawCell 4; have c5 := h.p1.rawCell 5; have c6 := h.p1.rawCell 6; simp at c0 c1 c2 c3 c4 c5 c6; replace H := Lib.hid h; clear h)
    | (go_at_call 15; clear c0 c1 c2 c3 c4 c5 c6; (with_reducible refine (val_encode_okS p e t u x y lr q cap l HLR.out S HS.out HE.out HR.out (fewT_of (by rw [HLR.out]; exact HFL.out)) (Know.has_left (Know.has_right (Know.has_refl _))) H.out).mono ?_); rintro e_ wn ⟨rfl, h⟩; replace H := Lib.hid h; clear h))
  go_ret
  exact ⟨rfl, H.out.below⟩
theorem valDec_fewL {S : Bs} {v : ValS} (hs : S.length ≤ 1000000) (h : valDec S = (v, 0)) : FewL v.tops := by
  have h1 := valF_few (decI_at S) hs
  have h2 := (valDec_ok h (.inr trivial)).2.1
  rw [h2] at h1
  exact h1
theorem valueDecodes_any (S : Bs) (W : World) (hs : S.length ≤ 9223372036854775807) :
    Calls Try.prog 4 #[.string (bb S)] W fun en w' => en = .returned (.bool true) ∧ Below W.heap.size W w' := by
  have h : St W W Know.none [] := St.start (K := Know.none) trivial
  by_cases hl : S.length ≤ 2000
  rotate_left
  · exact vd_long S (by omega) h
  obtain ⟨⟨v, E⟩, hd⟩ : ∃ r, valDec S = r := ⟨_, rfl⟩
  by_cases h0 : E = 0
  · subst h0
    obtain ⟨p, e, t, u, l, x, y⟩ := v
    exact vd_good S hl p e t u x y l hd (valDec_fewL (by omega) hd) h
  · exact vd_bad S hl v E hd h0 h

end Go.Proofs.Ytombolmicfjjpaa

/- Which value any bytes are, or why none, is the document's, and whatever they are read as is written so: proved of every text. -/
namespace Go.Proofs.Ytombolmicfjjpaa
open Go.ChangeShapes Go.WideShapes Go.ChangeAt Go.ChangeMaps Go.RowKit

set_option maxRecDepth 100000 in
theorem valueDecodes_lifted (os : Os) (started : os.Started) (H : Type) (enc : TypeId × Value → H) :
    ReturnsInHanded {} Try.checked os 4 .any (Rows.valueDecodesSpec.pre6 enc Try.prog Try.f4 Rows.valueDecodesRow.domain false) (Rows.valueDecodesSpec.post enc Try.prog Try.f4 false true false false) := by
  refine returnsInHanded_of_change (C := Try.checked) Try.own started (by as_aux_lemma => kernel_rfl) Try.func4
    (ChangeSpec.witness6 (enc := enc) (C := Try.checked) false ⟨#[], #[.string ⟨#[]⟩], []⟩ 8 (by as_aux_lemma => kernel_rfl) (by as_aux_lemma => kernel_rfl) (by as_aux_lemma => kernel_rfl) (by as_aux_lemma => kernel_rfl)) ?_
  intro W base args ds gs before hval0 hW hcnd _
  have hval : ∀ (j : Nat) t v, Try.f4.params[j]? = some t → args[j]? = some v → Value.okWide Try.prog W .any base t v := hval0
  clear hval0
  refine law_contract (n := 1) (tb := 4) rfl rfl rfl Try.underlying4 (by intro ds h; match ds, h with | [d0], _ => rfl) (by as_aux_lemma => kernel_rfl) hW ?_
  intro p hA0 hlt
  have hA : DataW.TrodAll enc Try.prog W 0 (fun _ => true) true Try.f4.params.toList args.toList ds p := hA0
  clear hA0
  rw [Try.params4] at hA hval
  obtain ⟨v0, d0, rfl, rfl, h0⟩ := trodAll_one hA
  obtain ⟨s0, rfl, rfl, rfl, ws0⟩ := open_string Try.underlying9 (hval 0 9 v0 rfl rfl) h0
  exact valueDecodes_any s0.data.toList W ws0

theorem valueDecodes_holds : Rows.ValueDecodesSaid :=
  OpenClaim.holds_of_wide 4 Try.f4 rfl rfl rfl rfl rfl rfl rfl ⟨rfl, rfl, rfl, rfl, rfl⟩ rfl rfl rfl rfl rfl (by as_aux_lemma => kernel_rfl) Try.func4 (by as_aux_lemma => kernel_rfl)
    (of_decide_eq_true (by as_aux_lemma => kernel_rfl)) (by as_aux_lemma => (unfold Func.isWrapper; rw [if_neg (by as_aux_lemma => decide +kernel)]; exact ⟨rfl, rfl⟩))
    (fun os started H enc _ => valueDecodes_lifted os started H enc)

end Go.Proofs.Ytombolmicfjjpaa
