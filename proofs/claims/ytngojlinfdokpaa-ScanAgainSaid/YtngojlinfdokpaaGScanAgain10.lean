/- Of any bytes what is valid is the batches' bytes, just so, and scanned again it is clean and has the same batches: proved of every text. -/
import Derived.Test.YtngojlinfdokpaaGScanAgain9
import Derived.RegionTactic
import Derived.Deep.RegionHeld3
import Derived.Deep.DeepCutAuto
import Derived.WalkMore
import Derived.Test.YtngojlinfdokpaaArgs
/- A text. -/
namespace Go.Proofs.Ytngojlinfdokpaa
open Go.RowKit

set_option maxHeartbeats 8000000 in
set_option maxRecDepth 100000 in
theorem sa_long (s : Bs) (hl : 1500 < s.length) {W0 w : World} {K : Know} (h : St W0 w K []) :
  Calls Try.prog 3 #[.string (bb s)] w fun en w' => en = .returned (.bool true) ∧ Below W0.heap.size W0 w' := by
 have H := Lib.hid h
 have c1 : (1500 : Int) < (s.length : Int) := by omega
 clear h hl
 go_enter Try.func3, Try.ntmps3
 go_wp2_with (go_at_call 6; (with_reducible refine (speaks23 H.out).mono ?_); rintro e_ wn ⟨rfl, K2, hk2, h⟩; clear hk2; replace H := Lib.hid h; clear h)
 go_ret
 exact ⟨rfl, H.out.below⟩
set_option maxHeartbeats 8000000 in
set_option maxRecDepth 100000 in
theorem sa_main (s : Bs) (hl : s.length ≤ 1500) {W0 w : World} {K : Know} (h : St W0 w K []) :
   Calls Try.prog 3 #[.string (bb s)] w fun en w' => en = .returned (.bool true) ∧ Below W0.heap.size W0 w' := by
 have H := Lib.hid h
 have c1 : ¬ (1500 : Int) < (s.length : Int) := by omega
 obtain ⟨bs, V, rest, e, hf, hV, hfv, hbe, h0, h2, hmid⟩ := again_facts s hl
 obtain ⟨ps, hps⟩ : ∃ ps, stopS rest e = ps := ⟨_, rfl⟩
 rw [hps] at h0 h2
 have HF := Lib.hid hf
 have HP := Lib.hid hps
 have HFV := Lib.hid hfv
 have HBE := Lib.hid hbe
 have HMI := Lib.hid hmid
 have HSL := Lib.hid (show s.length ≤ 90000 by omega)
 have HS15 := Lib.hid hl
 have HPV := Lib.hid (show stopS [] 0 = 0 from rfl)
 have HTV := Lib.hid (show (s.take V).length ≤ 90000 by rw [List.length_take]; omega)
 have gneg : ¬ (V : Int) < 0 := by omega
 have gle : ¬ (s.length : Int) < (V : Int) := by omega
 have hVi : (V : Int) ≤ (s.length : Int) := by omega
 obtain ⟨bo, hbo⟩ : ∃ bo : Bool, decide (V = s.length) = bo := ⟨_, rfl⟩
 have g1 : (ps == 0) = bo := by rw [← hbo]; by_cases c : V = s.length
                                · rw [h0.2 c]; simp [c]
                                · have : ps ≠ 0 := fun hh => c (h0.1 hh)
                                  simp [c, this]
 have g2 : ((V : Int) == (s.length : Int)) = bo := by rw [← hbo]; by_cases c : V = s.length <;> simp [c] <;> omega
 have g3 : (bo != bo) = false := by cases bo <;> rfl
 obtain ⟨b2, hb2⟩ : ∃ b2 : Bool, decide (e ≠ 0) = b2 := ⟨_, rfl⟩
 have g4 : (e != 0) = b2 := by rw [← hb2]; by_cases c : e = 0 <;> simp [c, bne]
 have g5 : (ps == 2) = b2 := by rw [← hb2]; by_cases c : e = 0
                                · have : ps ≠ 2 := fun hh => h2.1 hh c
                                  simp [c, this]
                                · rw [h2.2 c]; simp [c]
 have g6 : (b2 != b2) = false := by cases b2 <;> rfl
 have g7 : ((V : Int) == (V : Int)) = true := beq_self_eq_true _
 have g8 : (s.take V == s.take V) = true := beq_self_eq_true _
 clear h hl hf hfv hbe hps h0 h2 hmid hbo hb2
 go_enter Try.func3, Try.ntmps3
 go_upto_region 8 with (first
   | (go_at_call 6; (with_reducible refine (speaks23 H.out).mono ?_); rintro e_ wn ⟨rfl, K2, hk2, h⟩; clear hk2; replace H := Lib.hid h; clear h)
   | (go_at_call 7; (with_reducible refine (scan_one s bs V rest e ps HF.out HP.out HSL.out _ (H.out.allocRaw _ _)).mono ?_); rintro e_ wn ⟨qa, capa, la, rfl, hma, hla, hca, hqa, h⟩; have HMa := Lib.hid hma; have HLa := Lib.hid hla; have HCa := Lib.hid hca; have HQa := Lib.hid hqa; clear hma hla hca hqa; obtain ⟨px, hpx⟩ : ∃ b, wn.heap.size = b := ⟨_, rfl⟩; have h := h.allocRaw #[.int .i64 V, .int .i64 ps, .int .i64 e] 26; rw [hpx] at h; have px0 := h.rawCell 0; have px1 := h.rawCell 1; have px2 := h.rawCell 2; simp at px0 px1 px2; replace H := Lib.hid h; clear h))
 have HMD := Lib.hid (show ∀ x ∈ la, x.l.map (·.1) = x.b.recs ∧ MidOk x.b from fun x hx => ⟨(HLa.out x hx).1, HMI.out x.b (by rw [← HMa.out]; exact List.mem_map_of_mem hx)⟩)
 have HEB := Lib.hid (show encB la = s.take V by rw [← HBE.out, ← HMa.out]; unfold encB; rw [List.flatMap_map])
 have HLL := Lib.hid (show la.length ≤ 30 by have := HCa.out; have := HS15.out; omega)
 go_wp2_with (first
   | (go_at_call 8; (with_reducible refine (bat_all_mid la qa capa (s.take V) HEB.out HMD.out HLL.out (Know.has_right (Know.has_refl _)) H.out).mono ?_); rintro e_ wn ⟨rfl, h⟩; clear px0 px1 px2; have px0 := h.rawCell 0; have px1 := h.rawCell 1; have px2 := h.rawCell 2; simp at px0 px1 px2; replace H := Lib.hid h; clear h)
   | (go_at_call 7; (with_reducible refine (scan_one (s.take V) bs V [] 0 0 HFV.out HPV.out HTV.out _ (H.out.allocRaw _ _)).mono ?_); rintro e_ wn ⟨qb, capb, lb, rfl, hmb, hlb, hcb, hqb, h⟩; have HMb := Lib.hid hmb; have HLb := Lib.hid hlb; have HCb := Lib.hid hcb; have HQb := Lib.hid hqb; clear hmb hlb hcb hqb; obtain ⟨qx, hqx⟩ : ∃ b, wn.heap.size = b := ⟨_, rfl⟩; have h := h.allocRaw #[.int .i64 V, .int .i64 0, .int .i64 0] 26; rw [hqx] at h; clear px0 px1 px2; have qx0 := h.rawCell 0; have qx1 := h.rawCell 1; have qx2 := h.rawCell 2; have px0 := h.p1.rawCell 0; have px1 := h.p1.rawCell 1; have px2 := h.p1.rawCell 2; simp at qx0 qx1 qx2 px0 px1 px2; replace H := Lib.hid h; clear h)
   | (go_at_call 9; (with_reducible refine (ref11_rowsT la lb qa qb capa capb (HMa.out.trans HMb.out.symm) HLa.out HLb.out (by have := HCa.out; have := HSL.out; omega) (Know.has_left (Know.has_right (Know.has_refl _))) (Know.has_right (Know.has_refl _)) H.out).mono ?_); rintro e_ wn ⟨rfl, h⟩; clear px0 px1 px2 qx0 qx1 qx2; have qx0 := h.rawCell 0; have qx1 := h.rawCell 1; have qx2 := h.rawCell 2; have px0 := h.p1.rawCell 0; have px1 := h.p1.rawCell 1; have px2 := h.p1.rawCell 2; simp at qx0 qx1 qx2 px0 px1 px2; replace H := Lib.hid h; clear h))
 go_ret
 exact ⟨rfl, H.out.below⟩
theorem scanAgain_any (s : Bs) (W : World) (_ : s.length ≤ maxLen) :
  Calls Try.prog 3 #[.string (bb s)] W fun en w' => en = .returned (.bool true) ∧ Below W.heap.size W w' := by
 by_cases hl : 1500 < s.length
 · exact sa_long s hl (St.start (K := Know.none) trivial)
 · exact sa_main s (by omega) (St.start (K := Know.none) trivial)

end Go.Proofs.Ytngojlinfdokpaa

/- Of any bytes what is valid is the batches' bytes, just so, and scanned again it is clean and has the same batches: proved of every text. -/
namespace Go.Proofs.Ytngojlinfdokpaa
open Go.ChangeShapes Go.WideShapes Go.ChangeAt Go.ChangeMaps Go.RowKit

set_option maxRecDepth 100000 in
theorem scanAgain_lifted (os : Os) (started : os.Started) (H : Type) (enc : TypeId × Value → H) :
  ReturnsInHanded {} Try.checked os 3 .any (Rows.scanAgainSpec.pre6 enc Try.prog Try.f3 Rows.scanAgainRow.domain false) (Rows.scanAgainSpec.post enc Try.prog Try.f3 false true false false) := by
 refine returnsInHanded_of_change (C := Try.checked) Try.own started (by as_aux_lemma => kernel_rfl) Try.func3
  (ChangeSpec.witness6 (enc := enc) (C := Try.checked) false ⟨#[], #[.string ⟨#[]⟩], []⟩ 8 (by as_aux_lemma => kernel_rfl) (by as_aux_lemma => kernel_rfl) (by as_aux_lemma => kernel_rfl) (by as_aux_lemma => kernel_rfl)) ?_
 intro W base args ds gs before hval0 hW hcnd _
 have hval : ∀ (j : Nat) t v, Try.f3.params[j]? = some t → args[j]? = some v → Value.okWide Try.prog W .any base t v := hval0
 clear hval0
 refine law_contract (n := 1) (tb := 4) rfl rfl rfl Try.underlying4 (by intro ds h; match ds, h with | [d0], _ => rfl) (by as_aux_lemma => kernel_rfl) hW ?_
 intro p hA0 hlt
 have hA : DataW.TrodAll enc Try.prog W 0 (fun _ => true) true Try.f3.params.toList args.toList ds p := hA0
 clear hA0
 rw [Try.params3] at hA hval
 obtain ⟨v0, d0, rfl, rfl, h0⟩ := trodAll_one hA
 obtain ⟨s0, rfl, rfl, rfl, ws0⟩ := open_string Try.underlying9 (hval 0 9 v0 rfl rfl) h0
 exact scanAgain_any s0.data.toList W ws0

theorem scanAgain_holds : Rows.ScanAgainSaid :=
 OpenClaim.holds_of_wide 3 Try.f3 rfl rfl rfl rfl rfl rfl rfl ⟨rfl, rfl, rfl, rfl, rfl⟩ rfl rfl rfl rfl rfl (by as_aux_lemma => kernel_rfl) Try.func3 (by as_aux_lemma => kernel_rfl)
  (of_decide_eq_true (by as_aux_lemma => kernel_rfl)) (by as_aux_lemma => (unfold Func.isWrapper; rw [if_neg (by as_aux_lemma => decide +kernel)]; exact ⟨rfl, rfl⟩))
  (fun os started H enc _ => scanAgain_lifted os started H enc)

end Go.Proofs.Ytngojlinfdokpaa
