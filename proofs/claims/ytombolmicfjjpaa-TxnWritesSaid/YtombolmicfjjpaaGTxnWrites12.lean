/- Any of the three requests, in any version, its bytes are the document's, or why it may not be, and they are read as it: proved of all. -/
import Derived.Test.YtombolmicfjjpaaGTxnWrites9
import Derived.Test.YtombolmicfjjpaaGTxnWrites10
import Derived.Deep.RegionHeld3
import Derived.Deep.DeepCutAuto
import Derived.Test.YtombolmicfjjpaaGTxnWrites11
import Derived.Test.YtombolmicfjjpaaArgs
/- TxnWrites: Add, none. -/
namespace Go.Proofs.Ytombolmicfjjpaa
open Go.RowKit

set_option maxHeartbeats 8000000 in
set_option maxRecDepth 100000 in
theorem tww_24b (n m : Int) (nl : Bool) (d : Bs) (tm p e : Int) (l : List (TopS × Value)) (q : Option Addr) (cap : Nat) (c : Bool) (hfi : FewI l) (v : Int) (hm : n.tmod 3 = 1) (hwn : IntKind.u8.wrap n = n) (hv : m.tmod 2 = v) (hv01 : v = 0 ∨ v = 1) (hl : d.length ≤ 40000) (hw : few (l.map (·.1)) = 1) (E : Int) (hE : addE d p e (l.map (·.1)) = E) (h0_ : E ≠ 0)  {W0 w : World} {K : Know} {L : List Res} (hk : K.has (Know.tops (.slice q l.length cap) l)) (h : St W0 w K L) :
    Calls Try.prog 7 #[.int .u8 n, .int .u8 m, .agg #[.bool nl, .string (bb d), .int .i64 tm, .int .i64 p, .int .i64 e, .slice q l.length cap, .bool c]] w fun en w' => en = .returned (.bool true) ∧ Below W0.heap.size W0 w' := by
  obtain ⟨rb, hrb⟩ : ∃ b, w.heap.size = b := ⟨_, rfl⟩
  have h0 := h.allocRaw #[.bool nl, .string (bb d), .int .i64 tm, .int .i64 p, .int .i64 e, .slice q l.length cap, .bool c] 66
  rw [hrb] at h0
  have H := Lib.hid h0
  have HK := Lib.hid hk
  have HM := Lib.hid hm
  have HWn := Lib.hid hwn
  have HNL := Lib.hid hfi.1
  have HNB := Lib.hid (show ∀ x ∈ l, x.1.name.length ≤ 140737488351232 ∧ x.1.parts.length ≤ 17592186043904 from fun x hx => ⟨(hfi.2 x hx).1, (hfi.2 x hx).2.1⟩)
  have hv1 : IntKind.u8.wrap v = v := by rcases hv01 with rfl | rfl <;> decide
  have hv2 : IntKind.i64.wrap v = v := by rcases hv01 with rfl | rfl <;> decide
  have hli : ¬ 40000 < (d.length : Int) := by omega
  have HFW := Lib.hid hw
  have HF := Lib.hid (few_T (few_one hw))
  have HDL := Lib.hid (show d.length ≤ 140737488355328 by omega)
  have HE := Lib.hid hE
  have H0 := Lib.hid h0_
  have g1 : (E == 0) = false := by rw [beq_eq_false_iff_ne]; exact h0_
  have g2 : (E != 0) = true := by simp [bne, g1]
  have g3 : (E == E) = true := beq_self_eq_true _
  have g4 : (E != E) = false := by simp [bne, g3]
  have HEc := Lib.hid (show reqE 24 v false d 0 p e (l.map (·.1)) = E from hE)
  clear h h0 hk hfi hm hwn hl hw hE h0_
  go_enter Try.func7, Try.ntmps7
  go_wp2_with (first
    | (go_at_call 37; (with_reducible refine (speaks18 H.out).mono ?_); rintro e_ wn ⟨rfl, h⟩; have c0 := h.rawCell 0; have c1 := h.rawCell 1; have c2 := h.rawCell 2; have c3 := h.rawCell 3; have c4 := h.rawCell 4; have c5 := h.rawCell 5; have c6 := h.rawCell 6; simp at c0 c1 c2 c3 c4 c5 c6; replace H := Lib.hid h; clear h)
    | (go_at_call 38; (with_reducible refine (law18_kinds1 n HM.out HWn.out H.out).mono ?_); rintro e_ wn ⟨rfl, h⟩; have c0 := h.rawCell 0; have c1 := h.rawCell 1; have c2 := h.rawCell 2; have c3 := h.rawCell 3; have c4 := h.rawCell 4; have c5 := h.rawCell 5; have c6 := h.rawCell 6; simp at c0 c1 c2 c3 c4 c5 c6; replace H := Lib.hid h; clear h)
    | (go_at_call 14; (with_reducible refine (law14_few l q cap HNL.out HNB.out 1 HFW.out HK.out H.out).mono ?_); rintro e_ wn ⟨rfl, h⟩; have c0 := h.rawCell 0; have c1 := h.rawCell 1; have c2 := h.rawCell 2; have c3 := h.rawCell 3; have c4 := h.rawCell 4; have c5 := h.rawCell 5; have c6 := h.rawCell 6; simp at c0 c1 c2 c3 c4 c5 c6; have f0 := h.rawFree 0; have f2 := h.rawFree 2; have f6 := h.rawFree 6; have h := (show St W0 (((wn.setCell ⟨rb, 0, none⟩ (.bool false)).setCell ⟨rb, 2, none⟩ (.int .i64 0)).setCell ⟨rb, 6, none⟩ (.bool false)) K (.raw rb #[.bool false, .string (bb d), .int .i64 0, .int .i64 p, .int .i64 e, .slice q l.length cap, .bool false] 66 :: L) from (((h.rawSet 0 (.bool false)).rawSet 2 (.int .i64 0)).rawSet 6 (.bool false))); have x0 := h.rawCell 0; have x1 := h.rawCell 1; have x2 := h.rawCell 2; have x3 := h.rawCell 3; have x4 := h.rawCell 4; have x5 := h.rawCell 5; have x6 := h.rawCell 6; simp at x0 x1 x2 x3 x4 x5 x6; replace H := Lib.hid h; clear h)
    | (go_at_call 39; (with_reducible refine (l18w_24b v false d 0 p e l q cap false E HE.out H0.out HDL.out HF.out HK.out H.out).mono ?_); rintro e_ wn ⟨rfl, h⟩; have x0 := h.rawCell 0; have x1 := h.rawCell 1; have x2 := h.rawCell 2; have x3 := h.rawCell 3; have x4 := h.rawCell 4; have x5 := h.rawCell 5; have x6 := h.rawCell 6; simp at x0 x1 x2 x3 x4 x5 x6; replace H := Lib.hid h; clear h)
    | (go_at_call 40; (with_reducible refine (ref18_check24 v false d 0 p e l q cap false E HEc.out HF.out HK.out H.out).mono ?_); rintro e_ wn ⟨rfl, h⟩; have x0 := h.rawCell 0; have x1 := h.rawCell 1; have x2 := h.rawCell 2; have x3 := h.rawCell 3; have x4 := h.rawCell 4; have x5 := h.rawCell 5; have x6 := h.rawCell 6; simp at x0 x1 x2 x3 x4 x5 x6; replace H := Lib.hid h; clear h))
  go_ret
  exact ⟨rfl, H.out.below⟩

end Go.Proofs.Ytombolmicfjjpaa

/- Requests that came in. -/
namespace Go.Proofs.Ytombolmicfjjpaa
open Go.RowKit

open Go.ChangeShapes Go.WideShapes Go.ChangeAt Go.Deep

theorem cells_req : Try.prog.cellsOf 66 = 7 := by kernel_rfl
theorem cells_boolQ : Try.prog.cellsOf 4 = 1 := by kernel_rfl
section
variable {H : Type} {enc : TypeId × Value → H} {w : World} {spare : Nat → Bool} {held : Bool}
set_option maxHeartbeats 2000000 in
set_option maxRecDepth 100000 in
theorem req_opens : ∀ n cs y, DataW.trod enc Try.prog w 0 spare held n 66 cs = some y → Light 66 y.1 → (∀ x ∈ y.2, x.block < w.heap.size) →
    ∃ (nl : Bool) (d : Bs) (tm p e : Int) (l : List (TopS × Value)) (rv : Value) (c : Bool), cs = [.bool nl, .string (bb d), .int .i64 tm, .int .i64 p, .int .i64 e, rv, .bool c] ∧
      (-9223372036854775808 ≤ tm ∧ tm < 9223372036854775808) ∧ (-9223372036854775808 ≤ p ∧ p < 9223372036854775808) ∧ (-9223372036854775808 ≤ e ∧ e < 9223372036854775808) ∧ RowsOf (fun _ cs x => RTop cs x) (· < w.heap.size) w rv 2 l ∧ l.length * Try.prog.bytesOf 51 ≤ 140737488351232 ∧ (∀ x ∈ l, QTop w x) := by
  intro n cs y hf hl hN
  obtain ⟨hc, m, hg⟩ := opens_field Try.underlying66 hf hl hN
  rw [cells_req] at hc
  match cs, hc with
  | [c0, c1, c2, c3, c4, c5, c6], _ =>
    obtain ⟨z0, g0, l0, n0⟩ := hg 0 _ rfl
    have g0 : DataW.trod enc Try.prog w 0 spare held m 64 (List.take (Try.prog.cellsOf 64) (List.drop 0 [c0, c1, c2, c3, c4, c5, c6])) = some z0 := g0
    rw [cells_blob] at g0
    obtain ⟨z1, g1, l1, n1⟩ := hg 1 _ rfl
    have g1 : DataW.trod enc Try.prog w 0 spare held m 3 (List.take (Try.prog.cellsOf 3) (List.drop 2 [c0, c1, c2, c3, c4, c5, c6])) = some z1 := g1
    rw [cells_int] at g1
    obtain ⟨z2, g2, l2, n2⟩ := hg 2 _ rfl
    have g2 : DataW.trod enc Try.prog w 0 spare held m 3 (List.take (Try.prog.cellsOf 3) (List.drop 3 [c0, c1, c2, c3, c4, c5, c6])) = some z2 := g2
    rw [cells_int] at g2
    obtain ⟨z3, g3, l3, n3⟩ := hg 3 _ rfl
    have g3 : DataW.trod enc Try.prog w 0 spare held m 3 (List.take (Try.prog.cellsOf 3) (List.drop 4 [c0, c1, c2, c3, c4, c5, c6])) = some z3 := g3
    rw [cells_int] at g3
    obtain ⟨z4, g4, l4, n4⟩ := hg 4 _ rfl
    have g4 : DataW.trod enc Try.prog w 0 spare held m 22 (List.take (Try.prog.cellsOf 22) (List.drop 5 [c0, c1, c2, c3, c4, c5, c6])) = some z4 := g4
    rw [cells_tops] at g4
    obtain ⟨z5, g5, l5, n5⟩ := hg 5 _ rfl
    have g5 : DataW.trod enc Try.prog w 0 spare held m 4 (List.take (Try.prog.cellsOf 4) (List.drop 6 [c0, c1, c2, c3, c4, c5, c6])) = some z5 := g5
    rw [cells_boolQ] at g5
    obtain ⟨x0, e0, s0⟩ := blob_opens _ _ _ g0 l0 n0
    obtain ⟨x1, e1, r1⟩ := opens_i64 Try.underlying3 g1
    obtain ⟨x2, e2, r2⟩ := opens_i64 Try.underlying3 g2
    obtain ⟨x3, e3, r3⟩ := opens_i64 Try.underlying3 g3
    obtain ⟨v4, x4, e4, hrq, hm4, _⟩ := opens_rows (R := fun w' cs x => (fun _ cs x => RTop cs x) w' cs x ∧ QTop w x) (N := w.heap.size) Try.underlying22 cells_top (by decide) rtop_opens g4 l4 n4 (Nat.le_refl _)
    obtain ⟨hr, hq⟩ := hrq.part
    obtain ⟨x5, e5⟩ := opens_bool Try.underlying4 g5
    simp at e0 e1 e2 e3 e4 e5
    obtain ⟨e0a, e0b⟩ := e0
    subst e0a e0b e1 e2 e3 e4 e5
    exact ⟨x0.null, x0.data, x1, x2, x3, x4, _, x5, rfl, r1, r2, r3, hr, hm4, hq⟩
set_option maxHeartbeats 2000000 in
set_option maxRecDepth 100000 in
theorem req_open {r : Reach} {b0 : Nat} {v : Value} {d : DataW H} {p : List MemPlace} (hv : Value.okWide Try.prog w r b0 66 v) (h : DataW.Trod enc Try.prog w 0 spare held 66 v d p) (hl : Light 66 d) (hN : ∀ x ∈ p, x.block < w.heap.size) :
    ∃ (nl : Bool) (d : Bs) (tm p e : Int) (l : List (TopS × Value)) (q : Option Addr) (cap : Nat) (c : Bool), v = .agg #[.bool nl, .string (bb d), .int .i64 tm, .int .i64 p, .int .i64 e, .slice q l.length cap, .bool c] ∧
      (-9223372036854775808 ≤ tm ∧ tm < 9223372036854775808) ∧ (-9223372036854775808 ≤ p ∧ p < 9223372036854775808) ∧ (-9223372036854775808 ≤ e ∧ e < 9223372036854775808) ∧ FewI l ∧ St w w (Know.tops (.slice q l.length cap) l) [] := by
  obtain ⟨cs, rfl, hsz⟩ := okWide_struct Try.underlying66 hv
  obtain ⟨fuel, hf⟩ := h
  obtain ⟨nl, d, tm, p, e, l, rv, c, ec, r1, r2, r3, hr, hm, hq⟩ := req_opens _ _ _ hf hl hN
  obtain ⟨c⟩ := cs
  have ec : c = _ := ec
  subst ec
  obtain ⟨q, cap, hrv⟩ : ∃ q cap, rv = .slice q l.length cap := by obtain ⟨p, cap, hv, _⟩ := hr; exact ⟨p, cap, hv⟩
  subst hrv
  exact ⟨nl, d, tm, p, e, l, q, cap, _, rfl, r1, r2, r3, QTop.few hm hq, QTop.start hr hq⟩
end

end Go.Proofs.Ytombolmicfjjpaa

/- TxnWrites, any. -/
namespace Go.Proofs.Ytombolmicfjjpaa
open Go.RowKit

theorem mod3 (n : Int) (h : 0 ≤ n ∧ n < 256) : n.tmod 3 = 0 ∨ n.tmod 3 = 1 ∨ n.tmod 3 = 2 := by
  rw [Int.tmod_eq_emod_of_nonneg h.1]
  omega
theorem mod2 (n : Int) (h : 0 ≤ n ∧ n < 256) : n.tmod 2 = 0 ∨ n.tmod 2 = 1 := by
  rw [Int.tmod_eq_emod_of_nonneg h.1]
  omega
theorem txnWrites_any (n m : Int) (nl : Bool) (d : Bs) (tm p e : Int) (l : List (TopS × Value)) (q : Option Addr) (cap : Nat) (c : Bool) (W : World) (hn : 0 ≤ n ∧ n < 256) (hm : 0 ≤ m ∧ m < 256) (hp : (-9223372036854775808 ≤ p ∧ p < 9223372036854775808)) (hfi : FewI l) (h : St W W (Know.tops (.slice q l.length cap) l) []) :
    Calls Try.prog 7 #[.int .u8 n, .int .u8 m, .agg #[.bool nl, .string (bb d), .int .i64 tm, .int .i64 p, .int .i64 e, .slice q l.length cap, .bool c]] W fun en w' => en = .returned (.bool true) ∧ Below W.heap.size W w' := by
  have hk : (Know.tops (.slice q l.length cap) l).has (Know.tops (.slice q l.length cap) l) := Know.has_refl _
  have hwn : IntKind.u8.wrap n = n := by rw [IntKind.wrap_u8]; omega
  obtain ⟨v, hv⟩ : ∃ v, m.tmod 2 = v := ⟨_, rfl⟩
  have hv01 : v = 0 ∨ v = 1 := by rw [← hv]; exact mod2 m hm
  by_cases hl : d.length ≤ 40000
  rotate_left
  · rcases mod3 n hn with h3 | h3 | h3
    · exact tww_long0 n m nl d tm p e l q cap c hfi v h3 hwn hv hv01 (by omega) hk h
    · exact tww_long1 n m nl d tm p e l q cap c hfi v h3 hwn hv hv01 (by omega) hk h
    · exact tww_long2 n m nl d tm p e l q cap c hfi v h3 hwn hv hv01 (by omega) hk h
  by_cases hw : topWs (l.map (·.1)) ≤ 1000
  rotate_left
  · have hw0 : few (l.map (·.1)) = 0 := by unfold few; rw [if_neg hw]
    rcases mod3 n hn with h3 | h3 | h3
    · exact tww_few0 n m nl d tm p e l q cap c hfi v h3 hwn hv hv01 hl hw0 hk h
    · exact tww_few1 n m nl d tm p e l q cap c hfi v h3 hwn hv hv01 hl hw0 hk h
    · exact tww_few2 n m nl d tm p e l q cap c hfi v h3 hwn hv hv01 hl hw0 hk h
  have hw1 : few (l.map (·.1)) = 1 := by unfold few; rw [if_pos hw]
  rcases mod3 n hn with h3 | h3 | h3
  · by_cases hE : begE v nl d tm p e = 0
    · rcases hv01 with rfl | rfl
      · obtain ⟨rfl, rfl⟩ := was_0 (begE_ok hE).2.2
        exact tww_220 n m nl d tm l q cap c hfi h3 hwn hv hl hw1 hE _ rfl hk h
      · exact tww_221 n m nl d tm p e l q cap c hfi h3 hwn hv hl hw1 hE hp.2 _ rfl hk h
    · exact tww_22b n m nl d tm p e l q cap c hfi v h3 hwn hv hv01 hl hw1 _ rfl hE hk h
  · by_cases hE : addE d p e (l.map (·.1)) = 0
    · exact tww_24 n m nl d tm p e l q cap c hfi v h3 hwn hv hv01 hl hw1 hE hp.2 _ rfl hk h
    · exact tww_24b n m nl d tm p e l q cap c hfi v h3 hwn hv hv01 hl hw1 _ rfl hE hk h
  · by_cases hE : chkW d p e = 0
    · exact tww_26 n m nl d tm p e l q cap c hfi v h3 hwn hv hv01 hl hw1 hE hp.2 _ rfl hk h
    · exact tww_26b n m nl d tm p e l q cap c hfi v h3 hwn hv hv01 hl hw1 _ rfl hE hk h

end Go.Proofs.Ytombolmicfjjpaa

/- Any of the three requests, in any version, its bytes are the document's, or why it may not be, and they are read as it: proved of all. -/
namespace Go.Proofs.Ytombolmicfjjpaa
open Go.ChangeShapes Go.WideShapes Go.ChangeAt Go.ChangeMaps Go.RowKit

set_option maxRecDepth 100000 in
theorem txnWrites_lifted (os : Os) (started : os.Started) (H : Type) (enc : TypeId × Value → H) :
    ReturnsInHanded {} Try.checked os 7 .any (Rows.txnWritesSpec.pre6 enc Try.prog Try.f7 Rows.txnWritesRow.domain false) (Rows.txnWritesSpec.post enc Try.prog Try.f7 false true false false) := by
  refine returnsInHanded_of_change_sized (C := Try.checked) Try.own started (by as_aux_lemma => kernel_rfl) Try.func7
    (ChangeSpec.witness6 (enc := enc) (C := Try.checked) false ⟨#[], #[.int .u8 0, .int .u8 0, .agg #[.bool false, .string ⟨#[]⟩, .int .i64 0, .int .i64 0, .int .i64 0, .slice none 0 0, .bool false]], []⟩ 8 (by as_aux_lemma => kernel_rfl) (by as_aux_lemma => kernel_rfl) (by as_aux_lemma => kernel_rfl) (by as_aux_lemma => kernel_rfl)) ?_
  intro W base args ds gs before hval0 hW hcnd hsz0 _
  have hval : ∀ (j : Nat) t v, Try.f7.params[j]? = some t → args[j]? = some v → Value.okWide Try.prog W .any base t v := hval0
  clear hval0
  refine law_contract (n := 3) (tb := 4) rfl rfl rfl Try.underlying4 (by intro ds h; match ds, h with | [d0, d1, d2], _ => rfl) (by as_aux_lemma => kernel_rfl) hW ?_
  intro p hA0 hlt
  have hA : DataW.TrodAll enc Try.prog W 0 (fun _ => true) true Try.f7.params.toList args.toList ds p := hA0
  clear hA0
  rw [Try.params7] at hA hval
  obtain ⟨v0, v1, v2, d0, d1, d2, p0, p1, p2, rfl, rfl, rfl, h0, h1, h2⟩ := trodAll_three hA
  have hsz : (DataW.weightsEach Try.prog (Try.f7.params.toList ++ Rows.txnWritesSpec.plain.varTypes Try.prog) ([d0, d1, d2] ++ gs)).all (· ≤ reachBytes) = true := hsz0
  rw [Try.params7] at hsz
  obtain ⟨a0, rfl, rfl, rfl, wa0⟩ := open_int Try.underlying5 (hval 0 5 v0 rfl rfl) h0
  have r0 := wf_u8 wa0
  obtain ⟨a1, rfl, rfl, rfl, wa1⟩ := open_int Try.underlying5 (hval 1 5 v1 rfl rfl) h1
  have r1 := wf_u8 wa1
  have lg2 : Light 66 d2 := light_arg hsz (j := 2) rfl rfl
  obtain ⟨nl, dd, tm, p, e, l, q, cap, c, rfl, rT, rP, rE, hfi, hst⟩ := req_open (hval 2 66 v2 rfl rfl) h2 lg2 (fun y hy => hlt y (by simp [hy]))
  exact txnWrites_any a0 a1 nl dd tm p e l q cap c W r0 r1 rP hfi hst

theorem txnWrites_holds : Rows.TxnWritesSaid :=
  OpenClaim.holds_of_wide 7 Try.f7 rfl rfl rfl rfl rfl rfl rfl ⟨rfl, rfl, rfl, rfl, rfl⟩ rfl rfl rfl rfl rfl (by as_aux_lemma => kernel_rfl) Try.func7 (by as_aux_lemma => kernel_rfl)
    (of_decide_eq_true (by as_aux_lemma => kernel_rfl)) (by as_aux_lemma => (unfold Func.isWrapper; rw [if_neg (by as_aux_lemma => decide +kernel)]; exact ⟨rfl, rfl⟩))
    (fun os started H enc _ => txnWrites_lifted os started H enc)

end Go.Proofs.Ytombolmicfjjpaa
