/- TxnWrites: End. -/
import Derived.Test.YtombolmicfjjpaaGTxnWrites9
import Derived.Test.YtombolmicfjjpaaGTxnWrites10
import Derived.Deep.RegionHeld3
import Derived.Deep.DeepCutAuto
/- TxnWrites: Begin, in version 0, or none. -/
namespace Go.Proofs.Ytombolmicfjjpaa
open Go.RowKit

set_option maxHeartbeats 8000000 in
set_option maxRecDepth 100000 in
theorem tww_22b (n m : Int) (nl : Bool) (d : Bs) (tm p e : Int) (l : List (TopS × Value)) (q : Option Addr) (cap : Nat) (c : Bool) (hfi : FewI l) (v : Int) (hm : n.tmod 3 = 0) (hwn : IntKind.u8.wrap n = n) (hv : m.tmod 2 = v) (hv01 : v = 0 ∨ v = 1) (hl : d.length ≤ 40000) (hw : few (l.map (·.1)) = 1) (E : Int) (hE : begE v nl d tm p e = E) (h0_ : E ≠ 0)  {W0 w : World} {K : Know} {L : List Res} (hk : K.has (Know.tops (.slice q l.length cap) l)) (h : St W0 w K L) :
    Calls Try.prog 7 #[.int .u8 n, .int .u8 m, .agg #[.bool nl, .string (bb d), .int .i64 tm, .int .i64 p, .int .i64 e, .slice q l.length cap, .bool c]] w fun en w' => en = .returned (.bool true) ∧ Below W0.heap.size W0 w' := by
  obtain ⟨rb, hrb⟩ : ∃ b, w.heap.size = b := ⟨_, rfl⟩
  have h0 := h.allocRaw #[.bool nl, .string (bb d), .int .i64 tm, .int .i64 p, .int .i64 e, .slice q l.length cap, .bool c] 66
  rw [hrb] at h0
  have H := Lib.hid h0
  have HK := Lib.hid hk
  have HM := Lib.hid hm
  have HWn := Lib.hid hwn
  have HNL := Lib.hid hfi.1
  have HNB := Lib.hid (show ∀ x ∈ l, x.1.name.length ≤ 140737488351232 ∧ x.1.parts.length ≤ 17592186043904 from fun x hx => ⟨(hfi.2 x hx).1, (hfi.2 x hx).2.1⟩)
  have hv1 : IntKind.u8.wrap v = v := by rcases hv01 with rfl | rfl <;> decide
  have hv2 : IntKind.i64.wrap v = v := by rcases hv01 with rfl | rfl <;> decide
  have hli : ¬ 40000 < (d.length : Int) := by omega
  have HFW := Lib.hid hw
  have HF := Lib.hid (few_T (few_one hw))
  have HDL := Lib.hid (show d.length ≤ 140737488355328 by omega)
  have HE := Lib.hid hE
  have H0 := Lib.hid h0_
  have g1 : (E == 0) = false := by rw [beq_eq_false_iff_ne]; exact h0_
  have g2 : (E != 0) = true := by simp [bne, g1]
  have g3 : (E == E) = true := beq_self_eq_true _
  have g4 : (E != E) = false := by simp [bne, g3]
  clear h h0 hk hfi hm hwn hl hw hE h0_
  go_enter Try.func7, Try.ntmps7
  go_wp2_with (first
    | (go_at_call 37; (with_reducible refine (speaks18 H.out).mono ?_); rintro e_ wn ⟨rfl, h⟩; have c0 := h.rawCell 0; have c1 := h.rawCell 1; have c2 := h.rawCell 2; have c3 := h.rawCell 3; have c4 := h.rawCell 4; have c5 := h.rawCell 5; have c6 := h.rawCell 6; simp at c0 c1 c2 c3 c4 c5 c6; replace H := Lib.hid h; clear h)
    | (go_at_call 38; (with_reducible refine (law18_kinds0 n HM.out HWn.out H.out).mono ?_); rintro e_ wn ⟨rfl, h⟩; have c0 := h.rawCell 0; have c1 := h.rawCell 1; have c2 := h.rawCell 2; have c3 := h.rawCell 3; have c4 := h.rawCell 4; have c5 := h.rawCell 5; have c6 := h.rawCell 6; simp at c0 c1 c2 c3 c4 c5 c6; replace H := Lib.hid h; clear h)
    | (go_at_call 14; (with_reducible refine (law14_few l q cap HNL.out HNB.out 1 HFW.out HK.out H.out).mono ?_); rintro e_ wn ⟨rfl, h⟩; have c0 := h.rawCell 0; have c1 := h.rawCell 1; have c2 := h.rawCell 2; have c3 := h.rawCell 3; have c4 := h.rawCell 4; have c5 := h.rawCell 5; have c6 := h.rawCell 6; simp at c0 c1 c2 c3 c4 c5 c6; have f5 := h.rawFree 5; have f6 := h.rawFree 6; have h := (show St W0 ((wn.setCell ⟨rb, 5, none⟩ (.slice none 0 0)).setCell ⟨rb, 6, none⟩ (.bool false)) K (.raw rb #[.bool nl, .string (bb d), .int .i64 tm, .int .i64 p, .int .i64 e, .slice none 0 0, .bool false] 66 :: L) from ((h.rawSet 5 (.slice none 0 0)).rawSet 6 (.bool false))); have x0 := h.rawCell 0; have x1 := h.rawCell 1; have x2 := h.rawCell 2; have x3 := h.rawCell 3; have x4 := h.rawCell 4; have x5 := h.rawCell 5; have x6 := h.rawCell 6; simp at x0 x1 x2 x3 x4 x5 x6; replace H := Lib.hid h; clear h)
    | (go_at_call 39; (with_reducible refine (w22Zb v nl d tm p e E HE.out H0.out HDL.out H.out).mono ?_); rintro e_ wn ⟨rfl, h⟩; have x0 := h.rawCell 0; have x1 := h.rawCell 1; have x2 := h.rawCell 2; have x3 := h.rawCell 3; have x4 := h.rawCell 4; have x5 := h.rawCell 5; have x6 := h.rawCell 6; simp at x0 x1 x2 x3 x4 x5 x6; replace H := Lib.hid h; clear h)
    | (go_at_call 40; (with_reducible refine (c22Z v nl d tm p e E HE.out H.out).mono ?_); rintro e_ wn ⟨rfl, h⟩; have x0 := h.rawCell 0; have x1 := h.rawCell 1; have x2 := h.rawCell 2; have x3 := h.rawCell 3; have x4 := h.rawCell 4; have x5 := h.rawCell 5; have x6 := h.rawCell 6; simp at x0 x1 x2 x3 x4 x5 x6; replace H := Lib.hid h; clear h))
  go_ret
  exact ⟨rfl, H.out.below⟩

set_option maxHeartbeats 8000000 in
set_option maxRecDepth 100000 in
theorem tww_220 (n m : Int) (nl : Bool) (d : Bs) (tm : Int) (l : List (TopS × Value)) (q : Option Addr) (cap : Nat) (c : Bool) (hfi : FewI l) (hm : n.tmod 3 = 0) (hwn : IntKind.u8.wrap n = n) (hv : m.tmod 2 = 0) (hl : d.length ≤ 40000) (hw : few (l.map (·.1)) = 1) (hE : begE 0 nl d tm (-1) (-1) = 0) (S : Bs) (hS : encReq 22 0 nl d tm (-1) (-1) [] false = S)  {W0 w : World} {K : Know} {L : List Res} (hk : K.has (Know.tops (.slice q l.length cap) l)) (h : St W0 w K L) :
    Calls Try.prog 7 #[.int .u8 n, .int .u8 m, .agg #[.bool nl, .string (bb d), .int .i64 tm, .int .i64 (-1), .int .i64 (-1), .slice q l.length cap, .bool c]] w fun en w' => en = .returned (.bool true) ∧ Below W0.heap.size W0 w' := by
  obtain ⟨rb, hrb⟩ : ∃ b, w.heap.size = b := ⟨_, rfl⟩
  have h0 := h.allocRaw #[.bool nl, .string (bb d), .int .i64 tm, .int .i64 (-1), .int .i64 (-1), .slice q l.length cap, .bool c] 66
  rw [hrb] at h0
  have H := Lib.hid h0
  have HK := Lib.hid hk
  have HM := Lib.hid hm
  have HWn := Lib.hid hwn
  have HNL := Lib.hid hfi.1
  have HNB := Lib.hid (show ∀ x ∈ l, x.1.name.length ≤ 140737488351232 ∧ x.1.parts.length ≤ 17592186043904 from fun x hx => ⟨(hfi.2 x hx).1, (hfi.2 x hx).2.1⟩)
  have hv1 : IntKind.u8.wrap 0 = 0 := by decide
  have hv2 : IntKind.i64.wrap 0 = 0 := by decide
  have hli : ¬ 40000 < (d.length : Int) := by omega
  have HFW := Lib.hid hw
  have HF := Lib.hid (few_T (few_one hw))
  have HDL := Lib.hid (show d.length ≤ 140737488355328 by omega)
  have HE := Lib.hid hE
  have HS := Lib.hid hS
  have HP := Lib.hid (show (-1 : Int) < 9223372036854775808 by decide)
  have gS : (S == S) = true := beq_self_eq_true _
  have hok := begE_ok hE
  have hid := idOk_len hok.1
  have HIL := Lib.hid hid.1
  have HTM := Lib.hid (show -9223372036854775808 ≤ tm ∧ tm < 9223372036854775808 by omega)
  have HRP := Lib.hid (show -9223372036854775808 ≤ (-1 : Int) ∧ (-1 : Int) < 9223372036854775808 by decide)
  obtain ⟨i1, b1, b2⟩ := back_220 S nl d tm hok.1 hok.2.1 hS
  have B1 := Lib.hid b1
  have B2 := Lib.hid b2
  have HSL := Lib.hid (show S.length ≤ 140737488355328 by rw [← hS]; have h1 := encReq_len 22 0 nl d tm (-1) (-1) [] false (by decide) HIL.out; omega)
  have HCL := Lib.hid (close_endT S)
  clear h h0 hk hfi hm hwn hl hw hE hS hok hid b1 b2
  go_enter Try.func7, Try.ntmps7
  go_upto_region 19 with (first
    | (go_at_call 37; (with_reducible refine (speaks18 H.out).mono ?_); rintro e_ wn ⟨rfl, h⟩; have c0 := h.rawCell 0; have c1 := h.rawCell 1; have c2 := h.rawCell 2; have c3 := h.rawCell 3; have c4 := h.rawCell 4; have c5 := h.rawCell 5; have c6 := h.rawCell 6; simp at c0 c1 c2 c3 c4 c5 c6; replace H := Lib.hid h; clear h)
    | (go_at_call 38; (with_reducible refine (law18_kinds0 n HM.out HWn.out H.out).mono ?_); rintro e_ wn ⟨rfl, h⟩; have c0 := h.rawCell 0; have c1 := h.rawCell 1; have c2 := h.rawCell 2; have c3 := h.rawCell 3; have c4 := h.rawCell 4; have c5 := h.rawCell 5; have c6 := h.rawCell 6; simp at c0 c1 c2 c3 c4 c5 c6; replace H := Lib.hid h; clear h)
    | (go_at_call 14; (with_reducible refine (law14_few l q cap HNL.out HNB.out 1 HFW.out HK.out H.out).mono ?_); rintro e_ wn ⟨rfl, h⟩; have c0 := h.rawCell 0; have c1 := h.rawCell 1; have c2 := h.rawCell 2; have c3 := h.rawCell 3; have c4 := h.rawCell 4; have c5 := h.rawCell 5; have c6 := h.rawCell 6; simp at c0 c1 c2 c3 c4 c5 c6; have f5 := h.rawFree 5; have f6 := h.rawFree 6; have h := (show St W0 ((wn.setCell ⟨rb, 5, none⟩ (.slice none 0 0)).setCell ⟨rb, 6, none⟩ (.bool false)) K (.raw rb #[.bool nl, .string (bb d), .int .i64 tm, .int .i64 (-1), .int .i64 (-1), .slice none 0 0, .bool false] 66 :: L) from ((h.rawSet 5 (.slice none 0 0)).rawSet 6 (.bool false))); have x0 := h.rawCell 0; have x1 := h.rawCell 1; have x2 := h.rawCell 2; have x3 := h.rawCell 3; have x4 := h.rawCell 4; have x5 := h.rawCell 5; have x6 := h.rawCell 6; simp at x0 x1 x2 x3 x4 x5 x6; replace H := Lib.hid h; clear h)
    | (go_at_call 39; (with_reducible refine (w22Z0 nl d tm (-1) (-1) S HS.out HE.out HP.out H.out).mono ?_); rintro e_ wn ⟨rfl, h⟩; have x0 := h.rawCell 0; have x1 := h.rawCell 1; have x2 := h.rawCell 2; have x3 := h.rawCell 3; have x4 := h.rawCell 4; have x5 := h.rawCell 5; have x6 := h.rawCell 6; simp at x0 x1 x2 x3 x4 x5 x6; replace H := Lib.hid h; clear h)
    | (go_at_call 40; (with_reducible refine (c22Z 0 nl d tm (-1) (-1) 0 HE.out H.out).mono ?_); rintro e_ wn ⟨rfl, h⟩; have x0 := h.rawCell 0; have x1 := h.rawCell 1; have x2 := h.rawCell 2; have x3 := h.rawCell 3; have x4 := h.rawCell 4; have x5 := h.rawCell 5; have x6 := h.rawCell 6; simp at x0 x1 x2 x3 x4 x5 x6; replace H := Lib.hid h; clear h)
    | (go_at_call 24; (with_reducible refine (s_new S HSL.out H.out).mono ?_); rintro e_ wn ⟨bi, rfl, h⟩; replace H := Lib.hid h; clear h))
  have hs := H.out.p1.drew
  have HKQ := Lib.hid (show ∀ w' K' L', St W0 w' K' (.raw rb #[.bool nl, .string (bb d), .int .i64 tm, .int .i64 (-1), .int .i64 (-1), .slice none 0 0, .bool false] 66 :: L') → (w'.cell? ⟨rb, 0, none⟩ = some (.bool nl) ∧ w'.cell? ⟨rb, 1, none⟩ = some (.string (bb d)) ∧ w'.cell? ⟨rb, 2, none⟩ = some (.int .i64 tm) ∧ w'.cell? ⟨rb, 3, none⟩ = some (.int .i64 (-1)) ∧ w'.cell? ⟨rb, 4, none⟩ = some (.int .i64 (-1)) ∧ w'.cell? ⟨rb, 5, none⟩ = some (.slice none 0 0) ∧ w'.cell? ⟨rb, 6, none⟩ = some (.bool false)) from fun w' K' L' hs => ⟨hs.rawCell 0, hs.rawCell 1, hs.rawCell 2, hs.rawCell 3, hs.rawCell 4, hs.rawCell 5, hs.rawCell 6⟩)
  refine wp_region_held_drew (S := fun w' => w'.cell? ⟨rb, 0, none⟩ = some (.bool nl) ∧ w'.cell? ⟨rb, 1, none⟩ = some (.string (bb d)) ∧ w'.cell? ⟨rb, 2, none⟩ = some (.int .i64 tm) ∧ w'.cell? ⟨rb, 3, none⟩ = some (.int .i64 (-1)) ∧ w'.cell? ⟨rb, 4, none⟩ = some (.int .i64 (-1)) ∧ w'.cell? ⟨rb, 5, none⟩ = some (.slice none 0 0) ∧ w'.cell? ⟨rb, 6, none⟩ = some (.bool false)) (by kernel_rfl) (HKQ.out _ _ _ hs) (fun hHeld => ?_)
  refine wpAnyH_take (i := 0) (oi := { dst := some 69, op := Op.move (Operand.tmp 9), type := 9, pos := "law.go:89", after := #[], guard := none }) (v := ?_) rfl (by kernel_rfl) (by kernel_rfl) (by kernel_rfl) (fun _ _ _ h => h) (Or.inl ⟨by rfl, ?_⟩) (by assumption) ?_
  rotate_left
  · intro w hSw; (try dsimp only at hSw); go_simp; try with_reducible rfl
  simp only [Act.put, List.setIfInBounds_toArray, List.set_cons_zero, List.set_cons_succ]
  refine wpAnyH_take (i := 1) (oi := { dst := some 70, op := Op.move (Operand.tmp 7), type := 3, pos := "law.go:89", after := #[], guard := none }) (v := ?_) rfl (by kernel_rfl) (by kernel_rfl) (by kernel_rfl) (fun _ _ _ h => h) (Or.inl ⟨by rfl, ?_⟩) (by assumption) ?_
  rotate_left
  · intro w hSw; (try dsimp only at hSw); go_simp; try with_reducible rfl
  simp only [Act.put, List.setIfInBounds_toArray, List.set_cons_zero, List.set_cons_succ]
  refine wpAnyH_take (i := 2) (oi := { dst := some 71, op := Op.move (Operand.tmp 8), type := 3, pos := "law.go:89", after := #[], guard := none }) (v := ?_) rfl (by kernel_rfl) (by kernel_rfl) (by kernel_rfl) (fun _ _ _ h => h) (Or.inl ⟨by rfl, ?_⟩) (by assumption) ?_
  rotate_left
  · intro w hSw; (try dsimp only at hSw); go_simp; try with_reducible rfl
  simp only [Act.put, List.setIfInBounds_toArray, List.set_cons_zero, List.set_cons_succ]
  refine wpAnyH_take (i := 3) (oi := { dst := some 72, op := Op.load 66 (Operand.tmp 5), type := 66, pos := "law.go:89", after := #[], guard := none }) (v := ?_) rfl (by kernel_rfl) (by kernel_rfl) (by kernel_rfl) (fun _ _ _ h => h) (Or.inl ⟨by rfl, ?_⟩) (by assumption) ?_
  rotate_left
  · intro w hSw; (try dsimp only at hSw); go_simp; try with_reducible rfl
  simp only [Act.put, List.setIfInBounds_toArray, List.set_cons_zero, List.set_cons_succ]
  refine wpAnyH_ready (rs := [4]) (by kernel_rfl) (by simp) (AllReadyH.cons (o := { dst := some 73, op := Op.call { callee := Callee.value (Operand.func 41), args := #[Operand.tmp 70, Operand.tmp 71, Operand.tmp 72], argTypes := #[3, 3, 66] }, type := 9, pos := "law.go:89", after := #[{ on := 1, ground := Ground.data }, { on := 2, ground := Ground.data }, { on := 3, ground := Ground.data }], guard := none }) rfl (fun KK hK => ?_) AllReadyH.nil)
  · go_simp
    go_at_call 41
    with_reducible refine (rw22Z0 nl d tm (-1) (-1) S HS.out HIL.out HTM.out HRP.out HRP.out hs).mono ?_
    rintro e wq ⟨rfl, hs⟩
    refine hK.out _ _ (HKQ.out _ _ _ hs) (fun hHeld => ?_)
    clear hK KK
    try simp only [Act.put, List.setIfInBounds_toArray, List.set_cons_zero, List.set_cons_succ]
    refine wpAnyH_take (i := 5) (oi := { dst := some 74, op := Op.binOp BinOp.eql 9 (Operand.tmp 69) (Operand.tmp 73) 9, type := 4, pos := "law.go:89", after := #[{ on := 0, ground := Ground.data }, { on := 4, ground := Ground.data }], guard := none }) (v := ?_) rfl (by kernel_rfl) (by kernel_rfl) (by kernel_rfl) (fun _ _ _ h => h) (Or.inl ⟨by rfl, ?_⟩) (by assumption) ?_
    rotate_left
    · intro w hSw; (try dsimp only at hSw); go_simp; try with_reducible rfl
    simp only [Act.put, List.setIfInBounds_toArray, List.set_cons_zero, List.set_cons_succ]
    refine wpAnyH_take (i := 6) (oi := { dst := some 75, op := Op.move (Operand.tmp 74), type := 4, pos := "law.go:89", after := #[{ on := 5, ground := Ground.data }, { on := 4, ground := Ground.chain }], guard := none }) (v := ?_) rfl (by kernel_rfl) (by kernel_rfl) (by kernel_rfl) (fun _ _ _ h => h) (Or.inl ⟨by rfl, ?_⟩) (by assumption) ?_
    rotate_left
    · intro w hSw; (try dsimp only at hSw); go_simp; try with_reducible rfl
    simp only [Act.put, List.setIfInBounds_toArray, List.set_cons_zero, List.set_cons_succ]
    refine wpAnyH_take (i := 7) (oi := { dst := some 76, op := Op.move (Operand.tmp 7), type := 3, pos := "law.go:89", after := #[{ on := 6, ground := Ground.guard }], guard := some (6, true) }) (v := ?_) rfl (by kernel_rfl) (by kernel_rfl) (by kernel_rfl) (fun _ _ _ h => h) (Or.inl ⟨by rfl, ?_⟩) (by assumption) ?_
    rotate_left
    · intro w hSw; (try dsimp only at hSw); go_simp; try with_reducible rfl
    simp only [Act.put, List.setIfInBounds_toArray, List.set_cons_zero, List.set_cons_succ]
    refine wpAnyH_take (i := 8) (oi := { dst := some 77, op := Op.move (Operand.tmp 8), type := 3, pos := "law.go:89", after := #[{ on := 6, ground := Ground.guard }], guard := some (6, true) }) (v := ?_) rfl (by kernel_rfl) (by kernel_rfl) (by kernel_rfl) (fun _ _ _ h => h) (Or.inl ⟨by rfl, ?_⟩) (by assumption) ?_
    rotate_left
    · intro w hSw; (try dsimp only at hSw); go_simp; try with_reducible rfl
    simp only [Act.put, List.setIfInBounds_toArray, List.set_cons_zero, List.set_cons_succ]
    refine wpAnyH_take (i := 9) (oi := { dst := some 78, op := Op.move (Operand.tmp 13), type := 41, pos := "law.go:89", after := #[{ on := 6, ground := Ground.guard }], guard := some (6, true) }) (v := ?_) rfl (by kernel_rfl) (by kernel_rfl) (by kernel_rfl) (fun _ _ _ h => h) (Or.inl ⟨by rfl, ?_⟩) (by assumption) ?_
    rotate_left
    · intro w hSw; (try dsimp only at hSw); go_simp; try with_reducible rfl
    simp only [Act.put, List.setIfInBounds_toArray, List.set_cons_zero, List.set_cons_succ]
    refine wpAnyH_take (i := 11) (oi := { dst := some 80, op := Op.load 66 (Operand.tmp 5), type := 66, pos := "law.go:89", after := #[{ on := 6, ground := Ground.guard }], guard := some (6, true) }) (v := ?_) rfl (by kernel_rfl) (by kernel_rfl) (by kernel_rfl) (fun _ _ _ h => h) (Or.inl ⟨by rfl, ?_⟩) (by assumption) ?_
    rotate_left
    · intro w hSw; (try dsimp only at hSw); go_simp; try with_reducible rfl
    simp only [Act.put, List.setIfInBounds_toArray, List.set_cons_zero, List.set_cons_succ]
    refine wpAnyH_ready (rs := [10]) (by kernel_rfl) (by simp) (AllReadyH.cons (o := { dst := some 79, op := Op.call { callee := Callee.value (Operand.func 43), args := #[Operand.tmp 76, Operand.tmp 77, Operand.tmp 78], argTypes := #[3, 3, 41] }, type := 66, pos := "law.go:89", after := #[{ on := 7, ground := Ground.data }, { on := 8, ground := Ground.data }, { on := 9, ground := Ground.data }, { on := 6, ground := Ground.chain }, { on := 6, ground := Ground.guard }], guard := some (6, true) }) rfl (fun KK hK => ?_) AllReadyH.nil)
    · go_simp
      go_at_call 43
      with_reducible refine (l18r_220_ok bi _ i1 _ nl d tm B1.out B2.out (err_endT S) HE.out HDL.out hs.p1).mono ?_
      rintro e wq ⟨rfl, hs⟩
      have hs := hs.p1
      refine hK.out _ _ (HKQ.out _ _ _ hs) (fun hHeld => ?_)
      clear hK KK
      try simp only [Act.put, List.setIfInBounds_toArray, List.set_cons_zero, List.set_cons_succ]
      refine wpAnyH_ready (rs := [12]) (by kernel_rfl) (by simp) (AllReadyH.cons (o := { dst := some 81, op := Op.call { callee := Callee.value (Operand.func 42), args := #[Operand.tmp 79, Operand.tmp 80], argTypes := #[66, 66] }, type := 4, pos := "law.go:89", after := #[{ on := 10, ground := Ground.data }, { on := 11, ground := Ground.data }, { on := 10, ground := Ground.chain }, { on := 6, ground := Ground.guard }], guard := some (6, true) }) rfl (fun KK hK => ?_) AllReadyH.nil)
      · go_simp
        go_at_call 42
        with_reducible refine (s22Z nl d tm (-1) (-1) false hs).mono ?_
        rintro e wq ⟨rfl, hs⟩
        refine hK.out _ _ (HKQ.out _ _ _ hs) (fun hHeld => ?_)
        clear hK KK
        try simp only [Act.put, List.setIfInBounds_toArray, List.set_cons_zero, List.set_cons_succ]
        refine wpAnyH_take (i := 13) (oi := { dst := some 82, op := Op.pick (Operand.tmp 75) (Operand.tmp 81) (Operand.const (Value.bool false)), type := 4, pos := "law.go:89", after := #[{ on := 6, ground := Ground.data }, { on := 12, ground := Ground.data }], guard := none }) (v := ?_) rfl (by kernel_rfl) (by kernel_rfl) (by kernel_rfl) (fun _ _ _ h => h) (Or.inl ⟨by rfl, ?_⟩) (by assumption) ?_
        rotate_left
        · intro w hSw; (try dsimp only at hSw); go_simp; try with_reducible rfl
        simp only [Act.put, List.setIfInBounds_toArray, List.set_cons_zero, List.set_cons_succ]
        refine wpAnyH_take (i := 14) (oi := { dst := some 83, op := Op.move (Operand.tmp 82), type := 4, pos := "law.go:89", after := #[{ on := 13, ground := Ground.data }, { on := 12, ground := Ground.chain }], guard := none }) (v := ?_) rfl (by kernel_rfl) (by kernel_rfl) (by kernel_rfl) (fun _ _ _ h => h) (Or.inl ⟨by rfl, ?_⟩) (by assumption) ?_
        rotate_left
        · intro w hSw; (try dsimp only at hSw); go_simp; try with_reducible rfl
        simp only [Act.put, List.setIfInBounds_toArray, List.set_cons_zero, List.set_cons_succ]
        refine wpAnyH_take (i := 15) (oi := { dst := some 84, op := Op.move (Operand.tmp 13), type := 41, pos := "law.go:89", after := #[{ on := 14, ground := Ground.guard }], guard := some (14, true) }) (v := ?_) rfl (by kernel_rfl) (by kernel_rfl) (by kernel_rfl) (fun _ _ _ h => h) (Or.inl ⟨by rfl, ?_⟩) (by assumption) ?_
        rotate_left
        · intro w hSw; (try dsimp only at hSw); go_simp; try with_reducible rfl
        simp only [Act.put, List.setIfInBounds_toArray, List.set_cons_zero, List.set_cons_succ]
        refine wpAnyH_ready (rs := [16]) (by kernel_rfl) (by simp) (AllReadyH.cons (o := { dst := some 85, op := Op.call { callee := Callee.value (Operand.func 34), args := #[Operand.tmp 84], argTypes := #[41] }, type := 27, pos := "law.go:89", after := #[{ on := 15, ground := Ground.data }, { on := 14, ground := Ground.chain }, { on := 14, ground := Ground.guard }], guard := some (14, true) }) rfl (fun KK hK => ?_) AllReadyH.nil)
        · go_simp
          go_at_call 34
          with_reducible refine (s_closeV bi _ 0 HCL.out hs.p1).mono ?_
          rintro e wq ⟨rfl, hs⟩
          have hs := hs.p1
          refine hK.out _ _ (HKQ.out _ _ _ hs) (fun hHeld => ?_)
          clear hK KK
          try simp only [Act.put, List.setIfInBounds_toArray, List.set_cons_zero, List.set_cons_succ]
          refine wpAnyH_take (i := 17) (oi := { dst := some 86, op := Op.binOp BinOp.eql 27 (Operand.tmp 85) (Operand.const (Value.int IntKind.i64 0)) 27, type := 4, pos := "law.go:89", after := #[{ on := 16, ground := Ground.data }, { on := 14, ground := Ground.guard }], guard := some (14, true) }) (v := ?_) rfl (by kernel_rfl) (by kernel_rfl) (by kernel_rfl) (fun _ _ _ h => h) (Or.inl ⟨by rfl, ?_⟩) (by assumption) ?_
          rotate_left
          · intro w hSw; (try dsimp only at hSw); go_simp; try with_reducible rfl
          simp only [Act.put, List.setIfInBounds_toArray, List.set_cons_zero, List.set_cons_succ]
          refine wpAnyH_take (i := 18) (oi := { dst := some 87, op := Op.pick (Operand.tmp 83) (Operand.tmp 86) (Operand.const (Value.bool false)), type := 4, pos := "law.go:89", after := #[{ on := 14, ground := Ground.data }, { on := 17, ground := Ground.data }], guard := none }) (v := ?_) rfl (by kernel_rfl) (by kernel_rfl) (by kernel_rfl) (fun _ _ _ h => h) (Or.inl ⟨by rfl, ?_⟩) (by assumption) ?_
          rotate_left
          · intro w hSw; (try dsimp only at hSw); go_simp; try with_reducible rfl
          simp only [Act.put, List.setIfInBounds_toArray, List.set_cons_zero, List.set_cons_succ]
          refine wpAnyH_take (i := 19) (oi := { dst := some 6, op := Op.assign (Operand.tmp 87), type := 4, pos := "law.go:89", after := #[{ on := 18, ground := Ground.data }, { on := 16, ground := Ground.chain }, { on := 0, ground := Ground.phase }, { on := 1, ground := Ground.phase }, { on := 2, ground := Ground.phase }, { on := 3, ground := Ground.phase }, { on := 4, ground := Ground.phase }, { on := 5, ground := Ground.phase }, { on := 6, ground := Ground.phase }, { on := 7, ground := Ground.phase }, { on := 8, ground := Ground.phase }, { on := 9, ground := Ground.phase }, { on := 10, ground := Ground.phase }, { on := 11, ground := Ground.phase }, { on := 12, ground := Ground.phase }, { on := 13, ground := Ground.phase }, { on := 14, ground := Ground.phase }, { on := 15, ground := Ground.phase }, { on := 16, ground := Ground.phase }, { on := 17, ground := Ground.phase }, { on := 18, ground := Ground.phase }], guard := none }) (v := ?_) rfl (by kernel_rfl) (by kernel_rfl) (by kernel_rfl) (fun _ _ _ h => h) (Or.inl ⟨by rfl, ?_⟩) (by assumption) ?_
          rotate_left
          · intro w hSw; (try dsimp only at hSw); go_simp; try with_reducible rfl
          simp only [Act.put, List.setIfInBounds_toArray, List.set_cons_zero, List.set_cons_succ]
          refine wpAnyH_done (by kernel_rfl) ?_ _
          go_wp2_with fail
          go_ret
          exact ⟨rfl, hs.below⟩

end Go.Proofs.Ytombolmicfjjpaa

/- TxnWrites: Begin, in version 1. -/
namespace Go.Proofs.Ytombolmicfjjpaa
open Go.RowKit

set_option maxHeartbeats 8000000 in
set_option maxRecDepth 100000 in
theorem tww_221 (n m : Int) (nl : Bool) (d : Bs) (tm p e : Int) (l : List (TopS × Value)) (q : Option Addr) (cap : Nat) (c : Bool) (hfi : FewI l) (hm : n.tmod 3 = 0) (hwn : IntKind.u8.wrap n = n) (hv : m.tmod 2 = 1) (hl : d.length ≤ 40000) (hw : few (l.map (·.1)) = 1) (hE : begE 1 nl d tm p e = 0) (hp : p < 9223372036854775808) (S : Bs) (hS : encReq 22 1 nl d tm p e [] false = S)  {W0 w : World} {K : Know} {L : List Res} (hk : K.has (Know.tops (.slice q l.length cap) l)) (h : St W0 w K L) :
    Calls Try.prog 7 #[.int .u8 n, .int .u8 m, .agg #[.bool nl, .string (bb d), .int .i64 tm, .int .i64 p, .int .i64 e, .slice q l.length cap, .bool c]] w fun en w' => en = .returned (.bool true) ∧ Below W0.heap.size W0 w' := by
  obtain ⟨rb, hrb⟩ : ∃ b, w.heap.size = b := ⟨_, rfl⟩
  have h0 := h.allocRaw #[.bool nl, .string (bb d), .int .i64 tm, .int .i64 p, .int .i64 e, .slice q l.length cap, .bool c] 66
  rw [hrb] at h0
  have H := Lib.hid h0
  have HK := Lib.hid hk
  have HM := Lib.hid hm
  have HWn := Lib.hid hwn
  have HNL := Lib.hid hfi.1
  have HNB := Lib.hid (show ∀ x ∈ l, x.1.name.length ≤ 140737488351232 ∧ x.1.parts.length ≤ 17592186043904 from fun x hx => ⟨(hfi.2 x hx).1, (hfi.2 x hx).2.1⟩)
  have hv1 : IntKind.u8.wrap 1 = 1 := by decide
  have hv2 : IntKind.i64.wrap 1 = 1 := by decide
  have hli : ¬ 40000 < (d.length : Int) := by omega
  have HFW := Lib.hid hw
  have HF := Lib.hid (few_T (few_one hw))
  have HDL := Lib.hid (show d.length ≤ 140737488355328 by omega)
  have HE := Lib.hid hE
  have HS := Lib.hid hS
  have HP := Lib.hid hp
  have gS : (S == S) = true := beq_self_eq_true _
  have hok := begE_ok hE
  have hid := idOk_len hok.1
  have HIL := Lib.hid hid.1
  have HTM := Lib.hid (show -9223372036854775808 ≤ tm ∧ tm < 9223372036854775808 by omega)
  have hrg := was_rng hok.2.2
  have HRP := Lib.hid (show -9223372036854775808 ≤ p ∧ p < 9223372036854775808 by omega)
  have HRE := Lib.hid (show -9223372036854775808 ≤ e ∧ e < 9223372036854775808 by omega)
  obtain ⟨i1, i2, i3, b1, b2, b3, b4⟩ := back_221 S nl d tm p e hok.1 hok.2.1 ⟨hrg.1, hp⟩ hrg.2 hS
  have B1 := Lib.hid b1
  have B2 := Lib.hid b2
  have B3 := Lib.hid b3
  have B4 := Lib.hid b4
  have HSL := Lib.hid (show S.length ≤ 140737488355328 by rw [← hS]; have h1 := encReq_len 22 1 nl d tm p e [] false (by decide) HIL.out; omega)
  have HCL := Lib.hid (close_endT S)
  clear h h0 hk hfi hm hwn hl hw hE hp hS hok hid hrg b1 b2 b3 b4
  go_enter Try.func7, Try.ntmps7
  go_upto_region 19 with (first
    | (go_at_call 37; (with_reducible refine (speaks18 H.out).mono ?_); rintro e_ wn ⟨rfl, h⟩; have c0 := h.rawCell 0; have c1 := h.rawCell 1; have c2 := h.rawCell 2; have c3 := h.rawCell 3; have c4 := h.rawCell 4; have c5 := h.rawCell 5; have c6 := h.rawCell 6; simp at c0 c1 c2 c3 c4 c5 c6; replace H := Lib.hid h; clear h)
    | (go_at_call 38; (with_reducible refine (law18_kinds0 n HM.out HWn.out H.out).mono ?_); rintro e_ wn ⟨rfl, h⟩; have c0 := h.rawCell 0; have c1 := h.rawCell 1; have c2 := h.rawCell 2; have c3 := h.rawCell 3; have c4 := h.rawCell 4; have c5 := h.rawCell 5; have c6 := h.rawCell 6; simp at c0 c1 c2 c3 c4 c5 c6; replace H := Lib.hid h; clear h)
    | (go_at_call 14; (with_reducible refine (law14_few l q cap HNL.out HNB.out 1 HFW.out HK.out H.out).mono ?_); rintro e_ wn ⟨rfl, h⟩; have c0 := h.rawCell 0; have c1 := h.rawCell 1; have c2 := h.rawCell 2; have c3 := h.rawCell 3; have c4 := h.rawCell 4; have c5 := h.rawCell 5; have c6 := h.rawCell 6; simp at c0 c1 c2 c3 c4 c5 c6; have f5 := h.rawFree 5; have f6 := h.rawFree 6; have h := (show St W0 ((wn.setCell ⟨rb, 5, none⟩ (.slice none 0 0)).setCell ⟨rb, 6, none⟩ (.bool false)) K (.raw rb #[.bool nl, .string (bb d), .int .i64 tm, .int .i64 p, .int .i64 e, .slice none 0 0, .bool false] 66 :: L) from ((h.rawSet 5 (.slice none 0 0)).rawSet 6 (.bool false))); have x0 := h.rawCell 0; have x1 := h.rawCell 1; have x2 := h.rawCell 2; have x3 := h.rawCell 3; have x4 := h.rawCell 4; have x5 := h.rawCell 5; have x6 := h.rawCell 6; simp at x0 x1 x2 x3 x4 x5 x6; replace H := Lib.hid h; clear h)
    | (go_at_call 39; (with_reducible refine (w22Z1 nl d tm p e S HS.out HE.out HP.out H.out).mono ?_); rintro e_ wn ⟨rfl, h⟩; have x0 := h.rawCell 0; have x1 := h.rawCell 1; have x2 := h.rawCell 2; have x3 := h.rawCell 3; have x4 := h.rawCell 4; have x5 := h.rawCell 5; have x6 := h.rawCell 6; simp at x0 x1 x2 x3 x4 x5 x6; replace H := Lib.hid h; clear h)
    | (go_at_call 40; (with_reducible refine (c22Z 1 nl d tm p e 0 HE.out H.out).mono ?_); rintro e_ wn ⟨rfl, h⟩; have x0 := h.rawCell 0; have x1 := h.rawCell 1; have x2 := h.rawCell 2; have x3 := h.rawCell 3; have x4 := h.rawCell 4; have x5 := h.rawCell 5; have x6 := h.rawCell 6; simp at x0 x1 x2 x3 x4 x5 x6; replace H := Lib.hid h; clear h)
    | (go_at_call 24; (with_reducible refine (s_new S HSL.out H.out).mono ?_); rintro e_ wn ⟨bi, rfl, h⟩; replace H := Lib.hid h; clear h))
  have hs := H.out.p1.drew
  have HKQ := Lib.hid (show ∀ w' K' L', St W0 w' K' (.raw rb #[.bool nl, .string (bb d), .int .i64 tm, .int .i64 p, .int .i64 e, .slice none 0 0, .bool false] 66 :: L') → (w'.cell? ⟨rb, 0, none⟩ = some (.bool nl) ∧ w'.cell? ⟨rb, 1, none⟩ = some (.string (bb d)) ∧ w'.cell? ⟨rb, 2, none⟩ = some (.int .i64 tm) ∧ w'.cell? ⟨rb, 3, none⟩ = some (.int .i64 p) ∧ w'.cell? ⟨rb, 4, none⟩ = some (.int .i64 e) ∧ w'.cell? ⟨rb, 5, none⟩ = some (.slice none 0 0) ∧ w'.cell? ⟨rb, 6, none⟩ = some (.bool false)) from fun w' K' L' hs => ⟨hs.rawCell 0, hs.rawCell 1, hs.rawCell 2, hs.rawCell 3, hs.rawCell 4, hs.rawCell 5, hs.rawCell 6⟩)
  refine wp_region_held_drew (S := fun w' => w'.cell? ⟨rb, 0, none⟩ = some (.bool nl) ∧ w'.cell? ⟨rb, 1, none⟩ = some (.string (bb d)) ∧ w'.cell? ⟨rb, 2, none⟩ = some (.int .i64 tm) ∧ w'.cell? ⟨rb, 3, none⟩ = some (.int .i64 p) ∧ w'.cell? ⟨rb, 4, none⟩ = some (.int .i64 e) ∧ w'.cell? ⟨rb, 5, none⟩ = some (.slice none 0 0) ∧ w'.cell? ⟨rb, 6, none⟩ = some (.bool false)) (by kernel_rfl) (HKQ.out _ _ _ hs) (fun hHeld => ?_)
  refine wpAnyH_take (i := 0) (oi := { dst := some 69, op := Op.move (Operand.tmp 9), type := 9, pos := "law.go:89", after := #[], guard := none }) (v := ?_) rfl (by kernel_rfl) (by kernel_rfl) (by kernel_rfl) (fun _ _ _ h => h) (Or.inl ⟨by rfl, ?_⟩) (by assumption) ?_
  rotate_left
  · intro w hSw; (try dsimp only at hSw); go_simp; try with_reducible rfl
  simp only [Act.put, List.setIfInBounds_toArray, List.set_cons_zero, List.set_cons_succ]
  refine wpAnyH_take (i := 1) (oi := { dst := some 70, op := Op.move (Operand.tmp 7), type := 3, pos := "law.go:89", after := #[], guard := none }) (v := ?_) rfl (by kernel_rfl) (by kernel_rfl) (by kernel_rfl) (fun _ _ _ h => h) (Or.inl ⟨by rfl, ?_⟩) (by assumption) ?_
  rotate_left
  · intro w hSw; (try dsimp only at hSw); go_simp; try with_reducible rfl
  simp only [Act.put, List.setIfInBounds_toArray, List.set_cons_zero, List.set_cons_succ]
  refine wpAnyH_take (i := 2) (oi := { dst := some 71, op := Op.move (Operand.tmp 8), type := 3, pos := "law.go:89", after := #[], guard := none }) (v := ?_) rfl (by kernel_rfl) (by kernel_rfl) (by kernel_rfl) (fun _ _ _ h => h) (Or.inl ⟨by rfl, ?_⟩) (by assumption) ?_
  rotate_left
  · intro w hSw; (try dsimp only at hSw); go_simp; try with_reducible rfl
  simp only [Act.put, List.setIfInBounds_toArray, List.set_cons_zero, List.set_cons_succ]
  refine wpAnyH_take (i := 3) (oi := { dst := some 72, op := Op.load 66 (Operand.tmp 5), type := 66, pos := "law.go:89", after := #[], guard := none }) (v := ?_) rfl (by kernel_rfl) (by kernel_rfl) (by kernel_rfl) (fun _ _ _ h => h) (Or.inl ⟨by rfl, ?_⟩) (by assumption) ?_
  rotate_left
  · intro w hSw; (try dsimp only at hSw); go_simp; try with_reducible rfl
  simp only [Act.put, List.setIfInBounds_toArray, List.set_cons_zero, List.set_cons_succ]
  refine wpAnyH_ready (rs := [4]) (by kernel_rfl) (by simp) (AllReadyH.cons (o := { dst := some 73, op := Op.call { callee := Callee.value (Operand.func 41), args := #[Operand.tmp 70, Operand.tmp 71, Operand.tmp 72], argTypes := #[3, 3, 66] }, type := 9, pos := "law.go:89", after := #[{ on := 1, ground := Ground.data }, { on := 2, ground := Ground.data }, { on := 3, ground := Ground.data }], guard := none }) rfl (fun KK hK => ?_) AllReadyH.nil)
  · go_simp
    go_at_call 41
    with_reducible refine (rw22Z1 nl d tm p e S HS.out HIL.out HTM.out HRP.out HRE.out hs).mono ?_
    rintro e wq ⟨rfl, hs⟩
    refine hK.out _ _ (HKQ.out _ _ _ hs) (fun hHeld => ?_)
    clear hK KK
    try simp only [Act.put, List.setIfInBounds_toArray, List.set_cons_zero, List.set_cons_succ]
    refine wpAnyH_take (i := 5) (oi := { dst := some 74, op := Op.binOp BinOp.eql 9 (Operand.tmp 69) (Operand.tmp 73) 9, type := 4, pos := "law.go:89", after := #[{ on := 0, ground := Ground.data }, { on := 4, ground := Ground.data }], guard := none }) (v := ?_) rfl (by kernel_rfl) (by kernel_rfl) (by kernel_rfl) (fun _ _ _ h => h) (Or.inl ⟨by rfl, ?_⟩) (by assumption) ?_
    rotate_left
    · intro w hSw; (try dsimp only at hSw); go_simp; try with_reducible rfl
    simp only [Act.put, List.setIfInBounds_toArray, List.set_cons_zero, List.set_cons_succ]
    refine wpAnyH_take (i := 6) (oi := { dst := some 75, op := Op.move (Operand.tmp 74), type := 4, pos := "law.go:89", after := #[{ on := 5, ground := Ground.data }, { on := 4, ground := Ground.chain }], guard := none }) (v := ?_) rfl (by kernel_rfl) (by kernel_rfl) (by kernel_rfl) (fun _ _ _ h => h) (Or.inl ⟨by rfl, ?_⟩) (by assumption) ?_
    rotate_left
    · intro w hSw; (try dsimp only at hSw); go_simp; try with_reducible rfl
    simp only [Act.put, List.setIfInBounds_toArray, List.set_cons_zero, List.set_cons_succ]
    refine wpAnyH_take (i := 7) (oi := { dst := some 76, op := Op.move (Operand.tmp 7), type := 3, pos := "law.go:89", after := #[{ on := 6, ground := Ground.guard }], guard := some (6, true) }) (v := ?_) rfl (by kernel_rfl) (by kernel_rfl) (by kernel_rfl) (fun _ _ _ h => h) (Or.inl ⟨by rfl, ?_⟩) (by assumption) ?_
    rotate_left
    · intro w hSw; (try dsimp only at hSw); go_simp; try with_reducible rfl
    simp only [Act.put, List.setIfInBounds_toArray, List.set_cons_zero, List.set_cons_succ]
    refine wpAnyH_take (i := 8) (oi := { dst := some 77, op := Op.move (Operand.tmp 8), type := 3, pos := "law.go:89", after := #[{ on := 6, ground := Ground.guard }], guard := some (6, true) }) (v := ?_) rfl (by kernel_rfl) (by kernel_rfl) (by kernel_rfl) (fun _ _ _ h => h) (Or.inl ⟨by rfl, ?_⟩) (by assumption) ?_
    rotate_left
    · intro w hSw; (try dsimp only at hSw); go_simp; try with_reducible rfl
    simp only [Act.put, List.setIfInBounds_toArray, List.set_cons_zero, List.set_cons_succ]
    refine wpAnyH_take (i := 9) (oi := { dst := some 78, op := Op.move (Operand.tmp 13), type := 41, pos := "law.go:89", after := #[{ on := 6, ground := Ground.guard }], guard := some (6, true) }) (v := ?_) rfl (by kernel_rfl) (by kernel_rfl) (by kernel_rfl) (fun _ _ _ h => h) (Or.inl ⟨by rfl, ?_⟩) (by assumption) ?_
    rotate_left
    · intro w hSw; (try dsimp only at hSw); go_simp; try with_reducible rfl
    simp only [Act.put, List.setIfInBounds_toArray, List.set_cons_zero, List.set_cons_succ]
    refine wpAnyH_take (i := 11) (oi := { dst := some 80, op := Op.load 66 (Operand.tmp 5), type := 66, pos := "law.go:89", after := #[{ on := 6, ground := Ground.guard }], guard := some (6, true) }) (v := ?_) rfl (by kernel_rfl) (by kernel_rfl) (by kernel_rfl) (fun _ _ _ h => h) (Or.inl ⟨by rfl, ?_⟩) (by assumption) ?_
    rotate_left
    · intro w hSw; (try dsimp only at hSw); go_simp; try with_reducible rfl
    simp only [Act.put, List.setIfInBounds_toArray, List.set_cons_zero, List.set_cons_succ]
    refine wpAnyH_ready (rs := [10]) (by kernel_rfl) (by simp) (AllReadyH.cons (o := { dst := some 79, op := Op.call { callee := Callee.value (Operand.func 43), args := #[Operand.tmp 76, Operand.tmp 77, Operand.tmp 78], argTypes := #[3, 3, 41] }, type := 66, pos := "law.go:89", after := #[{ on := 7, ground := Ground.data }, { on := 8, ground := Ground.data }, { on := 9, ground := Ground.data }, { on := 6, ground := Ground.chain }, { on := 6, ground := Ground.guard }], guard := some (6, true) }) rfl (fun KK hK => ?_) AllReadyH.nil)
    · go_simp
      go_at_call 43
      with_reducible refine (l18r_221_ok bi _ i1 i2 i3 _ nl d tm p e B1.out B2.out B3.out B4.out (err_endT S) HE.out HDL.out hs.p1).mono ?_
      rintro e wq ⟨rfl, hs⟩
      have hs := hs.p1
      refine hK.out _ _ (HKQ.out _ _ _ hs) (fun hHeld => ?_)
      clear hK KK
      try simp only [Act.put, List.setIfInBounds_toArray, List.set_cons_zero, List.set_cons_succ]
      refine wpAnyH_ready (rs := [12]) (by kernel_rfl) (by simp) (AllReadyH.cons (o := { dst := some 81, op := Op.call { callee := Callee.value (Operand.func 42), args := #[Operand.tmp 79, Operand.tmp 80], argTypes := #[66, 66] }, type := 4, pos := "law.go:89", after := #[{ on := 10, ground := Ground.data }, { on := 11, ground := Ground.data }, { on := 10, ground := Ground.chain }, { on := 6, ground := Ground.guard }], guard := some (6, true) }) rfl (fun KK hK => ?_) AllReadyH.nil)
      · go_simp
        go_at_call 42
        with_reducible refine (s22Z nl d tm p e false hs).mono ?_
        rintro e wq ⟨rfl, hs⟩
        refine hK.out _ _ (HKQ.out _ _ _ hs) (fun hHeld => ?_)
        clear hK KK
        try simp only [Act.put, List.setIfInBounds_toArray, List.set_cons_zero, List.set_cons_succ]
        refine wpAnyH_take (i := 13) (oi := { dst := some 82, op := Op.pick (Operand.tmp 75) (Operand.tmp 81) (Operand.const (Value.bool false)), type := 4, pos := "law.go:89", after := #[{ on := 6, ground := Ground.data }, { on := 12, ground := Ground.data }], guard := none }) (v := ?_) rfl (by kernel_rfl) (by kernel_rfl) (by kernel_rfl) (fun _ _ _ h => h) (Or.inl ⟨by rfl, ?_⟩) (by assumption) ?_
        rotate_left
        · intro w hSw; (try dsimp only at hSw); go_simp; try with_reducible rfl
        simp only [Act.put, List.setIfInBounds_toArray, List.set_cons_zero, List.set_cons_succ]
        refine wpAnyH_take (i := 14) (oi := { dst := some 83, op := Op.move (Operand.tmp 82), type := 4, pos := "law.go:89", after := #[{ on := 13, ground := Ground.data }, { on := 12, ground := Ground.chain }], guard := none }) (v := ?_) rfl (by kernel_rfl) (by kernel_rfl) (by kernel_rfl) (fun _ _ _ h => h) (Or.inl ⟨by rfl, ?_⟩) (by assumption) ?_
        rotate_left
        · intro w hSw; (try dsimp only at hSw); go_simp; try with_reducible rfl
        simp only [Act.put, List.setIfInBounds_toArray, List.set_cons_zero, List.set_cons_succ]
        refine wpAnyH_take (i := 15) (oi := { dst := some 84, op := Op.move (Operand.tmp 13), type := 41, pos := "law.go:89", after := #[{ on := 14, ground := Ground.guard }], guard := some (14, true) }) (v := ?_) rfl (by kernel_rfl) (by kernel_rfl) (by kernel_rfl) (fun _ _ _ h => h) (Or.inl ⟨by rfl, ?_⟩) (by assumption) ?_
        rotate_left
        · intro w hSw; (try dsimp only at hSw); go_simp; try with_reducible rfl
        simp only [Act.put, List.setIfInBounds_toArray, List.set_cons_zero, List.set_cons_succ]
        refine wpAnyH_ready (rs := [16]) (by kernel_rfl) (by simp) (AllReadyH.cons (o := { dst := some 85, op := Op.call { callee := Callee.value (Operand.func 34), args := #[Operand.tmp 84], argTypes := #[41] }, type := 27, pos := "law.go:89", after := #[{ on := 15, ground := Ground.data }, { on := 14, ground := Ground.chain }, { on := 14, ground := Ground.guard }], guard := some (14, true) }) rfl (fun KK hK => ?_) AllReadyH.nil)
        · go_simp
          go_at_call 34
          with_reducible refine (s_closeV bi _ 0 HCL.out hs.p1).mono ?_
          rintro e wq ⟨rfl, hs⟩
          have hs := hs.p1
          refine hK.out _ _ (HKQ.out _ _ _ hs) (fun hHeld => ?_)
          clear hK KK
          try simp only [Act.put, List.setIfInBounds_toArray, List.set_cons_zero, List.set_cons_succ]
          refine wpAnyH_take (i := 17) (oi := { dst := some 86, op := Op.binOp BinOp.eql 27 (Operand.tmp 85) (Operand.const (Value.int IntKind.i64 0)) 27, type := 4, pos := "law.go:89", after := #[{ on := 16, ground := Ground.data }, { on := 14, ground := Ground.guard }], guard := some (14, true) }) (v := ?_) rfl (by kernel_rfl) (by kernel_rfl) (by kernel_rfl) (fun _ _ _ h => h) (Or.inl ⟨by rfl, ?_⟩) (by assumption) ?_
          rotate_left
          · intro w hSw; (try dsimp only at hSw); go_simp; try with_reducible rfl
          simp only [Act.put, List.setIfInBounds_toArray, List.set_cons_zero, List.set_cons_succ]
          refine wpAnyH_take (i := 18) (oi := { dst := some 87, op := Op.pick (Operand.tmp 83) (Operand.tmp 86) (Operand.const (Value.bool false)), type := 4, pos := "law.go:89", after := #[{ on := 14, ground := Ground.data }, { on := 17, ground := Ground.data }], guard := none }) (v := ?_) rfl (by kernel_rfl) (by kernel_rfl) (by kernel_rfl) (fun _ _ _ h => h) (Or.inl ⟨by rfl, ?_⟩) (by assumption) ?_
          rotate_left
          · intro w hSw; (try dsimp only at hSw); go_simp; try with_reducible rfl
          simp only [Act.put, List.setIfInBounds_toArray, List.set_cons_zero, List.set_cons_succ]
          refine wpAnyH_take (i := 19) (oi := { dst := some 6, op := Op.assign (Operand.tmp 87), type := 4, pos := "law.go:89", after := #[{ on := 18, ground := Ground.data }, { on := 16, ground := Ground.chain }, { on := 0, ground := Ground.phase }, { on := 1, ground := Ground.phase }, { on := 2, ground := Ground.phase }, { on := 3, ground := Ground.phase }, { on := 4, ground := Ground.phase }, { on := 5, ground := Ground.phase }, { on := 6, ground := Ground.phase }, { on := 7, ground := Ground.phase }, { on := 8, ground := Ground.phase }, { on := 9, ground := Ground.phase }, { on := 10, ground := Ground.phase }, { on := 11, ground := Ground.phase }, { on := 12, ground := Ground.phase }, { on := 13, ground := Ground.phase }, { on := 14, ground := Ground.phase }, { on := 15, ground := Ground.phase }, { on := 16, ground := Ground.phase }, { on := 17, ground := Ground.phase }, { on := 18, ground := Ground.phase }], guard := none }) (v := ?_) rfl (by kernel_rfl) (by kernel_rfl) (by kernel_rfl) (fun _ _ _ h => h) (Or.inl ⟨by rfl, ?_⟩) (by assumption) ?_
          rotate_left
          · intro w hSw; (try dsimp only at hSw); go_simp; try with_reducible rfl
          simp only [Act.put, List.setIfInBounds_toArray, List.set_cons_zero, List.set_cons_succ]
          refine wpAnyH_done (by kernel_rfl) ?_ _
          go_wp2_with fail
          go_ret
          exact ⟨rfl, hs.below⟩

end Go.Proofs.Ytombolmicfjjpaa

/- TxnWrites: Add. -/
namespace Go.Proofs.Ytombolmicfjjpaa
open Go.RowKit

set_option maxHeartbeats 8000000 in
set_option maxRecDepth 100000 in
theorem tww_24 (n m : Int) (nl : Bool) (d : Bs) (tm p e : Int) (l : List (TopS × Value)) (q : Option Addr) (cap : Nat) (c : Bool) (hfi : FewI l) (v : Int) (hm : n.tmod 3 = 1) (hwn : IntKind.u8.wrap n = n) (hv : m.tmod 2 = v) (hv01 : v = 0 ∨ v = 1) (hl : d.length ≤ 40000) (hw : few (l.map (·.1)) = 1) (hE : addE d p e (l.map (·.1)) = 0) (hp : p < 9223372036854775808) (S : Bs) (hS : encReq 24 v false d 0 p e (l.map (·.1)) false = S)  {W0 w : World} {K : Know} {L : List Res} (hk : K.has (Know.tops (.slice q l.length cap) l)) (h : St W0 w K L) :
    Calls Try.prog 7 #[.int .u8 n, .int .u8 m, .agg #[.bool nl, .string (bb d), .int .i64 tm, .int .i64 p, .int .i64 e, .slice q l.length cap, .bool c]] w fun en w' => en = .returned (.bool true) ∧ Below W0.heap.size W0 w' := by
  obtain ⟨rb, hrb⟩ : ∃ b, w.heap.size = b := ⟨_, rfl⟩
  have h0 := h.allocRaw #[.bool nl, .string (bb d), .int .i64 tm, .int .i64 p, .int .i64 e, .slice q l.length cap, .bool c] 66
  rw [hrb] at h0
  have H := Lib.hid h0
  have HK := Lib.hid hk
  have HM := Lib.hid hm
  have HWn := Lib.hid hwn
  have HNL := Lib.hid hfi.1
  have HNB := Lib.hid (show ∀ x ∈ l, x.1.name.length ≤ 140737488351232 ∧ x.1.parts.length ≤ 17592186043904 from fun x hx => ⟨(hfi.2 x hx).1, (hfi.2 x hx).2.1⟩)
  have hv1 : IntKind.u8.wrap v = v := by rcases hv01 with rfl | rfl <;> decide
  have hv2 : IntKind.i64.wrap v = v := by rcases hv01 with rfl | rfl <;> decide
  have hli : ¬ 40000 < (d.length : Int) := by omega
  have HFW := Lib.hid hw
  have HF := Lib.hid (few_T (few_one hw))
  have HDL := Lib.hid (show d.length ≤ 140737488355328 by omega)
  have HE := Lib.hid hE
  have HS := Lib.hid hS
  have HP := Lib.hid hp
  have gS : (S == S) = true := beq_self_eq_true _
  have hcw := (chkW_ok (addE_ok hE).1)
  have hwt := who_t hcw.2
  have hil := ((keyRight_iff d).1 hcw.1).2
  have HIL := Lib.hid hil
  have HRP := Lib.hid (show -9223372036854775808 ≤ p ∧ p < 9223372036854775808 by omega)
  have HRE := Lib.hid (show -9223372036854775808 ≤ e ∧ e < 9223372036854775808 by omega)
  have HTM := Lib.hid (show -9223372036854775808 ≤ (0 : Int) ∧ (0 : Int) < 9223372036854775808 by decide)
  have hfit := fit_of_rise l HF.out (riseE_ok (addE_ok hE).2)
  have HFIT := Lib.hid hfit
  have HEc := Lib.hid (show reqE 24 v false d 0 p e (l.map (·.1)) = 0 from hE)
  have HLL := Lib.hid (lenT_of HF.out)
  have HFLL := Lib.hid (fewL_map HF.out)
  obtain ⟨i1, i2, i3, b1, b2, b3, b4⟩ := back_24 S v d p e _ hil ⟨hwt.1, hp⟩ hwt.2 hfit hS
  have B1 := Lib.hid b1
  have B2 := Lib.hid b2
  have B3 := Lib.hid b3
  have B4 := Lib.hid b4
  have HSL := Lib.hid (show S.length ≤ 140737488355328 by rw [← hS]; have h1 := encReq_len 24 v false d 0 p e _ false (few_one hw) HIL.out; omega)
  have HCL := Lib.hid (close_endT S)
  clear h h0 hk hfi hm hwn hl hw hE hp hS hcw hwt hil b1 b2 b3 b4 hfit
  go_enter Try.func7, Try.ntmps7
  go_upto_region 19 with (first
    | (go_at_call 37; (with_reducible refine (speaks18 H.out).mono ?_); rintro e_ wn ⟨rfl, h⟩; have c0 := h.rawCell 0; have c1 := h.rawCell 1; have c2 := h.rawCell 2; have c3 := h.rawCell 3; have c4 := h.rawCell 4; have c5 := h.rawCell 5; have c6 := h.rawCell 6; simp at c0 c1 c2 c3 c4 c5 c6; replace H := Lib.hid h; clear h)
    | (go_at_call 38; (with_reducible refine (law18_kinds1 n HM.out HWn.out H.out).mono ?_); rintro e_ wn ⟨rfl, h⟩; have c0 := h.rawCell 0; have c1 := h.rawCell 1; have c2 := h.rawCell 2; have c3 := h.rawCell 3; have c4 := h.rawCell 4; have c5 := h.rawCell 5; have c6 := h.rawCell 6; simp at c0 c1 c2 c3 c4 c5 c6; replace H := Lib.hid h; clear h)
    | (go_at_call 14; (with_reducible refine (law14_few l q cap HNL.out HNB.out 1 HFW.out HK.out H.out).mono ?_); rintro e_ wn ⟨rfl, h⟩; have c0 := h.rawCell 0; have c1 := h.rawCell 1; have c2 := h.rawCell 2; have c3 := h.rawCell 3; have c4 := h.rawCell 4; have c5 := h.rawCell 5; have c6 := h.rawCell 6; simp at c0 c1 c2 c3 c4 c5 c6; have f0 := h.rawFree 0; have f2 := h.rawFree 2; have f6 := h.rawFree 6; have h := (show St W0 (((wn.setCell ⟨rb, 0, none⟩ (.bool false)).setCell ⟨rb, 2, none⟩ (.int .i64 0)).setCell ⟨rb, 6, none⟩ (.bool false)) K (.raw rb #[.bool false, .string (bb d), .int .i64 0, .int .i64 p, .int .i64 e, .slice q l.length cap, .bool false] 66 :: L) from (((h.rawSet 0 (.bool false)).rawSet 2 (.int .i64 0)).rawSet 6 (.bool false))); have x0 := h.rawCell 0; have x1 := h.rawCell 1; have x2 := h.rawCell 2; have x3 := h.rawCell 3; have x4 := h.rawCell 4; have x5 := h.rawCell 5; have x6 := h.rawCell 6; simp at x0 x1 x2 x3 x4 x5 x6; replace H := Lib.hid h; clear h)
    | (go_at_call 39; (with_reducible refine (w24Z v d p e l q cap S HS.out HE.out HP.out HF.out HFIT.out HK.out H.out).mono ?_); rintro e_ wn ⟨rfl, h⟩; have x0 := h.rawCell 0; have x1 := h.rawCell 1; have x2 := h.rawCell 2; have x3 := h.rawCell 3; have x4 := h.rawCell 4; have x5 := h.rawCell 5; have x6 := h.rawCell 6; simp at x0 x1 x2 x3 x4 x5 x6; replace H := Lib.hid h; clear h)
    | (go_at_call 40; (with_reducible refine (ref18_check24 v false d 0 p e l q cap false 0 HEc.out HF.out HK.out H.out).mono ?_); rintro e_ wn ⟨rfl, h⟩; have x0 := h.rawCell 0; have x1 := h.rawCell 1; have x2 := h.rawCell 2; have x3 := h.rawCell 3; have x4 := h.rawCell 4; have x5 := h.rawCell 5; have x6 := h.rawCell 6; simp at x0 x1 x2 x3 x4 x5 x6; replace H := Lib.hid h; clear h)
    | (go_at_call 24; (with_reducible refine (s_new S HSL.out H.out).mono ?_); rintro e_ wn ⟨bi, rfl, h⟩; replace H := Lib.hid h; clear h))
  have hs := H.out.p1.drew
  have HKQ := Lib.hid (show ∀ w' K' L', St W0 w' K' (.raw rb #[.bool false, .string (bb d), .int .i64 0, .int .i64 p, .int .i64 e, .slice q l.length cap, .bool false] 66 :: L') → (w'.cell? ⟨rb, 0, none⟩ = some (.bool false) ∧ w'.cell? ⟨rb, 1, none⟩ = some (.string (bb d)) ∧ w'.cell? ⟨rb, 2, none⟩ = some (.int .i64 0) ∧ w'.cell? ⟨rb, 3, none⟩ = some (.int .i64 p) ∧ w'.cell? ⟨rb, 4, none⟩ = some (.int .i64 e) ∧ w'.cell? ⟨rb, 5, none⟩ = some (.slice q l.length cap) ∧ w'.cell? ⟨rb, 6, none⟩ = some (.bool false)) from fun w' K' L' hs => ⟨hs.rawCell 0, hs.rawCell 1, hs.rawCell 2, hs.rawCell 3, hs.rawCell 4, hs.rawCell 5, hs.rawCell 6⟩)
  refine wp_region_held_drew (S := fun w' => w'.cell? ⟨rb, 0, none⟩ = some (.bool false) ∧ w'.cell? ⟨rb, 1, none⟩ = some (.string (bb d)) ∧ w'.cell? ⟨rb, 2, none⟩ = some (.int .i64 0) ∧ w'.cell? ⟨rb, 3, none⟩ = some (.int .i64 p) ∧ w'.cell? ⟨rb, 4, none⟩ = some (.int .i64 e) ∧ w'.cell? ⟨rb, 5, none⟩ = some (.slice q l.length cap) ∧ w'.cell? ⟨rb, 6, none⟩ = some (.bool false)) (by kernel_rfl) (HKQ.out _ _ _ hs) (fun hHeld => ?_)
  refine wpAnyH_take (i := 0) (oi := { dst := some 69, op := Op.move (Operand.tmp 9), type := 9, pos := "law.go:89", after := #[], guard := none }) (v := ?_) rfl (by kernel_rfl) (by kernel_rfl) (by kernel_rfl) (fun _ _ _ h => h) (Or.inl ⟨by rfl, ?_⟩) (by assumption) ?_
  rotate_left
  · intro w hSw; (try dsimp only at hSw); go_simp; try with_reducible rfl
  simp only [Act.put, List.setIfInBounds_toArray, List.set_cons_zero, List.set_cons_succ]
  refine wpAnyH_take (i := 1) (oi := { dst := some 70, op := Op.move (Operand.tmp 7), type := 3, pos := "law.go:89", after := #[], guard := none }) (v := ?_) rfl (by kernel_rfl) (by kernel_rfl) (by kernel_rfl) (fun _ _ _ h => h) (Or.inl ⟨by rfl, ?_⟩) (by assumption) ?_
  rotate_left
  · intro w hSw; (try dsimp only at hSw); go_simp; try with_reducible rfl
  simp only [Act.put, List.setIfInBounds_toArray, List.set_cons_zero, List.set_cons_succ]
  refine wpAnyH_take (i := 2) (oi := { dst := some 71, op := Op.move (Operand.tmp 8), type := 3, pos := "law.go:89", after := #[], guard := none }) (v := ?_) rfl (by kernel_rfl) (by kernel_rfl) (by kernel_rfl) (fun _ _ _ h => h) (Or.inl ⟨by rfl, ?_⟩) (by assumption) ?_
  rotate_left
  · intro w hSw; (try dsimp only at hSw); go_simp; try with_reducible rfl
  simp only [Act.put, List.setIfInBounds_toArray, List.set_cons_zero, List.set_cons_succ]
  refine wpAnyH_take (i := 3) (oi := { dst := some 72, op := Op.load 66 (Operand.tmp 5), type := 66, pos := "law.go:89", after := #[], guard := none }) (v := ?_) rfl (by kernel_rfl) (by kernel_rfl) (by kernel_rfl) (fun _ _ _ h => h) (Or.inl ⟨by rfl, ?_⟩) (by assumption) ?_
  rotate_left
  · intro w hSw; (try dsimp only at hSw); go_simp; try with_reducible rfl
  simp only [Act.put, List.setIfInBounds_toArray, List.set_cons_zero, List.set_cons_succ]
  refine wpAnyH_ready (rs := [4]) (by kernel_rfl) (by simp) (AllReadyH.cons (o := { dst := some 73, op := Op.call { callee := Callee.value (Operand.func 41), args := #[Operand.tmp 70, Operand.tmp 71, Operand.tmp 72], argTypes := #[3, 3, 66] }, type := 9, pos := "law.go:89", after := #[{ on := 1, ground := Ground.data }, { on := 2, ground := Ground.data }, { on := 3, ground := Ground.data }], guard := none }) rfl (fun KK hK => ?_) AllReadyH.nil)
  · go_simp
    go_at_call 41
    with_reducible refine (ref18_write24 v false d 0 p e l q cap false S HS.out HIL.out HTM.out HRP.out HRE.out HFIT.out HK.out hs).mono ?_
    rintro e wq ⟨rfl, hs⟩
    refine hK.out _ _ (HKQ.out _ _ _ hs) (fun hHeld => ?_)
    clear hK KK
    try simp only [Act.put, List.setIfInBounds_toArray, List.set_cons_zero, List.set_cons_succ]
    refine wpAnyH_take (i := 5) (oi := { dst := some 74, op := Op.binOp BinOp.eql 9 (Operand.tmp 69) (Operand.tmp 73) 9, type := 4, pos := "law.go:89", after := #[{ on := 0, ground := Ground.data }, { on := 4, ground := Ground.data }], guard := none }) (v := ?_) rfl (by kernel_rfl) (by kernel_rfl) (by kernel_rfl) (fun _ _ _ h => h) (Or.inl ⟨by rfl, ?_⟩) (by assumption) ?_
    rotate_left
    · intro w hSw; (try dsimp only at hSw); go_simp; try with_reducible rfl
    simp only [Act.put, List.setIfInBounds_toArray, List.set_cons_zero, List.set_cons_succ]
    refine wpAnyH_take (i := 6) (oi := { dst := some 75, op := Op.move (Operand.tmp 74), type := 4, pos := "law.go:89", after := #[{ on := 5, ground := Ground.data }, { on := 4, ground := Ground.chain }], guard := none }) (v := ?_) rfl (by kernel_rfl) (by kernel_rfl) (by kernel_rfl) (fun _ _ _ h => h) (Or.inl ⟨by rfl, ?_⟩) (by assumption) ?_
    rotate_left
    · intro w hSw; (try dsimp only at hSw); go_simp; try with_reducible rfl
    simp only [Act.put, List.setIfInBounds_toArray, List.set_cons_zero, List.set_cons_succ]
    refine wpAnyH_take (i := 7) (oi := { dst := some 76, op := Op.move (Operand.tmp 7), type := 3, pos := "law.go:89", after := #[{ on := 6, ground := Ground.guard }], guard := some (6, true) }) (v := ?_) rfl (by kernel_rfl) (by kernel_rfl) (by kernel_rfl) (fun _ _ _ h => h) (Or.inl ⟨by rfl, ?_⟩) (by assumption) ?_
    rotate_left
    · intro w hSw; (try dsimp only at hSw); go_simp; try with_reducible rfl
    simp only [Act.put, List.setIfInBounds_toArray, List.set_cons_zero, List.set_cons_succ]
    refine wpAnyH_take (i := 8) (oi := { dst := some 77, op := Op.move (Operand.tmp 8), type := 3, pos := "law.go:89", after := #[{ on := 6, ground := Ground.guard }], guard := some (6, true) }) (v := ?_) rfl (by kernel_rfl) (by kernel_rfl) (by kernel_rfl) (fun _ _ _ h => h) (Or.inl ⟨by rfl, ?_⟩) (by assumption) ?_
    rotate_left
    · intro w hSw; (try dsimp only at hSw); go_simp; try with_reducible rfl
    simp only [Act.put, List.setIfInBounds_toArray, List.set_cons_zero, List.set_cons_succ]
    refine wpAnyH_take (i := 9) (oi := { dst := some 78, op := Op.move (Operand.tmp 13), type := 41, pos := "law.go:89", after := #[{ on := 6, ground := Ground.guard }], guard := some (6, true) }) (v := ?_) rfl (by kernel_rfl) (by kernel_rfl) (by kernel_rfl) (fun _ _ _ h => h) (Or.inl ⟨by rfl, ?_⟩) (by assumption) ?_
    rotate_left
    · intro w hSw; (try dsimp only at hSw); go_simp; try with_reducible rfl
    simp only [Act.put, List.setIfInBounds_toArray, List.set_cons_zero, List.set_cons_succ]
    refine wpAnyH_take (i := 11) (oi := { dst := some 80, op := Op.load 66 (Operand.tmp 5), type := 66, pos := "law.go:89", after := #[{ on := 6, ground := Ground.guard }], guard := some (6, true) }) (v := ?_) rfl (by kernel_rfl) (by kernel_rfl) (by kernel_rfl) (fun _ _ _ h => h) (Or.inl ⟨by rfl, ?_⟩) (by assumption) ?_
    rotate_left
    · intro w hSw; (try dsimp only at hSw); go_simp; try with_reducible rfl
    simp only [Act.put, List.setIfInBounds_toArray, List.set_cons_zero, List.set_cons_succ]
    refine wpAnyH_ready (rs := [10]) (by kernel_rfl) (by simp) (AllReadyH.cons (o := { dst := some 79, op := Op.call { callee := Callee.value (Operand.func 43), args := #[Operand.tmp 76, Operand.tmp 77, Operand.tmp 78], argTypes := #[3, 3, 41] }, type := 66, pos := "law.go:89", after := #[{ on := 7, ground := Ground.data }, { on := 8, ground := Ground.data }, { on := 9, ground := Ground.data }, { on := 6, ground := Ground.chain }, { on := 6, ground := Ground.guard }], guard := some (6, true) }) rfl (fun KK hK => ?_) AllReadyH.nil)
    · go_simp
      go_at_call 43
      with_reducible refine (l18r_24_ok bi v _ i1 i2 i3 _ d p e _ B1.out B2.out B3.out B4.out (err_endT S) HE.out HDL.out HFLL.out hs.p1).mono ?_
      rintro e wq ⟨q3, cap3, lr, rfl, hlr, hs⟩
      have hs := hs.p1
      have HLR := Lib.hid hlr
      have HLL3 := Lib.hid (lenT_of (fewT_map HF.out hlr))
      clear hlr
      refine hK.out _ _ (HKQ.out _ _ _ hs) (fun hHeld => ?_)
      clear hK KK
      try simp only [Act.put, List.setIfInBounds_toArray, List.set_cons_zero, List.set_cons_succ]
      refine wpAnyH_ready (rs := [12]) (by kernel_rfl) (by simp) (AllReadyH.cons (o := { dst := some 81, op := Op.call { callee := Callee.value (Operand.func 42), args := #[Operand.tmp 79, Operand.tmp 80], argTypes := #[66, 66] }, type := 4, pos := "law.go:89", after := #[{ on := 10, ground := Ground.data }, { on := 11, ground := Ground.data }, { on := 10, ground := Ground.chain }, { on := 6, ground := Ground.guard }], guard := some (6, true) }) rfl (fun KK hK => ?_) AllReadyH.nil)
      · go_simp
        go_at_call 42
        with_reducible refine (ref18_sameT false d 0 p e false lr l q3 q cap3 cap HLR.out HLL3.out HLL.out (Know.has_right (Know.has_refl _)) (Know.has_left HK.out) hs).mono ?_
        rintro e wq ⟨rfl, hs⟩
        refine hK.out _ _ (HKQ.out _ _ _ hs) (fun hHeld => ?_)
        clear hK KK
        try simp only [Act.put, List.setIfInBounds_toArray, List.set_cons_zero, List.set_cons_succ]
        refine wpAnyH_take (i := 13) (oi := { dst := some 82, op := Op.pick (Operand.tmp 75) (Operand.tmp 81) (Operand.const (Value.bool false)), type := 4, pos := "law.go:89", after := #[{ on := 6, ground := Ground.data }, { on := 12, ground := Ground.data }], guard := none }) (v := ?_) rfl (by kernel_rfl) (by kernel_rfl) (by kernel_rfl) (fun _ _ _ h => h) (Or.inl ⟨by rfl, ?_⟩) (by assumption) ?_
        rotate_left
        · intro w hSw; (try dsimp only at hSw); go_simp; try with_reducible rfl
        simp only [Act.put, List.setIfInBounds_toArray, List.set_cons_zero, List.set_cons_succ]
        refine wpAnyH_take (i := 14) (oi := { dst := some 83, op := Op.move (Operand.tmp 82), type := 4, pos := "law.go:89", after := #[{ on := 13, ground := Ground.data }, { on := 12, ground := Ground.chain }], guard := none }) (v := ?_) rfl (by kernel_rfl) (by kernel_rfl) (by kernel_rfl) (fun _ _ _ h => h) (Or.inl ⟨by rfl, ?_⟩) (by assumption) ?_
        rotate_left
        · intro w hSw; (try dsimp only at hSw); go_simp; try with_reducible rfl
        simp only [Act.put, List.setIfInBounds_toArray, List.set_cons_zero, List.set_cons_succ]
        refine wpAnyH_take (i := 15) (oi := { dst := some 84, op := Op.move (Operand.tmp 13), type := 41, pos := "law.go:89", after := #[{ on := 14, ground := Ground.guard }], guard := some (14, true) }) (v := ?_) rfl (by kernel_rfl) (by kernel_rfl) (by kernel_rfl) (fun _ _ _ h => h) (Or.inl ⟨by rfl, ?_⟩) (by assumption) ?_
        rotate_left
        · intro w hSw; (try dsimp only at hSw); go_simp; try with_reducible rfl
        simp only [Act.put, List.setIfInBounds_toArray, List.set_cons_zero, List.set_cons_succ]
        refine wpAnyH_ready (rs := [16]) (by kernel_rfl) (by simp) (AllReadyH.cons (o := { dst := some 85, op := Op.call { callee := Callee.value (Operand.func 34), args := #[Operand.tmp 84], argTypes := #[41] }, type := 27, pos := "law.go:89", after := #[{ on := 15, ground := Ground.data }, { on := 14, ground := Ground.chain }, { on := 14, ground := Ground.guard }], guard := some (14, true) }) rfl (fun KK hK => ?_) AllReadyH.nil)
        · go_simp
          go_at_call 34
          with_reducible refine (s_closeV bi _ 0 HCL.out hs.p1).mono ?_
          rintro e wq ⟨rfl, hs⟩
          have hs := hs.p1
          refine hK.out _ _ (HKQ.out _ _ _ hs) (fun hHeld => ?_)
          clear hK KK
          try simp only [Act.put, List.setIfInBounds_toArray, List.set_cons_zero, List.set_cons_succ]
          refine wpAnyH_take (i := 17) (oi := { dst := some 86, op := Op.binOp BinOp.eql 27 (Operand.tmp 85) (Operand.const (Value.int IntKind.i64 0)) 27, type := 4, pos := "law.go:89", after := #[{ on := 16, ground := Ground.data }, { on := 14, ground := Ground.guard }], guard := some (14, true) }) (v := ?_) rfl (by kernel_rfl) (by kernel_rfl) (by kernel_rfl) (fun _ _ _ h => h) (Or.inl ⟨by rfl, ?_⟩) (by assumption) ?_
          rotate_left
          · intro w hSw; (try dsimp only at hSw); go_simp; try with_reducible rfl
          simp only [Act.put, List.setIfInBounds_toArray, List.set_cons_zero, List.set_cons_succ]
          refine wpAnyH_take (i := 18) (oi := { dst := some 87, op := Op.pick (Operand.tmp 83) (Operand.tmp 86) (Operand.const (Value.bool false)), type := 4, pos := "law.go:89", after := #[{ on := 14, ground := Ground.data }, { on := 17, ground := Ground.data }], guard := none }) (v := ?_) rfl (by kernel_rfl) (by kernel_rfl) (by kernel_rfl) (fun _ _ _ h => h) (Or.inl ⟨by rfl, ?_⟩) (by assumption) ?_
          rotate_left
          · intro w hSw; (try dsimp only at hSw); go_simp; try with_reducible rfl
          simp only [Act.put, List.setIfInBounds_toArray, List.set_cons_zero, List.set_cons_succ]
          refine wpAnyH_take (i := 19) (oi := { dst := some 6, op := Op.assign (Operand.tmp 87), type := 4, pos := "law.go:89", after := #[{ on := 18, ground := Ground.data }, { on := 16, ground := Ground.chain }, { on := 0, ground := Ground.phase }, { on := 1, ground := Ground.phase }, { on := 2, ground := Ground.phase }, { on := 3, ground := Ground.phase }, { on := 4, ground := Ground.phase }, { on := 5, ground := Ground.phase }, { on := 6, ground := Ground.phase }, { on := 7, ground := Ground.phase }, { on := 8, ground := Ground.phase }, { on := 9, ground := Ground.phase }, { on := 10, ground := Ground.phase }, { on := 11, ground := Ground.phase }, { on := 12, ground := Ground.phase }, { on := 13, ground := Ground.phase }, { on := 14, ground := Ground.phase }, { on := 15, ground := Ground.phase }, { on := 16, ground := Ground.phase }, { on := 17, ground := Ground.phase }, { on := 18, ground := Ground.phase }], guard := none }) (v := ?_) rfl (by kernel_rfl) (by kernel_rfl) (by kernel_rfl) (fun _ _ _ h => h) (Or.inl ⟨by rfl, ?_⟩) (by assumption) ?_
          rotate_left
          · intro w hSw; (try dsimp only at hSw); go_simp; try with_reducible rfl
          simp only [Act.put, List.setIfInBounds_toArray, List.set_cons_zero, List.set_cons_succ]
          refine wpAnyH_done (by kernel_rfl) ?_ _
          go_wp2_with fail
          go_ret
          exact ⟨rfl, hs.below⟩

end Go.Proofs.Ytombolmicfjjpaa

/- TxnWrites: End. -/
namespace Go.Proofs.Ytombolmicfjjpaa
open Go.RowKit

set_option maxHeartbeats 8000000 in
set_option maxRecDepth 100000 in
theorem tww_26b (n m : Int) (nl : Bool) (d : Bs) (tm p e : Int) (l : List (TopS × Value)) (q : Option Addr) (cap : Nat) (c : Bool) (hfi : FewI l) (v : Int) (hm : n.tmod 3 = 2) (hwn : IntKind.u8.wrap n = n) (hv : m.tmod 2 = v) (hv01 : v = 0 ∨ v = 1) (hl : d.length ≤ 40000) (hw : few (l.map (·.1)) = 1) (E : Int) (hE : chkW d p e = E) (h0_ : E ≠ 0)  {W0 w : World} {K : Know} {L : List Res} (hk : K.has (Know.tops (.slice q l.length cap) l)) (h : St W0 w K L) :
    Calls Try.prog 7 #[.int .u8 n, .int .u8 m, .agg #[.bool nl, .string (bb d), .int .i64 tm, .int .i64 p, .int .i64 e, .slice q l.length cap, .bool c]] w fun en w' => en = .returned (.bool true) ∧ Below W0.heap.size W0 w' := by
  obtain ⟨rb, hrb⟩ : ∃ b, w.heap.size = b := ⟨_, rfl⟩
  have h0 := h.allocRaw #[.bool nl, .string (bb d), .int .i64 tm, .int .i64 p, .int .i64 e, .slice q l.length cap, .bool c] 66
  rw [hrb] at h0
  have H := Lib.hid h0
  have HK := Lib.hid hk
  have HM := Lib.hid hm
  have HWn := Lib.hid hwn
  have HNL := Lib.hid hfi.1
  have HNB := Lib.hid (show ∀ x ∈ l, x.1.name.length ≤ 140737488351232 ∧ x.1.parts.length ≤ 17592186043904 from fun x hx => ⟨(hfi.2 x hx).1, (hfi.2 x hx).2.1⟩)
  have hv1 : IntKind.u8.wrap v = v := by rcases hv01 with rfl | rfl <;> decide
  have hv2 : IntKind.i64.wrap v = v := by rcases hv01 with rfl | rfl <;> decide
  have hli : ¬ 40000 < (d.length : Int) := by omega
  have HFW := Lib.hid hw
  have HF := Lib.hid (few_T (few_one hw))
  have HDL := Lib.hid (show d.length ≤ 140737488355328 by omega)
  have HE := Lib.hid hE
  have H0 := Lib.hid h0_
  have g1 : (E == 0) = false := by rw [beq_eq_false_iff_ne]; exact h0_
  have g2 : (E != 0) = true := by simp [bne, g1]
  have g3 : (E == E) = true := beq_self_eq_true _
  have g4 : (E != E) = false := by simp [bne, g3]
  clear h h0 hk hfi hm hwn hl hw hE h0_
  go_enter Try.func7, Try.ntmps7
  go_wp2_with (first
    | (go_at_call 37; (with_reducible refine (speaks18 H.out).mono ?_); rintro e_ wn ⟨rfl, h⟩; have c0 := h.rawCell 0; have c1 := h.rawCell 1; have c2 := h.rawCell 2; have c3 := h.rawCell 3; have c4 := h.rawCell 4; have c5 := h.rawCell 5; have c6 := h.rawCell 6; simp at c0 c1 c2 c3 c4 c5 c6; replace H := Lib.hid h; clear h)
    | (go_at_call 38; (with_reducible refine (law18_kinds2 n HM.out HWn.out H.out).mono ?_); rintro e_ wn ⟨rfl, h⟩; have c0 := h.rawCell 0; have c1 := h.rawCell 1; have c2 := h.rawCell 2; have c3 := h.rawCell 3; have c4 := h.rawCell 4; have c5 := h.rawCell 5; have c6 := h.rawCell 6; simp at c0 c1 c2 c3 c4 c5 c6; replace H := Lib.hid h; clear h)
    | (go_at_call 14; (with_reducible refine (law14_few l q cap HNL.out HNB.out 1 HFW.out HK.out H.out).mono ?_); rintro e_ wn ⟨rfl, h⟩; have c0 := h.rawCell 0; have c1 := h.rawCell 1; have c2 := h.rawCell 2; have c3 := h.rawCell 3; have c4 := h.rawCell 4; have c5 := h.rawCell 5; have c6 := h.rawCell 6; simp at c0 c1 c2 c3 c4 c5 c6; have f0 := h.rawFree 0; have f2 := h.rawFree 2; have f5 := h.rawFree 5; have h := (show St W0 (((wn.setCell ⟨rb, 0, none⟩ (.bool false)).setCell ⟨rb, 2, none⟩ (.int .i64 0)).setCell ⟨rb, 5, none⟩ (.slice none 0 0)) K (.raw rb #[.bool false, .string (bb d), .int .i64 0, .int .i64 p, .int .i64 e, .slice none 0 0, .bool c] 66 :: L) from (((h.rawSet 0 (.bool false)).rawSet 2 (.int .i64 0)).rawSet 5 (.slice none 0 0))); have x0 := h.rawCell 0; have x1 := h.rawCell 1; have x2 := h.rawCell 2; have x3 := h.rawCell 3; have x4 := h.rawCell 4; have x5 := h.rawCell 5; have x6 := h.rawCell 6; simp at x0 x1 x2 x3 x4 x5 x6; replace H := Lib.hid h; clear h)
    | (go_at_call 39; (with_reducible refine (w26Zb v d p e c E HE.out H0.out HDL.out H.out).mono ?_); rintro e_ wn ⟨rfl, h⟩; have x0 := h.rawCell 0; have x1 := h.rawCell 1; have x2 := h.rawCell 2; have x3 := h.rawCell 3; have x4 := h.rawCell 4; have x5 := h.rawCell 5; have x6 := h.rawCell 6; simp at x0 x1 x2 x3 x4 x5 x6; replace H := Lib.hid h; clear h)
    | (go_at_call 40; (with_reducible refine (c26Z v d p e c E HE.out H.out).mono ?_); rintro e_ wn ⟨rfl, h⟩; have x0 := h.rawCell 0; have x1 := h.rawCell 1; have x2 := h.rawCell 2; have x3 := h.rawCell 3; have x4 := h.rawCell 4; have x5 := h.rawCell 5; have x6 := h.rawCell 6; simp at x0 x1 x2 x3 x4 x5 x6; replace H := Lib.hid h; clear h))
  go_ret
  exact ⟨rfl, H.out.below⟩

set_option maxHeartbeats 8000000 in
set_option maxRecDepth 100000 in
theorem tww_26 (n m : Int) (nl : Bool) (d : Bs) (tm p e : Int) (l : List (TopS × Value)) (q : Option Addr) (cap : Nat) (c : Bool) (hfi : FewI l) (v : Int) (hm : n.tmod 3 = 2) (hwn : IntKind.u8.wrap n = n) (hv : m.tmod 2 = v) (hv01 : v = 0 ∨ v = 1) (hl : d.length ≤ 40000) (hw : few (l.map (·.1)) = 1) (hE : chkW d p e = 0) (hp : p < 9223372036854775808) (S : Bs) (hS : encReq 26 v false d 0 p e [] c = S)  {W0 w : World} {K : Know} {L : List Res} (hk : K.has (Know.tops (.slice q l.length cap) l)) (h : St W0 w K L) :
    Calls Try.prog 7 #[.int .u8 n, .int .u8 m, .agg #[.bool nl, .string (bb d), .int .i64 tm, .int .i64 p, .int .i64 e, .slice q l.length cap, .bool c]] w fun en w' => en = .returned (.bool true) ∧ Below W0.heap.size W0 w' := by
  obtain ⟨rb, hrb⟩ : ∃ b, w.heap.size = b := ⟨_, rfl⟩
  have h0 := h.allocRaw #[.bool nl, .string (bb d), .int .i64 tm, .int .i64 p, .int .i64 e, .slice q l.length cap, .bool c] 66
  rw [hrb] at h0
  have H := Lib.hid h0
  have HK := Lib.hid hk
  have HM := Lib.hid hm
  have HWn := Lib.hid hwn
  have HNL := Lib.hid hfi.1
  have HNB := Lib.hid (show ∀ x ∈ l, x.1.name.length ≤ 140737488351232 ∧ x.1.parts.length ≤ 17592186043904 from fun x hx => ⟨(hfi.2 x hx).1, (hfi.2 x hx).2.1⟩)
  have hv1 : IntKind.u8.wrap v = v := by rcases hv01 with rfl | rfl <;> decide
  have hv2 : IntKind.i64.wrap v = v := by rcases hv01 with rfl | rfl <;> decide
  have hli : ¬ 40000 < (d.length : Int) := by omega
  have HFW := Lib.hid hw
  have HF := Lib.hid (few_T (few_one hw))
  have HDL := Lib.hid (show d.length ≤ 140737488355328 by omega)
  have HE := Lib.hid hE
  have HS := Lib.hid hS
  have HP := Lib.hid hp
  have gS : (S == S) = true := beq_self_eq_true _
  have hcw := (chkW_ok hE)
  have hwt := who_t hcw.2
  have hil := ((keyRight_iff d).1 hcw.1).2
  have HIL := Lib.hid hil
  have HRP := Lib.hid (show -9223372036854775808 ≤ p ∧ p < 9223372036854775808 by omega)
  have HRE := Lib.hid (show -9223372036854775808 ≤ e ∧ e < 9223372036854775808 by omega)
  have HTM := Lib.hid (show -9223372036854775808 ≤ (0 : Int) ∧ (0 : Int) < 9223372036854775808 by decide)
  obtain ⟨i1, i2, i3, b1, b2, b3, b4⟩ := back_26 S v d p e c hil ⟨hwt.1, hp⟩ hwt.2 hS
  have B1 := Lib.hid b1
  have B2 := Lib.hid b2
  have B3 := Lib.hid b3
  have B4 := Lib.hid b4
  have HSL := Lib.hid (show S.length ≤ 140737488355328 by rw [← hS]; have h1 := encReq_len 26 v false d 0 p e [] c (by decide) HIL.out; omega)
  have HCL := Lib.hid (close_endT S)
  clear h h0 hk hfi hm hwn hl hw hE hp hS hcw hwt hil b1 b2 b3 b4
  go_enter Try.func7, Try.ntmps7
  go_upto_region 19 with (first
    | (go_at_call 37; (with_reducible refine (speaks18 H.out).mono ?_); rintro e_ wn ⟨rfl, h⟩; have c0 := h.rawCell 0; have c1 := h.rawCell 1; have c2 := h.rawCell 2; have c3 := h.rawCell 3; have c4 := h.rawCell 4; have c5 := h.rawCell 5; have c6 := h.rawCell 6; simp at c0 c1 c2 c3 c4 c5 c6; replace H := Lib.hid h; clear h)
    | (go_at_call 38; (with_reducible refine (law18_kinds2 n HM.out HWn.out H.out).mono ?_); rintro e_ wn ⟨rfl, h⟩; have c0 := h.rawCell 0; have c1 := h.rawCell 1; have c2 := h.rawCell 2; have c3 := h.rawCell 3; have c4 := h.rawCell 4; have c5 := h.rawCell 5; have c6 := h.rawCell 6; simp at c0 c1 c2 c3 c4 c5 c6; replace H := Lib.hid h; clear h)
    | (go_at_call 14; (with_reducible refine (law14_few l q cap HNL.out HNB.out 1 HFW.out HK.out H.out).mono ?_); rintro e_ wn ⟨rfl, h⟩; have c0 := h.rawCell 0; have c1 := h.rawCell 1; have c2 := h.rawCell 2; have c3 := h.rawCell 3; have c4 := h.rawCell 4; have c5 := h.rawCell 5; have c6 := h.rawCell 6; simp at c0 c1 c2 c3 c4 c5 c6; have f0 := h.rawFree 0; have f2 := h.rawFree 2; have f5 := h.rawFree 5; have h := (show St W0 (((wn.setCell ⟨rb, 0, none⟩ (.bool false)).setCell ⟨rb, 2, none⟩ (.int .i64 0)).setCell ⟨rb, 5, none⟩ (.slice none 0 0)) K (.raw rb #[.bool false, .string (bb d), .int .i64 0, .int .i64 p, .int .i64 e, .slice none 0 0, .bool c] 66 :: L) from (((h.rawSet 0 (.bool false)).rawSet 2 (.int .i64 0)).rawSet 5 (.slice none 0 0))); have x0 := h.rawCell 0; have x1 := h.rawCell 1; have x2 := h.rawCell 2; have x3 := h.rawCell 3; have x4 := h.rawCell 4; have x5 := h.rawCell 5; have x6 := h.rawCell 6; simp at x0 x1 x2 x3 x4 x5 x6; replace H := Lib.hid h; clear h)
    | (go_at_call 39; (with_reducible refine (w26Z v d p e c S HS.out HE.out HP.out H.out).mono ?_); rintro e_ wn ⟨rfl, h⟩; have x0 := h.rawCell 0; have x1 := h.rawCell 1; have x2 := h.rawCell 2; have x3 := h.rawCell 3; have x4 := h.rawCell 4; have x5 := h.rawCell 5; have x6 := h.rawCell 6; simp at x0 x1 x2 x3 x4 x5 x6; replace H := Lib.hid h; clear h)
    | (go_at_call 40; (with_reducible refine (c26Z v d p e c 0 HE.out H.out).mono ?_); rintro e_ wn ⟨rfl, h⟩; have x0 := h.rawCell 0; have x1 := h.rawCell 1; have x2 := h.rawCell 2; have x3 := h.rawCell 3; have x4 := h.rawCell 4; have x5 := h.rawCell 5; have x6 := h.rawCell 6; simp at x0 x1 x2 x3 x4 x5 x6; replace H := Lib.hid h; clear h)
    | (go_at_call 24; (with_reducible refine (s_new S HSL.out H.out).mono ?_); rintro e_ wn ⟨bi, rfl, h⟩; replace H := Lib.hid h; clear h))
  have hs := H.out.p1.drew
  have HKQ := Lib.hid (show ∀ w' K' L', St W0 w' K' (.raw rb #[.bool false, .string (bb d), .int .i64 0, .int .i64 p, .int .i64 e, .slice none 0 0, .bool c] 66 :: L') → (w'.cell? ⟨rb, 0, none⟩ = some (.bool false) ∧ w'.cell? ⟨rb, 1, none⟩ = some (.string (bb d)) ∧ w'.cell? ⟨rb, 2, none⟩ = some (.int .i64 0) ∧ w'.cell? ⟨rb, 3, none⟩ = some (.int .i64 p) ∧ w'.cell? ⟨rb, 4, none⟩ = some (.int .i64 e) ∧ w'.cell? ⟨rb, 5, none⟩ = some (.slice none 0 0) ∧ w'.cell? ⟨rb, 6, none⟩ = some (.bool c)) from fun w' K' L' hs => ⟨hs.rawCell 0, hs.rawCell 1, hs.rawCell 2, hs.rawCell 3, hs.rawCell 4, hs.rawCell 5, hs.rawCell 6⟩)
  refine wp_region_held_drew (S := fun w' => w'.cell? ⟨rb, 0, none⟩ = some (.bool false) ∧ w'.cell? ⟨rb, 1, none⟩ = some (.string (bb d)) ∧ w'.cell? ⟨rb, 2, none⟩ = some (.int .i64 0) ∧ w'.cell? ⟨rb, 3, none⟩ = some (.int .i64 p) ∧ w'.cell? ⟨rb, 4, none⟩ = some (.int .i64 e) ∧ w'.cell? ⟨rb, 5, none⟩ = some (.slice none 0 0) ∧ w'.cell? ⟨rb, 6, none⟩ = some (.bool c)) (by kernel_rfl) (HKQ.out _ _ _ hs) (fun hHeld => ?_)
  refine wpAnyH_take (i := 0) (oi := { dst := some 69, op := Op.move (Operand.tmp 9), type := 9, pos := "law.go:89", after := #[], guard := none }) (v := ?_) rfl (by kernel_rfl) (by kernel_rfl) (by kernel_rfl) (fun _ _ _ h => h) (Or.inl ⟨by rfl, ?_⟩) (by assumption) ?_
  rotate_left
  · intro w hSw; (try dsimp only at hSw); go_simp; try with_reducible rfl
  simp only [Act.put, List.setIfInBounds_toArray, List.set_cons_zero, List.set_cons_succ]
  refine wpAnyH_take (i := 1) (oi := { dst := some 70, op := Op.move (Operand.tmp 7), type := 3, pos := "law.go:89", after := #[], guard := none }) (v := ?_) rfl (by kernel_rfl) (by kernel_rfl) (by kernel_rfl) (fun _ _ _ h => h) (Or.inl ⟨by rfl, ?_⟩) (by assumption) ?_
  rotate_left
  · intro w hSw; (try dsimp only at hSw); go_simp; try with_reducible rfl
  simp only [Act.put, List.setIfInBounds_toArray, List.set_cons_zero, List.set_cons_succ]
  refine wpAnyH_take (i := 2) (oi := { dst := some 71, op := Op.move (Operand.tmp 8), type := 3, pos := "law.go:89", after := #[], guard := none }) (v := ?_) rfl (by kernel_rfl) (by kernel_rfl) (by kernel_rfl) (fun _ _ _ h => h) (Or.inl ⟨by rfl, ?_⟩) (by assumption) ?_
  rotate_left
  · intro w hSw; (try dsimp only at hSw); go_simp; try with_reducible rfl
  simp only [Act.put, List.setIfInBounds_toArray, List.set_cons_zero, List.set_cons_succ]
  refine wpAnyH_take (i := 3) (oi := { dst := some 72, op := Op.load 66 (Operand.tmp 5), type := 66, pos := "law.go:89", after := #[], guard := none }) (v := ?_) rfl (by kernel_rfl) (by kernel_rfl) (by kernel_rfl) (fun _ _ _ h => h) (Or.inl ⟨by rfl, ?_⟩) (by assumption) ?_
  rotate_left
  · intro w hSw; (try dsimp only at hSw); go_simp; try with_reducible rfl
  simp only [Act.put, List.setIfInBounds_toArray, List.set_cons_zero, List.set_cons_succ]
  refine wpAnyH_ready (rs := [4]) (by kernel_rfl) (by simp) (AllReadyH.cons (o := { dst := some 73, op := Op.call { callee := Callee.value (Operand.func 41), args := #[Operand.tmp 70, Operand.tmp 71, Operand.tmp 72], argTypes := #[3, 3, 66] }, type := 9, pos := "law.go:89", after := #[{ on := 1, ground := Ground.data }, { on := 2, ground := Ground.data }, { on := 3, ground := Ground.data }], guard := none }) rfl (fun KK hK => ?_) AllReadyH.nil)
  · go_simp
    go_at_call 41
    with_reducible refine (rw26Z v d p e c S HS.out HIL.out HRP.out HRE.out hs).mono ?_
    rintro e wq ⟨rfl, hs⟩
    refine hK.out _ _ (HKQ.out _ _ _ hs) (fun hHeld => ?_)
    clear hK KK
    try simp only [Act.put, List.setIfInBounds_toArray, List.set_cons_zero, List.set_cons_succ]
    refine wpAnyH_take (i := 5) (oi := { dst := some 74, op := Op.binOp BinOp.eql 9 (Operand.tmp 69) (Operand.tmp 73) 9, type := 4, pos := "law.go:89", after := #[{ on := 0, ground := Ground.data }, { on := 4, ground := Ground.data }], guard := none }) (v := ?_) rfl (by kernel_rfl) (by kernel_rfl) (by kernel_rfl) (fun _ _ _ h => h) (Or.inl ⟨by rfl, ?_⟩) (by assumption) ?_
    rotate_left
    · intro w hSw; (try dsimp only at hSw); go_simp; try with_reducible rfl
    simp only [Act.put, List.setIfInBounds_toArray, List.set_cons_zero, List.set_cons_succ]
    refine wpAnyH_take (i := 6) (oi := { dst := some 75, op := Op.move (Operand.tmp 74), type := 4, pos := "law.go:89", after := #[{ on := 5, ground := Ground.data }, { on := 4, ground := Ground.chain }], guard := none }) (v := ?_) rfl (by kernel_rfl) (by kernel_rfl) (by kernel_rfl) (fun _ _ _ h => h) (Or.inl ⟨by rfl, ?_⟩) (by assumption) ?_
    rotate_left
    · intro w hSw; (try dsimp only at hSw); go_simp; try with_reducible rfl
    simp only [Act.put, List.setIfInBounds_toArray, List.set_cons_zero, List.set_cons_succ]
    refine wpAnyH_take (i := 7) (oi := { dst := some 76, op := Op.move (Operand.tmp 7), type := 3, pos := "law.go:89", after := #[{ on := 6, ground := Ground.guard }], guard := some (6, true) }) (v := ?_) rfl (by kernel_rfl) (by kernel_rfl) (by kernel_rfl) (fun _ _ _ h => h) (Or.inl ⟨by rfl, ?_⟩) (by assumption) ?_
    rotate_left
    · intro w hSw; (try dsimp only at hSw); go_simp; try with_reducible rfl
    simp only [Act.put, List.setIfInBounds_toArray, List.set_cons_zero, List.set_cons_succ]
    refine wpAnyH_take (i := 8) (oi := { dst := some 77, op := Op.move (Operand.tmp 8), type := 3, pos := "law.go:89", after := #[{ on := 6, ground := Ground.guard }], guard := some (6, true) }) (v := ?_) rfl (by kernel_rfl) (by kernel_rfl) (by kernel_rfl) (fun _ _ _ h => h) (Or.inl ⟨by rfl, ?_⟩) (by assumption) ?_
    rotate_left
    · intro w hSw; (try dsimp only at hSw); go_simp; try with_reducible rfl
    simp only [Act.put, List.setIfInBounds_toArray, List.set_cons_zero, List.set_cons_succ]
    refine wpAnyH_take (i := 9) (oi := { dst := some 78, op := Op.move (Operand.tmp 13), type := 41, pos := "law.go:89", after := #[{ on := 6, ground := Ground.guard }], guard := some (6, true) }) (v := ?_) rfl (by kernel_rfl) (by kernel_rfl) (by kernel_rfl) (fun _ _ _ h => h) (Or.inl ⟨by rfl, ?_⟩) (by assumption) ?_
    rotate_left
    · intro w hSw; (try dsimp only at hSw); go_simp; try with_reducible rfl
    simp only [Act.put, List.setIfInBounds_toArray, List.set_cons_zero, List.set_cons_succ]
    refine wpAnyH_take (i := 11) (oi := { dst := some 80, op := Op.load 66 (Operand.tmp 5), type := 66, pos := "law.go:89", after := #[{ on := 6, ground := Ground.guard }], guard := some (6, true) }) (v := ?_) rfl (by kernel_rfl) (by kernel_rfl) (by kernel_rfl) (fun _ _ _ h => h) (Or.inl ⟨by rfl, ?_⟩) (by assumption) ?_
    rotate_left
    · intro w hSw; (try dsimp only at hSw); go_simp; try with_reducible rfl
    simp only [Act.put, List.setIfInBounds_toArray, List.set_cons_zero, List.set_cons_succ]
    refine wpAnyH_ready (rs := [10]) (by kernel_rfl) (by simp) (AllReadyH.cons (o := { dst := some 79, op := Op.call { callee := Callee.value (Operand.func 43), args := #[Operand.tmp 76, Operand.tmp 77, Operand.tmp 78], argTypes := #[3, 3, 41] }, type := 66, pos := "law.go:89", after := #[{ on := 7, ground := Ground.data }, { on := 8, ground := Ground.data }, { on := 9, ground := Ground.data }, { on := 6, ground := Ground.chain }, { on := 6, ground := Ground.guard }], guard := some (6, true) }) rfl (fun KK hK => ?_) AllReadyH.nil)
    · go_simp
      go_at_call 43
      with_reducible refine (l18r_26_ok bi v _ i1 i2 i3 _ d p e c B1.out B2.out B3.out B4.out (err_endT S) HE.out HDL.out hs.p1).mono ?_
      rintro e wq ⟨rfl, hs⟩
      have hs := hs.p1
      refine hK.out _ _ (HKQ.out _ _ _ hs) (fun hHeld => ?_)
      clear hK KK
      try simp only [Act.put, List.setIfInBounds_toArray, List.set_cons_zero, List.set_cons_succ]
      refine wpAnyH_ready (rs := [12]) (by kernel_rfl) (by simp) (AllReadyH.cons (o := { dst := some 81, op := Op.call { callee := Callee.value (Operand.func 42), args := #[Operand.tmp 79, Operand.tmp 80], argTypes := #[66, 66] }, type := 4, pos := "law.go:89", after := #[{ on := 10, ground := Ground.data }, { on := 11, ground := Ground.data }, { on := 10, ground := Ground.chain }, { on := 6, ground := Ground.guard }], guard := some (6, true) }) rfl (fun KK hK => ?_) AllReadyH.nil)
      · go_simp
        go_at_call 42
        with_reducible refine (s22Z false d 0 p e c hs).mono ?_
        rintro e wq ⟨rfl, hs⟩
        refine hK.out _ _ (HKQ.out _ _ _ hs) (fun hHeld => ?_)
        clear hK KK
        try simp only [Act.put, List.setIfInBounds_toArray, List.set_cons_zero, List.set_cons_succ]
        refine wpAnyH_take (i := 13) (oi := { dst := some 82, op := Op.pick (Operand.tmp 75) (Operand.tmp 81) (Operand.const (Value.bool false)), type := 4, pos := "law.go:89", after := #[{ on := 6, ground := Ground.data }, { on := 12, ground := Ground.data }], guard := none }) (v := ?_) rfl (by kernel_rfl) (by kernel_rfl) (by kernel_rfl) (fun _ _ _ h => h) (Or.inl ⟨by rfl, ?_⟩) (by assumption) ?_
        rotate_left
        · intro w hSw; (try dsimp only at hSw); go_simp; try with_reducible rfl
        simp only [Act.put, List.setIfInBounds_toArray, List.set_cons_zero, List.set_cons_succ]
        refine wpAnyH_take (i := 14) (oi := { dst := some 83, op := Op.move (Operand.tmp 82), type := 4, pos := "law.go:89", after := #[{ on := 13, ground := Ground.data }, { on := 12, ground := Ground.chain }], guard := none }) (v := ?_) rfl (by kernel_rfl) (by kernel_rfl) (by kernel_rfl) (fun _ _ _ h => h) (Or.inl ⟨by rfl, ?_⟩) (by assumption) ?_
        rotate_left
        · intro w hSw; (try dsimp only at hSw); go_simp; try with_reducible rfl
        simp only [Act.put, List.setIfInBounds_toArray, List.set_cons_zero, List.set_cons_succ]
        refine wpAnyH_take (i := 15) (oi := { dst := some 84, op := Op.move (Operand.tmp 13), type := 41, pos := "law.go:89", after := #[{ on := 14, ground := Ground.guard }], guard := some (14, true) }) (v := ?_) rfl (by kernel_rfl) (by kernel_rfl) (by kernel_rfl) (fun _ _ _ h => h) (Or.inl ⟨by rfl, ?_⟩) (by assumption) ?_
        rotate_left
        · intro w hSw; (try dsimp only at hSw); go_simp; try with_reducible rfl
        simp only [Act.put, List.setIfInBounds_toArray, List.set_cons_zero, List.set_cons_succ]
        refine wpAnyH_ready (rs := [16]) (by kernel_rfl) (by simp) (AllReadyH.cons (o := { dst := some 85, op := Op.call { callee := Callee.value (Operand.func 34), args := #[Operand.tmp 84], argTypes := #[41] }, type := 27, pos := "law.go:89", after := #[{ on := 15, ground := Ground.data }, { on := 14, ground := Ground.chain }, { on := 14, ground := Ground.guard }], guard := some (14, true) }) rfl (fun KK hK => ?_) AllReadyH.nil)
        · go_simp
          go_at_call 34
          with_reducible refine (s_closeV bi _ 0 HCL.out hs.p1).mono ?_
          rintro e wq ⟨rfl, hs⟩
          have hs := hs.p1
          refine hK.out _ _ (HKQ.out _ _ _ hs) (fun hHeld => ?_)
          clear hK KK
          try simp only [Act.put, List.setIfInBounds_toArray, List.set_cons_zero, List.set_cons_succ]
          refine wpAnyH_take (i := 17) (oi := { dst := some 86, op := Op.binOp BinOp.eql 27 (Operand.tmp 85) (Operand.const (Value.int IntKind.i64 0)) 27, type := 4, pos := "law.go:89", after := #[{ on := 16, ground := Ground.data }, { on := 14, ground := Ground.guard }], guard := some (14, true) }) (v := ?_) rfl (by kernel_rfl) (by kernel_rfl) (by kernel_rfl) (fun _ _ _ h => h) (Or.inl ⟨by rfl, ?_⟩) (by assumption) ?_
          rotate_left
          · intro w hSw; (try dsimp only at hSw); go_simp; try with_reducible rfl
          simp only [Act.put, List.setIfInBounds_toArray, List.set_cons_zero, List.set_cons_succ]
          refine wpAnyH_take (i := 18) (oi := { dst := some 87, op := Op.pick (Operand.tmp 83) (Operand.tmp 86) (Operand.const (Value.bool false)), type := 4, pos := "law.go:89", after := #[{ on := 14, ground := Ground.data }, { on := 17, ground := Ground.data }], guard := none }) (v := ?_) rfl (by kernel_rfl) (by kernel_rfl) (by kernel_rfl) (fun _ _ _ h => h) (Or.inl ⟨by rfl, ?_⟩) (by assumption) ?_
          rotate_left
          · intro w hSw; (try dsimp only at hSw); go_simp; try with_reducible rfl
          simp only [Act.put, List.setIfInBounds_toArray, List.set_cons_zero, List.set_cons_succ]
          refine wpAnyH_take (i := 19) (oi := { dst := some 6, op := Op.assign (Operand.tmp 87), type := 4, pos := "law.go:89", after := #[{ on := 18, ground := Ground.data }, { on := 16, ground := Ground.chain }, { on := 0, ground := Ground.phase }, { on := 1, ground := Ground.phase }, { on := 2, ground := Ground.phase }, { on := 3, ground := Ground.phase }, { on := 4, ground := Ground.phase }, { on := 5, ground := Ground.phase }, { on := 6, ground := Ground.phase }, { on := 7, ground := Ground.phase }, { on := 8, ground := Ground.phase }, { on := 9, ground := Ground.phase }, { on := 10, ground := Ground.phase }, { on := 11, ground := Ground.phase }, { on := 12, ground := Ground.phase }, { on := 13, ground := Ground.phase }, { on := 14, ground := Ground.phase }, { on := 15, ground := Ground.phase }, { on := 16, ground := Ground.phase }, { on := 17, ground := Ground.phase }, { on := 18, ground := Ground.phase }], guard := none }) (v := ?_) rfl (by kernel_rfl) (by kernel_rfl) (by kernel_rfl) (fun _ _ _ h => h) (Or.inl ⟨by rfl, ?_⟩) (by assumption) ?_
          rotate_left
          · intro w hSw; (try dsimp only at hSw); go_simp; try with_reducible rfl
          simp only [Act.put, List.setIfInBounds_toArray, List.set_cons_zero, List.set_cons_succ]
          refine wpAnyH_done (by kernel_rfl) ?_ _
          go_wp2_with fail
          go_ret
          exact ⟨rfl, hs.below⟩

end Go.Proofs.Ytombolmicfjjpaa
