/- Layer 17, walked: RequestWrites. -/
import Derived.Test.YtngnhdiafbjfkaaDoorReq8
namespace Go.Proofs.YtngnhdiafbjfkaaDoor
open Go.RowKit

set_option maxHeartbeats 1000000 in
set_option maxRecDepth 100000 in
theorem reqWrites_good (h0 : HeadS) (hR : h0.R) (hl : h0.cli.data.length ≤ 40000) (he : headErr h0 = 0) {W0 w : World} {K : Know} (hk : K.has Know.reqs) (h : St W0 w K []) :
    Calls Tryd.prog 5 #[.agg #[.int .i64 h0.kind, .int .i64 h0.ver, .int .i64 h0.num, .bool h0.cli.null, .string (bb h0.cli.data)]] w fun en w' => en = .returned (.bool true) ∧ Below W0.heap.size W0 w' := by
  obtain ⟨a, v, n, ⟨u, d⟩⟩ := h0
  simp only at *
  have h1 := h.allocRaw #[.int .i64 a, .int .i64 v, .int .i64 n, .bool u, .string (bb d)] 38
  obtain ⟨xb, hxb⟩ : ∃ b, w.heap.size = b := ⟨_, rfl⟩
  rw [hxb] at h1
  have H := Lib.hid h1
  have HK := Lib.hid hk
  have HR := Lib.hid hR
  have HN3 := Lib.hid hR.2.2
  obtain ⟨x0, x1, x2, x3, x4, y0, y1, y2, y3, y4⟩ := raw5 (b := xb) (h1)
  have d1 : decide ((40000 : Int) < (d.length : Int)) = false := decide_eq_false (by omega)
  have HE := Lib.hid he
  obtain ⟨g0, g1, g2, g3, g4⟩ := head_put _ he
  have hrd := rds_head.ok (encHead ⟨a, v, n, ⟨u, d⟩⟩) 0 ⟨a, v, n, ⟨u, d⟩⟩ (encHead ⟨a, v, n, ⟨u, d⟩⟩).length (Nat.zero_le _) (by
    have := reHead_back ⟨a, v, n, ⟨u, d⟩⟩ he []
    rw [List.append_nil] at this
    rw [List.drop_zero]
    exact this)
  have hlen : (encHead ⟨a, v, n, ⟨u, d⟩⟩).length ≤ 140737488355328 := by
    simp only [encHead, encF, List.length_append, beBytes_length]
    omega
  obtain ⟨B, hB⟩ : ∃ B, encHead ⟨a, v, n, ⟨u, d⟩⟩ = B := ⟨_, rfl⟩
  rw [hB] at g0 hrd hlen
  have HB := Lib.hid hB
  have HX := Lib.hid g0
  have HT := Lib.hid (show (⟨B, 0⟩ : OutS).text = (B, 0) from rfl)
  have HBL := Lib.hid hlen
  have HDL := Lib.hid (show d.length ≤ 100000 by omega)
  have HRD := Lib.hid (show (⟨B, 0, 0⟩ : InS).head = (⟨a, v, n, ⟨u, d⟩⟩, ⟨B, B.length, 0⟩) by have := hrd.2; rw [Nat.zero_add] at this; exact this)
  have HC := Lib.hid (show (⟨B, B.length, 0⟩ : InS).close = ⟨B, B.length, 0⟩ by unfold InS.close; simp [InS.left])
  clear h h1 hk hR hl he g0 g1 g2 g3 g4 hrd hlen hB
  go_enter Tryd.func5, Tryd.ntmps5
  go_upto_region 14 with (first
    | (go_at_call 13; (with_reducible refine (speaks17 HK.out H.out).mono ?_); rintro e wn ⟨rfl, h⟩; obtain ⟨u0, u1, u2, u3, u4, f0, f1, f2, f3, f4⟩ := raw5 (b := xb) (h); have h := h.allocOut; obtain ⟨po, hpo⟩ : ∃ b, wn.heap.size = b := ⟨_, rfl⟩; rw [hpo] at h; replace H := Lib.hid h; clear h; obtain ⟨x0, x1, x2, x3, x4, y0, y1, y2, y3, y4⟩ := raw5 (b := xb) (H.out.p1))
    | (go_at_call 14; (with_reducible refine (req_write5 po a v n u d _ HX.out HR.out HK.out H.out).mono ?_); rintro e wn ⟨rfl, h⟩; replace H := Lib.hid h; clear h; obtain ⟨x0, x1, x2, x3, x4, y0, y1, y2, y3, y4⟩ := raw5 (b := xb) (H.out.p1))
    | (go_at_call 15; (with_reducible refine (so_textQ po _ _ _ HT.out H.out).mono ?_); rintro e wn ⟨rfl, h⟩; replace H := Lib.hid h; clear h; obtain ⟨x0, x1, x2, x3, x4, y0, y1, y2, y3, y4⟩ := raw5 (b := xb) (H.out.p1))
    | (go_at_call 16; (with_reducible refine (ref17_check a v n u d _ HE.out H.out).mono ?_); rintro e wn ⟨rfl, h⟩; replace H := Lib.hid h; clear h; obtain ⟨x0, x1, x2, x3, x4, y0, y1, y2, y3, y4⟩ := raw5 (b := xb) (H.out.p1))
    | (go_at_call 17; (with_reducible refine (req_check a v n u d _ HE.out HN3.out HK.out H.out).mono ?_); rintro e wn ⟨rfl, h⟩; replace H := Lib.hid h; clear h; obtain ⟨x0, x1, x2, x3, x4, y0, y1, y2, y3, y4⟩ := raw5 (b := xb) (H.out.p1))
    | (go_at_call 18; (with_reducible refine (s_new _ HBL.out H.out).mono ?_); rintro e wn ⟨bi, rfl, h⟩; replace H := Lib.hid h; clear h; obtain ⟨x0, x1, x2, x3, x4, y0, y1, y2, y3, y4⟩ := raw5 (b := xb) H.out.p2))
  have hs := H.out.drew
  refine wp_region_held_drew (S := fun w' => w'.cell? ⟨xb, 0, none⟩ = some (.int .i64 a) ∧ w'.cell? ⟨xb, 1, none⟩ = some (.int .i64 v) ∧ w'.cell? ⟨xb, 2, none⟩ = some (.int .i64 n) ∧ w'.cell? ⟨xb, 3, none⟩ = some (.bool u) ∧ w'.cell? ⟨xb, 4, none⟩ = some (.string (bb d))) (by kernel_rfl) (req_keep hs.p2) (fun hHeld => ?_)
  refine wpAnyH_take (i := 0) (oi := { dst := some 38, op := Op.move (Operand.tmp 4), type := 9, pos := "law.go:39", after := #[], guard := none }) (v := ?_) rfl (by kernel_rfl) (by kernel_rfl) (by kernel_rfl) (fun _ _ _ h => h) (Or.inl ⟨by rfl, ?_⟩) (by assumption) ?_
  rotate_left
  · intro w hSw; (try dsimp only at hSw); go_simp; try with_reducible rfl
  simp only [Act.put, List.setIfInBounds_toArray, List.set_cons_zero, List.set_cons_succ]
  refine wpAnyH_take (i := 1) (oi := { dst := some 39, op := Op.load 38 (Operand.tmp 1), type := 38, pos := "law.go:39", after := #[], guard := none }) (v := ?_) rfl (by kernel_rfl) (by kernel_rfl) (by kernel_rfl) (fun _ _ _ h => h) (Or.inl ⟨by rfl, ?_⟩) (by assumption) ?_
  rotate_left
  · intro w hSw; (try dsimp only at hSw); go_simp; try with_reducible rfl
  simp only [Act.put, List.setIfInBounds_toArray, List.set_cons_zero, List.set_cons_succ]
  refine wpAnyH_ready (rs := [2]) (by kernel_rfl) (by simp) (AllReadyH.cons (o := { dst := some 40, op := Op.call { callee := Callee.value (Operand.func 19), args := #[Operand.tmp 39], argTypes := #[47] }, type := 9, pos := "law.go:39", after := #[{ on := 1, ground := Ground.data }], guard := none }) rfl (fun KK hK => ?_) AllReadyH.nil)
  · go_simp
    go_at_call 19
    with_reducible refine (ref17_write5 a v n u d B HB.out HR.out HDL.out hs).mono ?_
    rintro e wq ⟨rfl, hs⟩
    refine hK.out _ _ (req_keep hs.p2) (fun hHeld => ?_)
    clear hK KK
    try simp only [Act.put, List.setIfInBounds_toArray, List.set_cons_zero, List.set_cons_succ]
    refine wpAnyH_take (i := 3) (oi := { dst := some 41, op := Op.binOp BinOp.eql 9 (Operand.tmp 38) (Operand.tmp 40) 9, type := 4, pos := "law.go:39", after := #[{ on := 0, ground := Ground.data }, { on := 2, ground := Ground.data }], guard := none }) (v := ?_) rfl (by kernel_rfl) (by kernel_rfl) (by kernel_rfl) (fun _ _ _ h => h) (Or.inl ⟨by rfl, ?_⟩) (by assumption) ?_
    rotate_left
    · intro w hSw; (try dsimp only at hSw); go_simp; try with_reducible rfl
    simp only [Act.put, List.setIfInBounds_toArray, List.set_cons_zero, List.set_cons_succ]
    refine wpAnyH_take (i := 4) (oi := { dst := some 42, op := Op.move (Operand.tmp 41), type := 4, pos := "law.go:39", after := #[{ on := 3, ground := Ground.data }, { on := 2, ground := Ground.chain }], guard := none }) (v := ?_) rfl (by kernel_rfl) (by kernel_rfl) (by kernel_rfl) (fun _ _ _ h => h) (Or.inl ⟨by rfl, ?_⟩) (by assumption) ?_
    rotate_left
    · intro w hSw; (try dsimp only at hSw); go_simp; try with_reducible rfl
    simp only [Act.put, List.setIfInBounds_toArray, List.set_cons_zero, List.set_cons_succ]
    refine wpAnyH_take (i := 5) (oi := { dst := some 43, op := Op.move (Operand.tmp 7), type := 49, pos := "law.go:39", after := #[{ on := 4, ground := Ground.guard }], guard := some (4, true) }) (v := ?_) rfl (by kernel_rfl) (by kernel_rfl) (by kernel_rfl) (fun _ _ _ h => h) (Or.inl ⟨by rfl, ?_⟩) (by assumption) ?_
    rotate_left
    · intro w hSw; (try dsimp only at hSw); go_simp; try with_reducible rfl
    simp only [Act.put, List.setIfInBounds_toArray, List.set_cons_zero, List.set_cons_succ]
    refine wpAnyH_take (i := 7) (oi := { dst := some 45, op := Op.load 38 (Operand.tmp 1), type := 38, pos := "law.go:39", after := #[{ on := 4, ground := Ground.guard }], guard := some (4, true) }) (v := ?_) rfl (by kernel_rfl) (by kernel_rfl) (by kernel_rfl) (fun _ _ _ h => h) (Or.inl ⟨by rfl, ?_⟩) (by assumption) ?_
    rotate_left
    · intro w hSw; (try dsimp only at hSw); go_simp; try with_reducible rfl
    simp only [Act.put, List.setIfInBounds_toArray, List.set_cons_zero, List.set_cons_succ]
    refine wpAnyH_ready (rs := [6]) (by kernel_rfl) (by simp) (AllReadyH.cons (o := { dst := some 44, op := Op.call { callee := Callee.value (Operand.func 20), args := #[Operand.tmp 43], argTypes := #[49] }, type := 38, pos := "law.go:39", after := #[{ on := 5, ground := Ground.data }, { on := 4, ground := Ground.chain }, { on := 4, ground := Ground.guard }], guard := some (4, true) }) rfl (fun KK hK => ?_) AllReadyH.nil)
    · go_simp
      go_at_call 20
      with_reducible refine (req_readQ bi _ _ a v n u d HRD.out HK.out hs).mono ?_
      rintro e wq ⟨rfl, hs⟩
      refine hK.out _ _ (req_keep hs.p2) (fun hHeld => ?_)
      clear hK KK
      try simp only [Act.put, List.setIfInBounds_toArray, List.set_cons_zero, List.set_cons_succ]
      refine wpAnyH_take (i := 8) (oi := { dst := some 46, op := Op.binOp BinOp.eql 38 (Operand.tmp 44) (Operand.tmp 45) 38, type := 4, pos := "law.go:39", after := #[{ on := 6, ground := Ground.data }, { on := 7, ground := Ground.data }, { on := 4, ground := Ground.guard }], guard := some (4, true) }) (v := ?_) rfl (by kernel_rfl) (by kernel_rfl) (by kernel_rfl) (fun _ _ _ h => h) (Or.inl ⟨by rfl, ?_⟩) (by assumption) ?_
      rotate_left
      · intro w hSw; (try dsimp only at hSw); go_simp; try with_reducible rfl
      simp only [Act.put, List.setIfInBounds_toArray, List.set_cons_zero, List.set_cons_succ]
      refine wpAnyH_take (i := 9) (oi := { dst := some 47, op := Op.pick (Operand.tmp 42) (Operand.tmp 46) (Operand.const (Value.bool false)), type := 4, pos := "law.go:39", after := #[{ on := 4, ground := Ground.data }, { on := 8, ground := Ground.data }], guard := none }) (v := ?_) rfl (by kernel_rfl) (by kernel_rfl) (by kernel_rfl) (fun _ _ _ h => h) (Or.inl ⟨by rfl, ?_⟩) (by assumption) ?_
      rotate_left
      · intro w hSw; (try dsimp only at hSw); go_simp; try with_reducible rfl
      simp only [Act.put, List.setIfInBounds_toArray, List.set_cons_zero, List.set_cons_succ]
      refine wpAnyH_take (i := 10) (oi := { dst := some 48, op := Op.move (Operand.tmp 47), type := 4, pos := "law.go:39", after := #[{ on := 9, ground := Ground.data }, { on := 6, ground := Ground.chain }], guard := none }) (v := ?_) rfl (by kernel_rfl) (by kernel_rfl) (by kernel_rfl) (fun _ _ _ h => h) (Or.inl ⟨by rfl, ?_⟩) (by assumption) ?_
      rotate_left
      · intro w hSw; (try dsimp only at hSw); go_simp; try with_reducible rfl
      simp only [Act.put, List.setIfInBounds_toArray, List.set_cons_zero, List.set_cons_succ]
      refine wpAnyH_take (i := 11) (oi := { dst := some 49, op := Op.move (Operand.tmp 7), type := 49, pos := "law.go:39", after := #[{ on := 10, ground := Ground.guard }], guard := some (10, true) }) (v := ?_) rfl (by kernel_rfl) (by kernel_rfl) (by kernel_rfl) (fun _ _ _ h => h) (Or.inl ⟨by rfl, ?_⟩) (by assumption) ?_
      rotate_left
      · intro w hSw; (try dsimp only at hSw); go_simp; try with_reducible rfl
      simp only [Act.put, List.setIfInBounds_toArray, List.set_cons_zero, List.set_cons_succ]
      refine wpAnyH_ready (rs := [12]) (by kernel_rfl) (by simp) (AllReadyH.cons (o := { dst := some 50, op := Op.call { callee := Callee.value (Operand.func 21), args := #[Operand.tmp 49], argTypes := #[49] }, type := 28, pos := "law.go:39", after := #[{ on := 11, ground := Ground.data }, { on := 10, ground := Ground.chain }, { on := 10, ground := Ground.guard }], guard := some (10, true) }) rfl (fun KK hK => ?_) AllReadyH.nil)
      · go_simp
        go_at_call 21
        with_reducible refine (s_closeQ bi _ _ 0 HC.out rfl hs).mono ?_
        rintro e wq ⟨rfl, hs⟩
        refine hK.out _ _ (req_keep hs.p2) (fun hHeld => ?_)
        clear hK KK
        try simp only [Act.put, List.setIfInBounds_toArray, List.set_cons_zero, List.set_cons_succ]
        refine wpAnyH_take (i := 13) (oi := { dst := some 51, op := Op.binOp BinOp.eql 28 (Operand.tmp 50) (Operand.const (Value.int IntKind.i64 0)) 28, type := 4, pos := "law.go:39", after := #[{ on := 12, ground := Ground.data }, { on := 10, ground := Ground.guard }], guard := some (10, true) }) (v := ?_) rfl (by kernel_rfl) (by kernel_rfl) (by kernel_rfl) (fun _ _ _ h => h) (Or.inl ⟨by rfl, ?_⟩) (by assumption) ?_
        rotate_left
        · intro w hSw; (try dsimp only at hSw); go_simp; try with_reducible rfl
        simp only [Act.put, List.setIfInBounds_toArray, List.set_cons_zero, List.set_cons_succ]
        refine wpAnyH_take (i := 14) (oi := { dst := some 52, op := Op.pick (Operand.tmp 48) (Operand.tmp 51) (Operand.const (Value.bool false)), type := 4, pos := "law.go:39", after := #[{ on := 10, ground := Ground.data }, { on := 13, ground := Ground.data }], guard := none }) (v := ?_) rfl (by kernel_rfl) (by kernel_rfl) (by kernel_rfl) (fun _ _ _ h => h) (Or.inl ⟨by rfl, ?_⟩) (by assumption) ?_
        rotate_left
        · intro w hSw; (try dsimp only at hSw); go_simp; try with_reducible rfl
        simp only [Act.put, List.setIfInBounds_toArray, List.set_cons_zero, List.set_cons_succ]
        refine wpAnyH_take (i := 15) (oi := { dst := some 2, op := Op.assign (Operand.tmp 52), type := 4, pos := "law.go:39", after := #[{ on := 14, ground := Ground.data }, { on := 12, ground := Ground.chain }, { on := 0, ground := Ground.phase }, { on := 1, ground := Ground.phase }, { on := 2, ground := Ground.phase }, { on := 3, ground := Ground.phase }, { on := 4, ground := Ground.phase }, { on := 5, ground := Ground.phase }, { on := 6, ground := Ground.phase }, { on := 7, ground := Ground.phase }, { on := 8, ground := Ground.phase }, { on := 9, ground := Ground.phase }, { on := 10, ground := Ground.phase }, { on := 11, ground := Ground.phase }, { on := 12, ground := Ground.phase }, { on := 13, ground := Ground.phase }, { on := 14, ground := Ground.phase }], guard := none }) (v := ?_) rfl (by kernel_rfl) (by kernel_rfl) (by kernel_rfl) (fun _ _ _ h => h) (Or.inl ⟨by rfl, ?_⟩) (by assumption) ?_
        rotate_left
        · intro w hSw; (try dsimp only at hSw); go_simp; try with_reducible rfl
        simp only [Act.put, List.setIfInBounds_toArray, List.set_cons_zero, List.set_cons_succ]
        refine wpAnyH_done (by kernel_rfl) ?_ _
        clear hHeld
        go_wp2_with fail
        go_ret
        exact ⟨rfl, hs.below⟩
theorem requestWrites_any (h0 : HeadS) (hR : h0.R) {W0 w : World} {K : Know} (hk : K.has Know.reqs) (h : St W0 w K []) :
    Calls Tryd.prog 5 #[.agg #[.int .i64 h0.kind, .int .i64 h0.ver, .int .i64 h0.num, .bool h0.cli.null, .string (bb h0.cli.data)]] w fun en w' => en = .returned (.bool true) ∧ Below W0.heap.size W0 w' := by
  by_cases h1 : 40000 < h0.cli.data.length
  · exact reqWrites_long h0 hR h1 hk h
  · by_cases h2 : headErr h0 = 0
    · exact reqWrites_good h0 hR (by omega) h2 hk h
    · exact reqWrites_bad h0 hR (by omega) _ rfl h2 hk h

end Go.Proofs.YtngnhdiafbjfkaaDoor
