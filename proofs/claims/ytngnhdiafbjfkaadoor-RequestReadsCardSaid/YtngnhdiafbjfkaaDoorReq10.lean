/- Layer 17, walked: RequestReads. -/
import Derived.Test.YtngnhdiafbjfkaaDoorReq10a
namespace Go.Proofs.YtngnhdiafbjfkaaDoor
open Go.RowKit

set_option maxHeartbeats 1000000 in
set_option maxRecDepth 100000 in
theorem reqReads_good (s : Bs) (hl : s.length ≤ 2000) (a v n : Int) (u : Bool) (d : Bs) (m : Nat) (e : Int) (j : InS) (hy : reHeadV (reHead s) = ⟨a, v, n, ⟨u, d⟩⟩) (hm : reHeadN (reHead s) = m) (he : reHeadE (reHead s) = e) (hrd : (⟨s, 0, 0⟩ : InS).head = (⟨a, v, n, ⟨u, d⟩⟩, j)) (hj : j.err = e)
    (g : e = 0) (hp : j.pos = m) (hms : m ≤ s.length) (B : Bs) (hB : s.take m = B) (hEB : encHead ⟨a, v, n, ⟨u, d⟩⟩ = B) (hR : HeadS.R ⟨a, v, n, ⟨u, d⟩⟩) (hdl : d.length ≤ 100000) {W0 w : World} {K : Know} (hk : K.has Know.reqs) (h : St W0 w K []) :
    Calls Tryd.prog 6 #[.string (bb s)] w fun en w' => en = .returned (.bool true) ∧ Below W0.heap.size W0 w' := by
  subst g
  have H := Lib.hid h
  have HK := Lib.hid hk
  have HSL := Lib.hid (show s.length ≤ 140737488355328 by omega)
  have HY := Lib.hid hy
  have HM := Lib.hid hm
  have HE := Lib.hid he
  have HRD := Lib.hid hrd
  have HJ := Lib.hid hj
  have d1 : decide ((2000 : Int) < (s.length : Int)) = false := decide_eq_false (by omega)
  have HP := Lib.hid (show (j.pos : Int) = (m : Int) by rw [hp])
  have HEB := Lib.hid hEB
  have HR := Lib.hid hR
  have HDL := Lib.hid hdl
  have hmi : (m : Int) ≤ (s.length : Int) := by omega
  clear h hk hl hy hm he hrd hj hp hms hEB hR hdl
  go_enter Tryd.func6, Tryd.ntmps6
  go_upto_region 10 with (first
    | (go_at_call 13; (with_reducible refine (speaks17 HK.out H.out).mono ?_); rintro e wn ⟨rfl, h⟩; replace H := Lib.hid h; clear h)
    | (go_at_call 18; (with_reducible refine (s_new _ HSL.out H.out).mono ?_); rintro e wn ⟨bi, rfl, h⟩; replace H := Lib.hid h; clear h)
    | (go_at_call 20; (with_reducible refine (req_readQ bi _ _ a v n u d HRD.out HK.out H.out).mono ?_); rintro e_ wn ⟨rfl, h⟩; have h := h.allocRaw #[.int .i64 a, .int .i64 v, .int .i64 n, .bool u, .string (bb d)] 38; obtain ⟨xb, hxb⟩ : ∃ b, wn.heap.size = b := ⟨_, rfl⟩; rw [hxb] at h; replace H := Lib.hid h; clear h)
    | (go_at_call 22; (with_reducible refine (ref17_read5 _ HSL.out a v n u d m 0 HY.out HM.out HE.out H.out).mono ?_); rintro e_ wn ⟨rfl, h⟩; have h := h.allocRaw #[.int .i64 a, .int .i64 v, .int .i64 n, .bool u, .string (bb d)] 47; obtain ⟨yb, hyb⟩ : ∃ b, wn.heap.size = b := ⟨_, rfl⟩; rw [hyb] at h; replace H := Lib.hid h; clear h)
    | (go_at_call 23; (with_reducible refine (s_errQ bi j 0 HJ.out H.out.p2).mono ?_); rintro e_ wn ⟨rfl, h⟩; replace H := Lib.hid h; clear h; obtain ⟨x0, x1, x2, x3, x4, y0, y1, y2, y3, y4⟩ := raw5 (b := xb) (H.out.p2); obtain ⟨k0, k1, k2, k3, k4, f0, f1, f2, f3, f4⟩ := raw5 (b := yb) (H.out.p1)))
  have hs := H.out.drew
  refine wp_region_held_drew (S := fun w' => w'.cell? ⟨xb, 0, none⟩ = some (.int .i64 a) ∧ w'.cell? ⟨xb, 1, none⟩ = some (.int .i64 v) ∧ w'.cell? ⟨xb, 2, none⟩ = some (.int .i64 n) ∧ w'.cell? ⟨xb, 3, none⟩ = some (.bool u) ∧ w'.cell? ⟨xb, 4, none⟩ = some (.string (bb d))) (by kernel_rfl) (req_keep hs.p2) (fun hHeld => ?_)
  refine wpAnyH_take (i := 0) (oi := { dst := some 32, op := Op.move (Operand.tmp 7), type := 3, pos := "law.go:56", after := #[], guard := none }) (v := ?_) rfl (by kernel_rfl) (by kernel_rfl) (by kernel_rfl) (fun _ _ _ h => h) (Or.inl ⟨by rfl, ?_⟩) (by assumption) ?_
  rotate_left
  · intro w hSw; (try dsimp only at hSw); go_simp; try with_reducible rfl
  simp only [Act.put, List.setIfInBounds_toArray, List.set_cons_zero, List.set_cons_succ]
  refine wpAnyH_take (i := 1) (oi := { dst := some 33, op := Op.binOp BinOp.neq 3 (Operand.tmp 32) (Operand.const (Value.int IntKind.i64 0)) 3, type := 4, pos := "law.go:56", after := #[{ on := 0, ground := Ground.data }], guard := none }) (v := ?_) rfl (by kernel_rfl) (by kernel_rfl) (by kernel_rfl) (fun _ _ _ h => h) (Or.inl ⟨by rfl, ?_⟩) (by assumption) ?_
  rotate_left
  · intro w hSw; (try dsimp only at hSw); go_simp; try with_reducible rfl
  simp only [Act.put, List.setIfInBounds_toArray, List.set_cons_zero, List.set_cons_succ]
  refine wpAnyH_take (i := 2) (oi := { dst := some 34, op := Op.move (Operand.tmp 33), type := 4, pos := "law.go:56", after := #[{ on := 1, ground := Ground.data }], guard := none }) (v := ?_) rfl (by kernel_rfl) (by kernel_rfl) (by kernel_rfl) (fun _ _ _ h => h) (Or.inl ⟨by rfl, ?_⟩) (by assumption) ?_
  rotate_left
  · intro w hSw; (try dsimp only at hSw); go_simp; try with_reducible rfl
  simp only [Act.put, List.setIfInBounds_toArray, List.set_cons_zero, List.set_cons_succ]
  refine wpAnyH_take (i := 3) (oi := { dst := some 35, op := Op.move (Operand.tmp 3), type := 49, pos := "law.go:56", after := #[{ on := 2, ground := Ground.guard }], guard := some (2, false) }) (v := ?_) rfl (by kernel_rfl) (by kernel_rfl) (by kernel_rfl) (fun _ _ _ h => h) (Or.inl ⟨by rfl, ?_⟩) (by assumption) ?_
  rotate_left
  · intro w hSw; (try dsimp only at hSw); go_simp; try with_reducible rfl
  simp only [Act.put, List.setIfInBounds_toArray, List.set_cons_zero, List.set_cons_succ]
  refine wpAnyH_take (i := 5) (oi := { dst := some 37, op := Op.move (Operand.tmp 6), type := 3, pos := "law.go:56", after := #[{ on := 2, ground := Ground.guard }], guard := some (2, false) }) (v := ?_) rfl (by kernel_rfl) (by kernel_rfl) (by kernel_rfl) (fun _ _ _ h => h) (Or.inl ⟨by rfl, ?_⟩) (by assumption) ?_
  rotate_left
  · intro w hSw; (try dsimp only at hSw); go_simp; try with_reducible rfl
  simp only [Act.put, List.setIfInBounds_toArray, List.set_cons_zero, List.set_cons_succ]
  refine wpAnyH_ready (rs := [4]) (by kernel_rfl) (by simp) (AllReadyH.cons (o := { dst := some 36, op := Op.call { callee := Callee.value (Operand.func 24), args := #[Operand.tmp 35], argTypes := #[49] }, type := 3, pos := "law.go:56", after := #[{ on := 3, ground := Ground.data }, { on := 2, ground := Ground.chain }, { on := 2, ground := Ground.guard }], guard := some (2, false) }) rfl (fun KK hK => ?_) AllReadyH.nil)
  · go_simp
    go_at_call 24
    with_reducible refine (s_atQ bi j _ HP.out hs).mono ?_
    rintro e wq ⟨rfl, hs⟩
    refine hK.out _ _ (req_keep hs.p2) (fun hHeld => ?_)
    clear hK KK
    try simp only [Act.put, List.setIfInBounds_toArray, List.set_cons_zero, List.set_cons_succ]
    refine wpAnyH_take (i := 6) (oi := { dst := some 38, op := Op.binOp BinOp.eql 3 (Operand.tmp 36) (Operand.tmp 37) 3, type := 4, pos := "law.go:56", after := #[{ on := 4, ground := Ground.data }, { on := 5, ground := Ground.data }, { on := 2, ground := Ground.guard }], guard := some (2, false) }) (v := ?_) rfl (by kernel_rfl) (by kernel_rfl) (by kernel_rfl) (fun _ _ _ h => h) (Or.inl ⟨by rfl, ?_⟩) (by assumption) ?_
    rotate_left
    · intro w hSw; (try dsimp only at hSw); go_simp; try with_reducible rfl
    simp only [Act.put, List.setIfInBounds_toArray, List.set_cons_zero, List.set_cons_succ]
    refine wpAnyH_take (i := 7) (oi := { dst := some 39, op := Op.move (Operand.tmp 38), type := 4, pos := "law.go:56", after := #[{ on := 6, ground := Ground.data }, { on := 4, ground := Ground.chain }, { on := 2, ground := Ground.guard }], guard := some (2, false) }) (v := ?_) rfl (by kernel_rfl) (by kernel_rfl) (by kernel_rfl) (fun _ _ _ h => h) (Or.inl ⟨by rfl, ?_⟩) (by assumption) ?_
    rotate_left
    · intro w hSw; (try dsimp only at hSw); go_simp; try with_reducible rfl
    simp only [Act.put, List.setIfInBounds_toArray, List.set_cons_zero, List.set_cons_succ]
    refine wpAnyH_take (i := 8) (oi := { dst := some 40, op := Op.load 38 (Operand.tmp 4), type := 38, pos := "law.go:56", after := #[{ on := 7, ground := Ground.guard }], guard := some (7, true) }) (v := ?_) rfl (by kernel_rfl) (by kernel_rfl) (by kernel_rfl) (fun _ _ _ h => h) (Or.inl ⟨by rfl, ?_⟩) (by assumption) ?_
    rotate_left
    · intro w hSw; (try dsimp only at hSw); go_simp; try with_reducible rfl
    simp only [Act.put, List.setIfInBounds_toArray, List.set_cons_zero, List.set_cons_succ]
    refine wpAnyH_take (i := 10) (oi := { dst := some 42, op := Op.move (Operand.tmp 0), type := 9, pos := "law.go:56", after := #[{ on := 7, ground := Ground.guard }], guard := some (7, true) }) (v := ?_) rfl (by kernel_rfl) (by kernel_rfl) (by kernel_rfl) (fun _ _ _ h => h) (Or.inl ⟨by rfl, ?_⟩) (by assumption) ?_
    rotate_left
    · intro w hSw; (try dsimp only at hSw); go_simp; try with_reducible rfl
    simp only [Act.put, List.setIfInBounds_toArray, List.set_cons_zero, List.set_cons_succ]
    refine wpAnyH_take (i := 11) (oi := { dst := some 43, op := Op.move (Operand.tmp 6), type := 3, pos := "law.go:56", after := #[{ on := 7, ground := Ground.guard }], guard := some (7, true) }) (v := ?_) rfl (by kernel_rfl) (by kernel_rfl) (by kernel_rfl) (fun _ _ _ h => h) (Or.inl ⟨by rfl, ?_⟩) (by assumption) ?_
    rotate_left
    · intro w hSw; (try dsimp only at hSw); go_simp; try with_reducible rfl
    simp only [Act.put, List.setIfInBounds_toArray, List.set_cons_zero, List.set_cons_succ]
    refine wpAnyH_take (i := 12) (oi := { dst := some 44, op := Op.slice 9 (Operand.tmp 42) none (some (Operand.tmp 43)) none, type := 9, pos := "law.go:56", after := #[{ on := 10, ground := Ground.data }, { on := 11, ground := Ground.data }, { on := 7, ground := Ground.guard }], guard := some (7, true) }) (v := ?_) rfl (by kernel_rfl) (by kernel_rfl) (by kernel_rfl) (fun _ _ _ h => h) (Or.inl ⟨by rfl, ?_⟩) (by assumption) ?_
    rotate_left
    · intro w hSw; (try dsimp only at hSw); go_simp; try with_reducible rfl
    simp only [Act.put, List.setIfInBounds_toArray, List.set_cons_zero, List.set_cons_succ]
    refine wpAnyH_ready (rs := [9]) (by kernel_rfl) (by simp) (AllReadyH.cons (o := { dst := some 41, op := Op.call { callee := Callee.value (Operand.func 19), args := #[Operand.tmp 40], argTypes := #[47] }, type := 9, pos := "law.go:56", after := #[{ on := 8, ground := Ground.data }, { on := 7, ground := Ground.chain }, { on := 7, ground := Ground.guard }], guard := some (7, true) }) rfl (fun KK hK => ?_) AllReadyH.nil)
    · go_simp
      go_at_call 19
      with_reducible refine (ref17_write5 a v n u d B HEB.out HR.out HDL.out hs).mono ?_
      rintro e wq ⟨rfl, hs⟩
      refine hK.out _ _ (req_keep hs.p2) (fun hHeld => ?_)
      clear hK KK
      try simp only [Act.put, List.setIfInBounds_toArray, List.set_cons_zero, List.set_cons_succ]
      refine wpAnyH_take (i := 13) (oi := { dst := some 45, op := Op.binOp BinOp.eql 9 (Operand.tmp 41) (Operand.tmp 44) 9, type := 4, pos := "law.go:56", after := #[{ on := 9, ground := Ground.data }, { on := 12, ground := Ground.data }, { on := 7, ground := Ground.guard }], guard := some (7, true) }) (v := ?_) rfl (by kernel_rfl) (by kernel_rfl) (by kernel_rfl) (fun _ _ _ h => h) (Or.inl ⟨by rfl, ?_⟩) (by assumption) ?_
      rotate_left
      · intro w hSw; (try dsimp only at hSw); go_simp; try with_reducible rfl
      simp only [Act.put, List.setIfInBounds_toArray, List.set_cons_zero, List.set_cons_succ]
      refine wpAnyH_take (i := 14) (oi := { dst := some 46, op := Op.pick (Operand.tmp 39) (Operand.tmp 45) (Operand.const (Value.bool false)), type := 4, pos := "law.go:56", after := #[{ on := 7, ground := Ground.data }, { on := 13, ground := Ground.data }, { on := 2, ground := Ground.guard }], guard := some (2, false) }) (v := ?_) rfl (by kernel_rfl) (by kernel_rfl) (by kernel_rfl) (fun _ _ _ h => h) (Or.inl ⟨by rfl, ?_⟩) (by assumption) ?_
      rotate_left
      · intro w hSw; (try dsimp only at hSw); go_simp; try with_reducible rfl
      simp only [Act.put, List.setIfInBounds_toArray, List.set_cons_zero, List.set_cons_succ]
      refine wpAnyH_take (i := 15) (oi := { dst := some 47, op := Op.pick (Operand.tmp 34) (Operand.const (Value.bool true)) (Operand.tmp 46), type := 4, pos := "law.go:56", after := #[{ on := 2, ground := Ground.data }, { on := 14, ground := Ground.data }], guard := none }) (v := ?_) rfl (by kernel_rfl) (by kernel_rfl) (by kernel_rfl) (fun _ _ _ h => h) (Or.inl ⟨by rfl, ?_⟩) (by assumption) ?_
      rotate_left
      · intro w hSw; (try dsimp only at hSw); go_simp; try with_reducible rfl
      simp only [Act.put, List.setIfInBounds_toArray, List.set_cons_zero, List.set_cons_succ]
      refine wpAnyH_take (i := 16) (oi := { dst := some 2, op := Op.assign (Operand.tmp 47), type := 4, pos := "law.go:56", after := #[{ on := 15, ground := Ground.data }, { on := 9, ground := Ground.chain }, { on := 0, ground := Ground.phase }, { on := 1, ground := Ground.phase }, { on := 2, ground := Ground.phase }, { on := 3, ground := Ground.phase }, { on := 4, ground := Ground.phase }, { on := 5, ground := Ground.phase }, { on := 6, ground := Ground.phase }, { on := 7, ground := Ground.phase }, { on := 8, ground := Ground.phase }, { on := 9, ground := Ground.phase }, { on := 10, ground := Ground.phase }, { on := 11, ground := Ground.phase }, { on := 12, ground := Ground.phase }, { on := 13, ground := Ground.phase }, { on := 14, ground := Ground.phase }, { on := 15, ground := Ground.phase }], guard := none }) (v := ?_) rfl (by kernel_rfl) (by kernel_rfl) (by kernel_rfl) (fun _ _ _ h => h) (Or.inl ⟨by rfl, ?_⟩) (by assumption) ?_
      rotate_left
      · intro w hSw; (try dsimp only at hSw); go_simp; try with_reducible rfl
      simp only [Act.put, List.setIfInBounds_toArray, List.set_cons_zero, List.set_cons_succ]
      refine wpAnyH_done (by kernel_rfl) ?_ _
      clear hHeld
      go_wp2_with fail
      go_ret
      exact ⟨rfl, hs.below⟩
theorem requestReads_any (s : Bs) (_ : s.length ≤ maxLen) {W0 w : World} {K : Know} (hk : K.has Know.reqs) (h : St W0 w K []) :
    Calls Tryd.prog 6 #[.string (bb s)] w fun en w' => en = .returned (.bool true) ∧ Below W0.heap.size W0 w' := by
  by_cases hl : 2000 < s.length
  · exact reqReads_long s hl hk h
  cases hx : reHead s with
  | error e =>
    obtain ⟨he, q, hq, hf⟩ := rds_head.err s 0 e (Nat.zero_le _) (by rw [List.drop_zero]; exact hx)
    exact reqReads_bad s (by omega) 0 0 0 false [] 0 e ⟨s, q, e⟩ (by rw [hx]; rfl) (by rw [hx]; rfl) (by rw [hx]; rfl) hf rfl he hk h
  | ok x =>
    obtain ⟨⟨a, v, n, ⟨u, d⟩⟩, m⟩ := x
    obtain ⟨hq, hf⟩ := rds_head.ok s 0 _ m (Nat.zero_le _) (by rw [List.drop_zero]; exact hx)
    obtain ⟨e1, e2, e3⟩ := reHead_one _ _ _ hx
    rw [Nat.zero_add] at hf
    have hR : HeadS.R ⟨a, v, n, ⟨u, d⟩⟩ := by
      unfold reHead at hx
      by_cases h1 : s.length < 4
      · rw [if_pos h1] at hx; cases hx
      rw [if_neg h1] at hx
      by_cases h2 : verErr (sInt (s.take 2)) (sInt ((s.drop 2).take 2)) = 0
      · rw [if_neg (fun x => x h2)] at hx
        by_cases h3 : s.length < 8
        · rw [if_pos h3] at hx; cases hx
        rw [if_neg h3] at hx
        cases hf : refixed 2 (s.drop 8) with
        | error e => rw [hf] at hx; cases hx
        | ok x =>
          rw [hf] at hx
          simp only [Except.ok.injEq, Prod.mk.injEq, HeadS.mk.injEq] at hx
          obtain ⟨⟨rfl, rfl, rfl, _⟩, _⟩ := hx
          have b1 := sInt_range (s.take 2) (by rw [List.length_take]; omega)
          have b2 := sInt_range ((s.drop 2).take 2) (by rw [List.length_take]; omega)
          have b3 := sInt_range ((s.drop 4).take 4) (by rw [List.length_take]; omega)
          exact ⟨b1, b2, b3⟩
      · rw [if_pos h2] at hx; cases hx
    exact reqReads_good s (by omega) a v n u d m 0 ⟨s, m, 0⟩ (by rw [hx]; rfl) (by rw [hx]; rfl) (by rw [hx]; rfl) hf rfl rfl rfl e2 _ rfl e1 hR (by simp only at e3; omega) hk h

end Go.Proofs.YtngnhdiafbjfkaaDoor
