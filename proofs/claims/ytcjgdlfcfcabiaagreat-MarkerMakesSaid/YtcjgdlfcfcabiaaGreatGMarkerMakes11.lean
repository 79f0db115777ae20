/- Any end of a transaction as a batch, or why there is none, and it is told by that batch, and by its bytes: proved of all numbers. -/
import Derived.Test.YtcjgdlfcfcabiaaGreatGMarkerMakes3
import Derived.Test.YtcjgdlfcfcabiaaGreatGMarkerMakes9
import Derived.Test.YtcjgdlfcfcabiaaGreatGMarkerMakes6
import Derived.Test.YtcjgdlfcfcabiaaGreatGMarkerMakes10
import Derived.Deep.RegionHeld3
import Derived.Deep.DeepCutAuto
import Derived.Test.YtcjgdlfcfcabiaaGreatGMarkerMakes7
import Derived.Lib.SmallJoins
import Derived.Test.YtcjgdlfcfcabiaaGreatArgs
/- Layer 12, walked: MarkerMakes: batches. -/
namespace Go.Proofs.YtcjgdlfcfcabiaaGreat
open Go.RowKit

set_option maxHeartbeats 4000000 in
set_option maxRecDepth 100000 in
theorem mm_ok (base leader : Int) (n1 n2 n3 n4 n5 : Int) (hn3 : Rn n3) (hn5 : Rn n5) (hmx : n4 ≤ 9223372036854775807) (ks vs : Bs) (hks : ctlKey n3 = (ks, 0)) (hvs : ctlVal n5 = (vs, 0)) (hfr : (⟨0, 0, ⟨false, ks⟩, ⟨false, vs⟩, []⟩ : RecS).R ∧ HFit (⟨0, 0, ⟨false, ks⟩, ⟨false, vs⟩, []⟩ : RecS).hdrs ∧ (⟨0, 0, ⟨false, ks⟩, ⟨false, vs⟩, []⟩ : RecS).sum ≤ 1000000) (he : batErr (⟨base, leader, false, true, true, 0, n4, n4, n1, n2, -1, [(⟨0, 0, ⟨false, ks⟩, ⟨false, vs⟩, []⟩ : RecS)]⟩ : BatS) = 0) (so : SmallOk (⟨base, leader, false, true, true, 0, n4, n4, n1, n2, -1, [(⟨0, 0, ⟨false, ks⟩, ⟨false, vs⟩, []⟩ : RecS)]⟩ : BatS)) (hrb : Rn base) {W0 w : World} {K : Know} (h : St W0 w K []) :
    Calls Tryz.prog 4 #[.int .i64 base, .int .i64 leader, .agg #[.int .i64 n1, .int .i64 n2, .int .i64 n3, .int .i64 n4, .int .i64 n5]] w fun en w' => en = .returned (.bool true) ∧ Below W0.heap.size W0 w' := by
  have g1 := h.allocRaw #[.int .i64 n1, .int .i64 n2, .int .i64 n3, .int .i64 n4, .int .i64 n5] 37
  obtain ⟨eb, heb⟩ : ∃ b, w.heap.size = b := ⟨_, rfl⟩
  rw [heb] at g1
  obtain ⟨⟨x0, x1, x2, x3, x4⟩, y0, y1, y2, y3, y4⟩ := raw5e (b := eb) (g1)
  have H := Lib.hid g1
  have HN3 := Lib.hid hn3
  have HN5 := Lib.hid hn5
  clear h g1 hn3 hn5
  have HE := Lib.hid he
  have HM3 := Lib.hid (show -9223372036854775808 ≤ n3 ∧ n3 < 9223372036854775808 from HN3.out)
  have HM5 := Lib.hid (show -9223372036854775808 ≤ n5 ∧ n5 < 9223372036854775808 from HN5.out)
  have HRB := Lib.hid hrb
  have HMX := Lib.hid hmx
  have HKS := Lib.hid hks
  have HVS := Lib.hid hvs
  have HFR := Lib.hid hfr
  have hk3 : n3 = 0 ∨ n3 = 1 := by unfold ctlKey at hks; split at hks <;> cases hks; assumption
  have hk5 : 0 ≤ n5 ∧ n5 < 2147483648 := by unfold ctlVal at hvs; split at hvs <;> cases hvs; assumption
  have k5 : decide (n5 < 0) = false := decide_eq_false (by omega)
  have k6 : decide (2147483647 < n5) = false := decide_eq_false (by omega)
  have kk : ((n3 == 0) = true ∧ (n3 != 0) = false) ∨ ((n3 == 0) = false ∧ (n3 != 0) = true ∧ (n3 == 1) = true ∧ (n3 != 1) = false) := by
    rcases hk3 with rfl | rfl
    · exact .inl (by decide)
    · exact .inr (by decide)
  have HSO := Lib.hid so
  obtain ⟨s, hss⟩ : ∃ s, BatS.enc (⟨base, leader, false, true, true, 0, n4, n4, n1, n2, -1, [(⟨0, 0, ⟨false, ks⟩, ⟨false, vs⟩, []⟩ : RecS)]⟩ : BatS) = s := ⟨_, rfl⟩
  have HS := Lib.hid hss
  have HSL := Lib.hid (show s.length ≤ 1000000 by have := so.elen; rw [hss] at this; omega)
  have HD1 := Lib.hid (show batD s = .ok (⟨base, leader, false, true, true, 0, n4, n4, n1, n2, -1, [(⟨0, 0, ⟨false, ks⟩, ⟨false, vs⟩, []⟩ : RecS)]⟩ : BatS) by rw [← hss]; exact own_pure so)
  have HEN := Lib.hid (endOf_mark base leader n1 n2 n3 n4 n5 ks vs hks hvs he)
  have ge : (s == s) = true := beq_self_eq_true _
  clear hks hvs hk3 hk5 hmx he hrb hfr so hss
  rcases kk with ⟨k0, k1⟩ | ⟨k0, k1, k2, k3⟩
  · go_enter Tryz.func4, Tryz.ntmps4
    go_upto_region 12 with (first
      | (go_at_call 15; clear x0 x1 x2 x3 x4 y0 y1 y2 y3 y4; (with_reducible refine (speaks12 H.out).mono ?_); rintro e_ wn ⟨rfl, K2, hk2, h⟩; clear hk2; replace H := Lib.hid h; clear h; obtain ⟨⟨x0, x1, x2, x3, x4⟩, y0, y1, y2, y3, y4⟩ := raw5e (b := eb) (H.out))
      | (go_at_call 16; clear x0 x1 x2 x3 x4 y0 y1 y2 y3 y4; (with_reducible refine (mrk_batch_ok base leader n1 n2 n3 n4 n5 HN3.out HN5.out HMX.out ks vs HKS.out HVS.out HFR.out HE.out H.out).mono ?_); rintro e_ wn ⟨q, rfl, h⟩; obtain ⟨bb_, hbb⟩ : ∃ b, wn.heap.size = b := ⟨_, rfl⟩; have h := h.allocRaw #[.int .i64 base, .int .i64 leader, .bool false, .bool true, .bool true, .int .i64 0, .int .i64 n4, .int .i64 n4, .int .i64 n1, .int .i64 n2, .int .i64 (-1), .slice q 1 1] 24; rw [hbb] at h; replace H := Lib.hid h; clear h; obtain ⟨⟨x0, x1, x2, x3, x4⟩, y0, y1, y2, y3, y4⟩ := raw5e (b := eb) (H.out.p1); obtain ⟨z0, z1, z2, z3, z4, z5, z6, z7, z8, z9, z10, z11, v0, v1, v2, v3, v4, v5, v6, v7, v8, v9, v10, v11⟩ := raw12 (b := bb_) (H.out))
      | (go_at_call 17; clear x0 x1 x2 x3 x4 y0 y1 y2 y3 y4; clear z0 v0 z1 v1 z2 v2 z3 v3 z4 v4 z5 v5 z6 v6 z7 v7 z8 v8 z9 v9 z10 v10 z11 v11; (with_reducible refine (mrk_encode_ok base leader n1 n2 n3 n4 n5 HN3.out HN5.out HMX.out ks vs HKS.out HVS.out HFR.out HE.out HSO.out s HS.out H.out).mono ?_); rintro e_ wn ⟨rfl, h⟩; obtain ⟨⟨x0, x1, x2, x3, x4⟩, y0, y1, y2, y3, y4⟩ := raw5e (b := eb) (h.p1); obtain ⟨yb, hyb⟩ : ∃ b, wn.heap.size = b := ⟨_, rfl⟩; have h := h.allocRaw #[.int .i64 0, .int .i64 0, .bool false, .bool false, .bool false, .int .i64 0, .int .i64 0, .int .i64 0, .int .i64 0, .int .i64 0, .int .i64 0, .slice none 0 0] 24; rw [hyb] at h; replace H := Lib.hid h; clear h))
    go_cut [13] (fun s13 wx => ∃ rb : Nat, s13 = .pointer (some ⟨rb, 0, none⟩) ∧ St W0 wx (K2.and (Know.recs (.slice q 1 1) [((⟨0, 0, ⟨false, ks⟩, ⟨false, vs⟩, []⟩ : RecS), .slice none 0 0)])) [.raw rb #[.int .i64 0, .int .i64 0, .bool false, .string (bb ks), .bool false, .string (bb vs), .slice none 0 0] 45, .raw yb #[.int .i64 0, .int .i64 0, .bool false, .bool false, .bool false, .int .i64 0, .int .i64 0, .int .i64 0, .int .i64 0, .int .i64 0, .int .i64 0, .slice none 0 0] 24, .raw bb_ #[.int .i64 base, .int .i64 leader, .bool false, .bool true, .bool true, .int .i64 0, .int .i64 n4, .int .i64 n4, .int .i64 n1, .int .i64 n2, .int .i64 (-1), .slice q 1 1] 24, .raw eb #[.int .i64 n1, .int .i64 n2, .int .i64 n3, .int .i64 n4, .int .i64 n5] 37])
    case first =>
      clear x0 x1 x2 x3 x4 y0 y1 y2 y3 y4
      have hs := H.out.drew
      refine wp_region_held_drew (S := fun w' => w'.cell? ⟨eb, 0, none⟩ = some (.int .i64 n1) ∧ w'.cell? ⟨eb, 1, none⟩ = some (.int .i64 n2) ∧ w'.cell? ⟨eb, 2, none⟩ = some (.int .i64 n3) ∧ w'.cell? ⟨eb, 3, none⟩ = some (.int .i64 n4) ∧ w'.cell? ⟨eb, 4, none⟩ = some (.int .i64 n5)) (by kernel_rfl) ((raw5e (b := eb) (hs.p2)).1) (fun hHeld => ?_)
      refine wpAnyH_take (i := 0) (oi := { dst := some 54, op := Op.fieldAddr 37 (Operand.tmp 5) 2, type := 0, pos := "law.go:37", after := #[], guard := none }) (v := ?_) rfl (by kernel_rfl) (by kernel_rfl) (by kernel_rfl) (fun _ _ _ h => h) (Or.inl ⟨by rfl, ?_⟩) (by assumption) ?_
      rotate_left
      · intro w hSw; (try dsimp only at hSw); go_simp; try with_reducible rfl
      simp only [Act.put, List.setIfInBounds_toArray, List.set_cons_zero, List.set_cons_succ]
      refine wpAnyH_take (i := 1) (oi := { dst := some 55, op := Op.load 3 (Operand.tmp 54), type := 3, pos := "law.go:37", after := #[{ on := 0, ground := Ground.data }], guard := none }) (v := ?_) rfl (by kernel_rfl) (by kernel_rfl) (by kernel_rfl) (fun _ _ _ h => h) (Or.inl ⟨by rfl, ?_⟩) (by assumption) ?_
      rotate_left
      · intro w hSw; (try dsimp only at hSw); go_simp; try with_reducible rfl
      simp only [Act.put, List.setIfInBounds_toArray, List.set_cons_zero, List.set_cons_succ]
      refine wpAnyH_take (i := 4) (oi := { dst := some 58, op := Op.fieldAddr 37 (Operand.tmp 5) 4, type := 0, pos := "law.go:37", after := #[], guard := none }) (v := ?_) rfl (by kernel_rfl) (by kernel_rfl) (by kernel_rfl) (fun _ _ _ h => h) (Or.inl ⟨by rfl, ?_⟩) (by assumption) ?_
      rotate_left
      · intro w hSw; (try dsimp only at hSw); go_simp; try with_reducible rfl
      simp only [Act.put, List.setIfInBounds_toArray, List.set_cons_zero, List.set_cons_succ]
      refine wpAnyH_take (i := 5) (oi := { dst := some 59, op := Op.load 3 (Operand.tmp 58), type := 3, pos := "law.go:37", after := #[{ on := 4, ground := Ground.data }], guard := none }) (v := ?_) rfl (by kernel_rfl) (by kernel_rfl) (by kernel_rfl) (fun _ _ _ h => h) (Or.inl ⟨by rfl, ?_⟩) (by assumption) ?_
      rotate_left
      · intro w hSw; (try dsimp only at hSw); go_simp; try with_reducible rfl
      simp only [Act.put, List.setIfInBounds_toArray, List.set_cons_zero, List.set_cons_succ]
      refine wpAnyH_ready (rs := [2, 9]) (by kernel_rfl) (by simp) (AllReadyH.cons (o := { dst := some 56, op := Op.call { callee := Callee.value (Operand.func 18), args := #[Operand.tmp 55], argTypes := #[3] }, type := 9, pos := "law.go:37", after := #[{ on := 1, ground := Ground.data }], guard := none }) rfl (fun KK hK => ?_) (AllReadyH.cons (o := { dst := some 13, op := Op.alloc 45, type := 0, pos := "law.go:37", after := #[], guard := none }) rfl (fun KK hK => ?_) AllReadyH.nil))
      · go_simp
        go_at_call 18
        with_reducible refine (ref08_keyK n3 HM3.out ks HKS.out hs).mono ?_
        rintro e wq ⟨rfl, hs⟩
        refine hK.out _ _ ((raw5e (b := eb) (hs.p2)).1) (fun hHeld => ?_)
        clear hK KK
        try simp only [Act.put, List.setIfInBounds_toArray, List.set_cons_zero, List.set_cons_succ]
        refine wpAnyH_take (i := 3) (oi := { dst := some 57, op := Op.build 42 #[(1, Operand.tmp 56)], type := 42, pos := "law.go:37", after := #[{ on := 2, ground := Ground.data }], guard := none }) (v := ?_) rfl (by kernel_rfl) (by kernel_rfl) (by kernel_rfl) (fun _ _ _ h => h) (Or.inl ⟨by rfl, ?_⟩) (by assumption) ?_
        rotate_left
        · intro w hSw; (try dsimp only at hSw); go_simp; try with_reducible rfl
        simp only [Act.put, List.setIfInBounds_toArray, List.set_cons_zero, List.set_cons_succ]
        refine wpAnyH_ready (rs := [6, 9]) (by kernel_rfl) (by simp) (AllReadyH.cons (o := { dst := some 60, op := Op.call { callee := Callee.value (Operand.func 19), args := #[Operand.tmp 59], argTypes := #[3] }, type := 9, pos := "law.go:37", after := #[{ on := 5, ground := Ground.data }, { on := 2, ground := Ground.chain }], guard := none }) rfl (fun KK hK => ?_) (AllReadyH.cons (o := { dst := some 13, op := Op.alloc 45, type := 0, pos := "law.go:37", after := #[], guard := none }) rfl (fun KK hK => ?_) AllReadyH.nil))
        · go_simp
          go_at_call 19
          with_reducible refine (ref08_valueK n5 HM5.out vs HVS.out hs).mono ?_
          rintro e wq ⟨rfl, hs⟩
          refine hK.out _ _ ((raw5e (b := eb) (hs.p2)).1) (fun hHeld => ?_)
          clear hK KK
          try simp only [Act.put, List.setIfInBounds_toArray, List.set_cons_zero, List.set_cons_succ]
          refine wpAnyH_take (i := 7) (oi := { dst := some 61, op := Op.build 42 #[(1, Operand.tmp 60)], type := 42, pos := "law.go:37", after := #[{ on := 6, ground := Ground.data }], guard := none }) (v := ?_) rfl (by kernel_rfl) (by kernel_rfl) (by kernel_rfl) (fun _ _ _ h => h) (Or.inl ⟨by rfl, ?_⟩) (by assumption) ?_
          rotate_left
          · intro w hSw; (try dsimp only at hSw); go_simp; try with_reducible rfl
          simp only [Act.put, List.setIfInBounds_toArray, List.set_cons_zero, List.set_cons_succ]
          refine wpAnyH_take (i := 8) (oi := { dst := some 62, op := Op.build 45 #[(2, Operand.tmp 57), (3, Operand.tmp 61)], type := 45, pos := "law.go:37", after := #[{ on := 3, ground := Ground.data }, { on := 7, ground := Ground.data }], guard := none }) (v := ?_) rfl (by kernel_rfl) (by kernel_rfl) (by kernel_rfl) (fun _ _ _ h => h) (Or.inl ⟨by rfl, ?_⟩) (by assumption) ?_
          rotate_left
          · intro w hSw; (try dsimp only at hSw); go_simp; try with_reducible rfl
          simp only [Act.put, List.setIfInBounds_toArray, List.set_cons_zero, List.set_cons_succ]
          refine wpAnyH_ready (rs := [9]) (by kernel_rfl) (by simp) (AllReadyH.cons (o := { dst := some 13, op := Op.alloc 45, type := 0, pos := "law.go:37", after := #[], guard := none }) rfl (fun KK hK => ?_) AllReadyH.nil)
          · obtain ⟨wy, rb, ey, er, hs⟩ := hs.allocEx #[.int .i64 0, .int .i64 0, .bool false, .string ⟨#[]⟩, .bool false, .string ⟨#[]⟩, .slice none 0 0] 45
            go_simp
            try rw [ey]
            try rw [er]
            clear ey er
            refine hK.out _ _ ((raw5e (b := eb) (hs.p3)).1) (fun hHeld => ?_)
            clear hK KK
            try simp only [Act.put, List.setIfInBounds_toArray, List.set_cons_zero, List.set_cons_succ]
            refine wpAnyH_ready (rs := [10]) (by kernel_rfl) (by simp) (AllReadyH.cons (o := { dst := none, op := Op.store 45 (Operand.tmp 13) (Operand.tmp 62), type := 0, pos := "law.go:37", after := #[{ on := 9, ground := Ground.data }, { on := 8, ground := Ground.data }, { on := 6, ground := Ground.chain }, { on := 0, ground := Ground.phase }, { on := 1, ground := Ground.phase }, { on := 2, ground := Ground.phase }, { on := 3, ground := Ground.phase }, { on := 4, ground := Ground.phase }, { on := 5, ground := Ground.phase }, { on := 6, ground := Ground.phase }, { on := 7, ground := Ground.phase }, { on := 8, ground := Ground.phase }, { on := 9, ground := Ground.phase }], guard := none }) rfl (fun KK hK => ?_) AllReadyH.nil)
            · rw [if_pos (by rfl)]
              refine wp_store_mid 45 (.tmp 13) (.tmp 62) rfl rb 0 #[.int .i64 0, .int .i64 0, .bool false, .string (bb ks), .bool false, .string (bb vs), .slice none 0 0] (by rfl) (by rfl) hs.there (by kernel_rfl) (by simp [Value.oneCell']) ?_
              obtain ⟨wz, ez, hs⟩ := hs.storeEx #[.int .i64 0, .int .i64 0, .bool false, .string (bb ks), .bool false, .string (bb vs), .slice none 0 0]
              rw [ez]
              clear ez
              refine hK.out _ _ ((raw5e (b := eb) (hs.p3)).1) (fun hHeld => ?_)
              clear hK KK
              try simp only [Act.put, List.setIfInBounds_toArray, List.set_cons_zero, List.set_cons_succ]
              refine wpAnyH_done (by kernel_rfl) ?_ _
              clear hHeld
              rw [setAll_all] at hs
              rotate_left
              · rfl
              go_wp2_with fail
              go_meet
              exact ⟨_, rfl, hs⟩
        · obtain ⟨wy, rb, ey, er, hs⟩ := hs.allocEx #[.int .i64 0, .int .i64 0, .bool false, .string ⟨#[]⟩, .bool false, .string ⟨#[]⟩, .slice none 0 0] 45
          go_simp
          try rw [ey]
          try rw [er]
          clear ey er
          refine hK.out _ _ ((raw5e (b := eb) (hs.p3)).1) (fun hHeld => ?_)
          clear hK KK
          try simp only [Act.put, List.setIfInBounds_toArray, List.set_cons_zero, List.set_cons_succ]
          refine wpAnyH_ready (rs := [6]) (by kernel_rfl) (by simp) (AllReadyH.cons (o := { dst := some 60, op := Op.call { callee := Callee.value (Operand.func 19), args := #[Operand.tmp 59], argTypes := #[3] }, type := 9, pos := "law.go:37", after := #[{ on := 5, ground := Ground.data }, { on := 2, ground := Ground.chain }], guard := none }) rfl (fun KK hK => ?_) AllReadyH.nil)
          · go_simp
            go_at_call 19
            with_reducible refine (ref08_valueK n5 HM5.out vs HVS.out hs).mono ?_
            rintro e wq ⟨rfl, hs⟩
            refine hK.out _ _ ((raw5e (b := eb) (hs.p3)).1) (fun hHeld => ?_)
            clear hK KK
            try simp only [Act.put, List.setIfInBounds_toArray, List.set_cons_zero, List.set_cons_succ]
            refine wpAnyH_take (i := 7) (oi := { dst := some 61, op := Op.build 42 #[(1, Operand.tmp 60)], type := 42, pos := "law.go:37", after := #[{ on := 6, ground := Ground.data }], guard := none }) (v := ?_) rfl (by kernel_rfl) (by kernel_rfl) (by kernel_rfl) (fun _ _ _ h => h) (Or.inl ⟨by rfl, ?_⟩) (by assumption) ?_
            rotate_left
            · intro w hSw; (try dsimp only at hSw); go_simp; try with_reducible rfl
            simp only [Act.put, List.setIfInBounds_toArray, List.set_cons_zero, List.set_cons_succ]
            refine wpAnyH_take (i := 8) (oi := { dst := some 62, op := Op.build 45 #[(2, Operand.tmp 57), (3, Operand.tmp 61)], type := 45, pos := "law.go:37", after := #[{ on := 3, ground := Ground.data }, { on := 7, ground := Ground.data }], guard := none }) (v := ?_) rfl (by kernel_rfl) (by kernel_rfl) (by kernel_rfl) (fun _ _ _ h => h) (Or.inl ⟨by rfl, ?_⟩) (by assumption) ?_
            rotate_left
            · intro w hSw; (try dsimp only at hSw); go_simp; try with_reducible rfl
            simp only [Act.put, List.setIfInBounds_toArray, List.set_cons_zero, List.set_cons_succ]
            refine wpAnyH_ready (rs := [10]) (by kernel_rfl) (by simp) (AllReadyH.cons (o := { dst := none, op := Op.store 45 (Operand.tmp 13) (Operand.tmp 62), type := 0, pos := "law.go:37", after := #[{ on := 9, ground := Ground.data }, { on := 8, ground := Ground.data }, { on := 6, ground := Ground.chain }, { on := 0, ground := Ground.phase }, { on := 1, ground := Ground.phase }, { on := 2, ground := Ground.phase }, { on := 3, ground := Ground.phase }, { on := 4, ground := Ground.phase }, { on := 5, ground := Ground.phase }, { on := 6, ground := Ground.phase }, { on := 7, ground := Ground.phase }, { on := 8, ground := Ground.phase }, { on := 9, ground := Ground.phase }], guard := none }) rfl (fun KK hK => ?_) AllReadyH.nil)
            · rw [if_pos (by rfl)]
              refine wp_store_mid 45 (.tmp 13) (.tmp 62) rfl rb 0 #[.int .i64 0, .int .i64 0, .bool false, .string (bb ks), .bool false, .string (bb vs), .slice none 0 0] (by rfl) (by rfl) hs.there (by kernel_rfl) (by simp [Value.oneCell']) ?_
              obtain ⟨wz, ez, hs⟩ := hs.storeEx #[.int .i64 0, .int .i64 0, .bool false, .string (bb ks), .bool false, .string (bb vs), .slice none 0 0]
              rw [ez]
              clear ez
              refine hK.out _ _ ((raw5e (b := eb) (hs.p3)).1) (fun hHeld => ?_)
              clear hK KK
              try simp only [Act.put, List.setIfInBounds_toArray, List.set_cons_zero, List.set_cons_succ]
              refine wpAnyH_done (by kernel_rfl) ?_ _
              clear hHeld
              rw [setAll_all] at hs
              rotate_left
              · rfl
              go_wp2_with fail
              go_meet
              exact ⟨_, rfl, hs⟩
      · obtain ⟨wy, rb, ey, er, hs⟩ := hs.allocEx #[.int .i64 0, .int .i64 0, .bool false, .string ⟨#[]⟩, .bool false, .string ⟨#[]⟩, .slice none 0 0] 45
        go_simp
        try rw [ey]
        try rw [er]
        clear ey er
        refine hK.out _ _ ((raw5e (b := eb) (hs.p3)).1) (fun hHeld => ?_)
        clear hK KK
        try simp only [Act.put, List.setIfInBounds_toArray, List.set_cons_zero, List.set_cons_succ]
        refine wpAnyH_ready (rs := [2]) (by kernel_rfl) (by simp) (AllReadyH.cons (o := { dst := some 56, op := Op.call { callee := Callee.value (Operand.func 18), args := #[Operand.tmp 55], argTypes := #[3] }, type := 9, pos := "law.go:37", after := #[{ on := 1, ground := Ground.data }], guard := none }) rfl (fun KK hK => ?_) AllReadyH.nil)
        · go_simp
          go_at_call 18
          with_reducible refine (ref08_keyK n3 HM3.out ks HKS.out hs).mono ?_
          rintro e wq ⟨rfl, hs⟩
          refine hK.out _ _ ((raw5e (b := eb) (hs.p3)).1) (fun hHeld => ?_)
          clear hK KK
          try simp only [Act.put, List.setIfInBounds_toArray, List.set_cons_zero, List.set_cons_succ]
          refine wpAnyH_take (i := 3) (oi := { dst := some 57, op := Op.build 42 #[(1, Operand.tmp 56)], type := 42, pos := "law.go:37", after := #[{ on := 2, ground := Ground.data }], guard := none }) (v := ?_) rfl (by kernel_rfl) (by kernel_rfl) (by kernel_rfl) (fun _ _ _ h => h) (Or.inl ⟨by rfl, ?_⟩) (by assumption) ?_
          rotate_left
          · intro w hSw; (try dsimp only at hSw); go_simp; try with_reducible rfl
          simp only [Act.put, List.setIfInBounds_toArray, List.set_cons_zero, List.set_cons_succ]
          refine wpAnyH_ready (rs := [6]) (by kernel_rfl) (by simp) (AllReadyH.cons (o := { dst := some 60, op := Op.call { callee := Callee.value (Operand.func 19), args := #[Operand.tmp 59], argTypes := #[3] }, type := 9, pos := "law.go:37", after := #[{ on := 5, ground := Ground.data }, { on := 2, ground := Ground.chain }], guard := none }) rfl (fun KK hK => ?_) AllReadyH.nil)
          · go_simp
            go_at_call 19
            with_reducible refine (ref08_valueK n5 HM5.out vs HVS.out hs).mono ?_
            rintro e wq ⟨rfl, hs⟩
            refine hK.out _ _ ((raw5e (b := eb) (hs.p3)).1) (fun hHeld => ?_)
            clear hK KK
            try simp only [Act.put, List.setIfInBounds_toArray, List.set_cons_zero, List.set_cons_succ]
            refine wpAnyH_take (i := 7) (oi := { dst := some 61, op := Op.build 42 #[(1, Operand.tmp 60)], type := 42, pos := "law.go:37", after := #[{ on := 6, ground := Ground.data }], guard := none }) (v := ?_) rfl (by kernel_rfl) (by kernel_rfl) (by kernel_rfl) (fun _ _ _ h => h) (Or.inl ⟨by rfl, ?_⟩) (by assumption) ?_
            rotate_left
            · intro w hSw; (try dsimp only at hSw); go_simp; try with_reducible rfl
            simp only [Act.put, List.setIfInBounds_toArray, List.set_cons_zero, List.set_cons_succ]
            refine wpAnyH_take (i := 8) (oi := { dst := some 62, op := Op.build 45 #[(2, Operand.tmp 57), (3, Operand.tmp 61)], type := 45, pos := "law.go:37", after := #[{ on := 3, ground := Ground.data }, { on := 7, ground := Ground.data }], guard := none }) (v := ?_) rfl (by kernel_rfl) (by kernel_rfl) (by kernel_rfl) (fun _ _ _ h => h) (Or.inl ⟨by rfl, ?_⟩) (by assumption) ?_
            rotate_left
            · intro w hSw; (try dsimp only at hSw); go_simp; try with_reducible rfl
            simp only [Act.put, List.setIfInBounds_toArray, List.set_cons_zero, List.set_cons_succ]
            refine wpAnyH_ready (rs := [10]) (by kernel_rfl) (by simp) (AllReadyH.cons (o := { dst := none, op := Op.store 45 (Operand.tmp 13) (Operand.tmp 62), type := 0, pos := "law.go:37", after := #[{ on := 9, ground := Ground.data }, { on := 8, ground := Ground.data }, { on := 6, ground := Ground.chain }, { on := 0, ground := Ground.phase }, { on := 1, ground := Ground.phase }, { on := 2, ground := Ground.phase }, { on := 3, ground := Ground.phase }, { on := 4, ground := Ground.phase }, { on := 5, ground := Ground.phase }, { on := 6, ground := Ground.phase }, { on := 7, ground := Ground.phase }, { on := 8, ground := Ground.phase }, { on := 9, ground := Ground.phase }], guard := none }) rfl (fun KK hK => ?_) AllReadyH.nil)
            · rw [if_pos (by rfl)]
              refine wp_store_mid 45 (.tmp 13) (.tmp 62) rfl rb 0 #[.int .i64 0, .int .i64 0, .bool false, .string (bb ks), .bool false, .string (bb vs), .slice none 0 0] (by rfl) (by rfl) hs.there (by kernel_rfl) (by simp [Value.oneCell']) ?_
              obtain ⟨wz, ez, hs⟩ := hs.storeEx #[.int .i64 0, .int .i64 0, .bool false, .string (bb ks), .bool false, .string (bb vs), .slice none 0 0]
              rw [ez]
              clear ez
              refine hK.out _ _ ((raw5e (b := eb) (hs.p3)).1) (fun hHeld => ?_)
              clear hK KK
              try simp only [Act.put, List.setIfInBounds_toArray, List.set_cons_zero, List.set_cons_succ]
              refine wpAnyH_done (by kernel_rfl) ?_ _
              clear hHeld
              rw [setAll_all] at hs
              rotate_left
              · rfl
              go_wp2_with fail
              go_meet
              exact ⟨_, rfl, hs⟩
    obtain ⟨rb, rfl, h⟩ := hcut
    clear H x0 x1 x2 x3 x4 y0 y1 y2 y3 y4
    go_upto_region 13 with (fail)
    go_cut [75] (fun _ wx => ∃ sl : Nat, St W0 wx ((K2.and (Know.recs (.slice q 1 1) [((⟨0, 0, ⟨false, ks⟩, ⟨false, vs⟩, []⟩ : RecS), .slice none 0 0)])).and (Know.recs (.slice (some ⟨sl, 0, none⟩) 1 1) [((⟨0, 0, ⟨false, ks⟩, ⟨false, vs⟩, []⟩ : RecS), .slice none 0 0)])) [.raw yb #[.int .i64 base, .int .i64 leader, .bool false, .bool true, .bool true, .int .i64 0, .int .i64 n4, .int .i64 n4, .int .i64 n1, .int .i64 n2, .int .i64 (-1), .slice (some ⟨sl, 0, none⟩) 1 1] 24, .raw rb #[.int .i64 0, .int .i64 0, .bool false, .string (bb ks), .bool false, .string (bb vs), .slice none 0 0] 45, .raw bb_ #[.int .i64 base, .int .i64 leader, .bool false, .bool true, .bool true, .int .i64 0, .int .i64 n4, .int .i64 n4, .int .i64 n1, .int .i64 n2, .int .i64 (-1), .slice q 1 1] 24, .raw eb #[.int .i64 n1, .int .i64 n2, .int .i64 n3, .int .i64 n4, .int .i64 n5] 37])
    case first =>
      obtain ⟨⟨x0, x1, x2, x3, x4⟩, y0, y1, y2, y3, y4⟩ := raw5e (b := eb) (h.p3)
      obtain ⟨r0, r1, r2, r3, r4, r5, r6, f0, f1, f2, f3, f4, f5, f6⟩ := raw7 (b := rb) h
      obtain ⟨sl, hsl, h2⟩ := alloc_at h #[.int .i64 0, .int .i64 0, .bool false, .string (bb ks), .bool false, .string (bb vs), .slice none 0 0] 45
      obtain ⟨z0, z1, z2, z3, z4, z5, z6, z7, z8, z9, z10, z11, v0, v1, v2, v3, v4, v5, v6, v7, v8, v9, v10, v11⟩ := raw12 (b := yb) (h2.p2)
      go_wp2_with fail
      go_meet
      have hz : St W0 _ _ (.raw yb #[.int .i64 base, .int .i64 leader, .bool false, .bool true, .bool true, .int .i64 0, .int .i64 n4, .int .i64 n4, .int .i64 n1, .int .i64 n2, .int .i64 (-1), .slice (some ⟨sl, 0, none⟩) 1 1] 24 :: _) := St.sets12 _ _ _ _ _ _ _ _ _ _ _ _ h2.p2
      exact ⟨sl, freezeRec1 (⟨0, 0, ⟨false, ks⟩, ⟨false, vs⟩, []⟩ : RecS) (.slice none 0 0) (know_none0 RHdr 3 (K2.and (Know.recs (.slice q 1 1) [((⟨0, 0, ⟨false, ks⟩, ⟨false, vs⟩, []⟩ : RecS), .slice none 0 0)]))) hz.p1⟩
    obtain ⟨sl, h⟩ := hcut
    have H := Lib.hid h
    clear h
    obtain ⟨z0, z1, z2, z3, z4, z5, z6, z7, z8, z9, z10, z11, v0, v1, v2, v3, v4, v5, v6, v7, v8, v9, v10, v11⟩ := raw12 (b := yb) (H.out)
    go_upto_region 17 with (first
      | (go_at_call 9; clear z0 v0 z1 v1 z2 v2 z3 v3 z4 v4 z5 v5 z6 v6 z7 v7 z8 v8 z9 v9 z10 v10 z11 v11; (with_reducible refine (ref11_check1 base leader n1 n2 n3 n4 n5 ks vs 0 HE.out HMX.out HRB.out HFR.out (some ⟨sl, 0, none⟩) (Know.has_right (Know.has_refl _)) H.out).mono ?_); rintro e_ wn ⟨rfl, h⟩; replace H := Lib.hid h; clear h; obtain ⟨z0, z1, z2, z3, z4, z5, z6, z7, z8, z9, z10, z11, v0, v1, v2, v3, v4, v5, v6, v7, v8, v9, v10, v11⟩ := raw12 (b := bb_) (H.out.p2)))
    go_upto_region 19 with (first
      | (go_at_call 11; clear z0 v0 z1 v1 z2 v2 z3 v3 z4 v4 z5 v5 z6 v6 z7 v7 z8 v8 z9 v9 z10 v10 z11 v11; (with_reducible refine (bat_decode_ok s HSL.out (⟨base, leader, false, true, true, 0, n4, n4, n1, n2, -1, [(⟨0, 0, ⟨false, ks⟩, ⟨false, vs⟩, []⟩ : RecS)]⟩ : BatS) HD1.out H.out).mono ?_); rintro e_ wn ⟨q1, l1, cap1, rfl, hl1, h⟩; obtain ⟨zb, hzb⟩ : ∃ b, wn.heap.size = b := ⟨_, rfl⟩; have h := h.allocRaw #[.int .i64 base, .int .i64 leader, .bool false, .bool true, .bool true, .int .i64 0, .int .i64 n4, .int .i64 n4, .int .i64 n1, .int .i64 n2, .int .i64 (-1), .slice q1 l1.length cap1] 24; rw [hzb] at h; have HEN1 := Lib.hid (show endOf ⟨base, leader, false, true, true, 0, n4, n4, n1, n2, -1, l1.map (·.1)⟩ = (n1, n2, n3, n4, n5, true) by rw [hl1]; exact HEN.out); have HFB := Lib.hid (show FitB l1 from mark_fitB HFR.out hl1); have HLN := Lib.hid (show l1.length ≤ 1000000 by have h9 := congrArg List.length hl1; simp at h9; omega); clear hl1; replace H := Lib.hid h; clear h; obtain ⟨z0, z1, z2, z3, z4, z5, z6, z7, z8, z9, z10, z11, v0, v1, v2, v3, v4, v5, v6, v7, v8, v9, v10, v11⟩ := raw12 (b := zb) (H.out))
      | (go_at_call 20; clear z0 v0 z1 v1 z2 v2 z3 v3 z4 v4 z5 v5 z6 v6 z7 v7 z8 v8 z9 v9 z10 v10 z11 v11; (with_reducible refine (mrk_read base leader false true true 0 n4 n4 n1 n2 (-1) l1 q1 cap1 n1 n2 n3 n4 n5 true HEN1.out HMX.out HFB.out HLN.out (Know.has_right (Know.has_refl _)) H.out).mono ?_); rintro e_ wn ⟨rfl, h⟩; obtain ⟨xb, hxb⟩ : ∃ b, wn.heap.size = b := ⟨_, rfl⟩; have h := h.allocRaw #[.int .i64 n1, .int .i64 n2, .int .i64 n3, .int .i64 n4, .int .i64 n5] 37; rw [hxb] at h; replace H := Lib.hid h; clear h; obtain ⟨⟨x0, x1, x2, x3, x4⟩, y0, y1, y2, y3, y4⟩ := raw5e (b := xb) (H.out); obtain ⟨⟨c0, c1, c2, c3, c4⟩, d0, d1, d2, d3, d4⟩ := raw5e (b := eb) (H.out.p5); obtain ⟨z0, z1, z2, z3, z4, z5, z6, z7, z8, z9, z10, z11, v0, v1, v2, v3, v4, v5, v6, v7, v8, v9, v10, v11⟩ := raw12 (b := yb) (H.out.p2); obtain ⟨a0, a1, a2, a3, a4, a5, a6, a7, a8, a9, a10, a11, b0, b1, b2, b3, b4, b5, b6, b7, b8, b9, b10, b11⟩ := raw12 (b := bb_) (H.out.p4)))
    go_wp2_with (first
      | (go_at_call 13; clear x0 x1 x2 x3 x4 y0 y1 y2 y3 y4 c0 c1 c2 c3 c4 d0 d1 d2 d3 d4 z0 v0 a0 b0 z1 v1 a1 b1 z2 v2 a2 b2 z3 v3 a3 b3 z4 v4 a4 b4 z5 v5 a5 b5 z6 v6 a6 b6 z7 v7 a7 b7 z8 v8 a8 b8 z9 v9 a9 b9 z10 v10 a10 b10 z11 v11 a11 b11; (with_reducible refine (ref11_same1 base leader n1 n2 n3 n4 n5 ks vs q (some ⟨sl, 0, none⟩) (Know.has_left (Know.has_left (Know.has_right (Know.has_refl _)))) (Know.has_left (Know.has_right (Know.has_refl _))) H.out).mono ?_); rintro e_ wn ⟨rfl, h⟩; replace H := Lib.hid h; clear h; obtain ⟨⟨x0, x1, x2, x3, x4⟩, y0, y1, y2, y3, y4⟩ := raw5e (b := xb) (H.out); obtain ⟨⟨c0, c1, c2, c3, c4⟩, d0, d1, d2, d3, d4⟩ := raw5e (b := eb) (H.out.p5); obtain ⟨z0, z1, z2, z3, z4, z5, z6, z7, z8, z9, z10, z11, v0, v1, v2, v3, v4, v5, v6, v7, v8, v9, v10, v11⟩ := raw12 (b := yb) (H.out.p2); obtain ⟨a0, a1, a2, a3, a4, a5, a6, a7, a8, a9, a10, a11, b0, b1, b2, b3, b4, b5, b6, b7, b8, b9, b10, b11⟩ := raw12 (b := bb_) (H.out.p4))
      | (go_at_call 12; clear x0 x1 x2 x3 x4 y0 y1 y2 y3 y4 c0 c1 c2 c3 c4 d0 d1 d2 d3 d4 z0 v0 a0 b0 z1 v1 a1 b1 z2 v2 a2 b2 z3 v3 a3 b3 z4 v4 a4 b4 z5 v5 a5 b5 z6 v6 a6 b6 z7 v7 a7 b7 z8 v8 a8 b8 z9 v9 a9 b9 z10 v10 a10 b10 z11 v11 a11 b11; (with_reducible refine (ref11_encode1 base leader n1 n2 n3 n4 n5 ks vs s HS.out HSO.out (some ⟨sl, 0, none⟩) (Know.has_left (Know.has_right (Know.has_refl _))) H.out).mono ?_); rintro e_ wn ⟨rfl, h⟩; replace H := Lib.hid h; clear h; obtain ⟨⟨x0, x1, x2, x3, x4⟩, y0, y1, y2, y3, y4⟩ := raw5e (b := xb) (H.out); obtain ⟨⟨c0, c1, c2, c3, c4⟩, d0, d1, d2, d3, d4⟩ := raw5e (b := eb) (H.out.p5); obtain ⟨z0, z1, z2, z3, z4, z5, z6, z7, z8, z9, z10, z11, v0, v1, v2, v3, v4, v5, v6, v7, v8, v9, v10, v11⟩ := raw12 (b := yb) (H.out.p2); obtain ⟨a0, a1, a2, a3, a4, a5, a6, a7, a8, a9, a10, a11, b0, b1, b2, b3, b4, b5, b6, b7, b8, b9, b10, b11⟩ := raw12 (b := bb_) (H.out.p4)))
    go_ret
    exact ⟨rfl, H.out.below⟩
  · go_enter Tryz.func4, Tryz.ntmps4
    go_upto_region 12 with (first
      | (go_at_call 15; clear x0 x1 x2 x3 x4 y0 y1 y2 y3 y4; (with_reducible refine (speaks12 H.out).mono ?_); rintro e_ wn ⟨rfl, K2, hk2, h⟩; clear hk2; replace H := Lib.hid h; clear h; obtain ⟨⟨x0, x1, x2, x3, x4⟩, y0, y1, y2, y3, y4⟩ := raw5e (b := eb) (H.out))
      | (go_at_call 16; clear x0 x1 x2 x3 x4 y0 y1 y2 y3 y4; (with_reducible refine (mrk_batch_ok base leader n1 n2 n3 n4 n5 HN3.out HN5.out HMX.out ks vs HKS.out HVS.out HFR.out HE.out H.out).mono ?_); rintro e_ wn ⟨q, rfl, h⟩; obtain ⟨bb_, hbb⟩ : ∃ b, wn.heap.size = b := ⟨_, rfl⟩; have h := h.allocRaw #[.int .i64 base, .int .i64 leader, .bool false, .bool true, .bool true, .int .i64 0, .int .i64 n4, .int .i64 n4, .int .i64 n1, .int .i64 n2, .int .i64 (-1), .slice q 1 1] 24; rw [hbb] at h; replace H := Lib.hid h; clear h; obtain ⟨⟨x0, x1, x2, x3, x4⟩, y0, y1, y2, y3, y4⟩ := raw5e (b := eb) (H.out.p1); obtain ⟨z0, z1, z2, z3, z4, z5, z6, z7, z8, z9, z10, z11, v0, v1, v2, v3, v4, v5, v6, v7, v8, v9, v10, v11⟩ := raw12 (b := bb_) (H.out))
      | (go_at_call 17; clear x0 x1 x2 x3 x4 y0 y1 y2 y3 y4; clear z0 v0 z1 v1 z2 v2 z3 v3 z4 v4 z5 v5 z6 v6 z7 v7 z8 v8 z9 v9 z10 v10 z11 v11; (with_reducible refine (mrk_encode_ok base leader n1 n2 n3 n4 n5 HN3.out HN5.out HMX.out ks vs HKS.out HVS.out HFR.out HE.out HSO.out s HS.out H.out).mono ?_); rintro e_ wn ⟨rfl, h⟩; obtain ⟨⟨x0, x1, x2, x3, x4⟩, y0, y1, y2, y3, y4⟩ := raw5e (b := eb) (h.p1); obtain ⟨yb, hyb⟩ : ∃ b, wn.heap.size = b := ⟨_, rfl⟩; have h := h.allocRaw #[.int .i64 0, .int .i64 0, .bool false, .bool false, .bool false, .int .i64 0, .int .i64 0, .int .i64 0, .int .i64 0, .int .i64 0, .int .i64 0, .slice none 0 0] 24; rw [hyb] at h; replace H := Lib.hid h; clear h))
    go_cut [13] (fun s13 wx => ∃ rb : Nat, s13 = .pointer (some ⟨rb, 0, none⟩) ∧ St W0 wx (K2.and (Know.recs (.slice q 1 1) [((⟨0, 0, ⟨false, ks⟩, ⟨false, vs⟩, []⟩ : RecS), .slice none 0 0)])) [.raw rb #[.int .i64 0, .int .i64 0, .bool false, .string (bb ks), .bool false, .string (bb vs), .slice none 0 0] 45, .raw yb #[.int .i64 0, .int .i64 0, .bool false, .bool false, .bool false, .int .i64 0, .int .i64 0, .int .i64 0, .int .i64 0, .int .i64 0, .int .i64 0, .slice none 0 0] 24, .raw bb_ #[.int .i64 base, .int .i64 leader, .bool false, .bool true, .bool true, .int .i64 0, .int .i64 n4, .int .i64 n4, .int .i64 n1, .int .i64 n2, .int .i64 (-1), .slice q 1 1] 24, .raw eb #[.int .i64 n1, .int .i64 n2, .int .i64 n3, .int .i64 n4, .int .i64 n5] 37])
    case first =>
      clear x0 x1 x2 x3 x4 y0 y1 y2 y3 y4
      have hs := H.out.drew
      refine wp_region_held_drew (S := fun w' => w'.cell? ⟨eb, 0, none⟩ = some (.int .i64 n1) ∧ w'.cell? ⟨eb, 1, none⟩ = some (.int .i64 n2) ∧ w'.cell? ⟨eb, 2, none⟩ = some (.int .i64 n3) ∧ w'.cell? ⟨eb, 3, none⟩ = some (.int .i64 n4) ∧ w'.cell? ⟨eb, 4, none⟩ = some (.int .i64 n5)) (by kernel_rfl) ((raw5e (b := eb) (hs.p2)).1) (fun hHeld => ?_)
      refine wpAnyH_take (i := 0) (oi := { dst := some 54, op := Op.fieldAddr 37 (Operand.tmp 5) 2, type := 0, pos := "law.go:37", after := #[], guard := none }) (v := ?_) rfl (by kernel_rfl) (by kernel_rfl) (by kernel_rfl) (fun _ _ _ h => h) (Or.inl ⟨by rfl, ?_⟩) (by assumption) ?_
      rotate_left
      · intro w hSw; (try dsimp only at hSw); go_simp; try with_reducible rfl
      simp only [Act.put, List.setIfInBounds_toArray, List.set_cons_zero, List.set_cons_succ]
      refine wpAnyH_take (i := 1) (oi := { dst := some 55, op := Op.load 3 (Operand.tmp 54), type := 3, pos := "law.go:37", after := #[{ on := 0, ground := Ground.data }], guard := none }) (v := ?_) rfl (by kernel_rfl) (by kernel_rfl) (by kernel_rfl) (fun _ _ _ h => h) (Or.inl ⟨by rfl, ?_⟩) (by assumption) ?_
      rotate_left
      · intro w hSw; (try dsimp only at hSw); go_simp; try with_reducible rfl
      simp only [Act.put, List.setIfInBounds_toArray, List.set_cons_zero, List.set_cons_succ]
      refine wpAnyH_take (i := 4) (oi := { dst := some 58, op := Op.fieldAddr 37 (Operand.tmp 5) 4, type := 0, pos := "law.go:37", after := #[], guard := none }) (v := ?_) rfl (by kernel_rfl) (by kernel_rfl) (by kernel_rfl) (fun _ _ _ h => h) (Or.inl ⟨by rfl, ?_⟩) (by assumption) ?_
      rotate_left
      · intro w hSw; (try dsimp only at hSw); go_simp; try with_reducible rfl
      simp only [Act.put, List.setIfInBounds_toArray, List.set_cons_zero, List.set_cons_succ]
      refine wpAnyH_take (i := 5) (oi := { dst := some 59, op := Op.load 3 (Operand.tmp 58), type := 3, pos := "law.go:37", after := #[{ on := 4, ground := Ground.data }], guard := none }) (v := ?_) rfl (by kernel_rfl) (by kernel_rfl) (by kernel_rfl) (fun _ _ _ h => h) (Or.inl ⟨by rfl, ?_⟩) (by assumption) ?_
      rotate_left
      · intro w hSw; (try dsimp only at hSw); go_simp; try with_reducible rfl
      simp only [Act.put, List.setIfInBounds_toArray, List.set_cons_zero, List.set_cons_succ]
      refine wpAnyH_ready (rs := [2, 9]) (by kernel_rfl) (by simp) (AllReadyH.cons (o := { dst := some 56, op := Op.call { callee := Callee.value (Operand.func 18), args := #[Operand.tmp 55], argTypes := #[3] }, type := 9, pos := "law.go:37", after := #[{ on := 1, ground := Ground.data }], guard := none }) rfl (fun KK hK => ?_) (AllReadyH.cons (o := { dst := some 13, op := Op.alloc 45, type := 0, pos := "law.go:37", after := #[], guard := none }) rfl (fun KK hK => ?_) AllReadyH.nil))
      · go_simp
        go_at_call 18
        with_reducible refine (ref08_keyK n3 HM3.out ks HKS.out hs).mono ?_
        rintro e wq ⟨rfl, hs⟩
        refine hK.out _ _ ((raw5e (b := eb) (hs.p2)).1) (fun hHeld => ?_)
        clear hK KK
        try simp only [Act.put, List.setIfInBounds_toArray, List.set_cons_zero, List.set_cons_succ]
        refine wpAnyH_take (i := 3) (oi := { dst := some 57, op := Op.build 42 #[(1, Operand.tmp 56)], type := 42, pos := "law.go:37", after := #[{ on := 2, ground := Ground.data }], guard := none }) (v := ?_) rfl (by kernel_rfl) (by kernel_rfl) (by kernel_rfl) (fun _ _ _ h => h) (Or.inl ⟨by rfl, ?_⟩) (by assumption) ?_
        rotate_left
        · intro w hSw; (try dsimp only at hSw); go_simp; try with_reducible rfl
        simp only [Act.put, List.setIfInBounds_toArray, List.set_cons_zero, List.set_cons_succ]
        refine wpAnyH_ready (rs := [6, 9]) (by kernel_rfl) (by simp) (AllReadyH.cons (o := { dst := some 60, op := Op.call { callee := Callee.value (Operand.func 19), args := #[Operand.tmp 59], argTypes := #[3] }, type := 9, pos := "law.go:37", after := #[{ on := 5, ground := Ground.data }, { on := 2, ground := Ground.chain }], guard := none }) rfl (fun KK hK => ?_) (AllReadyH.cons (o := { dst := some 13, op := Op.alloc 45, type := 0, pos := "law.go:37", after := #[], guard := none }) rfl (fun KK hK => ?_) AllReadyH.nil))
        · go_simp
          go_at_call 19
          with_reducible refine (ref08_valueK n5 HM5.out vs HVS.out hs).mono ?_
          rintro e wq ⟨rfl, hs⟩
          refine hK.out _ _ ((raw5e (b := eb) (hs.p2)).1) (fun hHeld => ?_)
          clear hK KK
          try simp only [Act.put, List.setIfInBounds_toArray, List.set_cons_zero, List.set_cons_succ]
          refine wpAnyH_take (i := 7) (oi := { dst := some 61, op := Op.build 42 #[(1, Operand.tmp 60)], type := 42, pos := "law.go:37", after := #[{ on := 6, ground := Ground.data }], guard := none }) (v := ?_) rfl (by kernel_rfl) (by kernel_rfl) (by kernel_rfl) (fun _ _ _ h => h) (Or.inl ⟨by rfl, ?_⟩) (by assumption) ?_
          rotate_left
          · intro w hSw; (try dsimp only at hSw); go_simp; try with_reducible rfl
          simp only [Act.put, List.setIfInBounds_toArray, List.set_cons_zero, List.set_cons_succ]
          refine wpAnyH_take (i := 8) (oi := { dst := some 62, op := Op.build 45 #[(2, Operand.tmp 57), (3, Operand.tmp 61)], type := 45, pos := "law.go:37", after := #[{ on := 3, ground := Ground.data }, { on := 7, ground := Ground.data }], guard := none }) (v := ?_) rfl (by kernel_rfl) (by kernel_rfl) (by kernel_rfl) (fun _ _ _ h => h) (Or.inl ⟨by rfl, ?_⟩) (by assumption) ?_
          rotate_left
          · intro w hSw; (try dsimp only at hSw); go_simp; try with_reducible rfl
          simp only [Act.put, List.setIfInBounds_toArray, List.set_cons_zero, List.set_cons_succ]
          refine wpAnyH_ready (rs := [9]) (by kernel_rfl) (by simp) (AllReadyH.cons (o := { dst := some 13, op := Op.alloc 45, type := 0, pos := "law.go:37", after := #[], guard := none }) rfl (fun KK hK => ?_) AllReadyH.nil)
          · obtain ⟨wy, rb, ey, er, hs⟩ := hs.allocEx #[.int .i64 0, .int .i64 0, .bool false, .string ⟨#[]⟩, .bool false, .string ⟨#[]⟩, .slice none 0 0] 45
            go_simp
            try rw [ey]
            try rw [er]
            clear ey er
            refine hK.out _ _ ((raw5e (b := eb) (hs.p3)).1) (fun hHeld => ?_)
            clear hK KK
            try simp only [Act.put, List.setIfInBounds_toArray, List.set_cons_zero, List.set_cons_succ]
            refine wpAnyH_ready (rs := [10]) (by kernel_rfl) (by simp) (AllReadyH.cons (o := { dst := none, op := Op.store 45 (Operand.tmp 13) (Operand.tmp 62), type := 0, pos := "law.go:37", after := #[{ on := 9, ground := Ground.data }, { on := 8, ground := Ground.data }, { on := 6, ground := Ground.chain }, { on := 0, ground := Ground.phase }, { on := 1, ground := Ground.phase }, { on := 2, ground := Ground.phase }, { on := 3, ground := Ground.phase }, { on := 4, ground := Ground.phase }, { on := 5, ground := Ground.phase }, { on := 6, ground := Ground.phase }, { on := 7, ground := Ground.phase }, { on := 8, ground := Ground.phase }, { on := 9, ground := Ground.phase }], guard := none }) rfl (fun KK hK => ?_) AllReadyH.nil)
            · rw [if_pos (by rfl)]
              refine wp_store_mid 45 (.tmp 13) (.tmp 62) rfl rb 0 #[.int .i64 0, .int .i64 0, .bool false, .string (bb ks), .bool false, .string (bb vs), .slice none 0 0] (by rfl) (by rfl) hs.there (by kernel_rfl) (by simp [Value.oneCell']) ?_
              obtain ⟨wz, ez, hs⟩ := hs.storeEx #[.int .i64 0, .int .i64 0, .bool false, .string (bb ks), .bool false, .string (bb vs), .slice none 0 0]
              rw [ez]
              clear ez
              refine hK.out _ _ ((raw5e (b := eb) (hs.p3)).1) (fun hHeld => ?_)
              clear hK KK
              try simp only [Act.put, List.setIfInBounds_toArray, List.set_cons_zero, List.set_cons_succ]
              refine wpAnyH_done (by kernel_rfl) ?_ _
              clear hHeld
              rw [setAll_all] at hs
              rotate_left
              · rfl
              go_wp2_with fail
              go_meet
              exact ⟨_, rfl, hs⟩
        · obtain ⟨wy, rb, ey, er, hs⟩ := hs.allocEx #[.int .i64 0, .int .i64 0, .bool false, .string ⟨#[]⟩, .bool false, .string ⟨#[]⟩, .slice none 0 0] 45
          go_simp
          try rw [ey]
          try rw [er]
          clear ey er
          refine hK.out _ _ ((raw5e (b := eb) (hs.p3)).1) (fun hHeld => ?_)
          clear hK KK
          try simp only [Act.put, List.setIfInBounds_toArray, List.set_cons_zero, List.set_cons_succ]
          refine wpAnyH_ready (rs := [6]) (by kernel_rfl) (by simp) (AllReadyH.cons (o := { dst := some 60, op := Op.call { callee := Callee.value (Operand.func 19), args := #[Operand.tmp 59], argTypes := #[3] }, type := 9, pos := "law.go:37", after := #[{ on := 5, ground := Ground.data }, { on := 2, ground := Ground.chain }], guard := none }) rfl (fun KK hK => ?_) AllReadyH.nil)
          · go_simp
            go_at_call 19
            with_reducible refine (ref08_valueK n5 HM5.out vs HVS.out hs).mono ?_
            rintro e wq ⟨rfl, hs⟩
            refine hK.out _ _ ((raw5e (b := eb) (hs.p3)).1) (fun hHeld => ?_)
            clear hK KK
            try simp only [Act.put, List.setIfInBounds_toArray, List.set_cons_zero, List.set_cons_succ]
            refine wpAnyH_take (i := 7) (oi := { dst := some 61, op := Op.build 42 #[(1, Operand.tmp 60)], type := 42, pos := "law.go:37", after := #[{ on := 6, ground := Ground.data }], guard := none }) (v := ?_) rfl (by kernel_rfl) (by kernel_rfl) (by kernel_rfl) (fun _ _ _ h => h) (Or.inl ⟨by rfl, ?_⟩) (by assumption) ?_
            rotate_left
            · intro w hSw; (try dsimp only at hSw); go_simp; try with_reducible rfl
            simp only [Act.put, List.setIfInBounds_toArray, List.set_cons_zero, List.set_cons_succ]
            refine wpAnyH_take (i := 8) (oi := { dst := some 62, op := Op.build 45 #[(2, Operand.tmp 57), (3, Operand.tmp 61)], type := 45, pos := "law.go:37", after := #[{ on := 3, ground := Ground.data }, { on := 7, ground := Ground.data }], guard := none }) (v := ?_) rfl (by kernel_rfl) (by kernel_rfl) (by kernel_rfl) (fun _ _ _ h => h) (Or.inl ⟨by rfl, ?_⟩) (by assumption) ?_
            rotate_left
            · intro w hSw; (try dsimp only at hSw); go_simp; try with_reducible rfl
            simp only [Act.put, List.setIfInBounds_toArray, List.set_cons_zero, List.set_cons_succ]
            refine wpAnyH_ready (rs := [10]) (by kernel_rfl) (by simp) (AllReadyH.cons (o := { dst := none, op := Op.store 45 (Operand.tmp 13) (Operand.tmp 62), type := 0, pos := "law.go:37", after := #[{ on := 9, ground := Ground.data }, { on := 8, ground := Ground.data }, { on := 6, ground := Ground.chain }, { on := 0, ground := Ground.phase }, { on := 1, ground := Ground.phase }, { on := 2, ground := Ground.phase }, { on := 3, ground := Ground.phase }, { on := 4, ground := Ground.phase }, { on := 5, ground := Ground.phase }, { on := 6, ground := Ground.phase }, { on := 7, ground := Ground.phase }, { on := 8, ground := Ground.phase }, { on := 9, ground := Ground.phase }], guard := none }) rfl (fun KK hK => ?_) AllReadyH.nil)
            · rw [if_pos (by rfl)]
              refine wp_store_mid 45 (.tmp 13) (.tmp 62) rfl rb 0 #[.int .i64 0, .int .i64 0, .bool false, .string (bb ks), .bool false, .string (bb vs), .slice none 0 0] (by rfl) (by rfl) hs.there (by kernel_rfl) (by simp [Value.oneCell']) ?_
              obtain ⟨wz, ez, hs⟩ := hs.storeEx #[.int .i64 0, .int .i64 0, .bool false, .string (bb ks), .bool false, .string (bb vs), .slice none 0 0]
              rw [ez]
              clear ez
              refine hK.out _ _ ((raw5e (b := eb) (hs.p3)).1) (fun hHeld => ?_)
              clear hK KK
              try simp only [Act.put, List.setIfInBounds_toArray, List.set_cons_zero, List.set_cons_succ]
              refine wpAnyH_done (by kernel_rfl) ?_ _
              clear hHeld
              rw [setAll_all] at hs
              rotate_left
              · rfl
              go_wp2_with fail
              go_meet
              exact ⟨_, rfl, hs⟩
      · obtain ⟨wy, rb, ey, er, hs⟩ := hs.allocEx #[.int .i64 0, .int .i64 0, .bool false, .string ⟨#[]⟩, .bool false, .string ⟨#[]⟩, .slice none 0 0] 45
        go_simp
        try rw [ey]
        try rw [er]
        clear ey er
        refine hK.out _ _ ((raw5e (b := eb) (hs.p3)).1) (fun hHeld => ?_)
        clear hK KK
        try simp only [Act.put, List.setIfInBounds_toArray, List.set_cons_zero, List.set_cons_succ]
        refine wpAnyH_ready (rs := [2]) (by kernel_rfl) (by simp) (AllReadyH.cons (o := { dst := some 56, op := Op.call { callee := Callee.value (Operand.func 18), args := #[Operand.tmp 55], argTypes := #[3] }, type := 9, pos := "law.go:37", after := #[{ on := 1, ground := Ground.data }], guard := none }) rfl (fun KK hK => ?_) AllReadyH.nil)
        · go_simp
          go_at_call 18
          with_reducible refine (ref08_keyK n3 HM3.out ks HKS.out hs).mono ?_
          rintro e wq ⟨rfl, hs⟩
          refine hK.out _ _ ((raw5e (b := eb) (hs.p3)).1) (fun hHeld => ?_)
          clear hK KK
          try simp only [Act.put, List.setIfInBounds_toArray, List.set_cons_zero, List.set_cons_succ]
          refine wpAnyH_take (i := 3) (oi := { dst := some 57, op := Op.build 42 #[(1, Operand.tmp 56)], type := 42, pos := "law.go:37", after := #[{ on := 2, ground := Ground.data }], guard := none }) (v := ?_) rfl (by kernel_rfl) (by kernel_rfl) (by kernel_rfl) (fun _ _ _ h => h) (Or.inl ⟨by rfl, ?_⟩) (by assumption) ?_
          rotate_left
          · intro w hSw; (try dsimp only at hSw); go_simp; try with_reducible rfl
          simp only [Act.put, List.setIfInBounds_toArray, List.set_cons_zero, List.set_cons_succ]
          refine wpAnyH_ready (rs := [6]) (by kernel_rfl) (by simp) (AllReadyH.cons (o := { dst := some 60, op := Op.call { callee := Callee.value (Operand.func 19), args := #[Operand.tmp 59], argTypes := #[3] }, type := 9, pos := "law.go:37", after := #[{ on := 5, ground := Ground.data }, { on := 2, ground := Ground.chain }], guard := none }) rfl (fun KK hK => ?_) AllReadyH.nil)
          · go_simp
            go_at_call 19
            with_reducible refine (ref08_valueK n5 HM5.out vs HVS.out hs).mono ?_
            rintro e wq ⟨rfl, hs⟩
            refine hK.out _ _ ((raw5e (b := eb) (hs.p3)).1) (fun hHeld => ?_)
            clear hK KK
            try simp only [Act.put, List.setIfInBounds_toArray, List.set_cons_zero, List.set_cons_succ]
            refine wpAnyH_take (i := 7) (oi := { dst := some 61, op := Op.build 42 #[(1, Operand.tmp 60)], type := 42, pos := "law.go:37", after := #[{ on := 6, ground := Ground.data }], guard := none }) (v := ?_) rfl (by kernel_rfl) (by kernel_rfl) (by kernel_rfl) (fun _ _ _ h => h) (Or.inl ⟨by rfl, ?_⟩) (by assumption) ?_
            rotate_left
            · intro w hSw; (try dsimp only at hSw); go_simp; try with_reducible rfl
            simp only [Act.put, List.setIfInBounds_toArray, List.set_cons_zero, List.set_cons_succ]
            refine wpAnyH_take (i := 8) (oi := { dst := some 62, op := Op.build 45 #[(2, Operand.tmp 57), (3, Operand.tmp 61)], type := 45, pos := "law.go:37", after := #[{ on := 3, ground := Ground.data }, { on := 7, ground := Ground.data }], guard := none }) (v := ?_) rfl (by kernel_rfl) (by kernel_rfl) (by kernel_rfl) (fun _ _ _ h => h) (Or.inl ⟨by rfl, ?_⟩) (by assumption) ?_
            rotate_left
            · intro w hSw; (try dsimp only at hSw); go_simp; try with_reducible rfl
            simp only [Act.put, List.setIfInBounds_toArray, List.set_cons_zero, List.set_cons_succ]
            refine wpAnyH_ready (rs := [10]) (by kernel_rfl) (by simp) (AllReadyH.cons (o := { dst := none, op := Op.store 45 (Operand.tmp 13) (Operand.tmp 62), type := 0, pos := "law.go:37", after := #[{ on := 9, ground := Ground.data }, { on := 8, ground := Ground.data }, { on := 6, ground := Ground.chain }, { on := 0, ground := Ground.phase }, { on := 1, ground := Ground.phase }, { on := 2, ground := Ground.phase }, { on := 3, ground := Ground.phase }, { on := 4, ground := Ground.phase }, { on := 5, ground := Ground.phase }, { on := 6, ground := Ground.phase }, { on := 7, ground := Ground.phase }, { on := 8, ground := Ground.phase }, { on := 9, ground := Ground.phase }], guard := none }) rfl (fun KK hK => ?_) AllReadyH.nil)
            · rw [if_pos (by rfl)]
              refine wp_store_mid 45 (.tmp 13) (.tmp 62) rfl rb 0 #[.int .i64 0, .int .i64 0, .bool false, .string (bb ks), .bool false, .string (bb vs), .slice none 0 0] (by rfl) (by rfl) hs.there (by kernel_rfl) (by simp [Value.oneCell']) ?_
              obtain ⟨wz, ez, hs⟩ := hs.storeEx #[.int .i64 0, .int .i64 0, .bool false, .string (bb ks), .bool false, .string (bb vs), .slice none 0 0]
              rw [ez]
              clear ez
              refine hK.out _ _ ((raw5e (b := eb) (hs.p3)).1) (fun hHeld => ?_)
              clear hK KK
              try simp only [Act.put, List.setIfInBounds_toArray, List.set_cons_zero, List.set_cons_succ]
              refine wpAnyH_done (by kernel_rfl) ?_ _
              clear hHeld
              rw [setAll_all] at hs
              rotate_left
              · rfl
              go_wp2_with fail
              go_meet
              exact ⟨_, rfl, hs⟩
    obtain ⟨rb, rfl, h⟩ := hcut
    clear H x0 x1 x2 x3 x4 y0 y1 y2 y3 y4
    go_upto_region 13 with (fail)
    go_cut [75] (fun _ wx => ∃ sl : Nat, St W0 wx ((K2.and (Know.recs (.slice q 1 1) [((⟨0, 0, ⟨false, ks⟩, ⟨false, vs⟩, []⟩ : RecS), .slice none 0 0)])).and (Know.recs (.slice (some ⟨sl, 0, none⟩) 1 1) [((⟨0, 0, ⟨false, ks⟩, ⟨false, vs⟩, []⟩ : RecS), .slice none 0 0)])) [.raw yb #[.int .i64 base, .int .i64 leader, .bool false, .bool true, .bool true, .int .i64 0, .int .i64 n4, .int .i64 n4, .int .i64 n1, .int .i64 n2, .int .i64 (-1), .slice (some ⟨sl, 0, none⟩) 1 1] 24, .raw rb #[.int .i64 0, .int .i64 0, .bool false, .string (bb ks), .bool false, .string (bb vs), .slice none 0 0] 45, .raw bb_ #[.int .i64 base, .int .i64 leader, .bool false, .bool true, .bool true, .int .i64 0, .int .i64 n4, .int .i64 n4, .int .i64 n1, .int .i64 n2, .int .i64 (-1), .slice q 1 1] 24, .raw eb #[.int .i64 n1, .int .i64 n2, .int .i64 n3, .int .i64 n4, .int .i64 n5] 37])
    case first =>
      obtain ⟨⟨x0, x1, x2, x3, x4⟩, y0, y1, y2, y3, y4⟩ := raw5e (b := eb) (h.p3)
      obtain ⟨r0, r1, r2, r3, r4, r5, r6, f0, f1, f2, f3, f4, f5, f6⟩ := raw7 (b := rb) h
      obtain ⟨sl, hsl, h2⟩ := alloc_at h #[.int .i64 0, .int .i64 0, .bool false, .string (bb ks), .bool false, .string (bb vs), .slice none 0 0] 45
      obtain ⟨z0, z1, z2, z3, z4, z5, z6, z7, z8, z9, z10, z11, v0, v1, v2, v3, v4, v5, v6, v7, v8, v9, v10, v11⟩ := raw12 (b := yb) (h2.p2)
      go_wp2_with fail
      go_meet
      have hz : St W0 _ _ (.raw yb #[.int .i64 base, .int .i64 leader, .bool false, .bool true, .bool true, .int .i64 0, .int .i64 n4, .int .i64 n4, .int .i64 n1, .int .i64 n2, .int .i64 (-1), .slice (some ⟨sl, 0, none⟩) 1 1] 24 :: _) := St.sets12 _ _ _ _ _ _ _ _ _ _ _ _ h2.p2
      exact ⟨sl, freezeRec1 (⟨0, 0, ⟨false, ks⟩, ⟨false, vs⟩, []⟩ : RecS) (.slice none 0 0) (know_none0 RHdr 3 (K2.and (Know.recs (.slice q 1 1) [((⟨0, 0, ⟨false, ks⟩, ⟨false, vs⟩, []⟩ : RecS), .slice none 0 0)]))) hz.p1⟩
    obtain ⟨sl, h⟩ := hcut
    have H := Lib.hid h
    clear h
    obtain ⟨z0, z1, z2, z3, z4, z5, z6, z7, z8, z9, z10, z11, v0, v1, v2, v3, v4, v5, v6, v7, v8, v9, v10, v11⟩ := raw12 (b := yb) (H.out)
    go_upto_region 17 with (first
      | (go_at_call 9; clear z0 v0 z1 v1 z2 v2 z3 v3 z4 v4 z5 v5 z6 v6 z7 v7 z8 v8 z9 v9 z10 v10 z11 v11; (with_reducible refine (ref11_check1 base leader n1 n2 n3 n4 n5 ks vs 0 HE.out HMX.out HRB.out HFR.out (some ⟨sl, 0, none⟩) (Know.has_right (Know.has_refl _)) H.out).mono ?_); rintro e_ wn ⟨rfl, h⟩; replace H := Lib.hid h; clear h; obtain ⟨z0, z1, z2, z3, z4, z5, z6, z7, z8, z9, z10, z11, v0, v1, v2, v3, v4, v5, v6, v7, v8, v9, v10, v11⟩ := raw12 (b := bb_) (H.out.p2)))
    go_upto_region 19 with (first
      | (go_at_call 11; clear z0 v0 z1 v1 z2 v2 z3 v3 z4 v4 z5 v5 z6 v6 z7 v7 z8 v8 z9 v9 z10 v10 z11 v11; (with_reducible refine (bat_decode_ok s HSL.out (⟨base, leader, false, true, true, 0, n4, n4, n1, n2, -1, [(⟨0, 0, ⟨false, ks⟩, ⟨false, vs⟩, []⟩ : RecS)]⟩ : BatS) HD1.out H.out).mono ?_); rintro e_ wn ⟨q1, l1, cap1, rfl, hl1, h⟩; obtain ⟨zb, hzb⟩ : ∃ b, wn.heap.size = b := ⟨_, rfl⟩; have h := h.allocRaw #[.int .i64 base, .int .i64 leader, .bool false, .bool true, .bool true, .int .i64 0, .int .i64 n4, .int .i64 n4, .int .i64 n1, .int .i64 n2, .int .i64 (-1), .slice q1 l1.length cap1] 24; rw [hzb] at h; have HEN1 := Lib.hid (show endOf ⟨base, leader, false, true, true, 0, n4, n4, n1, n2, -1, l1.map (·.1)⟩ = (n1, n2, n3, n4, n5, true) by rw [hl1]; exact HEN.out); have HFB := Lib.hid (show FitB l1 from mark_fitB HFR.out hl1); have HLN := Lib.hid (show l1.length ≤ 1000000 by have h9 := congrArg List.length hl1; simp at h9; omega); clear hl1; replace H := Lib.hid h; clear h; obtain ⟨z0, z1, z2, z3, z4, z5, z6, z7, z8, z9, z10, z11, v0, v1, v2, v3, v4, v5, v6, v7, v8, v9, v10, v11⟩ := raw12 (b := zb) (H.out))
      | (go_at_call 20; clear z0 v0 z1 v1 z2 v2 z3 v3 z4 v4 z5 v5 z6 v6 z7 v7 z8 v8 z9 v9 z10 v10 z11 v11; (with_reducible refine (mrk_read base leader false true true 0 n4 n4 n1 n2 (-1) l1 q1 cap1 n1 n2 n3 n4 n5 true HEN1.out HMX.out HFB.out HLN.out (Know.has_right (Know.has_refl _)) H.out).mono ?_); rintro e_ wn ⟨rfl, h⟩; obtain ⟨xb, hxb⟩ : ∃ b, wn.heap.size = b := ⟨_, rfl⟩; have h := h.allocRaw #[.int .i64 n1, .int .i64 n2, .int .i64 n3, .int .i64 n4, .int .i64 n5] 37; rw [hxb] at h; replace H := Lib.hid h; clear h; obtain ⟨⟨x0, x1, x2, x3, x4⟩, y0, y1, y2, y3, y4⟩ := raw5e (b := xb) (H.out); obtain ⟨⟨c0, c1, c2, c3, c4⟩, d0, d1, d2, d3, d4⟩ := raw5e (b := eb) (H.out.p5); obtain ⟨z0, z1, z2, z3, z4, z5, z6, z7, z8, z9, z10, z11, v0, v1, v2, v3, v4, v5, v6, v7, v8, v9, v10, v11⟩ := raw12 (b := yb) (H.out.p2); obtain ⟨a0, a1, a2, a3, a4, a5, a6, a7, a8, a9, a10, a11, b0, b1, b2, b3, b4, b5, b6, b7, b8, b9, b10, b11⟩ := raw12 (b := bb_) (H.out.p4)))
    go_wp2_with (first
      | (go_at_call 13; clear x0 x1 x2 x3 x4 y0 y1 y2 y3 y4 c0 c1 c2 c3 c4 d0 d1 d2 d3 d4 z0 v0 a0 b0 z1 v1 a1 b1 z2 v2 a2 b2 z3 v3 a3 b3 z4 v4 a4 b4 z5 v5 a5 b5 z6 v6 a6 b6 z7 v7 a7 b7 z8 v8 a8 b8 z9 v9 a9 b9 z10 v10 a10 b10 z11 v11 a11 b11; (with_reducible refine (ref11_same1 base leader n1 n2 n3 n4 n5 ks vs q (some ⟨sl, 0, none⟩) (Know.has_left (Know.has_left (Know.has_right (Know.has_refl _)))) (Know.has_left (Know.has_right (Know.has_refl _))) H.out).mono ?_); rintro e_ wn ⟨rfl, h⟩; replace H := Lib.hid h; clear h; obtain ⟨⟨x0, x1, x2, x3, x4⟩, y0, y1, y2, y3, y4⟩ := raw5e (b := xb) (H.out); obtain ⟨⟨c0, c1, c2, c3, c4⟩, d0, d1, d2, d3, d4⟩ := raw5e (b := eb) (H.out.p5); obtain ⟨z0, z1, z2, z3, z4, z5, z6, z7, z8, z9, z10, z11, v0, v1, v2, v3, v4, v5, v6, v7, v8, v9, v10, v11⟩ := raw12 (b := yb) (H.out.p2); obtain ⟨a0, a1, a2, a3, a4, a5, a6, a7, a8, a9, a10, a11, b0, b1, b2, b3, b4, b5, b6, b7, b8, b9, b10, b11⟩ := raw12 (b := bb_) (H.out.p4))
      | (go_at_call 12; clear x0 x1 x2 x3 x4 y0 y1 y2 y3 y4 c0 c1 c2 c3 c4 d0 d1 d2 d3 d4 z0 v0 a0 b0 z1 v1 a1 b1 z2 v2 a2 b2 z3 v3 a3 b3 z4 v4 a4 b4 z5 v5 a5 b5 z6 v6 a6 b6 z7 v7 a7 b7 z8 v8 a8 b8 z9 v9 a9 b9 z10 v10 a10 b10 z11 v11 a11 b11; (with_reducible refine (ref11_encode1 base leader n1 n2 n3 n4 n5 ks vs s HS.out HSO.out (some ⟨sl, 0, none⟩) (Know.has_left (Know.has_right (Know.has_refl _))) H.out).mono ?_); rintro e_ wn ⟨rfl, h⟩; replace H := Lib.hid h; clear h; obtain ⟨⟨x0, x1, x2, x3, x4⟩, y0, y1, y2, y3, y4⟩ := raw5e (b := xb) (H.out); obtain ⟨⟨c0, c1, c2, c3, c4⟩, d0, d1, d2, d3, d4⟩ := raw5e (b := eb) (H.out.p5); obtain ⟨z0, z1, z2, z3, z4, z5, z6, z7, z8, z9, z10, z11, v0, v1, v2, v3, v4, v5, v6, v7, v8, v9, v10, v11⟩ := raw12 (b := yb) (H.out.p2); obtain ⟨a0, a1, a2, a3, a4, a5, a6, a7, a8, a9, a10, a11, b0, b1, b2, b3, b4, b5, b6, b7, b8, b9, b10, b11⟩ := raw12 (b := bb_) (H.out.p4)))
    go_ret
    exact ⟨rfl, H.out.below⟩

end Go.Proofs.YtcjgdlfcfcabiaaGreat

/- Layer 12, walked: MarkerMakes, any. -/
namespace Go.Proofs.YtcjgdlfcfcabiaaGreat
open Go.RowKit

theorem markerMakes_any (base leader : Int) (n1 n2 n3 n4 n5 : Int) (hrb : Rn base) (hrl : Rn leader) (hn1 : Rn n1) (hn2 : Rn n2) (hn3 : Rn n3) (hn4 : Rn n4) (hn5 : Rn n5) {W0 w : World} {K : Know} (h : St W0 w K []) :
    Calls Tryz.prog 4 #[.int .i64 base, .int .i64 leader, .agg #[.int .i64 n1, .int .i64 n2, .int .i64 n3, .int .i64 n4, .int .i64 n5]] w fun en w' => en = .returned (.bool true) ∧ Below W0.heap.size W0 w' := by
  by_cases hk3 : n3 = 0 ∨ n3 = 1
  · by_cases c1 : n5 < 0
    · exact mm_low base leader n1 n2 n3 n4 n5 hn3 hn5 hk3 c1 h
    · by_cases c2 : 2147483647 < n5
      · exact mm_high base leader n1 n2 n3 n4 n5 hn3 hn5 hk3 c2 h
      · have hks : ctlKey n3 = (verB n3 2, 0) := if_pos hk3
        have hvs : ctlVal n5 = (verB n5 4, 0) := if_pos (by omega)
        have hmx : n4 ≤ 9223372036854775807 := by have := hn4.2; omega
        have hfr : (⟨0, 0, ⟨false, verB n3 2⟩, ⟨false, verB n5 4⟩, []⟩ : RecS).R ∧ HFit (⟨0, 0, ⟨false, verB n3 2⟩, ⟨false, verB n5 4⟩, []⟩ : RecS).hdrs ∧ (⟨0, 0, ⟨false, verB n3 2⟩, ⟨false, verB n5 4⟩, []⟩ : RecS).sum ≤ 1000000 := ⟨mark_R _ _, (by intro x h; cases h), by unfold RecS.sum; simp [hsum, verB_len]⟩
        by_cases he : batErr (⟨base, leader, false, true, true, 0, n4, n4, n1, n2, -1, [(⟨0, 0, ⟨false, verB n3 2⟩, ⟨false, verB n5 4⟩, []⟩ : RecS)]⟩ : BatS) = 0
        · exact mm_ok base leader n1 n2 n3 n4 n5 hn3 hn5 hmx _ _ hks hvs hfr he (smallOk_mark base leader n1 n2 n3 n4 n5 _ _ hks hvs ⟨hrb, hrl, (show Rn 0 by unfold Rn; decide), hn4, hn4, hn1, hn2, (show Rn (-1) by unfold Rn; decide)⟩ he) hrb h
        · exact mm_bat base leader n1 n2 n3 n4 n5 hn3 hn5 hmx _ _ hks hvs hfr _ he rfl hrb h
  · exact mm_kind base leader n1 n2 n3 n4 n5 hn3 hn5 hk3 h

end Go.Proofs.YtcjgdlfcfcabiaaGreat

/- Structs of five, by value. -/
namespace Go.Proofs.YtcjgdlfcfcabiaaGreat
open Go.Joins Go.ChangeShapes Go.WideShapes Go.RowKit Go.Deep
section
variable {H : Type} {enc : TypeId × Value → H} {P : Program} {w : World} {base : Nat} {spare : Nat → Bool} {held : Bool}

set_option maxHeartbeats 1000000 in
theorem open_agg5 {r : Reach} {b0 : Nat} {t : TypeId} {f0 f1 f2 f3 f4 : Field} {v : Value} {d : DataW H} {p : List MemPlace} (hs : P.underlying t = some (.struct #[f0, f1, f2, f3, f4])) (hone : oneCellFields P #[f0, f1, f2, f3, f4] = true) (hC : P.cellsOf t = 5)
    (hv : Value.okWide P w r b0 t v) (h : DataW.Trod enc P w base spare held t v d p) :
    ∃ (v0 v1 v2 v3 v4 : Value) (y0 y1 y2 y3 y4 : DataW H × List MemPlace) (n : Nat), v = .agg #[v0, v1, v2, v3, v4] ∧ p = y0.2 ++ (y1.2 ++ (y2.2 ++ (y3.2 ++ (y4.2)))) ∧ DataW.trod enc P w base spare held n f0.type [v0] = some y0 ∧ DataW.trod enc P w base spare held n f1.type [v1] = some y1 ∧ DataW.trod enc P w base spare held n f2.type [v2] = some y2 ∧ DataW.trod enc P w base spare held n f3.type [v3] = some y3 ∧ DataW.trod enc P w base spare held n f4.type [v4] = some y4 := by
  obtain ⟨cs, rfl, hsz⟩ := okWide_struct hs hv
  obtain ⟨l⟩ := cs
  match l, hsz.trans hC with
  | [c0, c1, c2, c3, c4], _ =>
    obtain ⟨fuel, hf⟩ := h
    obtain ⟨xs, n, _, hx, _, hlen, hg⟩ := DataW.trod_struct hs hf
    obtain ⟨o0, k0⟩ := hone_of hone 0 f0 rfl
    obtain ⟨o1, k1⟩ := hone_of hone 1 f1 rfl
    obtain ⟨o2, k2⟩ := hone_of hone 2 f2 rfl
    obtain ⟨o3, k3⟩ := hone_of hone 3 f3 rfl
    obtain ⟨o4, k4⟩ := hone_of hone 4 f4 rfl
    match xs, hlen with
    | [y0, y1, y2, y3, y4], _ =>
      simp only [Prod.mk.injEq] at hx
      exact ⟨c0, c1, c2, c3, c4, y0, y1, y2, y3, y4, n, rfl, by simpa using hx.2, by simpa [Value.cells, o0, k0] using hg 0 f0 rfl, by simpa [Value.cells, o1, k1] using hg 1 f1 rfl, by simpa [Value.cells, o2, k2] using hg 2 f2 rfl, by simpa [Value.cells, o3, k3] using hg 3 f3 rfl, by simpa [Value.cells, o4, k4] using hg 4 f4 rfl⟩

end
end Go.Proofs.YtcjgdlfcfcabiaaGreat

/- Any end of a transaction as a batch, or why there is none, and it is told by that batch, and by its bytes: proved of all numbers. -/
namespace Go.Proofs.YtcjgdlfcfcabiaaGreat
open Go.ChangeShapes Go.WideShapes Go.ChangeAt Go.ChangeMaps Go.RowKit

set_option maxRecDepth 100000 in
theorem markerMakes_lifted (os : Os) (started : os.Started) (H : Type) (enc : TypeId × Value → H) :
    ReturnsInHanded {} Tryz.checked os 4 .any (Rows.markerMakesSpec.pre6 enc Tryz.prog Tryz.f4 Rows.markerMakesRow.domain false) (Rows.markerMakesSpec.post enc Tryz.prog Tryz.f4 false true false false) := by
  refine returnsInHanded_of_change (C := Tryz.checked) Tryz.own started (by as_aux_lemma => kernel_rfl) Tryz.func4
    (ChangeSpec.witness6 (enc := enc) (C := Tryz.checked) false ⟨#[], #[.int .i64 0, .int .i64 0, .agg #[.int .i64 0, .int .i64 0, .int .i64 0, .int .i64 0, .int .i64 0]], []⟩ 8 (by as_aux_lemma => kernel_rfl) (by as_aux_lemma => kernel_rfl) (by as_aux_lemma => kernel_rfl) (by as_aux_lemma => kernel_rfl)) ?_
  intro W base args ds gs before hval0 hW hcnd _
  have hval : ∀ (j : Nat) t v, Tryz.f4.params[j]? = some t → args[j]? = some v → Value.okWide Tryz.prog W .any base t v := hval0
  clear hval0
  refine law_contract (n := 3) (tb := 4) rfl rfl rfl Tryz.underlying4 (by intro ds h; match ds, h with | [d0, d1, d2], _ => rfl) (by as_aux_lemma => kernel_rfl) hW ?_
  intro p hA0 hlt
  have hA : DataW.TrodAll enc Tryz.prog W 0 (fun _ => true) true Tryz.f4.params.toList args.toList ds p := hA0
  clear hA0
  rw [Tryz.params4] at hA hval
  obtain ⟨v0, v1, v2, d0, d1, d2, p0, p1, p2, rfl, rfl, rfl, h0, h1, h2⟩ := trodAll_three hA
  obtain ⟨a0, rfl, rfl, rfl, wa0⟩ := open_int Tryz.underlying3 (hval 0 3 v0 rfl rfl) h0
  have r0 := wf_i64 wa0
  obtain ⟨a1, rfl, rfl, rfl, wa1⟩ := open_int Tryz.underlying3 (hval 1 3 v1 rfl rfl) h1
  have r1 := wf_i64 wa1
  obtain ⟨x0, x1, x2, x3, x4, y0, y1, y2, y3, y4, nq, rfl, rfl, g0, g1, g2, g3, g4⟩ := open_agg5 Tryz.underlying37 (by kernel_rfl) (by kernel_rfl) (hval 2 37 v2 rfl rfl) h2
  obtain ⟨n1, e0, _, wf0⟩ := DataW.trod_int Tryz.underlying3 g0
  obtain rfl : x0 = .int .i64 n1 := by simpa using e0
  obtain ⟨n2, e1, _, wf1⟩ := DataW.trod_int Tryz.underlying3 g1
  obtain rfl : x1 = .int .i64 n2 := by simpa using e1
  obtain ⟨n3, e2, _, wf2⟩ := DataW.trod_int Tryz.underlying3 g2
  obtain rfl : x2 = .int .i64 n3 := by simpa using e2
  obtain ⟨n4, e3, _, wf3⟩ := DataW.trod_int Tryz.underlying3 g3
  obtain rfl : x3 = .int .i64 n4 := by simpa using e3
  obtain ⟨n5, e4, _, wf4⟩ := DataW.trod_int Tryz.underlying3 g4
  obtain rfl : x4 = .int .i64 n5 := by simpa using e4
  exact markerMakes_any a0 a1 n1 n2 n3 n4 n5 r0 r1 (wf_i64 wf0) (wf_i64 wf1) (wf_i64 wf2) (wf_i64 wf3) (wf_i64 wf4) (St.start (K := Know.none) trivial)

theorem markerMakes_holds : Rows.MarkerMakesSaid :=
  OpenClaim.holds_of_wide 4 Tryz.f4 rfl rfl rfl rfl rfl rfl rfl ⟨rfl, rfl, rfl, rfl, rfl⟩ rfl rfl rfl rfl rfl (by as_aux_lemma => kernel_rfl) Tryz.func4 (by as_aux_lemma => kernel_rfl)
    (of_decide_eq_true (by as_aux_lemma => kernel_rfl)) (by as_aux_lemma => (unfold Func.isWrapper; rw [if_neg (by as_aux_lemma => decide +kernel)]; exact ⟨rfl, rfl⟩))
    (fun os started H enc _ => markerMakes_lifted os started H enc)

end Go.Proofs.YtcjgdlfcfcabiaaGreat
