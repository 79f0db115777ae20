/- Batches of bytes, decoded. -/
import Derived.Test.YtcjgdlfcfcabiaaGreatGMarkerMakes3
import Derived.Test.YtcjgdlfcfcabiaaGreatGMarkerMakes9
import Derived.Test.YtcjgdlfcfcabiaaGreatGMarkerMakes6
import Derived.Deep.RegionHeld3
import Derived.Deep.DeepCutAuto
import Derived.Test.YtcjgdlfcfcabiaaGreatGMarkerMakes4
import Derived.Test.YtcjgdlfcfcabiaaGreatGMarkerMakes5
import Derived.Test.YtcjgdlfcfcabiaaGreatGMarkerMakes1
/- Layer 12, walked: MarkerMakes: no batch. -/
namespace Go.Proofs.YtcjgdlfcfcabiaaGreat
open Go.RowKit

set_option maxHeartbeats 4000000 in
set_option maxRecDepth 100000 in
theorem mm_bat (base leader : Int) (n1 n2 n3 n4 n5 : Int) (hn3 : Rn n3) (hn5 : Rn n5) (hmx : n4 ≤ 9223372036854775807) (ks vs : Bs) (hks : ctlKey n3 = (ks, 0)) (hvs : ctlVal n5 = (vs, 0)) (hfr : (⟨0, 0, ⟨false, ks⟩, ⟨false, vs⟩, []⟩ : RecS).R ∧ HFit (⟨0, 0, ⟨false, ks⟩, ⟨false, vs⟩, []⟩ : RecS).hdrs ∧ (⟨0, 0, ⟨false, ks⟩, ⟨false, vs⟩, []⟩ : RecS).sum ≤ 1000000) (e : Int) (h0 : e ≠ 0) (he : batErr (⟨base, leader, false, true, true, 0, n4, n4, n1, n2, -1, [(⟨0, 0, ⟨false, ks⟩, ⟨false, vs⟩, []⟩ : RecS)]⟩ : BatS) = e) (hrb : Rn base) {W0 w : World} {K : Know} (h : St W0 w K []) :
    Calls Tryz.prog 4 #[.int .i64 base, .int .i64 leader, .agg #[.int .i64 n1, .int .i64 n2, .int .i64 n3, .int .i64 n4, .int .i64 n5]] w fun en w' => en = .returned (.bool true) ∧ Below W0.heap.size W0 w' := by
  have g1 := h.allocRaw #[.int .i64 n1, .int .i64 n2, .int .i64 n3, .int .i64 n4, .int .i64 n5] 37
  obtain ⟨eb, heb⟩ : ∃ b, w.heap.size = b := ⟨_, rfl⟩
  rw [heb] at g1
  obtain ⟨⟨x0, x1, x2, x3, x4⟩, y0, y1, y2, y3, y4⟩ := raw5e (b := eb) (g1)
  have H := Lib.hid g1
  have HN3 := Lib.hid hn3
  have HN5 := Lib.hid hn5
  clear h g1 hn3 hn5
  have HE := Lib.hid he
  have HM3 := Lib.hid (show -9223372036854775808 ≤ n3 ∧ n3 < 9223372036854775808 from HN3.out)
  have HM5 := Lib.hid (show -9223372036854775808 ≤ n5 ∧ n5 < 9223372036854775808 from HN5.out)
  have HRB := Lib.hid hrb
  have HMX := Lib.hid hmx
  have HKS := Lib.hid hks
  have HVS := Lib.hid hvs
  have HFR := Lib.hid hfr
  have hk3 : n3 = 0 ∨ n3 = 1 := by unfold ctlKey at hks; split at hks <;> cases hks; assumption
  have hk5 : 0 ≤ n5 ∧ n5 < 2147483648 := by unfold ctlVal at hvs; split at hvs <;> cases hvs; assumption
  have k5 : decide (n5 < 0) = false := decide_eq_false (by omega)
  have k6 : decide (2147483647 < n5) = false := decide_eq_false (by omega)
  have kk : ((n3 == 0) = true ∧ (n3 != 0) = false) ∨ ((n3 == 0) = false ∧ (n3 != 0) = true ∧ (n3 == 1) = true ∧ (n3 != 1) = false) := by
    rcases hk3 with rfl | rfl
    · exact .inl (by decide)
    · exact .inr (by decide)
  have H0 := Lib.hid h0
  have gz : (e == 0) = false := by rw [beq_eq_false_iff_ne]; exact h0
  have gz3 : (e != 0) = true := by simp [bne, gz]
  have ge : (e == e) = true := beq_self_eq_true _
  have ge2 : (e != e) = false := by simp [bne, ge]
  clear hks hvs hk3 hk5 hmx he h0 hrb hfr
  rcases kk with ⟨k0, k1⟩ | ⟨k0, k1, k2, k3⟩
  · go_enter Tryz.func4, Tryz.ntmps4
    go_upto_region 12 with (first
      | (go_at_call 15; clear x0 x1 x2 x3 x4 y0 y1 y2 y3 y4; (with_reducible refine (speaks12 H.out).mono ?_); rintro e_ wn ⟨rfl, K2, hk2, h⟩; clear hk2; replace H := Lib.hid h; clear h; obtain ⟨⟨x0, x1, x2, x3, x4⟩, y0, y1, y2, y3, y4⟩ := raw5e (b := eb) (H.out))
      | (go_at_call 16; clear x0 x1 x2 x3 x4 y0 y1 y2 y3 y4; (with_reducible refine (mrk_batch_bad base leader n1 n2 n3 n4 n5 HN3.out HN5.out HMX.out ks vs HKS.out HVS.out HFR.out e H0.out HE.out H.out).mono ?_); rintro e_ wn ⟨rfl, h⟩; obtain ⟨bb_, hbb⟩ : ∃ b, wn.heap.size = b := ⟨_, rfl⟩; have h := h.allocRaw #[.int .i64 0, .int .i64 0, .bool false, .bool false, .bool false, .int .i64 0, .int .i64 0, .int .i64 0, .int .i64 0, .int .i64 0, .int .i64 0, .slice none 0 0] 24; rw [hbb] at h; replace H := Lib.hid h; clear h; obtain ⟨⟨x0, x1, x2, x3, x4⟩, y0, y1, y2, y3, y4⟩ := raw5e (b := eb) (H.out.p1); obtain ⟨z0, z1, z2, z3, z4, z5, z6, z7, z8, z9, z10, z11, v0, v1, v2, v3, v4, v5, v6, v7, v8, v9, v10, v11⟩ := raw12 (b := bb_) (H.out))
      | (go_at_call 17; clear x0 x1 x2 x3 x4 y0 y1 y2 y3 y4; clear z0 v0 z1 v1 z2 v2 z3 v3 z4 v4 z5 v5 z6 v6 z7 v7 z8 v8 z9 v9 z10 v10 z11 v11; (with_reducible refine (mrk_encode_bad base leader n1 n2 n3 n4 n5 HN3.out HN5.out HMX.out ks vs HKS.out HVS.out HFR.out e H0.out HE.out H.out).mono ?_); rintro e_ wn ⟨rfl, h⟩; obtain ⟨⟨x0, x1, x2, x3, x4⟩, y0, y1, y2, y3, y4⟩ := raw5e (b := eb) (h.p1); obtain ⟨yb, hyb⟩ : ∃ b, wn.heap.size = b := ⟨_, rfl⟩; have h := h.allocRaw #[.int .i64 0, .int .i64 0, .bool false, .bool false, .bool false, .int .i64 0, .int .i64 0, .int .i64 0, .int .i64 0, .int .i64 0, .int .i64 0, .slice none 0 0] 24; rw [hyb] at h; replace H := Lib.hid h; clear h))
    go_cut [13] (fun s13 wx => ∃ rb : Nat, s13 = .pointer (some ⟨rb, 0, none⟩) ∧ St W0 wx K2 [.raw rb #[.int .i64 0, .int .i64 0, .bool false, .string (bb ks), .bool false, .string (bb vs), .slice none 0 0] 45, .raw yb #[.int .i64 0, .int .i64 0, .bool false, .bool false, .bool false, .int .i64 0, .int .i64 0, .int .i64 0, .int .i64 0, .int .i64 0, .int .i64 0, .slice none 0 0] 24, .raw bb_ #[.int .i64 0, .int .i64 0, .bool false, .bool false, .bool false, .int .i64 0, .int .i64 0, .int .i64 0, .int .i64 0, .int .i64 0, .int .i64 0, .slice none 0 0] 24, .raw eb #[.int .i64 n1, .int .i64 n2, .int .i64 n3, .int .i64 n4, .int .i64 n5] 37])
    case first =>
      clear x0 x1 x2 x3 x4 y0 y1 y2 y3 y4
      have hs := H.out.drew
      refine wp_region_held_drew (S := fun w' => w'.cell? ⟨eb, 0, none⟩ = some (.int .i64 n1) ∧ w'.cell? ⟨eb, 1, none⟩ = some (.int .i64 n2) ∧ w'.cell? ⟨eb, 2, none⟩ = some (.int .i64 n3) ∧ w'.cell? ⟨eb, 3, none⟩ = some (.int .i64 n4) ∧ w'.cell? ⟨eb, 4, none⟩ = some (.int .i64 n5)) (by kernel_rfl) ((raw5e (b := eb) (hs.p2)).1) (fun hHeld => ?_)
      refine wpAnyH_take (i := 0) (oi := { dst := some 54, op := Op.fieldAddr 37 (Operand.tmp 5) 2, type := 0, pos := "law.go:37", after := #[], guard := none }) (v := ?_) rfl (by kernel_rfl) (by kernel_rfl) (by kernel_rfl) (fun _ _ _ h => h) (Or.inl ⟨by rfl, ?_⟩) (by assumption) ?_
      rotate_left
      · intro w hSw; (try dsimp only at hSw); go_simp; try with_reducible rfl
      simp only [Act.put, List.setIfInBounds_toArray, List.set_cons_zero, List.set_cons_succ]
      refine wpAnyH_take (i := 1) (oi := { dst := some 55, op := Op.load 3 (Operand.tmp 54), type := 3, pos := "law.go:37", after := #[{ on := 0, ground := Ground.data }], guard := none }) (v := ?_) rfl (by kernel_rfl) (by kernel_rfl) (by kernel_rfl) (fun _ _ _ h => h) (Or.inl ⟨by rfl, ?_⟩) (by assumption) ?_
      rotate_left
      · intro w hSw; (try dsimp only at hSw); go_simp; try with_reducible rfl
      simp only [Act.put, List.setIfInBounds_toArray, List.set_cons_zero, List.set_cons_succ]
      refine wpAnyH_take (i := 4) (oi := { dst := some 58, op := Op.fieldAddr 37 (Operand.tmp 5) 4, type := 0, pos := "law.go:37", after := #[], guard := none }) (v := ?_) rfl (by kernel_rfl) (by kernel_rfl) (by kernel_rfl) (fun _ _ _ h => h) (Or.inl ⟨by rfl, ?_⟩) (by assumption) ?_
      rotate_left
      · intro w hSw; (try dsimp only at hSw); go_simp; try with_reducible rfl
      simp only [Act.put, List.setIfInBounds_toArray, List.set_cons_zero, List.set_cons_succ]
      refine wpAnyH_take (i := 5) (oi := { dst := some 59, op := Op.load 3 (Operand.tmp 58), type := 3, pos := "law.go:37", after := #[{ on := 4, ground := Ground.data }], guard := none }) (v := ?_) rfl (by kernel_rfl) (by kernel_rfl) (by kernel_rfl) (fun _ _ _ h => h) (Or.inl ⟨by rfl, ?_⟩) (by assumption) ?_
      rotate_left
      · intro w hSw; (try dsimp only at hSw); go_simp; try with_reducible rfl
      simp only [Act.put, List.setIfInBounds_toArray, List.set_cons_zero, List.set_cons_succ]
      refine wpAnyH_ready (rs := [2, 9]) (by kernel_rfl) (by simp) (AllReadyH.cons (o := { dst := some 56, op := Op.call { callee := Callee.value (Operand.func 18), args := #[Operand.tmp 55], argTypes := #[3] }, type := 9, pos := "law.go:37", after := #[{ on := 1, ground := Ground.data }], guard := none }) rfl (fun KK hK => ?_) (AllReadyH.cons (o := { dst := some 13, op := Op.alloc 45, type := 0, pos := "law.go:37", after := #[], guard := none }) rfl (fun KK hK => ?_) AllReadyH.nil))
      · go_simp
        go_at_call 18
        with_reducible refine (ref08_keyK n3 HM3.out ks HKS.out hs).mono ?_
        rintro e wq ⟨rfl, hs⟩
        refine hK.out _ _ ((raw5e (b := eb) (hs.p2)).1) (fun hHeld => ?_)
        clear hK KK
        try simp only [Act.put, List.setIfInBounds_toArray, List.set_cons_zero, List.set_cons_succ]
        refine wpAnyH_take (i := 3) (oi := { dst := some 57, op := Op.build 42 #[(1, Operand.tmp 56)], type := 42, pos := "law.go:37", after := #[{ on := 2, ground := Ground.data }], guard := none }) (v := ?_) rfl (by kernel_rfl) (by kernel_rfl) (by kernel_rfl) (fun _ _ _ h => h) (Or.inl ⟨by rfl, ?_⟩) (by assumption) ?_
        rotate_left
        · intro w hSw; (try dsimp only at hSw); go_simp; try with_reducible rfl
        simp only [Act.put, List.setIfInBounds_toArray, List.set_cons_zero, List.set_cons_succ]
        refine wpAnyH_ready (rs := [6, 9]) (by kernel_rfl) (by simp) (AllReadyH.cons (o := { dst := some 60, op := Op.call { callee := Callee.value (Operand.func 19), args := #[Operand.tmp 59], argTypes := #[3] }, type := 9, pos := "law.go:37", after := #[{ on := 5, ground := Ground.data }, { on := 2, ground := Ground.chain }], guard := none }) rfl (fun KK hK => ?_) (AllReadyH.cons (o := { dst := some 13, op := Op.alloc 45, type := 0, pos := "law.go:37", after := #[], guard := none }) rfl (fun KK hK => ?_) AllReadyH.nil))
        · go_simp
          go_at_call 19
          with_reducible refine (ref08_valueK n5 HM5.out vs HVS.out hs).mono ?_
          rintro e wq ⟨rfl, hs⟩
          refine hK.out _ _ ((raw5e (b := eb) (hs.p2)).1) (fun hHeld => ?_)
          clear hK KK
          try simp only [Act.put, List.setIfInBounds_toArray, List.set_cons_zero, List.set_cons_succ]
          refine wpAnyH_take (i := 7) (oi := { dst := some 61, op := Op.build 42 #[(1, Operand.tmp 60)], type := 42, pos := "law.go:37", after := #[{ on := 6, ground := Ground.data }], guard := none }) (v := ?_) rfl (by kernel_rfl) (by kernel_rfl) (by kernel_rfl) (fun _ _ _ h => h) (Or.inl ⟨by rfl, ?_⟩) (by assumption) ?_
          rotate_left
          · intro w hSw; (try dsimp only at hSw); go_simp; try with_reducible rfl
          simp only [Act.put, List.setIfInBounds_toArray, List.set_cons_zero, List.set_cons_succ]
          refine wpAnyH_take (i := 8) (oi := { dst := some 62, op := Op.build 45 #[(2, Operand.tmp 57), (3, Operand.tmp 61)], type := 45, pos := "law.go:37", after := #[{ on := 3, ground := Ground.data }, { on := 7, ground := Ground.data }], guard := none }) (v := ?_) rfl (by kernel_rfl) (by kernel_rfl) (by kernel_rfl) (fun _ _ _ h => h) (Or.inl ⟨by rfl, ?_⟩) (by assumption) ?_
          rotate_left
          · intro w hSw; (try dsimp only at hSw); go_simp; try with_reducible rfl
          simp only [Act.put, List.setIfInBounds_toArray, List.set_cons_zero, List.set_cons_succ]
          refine wpAnyH_ready (rs := [9]) (by kernel_rfl) (by simp) (AllReadyH.cons (o := { dst := some 13, op := Op.alloc 45, type := 0, pos := "law.go:37", after := #[], guard := none }) rfl (fun KK hK => ?_) AllReadyH.nil)
          · obtain ⟨wy, rb, ey, er, hs⟩ := hs.allocEx #[.int .i64 0, .int .i64 0, .bool false, .string ⟨#[]⟩, .bool false, .string ⟨#[]⟩, .slice none 0 0] 45
            go_simp
            try rw [ey]
            try rw [er]
            clear ey er
            refine hK.out _ _ ((raw5e (b := eb) (hs.p3)).1) (fun hHeld => ?_)
            clear hK KK
            try simp only [Act.put, List.setIfInBounds_toArray, List.set_cons_zero, List.set_cons_succ]
            refine wpAnyH_ready (rs := [10]) (by kernel_rfl) (by simp) (AllReadyH.cons (o := { dst := none, op := Op.store 45 (Operand.tmp 13) (Operand.tmp 62), type := 0, pos := "law.go:37", after := #[{ on := 9, ground := Ground.data }, { on := 8, ground := Ground.data }, { on := 6, ground := Ground.chain }, { on := 0, ground := Ground.phase }, { on := 1, ground := Ground.phase }, { on := 2, ground := Ground.phase }, { on := 3, ground := Ground.phase }, { on := 4, ground := Ground.phase }, { on := 5, ground := Ground.phase }, { on := 6, ground := Ground.phase }, { on := 7, ground := Ground.phase }, { on := 8, ground := Ground.phase }, { on := 9, ground := Ground.phase }], guard := none }) rfl (fun KK hK => ?_) AllReadyH.nil)
            · rw [if_pos (by rfl)]
              refine wp_store_mid 45 (.tmp 13) (.tmp 62) rfl rb 0 #[.int .i64 0, .int .i64 0, .bool false, .string (bb ks), .bool false, .string (bb vs), .slice none 0 0] (by rfl) (by rfl) hs.there (by kernel_rfl) (by simp [Value.oneCell']) ?_
              obtain ⟨wz, ez, hs⟩ := hs.storeEx #[.int .i64 0, .int .i64 0, .bool false, .string (bb ks), .bool false, .string (bb vs), .slice none 0 0]
              rw [ez]
              clear ez
              refine hK.out _ _ ((raw5e (b := eb) (hs.p3)).1) (fun hHeld => ?_)
              clear hK KK
              try simp only [Act.put, List.setIfInBounds_toArray, List.set_cons_zero, List.set_cons_succ]
              refine wpAnyH_done (by kernel_rfl) ?_ _
              clear hHeld
              rw [setAll_all] at hs
              rotate_left
              · rfl
              go_wp2_with fail
              go_meet
              exact ⟨_, rfl, hs⟩
        · obtain ⟨wy, rb, ey, er, hs⟩ := hs.allocEx #[.int .i64 0, .int .i64 0, .bool false, .string ⟨#[]⟩, .bool false, .string ⟨#[]⟩, .slice none 0 0] 45
          go_simp
          try rw [ey]
          try rw [er]
          clear ey er
          refine hK.out _ _ ((raw5e (b := eb) (hs.p3)).1) (fun hHeld => ?_)
          clear hK KK
          try simp only [Act.put, List.setIfInBounds_toArray, List.set_cons_zero, List.set_cons_succ]
          refine wpAnyH_ready (rs := [6]) (by kernel_rfl) (by simp) (AllReadyH.cons (o := { dst := some 60, op := Op.call { callee := Callee.value (Operand.func 19), args := #[Operand.tmp 59], argTypes := #[3] }, type := 9, pos := "law.go:37", after := #[{ on := 5, ground := Ground.data }, { on := 2, ground := Ground.chain }], guard := none }) rfl (fun KK hK => ?_) AllReadyH.nil)
          · go_simp
            go_at_call 19
            with_reducible refine (ref08_valueK n5 HM5.out vs HVS.out hs).mono ?_
            rintro e wq ⟨rfl, hs⟩
            refine hK.out _ _ ((raw5e (b := eb) (hs.p3)).1) (fun hHeld => ?_)
            clear hK KK
            try simp only [Act.put, List.setIfInBounds_toArray, List.set_cons_zero, List.set_cons_succ]
            refine wpAnyH_take (i := 7) (oi := { dst := some 61, op := Op.build 42 #[(1, Operand.tmp 60)], type := 42, pos := "law.go:37", after := #[{ on := 6, ground := Ground.data }], guard := none }) (v := ?_) rfl (by kernel_rfl) (by kernel_rfl) (by kernel_rfl) (fun _ _ _ h => h) (Or.inl ⟨by rfl, ?_⟩) (by assumption) ?_
            rotate_left
            · intro w hSw; (try dsimp only at hSw); go_simp; try with_reducible rfl
            simp only [Act.put, List.setIfInBounds_toArray, List.set_cons_zero, List.set_cons_succ]
            refine wpAnyH_take (i := 8) (oi := { dst := some 62, op := Op.build 45 #[(2, Operand.tmp 57), (3, Operand.tmp 61)], type := 45, pos := "law.go:37", after := #[{ on := 3, ground := Ground.data }, { on := 7, ground := Ground.data }], guard := none }) (v := ?_) rfl (by kernel_rfl) (by kernel_rfl) (by kernel_rfl) (fun _ _ _ h => h) (Or.inl ⟨by rfl, ?_⟩) (by assumption) ?_
            rotate_left
            · intro w hSw; (try dsimp only at hSw); go_simp; try with_reducible rfl
            simp only [Act.put, List.setIfInBounds_toArray, List.set_cons_zero, List.set_cons_succ]
            refine wpAnyH_ready (rs := [10]) (by kernel_rfl) (by simp) (AllReadyH.cons (o := { dst := none, op := Op.store 45 (Operand.tmp 13) (Operand.tmp 62), type := 0, pos := "law.go:37", after := #[{ on := 9, ground := Ground.data }, { on := 8, ground := Ground.data }, { on := 6, ground := Ground.chain }, { on := 0, ground := Ground.phase }, { on := 1, ground := Ground.phase }, { on := 2, ground := Ground.phase }, { on := 3, ground := Ground.phase }, { on := 4, ground := Ground.phase }, { on := 5, ground := Ground.phase }, { on := 6, ground := Ground.phase }, { on := 7, ground := Ground.phase }, { on := 8, ground := Ground.phase }, { on := 9, ground := Ground.phase }], guard := none }) rfl (fun KK hK => ?_) AllReadyH.nil)
            · rw [if_pos (by rfl)]
              refine wp_store_mid 45 (.tmp 13) (.tmp 62) rfl rb 0 #[.int .i64 0, .int .i64 0, .bool false, .string (bb ks), .bool false, .string (bb vs), .slice none 0 0] (by rfl) (by rfl) hs.there (by kernel_rfl) (by simp [Value.oneCell']) ?_
              obtain ⟨wz, ez, hs⟩ := hs.storeEx #[.int .i64 0, .int .i64 0, .bool false, .string (bb ks), .bool false, .string (bb vs), .slice none 0 0]
              rw [ez]
              clear ez
              refine hK.out _ _ ((raw5e (b := eb) (hs.p3)).1) (fun hHeld => ?_)
              clear hK KK
              try simp only [Act.put, List.setIfInBounds_toArray, List.set_cons_zero, List.set_cons_succ]
              refine wpAnyH_done (by kernel_rfl) ?_ _
              clear hHeld
              rw [setAll_all] at hs
              rotate_left
              · rfl
              go_wp2_with fail
              go_meet
              exact ⟨_, rfl, hs⟩
      · obtain ⟨wy, rb, ey, er, hs⟩ := hs.allocEx #[.int .i64 0, .int .i64 0, .bool false, .string ⟨#[]⟩, .bool false, .string ⟨#[]⟩, .slice none 0 0] 45
        go_simp
        try rw [ey]
        try rw [er]
        clear ey er
        refine hK.out _ _ ((raw5e (b := eb) (hs.p3)).1) (fun hHeld => ?_)
        clear hK KK
        try simp only [Act.put, List.setIfInBounds_toArray, List.set_cons_zero, List.set_cons_succ]
        refine wpAnyH_ready (rs := [2]) (by kernel_rfl) (by simp) (AllReadyH.cons (o := { dst := some 56, op := Op.call { callee := Callee.value (Operand.func 18), args := #[Operand.tmp 55], argTypes := #[3] }, type := 9, pos := "law.go:37", after := #[{ on := 1, ground := Ground.data }], guard := none }) rfl (fun KK hK => ?_) AllReadyH.nil)
        · go_simp
          go_at_call 18
          with_reducible refine (ref08_keyK n3 HM3.out ks HKS.out hs).mono ?_
          rintro e wq ⟨rfl, hs⟩
          refine hK.out _ _ ((raw5e (b := eb) (hs.p3)).1) (fun hHeld => ?_)
          clear hK KK
          try simp only [Act.put, List.setIfInBounds_toArray, List.set_cons_zero, List.set_cons_succ]
          refine wpAnyH_take (i := 3) (oi := { dst := some 57, op := Op.build 42 #[(1, Operand.tmp 56)], type := 42, pos := "law.go:37", after := #[{ on := 2, ground := Ground.data }], guard := none }) (v := ?_) rfl (by kernel_rfl) (by kernel_rfl) (by kernel_rfl) (fun _ _ _ h => h) (Or.inl ⟨by rfl, ?_⟩) (by assumption) ?_
          rotate_left
          · intro w hSw; (try dsimp only at hSw); go_simp; try with_reducible rfl
          simp only [Act.put, List.setIfInBounds_toArray, List.set_cons_zero, List.set_cons_succ]
          refine wpAnyH_ready (rs := [6]) (by kernel_rfl) (by simp) (AllReadyH.cons (o := { dst := some 60, op := Op.call { callee := Callee.value (Operand.func 19), args := #[Operand.tmp 59], argTypes := #[3] }, type := 9, pos := "law.go:37", after := #[{ on := 5, ground := Ground.data }, { on := 2, ground := Ground.chain }], guard := none }) rfl (fun KK hK => ?_) AllReadyH.nil)
          · go_simp
            go_at_call 19
            with_reducible refine (ref08_valueK n5 HM5.out vs HVS.out hs).mono ?_
            rintro e wq ⟨rfl, hs⟩
            refine hK.out _ _ ((raw5e (b := eb) (hs.p3)).1) (fun hHeld => ?_)
            clear hK KK
            try simp only [Act.put, List.setIfInBounds_toArray, List.set_cons_zero, List.set_cons_succ]
            refine wpAnyH_take (i := 7) (oi := { dst := some 61, op := Op.build 42 #[(1, Operand.tmp 60)], type := 42, pos := "law.go:37", after := #[{ on := 6, ground := Ground.data }], guard := none }) (v := ?_) rfl (by kernel_rfl) (by kernel_rfl) (by kernel_rfl) (fun _ _ _ h => h) (Or.inl ⟨by rfl, ?_⟩) (by assumption) ?_
            rotate_left
            · intro w hSw; (try dsimp only at hSw); go_simp; try with_reducible rfl
            simp only [Act.put, List.setIfInBounds_toArray, List.set_cons_zero, List.set_cons_succ]
            refine wpAnyH_take (i := 8) (oi := { dst := some 62, op := Op.build 45 #[(2, Operand.tmp 57), (3, Operand.tmp 61)], type := 45, pos := "law.go:37", after := #[{ on := 3, ground := Ground.data }, { on := 7, ground := Ground.data }], guard := none }) (v := ?_) rfl (by kernel_rfl) (by kernel_rfl) (by kernel_rfl) (fun _ _ _ h => h) (Or.inl ⟨by rfl, ?_⟩) (by assumption) ?_
            rotate_left
            · intro w hSw; (try dsimp only at hSw); go_simp; try with_reducible rfl
            simp only [Act.put, List.setIfInBounds_toArray, List.set_cons_zero, List.set_cons_succ]
            refine wpAnyH_ready (rs := [10]) (by kernel_rfl) (by simp) (AllReadyH.cons (o := { dst := none, op := Op.store 45 (Operand.tmp 13) (Operand.tmp 62), type := 0, pos := "law.go:37", after := #[{ on := 9, ground := Ground.data }, { on := 8, ground := Ground.data }, { on := 6, ground := Ground.chain }, { on := 0, ground := Ground.phase }, { on := 1, ground := Ground.phase }, { on := 2, ground := Ground.phase }, { on := 3, ground := Ground.phase }, { on := 4, ground := Ground.phase }, { on := 5, ground := Ground.phase }, { on := 6, ground := Ground.phase }, { on := 7, ground := Ground.phase }, { on := 8, ground := Ground.phase }, { on := 9, ground := Ground.phase }], guard := none }) rfl (fun KK hK => ?_) AllReadyH.nil)
            · rw [if_pos (by rfl)]
              refine wp_store_mid 45 (.tmp 13) (.tmp 62) rfl rb 0 #[.int .i64 0, .int .i64 0, .bool false, .string (bb ks), .bool false, .string (bb vs), .slice none 0 0] (by rfl) (by rfl) hs.there (by kernel_rfl) (by simp [Value.oneCell']) ?_
              obtain ⟨wz, ez, hs⟩ := hs.storeEx #[.int .i64 0, .int .i64 0, .bool false, .string (bb ks), .bool false, .string (bb vs), .slice none 0 0]
              rw [ez]
              clear ez
              refine hK.out _ _ ((raw5e (b := eb) (hs.p3)).1) (fun hHeld => ?_)
              clear hK KK
              try simp only [Act.put, List.setIfInBounds_toArray, List.set_cons_zero, List.set_cons_succ]
              refine wpAnyH_done (by kernel_rfl) ?_ _
              clear hHeld
              rw [setAll_all] at hs
              rotate_left
              · rfl
              go_wp2_with fail
              go_meet
              exact ⟨_, rfl, hs⟩
    obtain ⟨rb, rfl, h⟩ := hcut
    clear H x0 x1 x2 x3 x4 y0 y1 y2 y3 y4
    go_upto_region 13 with (fail)
    go_cut [75] (fun _ wx => ∃ sl : Nat, St W0 wx (K2.and (Know.recs (.slice (some ⟨sl, 0, none⟩) 1 1) [((⟨0, 0, ⟨false, ks⟩, ⟨false, vs⟩, []⟩ : RecS), .slice none 0 0)])) [.raw yb #[.int .i64 base, .int .i64 leader, .bool false, .bool true, .bool true, .int .i64 0, .int .i64 n4, .int .i64 n4, .int .i64 n1, .int .i64 n2, .int .i64 (-1), .slice (some ⟨sl, 0, none⟩) 1 1] 24, .raw rb #[.int .i64 0, .int .i64 0, .bool false, .string (bb ks), .bool false, .string (bb vs), .slice none 0 0] 45, .raw bb_ #[.int .i64 0, .int .i64 0, .bool false, .bool false, .bool false, .int .i64 0, .int .i64 0, .int .i64 0, .int .i64 0, .int .i64 0, .int .i64 0, .slice none 0 0] 24, .raw eb #[.int .i64 n1, .int .i64 n2, .int .i64 n3, .int .i64 n4, .int .i64 n5] 37])
    case first =>
      obtain ⟨⟨x0, x1, x2, x3, x4⟩, y0, y1, y2, y3, y4⟩ := raw5e (b := eb) (h.p3)
      obtain ⟨r0, r1, r2, r3, r4, r5, r6, f0, f1, f2, f3, f4, f5, f6⟩ := raw7 (b := rb) h
      obtain ⟨sl, hsl, h2⟩ := alloc_at h #[.int .i64 0, .int .i64 0, .bool false, .string (bb ks), .bool false, .string (bb vs), .slice none 0 0] 45
      obtain ⟨z0, z1, z2, z3, z4, z5, z6, z7, z8, z9, z10, z11, v0, v1, v2, v3, v4, v5, v6, v7, v8, v9, v10, v11⟩ := raw12 (b := yb) (h2.p2)
      go_wp2_with fail
      go_meet
      have hz : St W0 _ _ (.raw yb #[.int .i64 base, .int .i64 leader, .bool false, .bool true, .bool true, .int .i64 0, .int .i64 n4, .int .i64 n4, .int .i64 n1, .int .i64 n2, .int .i64 (-1), .slice (some ⟨sl, 0, none⟩) 1 1] 24 :: _) := St.sets12 _ _ _ _ _ _ _ _ _ _ _ _ h2.p2
      exact ⟨sl, freezeRec1 (⟨0, 0, ⟨false, ks⟩, ⟨false, vs⟩, []⟩ : RecS) (.slice none 0 0) (know_none0 RHdr 3 K2) hz.p1⟩
    obtain ⟨sl, h⟩ := hcut
    have H := Lib.hid h
    clear h
    obtain ⟨z0, z1, z2, z3, z4, z5, z6, z7, z8, z9, z10, z11, v0, v1, v2, v3, v4, v5, v6, v7, v8, v9, v10, v11⟩ := raw12 (b := yb) (H.out)
    go_upto_region 16 with (first
      | (go_at_call 9; clear z0 v0 z1 v1 z2 v2 z3 v3 z4 v4 z5 v5 z6 v6 z7 v7 z8 v8 z9 v9 z10 v10 z11 v11; (with_reducible refine (ref11_check1 base leader n1 n2 n3 n4 n5 ks vs e HE.out HMX.out HRB.out HFR.out (some ⟨sl, 0, none⟩) (Know.has_right (Know.has_refl _)) H.out).mono ?_); rintro e_ wn ⟨rfl, h⟩; replace H := Lib.hid h; clear h; obtain ⟨z0, z1, z2, z3, z4, z5, z6, z7, z8, z9, z10, z11, v0, v1, v2, v3, v4, v5, v6, v7, v8, v9, v10, v11⟩ := raw12 (b := bb_) (H.out.p2)))
    go_wp2_with (first
      | (go_at_call 13; (with_reducible refine (ref11_sameZ H.out).mono ?_); rintro e_ wn ⟨rfl, h⟩; replace H := Lib.hid h; clear h))
    go_ret
    exact ⟨rfl, H.out.below⟩
  · go_enter Tryz.func4, Tryz.ntmps4
    go_upto_region 12 with (first
      | (go_at_call 15; clear x0 x1 x2 x3 x4 y0 y1 y2 y3 y4; (with_reducible refine (speaks12 H.out).mono ?_); rintro e_ wn ⟨rfl, K2, hk2, h⟩; clear hk2; replace H := Lib.hid h; clear h; obtain ⟨⟨x0, x1, x2, x3, x4⟩, y0, y1, y2, y3, y4⟩ := raw5e (b := eb) (H.out))
      | (go_at_call 16; clear x0 x1 x2 x3 x4 y0 y1 y2 y3 y4; (with_reducible refine (mrk_batch_bad base leader n1 n2 n3 n4 n5 HN3.out HN5.out HMX.out ks vs HKS.out HVS.out HFR.out e H0.out HE.out H.out).mono ?_); rintro e_ wn ⟨rfl, h⟩; obtain ⟨bb_, hbb⟩ : ∃ b, wn.heap.size = b := ⟨_, rfl⟩; have h := h.allocRaw #[.int .i64 0, .int .i64 0, .bool false, .bool false, .bool false, .int .i64 0, .int .i64 0, .int .i64 0, .int .i64 0, .int .i64 0, .int .i64 0, .slice none 0 0] 24; rw [hbb] at h; replace H := Lib.hid h; clear h; obtain ⟨⟨x0, x1, x2, x3, x4⟩, y0, y1, y2, y3, y4⟩ := raw5e (b := eb) (H.out.p1); obtain ⟨z0, z1, z2, z3, z4, z5, z6, z7, z8, z9, z10, z11, v0, v1, v2, v3, v4, v5, v6, v7, v8, v9, v10, v11⟩ := raw12 (b := bb_) (H.out))
      | (go_at_call 17; clear x0 x1 x2 x3 x4 y0 y1 y2 y3 y4; clear z0 v0 z1 v1 z2 v2 z3 v3 z4 v4 z5 v5 z6 v6 z7 v7 z8 v8 z9 v9 z10 v10 z11 v11; (with_reducible refine (mrk_encode_bad base leader n1 n2 n3 n4 n5 HN3.out HN5.out HMX.out ks vs HKS.out HVS.out HFR.out e H0.out HE.out H.out).mono ?_); rintro e_ wn ⟨rfl, h⟩; obtain ⟨⟨x0, x1, x2, x3, x4⟩, y0, y1, y2, y3, y4⟩ := raw5e (b := eb) (h.p1); obtain ⟨yb, hyb⟩ : ∃ b, wn.heap.size = b := ⟨_, rfl⟩; have h := h.allocRaw #[.int .i64 0, .int .i64 0, .bool false, .bool false, .bool false, .int .i64 0, .int .i64 0, .int .i64 0, .int .i64 0, .int .i64 0, .int .i64 0, .slice none 0 0] 24; rw [hyb] at h; replace H := Lib.hid h; clear h))
    go_cut [13] (fun s13 wx => ∃ rb : Nat, s13 = .pointer (some ⟨rb, 0, none⟩) ∧ St W0 wx K2 [.raw rb #[.int .i64 0, .int .i64 0, .bool false, .string (bb ks), .bool false, .string (bb vs), .slice none 0 0] 45, .raw yb #[.int .i64 0, .int .i64 0, .bool false, .bool false, .bool false, .int .i64 0, .int .i64 0, .int .i64 0, .int .i64 0, .int .i64 0, .int .i64 0, .slice none 0 0] 24, .raw bb_ #[.int .i64 0, .int .i64 0, .bool false, .bool false, .bool false, .int .i64 0, .int .i64 0, .int .i64 0, .int .i64 0, .int .i64 0, .int .i64 0, .slice none 0 0] 24, .raw eb #[.int .i64 n1, .int .i64 n2, .int .i64 n3, .int .i64 n4, .int .i64 n5] 37])
    case first =>
      clear x0 x1 x2 x3 x4 y0 y1 y2 y3 y4
      have hs := H.out.drew
      refine wp_region_held_drew (S := fun w' => w'.cell? ⟨eb, 0, none⟩ = some (.int .i64 n1) ∧ w'.cell? ⟨eb, 1, none⟩ = some (.int .i64 n2) ∧ w'.cell? ⟨eb, 2, none⟩ = some (.int .i64 n3) ∧ w'.cell? ⟨eb, 3, none⟩ = some (.int .i64 n4) ∧ w'.cell? ⟨eb, 4, none⟩ = some (.int .i64 n5)) (by kernel_rfl) ((raw5e (b := eb) (hs.p2)).1) (fun hHeld => ?_)
      refine wpAnyH_take (i := 0) (oi := { dst := some 54, op := Op.fieldAddr 37 (Operand.tmp 5) 2, type := 0, pos := "law.go:37", after := #[], guard := none }) (v := ?_) rfl (by kernel_rfl) (by kernel_rfl) (by kernel_rfl) (fun _ _ _ h => h) (Or.inl ⟨by rfl, ?_⟩) (by assumption) ?_
      rotate_left
      · intro w hSw; (try dsimp only at hSw); go_simp; try with_reducible rfl
      simp only [Act.put, List.setIfInBounds_toArray, List.set_cons_zero, List.set_cons_succ]
      refine wpAnyH_take (i := 1) (oi := { dst := some 55, op := Op.load 3 (Operand.tmp 54), type := 3, pos := "law.go:37", after := #[{ on := 0, ground := Ground.data }], guard := none }) (v := ?_) rfl (by kernel_rfl) (by kernel_rfl) (by kernel_rfl) (fun _ _ _ h => h) (Or.inl ⟨by rfl, ?_⟩) (by assumption) ?_
      rotate_left
      · intro w hSw; (try dsimp only at hSw); go_simp; try with_reducible rfl
      simp only [Act.put, List.setIfInBounds_toArray, List.set_cons_zero, List.set_cons_succ]
      refine wpAnyH_take (i := 4) (oi := { dst := some 58, op := Op.fieldAddr 37 (Operand.tmp 5) 4, type := 0, pos := "law.go:37", after := #[], guard := none }) (v := ?_) rfl (by kernel_rfl) (by kernel_rfl) (by kernel_rfl) (fun _ _ _ h => h) (Or.inl ⟨by rfl, ?_⟩) (by assumption) ?_
      rotate_left
      · intro w hSw; (try dsimp only at hSw); go_simp; try with_reducible rfl
      simp only [Act.put, List.setIfInBounds_toArray, List.set_cons_zero, List.set_cons_succ]
      refine wpAnyH_take (i := 5) (oi := { dst := some 59, op := Op.load 3 (Operand.tmp 58), type := 3, pos := "law.go:37", after := #[{ on := 4, ground := Ground.data }], guard := none }) (v := ?_) rfl (by kernel_rfl) (by kernel_rfl) (by kernel_rfl) (fun _ _ _ h => h) (Or.inl ⟨by rfl, ?_⟩) (by assumption) ?_
      rotate_left
      · intro w hSw; (try dsimp only at hSw); go_simp; try with_reducible rfl
      simp only [Act.put, List.setIfInBounds_toArray, List.set_cons_zero, List.set_cons_succ]
      refine wpAnyH_ready (rs := [2, 9]) (by kernel_rfl) (by simp) (AllReadyH.cons (o := { dst := some 56, op := Op.call { callee := Callee.value (Operand.func 18), args := #[Operand.tmp 55], argTypes := #[3] }, type := 9, pos := "law.go:37", after := #[{ on := 1, ground := Ground.data }], guard := none }) rfl (fun KK hK => ?_) (AllReadyH.cons (o := { dst := some 13, op := Op.alloc 45, type := 0, pos := "law.go:37", after := #[], guard := none }) rfl (fun KK hK => ?_) AllReadyH.nil))
      · go_simp
        go_at_call 18
        with_reducible refine (ref08_keyK n3 HM3.out ks HKS.out hs).mono ?_
        rintro e wq ⟨rfl, hs⟩
        refine hK.out _ _ ((raw5e (b := eb) (hs.p2)).1) (fun hHeld => ?_)
        clear hK KK
        try simp only [Act.put, List.setIfInBounds_toArray, List.set_cons_zero, List.set_cons_succ]
        refine wpAnyH_take (i := 3) (oi := { dst := some 57, op := Op.build 42 #[(1, Operand.tmp 56)], type := 42, pos := "law.go:37", after := #[{ on := 2, ground := Ground.data }], guard := none }) (v := ?_) rfl (by kernel_rfl) (by kernel_rfl) (by kernel_rfl) (fun _ _ _ h => h) (Or.inl ⟨by rfl, ?_⟩) (by assumption) ?_
        rotate_left
        · intro w hSw; (try dsimp only at hSw); go_simp; try with_reducible rfl
        simp only [Act.put, List.setIfInBounds_toArray, List.set_cons_zero, List.set_cons_succ]
        refine wpAnyH_ready (rs := [6, 9]) (by kernel_rfl) (by simp) (AllReadyH.cons (o := { dst := some 60, op := Op.call { callee := Callee.value (Operand.func 19), args := #[Operand.tmp 59], argTypes := #[3] }, type := 9, pos := "law.go:37", after := #[{ on := 5, ground := Ground.data }, { on := 2, ground := Ground.chain }], guard := none }) rfl (fun KK hK => ?_) (AllReadyH.cons (o := { dst := some 13, op := Op.alloc 45, type := 0, pos := "law.go:37", after := #[], guard := none }) rfl (fun KK hK => ?_) AllReadyH.nil))
        · go_simp
          go_at_call 19
          with_reducible refine (ref08_valueK n5 HM5.out vs HVS.out hs).mono ?_
          rintro e wq ⟨rfl, hs⟩
          refine hK.out _ _ ((raw5e (b := eb) (hs.p2)).1) (fun hHeld => ?_)
          clear hK KK
          try simp only [Act.put, List.setIfInBounds_toArray, List.set_cons_zero, List.set_cons_succ]
          refine wpAnyH_take (i := 7) (oi := { dst := some 61, op := Op.build 42 #[(1, Operand.tmp 60)], type := 42, pos := "law.go:37", after := #[{ on := 6, ground := Ground.data }], guard := none }) (v := ?_) rfl (by kernel_rfl) (by kernel_rfl) (by kernel_rfl) (fun _ _ _ h => h) (Or.inl ⟨by rfl, ?_⟩) (by assumption) ?_
          rotate_left
          · intro w hSw; (try dsimp only at hSw); go_simp; try with_reducible rfl
          simp only [Act.put, List.setIfInBounds_toArray, List.set_cons_zero, List.set_cons_succ]
          refine wpAnyH_take (i := 8) (oi := { dst := some 62, op := Op.build 45 #[(2, Operand.tmp 57), (3, Operand.tmp 61)], type := 45, pos := "law.go:37", after := #[{ on := 3, ground := Ground.data }, { on := 7, ground := Ground.data }], guard := none }) (v := ?_) rfl (by kernel_rfl) (by kernel_rfl) (by kernel_rfl) (fun _ _ _ h => h) (Or.inl ⟨by rfl, ?_⟩) (by assumption) ?_
          rotate_left
          · intro w hSw; (try dsimp only at hSw); go_simp; try with_reducible rfl
          simp only [Act.put, List.setIfInBounds_toArray, List.set_cons_zero, List.set_cons_succ]
          refine wpAnyH_ready (rs := [9]) (by kernel_rfl) (by simp) (AllReadyH.cons (o := { dst := some 13, op := Op.alloc 45, type := 0, pos := "law.go:37", after := #[], guard := none }) rfl (fun KK hK => ?_) AllReadyH.nil)
          · obtain ⟨wy, rb, ey, er, hs⟩ := hs.allocEx #[.int .i64 0, .int .i64 0, .bool false, .string ⟨#[]⟩, .bool false, .string ⟨#[]⟩, .slice none 0 0] 45
            go_simp
            try rw [ey]
            try rw [er]
            clear ey er
            refine hK.out _ _ ((raw5e (b := eb) (hs.p3)).1) (fun hHeld => ?_)
            clear hK KK
            try simp only [Act.put, List.setIfInBounds_toArray, List.set_cons_zero, List.set_cons_succ]
            refine wpAnyH_ready (rs := [10]) (by kernel_rfl) (by simp) (AllReadyH.cons (o := { dst := none, op := Op.store 45 (Operand.tmp 13) (Operand.tmp 62), type := 0, pos := "law.go:37", after := #[{ on := 9, ground := Ground.data }, { on := 8, ground := Ground.data }, { on := 6, ground := Ground.chain }, { on := 0, ground := Ground.phase }, { on := 1, ground := Ground.phase }, { on := 2, ground := Ground.phase }, { on := 3, ground := Ground.phase }, { on := 4, ground := Ground.phase }, { on := 5, ground := Ground.phase }, { on := 6, ground := Ground.phase }, { on := 7, ground := Ground.phase }, { on := 8, ground := Ground.phase }, { on := 9, ground := Ground.phase }], guard := none }) rfl (fun KK hK => ?_) AllReadyH.nil)
            · rw [if_pos (by rfl)]
              refine wp_store_mid 45 (.tmp 13) (.tmp 62) rfl rb 0 #[.int .i64 0, .int .i64 0, .bool false, .string (bb ks), .bool false, .string (bb vs), .slice none 0 0] (by rfl) (by rfl) hs.there (by kernel_rfl) (by simp [Value.oneCell']) ?_
              obtain ⟨wz, ez, hs⟩ := hs.storeEx #[.int .i64 0, .int .i64 0, .bool false, .string (bb ks), .bool false, .string (bb vs), .slice none 0 0]
              rw [ez]
              clear ez
              refine hK.out _ _ ((raw5e (b := eb) (hs.p3)).1) (fun hHeld => ?_)
              clear hK KK
              try simp only [Act.put, List.setIfInBounds_toArray, List.set_cons_zero, List.set_cons_succ]
              refine wpAnyH_done (by kernel_rfl) ?_ _
              clear hHeld
              rw [setAll_all] at hs
              rotate_left
              · rfl
              go_wp2_with fail
              go_meet
              exact ⟨_, rfl, hs⟩
        · obtain ⟨wy, rb, ey, er, hs⟩ := hs.allocEx #[.int .i64 0, .int .i64 0, .bool false, .string ⟨#[]⟩, .bool false, .string ⟨#[]⟩, .slice none 0 0] 45
          go_simp
          try rw [ey]
          try rw [er]
          clear ey er
          refine hK.out _ _ ((raw5e (b := eb) (hs.p3)).1) (fun hHeld => ?_)
          clear hK KK
          try simp only [Act.put, List.setIfInBounds_toArray, List.set_cons_zero, List.set_cons_succ]
          refine wpAnyH_ready (rs := [6]) (by kernel_rfl) (by simp) (AllReadyH.cons (o := { dst := some 60, op := Op.call { callee := Callee.value (Operand.func 19), args := #[Operand.tmp 59], argTypes := #[3] }, type := 9, pos := "law.go:37", after := #[{ on := 5, ground := Ground.data }, { on := 2, ground := Ground.chain }], guard := none }) rfl (fun KK hK => ?_) AllReadyH.nil)
          · go_simp
            go_at_call 19
            with_reducible refine (ref08_valueK n5 HM5.out vs HVS.out hs).mono ?_
            rintro e wq ⟨rfl, hs⟩
            refine hK.out _ _ ((raw5e (b := eb) (hs.p3)).1) (fun hHeld => ?_)
            clear hK KK
            try simp only [Act.put, List.setIfInBounds_toArray, List.set_cons_zero, List.set_cons_succ]
            refine wpAnyH_take (i := 7) (oi := { dst := some 61, op := Op.build 42 #[(1, Operand.tmp 60)], type := 42, pos := "law.go:37", after := #[{ on := 6, ground := Ground.data }], guard := none }) (v := ?_) rfl (by kernel_rfl) (by kernel_rfl) (by kernel_rfl) (fun _ _ _ h => h) (Or.inl ⟨by rfl, ?_⟩) (by assumption) ?_
            rotate_left
            · intro w hSw; (try dsimp only at hSw); go_simp; try with_reducible rfl
            simp only [Act.put, List.setIfInBounds_toArray, List.set_cons_zero, List.set_cons_succ]
            refine wpAnyH_take (i := 8) (oi := { dst := some 62, op := Op.build 45 #[(2, Operand.tmp 57), (3, Operand.tmp 61)], type := 45, pos := "law.go:37", after := #[{ on := 3, ground := Ground.data }, { on := 7, ground := Ground.data }], guard := none }) (v := ?_) rfl (by kernel_rfl) (by kernel_rfl) (by kernel_rfl) (fun _ _ _ h => h) (Or.inl ⟨by rfl, ?_⟩) (by assumption) ?_
            rotate_left
            · intro w hSw; (try dsimp only at hSw); go_simp; try with_reducible rfl
            simp only [Act.put, List.setIfInBounds_toArray, List.set_cons_zero, List.set_cons_succ]
            refine wpAnyH_ready (rs := [10]) (by kernel_rfl) (by simp) (AllReadyH.cons (o := { dst := none, op := Op.store 45 (Operand.tmp 13) (Operand.tmp 62), type := 0, pos := "law.go:37", after := #[{ on := 9, ground := Ground.data }, { on := 8, ground := Ground.data }, { on := 6, ground := Ground.chain }, { on := 0, ground := Ground.phase }, { on := 1, ground := Ground.phase }, { on := 2, ground := Ground.phase }, { on := 3, ground := Ground.phase }, { on := 4, ground := Ground.phase }, { on := 5, ground := Ground.phase }, { on := 6, ground := Ground.phase }, { on := 7, ground := Ground.phase }, { on := 8, ground := Ground.phase }, { on := 9, ground := Ground.phase }], guard := none }) rfl (fun KK hK => ?_) AllReadyH.nil)
            · rw [if_pos (by rfl)]
              refine wp_store_mid 45 (.tmp 13) (.tmp 62) rfl rb 0 #[.int .i64 0, .int .i64 0, .bool false, .string (bb ks), .bool false, .string (bb vs), .slice none 0 0] (by rfl) (by rfl) hs.there (by kernel_rfl) (by simp [Value.oneCell']) ?_
              obtain ⟨wz, ez, hs⟩ := hs.storeEx #[.int .i64 0, .int .i64 0, .bool false, .string (bb ks), .bool false, .string (bb vs), .slice none 0 0]
              rw [ez]
              clear ez
              refine hK.out _ _ ((raw5e (b := eb) (hs.p3)).1) (fun hHeld => ?_)
              clear hK KK
              try simp only [Act.put, List.setIfInBounds_toArray, List.set_cons_zero, List.set_cons_succ]
              refine wpAnyH_done (by kernel_rfl) ?_ _
              clear hHeld
              rw [setAll_all] at hs
              rotate_left
              · rfl
              go_wp2_with fail
              go_meet
              exact ⟨_, rfl, hs⟩
      · obtain ⟨wy, rb, ey, er, hs⟩ := hs.allocEx #[.int .i64 0, .int .i64 0, .bool false, .string ⟨#[]⟩, .bool false, .string ⟨#[]⟩, .slice none 0 0] 45
        go_simp
        try rw [ey]
        try rw [er]
        clear ey er
        refine hK.out _ _ ((raw5e (b := eb) (hs.p3)).1) (fun hHeld => ?_)
        clear hK KK
        try simp only [Act.put, List.setIfInBounds_toArray, List.set_cons_zero, List.set_cons_succ]
        refine wpAnyH_ready (rs := [2]) (by kernel_rfl) (by simp) (AllReadyH.cons (o := { dst := some 56, op := Op.call { callee := Callee.value (Operand.func 18), args := #[Operand.tmp 55], argTypes := #[3] }, type := 9, pos := "law.go:37", after := #[{ on := 1, ground := Ground.data }], guard := none }) rfl (fun KK hK => ?_) AllReadyH.nil)
        · go_simp
          go_at_call 18
          with_reducible refine (ref08_keyK n3 HM3.out ks HKS.out hs).mono ?_
          rintro e wq ⟨rfl, hs⟩
          refine hK.out _ _ ((raw5e (b := eb) (hs.p3)).1) (fun hHeld => ?_)
          clear hK KK
          try simp only [Act.put, List.setIfInBounds_toArray, List.set_cons_zero, List.set_cons_succ]
          refine wpAnyH_take (i := 3) (oi := { dst := some 57, op := Op.build 42 #[(1, Operand.tmp 56)], type := 42, pos := "law.go:37", after := #[{ on := 2, ground := Ground.data }], guard := none }) (v := ?_) rfl (by kernel_rfl) (by kernel_rfl) (by kernel_rfl) (fun _ _ _ h => h) (Or.inl ⟨by rfl, ?_⟩) (by assumption) ?_
          rotate_left
          · intro w hSw; (try dsimp only at hSw); go_simp; try with_reducible rfl
          simp only [Act.put, List.setIfInBounds_toArray, List.set_cons_zero, List.set_cons_succ]
          refine wpAnyH_ready (rs := [6]) (by kernel_rfl) (by simp) (AllReadyH.cons (o := { dst := some 60, op := Op.call { callee := Callee.value (Operand.func 19), args := #[Operand.tmp 59], argTypes := #[3] }, type := 9, pos := "law.go:37", after := #[{ on := 5, ground := Ground.data }, { on := 2, ground := Ground.chain }], guard := none }) rfl (fun KK hK => ?_) AllReadyH.nil)
          · go_simp
            go_at_call 19
            with_reducible refine (ref08_valueK n5 HM5.out vs HVS.out hs).mono ?_
            rintro e wq ⟨rfl, hs⟩
            refine hK.out _ _ ((raw5e (b := eb) (hs.p3)).1) (fun hHeld => ?_)
            clear hK KK
            try simp only [Act.put, List.setIfInBounds_toArray, List.set_cons_zero, List.set_cons_succ]
            refine wpAnyH_take (i := 7) (oi := { dst := some 61, op := Op.build 42 #[(1, Operand.tmp 60)], type := 42, pos := "law.go:37", after := #[{ on := 6, ground := Ground.data }], guard := none }) (v := ?_) rfl (by kernel_rfl) (by kernel_rfl) (by kernel_rfl) (fun _ _ _ h => h) (Or.inl ⟨by rfl, ?_⟩) (by assumption) ?_
            rotate_left
            · intro w hSw; (try dsimp only at hSw); go_simp; try with_reducible rfl
            simp only [Act.put, List.setIfInBounds_toArray, List.set_cons_zero, List.set_cons_succ]
            refine wpAnyH_take (i := 8) (oi := { dst := some 62, op := Op.build 45 #[(2, Operand.tmp 57), (3, Operand.tmp 61)], type := 45, pos := "law.go:37", after := #[{ on := 3, ground := Ground.data }, { on := 7, ground := Ground.data }], guard := none }) (v := ?_) rfl (by kernel_rfl) (by kernel_rfl) (by kernel_rfl) (fun _ _ _ h => h) (Or.inl ⟨by rfl, ?_⟩) (by assumption) ?_
            rotate_left
            · intro w hSw; (try dsimp only at hSw); go_simp; try with_reducible rfl
            simp only [Act.put, List.setIfInBounds_toArray, List.set_cons_zero, List.set_cons_succ]
            refine wpAnyH_ready (rs := [10]) (by kernel_rfl) (by simp) (AllReadyH.cons (o := { dst := none, op := Op.store 45 (Operand.tmp 13) (Operand.tmp 62), type := 0, pos := "law.go:37", after := #[{ on := 9, ground := Ground.data }, { on := 8, ground := Ground.data }, { on := 6, ground := Ground.chain }, { on := 0, ground := Ground.phase }, { on := 1, ground := Ground.phase }, { on := 2, ground := Ground.phase }, { on := 3, ground := Ground.phase }, { on := 4, ground := Ground.phase }, { on := 5, ground := Ground.phase }, { on := 6, ground := Ground.phase }, { on := 7, ground := Ground.phase }, { on := 8, ground := Ground.phase }, { on := 9, ground := Ground.phase }], guard := none }) rfl (fun KK hK => ?_) AllReadyH.nil)
            · rw [if_pos (by rfl)]
              refine wp_store_mid 45 (.tmp 13) (.tmp 62) rfl rb 0 #[.int .i64 0, .int .i64 0, .bool false, .string (bb ks), .bool false, .string (bb vs), .slice none 0 0] (by rfl) (by rfl) hs.there (by kernel_rfl) (by simp [Value.oneCell']) ?_
              obtain ⟨wz, ez, hs⟩ := hs.storeEx #[.int .i64 0, .int .i64 0, .bool false, .string (bb ks), .bool false, .string (bb vs), .slice none 0 0]
              rw [ez]
              clear ez
              refine hK.out _ _ ((raw5e (b := eb) (hs.p3)).1) (fun hHeld => ?_)
              clear hK KK
              try simp only [Act.put, List.setIfInBounds_toArray, List.set_cons_zero, List.set_cons_succ]
              refine wpAnyH_done (by kernel_rfl) ?_ _
              clear hHeld
              rw [setAll_all] at hs
              rotate_left
              · rfl
              go_wp2_with fail
              go_meet
              exact ⟨_, rfl, hs⟩
    obtain ⟨rb, rfl, h⟩ := hcut
    clear H x0 x1 x2 x3 x4 y0 y1 y2 y3 y4
    go_upto_region 13 with (fail)
    go_cut [75] (fun _ wx => ∃ sl : Nat, St W0 wx (K2.and (Know.recs (.slice (some ⟨sl, 0, none⟩) 1 1) [((⟨0, 0, ⟨false, ks⟩, ⟨false, vs⟩, []⟩ : RecS), .slice none 0 0)])) [.raw yb #[.int .i64 base, .int .i64 leader, .bool false, .bool true, .bool true, .int .i64 0, .int .i64 n4, .int .i64 n4, .int .i64 n1, .int .i64 n2, .int .i64 (-1), .slice (some ⟨sl, 0, none⟩) 1 1] 24, .raw rb #[.int .i64 0, .int .i64 0, .bool false, .string (bb ks), .bool false, .string (bb vs), .slice none 0 0] 45, .raw bb_ #[.int .i64 0, .int .i64 0, .bool false, .bool false, .bool false, .int .i64 0, .int .i64 0, .int .i64 0, .int .i64 0, .int .i64 0, .int .i64 0, .slice none 0 0] 24, .raw eb #[.int .i64 n1, .int .i64 n2, .int .i64 n3, .int .i64 n4, .int .i64 n5] 37])
    case first =>
      obtain ⟨⟨x0, x1, x2, x3, x4⟩, y0, y1, y2, y3, y4⟩ := raw5e (b := eb) (h.p3)
      obtain ⟨r0, r1, r2, r3, r4, r5, r6, f0, f1, f2, f3, f4, f5, f6⟩ := raw7 (b := rb) h
      obtain ⟨sl, hsl, h2⟩ := alloc_at h #[.int .i64 0, .int .i64 0, .bool false, .string (bb ks), .bool false, .string (bb vs), .slice none 0 0] 45
      obtain ⟨z0, z1, z2, z3, z4, z5, z6, z7, z8, z9, z10, z11, v0, v1, v2, v3, v4, v5, v6, v7, v8, v9, v10, v11⟩ := raw12 (b := yb) (h2.p2)
      go_wp2_with fail
      go_meet
      have hz : St W0 _ _ (.raw yb #[.int .i64 base, .int .i64 leader, .bool false, .bool true, .bool true, .int .i64 0, .int .i64 n4, .int .i64 n4, .int .i64 n1, .int .i64 n2, .int .i64 (-1), .slice (some ⟨sl, 0, none⟩) 1 1] 24 :: _) := St.sets12 _ _ _ _ _ _ _ _ _ _ _ _ h2.p2
      exact ⟨sl, freezeRec1 (⟨0, 0, ⟨false, ks⟩, ⟨false, vs⟩, []⟩ : RecS) (.slice none 0 0) (know_none0 RHdr 3 K2) hz.p1⟩
    obtain ⟨sl, h⟩ := hcut
    have H := Lib.hid h
    clear h
    obtain ⟨z0, z1, z2, z3, z4, z5, z6, z7, z8, z9, z10, z11, v0, v1, v2, v3, v4, v5, v6, v7, v8, v9, v10, v11⟩ := raw12 (b := yb) (H.out)
    go_upto_region 16 with (first
      | (go_at_call 9; clear z0 v0 z1 v1 z2 v2 z3 v3 z4 v4 z5 v5 z6 v6 z7 v7 z8 v8 z9 v9 z10 v10 z11 v11; (with_reducible refine (ref11_check1 base leader n1 n2 n3 n4 n5 ks vs e HE.out HMX.out HRB.out HFR.out (some ⟨sl, 0, none⟩) (Know.has_right (Know.has_refl _)) H.out).mono ?_); rintro e_ wn ⟨rfl, h⟩; replace H := Lib.hid h; clear h; obtain ⟨z0, z1, z2, z3, z4, z5, z6, z7, z8, z9, z10, z11, v0, v1, v2, v3, v4, v5, v6, v7, v8, v9, v10, v11⟩ := raw12 (b := bb_) (H.out.p2)))
    go_wp2_with (first
      | (go_at_call 13; (with_reducible refine (ref11_sameZ H.out).mono ?_); rintro e_ wn ⟨rfl, h⟩; replace H := Lib.hid h; clear h))
    go_ret
    exact ⟨rfl, H.out.below⟩

end Go.Proofs.YtcjgdlfcfcabiaaGreat

/- Batches assembled: why not. -/
namespace Go.Proofs.YtcjgdlfcfcabiaaGreat
open Go.RowKit

end Go.Proofs.YtcjgdlfcfcabiaaGreat

/- Batches assembled. -/
namespace Go.Proofs.YtcjgdlfcfcabiaaGreat
open Go.RowKit

set_option maxHeartbeats 4000000 in
set_option maxRecDepth 100000 in
theorem asm_ok (said rows : Bs) (base ln leader sm at_ last first maxt prod epoch sq : Int) (cnt : Nat) (x : Nat) (hx : (crcMore 0#32 (said.drop 21 ++ rows)).toNat = x) (hs1 : 21 ≤ said.length) (hs2 : said.length ≤ 140737488355328) (hs3 : rows.length ≤ 140737488355328) (h0 : (x : Int) = sm) (hat : chk at_ = 0) (har : R64 at_) (hcn : cnt ≤ 2147483647) (hr1 : rows.length ≤ 1000000) (hmx : first ≤ 9223372036854775807) (rs : List RecS) (hu : unp cnt ⟨rows, 0, 0⟩ = .ok rs) (hbe : batErr (⟨base, leader, bitAt at_ 3, bitAt at_ 4, bitAt at_ 5, last, first, maxt, prod, epoch, sq, rs⟩ : BatS) = 0) {W0 w : World} {K : Know} {L : List Res} (h : St W0 w K L) :
    Calls Tryz.prog 53 #[.agg #[.int .i64 base, .int .i64 ln, .int .i64 leader, .int .i64 sm, .int .i64 at_, .int .i64 last, .int .i64 first, .int .i64 maxt, .int .i64 prod, .int .i64 epoch, .int .i64 sq, .int .i64 cnt], .string (bb said), .string (bb rows)] w fun en w' => ∃ (q : Option Addr) (l : List (RecS × Value)) (cap : Nat), en = .returned (.tuple #[.agg #[.int .i64 base, .int .i64 leader, .bool (bitAt at_ 3), .bool (bitAt at_ 4), .bool (bitAt at_ 5), .int .i64 last, .int .i64 first, .int .i64 maxt, .int .i64 prod, .int .i64 epoch, .int .i64 sq, .slice q l.length cap], .int .i64 0]) ∧ l.map (·.1) = rs ∧ St W0 w' (K.and (Know.recs (.slice q l.length cap) l)) L := by
  have gs : ((x : Int) == sm) = true := by rw [h0]; exact beq_self_eq_true _
  have gs2 : ((x : Int) != sm) = false := by simp [bne, gs]
  clear h0
  have HAT := Lib.hid hat
  have HAR := Lib.hid har
  have HCN := Lib.hid hcn
  have HU := Lib.hid hu
  have HR1 := Lib.hid hr1
  have HMX := Lib.hid hmx
  have HB0 := Lib.hid hbe
  clear hat har hcn hu hr1 hmx hbe
  have g1 := h.allocRaw #[.int .i64 base, .int .i64 ln, .int .i64 leader, .int .i64 sm, .int .i64 at_, .int .i64 last, .int .i64 first, .int .i64 maxt, .int .i64 prod, .int .i64 epoch, .int .i64 sq, .int .i64 cnt] 62
  have g2 := g1.allocRaw #[.int .i64 0, .int .i64 0, .bool false, .bool false, .bool false, .int .i64 0, .int .i64 0, .int .i64 0, .int .i64 0, .int .i64 0, .int .i64 0, .slice none 0 0] 24
  obtain ⟨pb, hpb⟩ : ∃ b, w.heap.size = b := ⟨_, rfl⟩
  obtain ⟨rb, hrb⟩ : ∃ b, pb + 1 = b := ⟨_, rfl⟩
  simp only [World.size_alloc, hpb, hrb] at g2
  have H := Lib.hid g2
  have HX := Lib.hid hx
  have HS1 := Lib.hid hs1
  have HS2 := Lib.hid hs2
  have HS3 := Lib.hid hs3
  clear h g1 g2 hx hs1 hs2 hs3
  go_enter Tryz.func53, Tryz.ntmps53
  go_upto_region 1 with (fail)
  have hs := H.out.drew
  refine wp_region_held_drew (S := fun w' => w'.cell? ⟨pb, 0, none⟩ = some (.int .i64 base) ∧ w'.cell? ⟨pb, 1, none⟩ = some (.int .i64 ln) ∧ w'.cell? ⟨pb, 2, none⟩ = some (.int .i64 leader) ∧ w'.cell? ⟨pb, 3, none⟩ = some (.int .i64 sm) ∧ w'.cell? ⟨pb, 4, none⟩ = some (.int .i64 at_) ∧ w'.cell? ⟨pb, 5, none⟩ = some (.int .i64 last) ∧ w'.cell? ⟨pb, 6, none⟩ = some (.int .i64 first) ∧ w'.cell? ⟨pb, 7, none⟩ = some (.int .i64 maxt) ∧ w'.cell? ⟨pb, 8, none⟩ = some (.int .i64 prod) ∧ w'.cell? ⟨pb, 9, none⟩ = some (.int .i64 epoch) ∧ w'.cell? ⟨pb, 10, none⟩ = some (.int .i64 sq) ∧ w'.cell? ⟨pb, 11, none⟩ = some (.int .i64 cnt)) (by kernel_rfl) (let ⟨x0, x1, x2, x3, x4, x5, x6, x7, x8, x9, x10, x11, _⟩ := raw12 (b := pb) (hs.p1); ⟨x0, x1, x2, x3, x4, x5, x6, x7, x8, x9, x10, x11⟩) (fun hHeld => ?_)
  refine wpAnyH_take (i := 0) (oi := { dst := some 12, op := Op.move (Operand.tmp 1), type := 9, pos := "batch.go:88", after := #[], guard := none }) (v := ?_) rfl (by kernel_rfl) (by kernel_rfl) (by kernel_rfl) (fun _ _ _ h => h) (Or.inl ⟨by rfl, ?_⟩) (by assumption) ?_
  rotate_left
  · intro w hSw; (try dsimp only at hSw); go_simp; try with_reducible rfl
  simp only [Act.put, List.setIfInBounds_toArray, List.set_cons_zero, List.set_cons_succ]
  refine wpAnyH_take (i := 1) (oi := { dst := some 13, op := Op.move (Operand.tmp 2), type := 9, pos := "batch.go:88", after := #[], guard := none }) (v := ?_) rfl (by kernel_rfl) (by kernel_rfl) (by kernel_rfl) (fun _ _ _ h => h) (Or.inl ⟨by rfl, ?_⟩) (by assumption) ?_
  rotate_left
  · intro w hSw; (try dsimp only at hSw); go_simp; try with_reducible rfl
  simp only [Act.put, List.setIfInBounds_toArray, List.set_cons_zero, List.set_cons_succ]
  refine wpAnyH_take (i := 3) (oi := { dst := some 15, op := Op.fieldAddr 62 (Operand.tmp 3) 3, type := 0, pos := "batch.go:88", after := #[], guard := none }) (v := ?_) rfl (by kernel_rfl) (by kernel_rfl) (by kernel_rfl) (fun _ _ _ h => h) (Or.inl ⟨by rfl, ?_⟩) (by assumption) ?_
  rotate_left
  · intro w hSw; (try dsimp only at hSw); go_simp; try with_reducible rfl
  simp only [Act.put, List.setIfInBounds_toArray, List.set_cons_zero, List.set_cons_succ]
  refine wpAnyH_take (i := 4) (oi := { dst := some 16, op := Op.load 3 (Operand.tmp 15), type := 3, pos := "batch.go:88", after := #[{ on := 3, ground := Ground.data }], guard := none }) (v := ?_) rfl (by kernel_rfl) (by kernel_rfl) (by kernel_rfl) (fun _ _ _ h => h) (Or.inl ⟨by rfl, ?_⟩) (by assumption) ?_
  rotate_left
  · intro w hSw; (try dsimp only at hSw); go_simp; try with_reducible rfl
  simp only [Act.put, List.setIfInBounds_toArray, List.set_cons_zero, List.set_cons_succ]
  refine wpAnyH_ready (rs := [2]) (by kernel_rfl) (by simp) (AllReadyH.cons (o := { dst := some 14, op := Op.call { callee := Callee.value (Operand.func 28), args := #[Operand.tmp 12, Operand.tmp 13], argTypes := #[9, 9] }, type := 3, pos := "batch.go:88", after := #[{ on := 0, ground := Ground.data }, { on := 1, ground := Ground.data }], guard := none }) rfl (fun KK hK => ?_) AllReadyH.nil)
  · go_simp
    go_at_call 28
    with_reducible refine (bat_sum said rows x HX.out HS1.out HS2.out HS3.out hs).mono ?_
    rintro e wq ⟨rfl, hs⟩
    refine hK.out _ _ (let ⟨x0, x1, x2, x3, x4, x5, x6, x7, x8, x9, x10, x11, _⟩ := raw12 (b := pb) (hs.p1); ⟨x0, x1, x2, x3, x4, x5, x6, x7, x8, x9, x10, x11⟩) (fun hHeld => ?_)
    clear hK KK
    try simp only [Act.put, List.setIfInBounds_toArray, List.set_cons_zero, List.set_cons_succ]
    refine wpAnyH_take (i := 5) (oi := { dst := some 17, op := Op.binOp BinOp.neq 3 (Operand.tmp 14) (Operand.tmp 16) 3, type := 4, pos := "batch.go:88", after := #[{ on := 2, ground := Ground.data }, { on := 4, ground := Ground.data }], guard := none }) (v := ?_) rfl (by kernel_rfl) (by kernel_rfl) (by kernel_rfl) (fun _ _ _ h => h) (Or.inl ⟨by rfl, ?_⟩) (by assumption) ?_
    rotate_left
    · intro w hSw; (try dsimp only at hSw); go_simp; try with_reducible rfl
    simp only [Act.put, List.setIfInBounds_toArray, List.set_cons_zero, List.set_cons_succ]
    refine wpAnyH_done (by kernel_rfl) ?_ _
    clear hHeld
    have H := Lib.hid hs
    clear hs
    obtain ⟨p0, p1, p2, p3, p4, p5, p6, p7, p8, p9, p10, p11, u0, u1, u2, u3, u4, u5, u6, u7, u8, u9, u10, u11⟩ := raw12 (b := rb) (H.out); obtain ⟨x0, x1, x2, x3, x4, x5, x6, x7, x8, x9, x10, x11, y0, y1, y2, y3, y4, y5, y6, y7, y8, y9, y10, y11⟩ := raw12 (b := pb) ((H.out).p1)
    go_upto_region 11 with (first
    | (go_at_call 83; (with_reducible refine (attr_checkE at_ 0 HAT.out HAR.out H.out).mono ?_); rintro e_ wn ⟨rfl, h⟩; replace H := Lib.hid h; clear h; obtain ⟨p0, p1, p2, p3, p4, p5, p6, p7, p8, p9, p10, p11, u0, u1, u2, u3, u4, u5, u6, u7, u8, u9, u10, u11⟩ := raw12 (b := rb) (H.out); obtain ⟨x0, x1, x2, x3, x4, x5, x6, x7, x8, x9, x10, x11, y0, y1, y2, y3, y4, y5, y6, y7, y8, y9, y10, y11⟩ := raw12 (b := pb) ((H.out).p1))
    | (go_at_call 84; (with_reducible refine (bat_unpack_ok rows cnt HCN.out HS3.out rs HU.out H.out).mono ?_); rintro e_ wn ⟨rv, l, rfl, hlr, h⟩; obtain ⟨q, cap, hrv⟩ := recs_form (Know.has_right (Know.has_refl _)) h; subst hrv; obtain ⟨hff, hfl⟩ := unp_fitB HU.out hlr HR1.out; have HFT := Lib.hid hff; have HLL := Lib.hid hfl; have HLR := Lib.hid hlr; clear hff hfl hlr; obtain ⟨p0, p1, p2, p3, p4, p5, p6, p7, p8, p9, p10, p11, u0, u1, u2, u3, u4, u5, u6, u7, u8, u9, u10, u11⟩ := raw12 (b := rb) (h); obtain ⟨x0, x1, x2, x3, x4, x5, x6, x7, x8, x9, x10, x11, y0, y1, y2, y3, y4, y5, y6, y7, y8, y9, y10, y11⟩ := raw12 (b := pb) ((h).p1); have h := h.allocRaw #[.int .i64 base, .int .i64 leader, .bool false, .bool false, .bool false, .int .i64 last, .int .i64 first, .int .i64 maxt, .int .i64 prod, .int .i64 epoch, .int .i64 sq, .slice q l.length cap] 24; obtain ⟨bB, hbB⟩ : ∃ b, wn.heap.size = b := ⟨_, rfl⟩; rw [hbB] at h; obtain ⟨x0, x1, x2, x3, x4, x5, x6, x7, x8, x9, x10, x11, y0, y1, y2, y3, y4, y5, y6, y7, y8, y9, y10, y11⟩ := raw12 (b := pb) (h.p2); obtain ⟨a0, a1, a2, a3, a4, a5, a6, a7, a8, a9, a10, a11, f0, f1, f2, f3, f4, f5, f6, f7, f8, f9, f10, f11⟩ := raw12 (b := bB) (h); replace H := Lib.hid h; clear h)
    | (go_at_call 85; (with_reducible refine (attr_readE at_ H.out).mono ?_); rintro e_ wn ⟨rfl, h⟩; obtain ⟨a0, a1, a2, a3, a4, a5, a6, a7, a8, a9, a10, a11, f0, f1, f2, f3, f4, f5, f6, f7, f8, f9, f10, f11⟩ := raw12 (b := bB) (h); replace H := Lib.hid h; clear h))
    have HBE := Lib.hid (show batErr ⟨base, leader, bitAt at_ 3, bitAt at_ 4, bitAt at_ 5, last, first, maxt, prod, epoch, sq, l.map (·.1)⟩ = 0 by rw [HLR.out]; exact HB0.out)
    have hs : St W0 _ _ (.raw bB #[.int .i64 base, .int .i64 leader, .bool (bitAt at_ 3), .bool (bitAt at_ 4), .bool (bitAt at_ 5), .int .i64 last, .int .i64 first, .int .i64 maxt, .int .i64 prod, .int .i64 epoch, .int .i64 sq, .slice q l.length cap] 24 :: _) := ((H.out.rawSet 2 (.bool (bitAt at_ 3))).rawSet 3 (.bool (bitAt at_ 4))).rawSet 4 (.bool (bitAt at_ 5))
    have hs := hs.drew
    clear x0 y0 a0 f0 x1 y1 a1 f1 x2 y2 a2 f2 x3 y3 a3 f3 x4 y4 a4 f4 x5 y5 a5 f5 x6 y6 a6 f6 x7 y7 a7 f7 x8 y8 a8 f8 x9 y9 a9 f9 x10 y10 a10 f10 x11 y11 a11 f11
    refine wp_region_held_drew (S := fun w' => w'.cell? ⟨bB, 0, none⟩ = some (.int .i64 base) ∧ w'.cell? ⟨bB, 1, none⟩ = some (.int .i64 leader) ∧ w'.cell? ⟨bB, 2, none⟩ = some (.bool (bitAt at_ 3)) ∧ w'.cell? ⟨bB, 3, none⟩ = some (.bool (bitAt at_ 4)) ∧ w'.cell? ⟨bB, 4, none⟩ = some (.bool (bitAt at_ 5)) ∧ w'.cell? ⟨bB, 5, none⟩ = some (.int .i64 last) ∧ w'.cell? ⟨bB, 6, none⟩ = some (.int .i64 first) ∧ w'.cell? ⟨bB, 7, none⟩ = some (.int .i64 maxt) ∧ w'.cell? ⟨bB, 8, none⟩ = some (.int .i64 prod) ∧ w'.cell? ⟨bB, 9, none⟩ = some (.int .i64 epoch) ∧ w'.cell? ⟨bB, 10, none⟩ = some (.int .i64 sq) ∧ w'.cell? ⟨bB, 11, none⟩ = some (.slice q l.length cap)) (by kernel_rfl) (let ⟨x0, x1, x2, x3, x4, x5, x6, x7, x8, x9, x10, x11, _⟩ := raw12 (b := bB) (hs); ⟨x0, x1, x2, x3, x4, x5, x6, x7, x8, x9, x10, x11⟩) (fun hHeld => ?_)
    refine wpAnyH_take (i := 0) (oi := { dst := some 65, op := Op.load 24 (Operand.tmp 11), type := 24, pos := "batch.go:105", after := #[], guard := none }) (v := ?_) rfl (by kernel_rfl) (by kernel_rfl) (by kernel_rfl) (fun _ _ _ h => h) (Or.inl ⟨by rfl, ?_⟩) (by assumption) ?_
    rotate_left
    · intro w hSw; (try dsimp only at hSw); go_simp; try with_reducible rfl
    simp only [Act.put, List.setIfInBounds_toArray, List.set_cons_zero, List.set_cons_succ]
    refine wpAnyH_take (i := 1) (oi := { dst := some 66, op := Op.load 24 (Operand.tmp 11), type := 24, pos := "batch.go:105", after := #[], guard := none }) (v := ?_) rfl (by kernel_rfl) (by kernel_rfl) (by kernel_rfl) (fun _ _ _ h => h) (Or.inl ⟨by rfl, ?_⟩) (by assumption) ?_
    rotate_left
    · intro w hSw; (try dsimp only at hSw); go_simp; try with_reducible rfl
    simp only [Act.put, List.setIfInBounds_toArray, List.set_cons_zero, List.set_cons_succ]
    refine wpAnyH_ready (rs := [2]) (by kernel_rfl) (by simp) (AllReadyH.cons (o := { dst := some 67, op := Op.call { callee := Callee.value (Operand.func 10), args := #[Operand.tmp 66], argTypes := #[24] }, type := 27, pos := "batch.go:105", after := #[{ on := 1, ground := Ground.data }], guard := none }) rfl (fun KK hK => ?_) AllReadyH.nil)
    · go_simp
      go_at_call 10
      with_reducible refine (bat_check base leader (bitAt at_ 3) (bitAt at_ 4) (bitAt at_ 5) last first maxt prod epoch sq l q cap 0 HBE.out HMX.out HFT.out HLL.out (Know.has_right (Know.has_refl _)) hs).mono ?_
      rintro e wq ⟨rfl, hs⟩
      refine hK.out _ _ (let ⟨x0, x1, x2, x3, x4, x5, x6, x7, x8, x9, x10, x11, _⟩ := raw12 (b := bB) (hs); ⟨x0, x1, x2, x3, x4, x5, x6, x7, x8, x9, x10, x11⟩) (fun hHeld => ?_)
      clear hK KK
      try simp only [Act.put, List.setIfInBounds_toArray, List.set_cons_zero, List.set_cons_succ]
      refine wpAnyH_ready (rs := [3]) (by kernel_rfl) (by simp) (AllReadyH.cons (o := { dst := none, op := Op.store 24 (Operand.tmp 6) (Operand.tmp 65), type := 0, pos := "batch.go:105", after := #[{ on := 0, ground := Ground.data }, { on := 2, ground := Ground.chain }, { on := 0, ground := Ground.phase }, { on := 1, ground := Ground.textOnly Departure.lateStores }, { on := 2, ground := Ground.textOnly Departure.lateStoresUnsure }], guard := none }) rfl (fun KK hK => ?_) AllReadyH.nil)
      · have hs := hs.p1
        rw [if_pos (by rfl)]
        refine wp_store_mid 24 (.tmp 6) (.tmp 65) rfl rb 0 #[.int .i64 base, .int .i64 leader, .bool (bitAt at_ 3), .bool (bitAt at_ 4), .bool (bitAt at_ 5), .int .i64 last, .int .i64 first, .int .i64 maxt, .int .i64 prod, .int .i64 epoch, .int .i64 sq, .slice q l.length cap] (by rfl) (by rfl) hs.there (by kernel_rfl) (by simp [Value.oneCell']) ?_
        obtain ⟨wz, ez, hs⟩ := hs.storeEx #[.int .i64 base, .int .i64 leader, .bool (bitAt at_ 3), .bool (bitAt at_ 4), .bool (bitAt at_ 5), .int .i64 last, .int .i64 first, .int .i64 maxt, .int .i64 prod, .int .i64 epoch, .int .i64 sq, .slice q l.length cap]
        rw [ez]
        clear ez
        refine hK.out _ _ (let ⟨x0, x1, x2, x3, x4, x5, x6, x7, x8, x9, x10, x11, _⟩ := raw12 (b := bB) (hs.p1); ⟨x0, x1, x2, x3, x4, x5, x6, x7, x8, x9, x10, x11⟩) (fun hHeld => ?_)
        clear hK KK
        try simp only [Act.put, List.setIfInBounds_toArray, List.set_cons_zero, List.set_cons_succ]
        refine wpAnyH_take (i := 4) (oi := { dst := some 7, op := Op.assign (Operand.tmp 67), type := 27, pos := "batch.go:105", after := #[{ on := 2, ground := Ground.data }, { on := 3, ground := Ground.chain }, { on := 0, ground := Ground.phase }, { on := 1, ground := Ground.phase }, { on := 2, ground := Ground.phase }, { on := 3, ground := Ground.phase }], guard := none }) (v := ?_) rfl (by kernel_rfl) (by kernel_rfl) (by kernel_rfl) (fun _ _ _ h => h) (Or.inl ⟨by rfl, ?_⟩) (by assumption) ?_
        rotate_left
        · intro w hSw; (try dsimp only at hSw); go_simp; try with_reducible rfl
        simp only [Act.put, List.setIfInBounds_toArray, List.set_cons_zero, List.set_cons_succ]
        refine wpAnyH_done (by kernel_rfl) ?_ _
        clear hHeld
        rw [setAll_all] at hs
        rotate_left
        · rfl
        have hz : St W0 _ _ (.raw rb #[.int .i64 base, .int .i64 leader, .bool (bitAt at_ 3), .bool (bitAt at_ 4), .bool (bitAt at_ 5), .int .i64 last, .int .i64 first, .int .i64 maxt, .int .i64 prod, .int .i64 epoch, .int .i64 sq, .slice q l.length cap] 24 :: _) := hs
        go_wp2_with fail
        refine bodyPost_ret (rc_cell_tmp rfl _ _ rb [.int .i64 base, .int .i64 leader, .bool (bitAt at_ 3), .bool (bitAt at_ 4), .bool (bitAt at_ 5), .int .i64 last, .int .i64 first, .int .i64 maxt, .int .i64 prod, .int .i64 epoch, .int .i64 sq, .slice q l.length cap] _ rfl (rc_range hz) Tryz.underlying24 rfl (by kernel_rfl)) rfl ?_
        exact ⟨q, l, cap, rfl, HLR.out, hz.drop.drop.drop⟩

end Go.Proofs.YtcjgdlfcfcabiaaGreat

/- Batches of bytes: assembled. -/
namespace Go.Proofs.YtcjgdlfcfcabiaaGreat
open Go.RowKit

theorem asm_good (x : PreS) (said rows : Bs) (hs1 : 21 ≤ said.length) (hs2 : said.length ≤ 140737488355328) (hr1 : rows.length ≤ 1000000) (har : R64 x.attr) (hc0 : 0 ≤ x.count) (hcn : x.count ≤ 2147483647) (hmx : x.first ≤ 9223372036854775807) (b : BatS) (ha : asmB x said rows = .ok b) {W0 w : World} {K : Know} {L : List Res} (h : St W0 w K L) :
    Calls Tryz.prog 53 #[.agg #[.int .i64 x.base, .int .i64 x.len, .int .i64 x.leader, .int .i64 x.sum, .int .i64 x.attr, .int .i64 x.last, .int .i64 x.first, .int .i64 x.maxt, .int .i64 x.prod, .int .i64 x.epoch, .int .i64 x.seq, .int .i64 x.count], .string (bb said), .string (bb rows)] w fun en w' => ∃ (q : Option Addr) (l : List (RecS × Value)) (cap : Nat), en = .returned (.tuple #[.agg #[.int .i64 b.base, .int .i64 b.leader, .bool b.app, .bool b.txn, .bool b.ctl, .int .i64 b.last, .int .i64 b.first, .int .i64 b.maxt, .int .i64 b.prod, .int .i64 b.epoch, .int .i64 b.seq, .slice q l.length cap], .int .i64 0]) ∧ l.map (·.1) = b.recs ∧ St W0 w' (K.and (Know.recs (.slice q l.length cap) l)) L := by
  obtain ⟨c1, c2, rs, hu, c3, rfl⟩ := asmB_ok ha
  obtain ⟨base, len, leader, sum, attr, last, first, maxt, prod, epoch, seq, count⟩ := x
  simp only at har hc0 hcn hmx c1 c2 hu c3
  obtain ⟨cnt, rfl⟩ : ∃ n : Nat, count = (n : Int) := ⟨count.toNat, by omega⟩
  rw [Int.toNat_natCast] at hu
  exact asm_ok said rows base len leader sum attr last first maxt prod epoch seq cnt _ rfl hs1 hs2 (by omega) c1 c2 har (by omega) hr1 hmx rs hu c3 h

end Go.Proofs.YtcjgdlfcfcabiaaGreat

/- Batches of bytes: why not. -/
namespace Go.Proofs.YtcjgdlfcfcabiaaGreat
open Go.RowKit

end Go.Proofs.YtcjgdlfcfcabiaaGreat

/- Batches of bytes. -/
namespace Go.Proofs.YtcjgdlfcfcabiaaGreat
open Go.RowKit

set_option maxHeartbeats 4000000 in
set_option maxRecDepth 100000 in
theorem bat_read_ok (p : Nat) (i i1 i3 j : InS) (said rows : Bs) (x : PreS) (hxl : -2147483648 ≤ x.len ∧ x.len < 2147483648) (hs1 : 21 ≤ said.length) (hsl : said.length ≤ 140737488355328) (hr1 : rows.length ≤ 1000000) (har : R64 x.attr) (hc0 : 0 ≤ x.count) (hcn : x.count ≤ 2147483647) (hmx : x.first ≤ 9223372036854775807) (ht1 : i.take 61 = (said, i1)) (hp : (⟨said, 0, 0⟩ : InS).pre = (x, j)) (hj : j.err = 0) (ht2 : i1.take (x.len - 49) = (rows, i3)) (he3 : i3.err = 0) (b : BatS) (ha : asmB x said rows = .ok b) {W0 w : World} {K : Know} {L : List Res} (h : St W0 w K (.inp p i :: L)) :
    Calls Tryz.prog 23 #[inPtr p] w fun en w' => ∃ (q : Option Addr) (l : List (RecS × Value)) (cap : Nat), en = .returned (.agg #[.int .i64 b.base, .int .i64 b.leader, .bool b.app, .bool b.txn, .bool b.ctl, .int .i64 b.last, .int .i64 b.first, .int .i64 b.maxt, .int .i64 b.prod, .int .i64 b.epoch, .int .i64 b.seq, .slice q l.length cap]) ∧ l.map (·.1) = b.recs ∧ St W0 w' (K.and (Know.recs (.slice q l.length cap) l)) (.inp p i3 :: L) := by
  have g1 := h.allocRaw #[.int .i64 0, .int .i64 0, .bool false, .bool false, .bool false, .int .i64 0, .int .i64 0, .int .i64 0, .int .i64 0, .int .i64 0, .int .i64 0, .slice none 0 0] 24
  obtain ⟨rb, hrb⟩ : ∃ b, w.heap.size = b := ⟨_, rfl⟩
  rw [hrb] at g1
  have H := Lib.hid g1
  have HT1 := Lib.hid ht1
  have HSL := Lib.hid hsl
  have HS1 := Lib.hid hs1
  have HR1 := Lib.hid hr1
  have HAR := Lib.hid har
  have HC0 := Lib.hid hc0
  have HCN := Lib.hid hcn
  have HMX := Lib.hid hmx
  have HA := Lib.hid ha
  have HP := Lib.hid hp
  have HJ := Lib.hid hj
  have HT2 := Lib.hid ht2
  have HE3 := Lib.hid he3
  have f1 : wrap64 (x.len - 49) = x.len - 49 := by unfold wrap64; omega
  have f2 : IntKind.i64.wrap (x.len - 49) = x.len - 49 := IntWalk.i64_in _ (by omega)
  clear h g1 ht1 hsl hs1 hr1 har hc0 hcn hmx ha hp hj ht2 he3 hxl 
  go_enter Tryz.func23, Tryz.ntmps23
  go_wp2_with (first
    | (go_at_call 49; (with_reducible refine (s_takeE p i i1 _ said HT1.out H.out.p1).mono ?_); rintro e_ wn ⟨rfl, h⟩; replace H := Lib.hid h; clear h)
    | (go_at_call 22; (with_reducible refine (s_new said HSL.out H.out).mono ?_); rintro e_ wn ⟨bi, rfl, h⟩; replace H := Lib.hid h; clear h)
    | (go_at_call 50; (with_reducible refine (prefix_readQ bi _ j x HP.out H.out).mono ?_); rintro e_ wn ⟨rfl, h⟩; replace H := Lib.hid h; clear h; have h := H.out; obtain ⟨pb, hpb⟩ : ∃ b, wn.heap.size = b := ⟨_, rfl⟩; have h := h.allocRaw #[.int .i64 x.base, .int .i64 x.len, .int .i64 x.leader, .int .i64 x.sum, .int .i64 x.attr, .int .i64 x.last, .int .i64 x.first, .int .i64 x.maxt, .int .i64 x.prod, .int .i64 x.epoch, .int .i64 x.seq, .int .i64 x.count] 62; rw [hpb] at h; obtain ⟨x0, x1, x2, x3, x4, x5, x6, x7, x8, x9, x10, x11, y0, y1, y2, y3, y4, y5, y6, y7, y8, y9, y10, y11⟩ := raw12 (b := pb) (h); replace H := Lib.hid h.p1; clear h)
    | (go_at_call 51; (with_reducible refine (s_errE bi j 0 HJ.out H.out).mono ?_); rintro e_ wn ⟨rfl, h⟩; replace H := Lib.hid h; clear h; obtain ⟨x0, x1, x2, x3, x4, x5, x6, x7, x8, x9, x10, x11, y0, y1, y2, y3, y4, y5, y6, y7, y8, y9, y10, y11⟩ := raw12 (b := pb) (H.out.p1))
    | (go_at_call 49; (with_reducible refine (s_takeE p i1 i3 _ rows HT2.out H.out.p2).mono ?_); rintro e_ wn ⟨rfl, h⟩; replace H := Lib.hid h; clear h; obtain ⟨x0, x1, x2, x3, x4, x5, x6, x7, x8, x9, x10, x11, y0, y1, y2, y3, y4, y5, y6, y7, y8, y9, y10, y11⟩ := raw12 (b := pb) (H.out.p2))
    | (go_at_call 51; (with_reducible refine (s_errE p i3 0 HE3.out H.out).mono ?_); rintro e_ wn ⟨rfl, h⟩; replace H := Lib.hid h; clear h; obtain ⟨x0, x1, x2, x3, x4, x5, x6, x7, x8, x9, x10, x11, y0, y1, y2, y3, y4, y5, y6, y7, y8, y9, y10, y11⟩ := raw12 (b := pb) (H.out.p2); obtain ⟨a0, a1, a2, a3, a4, a5, a6, a7, a8, a9, a10, a11, f0, f1, f2, f3, f4, f5, f6, f7, f8, f9, f10, f11⟩ := raw12 (b := rb) (H.out.p3))
    | (go_at_call 53; (with_reducible refine (asm_good x said rows HS1.out HSL.out HR1.out HAR.out HC0.out HCN.out HMX.out b HA.out H.out).mono ?_); rintro e_ wn ⟨q, l, cap, rfl, hl, h⟩; have h := h.allocRaw #[.int .i64 b.base, .int .i64 b.leader, .bool b.app, .bool b.txn, .bool b.ctl, .int .i64 b.last, .int .i64 b.first, .int .i64 b.maxt, .int .i64 b.prod, .int .i64 b.epoch, .int .i64 b.seq, .slice q l.length cap] 24; obtain ⟨bB, hbB⟩ : ∃ b, wn.heap.size = b := ⟨_, rfl⟩; rw [hbB] at h; obtain ⟨c0, c1, c2, c3, c4, c5, c6, c7, c8, c9, c10, c11, g0, g1, g2, g3, g4, g5, g6, g7, g8, g9, g10, g11⟩ := raw12 (b := bB) (h); obtain ⟨a0, a1, a2, a3, a4, a5, a6, a7, a8, a9, a10, a11, f0, f1, f2, f3, f4, f5, f6, f7, f8, f9, f10, f11⟩ := raw12 (b := rb) (h.p4); replace H := Lib.hid h; clear h))
  have hz : St W0 _ _ (.raw rb #[.int .i64 b.base, .int .i64 b.leader, .bool b.app, .bool b.txn, .bool b.ctl, .int .i64 b.last, .int .i64 b.first, .int .i64 b.maxt, .int .i64 b.prod, .int .i64 b.epoch, .int .i64 b.seq, .slice q l.length cap] 24 :: _) := St.sets12 _ _ _ _ _ _ _ _ _ _ _ _ (H.out.p4)
  refine bodyPost_ret (rc_cell_only rfl _ _ rb [.int .i64 b.base, .int .i64 b.leader, .bool b.app, .bool b.txn, .bool b.ctl, .int .i64 b.last, .int .i64 b.first, .int .i64 b.maxt, .int .i64 b.prod, .int .i64 b.epoch, .int .i64 b.seq, .slice q l.length cap] _ rfl (rc_range hz) Tryz.underlying24 rfl (by kernel_rfl)) rfl ?_
  exact ⟨q, l, cap, rfl, hl, hz.drop.drop.p1.drop.p1.drop⟩

end Go.Proofs.YtcjgdlfcfcabiaaGreat

/- Batches of bytes, read. -/
namespace Go.Proofs.YtcjgdlfcfcabiaaGreat
open Go.RowKit

theorem bat_read_good (p : Nat) (s : Bs) (pos : Nat) (hsl : s.length ≤ 1000000) (hp : pos ≤ s.length) (b : BatS) (n : Nat) (hr : reBat (s.drop pos) = .ok (b, n)) {W0 w : World} {K : Know} {L : List Res} (h : St W0 w K (.inp p ⟨s, pos, 0⟩ :: L)) :
    Calls Tryz.prog 23 #[inPtr p] w fun en w' => ∃ (q : Option Addr) (l : List (RecS × Value)) (cap : Nat), en = .returned (.agg #[.int .i64 b.base, .int .i64 b.leader, .bool b.app, .bool b.txn, .bool b.ctl, .int .i64 b.last, .int .i64 b.first, .int .i64 b.maxt, .int .i64 b.prod, .int .i64 b.epoch, .int .i64 b.seq, .slice q l.length cap]) ∧ l.map (·.1) = b.recs ∧ St W0 w' (K.and (Know.recs (.slice q l.length cap) l)) (.inp p ⟨s, pos + n, 0⟩ :: L) := by
  obtain ⟨x, hx, rfl, hn, ha⟩ := reBat_ok hr
  obtain ⟨r1, r2, r3, r4, r5, r6⟩ := pre_ranges hx
  have h61 := (rePre_ok hx).1
  rw [List.length_drop] at hn h61
  have hl61 : ((s.drop pos).take 61).length = 61 := by rw [List.length_take, List.length_drop]; omega
  have hrl : (((s.drop pos).drop 61).take (x.len - 49).toNat).length ≤ 1000000 := by rw [List.length_take, List.length_drop, List.length_drop]; omega
  have ht1 : (⟨s, pos, 0⟩ : InS).take 61 = ((s.drop pos).take 61, ⟨s, pos + 61, 0⟩) := InS.take_ok rfl (by omega) (by simp only [InS.left]; omega)
  have ht2 : (⟨s, pos + 61, 0⟩ : InS).take (x.len - 49) = (((s.drop pos).drop 61).take (x.len - 49).toNat, ⟨s, pos + 61 + (x.len - 49).toNat, 0⟩) := by
    rw [InS.take_ok rfl (by omega) (by simp only [InS.left]; omega), List.drop_drop]
  have hpre := pre_okA ((s.drop pos).take 61) 0 (by omega)
  rw [List.drop_zero, rePre_take _ (by rw [List.length_drop]; omega), hx] at hpre
  rw [← Nat.add_assoc]
  exact bat_read_ok p _ _ _ _ _ _ x r1 (by rw [hl61]; omega) (by rw [hl61]; omega) hrl r3 r4 r5 r6 ht1 hpre rfl ht2 rfl b ha h
end Go.Proofs.YtcjgdlfcfcabiaaGreat

/- Batches of bytes, decoded. -/
namespace Go.Proofs.YtcjgdlfcfcabiaaGreat
open Go.RowKit

set_option maxHeartbeats 2000000 in
set_option maxRecDepth 100000 in
theorem bat_dec_ok (s : Bs) (hsl : s.length ≤ 1000000) (b : BatS) (n : Nat) (hr : reBat (s.drop 0) = .ok (b, n)) (hn : ¬ n < s.length) {W0 w : World} {K : Know} {L : List Res} (h : St W0 w K L) :
    Calls Tryz.prog 11 #[.string (bb s)] w fun en w' => ∃ (q : Option Addr) (l : List (RecS × Value)) (cap : Nat), en = .returned (.tuple #[.agg #[.int .i64 b.base, .int .i64 b.leader, .bool b.app, .bool b.txn, .bool b.ctl, .int .i64 b.last, .int .i64 b.first, .int .i64 b.maxt, .int .i64 b.prod, .int .i64 b.epoch, .int .i64 b.seq, .slice q l.length cap], .int .i64 0]) ∧ l.map (·.1) = b.recs ∧ St W0 w' (K.and (Know.recs (.slice q l.length cap) l)) L := by
  have g1 := h.allocRaw #[.int .i64 0, .int .i64 0, .bool false, .bool false, .bool false, .int .i64 0, .int .i64 0, .int .i64 0, .int .i64 0, .int .i64 0, .int .i64 0, .slice none 0 0] 24
  obtain ⟨rb, hrb⟩ : ∃ b, w.heap.size = b := ⟨_, rfl⟩
  rw [hrb] at g1
  have H := Lib.hid g1
  have HSL := Lib.hid (show s.length ≤ 140737488355328 by omega)
  have HSM := Lib.hid hsl
  have HR := Lib.hid hr
  have HC := Lib.hid (show (⟨s, n, 0⟩ : InS).close = ⟨s, n, 0⟩ from if_neg (show ¬ 0 < s.length - n by omega))
  clear h g1 hr hn
  go_enter Tryz.func11, Tryz.ntmps11
  go_wp2_with (first
    | (go_at_call 22; (with_reducible refine (s_new s HSL.out H.out).mono ?_); rintro e_ wn ⟨bi, rfl, h⟩; replace H := Lib.hid h; clear h)
    | (go_at_call 23; (with_reducible refine (bat_read_good bi s 0 HSM.out (Nat.zero_le _) b n HR.out H.out).mono ?_); rintro e_ wn ⟨q, l, cap, rfl, hl, h⟩; rw [Nat.zero_add] at h; have h := h.allocRaw #[.int .i64 b.base, .int .i64 b.leader, .bool b.app, .bool b.txn, .bool b.ctl, .int .i64 b.last, .int .i64 b.first, .int .i64 b.maxt, .int .i64 b.prod, .int .i64 b.epoch, .int .i64 b.seq, .slice q l.length cap] 24; obtain ⟨bB, hbB⟩ : ∃ b, wn.heap.size = b := ⟨_, rfl⟩; rw [hbB] at h; replace H := Lib.hid h; clear h)
    | (go_at_call 24; (with_reducible refine (s_closeE bi _ _ 0 (HC.out) (rfl) H.out.p1).mono ?_); rintro e_ wn ⟨rfl, h⟩; replace H := Lib.hid h; clear h; obtain ⟨c0, c1, c2, c3, c4, c5, c6, c7, c8, c9, c10, c11, g0, g1, g2, g3, g4, g5, g6, g7, g8, g9, g10, g11⟩ := raw12 (b := bB) (H.out.p1); obtain ⟨a0, a1, a2, a3, a4, a5, a6, a7, a8, a9, a10, a11, f0, f1, f2, f3, f4, f5, f6, f7, f8, f9, f10, f11⟩ := raw12 (b := rb) (H.out.p2)))
  have hz : St W0 _ _ (.raw rb #[.int .i64 b.base, .int .i64 b.leader, .bool b.app, .bool b.txn, .bool b.ctl, .int .i64 b.last, .int .i64 b.first, .int .i64 b.maxt, .int .i64 b.prod, .int .i64 b.epoch, .int .i64 b.seq, .slice q l.length cap] 24 :: _) := St.sets12 _ _ _ _ _ _ _ _ _ _ _ _ (H.out.p2)
  refine bodyPost_ret (rc_cell_tmp rfl _ _ rb [.int .i64 b.base, .int .i64 b.leader, .bool b.app, .bool b.txn, .bool b.ctl, .int .i64 b.last, .int .i64 b.first, .int .i64 b.maxt, .int .i64 b.prod, .int .i64 b.epoch, .int .i64 b.seq, .slice q l.length cap] _ rfl (rc_range hz) Tryz.underlying24 rfl (by kernel_rfl)) rfl ?_
  exact ⟨q, l, cap, rfl, hl, hz.drop.drop.drop⟩

theorem bat_decode_ok (s : Bs) (hsl : s.length ≤ 1000000) (b : BatS) (hd : batD s = .ok b) {W0 w : World} {K : Know} {L : List Res} (h : St W0 w K L) :
    Calls Tryz.prog 11 #[.string (bb s)] w fun en w' => ∃ (q : Option Addr) (l : List (RecS × Value)) (cap : Nat), en = .returned (.tuple #[.agg #[.int .i64 b.base, .int .i64 b.leader, .bool b.app, .bool b.txn, .bool b.ctl, .int .i64 b.last, .int .i64 b.first, .int .i64 b.maxt, .int .i64 b.prod, .int .i64 b.epoch, .int .i64 b.seq, .slice q l.length cap], .int .i64 0]) ∧ l.map (·.1) = b.recs ∧ St W0 w' (K.and (Know.recs (.slice q l.length cap) l)) L := by
  unfold batD at hd
  cases hr : reBat s with
  | error e => rw [hr] at hd; cases hd
  | ok y =>
    obtain ⟨c, n⟩ := y
    rw [hr] at hd
    simp only at hd
    by_cases hn : n < s.length
    · rw [if_pos hn] at hd; cases hd
    rw [if_neg hn] at hd
    cases hd
    exact bat_dec_ok s hsl b n hr hn h
end Go.Proofs.YtcjgdlfcfcabiaaGreat
