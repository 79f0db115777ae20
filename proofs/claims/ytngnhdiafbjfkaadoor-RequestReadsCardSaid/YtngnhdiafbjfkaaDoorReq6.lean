/- Heads of requests: the reference, read to the end. -/
import Derived.Test.YtngnhdiafbjfkaaDoorReq5
import Derived.Deep.RegionHeld3
import Derived.IntWalk
namespace Go.Proofs.YtngnhdiafbjfkaaDoor
open Go.RowKit

set_option maxHeartbeats 1000000 in
set_option maxRecDepth 100000 in
theorem ref17_read_bad (s : Bs) (hs8 : ¬ s.length < 8) (hsl : s.length ≤ 140737488355328) (a v n : Int) (ha : sInt (s.take 2) = a) (hv : sInt ((s.drop 2).take 2) = v) (hn : sInt ((s.drop 4).take 4) = n) (he : verErr a v = 0)
    (gn : Bool) (gd : Bs) (gm : Nat) (ge : Int) (hg : gotV (refixed 2 (s.drop 8)) = .agg #[.bool gn, .string (bb gd), .int .i64 gm, .int .i64 ge]) (hgm : gm ≤ 140737488355328) (g : ge ≠ 0) {W0 w : World} {K : Know} {L : List Res} (h : St W0 w K L) :
    Calls Tryd.prog 22 #[.string (bb s)] w fun en w' => en = .returned (.tuple #[.agg #[.int .i64 0, .int .i64 0, .int .i64 0, .bool false, .string ⟨#[]⟩], .int .i64 0, .int .i64 ge]) ∧ St W0 w' K L := by
  have g1 := h.allocRaw #[.int .i64 0, .int .i64 0, .int .i64 0, .bool false, .string ⟨#[]⟩] 47
  have g2 := (g1.allocRaw #[.int .i64 0, .int .i64 0, .int .i64 0, .bool false, .string ⟨#[]⟩] 47)
  obtain ⟨rb, hrb⟩ : ∃ b, w.heap.size = b := ⟨_, rfl⟩
  obtain ⟨nb, hnb⟩ : ∃ b, rb + 1 = b := ⟨_, rfl⟩
  simp only [World.size_alloc, hrb, hnb] at g2
  have HS := Lib.hid hsl
  obtain ⟨x0, x1, x2, x3, x4, y0, y1, y2, y3, y4⟩ := raw5 (b := nb) (g2)
  obtain ⟨p0, p1, p2, p3, p4, q0, q1, q2, q3, q4⟩ := raw5 (b := rb) (g2.p1)
  have H := Lib.hid g2
  have d1 : decide ((s.length : Int) < 4) = false := decide_eq_false (by omega)
  have d2 : decide ((s.length : Int) < 8) = false := decide_eq_false (by omega)
  have l4 : (4 : Int) ≤ (s.length : Int) := by omega
  have l2 : (2 : Int) ≤ (s.length : Int) := by omega
  have l8 : (8 : Int) ≤ (s.length : Int) := by omega
  have HA := Lib.hid ha
  have HV := Lib.hid hv
  have HN := Lib.hid hn
  have HE := Lib.hid he
  have HG := Lib.hid hg
  have HL1 := Lib.hid (show (s.take 2).length ≤ 8 by rw [List.length_take]; omega)
  have HL2 := Lib.hid (show ((s.drop 2).take 2).length ≤ 8 by rw [List.length_take]; omega)
  have HL4 := Lib.hid (show ((s.drop 4).take 4).length ≤ 8 by rw [List.length_take]; omega)
  have HT := Lib.hid (show List.take (s.length - 8) (List.drop 8 s) = s.drop 8 from List.take_of_length_le (by rw [List.length_drop]; omega))
  have HXL := Lib.hid (show (s.drop 8).length ≤ 140737488355328 by rw [List.length_drop]; omega)
  have w8 : IntKind.i64.wrap (8 + (gm : Int)) = 8 + (gm : Int) := IntWalk.i64_in _ (by omega)
  have gz : (ge == 0) = false := by rw [beq_eq_false_iff_ne]; exact g
  clear g
  clear g1 g2 h ha hv he hn hg hs8 hsl hgm
  go_enter Tryd.func22, Tryd.ntmps22
  go_upto_region 4 with (fail)
  go_cut [6] (fun s6 wx => ∃ hb, s6 = .pointer (some ⟨hb, 0, none⟩) ∧ St W0 wx K (.raw hb #[.int .i64 a, .int .i64 v, .int .i64 0, .bool false, .string ⟨#[]⟩] 47 :: .raw nb #[.int .i64 0, .int .i64 0, .int .i64 0, .bool false, .string ⟨#[]⟩] 47 :: .raw rb #[.int .i64 0, .int .i64 0, .int .i64 0, .bool false, .string ⟨#[]⟩] 47 :: L))
  case first =>
    have hs := H.out.drew
    refine wp_region_held_drew (S := fun _ => True) (by kernel_rfl) trivial (fun hHeld => ?_)
    refine wpAnyH_take (i := 0) (oi := { dst := some 14, op := Op.move (Operand.tmp 0), type := 9, pos := "ref.go:64", after := #[], guard := none }) (v := ?_) rfl (by kernel_rfl) (by kernel_rfl) (by kernel_rfl) (fun _ _ _ h => h) (Or.inl ⟨by rfl, ?_⟩) (by assumption) ?_
    rotate_left
    · intro w hSw; (try dsimp only at hSw); go_simp; try with_reducible rfl
    simp only [Act.put, List.setIfInBounds_toArray, List.set_cons_zero, List.set_cons_succ]
    refine wpAnyH_take (i := 1) (oi := { dst := some 15, op := Op.slice 9 (Operand.tmp 14) none (some (Operand.const (Value.int IntKind.i64 2))) none, type := 9, pos := "ref.go:64", after := #[{ on := 0, ground := Ground.data }], guard := none }) (v := ?_) rfl (by kernel_rfl) (by kernel_rfl) (by kernel_rfl) (fun _ _ _ h => h) (Or.inl ⟨by rfl, ?_⟩) (by assumption) ?_
    rotate_left
    · intro w hSw; (try dsimp only at hSw); go_simp; try with_reducible rfl
    simp only [Act.put, List.setIfInBounds_toArray, List.set_cons_zero, List.set_cons_succ]
    refine wpAnyH_take (i := 3) (oi := { dst := some 17, op := Op.move (Operand.tmp 0), type := 9, pos := "ref.go:64", after := #[], guard := none }) (v := ?_) rfl (by kernel_rfl) (by kernel_rfl) (by kernel_rfl) (fun _ _ _ h => h) (Or.inl ⟨by rfl, ?_⟩) (by assumption) ?_
    rotate_left
    · intro w hSw; (try dsimp only at hSw); go_simp; try with_reducible rfl
    simp only [Act.put, List.setIfInBounds_toArray, List.set_cons_zero, List.set_cons_succ]
    refine wpAnyH_take (i := 4) (oi := { dst := some 18, op := Op.slice 9 (Operand.tmp 17) (some (Operand.const (Value.int IntKind.i64 2))) (some (Operand.const (Value.int IntKind.i64 4))) none, type := 9, pos := "ref.go:64", after := #[{ on := 3, ground := Ground.data }], guard := none }) (v := ?_) rfl (by kernel_rfl) (by kernel_rfl) (by kernel_rfl) (fun _ _ _ h => h) (Or.inl ⟨by rfl, ?_⟩) (by assumption) ?_
    rotate_left
    · intro w hSw; (try dsimp only at hSw); go_simp; try with_reducible rfl
    simp only [Act.put, List.setIfInBounds_toArray, List.set_cons_zero, List.set_cons_succ]
    refine wpAnyH_ready (rs := [2, 7]) (by kernel_rfl) (by simp) (AllReadyH.cons (o := { dst := some 16, op := Op.call { callee := Callee.value (Operand.func 38), args := #[Operand.tmp 15], argTypes := #[9] }, type := 3, pos := "ref.go:64", after := #[{ on := 1, ground := Ground.data }], guard := none }) rfl (fun KK hK => ?_) (AllReadyH.cons (o := { dst := some 6, op := Op.alloc 47, type := 0, pos := "ref.go:64", after := #[], guard := none }) rfl (fun KK hK => ?_) AllReadyH.nil))
    · go_simp
      go_at_call 38
      with_reducible refine (sr_intQ _ a HA.out HL1.out hs).mono ?_
      rintro e wq ⟨rfl, hs⟩
      refine hK.out _ _ (trivial) (fun hHeld => ?_)
      clear hK KK
      try simp only [Act.put, List.setIfInBounds_toArray, List.set_cons_zero, List.set_cons_succ]
      refine wpAnyH_ready (rs := [5, 7]) (by kernel_rfl) (by simp) (AllReadyH.cons (o := { dst := some 19, op := Op.call { callee := Callee.value (Operand.func 38), args := #[Operand.tmp 18], argTypes := #[9] }, type := 3, pos := "ref.go:64", after := #[{ on := 4, ground := Ground.data }, { on := 2, ground := Ground.chain }], guard := none }) rfl (fun KK hK => ?_) (AllReadyH.cons (o := { dst := some 6, op := Op.alloc 47, type := 0, pos := "ref.go:64", after := #[], guard := none }) rfl (fun KK hK => ?_) AllReadyH.nil))
      · go_simp
        go_at_call 38
        with_reducible refine (sr_intQ _ v HV.out HL2.out hs).mono ?_
        rintro e wq ⟨rfl, hs⟩
        refine hK.out _ _ (trivial) (fun hHeld => ?_)
        clear hK KK
        try simp only [Act.put, List.setIfInBounds_toArray, List.set_cons_zero, List.set_cons_succ]
        refine wpAnyH_take (i := 6) (oi := { dst := some 20, op := Op.build 47 #[(0, Operand.tmp 16), (1, Operand.tmp 19)], type := 47, pos := "ref.go:64", after := #[{ on := 2, ground := Ground.data }, { on := 5, ground := Ground.data }], guard := none }) (v := ?_) rfl (by kernel_rfl) (by kernel_rfl) (by kernel_rfl) (fun _ _ _ h => h) (Or.inl ⟨by rfl, ?_⟩) (by assumption) ?_
        rotate_left
        · intro w hSw; (try dsimp only at hSw); go_simp; try with_reducible rfl
        simp only [Act.put, List.setIfInBounds_toArray, List.set_cons_zero, List.set_cons_succ]
        refine wpAnyH_ready (rs := [7]) (by kernel_rfl) (by simp) (AllReadyH.cons (o := { dst := some 6, op := Op.alloc 47, type := 0, pos := "ref.go:64", after := #[], guard := none }) rfl (fun KK hK => ?_) AllReadyH.nil)
        · obtain ⟨wy, hb, ey, eb, hs⟩ := hs.allocEx #[.int .i64 0, .int .i64 0, .int .i64 0, .bool false, .string ⟨#[]⟩] 47
          go_simp
          try rw [ey]
          try rw [eb]
          clear ey eb
          refine hK.out _ _ (trivial) (fun hHeld => ?_)
          clear hK KK
          try simp only [Act.put, List.setIfInBounds_toArray, List.set_cons_zero, List.set_cons_succ]
          refine wpAnyH_ready (rs := [8]) (by kernel_rfl) (by simp) (AllReadyH.cons (o := { dst := none, op := Op.store 47 (Operand.tmp 6) (Operand.tmp 20), type := 0, pos := "ref.go:64", after := #[{ on := 7, ground := Ground.data }, { on := 6, ground := Ground.data }, { on := 5, ground := Ground.chain }, { on := 0, ground := Ground.phase }, { on := 1, ground := Ground.phase }, { on := 2, ground := Ground.phase }, { on := 3, ground := Ground.phase }, { on := 4, ground := Ground.phase }, { on := 5, ground := Ground.phase }, { on := 6, ground := Ground.phase }, { on := 7, ground := Ground.phase }], guard := none }) rfl (fun KK hK => ?_) AllReadyH.nil)
          · rw [if_pos (by rfl)]
            refine wp_store_mid 47 (.tmp 6) (.tmp 20) rfl hb 0 #[.int .i64 a, .int .i64 v, .int .i64 0, .bool false, .string ⟨#[]⟩] (by rfl) (by rfl) hs.there (by kernel_rfl) (by simp [Value.oneCell']) ?_
            obtain ⟨wz, ez, hs⟩ := hs.storeEx #[.int .i64 a, .int .i64 v, .int .i64 0, .bool false, .string ⟨#[]⟩]
            rw [ez]
            clear ez
            refine hK.out _ _ (trivial) (fun hHeld => ?_)
            clear hK KK
            try simp only [Act.put, List.setIfInBounds_toArray, List.set_cons_zero, List.set_cons_succ]
            refine wpAnyH_done (by kernel_rfl) ?_ _
            go_wp2_with fail
            go_meet
            exact ⟨hb, rfl, hs⟩
      · obtain ⟨wy, hb, ey, eb, hs⟩ := hs.allocEx #[.int .i64 0, .int .i64 0, .int .i64 0, .bool false, .string ⟨#[]⟩] 47
        go_simp
        try rw [ey]
        try rw [eb]
        clear ey eb
        refine hK.out _ _ (trivial) (fun hHeld => ?_)
        clear hK KK
        try simp only [Act.put, List.setIfInBounds_toArray, List.set_cons_zero, List.set_cons_succ]
        refine wpAnyH_ready (rs := [5]) (by kernel_rfl) (by simp) (AllReadyH.cons (o := { dst := some 19, op := Op.call { callee := Callee.value (Operand.func 38), args := #[Operand.tmp 18], argTypes := #[9] }, type := 3, pos := "ref.go:64", after := #[{ on := 4, ground := Ground.data }, { on := 2, ground := Ground.chain }], guard := none }) rfl (fun KK hK => ?_) AllReadyH.nil)
        · go_simp
          go_at_call 38
          with_reducible refine (sr_intQ _ v HV.out HL2.out hs).mono ?_
          rintro e wq ⟨rfl, hs⟩
          refine hK.out _ _ (trivial) (fun hHeld => ?_)
          clear hK KK
          try simp only [Act.put, List.setIfInBounds_toArray, List.set_cons_zero, List.set_cons_succ]
          refine wpAnyH_take (i := 6) (oi := { dst := some 20, op := Op.build 47 #[(0, Operand.tmp 16), (1, Operand.tmp 19)], type := 47, pos := "ref.go:64", after := #[{ on := 2, ground := Ground.data }, { on := 5, ground := Ground.data }], guard := none }) (v := ?_) rfl (by kernel_rfl) (by kernel_rfl) (by kernel_rfl) (fun _ _ _ h => h) (Or.inl ⟨by rfl, ?_⟩) (by assumption) ?_
          rotate_left
          · intro w hSw; (try dsimp only at hSw); go_simp; try with_reducible rfl
          simp only [Act.put, List.setIfInBounds_toArray, List.set_cons_zero, List.set_cons_succ]
          refine wpAnyH_ready (rs := [8]) (by kernel_rfl) (by simp) (AllReadyH.cons (o := { dst := none, op := Op.store 47 (Operand.tmp 6) (Operand.tmp 20), type := 0, pos := "ref.go:64", after := #[{ on := 7, ground := Ground.data }, { on := 6, ground := Ground.data }, { on := 5, ground := Ground.chain }, { on := 0, ground := Ground.phase }, { on := 1, ground := Ground.phase }, { on := 2, ground := Ground.phase }, { on := 3, ground := Ground.phase }, { on := 4, ground := Ground.phase }, { on := 5, ground := Ground.phase }, { on := 6, ground := Ground.phase }, { on := 7, ground := Ground.phase }], guard := none }) rfl (fun KK hK => ?_) AllReadyH.nil)
          · rw [if_pos (by rfl)]
            refine wp_store_mid 47 (.tmp 6) (.tmp 20) rfl hb 0 #[.int .i64 a, .int .i64 v, .int .i64 0, .bool false, .string ⟨#[]⟩] (by rfl) (by rfl) hs.there (by kernel_rfl) (by simp [Value.oneCell']) ?_
            obtain ⟨wz, ez, hs⟩ := hs.storeEx #[.int .i64 a, .int .i64 v, .int .i64 0, .bool false, .string ⟨#[]⟩]
            rw [ez]
            clear ez
            refine hK.out _ _ (trivial) (fun hHeld => ?_)
            clear hK KK
            try simp only [Act.put, List.setIfInBounds_toArray, List.set_cons_zero, List.set_cons_succ]
            refine wpAnyH_done (by kernel_rfl) ?_ _
            go_wp2_with fail
            go_meet
            exact ⟨hb, rfl, hs⟩
    · obtain ⟨wy, hb, ey, eb, hs⟩ := hs.allocEx #[.int .i64 0, .int .i64 0, .int .i64 0, .bool false, .string ⟨#[]⟩] 47
      go_simp
      try rw [ey]
      try rw [eb]
      clear ey eb
      refine hK.out _ _ (trivial) (fun hHeld => ?_)
      clear hK KK
      try simp only [Act.put, List.setIfInBounds_toArray, List.set_cons_zero, List.set_cons_succ]
      refine wpAnyH_ready (rs := [2]) (by kernel_rfl) (by simp) (AllReadyH.cons (o := { dst := some 16, op := Op.call { callee := Callee.value (Operand.func 38), args := #[Operand.tmp 15], argTypes := #[9] }, type := 3, pos := "ref.go:64", after := #[{ on := 1, ground := Ground.data }], guard := none }) rfl (fun KK hK => ?_) AllReadyH.nil)
      · go_simp
        go_at_call 38
        with_reducible refine (sr_intQ _ a HA.out HL1.out hs).mono ?_
        rintro e wq ⟨rfl, hs⟩
        refine hK.out _ _ (trivial) (fun hHeld => ?_)
        clear hK KK
        try simp only [Act.put, List.setIfInBounds_toArray, List.set_cons_zero, List.set_cons_succ]
        refine wpAnyH_ready (rs := [5]) (by kernel_rfl) (by simp) (AllReadyH.cons (o := { dst := some 19, op := Op.call { callee := Callee.value (Operand.func 38), args := #[Operand.tmp 18], argTypes := #[9] }, type := 3, pos := "ref.go:64", after := #[{ on := 4, ground := Ground.data }, { on := 2, ground := Ground.chain }], guard := none }) rfl (fun KK hK => ?_) AllReadyH.nil)
        · go_simp
          go_at_call 38
          with_reducible refine (sr_intQ _ v HV.out HL2.out hs).mono ?_
          rintro e wq ⟨rfl, hs⟩
          refine hK.out _ _ (trivial) (fun hHeld => ?_)
          clear hK KK
          try simp only [Act.put, List.setIfInBounds_toArray, List.set_cons_zero, List.set_cons_succ]
          refine wpAnyH_take (i := 6) (oi := { dst := some 20, op := Op.build 47 #[(0, Operand.tmp 16), (1, Operand.tmp 19)], type := 47, pos := "ref.go:64", after := #[{ on := 2, ground := Ground.data }, { on := 5, ground := Ground.data }], guard := none }) (v := ?_) rfl (by kernel_rfl) (by kernel_rfl) (by kernel_rfl) (fun _ _ _ h => h) (Or.inl ⟨by rfl, ?_⟩) (by assumption) ?_
          rotate_left
          · intro w hSw; (try dsimp only at hSw); go_simp; try with_reducible rfl
          simp only [Act.put, List.setIfInBounds_toArray, List.set_cons_zero, List.set_cons_succ]
          refine wpAnyH_ready (rs := [8]) (by kernel_rfl) (by simp) (AllReadyH.cons (o := { dst := none, op := Op.store 47 (Operand.tmp 6) (Operand.tmp 20), type := 0, pos := "ref.go:64", after := #[{ on := 7, ground := Ground.data }, { on := 6, ground := Ground.data }, { on := 5, ground := Ground.chain }, { on := 0, ground := Ground.phase }, { on := 1, ground := Ground.phase }, { on := 2, ground := Ground.phase }, { on := 3, ground := Ground.phase }, { on := 4, ground := Ground.phase }, { on := 5, ground := Ground.phase }, { on := 6, ground := Ground.phase }, { on := 7, ground := Ground.phase }], guard := none }) rfl (fun KK hK => ?_) AllReadyH.nil)
          · rw [if_pos (by rfl)]
            refine wp_store_mid 47 (.tmp 6) (.tmp 20) rfl hb 0 #[.int .i64 a, .int .i64 v, .int .i64 0, .bool false, .string ⟨#[]⟩] (by rfl) (by rfl) hs.there (by kernel_rfl) (by simp [Value.oneCell']) ?_
            obtain ⟨wz, ez, hs⟩ := hs.storeEx #[.int .i64 a, .int .i64 v, .int .i64 0, .bool false, .string ⟨#[]⟩]
            rw [ez]
            clear ez
            refine hK.out _ _ (trivial) (fun hHeld => ?_)
            clear hK KK
            try simp only [Act.put, List.setIfInBounds_toArray, List.set_cons_zero, List.set_cons_succ]
            refine wpAnyH_done (by kernel_rfl) ?_ _
            go_wp2_with fail
            go_meet
            exact ⟨hb, rfl, hs⟩
  obtain ⟨hb, rfl, h⟩ := hcut
  clear H
  have H := Lib.hid h
  clear h
  obtain ⟨x0, x1, x2, x3, x4, y0, y1, y2, y3, y4⟩ := raw5 (b := hb) (H.out)
  obtain ⟨c0, c1, c2, c3, c4, f0, f1, f2, f3, f4⟩ := raw5 (b := nb) (H.out.p1)
  obtain ⟨p0, p1, p2, p3, p4, q0, q1, q2, q3, q4⟩ := raw5 (b := rb) (H.out.p2)
  go_upto_region 13 with (first
    | (go_at_call 29; (with_reducible refine (ref17_versions a v 0 HE.out H.out).mono ?_); rintro e wn ⟨rfl, h⟩; replace H := Lib.hid h; clear h)
    | (go_at_call 38; (with_reducible refine (sr_intQ _ n HN.out HL4.out H.out).mono ?_); rintro e wn ⟨rfl, h⟩; replace H := Lib.hid h; clear h; obtain ⟨x0, x1, x2, x3, x4, y0, y1, y2, y3, y4⟩ := raw5 (b := hb) (H.out))
    | (go_at_call 39; (with_reducible refine (ref04_readFixedT _ _ _ HT.out HXL.out HG.out (show St W0 _ K (.raw hb #[.int .i64 a, .int .i64 v, .int .i64 n, .bool false, .string ⟨#[]⟩] 47 :: .raw nb #[.int .i64 0, .int .i64 0, .int .i64 0, .bool false, .string ⟨#[]⟩] 47 :: .raw rb #[.int .i64 0, .int .i64 0, .int .i64 0, .bool false, .string ⟨#[]⟩] 47 :: L) from H.out.rawSet 2 (.int .i64 n))).mono ?_); rintro e wn ⟨rfl, h⟩; have h := h.allocRaw #[.bool gn, .string (bb gd), .int .i64 gm, .int .i64 ge] 76; obtain ⟨gb, hgb⟩ : ∃ b, wn.heap.size = b := ⟨_, rfl⟩; rw [hgb] at h; obtain ⟨k0, k1, k2, k3⟩ := raw4g h; obtain ⟨x0, x1, x2, x3, x4, y0, y1, y2, y3, y4⟩ := raw5 (b := hb) (h.p1); replace H := Lib.hid h; clear h))
  have hs := H.out.drew
  refine wp_region_held_drew (S := fun w' => w'.cell? ⟨nb, 0, none⟩ = some (.int .i64 0) ∧ w'.cell? ⟨nb, 1, none⟩ = some (.int .i64 0) ∧ w'.cell? ⟨nb, 2, none⟩ = some (.int .i64 0) ∧ w'.cell? ⟨nb, 3, none⟩ = some (.bool false) ∧ w'.cell? ⟨nb, 4, none⟩ = some (.string ⟨#[]⟩) ∧ w'.cell? ⟨gb, 3, none⟩ = some (.int .i64 ge)) (by kernel_rfl) (let ⟨c0, c1, c2, c3, c4⟩ := req_keep (hb := nb) (hs.p2); ⟨c0, c1, c2, c3, c4, (raw4g (hs)).2.2.2⟩) (fun hHeld => ?_)
  refine wpAnyH_take (i := 0) (oi := { dst := some 44, op := Op.load 47 (Operand.tmp 5), type := 47, pos := "ref.go:75", after := #[], guard := none }) (v := ?_) rfl (by kernel_rfl) (by kernel_rfl) (by kernel_rfl) (fun _ _ _ h => h) (Or.inl ⟨by rfl, ?_⟩) (by assumption) ?_
  rotate_left
  · intro w hSw; (try dsimp only at hSw); go_simp; try with_reducible rfl
  simp only [Act.put, List.setIfInBounds_toArray, List.set_cons_zero, List.set_cons_succ]
  refine wpAnyH_take (i := 1) (oi := { dst := some 45, op := Op.fieldAddr 76 (Operand.tmp 8) 2, type := 0, pos := "ref.go:75", after := #[{ on := 4, ground := Ground.gcOnly Departure.lateStores }], guard := none }) (v := ?_) rfl (by kernel_rfl) (by kernel_rfl) (by kernel_rfl) (fun _ _ _ h => h) (Or.inl ⟨by rfl, ?_⟩) (by assumption) ?_
  rotate_left
  · intro w hSw; (try dsimp only at hSw); go_simp; try with_reducible rfl
  simp only [Act.put, List.setIfInBounds_toArray, List.set_cons_zero, List.set_cons_succ]
  refine wpAnyH_take (i := 2) (oi := { dst := some 46, op := Op.load 3 (Operand.tmp 45), type := 3, pos := "ref.go:75", after := #[{ on := 1, ground := Ground.data }, { on := 4, ground := Ground.gcOnly Departure.lateStores }], guard := none }) (v := ?_) rfl (by kernel_rfl) (by kernel_rfl) (by kernel_rfl) (fun _ _ _ h => h) (Or.inl ⟨by rfl, ?_⟩) (by assumption) ?_
  rotate_left
  · intro w hSw; (try dsimp only at hSw); go_simp; try with_reducible rfl
  simp only [Act.put, List.setIfInBounds_toArray, List.set_cons_zero, List.set_cons_succ]
  refine wpAnyH_ready (rs := [3]) (by kernel_rfl) (by simp) (AllReadyH.cons (o := { dst := none, op := Op.store 47 (Operand.tmp 2) (Operand.tmp 44), type := 0, pos := "ref.go:75", after := #[{ on := 0, ground := Ground.data }, { on := 0, ground := Ground.phase }, { on := 1, ground := Ground.textOnly Departure.lateStores }, { on := 2, ground := Ground.textOnly Departure.lateStores }], guard := none }) rfl (fun KK hK => ?_) AllReadyH.nil)
  · have hs := hs.p3
    rw [if_pos (by rfl)]
    refine wp_store_mid 47 (.tmp 2) (.tmp 44) rfl rb 0 #[.int .i64 0, .int .i64 0, .int .i64 0, .bool false, .string ⟨#[]⟩] (by rfl) (by rfl) hs.there (by kernel_rfl) (by simp [Value.oneCell']) ?_
    obtain ⟨wz, ez, hs⟩ := hs.storeEx #[.int .i64 0, .int .i64 0, .int .i64 0, .bool false, .string ⟨#[]⟩]
    rw [ez]
    clear ez
    refine hK.out _ _ (let ⟨c0, c1, c2, c3, c4⟩ := req_keep (hb := nb) (hs.p3); ⟨c0, c1, c2, c3, c4, (raw4g (hs.p1)).2.2.2⟩) (fun hHeld => ?_)
    clear hK KK
    try simp only [Act.put, List.setIfInBounds_toArray, List.set_cons_zero, List.set_cons_succ]
    refine wpAnyH_take (i := 4) (oi := { dst := some 3, op := Op.assign (Operand.const (Value.int IntKind.i64 0)), type := 3, pos := "ref.go:75", after := #[{ on := 3, ground := Ground.chain }, { on := 0, ground := Ground.phase }, { on := 1, ground := Ground.textOnly Departure.lateStores }, { on := 2, ground := Ground.textOnly Departure.lateStores }, { on := 3, ground := Ground.phase }], guard := none }) (v := ?_) rfl (by kernel_rfl) (by kernel_rfl) (by kernel_rfl) (fun _ _ _ h => h) (Or.inl ⟨by rfl, ?_⟩) (by assumption) ?_
    rotate_left
    · intro w hSw; (try dsimp only at hSw); go_simp; try with_reducible rfl
    simp only [Act.put, List.setIfInBounds_toArray, List.set_cons_zero, List.set_cons_succ]
    refine wpAnyH_take (i := 5) (oi := { dst := some 4, op := Op.assign (Operand.tmp 46), type := 3, pos := "ref.go:75", after := #[{ on := 2, ground := Ground.data }, { on := 4, ground := Ground.chain }, { on := 0, ground := Ground.phase }, { on := 1, ground := Ground.phase }, { on := 2, ground := Ground.phase }, { on := 3, ground := Ground.phase }, { on := 4, ground := Ground.phase }], guard := none }) (v := ?_) rfl (by kernel_rfl) (by kernel_rfl) (by kernel_rfl) (fun _ _ _ h => h) (Or.inl ⟨by rfl, ?_⟩) (by assumption) ?_
    rotate_left
    · intro w hSw; (try dsimp only at hSw); go_simp; try with_reducible rfl
    simp only [Act.put, List.setIfInBounds_toArray, List.set_cons_zero, List.set_cons_succ]
    refine wpAnyH_done (by kernel_rfl) ?_ _
    clear hHeld
    go_wp2_with fail
    have hz : St W0 _ K (.raw rb #[.int .i64 0, .int .i64 0, .int .i64 0, .bool false, .string ⟨#[]⟩] 47 :: _) := hs
    refine bodyPost_ret (results_cell_tmp2 rfl _ _ rb [.int .i64 0, .int .i64 0, .int .i64 0, .bool false, .string ⟨#[]⟩] _ rfl (St.range hz) Tryd.underlying47 rfl (by kernel_rfl)) rfl ?_
    exact ⟨rfl, hz.drop.drop.drop.drop⟩

set_option maxHeartbeats 1000000 in
set_option maxRecDepth 100000 in
theorem ref17_read_good (s : Bs) (hs8 : ¬ s.length < 8) (hsl : s.length ≤ 140737488355328) (a v n : Int) (ha : sInt (s.take 2) = a) (hv : sInt ((s.drop 2).take 2) = v) (hn : sInt ((s.drop 4).take 4) = n) (he : verErr a v = 0)
    (gn : Bool) (gd : Bs) (gm : Nat) (ge : Int) (hg : gotV (refixed 2 (s.drop 8)) = .agg #[.bool gn, .string (bb gd), .int .i64 gm, .int .i64 0]) (hgm : gm ≤ 140737488355328) (g : ge = 0) {W0 w : World} {K : Know} {L : List Res} (h : St W0 w K L) :
    Calls Tryd.prog 22 #[.string (bb s)] w fun en w' => en = .returned (.tuple #[.agg #[.int .i64 a, .int .i64 v, .int .i64 n, .bool gn, .string (bb gd)], .int .i64 (8 + (gm : Int)), .int .i64 0]) ∧ St W0 w' K L := by
  subst g
  have g1 := h.allocRaw #[.int .i64 0, .int .i64 0, .int .i64 0, .bool false, .string ⟨#[]⟩] 47
  have g2 := (g1.allocRaw #[.int .i64 0, .int .i64 0, .int .i64 0, .bool false, .string ⟨#[]⟩] 47)
  obtain ⟨rb, hrb⟩ : ∃ b, w.heap.size = b := ⟨_, rfl⟩
  obtain ⟨nb, hnb⟩ : ∃ b, rb + 1 = b := ⟨_, rfl⟩
  simp only [World.size_alloc, hrb, hnb] at g2
  have HS := Lib.hid hsl
  obtain ⟨x0, x1, x2, x3, x4, y0, y1, y2, y3, y4⟩ := raw5 (b := nb) (g2)
  obtain ⟨p0, p1, p2, p3, p4, q0, q1, q2, q3, q4⟩ := raw5 (b := rb) (g2.p1)
  have H := Lib.hid g2
  have d1 : decide ((s.length : Int) < 4) = false := decide_eq_false (by omega)
  have d2 : decide ((s.length : Int) < 8) = false := decide_eq_false (by omega)
  have l4 : (4 : Int) ≤ (s.length : Int) := by omega
  have l2 : (2 : Int) ≤ (s.length : Int) := by omega
  have l8 : (8 : Int) ≤ (s.length : Int) := by omega
  have HA := Lib.hid ha
  have HV := Lib.hid hv
  have HN := Lib.hid hn
  have HE := Lib.hid he
  have HG := Lib.hid hg
  have HL1 := Lib.hid (show (s.take 2).length ≤ 8 by rw [List.length_take]; omega)
  have HL2 := Lib.hid (show ((s.drop 2).take 2).length ≤ 8 by rw [List.length_take]; omega)
  have HL4 := Lib.hid (show ((s.drop 4).take 4).length ≤ 8 by rw [List.length_take]; omega)
  have HT := Lib.hid (show List.take (s.length - 8) (List.drop 8 s) = s.drop 8 from List.take_of_length_le (by rw [List.length_drop]; omega))
  have HXL := Lib.hid (show (s.drop 8).length ≤ 140737488355328 by rw [List.length_drop]; omega)
  have w8 : IntKind.i64.wrap (8 + (gm : Int)) = 8 + (gm : Int) := IntWalk.i64_in _ (by omega)
  clear g1 g2 h ha hv he hn hg hs8 hsl hgm
  go_enter Tryd.func22, Tryd.ntmps22
  go_upto_region 4 with (fail)
  go_cut [6] (fun s6 wx => ∃ hb, s6 = .pointer (some ⟨hb, 0, none⟩) ∧ St W0 wx K (.raw hb #[.int .i64 a, .int .i64 v, .int .i64 0, .bool false, .string ⟨#[]⟩] 47 :: .raw nb #[.int .i64 0, .int .i64 0, .int .i64 0, .bool false, .string ⟨#[]⟩] 47 :: .raw rb #[.int .i64 0, .int .i64 0, .int .i64 0, .bool false, .string ⟨#[]⟩] 47 :: L))
  case first =>
    have hs := H.out.drew
    refine wp_region_held_drew (S := fun _ => True) (by kernel_rfl) trivial (fun hHeld => ?_)
    refine wpAnyH_take (i := 0) (oi := { dst := some 14, op := Op.move (Operand.tmp 0), type := 9, pos := "ref.go:64", after := #[], guard := none }) (v := ?_) rfl (by kernel_rfl) (by kernel_rfl) (by kernel_rfl) (fun _ _ _ h => h) (Or.inl ⟨by rfl, ?_⟩) (by assumption) ?_
    rotate_left
    · intro w hSw; (try dsimp only at hSw); go_simp; try with_reducible rfl
    simp only [Act.put, List.setIfInBounds_toArray, List.set_cons_zero, List.set_cons_succ]
    refine wpAnyH_take (i := 1) (oi := { dst := some 15, op := Op.slice 9 (Operand.tmp 14) none (some (Operand.const (Value.int IntKind.i64 2))) none, type := 9, pos := "ref.go:64", after := #[{ on := 0, ground := Ground.data }], guard := none }) (v := ?_) rfl (by kernel_rfl) (by kernel_rfl) (by kernel_rfl) (fun _ _ _ h => h) (Or.inl ⟨by rfl, ?_⟩) (by assumption) ?_
    rotate_left
    · intro w hSw; (try dsimp only at hSw); go_simp; try with_reducible rfl
    simp only [Act.put, List.setIfInBounds_toArray, List.set_cons_zero, List.set_cons_succ]
    refine wpAnyH_take (i := 3) (oi := { dst := some 17, op := Op.move (Operand.tmp 0), type := 9, pos := "ref.go:64", after := #[], guard := none }) (v := ?_) rfl (by kernel_rfl) (by kernel_rfl) (by kernel_rfl) (fun _ _ _ h => h) (Or.inl ⟨by rfl, ?_⟩) (by assumption) ?_
    rotate_left
    · intro w hSw; (try dsimp only at hSw); go_simp; try with_reducible rfl
    simp only [Act.put, List.setIfInBounds_toArray, List.set_cons_zero, List.set_cons_succ]
    refine wpAnyH_take (i := 4) (oi := { dst := some 18, op := Op.slice 9 (Operand.tmp 17) (some (Operand.const (Value.int IntKind.i64 2))) (some (Operand.const (Value.int IntKind.i64 4))) none, type := 9, pos := "ref.go:64", after := #[{ on := 3, ground := Ground.data }], guard := none }) (v := ?_) rfl (by kernel_rfl) (by kernel_rfl) (by kernel_rfl) (fun _ _ _ h => h) (Or.inl ⟨by rfl, ?_⟩) (by assumption) ?_
    rotate_left
    · intro w hSw; (try dsimp only at hSw); go_simp; try with_reducible rfl
    simp only [Act.put, List.setIfInBounds_toArray, List.set_cons_zero, List.set_cons_succ]
    refine wpAnyH_ready (rs := [2, 7]) (by kernel_rfl) (by simp) (AllReadyH.cons (o := { dst := some 16, op := Op.call { callee := Callee.value (Operand.func 38), args := #[Operand.tmp 15], argTypes := #[9] }, type := 3, pos := "ref.go:64", after := #[{ on := 1, ground := Ground.data }], guard := none }) rfl (fun KK hK => ?_) (AllReadyH.cons (o := { dst := some 6, op := Op.alloc 47, type := 0, pos := "ref.go:64", after := #[], guard := none }) rfl (fun KK hK => ?_) AllReadyH.nil))
    · go_simp
      go_at_call 38
      with_reducible refine (sr_intQ _ a HA.out HL1.out hs).mono ?_
      rintro e wq ⟨rfl, hs⟩
      refine hK.out _ _ (trivial) (fun hHeld => ?_)
      clear hK KK
      try simp only [Act.put, List.setIfInBounds_toArray, List.set_cons_zero, List.set_cons_succ]
      refine wpAnyH_ready (rs := [5, 7]) (by kernel_rfl) (by simp) (AllReadyH.cons (o := { dst := some 19, op := Op.call { callee := Callee.value (Operand.func 38), args := #[Operand.tmp 18], argTypes := #[9] }, type := 3, pos := "ref.go:64", after := #[{ on := 4, ground := Ground.data }, { on := 2, ground := Ground.chain }], guard := none }) rfl (fun KK hK => ?_) (AllReadyH.cons (o := { dst := some 6, op := Op.alloc 47, type := 0, pos := "ref.go:64", after := #[], guard := none }) rfl (fun KK hK => ?_) AllReadyH.nil))
      · go_simp
        go_at_call 38
        with_reducible refine (sr_intQ _ v HV.out HL2.out hs).mono ?_
        rintro e wq ⟨rfl, hs⟩
        refine hK.out _ _ (trivial) (fun hHeld => ?_)
        clear hK KK
        try simp only [Act.put, List.setIfInBounds_toArray, List.set_cons_zero, List.set_cons_succ]
        refine wpAnyH_take (i := 6) (oi := { dst := some 20, op := Op.build 47 #[(0, Operand.tmp 16), (1, Operand.tmp 19)], type := 47, pos := "ref.go:64", after := #[{ on := 2, ground := Ground.data }, { on := 5, ground := Ground.data }], guard := none }) (v := ?_) rfl (by kernel_rfl) (by kernel_rfl) (by kernel_rfl) (fun _ _ _ h => h) (Or.inl ⟨by rfl, ?_⟩) (by assumption) ?_
        rotate_left
        · intro w hSw; (try dsimp only at hSw); go_simp; try with_reducible rfl
        simp only [Act.put, List.setIfInBounds_toArray, List.set_cons_zero, List.set_cons_succ]
        refine wpAnyH_ready (rs := [7]) (by kernel_rfl) (by simp) (AllReadyH.cons (o := { dst := some 6, op := Op.alloc 47, type := 0, pos := "ref.go:64", after := #[], guard := none }) rfl (fun KK hK => ?_) AllReadyH.nil)
        · obtain ⟨wy, hb, ey, eb, hs⟩ := hs.allocEx #[.int .i64 0, .int .i64 0, .int .i64 0, .bool false, .string ⟨#[]⟩] 47
          go_simp
          try rw [ey]
          try rw [eb]
          clear ey eb
          refine hK.out _ _ (trivial) (fun hHeld => ?_)
          clear hK KK
          try simp only [Act.put, List.setIfInBounds_toArray, List.set_cons_zero, List.set_cons_succ]
          refine wpAnyH_ready (rs := [8]) (by kernel_rfl) (by simp) (AllReadyH.cons (o := { dst := none, op := Op.store 47 (Operand.tmp 6) (Operand.tmp 20), type := 0, pos := "ref.go:64", after := #[{ on := 7, ground := Ground.data }, { on := 6, ground := Ground.data }, { on := 5, ground := Ground.chain }, { on := 0, ground := Ground.phase }, { on := 1, ground := Ground.phase }, { on := 2, ground := Ground.phase }, { on := 3, ground := Ground.phase }, { on := 4, ground := Ground.phase }, { on := 5, ground := Ground.phase }, { on := 6, ground := Ground.phase }, { on := 7, ground := Ground.phase }], guard := none }) rfl (fun KK hK => ?_) AllReadyH.nil)
          · rw [if_pos (by rfl)]
            refine wp_store_mid 47 (.tmp 6) (.tmp 20) rfl hb 0 #[.int .i64 a, .int .i64 v, .int .i64 0, .bool false, .string ⟨#[]⟩] (by rfl) (by rfl) hs.there (by kernel_rfl) (by simp [Value.oneCell']) ?_
            obtain ⟨wz, ez, hs⟩ := hs.storeEx #[.int .i64 a, .int .i64 v, .int .i64 0, .bool false, .string ⟨#[]⟩]
            rw [ez]
            clear ez
            refine hK.out _ _ (trivial) (fun hHeld => ?_)
            clear hK KK
            try simp only [Act.put, List.setIfInBounds_toArray, List.set_cons_zero, List.set_cons_succ]
            refine wpAnyH_done (by kernel_rfl) ?_ _
            go_wp2_with fail
            go_meet
            exact ⟨hb, rfl, hs⟩
      · obtain ⟨wy, hb, ey, eb, hs⟩ := hs.allocEx #[.int .i64 0, .int .i64 0, .int .i64 0, .bool false, .string ⟨#[]⟩] 47
        go_simp
        try rw [ey]
        try rw [eb]
        clear ey eb
        refine hK.out _ _ (trivial) (fun hHeld => ?_)
        clear hK KK
        try simp only [Act.put, List.setIfInBounds_toArray, List.set_cons_zero, List.set_cons_succ]
        refine wpAnyH_ready (rs := [5]) (by kernel_rfl) (by simp) (AllReadyH.cons (o := { dst := some 19, op := Op.call { callee := Callee.value (Operand.func 38), args := #[Operand.tmp 18], argTypes := #[9] }, type := 3, pos := "ref.go:64", after := #[{ on := 4, ground := Ground.data }, { on := 2, ground := Ground.chain }], guard := none }) rfl (fun KK hK => ?_) AllReadyH.nil)
        · go_simp
          go_at_call 38
          with_reducible refine (sr_intQ _ v HV.out HL2.out hs).mono ?_
          rintro e wq ⟨rfl, hs⟩
          refine hK.out _ _ (trivial) (fun hHeld => ?_)
          clear hK KK
          try simp only [Act.put, List.setIfInBounds_toArray, List.set_cons_zero, List.set_cons_succ]
          refine wpAnyH_take (i := 6) (oi := { dst := some 20, op := Op.build 47 #[(0, Operand.tmp 16), (1, Operand.tmp 19)], type := 47, pos := "ref.go:64", after := #[{ on := 2, ground := Ground.data }, { on := 5, ground := Ground.data }], guard := none }) (v := ?_) rfl (by kernel_rfl) (by kernel_rfl) (by kernel_rfl) (fun _ _ _ h => h) (Or.inl ⟨by rfl, ?_⟩) (by assumption) ?_
          rotate_left
          · intro w hSw; (try dsimp only at hSw); go_simp; try with_reducible rfl
          simp only [Act.put, List.setIfInBounds_toArray, List.set_cons_zero, List.set_cons_succ]
          refine wpAnyH_ready (rs := [8]) (by kernel_rfl) (by simp) (AllReadyH.cons (o := { dst := none, op := Op.store 47 (Operand.tmp 6) (Operand.tmp 20), type := 0, pos := "ref.go:64", after := #[{ on := 7, ground := Ground.data }, { on := 6, ground := Ground.data }, { on := 5, ground := Ground.chain }, { on := 0, ground := Ground.phase }, { on := 1, ground := Ground.phase }, { on := 2, ground := Ground.phase }, { on := 3, ground := Ground.phase }, { on := 4, ground := Ground.phase }, { on := 5, ground := Ground.phase }, { on := 6, ground := Ground.phase }, { on := 7, ground := Ground.phase }], guard := none }) rfl (fun KK hK => ?_) AllReadyH.nil)
          · rw [if_pos (by rfl)]
            refine wp_store_mid 47 (.tmp 6) (.tmp 20) rfl hb 0 #[.int .i64 a, .int .i64 v, .int .i64 0, .bool false, .string ⟨#[]⟩] (by rfl) (by rfl) hs.there (by kernel_rfl) (by simp [Value.oneCell']) ?_
            obtain ⟨wz, ez, hs⟩ := hs.storeEx #[.int .i64 a, .int .i64 v, .int .i64 0, .bool false, .string ⟨#[]⟩]
            rw [ez]
            clear ez
            refine hK.out _ _ (trivial) (fun hHeld => ?_)
            clear hK KK
            try simp only [Act.put, List.setIfInBounds_toArray, List.set_cons_zero, List.set_cons_succ]
            refine wpAnyH_done (by kernel_rfl) ?_ _
            go_wp2_with fail
            go_meet
            exact ⟨hb, rfl, hs⟩
    · obtain ⟨wy, hb, ey, eb, hs⟩ := hs.allocEx #[.int .i64 0, .int .i64 0, .int .i64 0, .bool false, .string ⟨#[]⟩] 47
      go_simp
      try rw [ey]
      try rw [eb]
      clear ey eb
      refine hK.out _ _ (trivial) (fun hHeld => ?_)
      clear hK KK
      try simp only [Act.put, List.setIfInBounds_toArray, List.set_cons_zero, List.set_cons_succ]
      refine wpAnyH_ready (rs := [2]) (by kernel_rfl) (by simp) (AllReadyH.cons (o := { dst := some 16, op := Op.call { callee := Callee.value (Operand.func 38), args := #[Operand.tmp 15], argTypes := #[9] }, type := 3, pos := "ref.go:64", after := #[{ on := 1, ground := Ground.data }], guard := none }) rfl (fun KK hK => ?_) AllReadyH.nil)
      · go_simp
        go_at_call 38
        with_reducible refine (sr_intQ _ a HA.out HL1.out hs).mono ?_
        rintro e wq ⟨rfl, hs⟩
        refine hK.out _ _ (trivial) (fun hHeld => ?_)
        clear hK KK
        try simp only [Act.put, List.setIfInBounds_toArray, List.set_cons_zero, List.set_cons_succ]
        refine wpAnyH_ready (rs := [5]) (by kernel_rfl) (by simp) (AllReadyH.cons (o := { dst := some 19, op := Op.call { callee := Callee.value (Operand.func 38), args := #[Operand.tmp 18], argTypes := #[9] }, type := 3, pos := "ref.go:64", after := #[{ on := 4, ground := Ground.data }, { on := 2, ground := Ground.chain }], guard := none }) rfl (fun KK hK => ?_) AllReadyH.nil)
        · go_simp
          go_at_call 38
          with_reducible refine (sr_intQ _ v HV.out HL2.out hs).mono ?_
          rintro e wq ⟨rfl, hs⟩
          refine hK.out _ _ (trivial) (fun hHeld => ?_)
          clear hK KK
          try simp only [Act.put, List.setIfInBounds_toArray, List.set_cons_zero, List.set_cons_succ]
          refine wpAnyH_take (i := 6) (oi := { dst := some 20, op := Op.build 47 #[(0, Operand.tmp 16), (1, Operand.tmp 19)], type := 47, pos := "ref.go:64", after := #[{ on := 2, ground := Ground.data }, { on := 5, ground := Ground.data }], guard := none }) (v := ?_) rfl (by kernel_rfl) (by kernel_rfl) (by kernel_rfl) (fun _ _ _ h => h) (Or.inl ⟨by rfl, ?_⟩) (by assumption) ?_
          rotate_left
          · intro w hSw; (try dsimp only at hSw); go_simp; try with_reducible rfl
          simp only [Act.put, List.setIfInBounds_toArray, List.set_cons_zero, List.set_cons_succ]
          refine wpAnyH_ready (rs := [8]) (by kernel_rfl) (by simp) (AllReadyH.cons (o := { dst := none, op := Op.store 47 (Operand.tmp 6) (Operand.tmp 20), type := 0, pos := "ref.go:64", after := #[{ on := 7, ground := Ground.data }, { on := 6, ground := Ground.data }, { on := 5, ground := Ground.chain }, { on := 0, ground := Ground.phase }, { on := 1, ground := Ground.phase }, { on := 2, ground := Ground.phase }, { on := 3, ground := Ground.phase }, { on := 4, ground := Ground.phase }, { on := 5, ground := Ground.phase }, { on := 6, ground := Ground.phase }, { on := 7, ground := Ground.phase }], guard := none }) rfl (fun KK hK => ?_) AllReadyH.nil)
          · rw [if_pos (by rfl)]
            refine wp_store_mid 47 (.tmp 6) (.tmp 20) rfl hb 0 #[.int .i64 a, .int .i64 v, .int .i64 0, .bool false, .string ⟨#[]⟩] (by rfl) (by rfl) hs.there (by kernel_rfl) (by simp [Value.oneCell']) ?_
            obtain ⟨wz, ez, hs⟩ := hs.storeEx #[.int .i64 a, .int .i64 v, .int .i64 0, .bool false, .string ⟨#[]⟩]
            rw [ez]
            clear ez
            refine hK.out _ _ (trivial) (fun hHeld => ?_)
            clear hK KK
            try simp only [Act.put, List.setIfInBounds_toArray, List.set_cons_zero, List.set_cons_succ]
            refine wpAnyH_done (by kernel_rfl) ?_ _
            go_wp2_with fail
            go_meet
            exact ⟨hb, rfl, hs⟩
  obtain ⟨hb, rfl, h⟩ := hcut
  clear H
  have H := Lib.hid h
  clear h
  obtain ⟨x0, x1, x2, x3, x4, y0, y1, y2, y3, y4⟩ := raw5 (b := hb) (H.out)
  obtain ⟨c0, c1, c2, c3, c4, f0, f1, f2, f3, f4⟩ := raw5 (b := nb) (H.out.p1)
  obtain ⟨p0, p1, p2, p3, p4, q0, q1, q2, q3, q4⟩ := raw5 (b := rb) (H.out.p2)
  go_upto_region 15 with (first
    | (go_at_call 29; (with_reducible refine (ref17_versions a v 0 HE.out H.out).mono ?_); rintro e wn ⟨rfl, h⟩; replace H := Lib.hid h; clear h)
    | (go_at_call 38; (with_reducible refine (sr_intQ _ n HN.out HL4.out H.out).mono ?_); rintro e wn ⟨rfl, h⟩; replace H := Lib.hid h; clear h; obtain ⟨x0, x1, x2, x3, x4, y0, y1, y2, y3, y4⟩ := raw5 (b := hb) (H.out))
    | (go_at_call 39; (with_reducible refine (ref04_readFixedT _ _ _ HT.out HXL.out HG.out (show St W0 _ K (.raw hb #[.int .i64 a, .int .i64 v, .int .i64 n, .bool false, .string ⟨#[]⟩] 47 :: .raw nb #[.int .i64 0, .int .i64 0, .int .i64 0, .bool false, .string ⟨#[]⟩] 47 :: .raw rb #[.int .i64 0, .int .i64 0, .int .i64 0, .bool false, .string ⟨#[]⟩] 47 :: L) from H.out.rawSet 2 (.int .i64 n))).mono ?_); rintro e wn ⟨rfl, h⟩; have h := h.allocRaw #[.bool gn, .string (bb gd), .int .i64 gm, .int .i64 0] 76; obtain ⟨gb, hgb⟩ : ∃ b, wn.heap.size = b := ⟨_, rfl⟩; rw [hgb] at h; obtain ⟨k0, k1, k2, k3⟩ := raw4g h; obtain ⟨x0, x1, x2, x3, x4, y0, y1, y2, y3, y4⟩ := raw5 (b := hb) (h.p1); replace H := Lib.hid h; clear h))
  have hs : St W0 _ K (.raw hb #[.int .i64 a, .int .i64 v, .int .i64 n, .bool gn, .string (bb gd)] 47 :: .raw gb #[.bool gn, .string (bb gd), .int .i64 gm, .int .i64 0] 76 :: .raw nb #[.int .i64 0, .int .i64 0, .int .i64 0, .bool false, .string ⟨#[]⟩] 47 :: .raw rb #[.int .i64 0, .int .i64 0, .int .i64 0, .bool false, .string ⟨#[]⟩] 47 :: L) := ((H.out.p1.rawSet 3 (.bool gn)).rawSet 4 (.string (bb gd)))
  have hs := hs.drew
  refine wp_region_held_drew (S := fun w' => w'.cell? ⟨hb, 0, none⟩ = some (.int .i64 a) ∧ w'.cell? ⟨hb, 1, none⟩ = some (.int .i64 v) ∧ w'.cell? ⟨hb, 2, none⟩ = some (.int .i64 n) ∧ w'.cell? ⟨hb, 3, none⟩ = some (.bool gn) ∧ w'.cell? ⟨hb, 4, none⟩ = some (.string (bb gd)) ∧ w'.cell? ⟨gb, 2, none⟩ = some (.int .i64 gm)) (by kernel_rfl) (let ⟨c0, c1, c2, c3, c4⟩ := req_keep (hb := hb) (hs); ⟨c0, c1, c2, c3, c4, (raw4g (hs.p1)).2.2.1⟩) (fun hHeld => ?_)
  refine wpAnyH_take (i := 0) (oi := { dst := some 50, op := Op.load 47 (Operand.tmp 6), type := 47, pos := "ref.go:78", after := #[], guard := none }) (v := ?_) rfl (by kernel_rfl) (by kernel_rfl) (by kernel_rfl) (fun _ _ _ h => h) (Or.inl ⟨by rfl, ?_⟩) (by assumption) ?_
  rotate_left
  · intro w hSw; (try dsimp only at hSw); go_simp; try with_reducible rfl
  simp only [Act.put, List.setIfInBounds_toArray, List.set_cons_zero, List.set_cons_succ]
  refine wpAnyH_take (i := 1) (oi := { dst := some 51, op := Op.fieldAddr 76 (Operand.tmp 8) 1, type := 0, pos := "ref.go:78", after := #[{ on := 4, ground := Ground.gcOnly Departure.lateStores }], guard := none }) (v := ?_) rfl (by kernel_rfl) (by kernel_rfl) (by kernel_rfl) (fun _ _ _ h => h) (Or.inl ⟨by rfl, ?_⟩) (by assumption) ?_
  rotate_left
  · intro w hSw; (try dsimp only at hSw); go_simp; try with_reducible rfl
  simp only [Act.put, List.setIfInBounds_toArray, List.set_cons_zero, List.set_cons_succ]
  refine wpAnyH_take (i := 2) (oi := { dst := some 52, op := Op.load 3 (Operand.tmp 51), type := 3, pos := "ref.go:78", after := #[{ on := 1, ground := Ground.data }, { on := 4, ground := Ground.gcOnly Departure.lateStores }], guard := none }) (v := ?_) rfl (by kernel_rfl) (by kernel_rfl) (by kernel_rfl) (fun _ _ _ h => h) (Or.inl ⟨by rfl, ?_⟩) (by assumption) ?_
  rotate_left
  · intro w hSw; (try dsimp only at hSw); go_simp; try with_reducible rfl
  simp only [Act.put, List.setIfInBounds_toArray, List.set_cons_zero, List.set_cons_succ]
  refine wpAnyH_take (i := 3) (oi := { dst := some 53, op := Op.binOp BinOp.add 3 (Operand.const (Value.int IntKind.i64 8)) (Operand.tmp 52) 3, type := 3, pos := "ref.go:78", after := #[{ on := 2, ground := Ground.data }, { on := 4, ground := Ground.gcOnly Departure.lateStores }], guard := none }) (v := ?_) rfl (by kernel_rfl) (by kernel_rfl) (by kernel_rfl) (fun _ _ _ h => h) (Or.inl ⟨by rfl, ?_⟩) (by assumption) ?_
  rotate_left
  · intro w hSw; (try dsimp only at hSw); go_simp; try with_reducible rfl
  simp only [Act.put, List.setIfInBounds_toArray, List.set_cons_zero, List.set_cons_succ]
  refine wpAnyH_ready (rs := [4]) (by kernel_rfl) (by simp) (AllReadyH.cons (o := { dst := none, op := Op.store 47 (Operand.tmp 2) (Operand.tmp 50), type := 0, pos := "ref.go:78", after := #[{ on := 0, ground := Ground.data }, { on := 0, ground := Ground.phase }, { on := 1, ground := Ground.textOnly Departure.lateStores }, { on := 2, ground := Ground.textOnly Departure.lateStores }, { on := 3, ground := Ground.textOnly Departure.lateStores }], guard := none }) rfl (fun KK hK => ?_) AllReadyH.nil)
  · have hs := hs.p3
    rw [if_pos (by rfl)]
    refine wp_store_mid 47 (.tmp 2) (.tmp 50) rfl rb 0 #[.int .i64 a, .int .i64 v, .int .i64 n, .bool gn, .string (bb gd)] (by rfl) (by rfl) hs.there (by kernel_rfl) (by simp [Value.oneCell']) ?_
    obtain ⟨wz, ez, hs⟩ := hs.storeEx #[.int .i64 a, .int .i64 v, .int .i64 n, .bool gn, .string (bb gd)]
    rw [ez]
    clear ez
    refine hK.out _ _ (let ⟨c0, c1, c2, c3, c4⟩ := req_keep (hb := hb) (hs.p1); ⟨c0, c1, c2, c3, c4, (raw4g (hs.p2)).2.2.1⟩) (fun hHeld => ?_)
    clear hK KK
    try simp only [Act.put, List.setIfInBounds_toArray, List.set_cons_zero, List.set_cons_succ]
    refine wpAnyH_take (i := 5) (oi := { dst := some 3, op := Op.assign (Operand.tmp 53), type := 3, pos := "ref.go:78", after := #[{ on := 3, ground := Ground.data }, { on := 4, ground := Ground.chain }, { on := 0, ground := Ground.phase }, { on := 1, ground := Ground.phase }, { on := 2, ground := Ground.phase }, { on := 3, ground := Ground.phase }, { on := 4, ground := Ground.phase }], guard := none }) (v := ?_) rfl (by kernel_rfl) (by kernel_rfl) (by kernel_rfl) (fun _ _ _ h => h) (Or.inl ⟨by rfl, ?_⟩) (by assumption) ?_
    rotate_left
    · intro w hSw; (try dsimp only at hSw); go_simp; try with_reducible rfl
    simp only [Act.put, List.setIfInBounds_toArray, List.set_cons_zero, List.set_cons_succ]
    refine wpAnyH_take (i := 6) (oi := { dst := some 4, op := Op.assign (Operand.const (Value.int IntKind.i64 0)), type := 3, pos := "ref.go:78", after := #[{ on := 5, ground := Ground.chain }, { on := 0, ground := Ground.phase }, { on := 1, ground := Ground.phase }, { on := 2, ground := Ground.phase }, { on := 3, ground := Ground.phase }, { on := 4, ground := Ground.phase }, { on := 5, ground := Ground.phase }], guard := none }) (v := ?_) rfl (by kernel_rfl) (by kernel_rfl) (by kernel_rfl) (fun _ _ _ h => h) (Or.inl ⟨by rfl, ?_⟩) (by assumption) ?_
    rotate_left
    · intro w hSw; (try dsimp only at hSw); go_simp; try with_reducible rfl
    simp only [Act.put, List.setIfInBounds_toArray, List.set_cons_zero, List.set_cons_succ]
    refine wpAnyH_done (by kernel_rfl) ?_ _
    clear hHeld
    go_wp2_with fail
    have hz : St W0 _ K (.raw rb #[.int .i64 a, .int .i64 v, .int .i64 n, .bool gn, .string (bb gd)] 47 :: _) := hs
    refine bodyPost_ret (results_cell_tmp2 rfl _ _ rb [.int .i64 a, .int .i64 v, .int .i64 n, .bool gn, .string (bb gd)] _ rfl (St.range hz) Tryd.underlying47 rfl (by kernel_rfl)) rfl ?_
    exact ⟨rfl, hz.drop.drop.drop.drop⟩

end Go.Proofs.YtngnhdiafbjfkaaDoor
