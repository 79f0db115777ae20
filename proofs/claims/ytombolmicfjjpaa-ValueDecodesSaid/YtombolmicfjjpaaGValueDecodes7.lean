/- How many topics are looked at (pure). -/
import Derived.Test.YtombolmicfjjpaaGValueDecodes6
import Derived.Test.YtombolmicfjjpaaGValueDecodes4
/- Values, read by definition: too few, too many. -/
namespace Go.Proofs.Ytombolmicfjjpaa
open Go.RowKit

set_option maxHeartbeats 6000000 in
set_option maxRecDepth 100000 in
theorem rd_5 (S : Bs) (hsl : S.length ≤ 1000000) (ha : sInt (S.take 2) = 0) (hl17 : 17 ≤ S.length) (p e t u : Int) (hp : sInt ((S.drop 2).take 8) = p) (he : sInt ((S.drop 10).take 2) = e) (ht : sInt ((S.drop 12).take 4) = t) (hu : sInt ((S.drop 16).take 1) = u) (l : List TopS) (m : Nat) (hr : topsR (S.drop 17) = (l, m, 0)) (hm : 17 + m ≤ S.length) (R : Bs) (hR : S.drop (17 + m) = R) (hrl : R.length < 16) {W0 w : World} {K : Know} {L : List Res} (h : St W0 w K L) :
    Calls Try.prog 23 #[.string (bb S)] w fun en w' => en = .returned (.tuple #[.agg #[.int .i64 0, .int .i64 0, .int .i64 0, .int .i64 0, .slice none 0 0, .int .i64 0, .int .i64 0], .int .i64 1]) ∧ St W0 w' K L := by
  obtain ⟨rb, hrb⟩ : ∃ b, w.heap.size = b := ⟨_, rfl⟩
  obtain ⟨nb, hnb⟩ : ∃ b, rb + 1 = b := ⟨_, rfl⟩
  have g1 := (h.allocRaw #[.int .i64 0, .int .i64 0, .int .i64 0, .int .i64 0, .slice none 0 0, .int .i64 0, .int .i64 0] 24).allocRaw #[.int .i64 0, .int .i64 0, .int .i64 0, .int .i64 0, .slice none 0 0, .int .i64 0, .int .i64 0] 24
  simp only [World.size_alloc, hrb, hnb] at g1
  have H := Lib.hid g1
  have HSL := Lib.hid hsl
  have c0 := g1.rawCell 0; have c1 := g1.rawCell 1; have c2 := g1.rawCell 2; have c3 := g1.rawCell 3; have c4 := g1.rawCell 4; have c5 := g1.rawCell 5; have c6 := g1.rawCell 6; simp at c0 c1 c2 c3 c4 c5 c6
  have d0 := g1.p1.rawCell 0; have r0 := g1.p1.rawFree 0; have d1 := g1.p1.rawCell 1; have r1 := g1.p1.rawFree 1; have d2 := g1.p1.rawCell 2; have r2 := g1.p1.rawFree 2; have d3 := g1.p1.rawCell 3; have r3 := g1.p1.rawFree 3; have d4 := g1.p1.rawCell 4; have r4 := g1.p1.rawFree 4; have d5 := g1.p1.rawCell 5; have r5 := g1.p1.rawFree 5; have d6 := g1.p1.rawCell 6; have r6 := g1.p1.rawFree 6; simp at d0 d1 d2 d3 d4 d5 d6
  have hl2 : ¬ (S.length : Int) < 2 := by omega
  have hl3 : 2 ≤ (S.length : Int) := by omega
  have hl4 : ¬ (S.length : Int) < 17 := by omega
  have hl5 : 10 ≤ (S.length : Int) := by omega
  have hl6 : 12 ≤ (S.length : Int) := by omega
  have hl7 : 16 ≤ (S.length : Int) := by omega
  have hl8 : 17 ≤ (S.length : Int) := by omega
  have HA := Lib.hid ha
  have H8 := Lib.hid (show (S.take 2).length ≤ 8 by rw [List.length_take]; omega)
  have HP := Lib.hid hp
  have HP8 := Lib.hid (show ((S.drop 2).take 8).length ≤ 8 by rw [List.length_take]; omega)
  have HE := Lib.hid he
  have HE8 := Lib.hid (show ((S.drop 10).take 2).length ≤ 8 by rw [List.length_take]; omega)
  have HT := Lib.hid ht
  have HT8 := Lib.hid (show ((S.drop 12).take 4).length ≤ 8 by rw [List.length_take]; omega)
  have HU := Lib.hid hu
  have HU8 := Lib.hid (show ((S.drop 16).take 1).length ≤ 8 by rw [List.length_take]; omega)
  have HTE := Lib.hid (takeEnd S 17)
  have HX := Lib.hid (show (S.drop 17).length ≤ 1000000 by rw [List.length_drop]; omega)
  have HR := Lib.hid hr
  have HRR := Lib.hid ((takeEnd S (17 + m)).trans hR)
  have hmi : 17 + (m : Int) ≤ (S.length : Int) := by omega
  have hmz : (m : Int) ≤ 1000000 := by omega
  have hw : IntKind.i64.wrap (17 + (m : Int)) = 17 + (m : Int) := by rw [IntKind.wrap_i64]; omega
  have hri : (R.length : Int) < 16 := by omega
  clear h g1 hsl ha hl17 hp he ht hu hr hm hR hrl
  go_enter Try.func23, Try.ntmps23
  go_upto_region 8 with (go_at_call 76; clear c0 d0 r0 c1 d1 r1 c2 d2 r2 c3 d3 r3 c4 d4 r4 c5 d5 r5 c6 d6 r6; (with_reducible refine (sr_intT _ (S.take 2) (by first | rfl | simp) 0 HA.out H8.out H.out).mono ?_); rintro e_ wn ⟨rfl, h⟩; have c0 := h.rawCell 0; have c1 := h.rawCell 1; have c2 := h.rawCell 2; have c3 := h.rawCell 3; have c4 := h.rawCell 4; have c5 := h.rawCell 5; have c6 := h.rawCell 6; simp at c0 c1 c2 c3 c4 c5 c6; have d0 := h.p1.rawCell 0; have r0 := h.p1.rawFree 0; have d1 := h.p1.rawCell 1; have r1 := h.p1.rawFree 1; have d2 := h.p1.rawCell 2; have r2 := h.p1.rawFree 2; have d3 := h.p1.rawCell 3; have r3 := h.p1.rawFree 3; have d4 := h.p1.rawCell 4; have r4 := h.p1.rawFree 4; have d5 := h.p1.rawCell 5; have r5 := h.p1.rawFree 5; have d6 := h.p1.rawCell 6; have r6 := h.p1.rawFree 6; simp at d0 d1 d2 d3 d4 d5 d6; replace H := Lib.hid h; clear h)
  go_cut [5] (fun s5 wx => ∃ vb : Nat, s5 = .pointer (some ⟨vb, 0, none⟩) ∧ St W0 wx K (.raw vb #[.int .i64 p, .int .i64 e, .int .i64 t, .int .i64 u, .slice none 0 0, .int .i64 0, .int .i64 0] 24 :: .raw nb #[.int .i64 0, .int .i64 0, .int .i64 0, .int .i64 0, .slice none 0 0, .int .i64 0, .int .i64 0] 24 :: .raw rb #[.int .i64 0, .int .i64 0, .int .i64 0, .int .i64 0, .slice none 0 0, .int .i64 0, .int .i64 0] 24 :: L))
  case first =>
    clear c0 d0 r0 c1 d1 r1 c2 d2 r2 c3 d3 r3 c4 d4 r4 c5 d5 r5 c6 d6 r6
    have hs := H.out.drew
    refine wp_region_held_drew (S := fun _ => True) (by kernel_rfl) trivial (fun hHeld => ?_)
    refine wpAnyH_take (i := 0) (oi := { dst := some 25, op := Op.move (Operand.tmp 0), type := 9, pos := "ref.go:133", after := #[], guard := none }) (v := ?_) rfl (by kernel_rfl) (by kernel_rfl) (by kernel_rfl) (fun _ _ _ h => h) (Or.inl ⟨by rfl, ?_⟩) (by assumption) ?_
    rotate_left
    · intro w hSw; (try dsimp only at hSw); go_simp; try with_reducible rfl
    simp only [Act.put, List.setIfInBounds_toArray, List.set_cons_zero, List.set_cons_succ]
    refine wpAnyH_take (i := 1) (oi := { dst := some 26, op := Op.slice 9 (Operand.tmp 25) (some (Operand.const (Value.int IntKind.i64 2))) (some (Operand.const (Value.int IntKind.i64 10))) none, type := 9, pos := "ref.go:133", after := #[{ on := 0, ground := Ground.data }], guard := none }) (v := ?_) rfl (by kernel_rfl) (by kernel_rfl) (by kernel_rfl) (fun _ _ _ h => h) (Or.inl ⟨by rfl, ?_⟩) (by assumption) ?_
    rotate_left
    · intro w hSw; (try dsimp only at hSw); go_simp; try with_reducible rfl
    simp only [Act.put, List.setIfInBounds_toArray, List.set_cons_zero, List.set_cons_succ]
    refine wpAnyH_take (i := 3) (oi := { dst := some 28, op := Op.move (Operand.tmp 0), type := 9, pos := "ref.go:133", after := #[], guard := none }) (v := ?_) rfl (by kernel_rfl) (by kernel_rfl) (by kernel_rfl) (fun _ _ _ h => h) (Or.inl ⟨by rfl, ?_⟩) (by assumption) ?_
    rotate_left
    · intro w hSw; (try dsimp only at hSw); go_simp; try with_reducible rfl
    simp only [Act.put, List.setIfInBounds_toArray, List.set_cons_zero, List.set_cons_succ]
    refine wpAnyH_take (i := 4) (oi := { dst := some 29, op := Op.slice 9 (Operand.tmp 28) (some (Operand.const (Value.int IntKind.i64 10))) (some (Operand.const (Value.int IntKind.i64 12))) none, type := 9, pos := "ref.go:133", after := #[{ on := 3, ground := Ground.data }], guard := none }) (v := ?_) rfl (by kernel_rfl) (by kernel_rfl) (by kernel_rfl) (fun _ _ _ h => h) (Or.inl ⟨by rfl, ?_⟩) (by assumption) ?_
    rotate_left
    · intro w hSw; (try dsimp only at hSw); go_simp; try with_reducible rfl
    simp only [Act.put, List.setIfInBounds_toArray, List.set_cons_zero, List.set_cons_succ]
    refine wpAnyH_take (i := 6) (oi := { dst := some 31, op := Op.move (Operand.tmp 0), type := 9, pos := "ref.go:133", after := #[], guard := none }) (v := ?_) rfl (by kernel_rfl) (by kernel_rfl) (by kernel_rfl) (fun _ _ _ h => h) (Or.inl ⟨by rfl, ?_⟩) (by assumption) ?_
    rotate_left
    · intro w hSw; (try dsimp only at hSw); go_simp; try with_reducible rfl
    simp only [Act.put, List.setIfInBounds_toArray, List.set_cons_zero, List.set_cons_succ]
    refine wpAnyH_take (i := 7) (oi := { dst := some 32, op := Op.slice 9 (Operand.tmp 31) (some (Operand.const (Value.int IntKind.i64 12))) (some (Operand.const (Value.int IntKind.i64 16))) none, type := 9, pos := "ref.go:133", after := #[{ on := 6, ground := Ground.data }], guard := none }) (v := ?_) rfl (by kernel_rfl) (by kernel_rfl) (by kernel_rfl) (fun _ _ _ h => h) (Or.inl ⟨by rfl, ?_⟩) (by assumption) ?_
    rotate_left
    · intro w hSw; (try dsimp only at hSw); go_simp; try with_reducible rfl
    simp only [Act.put, List.setIfInBounds_toArray, List.set_cons_zero, List.set_cons_succ]
    refine wpAnyH_take (i := 9) (oi := { dst := some 34, op := Op.move (Operand.tmp 0), type := 9, pos := "ref.go:133", after := #[], guard := none }) (v := ?_) rfl (by kernel_rfl) (by kernel_rfl) (by kernel_rfl) (fun _ _ _ h => h) (Or.inl ⟨by rfl, ?_⟩) (by assumption) ?_
    rotate_left
    · intro w hSw; (try dsimp only at hSw); go_simp; try with_reducible rfl
    simp only [Act.put, List.setIfInBounds_toArray, List.set_cons_zero, List.set_cons_succ]
    refine wpAnyH_take (i := 10) (oi := { dst := some 35, op := Op.slice 9 (Operand.tmp 34) (some (Operand.const (Value.int IntKind.i64 16))) (some (Operand.const (Value.int IntKind.i64 17))) none, type := 9, pos := "ref.go:133", after := #[{ on := 9, ground := Ground.data }], guard := none }) (v := ?_) rfl (by kernel_rfl) (by kernel_rfl) (by kernel_rfl) (fun _ _ _ h => h) (Or.inl ⟨by rfl, ?_⟩) (by assumption) ?_
    rotate_left
    · intro w hSw; (try dsimp only at hSw); go_simp; try with_reducible rfl
    simp only [Act.put, List.setIfInBounds_toArray, List.set_cons_zero, List.set_cons_succ]
    refine wpAnyH_ready (rs := [2, 13]) (by kernel_rfl) (by simp) (AllReadyH.cons (o := { dst := some 27, op := Op.call { callee := Callee.value (Operand.func 76), args := #[Operand.tmp 26], argTypes := #[9] }, type := 3, pos := "ref.go:133", after := #[{ on := 1, ground := Ground.data }], guard := none }) rfl (fun KK hK => ?_) (AllReadyH.cons (o := { dst := some 5, op := Op.alloc 24, type := 0, pos := "ref.go:133", after := #[], guard := none }) rfl (fun KK hK => ?_) AllReadyH.nil))
    · go_simp
      go_at_call 76
      with_reducible refine (sr_intT _ ((S.drop 2).take 8) (by first | rfl | simp) p HP.out HP8.out hs).mono ?_
      rintro e wq ⟨rfl, hs⟩
      refine hK.out _ _ (trivial) (fun hHeld => ?_)
      clear hK KK
      try simp only [Act.put, List.setIfInBounds_toArray, List.set_cons_zero, List.set_cons_succ]
      refine wpAnyH_ready (rs := [5, 13]) (by kernel_rfl) (by simp) (AllReadyH.cons (o := { dst := some 30, op := Op.call { callee := Callee.value (Operand.func 76), args := #[Operand.tmp 29], argTypes := #[9] }, type := 3, pos := "ref.go:133", after := #[{ on := 4, ground := Ground.data }, { on := 2, ground := Ground.chain }], guard := none }) rfl (fun KK hK => ?_) (AllReadyH.cons (o := { dst := some 5, op := Op.alloc 24, type := 0, pos := "ref.go:133", after := #[], guard := none }) rfl (fun KK hK => ?_) AllReadyH.nil))
      · go_simp
        go_at_call 76
        with_reducible refine (sr_intT _ ((S.drop 10).take 2) (by first | rfl | simp) e HE.out HE8.out hs).mono ?_
        rintro e wq ⟨rfl, hs⟩
        refine hK.out _ _ (trivial) (fun hHeld => ?_)
        clear hK KK
        try simp only [Act.put, List.setIfInBounds_toArray, List.set_cons_zero, List.set_cons_succ]
        refine wpAnyH_ready (rs := [8, 13]) (by kernel_rfl) (by simp) (AllReadyH.cons (o := { dst := some 33, op := Op.call { callee := Callee.value (Operand.func 76), args := #[Operand.tmp 32], argTypes := #[9] }, type := 3, pos := "ref.go:133", after := #[{ on := 7, ground := Ground.data }, { on := 5, ground := Ground.chain }], guard := none }) rfl (fun KK hK => ?_) (AllReadyH.cons (o := { dst := some 5, op := Op.alloc 24, type := 0, pos := "ref.go:133", after := #[], guard := none }) rfl (fun KK hK => ?_) AllReadyH.nil))
        · go_simp
          go_at_call 76
          with_reducible refine (sr_intT _ ((S.drop 12).take 4) (by first | rfl | simp) t HT.out HT8.out hs).mono ?_
          rintro e wq ⟨rfl, hs⟩
          refine hK.out _ _ (trivial) (fun hHeld => ?_)
          clear hK KK
          try simp only [Act.put, List.setIfInBounds_toArray, List.set_cons_zero, List.set_cons_succ]
          refine wpAnyH_ready (rs := [11, 13]) (by kernel_rfl) (by simp) (AllReadyH.cons (o := { dst := some 36, op := Op.call { callee := Callee.value (Operand.func 76), args := #[Operand.tmp 35], argTypes := #[9] }, type := 3, pos := "ref.go:133", after := #[{ on := 10, ground := Ground.data }, { on := 8, ground := Ground.chain }], guard := none }) rfl (fun KK hK => ?_) (AllReadyH.cons (o := { dst := some 5, op := Op.alloc 24, type := 0, pos := "ref.go:133", after := #[], guard := none }) rfl (fun KK hK => ?_) AllReadyH.nil))
          · go_simp
            go_at_call 76
            with_reducible refine (sr_intT _ ((S.drop 16).take 1) (by first | rfl | simp) u HU.out HU8.out hs).mono ?_
            rintro e wq ⟨rfl, hs⟩
            refine hK.out _ _ (trivial) (fun hHeld => ?_)
            clear hK KK
            try simp only [Act.put, List.setIfInBounds_toArray, List.set_cons_zero, List.set_cons_succ]
            refine wpAnyH_take (i := 12) (oi := { dst := some 37, op := Op.build 24 #[(0, Operand.tmp 27), (1, Operand.tmp 30), (2, Operand.tmp 33), (3, Operand.tmp 36)], type := 24, pos := "ref.go:133", after := #[{ on := 2, ground := Ground.data }, { on := 5, ground := Ground.data }, { on := 8, ground := Ground.data }, { on := 11, ground := Ground.data }], guard := none }) (v := ?_) rfl (by kernel_rfl) (by kernel_rfl) (by kernel_rfl) (fun _ _ _ h => h) (Or.inl ⟨by rfl, ?_⟩) (by assumption) ?_
            rotate_left
            · intro w hSw; (try dsimp only at hSw); go_simp; try with_reducible rfl
            simp only [Act.put, List.setIfInBounds_toArray, List.set_cons_zero, List.set_cons_succ]
            refine wpAnyH_ready (rs := [13]) (by kernel_rfl) (by simp) (AllReadyH.cons (o := { dst := some 5, op := Op.alloc 24, type := 0, pos := "ref.go:133", after := #[], guard := none }) rfl (fun KK hK => ?_) AllReadyH.nil)
            · obtain ⟨wy, vb, ey, er, hs⟩ := hs.allocEx #[.int .i64 0, .int .i64 0, .int .i64 0, .int .i64 0, .slice none 0 0, .int .i64 0, .int .i64 0] 24
              go_simp
              try rw [ey]
              try rw [er]
              clear ey er
              refine hK.out _ _ (trivial) (fun hHeld => ?_)
              clear hK KK
              try simp only [Act.put, List.setIfInBounds_toArray, List.set_cons_zero, List.set_cons_succ]
              refine wpAnyH_ready (rs := [14]) (by kernel_rfl) (by simp) (AllReadyH.cons (o := { dst := none, op := Op.store 24 (Operand.tmp 5) (Operand.tmp 37), type := 0, pos := "ref.go:133", after := #[{ on := 13, ground := Ground.data }, { on := 12, ground := Ground.data }, { on := 11, ground := Ground.chain }, { on := 0, ground := Ground.phase }, { on := 1, ground := Ground.phase }, { on := 2, ground := Ground.phase }, { on := 3, ground := Ground.phase }, { on := 4, ground := Ground.phase }, { on := 5, ground := Ground.phase }, { on := 6, ground := Ground.phase }, { on := 7, ground := Ground.phase }, { on := 8, ground := Ground.phase }, { on := 9, ground := Ground.phase }, { on := 10, ground := Ground.phase }, { on := 11, ground := Ground.phase }, { on := 12, ground := Ground.phase }, { on := 13, ground := Ground.phase }], guard := none }) rfl (fun KK hK => ?_) AllReadyH.nil)
              · rw [if_pos (by rfl)]
                refine wp_store_mid 24 (.tmp 5) (.tmp 37) rfl vb 0 #[.int .i64 p, .int .i64 e, .int .i64 t, .int .i64 u, .slice none 0 0, .int .i64 0, .int .i64 0] (by rfl) (by rfl) hs.there (by kernel_rfl) (by simp [Value.oneCell']) ?_
                obtain ⟨wz, ez, hs⟩ := hs.storeEx #[.int .i64 p, .int .i64 e, .int .i64 t, .int .i64 u, .slice none 0 0, .int .i64 0, .int .i64 0]
                rw [ez]
                clear ez
                refine hK.out _ _ (trivial) (fun hHeld => ?_)
                clear hK KK
                try simp only [Act.put, List.setIfInBounds_toArray, List.set_cons_zero, List.set_cons_succ]
                refine wpAnyH_done (by kernel_rfl) ?_ _
                clear hHeld
                rw [setAll_allV] at hs
                rotate_left
                · rfl
                go_wp2_with fail
                go_meet
                exact ⟨vb, rfl, hs⟩
          · obtain ⟨wy, vb, ey, er, hs⟩ := hs.allocEx #[.int .i64 0, .int .i64 0, .int .i64 0, .int .i64 0, .slice none 0 0, .int .i64 0, .int .i64 0] 24
            go_simp
            try rw [ey]
            try rw [er]
            clear ey er
            refine hK.out _ _ (trivial) (fun hHeld => ?_)
            clear hK KK
            try simp only [Act.put, List.setIfInBounds_toArray, List.set_cons_zero, List.set_cons_succ]
            refine wpAnyH_ready (rs := [11]) (by kernel_rfl) (by simp) (AllReadyH.cons (o := { dst := some 36, op := Op.call { callee := Callee.value (Operand.func 76), args := #[Operand.tmp 35], argTypes := #[9] }, type := 3, pos := "ref.go:133", after := #[{ on := 10, ground := Ground.data }, { on := 8, ground := Ground.chain }], guard := none }) rfl (fun KK hK => ?_) AllReadyH.nil)
            · go_simp
              go_at_call 76
              with_reducible refine (sr_intT _ ((S.drop 16).take 1) (by first | rfl | simp) u HU.out HU8.out hs).mono ?_
              rintro e wq ⟨rfl, hs⟩
              refine hK.out _ _ (trivial) (fun hHeld => ?_)
              clear hK KK
              try simp only [Act.put, List.setIfInBounds_toArray, List.set_cons_zero, List.set_cons_succ]
              refine wpAnyH_take (i := 12) (oi := { dst := some 37, op := Op.build 24 #[(0, Operand.tmp 27), (1, Operand.tmp 30), (2, Operand.tmp 33), (3, Operand.tmp 36)], type := 24, pos := "ref.go:133", after := #[{ on := 2, ground := Ground.data }, { on := 5, ground := Ground.data }, { on := 8, ground := Ground.data }, { on := 11, ground := Ground.data }], guard := none }) (v := ?_) rfl (by kernel_rfl) (by kernel_rfl) (by kernel_rfl) (fun _ _ _ h => h) (Or.inl ⟨by rfl, ?_⟩) (by assumption) ?_
              rotate_left
              · intro w hSw; (try dsimp only at hSw); go_simp; try with_reducible rfl
              simp only [Act.put, List.setIfInBounds_toArray, List.set_cons_zero, List.set_cons_succ]
              refine wpAnyH_ready (rs := [14]) (by kernel_rfl) (by simp) (AllReadyH.cons (o := { dst := none, op := Op.store 24 (Operand.tmp 5) (Operand.tmp 37), type := 0, pos := "ref.go:133", after := #[{ on := 13, ground := Ground.data }, { on := 12, ground := Ground.data }, { on := 11, ground := Ground.chain }, { on := 0, ground := Ground.phase }, { on := 1, ground := Ground.phase }, { on := 2, ground := Ground.phase }, { on := 3, ground := Ground.phase }, { on := 4, ground := Ground.phase }, { on := 5, ground := Ground.phase }, { on := 6, ground := Ground.phase }, { on := 7, ground := Ground.phase }, { on := 8, ground := Ground.phase }, { on := 9, ground := Ground.phase }, { on := 10, ground := Ground.phase }, { on := 11, ground := Ground.phase }, { on := 12, ground := Ground.phase }, { on := 13, ground := Ground.phase }], guard := none }) rfl (fun KK hK => ?_) AllReadyH.nil)
              · rw [if_pos (by rfl)]
                refine wp_store_mid 24 (.tmp 5) (.tmp 37) rfl vb 0 #[.int .i64 p, .int .i64 e, .int .i64 t, .int .i64 u, .slice none 0 0, .int .i64 0, .int .i64 0] (by rfl) (by rfl) hs.there (by kernel_rfl) (by simp [Value.oneCell']) ?_
                obtain ⟨wz, ez, hs⟩ := hs.storeEx #[.int .i64 p, .int .i64 e, .int .i64 t, .int .i64 u, .slice none 0 0, .int .i64 0, .int .i64 0]
                rw [ez]
                clear ez
                refine hK.out _ _ (trivial) (fun hHeld => ?_)
                clear hK KK
                try simp only [Act.put, List.setIfInBounds_toArray, List.set_cons_zero, List.set_cons_succ]
                refine wpAnyH_done (by kernel_rfl) ?_ _
                clear hHeld
                rw [setAll_allV] at hs
                rotate_left
                · rfl
                go_wp2_with fail
                go_meet
                exact ⟨vb, rfl, hs⟩
        · obtain ⟨wy, vb, ey, er, hs⟩ := hs.allocEx #[.int .i64 0, .int .i64 0, .int .i64 0, .int .i64 0, .slice none 0 0, .int .i64 0, .int .i64 0] 24
          go_simp
          try rw [ey]
          try rw [er]
          clear ey er
          refine hK.out _ _ (trivial) (fun hHeld => ?_)
          clear hK KK
          try simp only [Act.put, List.setIfInBounds_toArray, List.set_cons_zero, List.set_cons_succ]
          refine wpAnyH_ready (rs := [8]) (by kernel_rfl) (by simp) (AllReadyH.cons (o := { dst := some 33, op := Op.call { callee := Callee.value (Operand.func 76), args := #[Operand.tmp 32], argTypes := #[9] }, type := 3, pos := "ref.go:133", after := #[{ on := 7, ground := Ground.data }, { on := 5, ground := Ground.chain }], guard := none }) rfl (fun KK hK => ?_) AllReadyH.nil)
          · go_simp
            go_at_call 76
            with_reducible refine (sr_intT _ ((S.drop 12).take 4) (by first | rfl | simp) t HT.out HT8.out hs).mono ?_
            rintro e wq ⟨rfl, hs⟩
            refine hK.out _ _ (trivial) (fun hHeld => ?_)
            clear hK KK
            try simp only [Act.put, List.setIfInBounds_toArray, List.set_cons_zero, List.set_cons_succ]
            refine wpAnyH_ready (rs := [11]) (by kernel_rfl) (by simp) (AllReadyH.cons (o := { dst := some 36, op := Op.call { callee := Callee.value (Operand.func 76), args := #[Operand.tmp 35], argTypes := #[9] }, type := 3, pos := "ref.go:133", after := #[{ on := 10, ground := Ground.data }, { on := 8, ground := Ground.chain }], guard := none }) rfl (fun KK hK => ?_) AllReadyH.nil)
            · go_simp
              go_at_call 76
              with_reducible refine (sr_intT _ ((S.drop 16).take 1) (by first | rfl | simp) u HU.out HU8.out hs).mono ?_
              rintro e wq ⟨rfl, hs⟩
              refine hK.out _ _ (trivial) (fun hHeld => ?_)
              clear hK KK
              try simp only [Act.put, List.setIfInBounds_toArray, List.set_cons_zero, List.set_cons_succ]
              refine wpAnyH_take (i := 12) (oi := { dst := some 37, op := Op.build 24 #[(0, Operand.tmp 27), (1, Operand.tmp 30), (2, Operand.tmp 33), (3, Operand.tmp 36)], type := 24, pos := "ref.go:133", after := #[{ on := 2, ground := Ground.data }, { on := 5, ground := Ground.data }, { on := 8, ground := Ground.data }, { on := 11, ground := Ground.data }], guard := none }) (v := ?_) rfl (by kernel_rfl) (by kernel_rfl) (by kernel_rfl) (fun _ _ _ h => h) (Or.inl ⟨by rfl, ?_⟩) (by assumption) ?_
              rotate_left
              · intro w hSw; (try dsimp only at hSw); go_simp; try with_reducible rfl
              simp only [Act.put, List.setIfInBounds_toArray, List.set_cons_zero, List.set_cons_succ]
              refine wpAnyH_ready (rs := [14]) (by kernel_rfl) (by simp) (AllReadyH.cons (o := { dst := none, op := Op.store 24 (Operand.tmp 5) (Operand.tmp 37), type := 0, pos := "ref.go:133", after := #[{ on := 13, ground := Ground.data }, { on := 12, ground := Ground.data }, { on := 11, ground := Ground.chain }, { on := 0, ground := Ground.phase }, { on := 1, ground := Ground.phase }, { on := 2, ground := Ground.phase }, { on := 3, ground := Ground.phase }, { on := 4, ground := Ground.phase }, { on := 5, ground := Ground.phase }, { on := 6, ground := Ground.phase }, { on := 7, ground := Ground.phase }, { on := 8, ground := Ground.phase }, { on := 9, ground := Ground.phase }, { on := 10, ground := Ground.phase }, { on := 11, ground := Ground.phase }, { on := 12, ground := Ground.phase }, { on := 13, ground := Ground.phase }], guard := none }) rfl (fun KK hK => ?_) AllReadyH.nil)
              · rw [if_pos (by rfl)]
                refine wp_store_mid 24 (.tmp 5) (.tmp 37) rfl vb 0 #[.int .i64 p, .int .i64 e, .int .i64 t, .int .i64 u, .slice none 0 0, .int .i64 0, .int .i64 0] (by rfl) (by rfl) hs.there (by kernel_rfl) (by simp [Value.oneCell']) ?_
                obtain ⟨wz, ez, hs⟩ := hs.storeEx #[.int .i64 p, .int .i64 e, .int .i64 t, .int .i64 u, .slice none 0 0, .int .i64 0, .int .i64 0]
                rw [ez]
                clear ez
                refine hK.out _ _ (trivial) (fun hHeld => ?_)
                clear hK KK
                try simp only [Act.put, List.setIfInBounds_toArray, List.set_cons_zero, List.set_cons_succ]
                refine wpAnyH_done (by kernel_rfl) ?_ _
                clear hHeld
                rw [setAll_allV] at hs
                rotate_left
                · rfl
                go_wp2_with fail
                go_meet
                exact ⟨vb, rfl, hs⟩
      · obtain ⟨wy, vb, ey, er, hs⟩ := hs.allocEx #[.int .i64 0, .int .i64 0, .int .i64 0, .int .i64 0, .slice none 0 0, .int .i64 0, .int .i64 0] 24
        go_simp
        try rw [ey]
        try rw [er]
        clear ey er
        refine hK.out _ _ (trivial) (fun hHeld => ?_)
        clear hK KK
        try simp only [Act.put, List.setIfInBounds_toArray, List.set_cons_zero, List.set_cons_succ]
        refine wpAnyH_ready (rs := [5]) (by kernel_rfl) (by simp) (AllReadyH.cons (o := { dst := some 30, op := Op.call { callee := Callee.value (Operand.func 76), args := #[Operand.tmp 29], argTypes := #[9] }, type := 3, pos := "ref.go:133", after := #[{ on := 4, ground := Ground.data }, { on := 2, ground := Ground.chain }], guard := none }) rfl (fun KK hK => ?_) AllReadyH.nil)
        · go_simp
          go_at_call 76
          with_reducible refine (sr_intT _ ((S.drop 10).take 2) (by first | rfl | simp) e HE.out HE8.out hs).mono ?_
          rintro e wq ⟨rfl, hs⟩
          refine hK.out _ _ (trivial) (fun hHeld => ?_)
          clear hK KK
          try simp only [Act.put, List.setIfInBounds_toArray, List.set_cons_zero, List.set_cons_succ]
          refine wpAnyH_ready (rs := [8]) (by kernel_rfl) (by simp) (AllReadyH.cons (o := { dst := some 33, op := Op.call { callee := Callee.value (Operand.func 76), args := #[Operand.tmp 32], argTypes := #[9] }, type := 3, pos := "ref.go:133", after := #[{ on := 7, ground := Ground.data }, { on := 5, ground := Ground.chain }], guard := none }) rfl (fun KK hK => ?_) AllReadyH.nil)
          · go_simp
            go_at_call 76
            with_reducible refine (sr_intT _ ((S.drop 12).take 4) (by first | rfl | simp) t HT.out HT8.out hs).mono ?_
            rintro e wq ⟨rfl, hs⟩
            refine hK.out _ _ (trivial) (fun hHeld => ?_)
            clear hK KK
            try simp only [Act.put, List.setIfInBounds_toArray, List.set_cons_zero, List.set_cons_succ]
            refine wpAnyH_ready (rs := [11]) (by kernel_rfl) (by simp) (AllReadyH.cons (o := { dst := some 36, op := Op.call { callee := Callee.value (Operand.func 76), args := #[Operand.tmp 35], argTypes := #[9] }, type := 3, pos := "ref.go:133", after := #[{ on := 10, ground := Ground.data }, { on := 8, ground := Ground.chain }], guard := none }) rfl (fun KK hK => ?_) AllReadyH.nil)
            · go_simp
              go_at_call 76
              with_reducible refine (sr_intT _ ((S.drop 16).take 1) (by first | rfl | simp) u HU.out HU8.out hs).mono ?_
              rintro e wq ⟨rfl, hs⟩
              refine hK.out _ _ (trivial) (fun hHeld => ?_)
              clear hK KK
              try simp only [Act.put, List.setIfInBounds_toArray, List.set_cons_zero, List.set_cons_succ]
              refine wpAnyH_take (i := 12) (oi := { dst := some 37, op := Op.build 24 #[(0, Operand.tmp 27), (1, Operand.tmp 30), (2, Operand.tmp 33), (3, Operand.tmp 36)], type := 24, pos := "ref.go:133", after := #[{ on := 2, ground := Ground.data }, { on := 5, ground := Ground.data }, { on := 8, ground := Ground.data }, { on := 11, ground := Ground.data }], guard := none }) (v := ?_) rfl (by kernel_rfl) (by kernel_rfl) (by kernel_rfl) (fun _ _ _ h => h) (Or.inl ⟨by rfl, ?_⟩) (by assumption) ?_
              rotate_left
              · intro w hSw; (try dsimp only at hSw); go_simp; try with_reducible rfl
              simp only [Act.put, List.setIfInBounds_toArray, List.set_cons_zero, List.set_cons_succ]
              refine wpAnyH_ready (rs := [14]) (by kernel_rfl) (by simp) (AllReadyH.cons (o := { dst := none, op := Op.store 24 (Operand.tmp 5) (Operand.tmp 37), type := 0, pos := "ref.go:133", after := #[{ on := 13, ground := Ground.data }, { on := 12, ground := Ground.data }, { on := 11, ground := Ground.chain }, { on := 0, ground := Ground.phase }, { on := 1, ground := Ground.phase }, { on := 2, ground := Ground.phase }, { on := 3, ground := Ground.phase }, { on := 4, ground := Ground.phase }, { on := 5, ground := Ground.phase }, { on := 6, ground := Ground.phase }, { on := 7, ground := Ground.phase }, { on := 8, ground := Ground.phase }, { on := 9, ground := Ground.phase }, { on := 10, ground := Ground.phase }, { on := 11, ground := Ground.phase }, { on := 12, ground := Ground.phase }, { on := 13, ground := Ground.phase }], guard := none }) rfl (fun KK hK => ?_) AllReadyH.nil)
              · rw [if_pos (by rfl)]
                refine wp_store_mid 24 (.tmp 5) (.tmp 37) rfl vb 0 #[.int .i64 p, .int .i64 e, .int .i64 t, .int .i64 u, .slice none 0 0, .int .i64 0, .int .i64 0] (by rfl) (by rfl) hs.there (by kernel_rfl) (by simp [Value.oneCell']) ?_
                obtain ⟨wz, ez, hs⟩ := hs.storeEx #[.int .i64 p, .int .i64 e, .int .i64 t, .int .i64 u, .slice none 0 0, .int .i64 0, .int .i64 0]
                rw [ez]
                clear ez
                refine hK.out _ _ (trivial) (fun hHeld => ?_)
                clear hK KK
                try simp only [Act.put, List.setIfInBounds_toArray, List.set_cons_zero, List.set_cons_succ]
                refine wpAnyH_done (by kernel_rfl) ?_ _
                clear hHeld
                rw [setAll_allV] at hs
                rotate_left
                · rfl
                go_wp2_with fail
                go_meet
                exact ⟨vb, rfl, hs⟩
    · obtain ⟨wy, vb, ey, er, hs⟩ := hs.allocEx #[.int .i64 0, .int .i64 0, .int .i64 0, .int .i64 0, .slice none 0 0, .int .i64 0, .int .i64 0] 24
      go_simp
      try rw [ey]
      try rw [er]
      clear ey er
      refine hK.out _ _ (trivial) (fun hHeld => ?_)
      clear hK KK
      try simp only [Act.put, List.setIfInBounds_toArray, List.set_cons_zero, List.set_cons_succ]
      refine wpAnyH_ready (rs := [2]) (by kernel_rfl) (by simp) (AllReadyH.cons (o := { dst := some 27, op := Op.call { callee := Callee.value (Operand.func 76), args := #[Operand.tmp 26], argTypes := #[9] }, type := 3, pos := "ref.go:133", after := #[{ on := 1, ground := Ground.data }], guard := none }) rfl (fun KK hK => ?_) AllReadyH.nil)
      · go_simp
        go_at_call 76
        with_reducible refine (sr_intT _ ((S.drop 2).take 8) (by first | rfl | simp) p HP.out HP8.out hs).mono ?_
        rintro e wq ⟨rfl, hs⟩
        refine hK.out _ _ (trivial) (fun hHeld => ?_)
        clear hK KK
        try simp only [Act.put, List.setIfInBounds_toArray, List.set_cons_zero, List.set_cons_succ]
        refine wpAnyH_ready (rs := [5]) (by kernel_rfl) (by simp) (AllReadyH.cons (o := { dst := some 30, op := Op.call { callee := Callee.value (Operand.func 76), args := #[Operand.tmp 29], argTypes := #[9] }, type := 3, pos := "ref.go:133", after := #[{ on := 4, ground := Ground.data }, { on := 2, ground := Ground.chain }], guard := none }) rfl (fun KK hK => ?_) AllReadyH.nil)
        · go_simp
          go_at_call 76
          with_reducible refine (sr_intT _ ((S.drop 10).take 2) (by first | rfl | simp) e HE.out HE8.out hs).mono ?_
          rintro e wq ⟨rfl, hs⟩
          refine hK.out _ _ (trivial) (fun hHeld => ?_)
          clear hK KK
          try simp only [Act.put, List.setIfInBounds_toArray, List.set_cons_zero, List.set_cons_succ]
          refine wpAnyH_ready (rs := [8]) (by kernel_rfl) (by simp) (AllReadyH.cons (o := { dst := some 33, op := Op.call { callee := Callee.value (Operand.func 76), args := #[Operand.tmp 32], argTypes := #[9] }, type := 3, pos := "ref.go:133", after := #[{ on := 7, ground := Ground.data }, { on := 5, ground := Ground.chain }], guard := none }) rfl (fun KK hK => ?_) AllReadyH.nil)
          · go_simp
            go_at_call 76
            with_reducible refine (sr_intT _ ((S.drop 12).take 4) (by first | rfl | simp) t HT.out HT8.out hs).mono ?_
            rintro e wq ⟨rfl, hs⟩
            refine hK.out _ _ (trivial) (fun hHeld => ?_)
            clear hK KK
            try simp only [Act.put, List.setIfInBounds_toArray, List.set_cons_zero, List.set_cons_succ]
            refine wpAnyH_ready (rs := [11]) (by kernel_rfl) (by simp) (AllReadyH.cons (o := { dst := some 36, op := Op.call { callee := Callee.value (Operand.func 76), args := #[Operand.tmp 35], argTypes := #[9] }, type := 3, pos := "ref.go:133", after := #[{ on := 10, ground := Ground.data }, { on := 8, ground := Ground.chain }], guard := none }) rfl (fun KK hK => ?_) AllReadyH.nil)
            · go_simp
              go_at_call 76
              with_reducible refine (sr_intT _ ((S.drop 16).take 1) (by first | rfl | simp) u HU.out HU8.out hs).mono ?_
              rintro e wq ⟨rfl, hs⟩
              refine hK.out _ _ (trivial) (fun hHeld => ?_)
              clear hK KK
              try simp only [Act.put, List.setIfInBounds_toArray, List.set_cons_zero, List.set_cons_succ]
              refine wpAnyH_take (i := 12) (oi := { dst := some 37, op := Op.build 24 #[(0, Operand.tmp 27), (1, Operand.tmp 30), (2, Operand.tmp 33), (3, Operand.tmp 36)], type := 24, pos := "ref.go:133", after := #[{ on := 2, ground := Ground.data }, { on := 5, ground := Ground.data }, { on := 8, ground := Ground.data }, { on := 11, ground := Ground.data }], guard := none }) (v := ?_) rfl (by kernel_rfl) (by kernel_rfl) (by kernel_rfl) (fun _ _ _ h => h) (Or.inl ⟨by rfl, ?_⟩) (by assumption) ?_
              rotate_left
              · intro w hSw; (try dsimp only at hSw); go_simp; try with_reducible rfl
              simp only [Act.put, List.setIfInBounds_toArray, List.set_cons_zero, List.set_cons_succ]
              refine wpAnyH_ready (rs := [14]) (by kernel_rfl) (by simp) (AllReadyH.cons (o := { dst := none, op := Op.store 24 (Operand.tmp 5) (Operand.tmp 37), type := 0, pos := "ref.go:133", after := #[{ on := 13, ground := Ground.data }, { on := 12, ground := Ground.data }, { on := 11, ground := Ground.chain }, { on := 0, ground := Ground.phase }, { on := 1, ground := Ground.phase }, { on := 2, ground := Ground.phase }, { on := 3, ground := Ground.phase }, { on := 4, ground := Ground.phase }, { on := 5, ground := Ground.phase }, { on := 6, ground := Ground.phase }, { on := 7, ground := Ground.phase }, { on := 8, ground := Ground.phase }, { on := 9, ground := Ground.phase }, { on := 10, ground := Ground.phase }, { on := 11, ground := Ground.phase }, { on := 12, ground := Ground.phase }, { on := 13, ground := Ground.phase }], guard := none }) rfl (fun KK hK => ?_) AllReadyH.nil)
              · rw [if_pos (by rfl)]
                refine wp_store_mid 24 (.tmp 5) (.tmp 37) rfl vb 0 #[.int .i64 p, .int .i64 e, .int .i64 t, .int .i64 u, .slice none 0 0, .int .i64 0, .int .i64 0] (by rfl) (by rfl) hs.there (by kernel_rfl) (by simp [Value.oneCell']) ?_
                obtain ⟨wz, ez, hs⟩ := hs.storeEx #[.int .i64 p, .int .i64 e, .int .i64 t, .int .i64 u, .slice none 0 0, .int .i64 0, .int .i64 0]
                rw [ez]
                clear ez
                refine hK.out _ _ (trivial) (fun hHeld => ?_)
                clear hK KK
                try simp only [Act.put, List.setIfInBounds_toArray, List.set_cons_zero, List.set_cons_succ]
                refine wpAnyH_done (by kernel_rfl) ?_ _
                clear hHeld
                rw [setAll_allV] at hs
                rotate_left
                · rfl
                go_wp2_with fail
                go_meet
                exact ⟨vb, rfl, hs⟩
  obtain ⟨vb, rfl, h⟩ := hcut
  clear c0 d0 r0 c1 d1 r1 c2 d2 r2 c3 d3 r3 c4 d4 r4 c5 d5 r5 c6 d6 r6
  have H := Lib.hid h
  clear h
  have c0 := H.out.p1.rawCell 0; have c1 := H.out.p1.rawCell 1; have c2 := H.out.p1.rawCell 2; have c3 := H.out.p1.rawCell 3; have c4 := H.out.p1.rawCell 4; have c5 := H.out.p1.rawCell 5; have c6 := H.out.p1.rawCell 6; simp at c0 c1 c2 c3 c4 c5 c6; have d0 := H.out.p2.rawCell 0; have r0 := H.out.p2.rawFree 0; have d1 := H.out.p2.rawCell 1; have r1 := H.out.p2.rawFree 1; have d2 := H.out.p2.rawCell 2; have r2 := H.out.p2.rawFree 2; have d3 := H.out.p2.rawCell 3; have r3 := H.out.p2.rawFree 3; have d4 := H.out.p2.rawCell 4; have r4 := H.out.p2.rawFree 4; have d5 := H.out.p2.rawCell 5; have r5 := H.out.p2.rawFree 5; have d6 := H.out.p2.rawCell 6; have r6 := H.out.p2.rawFree 6; simp at d0 d1 d2 d3 d4 d5 d6
  go_upto_region 13 with (go_at_call 26; clear HA; (with_reducible refine (ref14_readTopicsT _ (S.drop 17) HTE.out HX.out l m 0 HR.out H.out).mono ?_); rintro e_ wn ⟨v_, lr, rfl, hlr, h⟩; obtain ⟨q, cap, rfl⟩ := tops_form (Know.has_right (Know.has_refl _)) h; have HLR := Lib.hid hlr; clear hlr; clear c0 d0 r0 c1 d1 r1 c2 d2 r2 c3 d3 r3 c4 d4 r4 c5 d5 r5 c6 d6 r6; have c0 := h.p1.rawCell 0; have c1 := h.p1.rawCell 1; have c2 := h.p1.rawCell 2; have c3 := h.p1.rawCell 3; have c4 := h.p1.rawCell 4; have c5 := h.p1.rawCell 5; have c6 := h.p1.rawCell 6; simp at c0 c1 c2 c3 c4 c5 c6; have d0 := h.p2.rawCell 0; have r0 := h.p2.rawFree 0; have d1 := h.p2.rawCell 1; have r1 := h.p2.rawFree 1; have d2 := h.p2.rawCell 2; have r2 := h.p2.rawFree 2; have d3 := h.p2.rawCell 3; have r3 := h.p2.rawFree 3; have d4 := h.p2.rawCell 4; have r4 := h.p2.rawFree 4; have d5 := h.p2.rawCell 5; have r5 := h.p2.rawFree 5; have d6 := h.p2.rawCell 6; have r6 := h.p2.rawFree 6; simp at d0 d1 d2 d3 d4 d5 d6; replace H := Lib.hid h; clear h)
  try rw [HRR.out]
  go_wp2_with fail
  have hz : St W0 _ _ (.raw rb #[.int .i64 0, .int .i64 0, .int .i64 0, .int .i64 0, .slice none 0 0, .int .i64 0, .int .i64 0] 24 :: _) := St.sets7 _ _ _ _ _ _ _ (H.out.p2)
  refine bodyPost_ret (rc_cell_tmp rfl _ _ rb [.int .i64 0, .int .i64 0, .int .i64 0, .int .i64 0, .slice none 0 0, .int .i64 0, .int .i64 0] _ rfl (rc_range hz) Try.underlying24 rfl (by kernel_rfl)) rfl ?_
  exact ⟨rfl, (hz.drop.drop.drop).know (Know.has_left (Know.has_refl _))⟩

set_option maxHeartbeats 6000000 in
set_option maxRecDepth 100000 in
theorem rd_6 (S : Bs) (hsl : S.length ≤ 1000000) (ha : sInt (S.take 2) = 0) (hl17 : 17 ≤ S.length) (p e t u : Int) (hp : sInt ((S.drop 2).take 8) = p) (he : sInt ((S.drop 10).take 2) = e) (ht : sInt ((S.drop 12).take 4) = t) (hu : sInt ((S.drop 16).take 1) = u) (l : List TopS) (m : Nat) (hr : topsR (S.drop 17) = (l, m, 0)) (hm : 17 + m ≤ S.length) (R : Bs) (hR : S.drop (17 + m) = R) (hrl : 16 < R.length) {W0 w : World} {K : Know} {L : List Res} (h : St W0 w K L) :
    Calls Try.prog 23 #[.string (bb S)] w fun en w' => en = .returned (.tuple #[.agg #[.int .i64 0, .int .i64 0, .int .i64 0, .int .i64 0, .slice none 0 0, .int .i64 0, .int .i64 0], .int .i64 2]) ∧ St W0 w' K L := by
  obtain ⟨rb, hrb⟩ : ∃ b, w.heap.size = b := ⟨_, rfl⟩
  obtain ⟨nb, hnb⟩ : ∃ b, rb + 1 = b := ⟨_, rfl⟩
  have g1 := (h.allocRaw #[.int .i64 0, .int .i64 0, .int .i64 0, .int .i64 0, .slice none 0 0, .int .i64 0, .int .i64 0] 24).allocRaw #[.int .i64 0, .int .i64 0, .int .i64 0, .int .i64 0, .slice none 0 0, .int .i64 0, .int .i64 0] 24
  simp only [World.size_alloc, hrb, hnb] at g1
  have H := Lib.hid g1
  have HSL := Lib.hid hsl
  have c0 := g1.rawCell 0; have c1 := g1.rawCell 1; have c2 := g1.rawCell 2; have c3 := g1.rawCell 3; have c4 := g1.rawCell 4; have c5 := g1.rawCell 5; have c6 := g1.rawCell 6; simp at c0 c1 c2 c3 c4 c5 c6
  have d0 := g1.p1.rawCell 0; have r0 := g1.p1.rawFree 0; have d1 := g1.p1.rawCell 1; have r1 := g1.p1.rawFree 1; have d2 := g1.p1.rawCell 2; have r2 := g1.p1.rawFree 2; have d3 := g1.p1.rawCell 3; have r3 := g1.p1.rawFree 3; have d4 := g1.p1.rawCell 4; have r4 := g1.p1.rawFree 4; have d5 := g1.p1.rawCell 5; have r5 := g1.p1.rawFree 5; have d6 := g1.p1.rawCell 6; have r6 := g1.p1.rawFree 6; simp at d0 d1 d2 d3 d4 d5 d6
  have hl2 : ¬ (S.length : Int) < 2 := by omega
  have hl3 : 2 ≤ (S.length : Int) := by omega
  have hl4 : ¬ (S.length : Int) < 17 := by omega
  have hl5 : 10 ≤ (S.length : Int) := by omega
  have hl6 : 12 ≤ (S.length : Int) := by omega
  have hl7 : 16 ≤ (S.length : Int) := by omega
  have hl8 : 17 ≤ (S.length : Int) := by omega
  have HA := Lib.hid ha
  have H8 := Lib.hid (show (S.take 2).length ≤ 8 by rw [List.length_take]; omega)
  have HP := Lib.hid hp
  have HP8 := Lib.hid (show ((S.drop 2).take 8).length ≤ 8 by rw [List.length_take]; omega)
  have HE := Lib.hid he
  have HE8 := Lib.hid (show ((S.drop 10).take 2).length ≤ 8 by rw [List.length_take]; omega)
  have HT := Lib.hid ht
  have HT8 := Lib.hid (show ((S.drop 12).take 4).length ≤ 8 by rw [List.length_take]; omega)
  have HU := Lib.hid hu
  have HU8 := Lib.hid (show ((S.drop 16).take 1).length ≤ 8 by rw [List.length_take]; omega)
  have HTE := Lib.hid (takeEnd S 17)
  have HX := Lib.hid (show (S.drop 17).length ≤ 1000000 by rw [List.length_drop]; omega)
  have HR := Lib.hid hr
  have HRR := Lib.hid ((takeEnd S (17 + m)).trans hR)
  have hmi : 17 + (m : Int) ≤ (S.length : Int) := by omega
  have hmz : (m : Int) ≤ 1000000 := by omega
  have hw : IntKind.i64.wrap (17 + (m : Int)) = 17 + (m : Int) := by rw [IntKind.wrap_i64]; omega
  have hri : (16 : Int) < (R.length : Int) := by omega
  have hrj : ¬ (R.length : Int) < 16 := by omega
  clear h g1 hsl ha hl17 hp he ht hu hr hm hR hrl
  go_enter Try.func23, Try.ntmps23
  go_upto_region 8 with (go_at_call 76; clear c0 d0 r0 c1 d1 r1 c2 d2 r2 c3 d3 r3 c4 d4 r4 c5 d5 r5 c6 d6 r6; (with_reducible refine (sr_intT _ (S.take 2) (by first | rfl | simp) 0 HA.out H8.out H.out).mono ?_); rintro e_ wn ⟨rfl, h⟩; have c0 := h.rawCell 0; have c1 := h.rawCell 1; have c2 := h.rawCell 2; have c3 := h.rawCell 3; have c4 := h.rawCell 4; have c5 := h.rawCell 5; have c6 := h.rawCell 6; simp at c0 c1 c2 c3 c4 c5 c6; have d0 := h.p1.rawCell 0; have r0 := h.p1.rawFree 0; have d1 := h.p1.rawCell 1; have r1 := h.p1.rawFree 1; have d2 := h.p1.rawCell 2; have r2 := h.p1.rawFree 2; have d3 := h.p1.rawCell 3; have r3 := h.p1.rawFree 3; have d4 := h.p1.rawCell 4; have r4 := h.p1.rawFree 4; have d5 := h.p1.rawCell 5; have r5 := h.p1.rawFree 5; have d6 := h.p1.rawCell 6; have r6 := h.p1.rawFree 6; simp at d0 d1 d2 d3 d4 d5 d6; replace H := Lib.hid h; clear h)
  go_cut [5] (fun s5 wx => ∃ vb : Nat, s5 = .pointer (some ⟨vb, 0, none⟩) ∧ St W0 wx K (.raw vb #[.int .i64 p, .int .i64 e, .int .i64 t, .int .i64 u, .slice none 0 0, .int .i64 0, .int .i64 0] 24 :: .raw nb #[.int .i64 0, .int .i64 0, .int .i64 0, .int .i64 0, .slice none 0 0, .int .i64 0, .int .i64 0] 24 :: .raw rb #[.int .i64 0, .int .i64 0, .int .i64 0, .int .i64 0, .slice none 0 0, .int .i64 0, .int .i64 0] 24 :: L))
  case first =>
    clear c0 d0 r0 c1 d1 r1 c2 d2 r2 c3 d3 r3 c4 d4 r4 c5 d5 r5 c6 d6 r6
    have hs := H.out.drew
    refine wp_region_held_drew (S := fun _ => True) (by kernel_rfl) trivial (fun hHeld => ?_)
    refine wpAnyH_take (i := 0) (oi := { dst := some 25, op := Op.move (Operand.tmp 0), type := 9, pos := "ref.go:133", after := #[], guard := none }) (v := ?_) rfl (by kernel_rfl) (by kernel_rfl) (by kernel_rfl) (fun _ _ _ h => h) (Or.inl ⟨by rfl, ?_⟩) (by assumption) ?_
    rotate_left
    · intro w hSw; (try dsimp only at hSw); go_simp; try with_reducible rfl
    simp only [Act.put, List.setIfInBounds_toArray, List.set_cons_zero, List.set_cons_succ]
    refine wpAnyH_take (i := 1) (oi := { dst := some 26, op := Op.slice 9 (Operand.tmp 25) (some (Operand.const (Value.int IntKind.i64 2))) (some (Operand.const (Value.int IntKind.i64 10))) none, type := 9, pos := "ref.go:133", after := #[{ on := 0, ground := Ground.data }], guard := none }) (v := ?_) rfl (by kernel_rfl) (by kernel_rfl) (by kernel_rfl) (fun _ _ _ h => h) (Or.inl ⟨by rfl, ?_⟩) (by assumption) ?_
    rotate_left
    · intro w hSw; (try dsimp only at hSw); go_simp; try with_reducible rfl
    simp only [Act.put, List.setIfInBounds_toArray, List.set_cons_zero, List.set_cons_succ]
    refine wpAnyH_take (i := 3) (oi := { dst := some 28, op := Op.move (Operand.tmp 0), type := 9, pos := "ref.go:133", after := #[], guard := none }) (v := ?_) rfl (by kernel_rfl) (by kernel_rfl) (by kernel_rfl) (fun _ _ _ h => h) (Or.inl ⟨by rfl, ?_⟩) (by assumption) ?_
    rotate_left
    · intro w hSw; (try dsimp only at hSw); go_simp; try with_reducible rfl
    simp only [Act.put, List.setIfInBounds_toArray, List.set_cons_zero, List.set_cons_succ]
    refine wpAnyH_take (i := 4) (oi := { dst := some 29, op := Op.slice 9 (Operand.tmp 28) (some (Operand.const (Value.int IntKind.i64 10))) (some (Operand.const (Value.int IntKind.i64 12))) none, type := 9, pos := "ref.go:133", after := #[{ on := 3, ground := Ground.data }], guard := none }) (v := ?_) rfl (by kernel_rfl) (by kernel_rfl) (by kernel_rfl) (fun _ _ _ h => h) (Or.inl ⟨by rfl, ?_⟩) (by assumption) ?_
    rotate_left
    · intro w hSw; (try dsimp only at hSw); go_simp; try with_reducible rfl
    simp only [Act.put, List.setIfInBounds_toArray, List.set_cons_zero, List.set_cons_succ]
    refine wpAnyH_take (i := 6) (oi := { dst := some 31, op := Op.move (Operand.tmp 0), type := 9, pos := "ref.go:133", after := #[], guard := none }) (v := ?_) rfl (by kernel_rfl) (by kernel_rfl) (by kernel_rfl) (fun _ _ _ h => h) (Or.inl ⟨by rfl, ?_⟩) (by assumption) ?_
    rotate_left
    · intro w hSw; (try dsimp only at hSw); go_simp; try with_reducible rfl
    simp only [Act.put, List.setIfInBounds_toArray, List.set_cons_zero, List.set_cons_succ]
    refine wpAnyH_take (i := 7) (oi := { dst := some 32, op := Op.slice 9 (Operand.tmp 31) (some (Operand.const (Value.int IntKind.i64 12))) (some (Operand.const (Value.int IntKind.i64 16))) none, type := 9, pos := "ref.go:133", after := #[{ on := 6, ground := Ground.data }], guard := none }) (v := ?_) rfl (by kernel_rfl) (by kernel_rfl) (by kernel_rfl) (fun _ _ _ h => h) (Or.inl ⟨by rfl, ?_⟩) (by assumption) ?_
    rotate_left
    · intro w hSw; (try dsimp only at hSw); go_simp; try with_reducible rfl
    simp only [Act.put, List.setIfInBounds_toArray, List.set_cons_zero, List.set_cons_succ]
    refine wpAnyH_take (i := 9) (oi := { dst := some 34, op := Op.move (Operand.tmp 0), type := 9, pos := "ref.go:133", after := #[], guard := none }) (v := ?_) rfl (by kernel_rfl) (by kernel_rfl) (by kernel_rfl) (fun _ _ _ h => h) (Or.inl ⟨by rfl, ?_⟩) (by assumption) ?_
    rotate_left
    · intro w hSw; (try dsimp only at hSw); go_simp; try with_reducible rfl
    simp only [Act.put, List.setIfInBounds_toArray, List.set_cons_zero, List.set_cons_succ]
    refine wpAnyH_take (i := 10) (oi := { dst := some 35, op := Op.slice 9 (Operand.tmp 34) (some (Operand.const (Value.int IntKind.i64 16))) (some (Operand.const (Value.int IntKind.i64 17))) none, type := 9, pos := "ref.go:133", after := #[{ on := 9, ground := Ground.data }], guard := none }) (v := ?_) rfl (by kernel_rfl) (by kernel_rfl) (by kernel_rfl) (fun _ _ _ h => h) (Or.inl ⟨by rfl, ?_⟩) (by assumption) ?_
    rotate_left
    · intro w hSw; (try dsimp only at hSw); go_simp; try with_reducible rfl
    simp only [Act.put, List.setIfInBounds_toArray, List.set_cons_zero, List.set_cons_succ]
    refine wpAnyH_ready (rs := [2, 13]) (by kernel_rfl) (by simp) (AllReadyH.cons (o := { dst := some 27, op := Op.call { callee := Callee.value (Operand.func 76), args := #[Operand.tmp 26], argTypes := #[9] }, type := 3, pos := "ref.go:133", after := #[{ on := 1, ground := Ground.data }], guard := none }) rfl (fun KK hK => ?_) (AllReadyH.cons (o := { dst := some 5, op := Op.alloc 24, type := 0, pos := "ref.go:133", after := #[], guard := none }) rfl (fun KK hK => ?_) AllReadyH.nil))
    · go_simp
      go_at_call 76
      with_reducible refine (sr_intT _ ((S.drop 2).take 8) (by first | rfl | simp) p HP.out HP8.out hs).mono ?_
      rintro e wq ⟨rfl, hs⟩
      refine hK.out _ _ (trivial) (fun hHeld => ?_)
      clear hK KK
      try simp only [Act.put, List.setIfInBounds_toArray, List.set_cons_zero, List.set_cons_succ]
      refine wpAnyH_ready (rs := [5, 13]) (by kernel_rfl) (by simp) (AllReadyH.cons (o := { dst := some 30, op := Op.call { callee := Callee.value (Operand.func 76), args := #[Operand.tmp 29], argTypes := #[9] }, type := 3, pos := "ref.go:133", after := #[{ on := 4, ground := Ground.data }, { on := 2, ground := Ground.chain }], guard := none }) rfl (fun KK hK => ?_) (AllReadyH.cons (o := { dst := some 5, op := Op.alloc 24, type := 0, pos := "ref.go:133", after := #[], guard := none }) rfl (fun KK hK => ?_) AllReadyH.nil))
      · go_simp
        go_at_call 76
        with_reducible refine (sr_intT _ ((S.drop 10).take 2) (by first | rfl | simp) e HE.out HE8.out hs).mono ?_
        rintro e wq ⟨rfl, hs⟩
        refine hK.out _ _ (trivial) (fun hHeld => ?_)
        clear hK KK
        try simp only [Act.put, List.setIfInBounds_toArray, List.set_cons_zero, List.set_cons_succ]
        refine wpAnyH_ready (rs := [8, 13]) (by kernel_rfl) (by simp) (AllReadyH.cons (o := { dst := some 33, op := Op.call { callee := Callee.value (Operand.func 76), args := #[Operand.tmp 32], argTypes := #[9] }, type := 3, pos := "ref.go:133", after := #[{ on := 7, ground := Ground.data }, { on := 5, ground := Ground.chain }], guard := none }) rfl (fun KK hK => ?_) (AllReadyH.cons (o := { dst := some 5, op := Op.alloc 24, type := 0, pos := "ref.go:133", after := #[], guard := none }) rfl (fun KK hK => ?_) AllReadyH.nil))
        · go_simp
          go_at_call 76
          with_reducible refine (sr_intT _ ((S.drop 12).take 4) (by first | rfl | simp) t HT.out HT8.out hs).mono ?_
          rintro e wq ⟨rfl, hs⟩
          refine hK.out _ _ (trivial) (fun hHeld => ?_)
          clear hK KK
          try simp only [Act.put, List.setIfInBounds_toArray, List.set_cons_zero, List.set_cons_succ]
          refine wpAnyH_ready (rs := [11, 13]) (by kernel_rfl) (by simp) (AllReadyH.cons (o := { dst := some 36, op := Op.call { callee := Callee.value (Operand.func 76), args := #[Operand.tmp 35], argTypes := #[9] }, type := 3, pos := "ref.go:133", after := #[{ on := 10, ground := Ground.data }, { on := 8, ground := Ground.chain }], guard := none }) rfl (fun KK hK => ?_) (AllReadyH.cons (o := { dst := some 5, op := Op.alloc 24, type := 0, pos := "ref.go:133", after := #[], guard := none }) rfl (fun KK hK => ?_) AllReadyH.nil))
          · go_simp
            go_at_call 76
            with_reducible refine (sr_intT _ ((S.drop 16).take 1) (by first | rfl | simp) u HU.out HU8.out hs).mono ?_
            rintro e wq ⟨rfl, hs⟩
            refine hK.out _ _ (trivial) (fun hHeld => ?_)
            clear hK KK
            try simp only [Act.put, List.setIfInBounds_toArray, List.set_cons_zero, List.set_cons_succ]
            refine wpAnyH_take (i := 12) (oi := { dst := some 37, op := Op.build 24 #[(0, Operand.tmp 27), (1, Operand.tmp 30), (2, Operand.tmp 33), (3, Operand.tmp 36)], type := 24, pos := "ref.go:133", after := #[{ on := 2, ground := Ground.data }, { on := 5, ground := Ground.data }, { on := 8, ground := Ground.data }, { on := 11, ground := Ground.data }], guard := none }) (v := ?_) rfl (by kernel_rfl) (by kernel_rfl) (by kernel_rfl) (fun _ _ _ h => h) (Or.inl ⟨by rfl, ?_⟩) (by assumption) ?_
            rotate_left
            · intro w hSw; (try dsimp only at hSw); go_simp; try with_reducible rfl
            simp only [Act.put, List.setIfInBounds_toArray, List.set_cons_zero, List.set_cons_succ]
            refine wpAnyH_ready (rs := [13]) (by kernel_rfl) (by simp) (AllReadyH.cons (o := { dst := some 5, op := Op.alloc 24, type := 0, pos := "ref.go:133", after := #[], guard := none }) rfl (fun KK hK => ?_) AllReadyH.nil)
            · obtain ⟨wy, vb, ey, er, hs⟩ := hs.allocEx #[.int .i64 0, .int .i64 0, .int .i64 0, .int .i64 0, .slice none 0 0, .int .i64 0, .int .i64 0] 24
              go_simp
              try rw [ey]
              try rw [er]
              clear ey er
              refine hK.out _ _ (trivial) (fun hHeld => ?_)
              clear hK KK
              try simp only [Act.put, List.setIfInBounds_toArray, List.set_cons_zero, List.set_cons_succ]
              refine wpAnyH_ready (rs := [14]) (by kernel_rfl) (by simp) (AllReadyH.cons (o := { dst := none, op := Op.store 24 (Operand.tmp 5) (Operand.tmp 37), type := 0, pos := "ref.go:133", after := #[{ on := 13, ground := Ground.data }, { on := 12, ground := Ground.data }, { on := 11, ground := Ground.chain }, { on := 0, ground := Ground.phase }, { on := 1, ground := Ground.phase }, { on := 2, ground := Ground.phase }, { on := 3, ground := Ground.phase }, { on := 4, ground := Ground.phase }, { on := 5, ground := Ground.phase }, { on := 6, ground := Ground.phase }, { on := 7, ground := Ground.phase }, { on := 8, ground := Ground.phase }, { on := 9, ground := Ground.phase }, { on := 10, ground := Ground.phase }, { on := 11, ground := Ground.phase }, { on := 12, ground := Ground.phase }, { on := 13, ground := Ground.phase }], guard := none }) rfl (fun KK hK => ?_) AllReadyH.nil)
              · rw [if_pos (by rfl)]
                refine wp_store_mid 24 (.tmp 5) (.tmp 37) rfl vb 0 #[.int .i64 p, .int .i64 e, .int .i64 t, .int .i64 u, .slice none 0 0, .int .i64 0, .int .i64 0] (by rfl) (by rfl) hs.there (by kernel_rfl) (by simp [Value.oneCell']) ?_
                obtain ⟨wz, ez, hs⟩ := hs.storeEx #[.int .i64 p, .int .i64 e, .int .i64 t, .int .i64 u, .slice none 0 0, .int .i64 0, .int .i64 0]
                rw [ez]
                clear ez
                refine hK.out _ _ (trivial) (fun hHeld => ?_)
                clear hK KK
                try simp only [Act.put, List.setIfInBounds_toArray, List.set_cons_zero, List.set_cons_succ]
                refine wpAnyH_done (by kernel_rfl) ?_ _
                clear hHeld
                rw [setAll_allV] at hs
                rotate_left
                · rfl
                go_wp2_with fail
                go_meet
                exact ⟨vb, rfl, hs⟩
          · obtain ⟨wy, vb, ey, er, hs⟩ := hs.allocEx #[.int .i64 0, .int .i64 0, .int .i64 0, .int .i64 0, .slice none 0 0, .int .i64 0, .int .i64 0] 24
            go_simp
            try rw [ey]
            try rw [er]
            clear ey er
            refine hK.out _ _ (trivial) (fun hHeld => ?_)
            clear hK KK
            try simp only [Act.put, List.setIfInBounds_toArray, List.set_cons_zero, List.set_cons_succ]
            refine wpAnyH_ready (rs := [11]) (by kernel_rfl) (by simp) (AllReadyH.cons (o := { dst := some 36, op := Op.call { callee := Callee.value (Operand.func 76), args := #[Operand.tmp 35], argTypes := #[9] }, type := 3, pos := "ref.go:133", after := #[{ on := 10, ground := Ground.data }, { on := 8, ground := Ground.chain }], guard := none }) rfl (fun KK hK => ?_) AllReadyH.nil)
            · go_simp
              go_at_call 76
              with_reducible refine (sr_intT _ ((S.drop 16).take 1) (by first | rfl | simp) u HU.out HU8.out hs).mono ?_
              rintro e wq ⟨rfl, hs⟩
              refine hK.out _ _ (trivial) (fun hHeld => ?_)
              clear hK KK
              try simp only [Act.put, List.setIfInBounds_toArray, List.set_cons_zero, List.set_cons_succ]
              refine wpAnyH_take (i := 12) (oi := { dst := some 37, op := Op.build 24 #[(0, Operand.tmp 27), (1, Operand.tmp 30), (2, Operand.tmp 33), (3, Operand.tmp 36)], type := 24, pos := "ref.go:133", after := #[{ on := 2, ground := Ground.data }, { on := 5, ground := Ground.data }, { on := 8, ground := Ground.data }, { on := 11, ground := Ground.data }], guard := none }) (v := ?_) rfl (by kernel_rfl) (by kernel_rfl) (by kernel_rfl) (fun _ _ _ h => h) (Or.inl ⟨by rfl, ?_⟩) (by assumption) ?_
              rotate_left
              · intro w hSw; (try dsimp only at hSw); go_simp; try with_reducible rfl
              simp only [Act.put, List.setIfInBounds_toArray, List.set_cons_zero, List.set_cons_succ]
              refine wpAnyH_ready (rs := [14]) (by kernel_rfl) (by simp) (AllReadyH.cons (o := { dst := none, op := Op.store 24 (Operand.tmp 5) (Operand.tmp 37), type := 0, pos := "ref.go:133", after := #[{ on := 13, ground := Ground.data }, { on := 12, ground := Ground.data }, { on := 11, ground := Ground.chain }, { on := 0, ground := Ground.phase }, { on := 1, ground := Ground.phase }, { on := 2, ground := Ground.phase }, { on := 3, ground := Ground.phase }, { on := 4, ground := Ground.phase }, { on := 5, ground := Ground.phase }, { on := 6, ground := Ground.phase }, { on := 7, ground := Ground.phase }, { on := 8, ground := Ground.phase }, { on := 9, ground := Ground.phase }, { on := 10, ground := Ground.phase }, { on := 11, ground := Ground.phase }, { on := 12, ground := Ground.phase }, { on := 13, ground := Ground.phase }], guard := none }) rfl (fun KK hK => ?_) AllReadyH.nil)
              · rw [if_pos (by rfl)]
                refine wp_store_mid 24 (.tmp 5) (.tmp 37) rfl vb 0 #[.int .i64 p, .int .i64 e, .int .i64 t, .int .i64 u, .slice none 0 0, .int .i64 0, .int .i64 0] (by rfl) (by rfl) hs.there (by kernel_rfl) (by simp [Value.oneCell']) ?_
                obtain ⟨wz, ez, hs⟩ := hs.storeEx #[.int .i64 p, .int .i64 e, .int .i64 t, .int .i64 u, .slice none 0 0, .int .i64 0, .int .i64 0]
                rw [ez]
                clear ez
                refine hK.out _ _ (trivial) (fun hHeld => ?_)
                clear hK KK
                try simp only [Act.put, List.setIfInBounds_toArray, List.set_cons_zero, List.set_cons_succ]
                refine wpAnyH_done (by kernel_rfl) ?_ _
                clear hHeld
                rw [setAll_allV] at hs
                rotate_left
                · rfl
                go_wp2_with fail
                go_meet
                exact ⟨vb, rfl, hs⟩
        · obtain ⟨wy, vb, ey, er, hs⟩ := hs.allocEx #[.int .i64 0, .int .i64 0, .int .i64 0, .int .i64 0, .slice none 0 0, .int .i64 0, .int .i64 0] 24
          go_simp
          try rw [ey]
          try rw [er]
          clear ey er
          refine hK.out _ _ (trivial) (fun hHeld => ?_)
          clear hK KK
          try simp only [Act.put, List.setIfInBounds_toArray, List.set_cons_zero, List.set_cons_succ]
          refine wpAnyH_ready (rs := [8]) (by kernel_rfl) (by simp) (AllReadyH.cons (o := { dst := some 33, op := Op.call { callee := Callee.value (Operand.func 76), args := #[Operand.tmp 32], argTypes := #[9] }, type := 3, pos := "ref.go:133", after := #[{ on := 7, ground := Ground.data }, { on := 5, ground := Ground.chain }], guard := none }) rfl (fun KK hK => ?_) AllReadyH.nil)
          · go_simp
            go_at_call 76
            with_reducible refine (sr_intT _ ((S.drop 12).take 4) (by first | rfl | simp) t HT.out HT8.out hs).mono ?_
            rintro e wq ⟨rfl, hs⟩
            refine hK.out _ _ (trivial) (fun hHeld => ?_)
            clear hK KK
            try simp only [Act.put, List.setIfInBounds_toArray, List.set_cons_zero, List.set_cons_succ]
            refine wpAnyH_ready (rs := [11]) (by kernel_rfl) (by simp) (AllReadyH.cons (o := { dst := some 36, op := Op.call { callee := Callee.value (Operand.func 76), args := #[Operand.tmp 35], argTypes := #[9] }, type := 3, pos := "ref.go:133", after := #[{ on := 10, ground := Ground.data }, { on := 8, ground := Ground.chain }], guard := none }) rfl (fun KK hK => ?_) AllReadyH.nil)
            · go_simp
              go_at_call 76
              with_reducible refine (sr_intT _ ((S.drop 16).take 1) (by first | rfl | simp) u HU.out HU8.out hs).mono ?_
              rintro e wq ⟨rfl, hs⟩
              refine hK.out _ _ (trivial) (fun hHeld => ?_)
              clear hK KK
              try simp only [Act.put, List.setIfInBounds_toArray, List.set_cons_zero, List.set_cons_succ]
              refine wpAnyH_take (i := 12) (oi := { dst := some 37, op := Op.build 24 #[(0, Operand.tmp 27), (1, Operand.tmp 30), (2, Operand.tmp 33), (3, Operand.tmp 36)], type := 24, pos := "ref.go:133", after := #[{ on := 2, ground := Ground.data }, { on := 5, ground := Ground.data }, { on := 8, ground := Ground.data }, { on := 11, ground := Ground.data }], guard := none }) (v := ?_) rfl (by kernel_rfl) (by kernel_rfl) (by kernel_rfl) (fun _ _ _ h => h) (Or.inl ⟨by rfl, ?_⟩) (by assumption) ?_
              rotate_left
              · intro w hSw; (try dsimp only at hSw); go_simp; try with_reducible rfl
              simp only [Act.put, List.setIfInBounds_toArray, List.set_cons_zero, List.set_cons_succ]
              refine wpAnyH_ready (rs := [14]) (by kernel_rfl) (by simp) (AllReadyH.cons (o := { dst := none, op := Op.store 24 (Operand.tmp 5) (Operand.tmp 37), type := 0, pos := "ref.go:133", after := #[{ on := 13, ground := Ground.data }, { on := 12, ground := Ground.data }, { on := 11, ground := Ground.chain }, { on := 0, ground := Ground.phase }, { on := 1, ground := Ground.phase }, { on := 2, ground := Ground.phase }, { on := 3, ground := Ground.phase }, { on := 4, ground := Ground.phase }, { on := 5, ground := Ground.phase }, { on := 6, ground := Ground.phase }, { on := 7, ground := Ground.phase }, { on := 8, ground := Ground.phase }, { on := 9, ground := Ground.phase }, { on := 10, ground := Ground.phase }, { on := 11, ground := Ground.phase }, { on := 12, ground := Ground.phase }, { on := 13, ground := Ground.phase }], guard := none }) rfl (fun KK hK => ?_) AllReadyH.nil)
              · rw [if_pos (by rfl)]
                refine wp_store_mid 24 (.tmp 5) (.tmp 37) rfl vb 0 #[.int .i64 p, .int .i64 e, .int .i64 t, .int .i64 u, .slice none 0 0, .int .i64 0, .int .i64 0] (by rfl) (by rfl) hs.there (by kernel_rfl) (by simp [Value.oneCell']) ?_
                obtain ⟨wz, ez, hs⟩ := hs.storeEx #[.int .i64 p, .int .i64 e, .int .i64 t, .int .i64 u, .slice none 0 0, .int .i64 0, .int .i64 0]
                rw [ez]
                clear ez
                refine hK.out _ _ (trivial) (fun hHeld => ?_)
                clear hK KK
                try simp only [Act.put, List.setIfInBounds_toArray, List.set_cons_zero, List.set_cons_succ]
                refine wpAnyH_done (by kernel_rfl) ?_ _
                clear hHeld
                rw [setAll_allV] at hs
                rotate_left
                · rfl
                go_wp2_with fail
                go_meet
                exact ⟨vb, rfl, hs⟩
      · obtain ⟨wy, vb, ey, er, hs⟩ := hs.allocEx #[.int .i64 0, .int .i64 0, .int .i64 0, .int .i64 0, .slice none 0 0, .int .i64 0, .int .i64 0] 24
        go_simp
        try rw [ey]
        try rw [er]
        clear ey er
        refine hK.out _ _ (trivial) (fun hHeld => ?_)
        clear hK KK
        try simp only [Act.put, List.setIfInBounds_toArray, List.set_cons_zero, List.set_cons_succ]
        refine wpAnyH_ready (rs := [5]) (by kernel_rfl) (by simp) (AllReadyH.cons (o := { dst := some 30, op := Op.call { callee := Callee.value (Operand.func 76), args := #[Operand.tmp 29], argTypes := #[9] }, type := 3, pos := "ref.go:133", after := #[{ on := 4, ground := Ground.data }, { on := 2, ground := Ground.chain }], guard := none }) rfl (fun KK hK => ?_) AllReadyH.nil)
        · go_simp
          go_at_call 76
          with_reducible refine (sr_intT _ ((S.drop 10).take 2) (by first | rfl | simp) e HE.out HE8.out hs).mono ?_
          rintro e wq ⟨rfl, hs⟩
          refine hK.out _ _ (trivial) (fun hHeld => ?_)
          clear hK KK
          try simp only [Act.put, List.setIfInBounds_toArray, List.set_cons_zero, List.set_cons_succ]
          refine wpAnyH_ready (rs := [8]) (by kernel_rfl) (by simp) (AllReadyH.cons (o := { dst := some 33, op := Op.call { callee := Callee.value (Operand.func 76), args := #[Operand.tmp 32], argTypes := #[9] }, type := 3, pos := "ref.go:133", after := #[{ on := 7, ground := Ground.data }, { on := 5, ground := Ground.chain }], guard := none }) rfl (fun KK hK => ?_) AllReadyH.nil)
          · go_simp
            go_at_call 76
            with_reducible refine (sr_intT _ ((S.drop 12).take 4) (by first | rfl | simp) t HT.out HT8.out hs).mono ?_
            rintro e wq ⟨rfl, hs⟩
            refine hK.out _ _ (trivial) (fun hHeld => ?_)
            clear hK KK
            try simp only [Act.put, List.setIfInBounds_toArray, List.set_cons_zero, List.set_cons_succ]
            refine wpAnyH_ready (rs := [11]) (by kernel_rfl) (by simp) (AllReadyH.cons (o := { dst := some 36, op := Op.call { callee := Callee.value (Operand.func 76), args := #[Operand.tmp 35], argTypes := #[9] }, type := 3, pos := "ref.go:133", after := #[{ on := 10, ground := Ground.data }, { on := 8, ground := Ground.chain }], guard := none }) rfl (fun KK hK => ?_) AllReadyH.nil)
            · go_simp
              go_at_call 76
              with_reducible refine (sr_intT _ ((S.drop 16).take 1) (by first | rfl | simp) u HU.out HU8.out hs).mono ?_
              rintro e wq ⟨rfl, hs⟩
              refine hK.out _ _ (trivial) (fun hHeld => ?_)
              clear hK KK
              try simp only [Act.put, List.setIfInBounds_toArray, List.set_cons_zero, List.set_cons_succ]
              refine wpAnyH_take (i := 12) (oi := { dst := some 37, op := Op.build 24 #[(0, Operand.tmp 27), (1, Operand.tmp 30), (2, Operand.tmp 33), (3, Operand.tmp 36)], type := 24, pos := "ref.go:133", after := #[{ on := 2, ground := Ground.data }, { on := 5, ground := Ground.data }, { on := 8, ground := Ground.data }, { on := 11, ground := Ground.data }], guard := none }) (v := ?_) rfl (by kernel_rfl) (by kernel_rfl) (by kernel_rfl) (fun _ _ _ h => h) (Or.inl ⟨by rfl, ?_⟩) (by assumption) ?_
              rotate_left
              · intro w hSw; (try dsimp only at hSw); go_simp; try with_reducible rfl
              simp only [Act.put, List.setIfInBounds_toArray, List.set_cons_zero, List.set_cons_succ]
              refine wpAnyH_ready (rs := [14]) (by kernel_rfl) (by simp) (AllReadyH.cons (o := { dst := none, op := Op.store 24 (Operand.tmp 5) (Operand.tmp 37), type := 0, pos := "ref.go:133", after := #[{ on := 13, ground := Ground.data }, { on := 12, ground := Ground.data }, { on := 11, ground := Ground.chain }, { on := 0, ground := Ground.phase }, { on := 1, ground := Ground.phase }, { on := 2, ground := Ground.phase }, { on := 3, ground := Ground.phase }, { on := 4, ground := Ground.phase }, { on := 5, ground := Ground.phase }, { on := 6, ground := Ground.phase }, { on := 7, ground := Ground.phase }, { on := 8, ground := Ground.phase }, { on := 9, ground := Ground.phase }, { on := 10, ground := Ground.phase }, { on := 11, ground := Ground.phase }, { on := 12, ground := Ground.phase }, { on := 13, ground := Ground.phase }], guard := none }) rfl (fun KK hK => ?_) AllReadyH.nil)
              · rw [if_pos (by rfl)]
                refine wp_store_mid 24 (.tmp 5) (.tmp 37) rfl vb 0 #[.int .i64 p, .int .i64 e, .int .i64 t, .int .i64 u, .slice none 0 0, .int .i64 0, .int .i64 0] (by rfl) (by rfl) hs.there (by kernel_rfl) (by simp [Value.oneCell']) ?_
                obtain ⟨wz, ez, hs⟩ := hs.storeEx #[.int .i64 p, .int .i64 e, .int .i64 t, .int .i64 u, .slice none 0 0, .int .i64 0, .int .i64 0]
                rw [ez]
                clear ez
                refine hK.out _ _ (trivial) (fun hHeld => ?_)
                clear hK KK
                try simp only [Act.put, List.setIfInBounds_toArray, List.set_cons_zero, List.set_cons_succ]
                refine wpAnyH_done (by kernel_rfl) ?_ _
                clear hHeld
                rw [setAll_allV] at hs
                rotate_left
                · rfl
                go_wp2_with fail
                go_meet
                exact ⟨vb, rfl, hs⟩
    · obtain ⟨wy, vb, ey, er, hs⟩ := hs.allocEx #[.int .i64 0, .int .i64 0, .int .i64 0, .int .i64 0, .slice none 0 0, .int .i64 0, .int .i64 0] 24
      go_simp
      try rw [ey]
      try rw [er]
      clear ey er
      refine hK.out _ _ (trivial) (fun hHeld => ?_)
      clear hK KK
      try simp only [Act.put, List.setIfInBounds_toArray, List.set_cons_zero, List.set_cons_succ]
      refine wpAnyH_ready (rs := [2]) (by kernel_rfl) (by simp) (AllReadyH.cons (o := { dst := some 27, op := Op.call { callee := Callee.value (Operand.func 76), args := #[Operand.tmp 26], argTypes := #[9] }, type := 3, pos := "ref.go:133", after := #[{ on := 1, ground := Ground.data }], guard := none }) rfl (fun KK hK => ?_) AllReadyH.nil)
      · go_simp
        go_at_call 76
        with_reducible refine (sr_intT _ ((S.drop 2).take 8) (by first | rfl | simp) p HP.out HP8.out hs).mono ?_
        rintro e wq ⟨rfl, hs⟩
        refine hK.out _ _ (trivial) (fun hHeld => ?_)
        clear hK KK
        try simp only [Act.put, List.setIfInBounds_toArray, List.set_cons_zero, List.set_cons_succ]
        refine wpAnyH_ready (rs := [5]) (by kernel_rfl) (by simp) (AllReadyH.cons (o := { dst := some 30, op := Op.call { callee := Callee.value (Operand.func 76), args := #[Operand.tmp 29], argTypes := #[9] }, type := 3, pos := "ref.go:133", after := #[{ on := 4, ground := Ground.data }, { on := 2, ground := Ground.chain }], guard := none }) rfl (fun KK hK => ?_) AllReadyH.nil)
        · go_simp
          go_at_call 76
          with_reducible refine (sr_intT _ ((S.drop 10).take 2) (by first | rfl | simp) e HE.out HE8.out hs).mono ?_
          rintro e wq ⟨rfl, hs⟩
          refine hK.out _ _ (trivial) (fun hHeld => ?_)
          clear hK KK
          try simp only [Act.put, List.setIfInBounds_toArray, List.set_cons_zero, List.set_cons_succ]
          refine wpAnyH_ready (rs := [8]) (by kernel_rfl) (by simp) (AllReadyH.cons (o := { dst := some 33, op := Op.call { callee := Callee.value (Operand.func 76), args := #[Operand.tmp 32], argTypes := #[9] }, type := 3, pos := "ref.go:133", after := #[{ on := 7, ground := Ground.data }, { on := 5, ground := Ground.chain }], guard := none }) rfl (fun KK hK => ?_) AllReadyH.nil)
          · go_simp
            go_at_call 76
            with_reducible refine (sr_intT _ ((S.drop 12).take 4) (by first | rfl | simp) t HT.out HT8.out hs).mono ?_
            rintro e wq ⟨rfl, hs⟩
            refine hK.out _ _ (trivial) (fun hHeld => ?_)
            clear hK KK
            try simp only [Act.put, List.setIfInBounds_toArray, List.set_cons_zero, List.set_cons_succ]
            refine wpAnyH_ready (rs := [11]) (by kernel_rfl) (by simp) (AllReadyH.cons (o := { dst := some 36, op := Op.call { callee := Callee.value (Operand.func 76), args := #[Operand.tmp 35], argTypes := #[9] }, type := 3, pos := "ref.go:133", after := #[{ on := 10, ground := Ground.data }, { on := 8, ground := Ground.chain }], guard := none }) rfl (fun KK hK => ?_) AllReadyH.nil)
            · go_simp
              go_at_call 76
              with_reducible refine (sr_intT _ ((S.drop 16).take 1) (by first | rfl | simp) u HU.out HU8.out hs).mono ?_
              rintro e wq ⟨rfl, hs⟩
              refine hK.out _ _ (trivial) (fun hHeld => ?_)
              clear hK KK
              try simp only [Act.put, List.setIfInBounds_toArray, List.set_cons_zero, List.set_cons_succ]
              refine wpAnyH_take (i := 12) (oi := { dst := some 37, op := Op.build 24 #[(0, Operand.tmp 27), (1, Operand.tmp 30), (2, Operand.tmp 33), (3, Operand.tmp 36)], type := 24, pos := "ref.go:133", after := #[{ on := 2, ground := Ground.data }, { on := 5, ground := Ground.data }, { on := 8, ground := Ground.data }, { on := 11, ground := Ground.data }], guard := none }) (v := ?_) rfl (by kernel_rfl) (by kernel_rfl) (by kernel_rfl) (fun _ _ _ h => h) (Or.inl ⟨by rfl, ?_⟩) (by assumption) ?_
              rotate_left
              · intro w hSw; (try dsimp only at hSw); go_simp; try with_reducible rfl
              simp only [Act.put, List.setIfInBounds_toArray, List.set_cons_zero, List.set_cons_succ]
              refine wpAnyH_ready (rs := [14]) (by kernel_rfl) (by simp) (AllReadyH.cons (o := { dst := none, op := Op.store 24 (Operand.tmp 5) (Operand.tmp 37), type := 0, pos := "ref.go:133", after := #[{ on := 13, ground := Ground.data }, { on := 12, ground := Ground.data }, { on := 11, ground := Ground.chain }, { on := 0, ground := Ground.phase }, { on := 1, ground := Ground.phase }, { on := 2, ground := Ground.phase }, { on := 3, ground := Ground.phase }, { on := 4, ground := Ground.phase }, { on := 5, ground := Ground.phase }, { on := 6, ground := Ground.phase }, { on := 7, ground := Ground.phase }, { on := 8, ground := Ground.phase }, { on := 9, ground := Ground.phase }, { on := 10, ground := Ground.phase }, { on := 11, ground := Ground.phase }, { on := 12, ground := Ground.phase }, { on := 13, ground := Ground.phase }], guard := none }) rfl (fun KK hK => ?_) AllReadyH.nil)
              · rw [if_pos (by rfl)]
                refine wp_store_mid 24 (.tmp 5) (.tmp 37) rfl vb 0 #[.int .i64 p, .int .i64 e, .int .i64 t, .int .i64 u, .slice none 0 0, .int .i64 0, .int .i64 0] (by rfl) (by rfl) hs.there (by kernel_rfl) (by simp [Value.oneCell']) ?_
                obtain ⟨wz, ez, hs⟩ := hs.storeEx #[.int .i64 p, .int .i64 e, .int .i64 t, .int .i64 u, .slice none 0 0, .int .i64 0, .int .i64 0]
                rw [ez]
                clear ez
                refine hK.out _ _ (trivial) (fun hHeld => ?_)
                clear hK KK
                try simp only [Act.put, List.setIfInBounds_toArray, List.set_cons_zero, List.set_cons_succ]
                refine wpAnyH_done (by kernel_rfl) ?_ _
                clear hHeld
                rw [setAll_allV] at hs
                rotate_left
                · rfl
                go_wp2_with fail
                go_meet
                exact ⟨vb, rfl, hs⟩
  obtain ⟨vb, rfl, h⟩ := hcut
  clear c0 d0 r0 c1 d1 r1 c2 d2 r2 c3 d3 r3 c4 d4 r4 c5 d5 r5 c6 d6 r6
  have H := Lib.hid h
  clear h
  have c0 := H.out.p1.rawCell 0; have c1 := H.out.p1.rawCell 1; have c2 := H.out.p1.rawCell 2; have c3 := H.out.p1.rawCell 3; have c4 := H.out.p1.rawCell 4; have c5 := H.out.p1.rawCell 5; have c6 := H.out.p1.rawCell 6; simp at c0 c1 c2 c3 c4 c5 c6; have d0 := H.out.p2.rawCell 0; have r0 := H.out.p2.rawFree 0; have d1 := H.out.p2.rawCell 1; have r1 := H.out.p2.rawFree 1; have d2 := H.out.p2.rawCell 2; have r2 := H.out.p2.rawFree 2; have d3 := H.out.p2.rawCell 3; have r3 := H.out.p2.rawFree 3; have d4 := H.out.p2.rawCell 4; have r4 := H.out.p2.rawFree 4; have d5 := H.out.p2.rawCell 5; have r5 := H.out.p2.rawFree 5; have d6 := H.out.p2.rawCell 6; have r6 := H.out.p2.rawFree 6; simp at d0 d1 d2 d3 d4 d5 d6
  go_upto_region 13 with (go_at_call 26; clear HA; (with_reducible refine (ref14_readTopicsT _ (S.drop 17) HTE.out HX.out l m 0 HR.out H.out).mono ?_); rintro e_ wn ⟨v_, lr, rfl, hlr, h⟩; obtain ⟨q, cap, rfl⟩ := tops_form (Know.has_right (Know.has_refl _)) h; have HLR := Lib.hid hlr; clear hlr; clear c0 d0 r0 c1 d1 r1 c2 d2 r2 c3 d3 r3 c4 d4 r4 c5 d5 r5 c6 d6 r6; have c0 := h.p1.rawCell 0; have c1 := h.p1.rawCell 1; have c2 := h.p1.rawCell 2; have c3 := h.p1.rawCell 3; have c4 := h.p1.rawCell 4; have c5 := h.p1.rawCell 5; have c6 := h.p1.rawCell 6; simp at c0 c1 c2 c3 c4 c5 c6; have d0 := h.p2.rawCell 0; have r0 := h.p2.rawFree 0; have d1 := h.p2.rawCell 1; have r1 := h.p2.rawFree 1; have d2 := h.p2.rawCell 2; have r2 := h.p2.rawFree 2; have d3 := h.p2.rawCell 3; have r3 := h.p2.rawFree 3; have d4 := h.p2.rawCell 4; have r4 := h.p2.rawFree 4; have d5 := h.p2.rawCell 5; have r5 := h.p2.rawFree 5; have d6 := h.p2.rawCell 6; have r6 := h.p2.rawFree 6; simp at d0 d1 d2 d3 d4 d5 d6; replace H := Lib.hid h; clear h)
  try rw [HRR.out]
  go_wp2_with fail
  have hz : St W0 _ _ (.raw rb #[.int .i64 0, .int .i64 0, .int .i64 0, .int .i64 0, .slice none 0 0, .int .i64 0, .int .i64 0] 24 :: _) := St.sets7 _ _ _ _ _ _ _ (H.out.p2)
  refine bodyPost_ret (rc_cell_tmp rfl _ _ rb [.int .i64 0, .int .i64 0, .int .i64 0, .int .i64 0, .slice none 0 0, .int .i64 0, .int .i64 0] _ rfl (rc_range hz) Try.underlying24 rfl (by kernel_rfl)) rfl ?_
  exact ⟨rfl, (hz.drop.drop.drop).know (Know.has_left (Know.has_refl _))⟩

end Go.Proofs.Ytombolmicfjjpaa

/- Values, there and back (pure). -/
namespace Go.Proofs.Ytombolmicfjjpaa
open Go.RowKit

theorem sInt_back (n : Int) (k : Nat) (h1 : 1 ≤ k) (hf : fits n k) (R : Bs) : getIntN k (beBytes n k ++ R) = .ok (n, k) := by
  unfold getIntN
  have h4 := beBytes_length n k
  have hfit := hf.2.2
  rw [Int.toNat_natCast] at hfit
  have h5 := (sInt_beBytes_iff n k h1).2 hfit
  rw [if_neg (by rw [List.length_append]; omega), List.take_append_of_le_length (by omega), List.take_of_length_le (by omega), h5]
theorem cntP_back (each n : Nat) (X : Bs) (he : 0 < each) (hn : n < 2147483648) (hl : each * n ≤ X.length) : cntP each (beBytes n 4 ++ X) = .ok (n, 4) := by
  have h4 := beBytes_length (n : Int) 4
  have h5 : sInt (beBytes (n : Int) 4) = n := (sInt_beBytes_iff n 4 (by decide)).2 (vfits4 n (by omega)).2.2
  have h6 : (beBytes (n : Int) 4 ++ X).take 4 = beBytes (n : Int) 4 := by rw [List.take_append_of_le_length (by omega), List.take_of_length_le (by omega)]
  unfold cntP
  rw [h6, h5, if_neg (by rw [List.length_append]; omega), if_neg (by omega), if_neg (by
    rw [List.length_append, h4]
    have e : ((4 + X.length : Nat) : Int) - 4 = (X.length : Int) := by omega
    rw [e]
    have h7 : (n : Int) ≤ (X.length : Int) / (each : Int) := by
      rw [Int.le_ediv_iff_mul_le (by omega)]
      have h8 : (n : Int) * (each : Int) = ((each * n : Nat) : Int) := by rw [Nat.mul_comm]; exact (Int.natCast_mul _ _).symm
      omega
    omega)]
  simp
theorem intsB_back : ∀ (l : List Int) (R : Bs), (∀ n ∈ l, -2147483648 ≤ n ∧ n < 2147483648) → intsB l.length (be4s l ++ R) = l
  | [], R, _ => rfl
  | n :: l, R, h => by
    have h4 := beBytes_length n 4
    have h5 : sInt (beBytes n 4) = n := (sInt_beBytes_iff n 4 (by decide)).2 (vfits4 n (h n (by simp))).2.2
    have e : be4s (n :: l) ++ R = beBytes n 4 ++ (be4s l ++ R) := by
      show (List.flatMap _ (n :: l)) ++ R = _
      rw [List.flatMap_cons, List.append_assoc]
      rfl
    show sInt ((be4s (n :: l) ++ R).take 4) :: intsB l.length ((be4s (n :: l) ++ R).drop 4) = n :: l
    rw [e, List.take_append_of_le_length (by omega), List.take_of_length_le (by omega), h5, List.drop_append_of_le_length (by omega), List.drop_of_length_le (by omega), List.nil_append, intsB_back l R (fun m hm => h m (by simp [hm]))]
theorem partsP_back (l : List Int) (hn : l.length ≤ 1000000) (h : ∀ n ∈ l, -2147483648 ≤ n ∧ n < 2147483648) (R : Bs) : partsP (beBytes l.length 4 ++ be4s l ++ R) = .ok (l, (beBytes l.length 4 ++ be4s l).length) := by
  unfold partsP
  rw [List.append_assoc, cntP_back 4 l.length _ (by decide) (by omega) (by rw [List.length_append, be4s_len]; omega)]
  simp only
  have h4 := beBytes_length (l.length : Int) 4
  rw [List.drop_append_of_le_length (by omega), List.drop_of_length_le (by omega), List.nil_append, intsB_back l R h, List.length_append, h4, be4s_len]
theorem textP_back (d : Bs) (hd : d.length ≤ 32767) (R : Bs) : textP (encF 2 ⟨false, d⟩ ++ R) = .ok (d, (encF 2 ⟨false, d⟩).length) := by
  unfold textP
  rw [refixed_back 2 ⟨false, d⟩ (by simp [BlobS.right]) (vfits2 _ (by simp [BlobS.len]; omega)) R]
  simp
theorem topP_back (t : TopS) (h : t.Fit) (R : Bs) : topP (encT t ++ R) = .ok (t, (encT t).length) := by
  obtain ⟨nm, ps⟩ := t
  obtain ⟨h1, h2, h3⟩ := h
  unfold topP encT
  simp only
  rw [List.append_assoc, textP_back nm h1]
  simp only
  rw [List.drop_append_of_le_length (by omega), List.drop_of_length_le (by omega), List.nil_append, partsP_back ps h2 h3]
  simp only [List.length_append]
theorem topN_back : ∀ (l : List TopS) (R : Bs), (∀ t ∈ l, t.Fit) → topN l.length (l.flatMap encT ++ R) = .ok (l, (l.flatMap encT).length)
  | [], R, _ => rfl
  | t :: l, R, h => by
    have e : (t :: l).flatMap encT ++ R = encT t ++ (l.flatMap encT ++ R) := by rw [List.flatMap_cons, List.append_assoc]
    rw [e]
    show topN (l.length + 1) (encT t ++ (l.flatMap encT ++ R)) = _
    unfold topN
    rw [topP_back t (h t (by simp))]
    simp only
    rw [List.drop_append_of_le_length (by omega), List.drop_of_length_le (by omega), List.nil_append, topN_back l R (fun m hm => h m (by simp [hm]))]
    simp only [List.flatMap_cons, List.length_append]
theorem flat_least (l : List TopS) : 6 * l.length ≤ (l.flatMap encT).length := by
  induction l with
  | nil => simp
  | cons x m ih => rw [List.flatMap_cons, List.length_append, List.length_cons, encT_len]; omega
theorem topsP_back (l : List TopS) (h : FitTs l) (R : Bs) : topsP (encTs l ++ R) = .ok (l, (encTs l).length) := by
  have h4 := beBytes_length (l.length : Int) 4
  have hn := h.1
  have hl := flat_least l
  unfold topsP encTs
  rw [List.append_assoc, cntP_back 6 l.length _ (by decide) (by omega) (by rw [List.length_append]; omega)]
  simp only
  rw [List.drop_append_of_le_length (by omega), List.drop_of_length_le (by omega), List.nil_append, topN_back l R h.2]
  simp only [List.length_append, h4]
theorem step_back {α : Type} {f : InS → α × InS} {p : Bs → Except Int (α × Nat)} {d : α} (h : Rds f p d) (S A X R : Bs) (hS : S = A ++ X ++ R) (a : α) (k : Nat) (hk : X.length = k) (hp : p (X ++ R) = .ok (a, k)) : f ⟨S, A.length, 0⟩ = (a, ⟨S, (A ++ X).length, 0⟩) := by
  subst hS
  have h2 := (h.ok (A ++ X ++ R) A.length a k (by simp) (by rw [List.append_assoc, List.drop_append_of_le_length (by omega), List.drop_of_length_le (by omega), List.nil_append]; exact hp)).2
  rw [h2, List.length_append, hk]
theorem int_stepV (S A R : Bs) (n : Int) (k : Nat) (h1 : 1 ≤ k) (h8 : k ≤ 8) (hf : fits n k) (hS : S = A ++ beBytes n k ++ R) : (⟨S, A.length, 0⟩ : InS).int k = (n, ⟨S, (A ++ beBytes n k).length, 0⟩) :=
  step_back (rds_intN k h1 h8) S A _ R hS n k (beBytes_length n k) (sInt_back n k h1 hf R)
theorem valDec_back (v : ValS) (he : v.err = 0) (hR : v.R) (hf : FitTs v.tops) : valDec v.enc = (v, 0) := by
  obtain ⟨hp, ⟨hs1, hs2⟩, _⟩ := v.ok_parts he
  obtain ⟨q1, ⟨q2, q3⟩, ⟨q4, q5⟩, q6, q7⟩ := ranged_parts v hp
  obtain ⟨r1, r2, r3, r4, r5, r6⟩ := hR
  obtain ⟨S, hS⟩ : ∃ S, v.enc = S := ⟨_, rfl⟩
  obtain ⟨X0, hX0⟩ : ∃ X, beBytes 0 2 = X := ⟨_, rfl⟩
  obtain ⟨X1, hX1⟩ : ∃ X, beBytes v.prod 8 = X := ⟨_, rfl⟩
  obtain ⟨X2, hX2⟩ : ∃ X, beBytes v.epoch 2 = X := ⟨_, rfl⟩
  obtain ⟨X3, hX3⟩ : ∃ X, beBytes v.timeout 4 = X := ⟨_, rfl⟩
  obtain ⟨X4, hX4⟩ : ∃ X, beBytes v.state 1 = X := ⟨_, rfl⟩
  obtain ⟨X5, hX5⟩ : ∃ X, encTs v.tops = X := ⟨_, rfl⟩
  obtain ⟨X6, hX6⟩ : ∃ X, beBytes v.upd 8 = X := ⟨_, rfl⟩
  obtain ⟨X7, hX7⟩ : ∃ X, beBytes v.started 8 = X := ⟨_, rfl⟩
  obtain ⟨A2, hA2⟩ : ∃ A, X0 ++ X1 = A := ⟨_, rfl⟩
  obtain ⟨A3, hA3⟩ : ∃ A, A2 ++ X2 = A := ⟨_, rfl⟩
  obtain ⟨A4, hA4⟩ : ∃ A, A3 ++ X3 = A := ⟨_, rfl⟩
  obtain ⟨A5, hA5⟩ : ∃ A, A4 ++ X4 = A := ⟨_, rfl⟩
  obtain ⟨A6, hA6⟩ : ∃ A, A5 ++ X5 = A := ⟨_, rfl⟩
  obtain ⟨A7, hA7⟩ : ∃ A, A6 ++ X6 = A := ⟨_, rfl⟩
  obtain ⟨A8, hA8⟩ : ∃ A, A7 ++ X7 = A := ⟨_, rfl⟩
  have hSA : S = A8 := by rw [← hS, ← hA8, ← hA7, ← hA6, ← hA5, ← hA4, ← hA3, ← hA2, ← hX0, ← hX1, ← hX2, ← hX3, ← hX4, ← hX5, ← hX6, ← hX7]; rfl
  have e0 : S = ([] : Bs) ++ X0 ++ (X1 ++ (X2 ++ (X3 ++ (X4 ++ (X5 ++ (X6 ++ (X7))))))) := by rw [hSA, ← hA8, ← hA7, ← hA6, ← hA5, ← hA4, ← hA3, ← hA2]; all_goals simp only [List.append_assoc, List.append_nil, List.nil_append]
  have s0 : (⟨S, ([] : Bs).length, 0⟩ : InS).int 2 = (0, ⟨S, (([] : Bs) ++ X0).length, 0⟩) := by
    rw [← hX0] at e0 ⊢
    exact int_stepV S _ _ _ 2 (by decide) (by decide) (vfits2 _ (by omega)) e0
  have e1 : S = X0 ++ X1 ++ (X2 ++ (X3 ++ (X4 ++ (X5 ++ (X6 ++ (X7)))))) := by rw [hSA, ← hA8, ← hA7, ← hA6, ← hA5, ← hA4, ← hA3, ← hA2]; all_goals simp only [List.append_assoc, List.append_nil, List.nil_append]
  have s1 : (⟨S, X0.length, 0⟩ : InS).int 8 = (v.prod, ⟨S, (X0 ++ X1).length, 0⟩) := by
    rw [← hX1] at e1 ⊢
    exact int_stepV S _ _ _ 8 (by decide) (by decide) (vfits8 _ (by omega)) e1
  rw [hA2] at s1
  have e2 : S = A2 ++ X2 ++ (X3 ++ (X4 ++ (X5 ++ (X6 ++ (X7))))) := by rw [hSA, ← hA8, ← hA7, ← hA6, ← hA5, ← hA4, ← hA3, ← hA2]; all_goals simp only [List.append_assoc, List.append_nil, List.nil_append]
  have s2 : (⟨S, A2.length, 0⟩ : InS).int 2 = (v.epoch, ⟨S, (A2 ++ X2).length, 0⟩) := by
    rw [← hX2] at e2 ⊢
    exact int_stepV S _ _ _ 2 (by decide) (by decide) (vfits2 _ (by omega)) e2
  rw [hA3] at s2
  have e3 : S = A3 ++ X3 ++ (X4 ++ (X5 ++ (X6 ++ (X7)))) := by rw [hSA, ← hA8, ← hA7, ← hA6, ← hA5, ← hA4, ← hA3, ← hA2]; all_goals simp only [List.append_assoc, List.append_nil, List.nil_append]
  have s3 : (⟨S, A3.length, 0⟩ : InS).int 4 = (v.timeout, ⟨S, (A3 ++ X3).length, 0⟩) := by
    rw [← hX3] at e3 ⊢
    exact int_stepV S _ _ _ 4 (by decide) (by decide) (vfits4 _ (by omega)) e3
  rw [hA4] at s3
  have e4 : S = A4 ++ X4 ++ (X5 ++ (X6 ++ (X7))) := by rw [hSA, ← hA8, ← hA7, ← hA6, ← hA5, ← hA4, ← hA3, ← hA2]; all_goals simp only [List.append_assoc, List.append_nil, List.nil_append]
  have s4 : (⟨S, A4.length, 0⟩ : InS).int 1 = (v.state, ⟨S, (A4 ++ X4).length, 0⟩) := by
    rw [← hX4] at e4 ⊢
    exact int_stepV S _ _ _ 1 (by decide) (by decide) (vfits1 _ (by omega)) e4
  rw [hA5] at s4
  have e5 : S = A5 ++ X5 ++ (X6 ++ (X7)) := by rw [hSA, ← hA8, ← hA7, ← hA6, ← hA5, ← hA4, ← hA3, ← hA2]; all_goals simp only [List.append_assoc, List.append_nil, List.nil_append]
  have s5 : (⟨S, A5.length, 0⟩ : InS).tops = (v.tops, ⟨S, (A5 ++ X5).length, 0⟩) := by
    rw [← hX5] at e5 ⊢
    exact step_back rds_tops S _ _ _ e5 _ _ rfl (topsP_back _ hf _)
  rw [hA6] at s5
  have e6 : S = A6 ++ X6 ++ (X7) := by rw [hSA, ← hA8, ← hA7, ← hA6, ← hA5, ← hA4, ← hA3, ← hA2]; all_goals simp only [List.append_assoc, List.append_nil, List.nil_append]
  have s6 : (⟨S, A6.length, 0⟩ : InS).int 8 = (v.upd, ⟨S, (A6 ++ X6).length, 0⟩) := by
    rw [← hX6] at e6 ⊢
    exact int_stepV S _ _ _ 8 (by decide) (by decide) (vfits8 _ (by omega)) e6
  rw [hA7] at s6
  have e7 : S = A7 ++ X7 ++ ([]) := by rw [hSA, ← hA8, ← hA7, ← hA6, ← hA5, ← hA4, ← hA3, ← hA2]; all_goals simp only [List.append_assoc, List.append_nil, List.nil_append]
  have s7 : (⟨S, A7.length, 0⟩ : InS).int 8 = (v.started, ⟨S, (A7 ++ X7).length, 0⟩) := by
    rw [← hX7] at e7 ⊢
    exact int_stepV S _ _ _ 8 (by decide) (by decide) (vfits8 _ (by omega)) e7
  rw [hA8] at s7
  rw [List.nil_append] at s0
  have s0 : (⟨S, 0, 0⟩ : InS).int 2 = (0, ⟨S, X0.length, 0⟩) := s0
  have hI : decI S = ⟨S, X0.length, 0⟩ := by unfold decI; rw [s0]; rfl
  have hV := valF_eq s1 s2 s3 s4 s5 s6 s7
  have hL : (⟨S, A8.length, 0⟩ : InS).left = 0 := by
    subst hSA
    exact Nat.sub_self _
  have hC : (⟨S, A8.length, 0⟩ : InS).close = ⟨S, A8.length, 0⟩ := by unfold InS.close; rw [hL]; rfl
  have hE : decE S = 0 := by unfold decE; rw [hI, hV, hC]
  rw [hS]
  unfold valDec
  rw [hE, hI, hV]
  show (if (v.err ≠ 0) then _ else _) = _
  rw [he]
  rfl

end Go.Proofs.Ytombolmicfjjpaa

/- How many topics are looked at (pure). -/
namespace Go.Proofs.Ytombolmicfjjpaa
open Go.RowKit

/-- How much of a topic is looked at. -/
def topW (t : TopS) : Nat := t.name.length + 4 * t.parts.length + 6
def topWs (l : List TopS) : Nat := (l.map topW).sum
theorem topWs_take (l : List TopS) (k : Nat) (hk : k < l.length) (t : TopS) (ht : l[k] = t) : topWs (l.take (k + 1)) = topWs (l.take k) + topW t := by
  unfold topWs
  rw [List.take_succ_eq_append_getElem hk, List.map_append, List.sum_append, ht]
  simp
theorem topWs_le (l : List TopS) (k : Nat) : topWs (l.take k) ≤ topWs l := by
  have h : topWs l = topWs (l.take k) + topWs (l.drop k) := by
    unfold topWs
    rw [← List.sum_append, ← List.map_append, List.take_append_drop]
  omega
theorem topWs_len (l : List TopS) : 6 * l.length ≤ topWs l := by
  unfold topWs
  induction l with
  | nil => simp
  | cons x t ih => rw [List.map_cons, List.sum_cons, List.length_cons]; unfold topW at ih ⊢; omega
theorem topWs_mem (l : List TopS) (t : TopS) (h : t ∈ l) : topW t ≤ topWs l := by
  unfold topWs
  induction l with
  | nil => cases h
  | cons x m ih =>
    rw [List.map_cons, List.sum_cons]
    rcases List.mem_cons.1 h with rfl | h
    · omega
    · have := ih h; omega
def few (l : List TopS) : Int := if topWs l ≤ 1000 then 1 else 0
theorem few_one {l : List TopS} (h : few l = 1) : topWs l ≤ 1000 := by
  unfold few at h
  by_cases hh : topWs l ≤ 1000
  · exact hh
  · rw [if_neg hh] at h; cases h
theorem few_T {l : List (TopS × Value)} (h : topWs (l.map (·.1)) ≤ 1000) : FewT l := by
  have h1 := topWs_len (l.map (·.1))
  rw [List.length_map] at h1
  refine ⟨by omega, fun x hx => ?_⟩
  have h2 := topWs_mem (l.map (·.1)) x.1 (List.mem_map_of_mem hx)
  unfold topW at h2
  exact ⟨by omega, by omega⟩

end Go.Proofs.Ytombolmicfjjpaa
