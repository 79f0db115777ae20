/- Values, read by definition: any bytes. -/
import Derived.Test.YtombolmicfjjpaaGValueDecodes6
import Derived.Test.YtombolmicfjjpaaGValueDecodes8
import Derived.Test.YtombolmicfjjpaaGValueDecodes7
/- Values, read by definition: that may not be. -/
namespace Go.Proofs.Ytombolmicfjjpaa
open Go.RowKit

set_option maxHeartbeats 6000000 in
set_option maxRecDepth 100000 in
theorem rd_7 (S : Bs) (hsl : S.length ≤ 1000000) (ha : sInt (S.take 2) = 0) (hl17 : 17 ≤ S.length) (p e t u : Int) (hp : sInt ((S.drop 2).take 8) = p) (he : sInt ((S.drop 10).take 2) = e) (ht : sInt ((S.drop 12).take 4) = t) (hu : sInt ((S.drop 16).take 1) = u) (l : List TopS) (m : Nat) (hr : topsR (S.drop 17) = (l, m, 0)) (hm : 17 + m ≤ S.length) (R : Bs) (hR : S.drop (17 + m) = R) (hrl : R.length = 16) (x y : Int) (hx : sInt (R.take 8) = x) (hy : sInt (R.drop 8) = y) (E : Int) (hve : ValS.err ⟨p, e, t, u, l, x, y⟩ = E) (h0 : E ≠ 0) {W0 w : World} {K : Know} {L : List Res} (h : St W0 w K L) :
    Calls Try.prog 23 #[.string (bb S)] w fun en w' => en = .returned (.tuple #[.agg #[.int .i64 0, .int .i64 0, .int .i64 0, .int .i64 0, .slice none 0 0, .int .i64 0, .int .i64 0], .int .i64 E]) ∧ St W0 w' K L := by
  obtain ⟨rb, hrb⟩ : ∃ b, w.heap.size = b := ⟨_, rfl⟩
  obtain ⟨nb, hnb⟩ : ∃ b, rb + 1 = b := ⟨_, rfl⟩
  have g1 := (h.allocRaw #[.int .i64 0, .int .i64 0, .int .i64 0, .int .i64 0, .slice none 0 0, .int .i64 0, .int .i64 0] 24).allocRaw #[.int .i64 0, .int .i64 0, .int .i64 0, .int .i64 0, .slice none 0 0, .int .i64 0, .int .i64 0] 24
  simp only [World.size_alloc, hrb, hnb] at g1
  have H := Lib.hid g1
  have HSL := Lib.hid hsl
  have c0 := g1.rawCell 0; have c1 := g1.rawCell 1; have c2 := g1.rawCell 2; have c3 := g1.rawCell 3; have c4 := g1.rawCell 4; have c5 := g1.rawCell 5; have c6 := g1.rawCell 6; simp at c0 c1 c2 c3 c4 c5 c6
  have d0 := g1.p1.rawCell 0; have r0 := g1.p1.rawFree 0; have d1 := g1.p1.rawCell 1; have r1 := g1.p1.rawFree 1; have d2 := g1.p1.rawCell 2; have r2 := g1.p1.rawFree 2; have d3 := g1.p1.rawCell 3; have r3 := g1.p1.rawFree 3; have d4 := g1.p1.rawCell 4; have r4 := g1.p1.rawFree 4; have d5 := g1.p1.rawCell 5; have r5 := g1.p1.rawFree 5; have d6 := g1.p1.rawCell 6; have r6 := g1.p1.rawFree 6; simp at d0 d1 d2 d3 d4 d5 d6
  have hl2 : ¬ (S.length : Int) < 2 := by omega
  have hl3 : 2 ≤ (S.length : Int) := by omega
  have hl4 : ¬ (S.length : Int) < 17 := by omega
  have hl5 : 10 ≤ (S.length : Int) := by omega
  have hl6 : 12 ≤ (S.length : Int) := by omega
  have hl7 : 16 ≤ (S.length : Int) := by omega
  have hl8 : 17 ≤ (S.length : Int) := by omega
  have HA := Lib.hid ha
  have H8 := Lib.hid (show (S.take 2).length ≤ 8 by rw [List.length_take]; omega)
  have HP := Lib.hid hp
  have HP8 := Lib.hid (show ((S.drop 2).take 8).length ≤ 8 by rw [List.length_take]; omega)
  have HE := Lib.hid he
  have HE8 := Lib.hid (show ((S.drop 10).take 2).length ≤ 8 by rw [List.length_take]; omega)
  have HT := Lib.hid ht
  have HT8 := Lib.hid (show ((S.drop 12).take 4).length ≤ 8 by rw [List.length_take]; omega)
  have HU := Lib.hid hu
  have HU8 := Lib.hid (show ((S.drop 16).take 1).length ≤ 8 by rw [List.length_take]; omega)
  have HTE := Lib.hid (takeEnd S 17)
  have HX := Lib.hid (show (S.drop 17).length ≤ 1000000 by rw [List.length_drop]; omega)
  have HR := Lib.hid hr
  have HRR := Lib.hid ((takeEnd S (17 + m)).trans hR)
  have hmi : 17 + (m : Int) ≤ (S.length : Int) := by omega
  have hmz : (m : Int) ≤ 1000000 := by omega
  have hw : IntKind.i64.wrap (17 + (m : Int)) = 17 + (m : Int) := by rw [IntKind.wrap_i64]; omega
  have hri : (R.length : Int) = 16 := by omega
  have hrj : ¬ (R.length : Int) < 16 := by omega
  have hrk : ¬ (16 : Int) < (R.length : Int) := by omega
  have hrm : 8 ≤ (R.length : Int) := by omega
  have HTE8 := Lib.hid (takeEnd R 8)
  have HX1 := Lib.hid hx
  have HX18 := Lib.hid (show (R.take 8).length ≤ 8 by rw [List.length_take]; omega)
  have HX2 := Lib.hid hy
  have HX28 := Lib.hid (show (R.drop 8).length ≤ 8 by rw [List.length_drop]; omega)
  have HFL := Lib.hid (show FewL l from topsP_few (topsR_ok hr) (by rw [List.length_drop]; omega))
  have HVE := Lib.hid hve
  have g1 : (E == 0) = false := by rw [beq_eq_false_iff_ne]; exact h0
  have g2 : (E != 0) = true := by simp [bne, g1]
  clear h g1 hsl ha hl17 hp he ht hu hr hm hR hrl hx hy hve hri h0
  go_enter Try.func23, Try.ntmps23
  go_upto_region 8 with (go_at_call 76; clear c0 d0 r0 c1 d1 r1 c2 d2 r2 c3 d3 r3 c4 d4 r4 c5 d5 r5 c6 d6 r6; (with_reducible refine (sr_intT _ (S.take 2) (by first | rfl | simp) 0 HA.out H8.out H.out).mono ?_); rintro e_ wn ⟨rfl, h⟩; have c0 := h.rawCell 0; have c1 := h.rawCell 1; have c2 := h.rawCell 2; have c3 := h.rawCell 3; have c4 := h.rawCell 4; have c5 := h.rawCell 5; have c6 := h.rawCell 6; simp at c0 c1 c2 c3 c4 c5 c6; have d0 := h.p1.rawCell 0; have r0 := h.p1.rawFree 0; have d1 := h.p1.rawCell 1; have r1 := h.p1.rawFree 1; have d2 := h.p1.rawCell 2; have r2 := h.p1.rawFree 2; have d3 := h.p1.rawCell 3; have r3 := h.p1.rawFree 3; have d4 := h.p1.rawCell 4; have r4 := h.p1.rawFree 4; have d5 := h.p1.rawCell 5; have r5 := h.p1.rawFree 5; have d6 := h.p1.rawCell 6; have r6 := h.p1.rawFree 6; simp at d0 d1 d2 d3 d4 d5 d6; replace H := Lib.hid h; clear h)
  go_cut [5] (fun s5 wx => ∃ vb : Nat, s5 = .pointer (some ⟨vb, 0, none⟩) ∧ St W0 wx K (.raw vb #[.int .i64 p, .int .i64 e, .int .i64 t, .int .i64 u, .slice none 0 0, .int .i64 0, .int .i64 0] 24 :: .raw nb #[.int .i64 0, .int .i64 0, .int .i64 0, .int .i64 0, .slice none 0 0, .int .i64 0, .int .i64 0] 24 :: .raw rb #[.int .i64 0, .int .i64 0, .int .i64 0, .int .i64 0, .slice none 0 0, .int .i64 0, .int .i64 0] 24 :: L))
  case first =>
    clear c0 d0 r0 c1 d1 r1 c2 d2 r2 c3 d3 r3 c4 d4 r4 c5 d5 r5 c6 d6 r6
    have hs := H.out.drew
    refine wp_region_held_drew (S := fun _ => True) (by kernel_rfl) trivial (fun hHeld => ?_)
    refine wpAnyH_take (i := 0) (oi := { dst := some 25, op := Op.move (Operand.tmp 0), type := 9, pos := "ref.go:133", after := #[], guard := none }) (v := ?_) rfl (by kernel_rfl) (by kernel_rfl) (by kernel_rfl) (fun _ _ _ h => h) (Or.inl ⟨by rfl, ?_⟩) (by assumption) ?_
    rotate_left
    · intro w hSw; (try dsimp only at hSw); go_simp; try with_reducible rfl
    simp only [Act.put, List.setIfInBounds_toArray, List.set_cons_zero, List.set_cons_succ]
    refine wpAnyH_take (i := 1) (oi := { dst := some 26, op := Op.slice 9 (Operand.tmp 25) (some (Operand.const (Value.int IntKind.i64 2))) (some (Operand.const (Value.int IntKind.i64 10))) none, type := 9, pos := "ref.go:133", after := #[{ on := 0, ground := Ground.data }], guard := none }) (v := ?_) rfl (by kernel_rfl) (by kernel_rfl) (by kernel_rfl) (fun _ _ _ h => h) (Or.inl ⟨by rfl, ?_⟩) (by assumption) ?_
    rotate_left
    · intro w hSw; (try dsimp only at hSw); go_simp; try with_reducible rfl
    simp only [Act.put, List.setIfInBounds_toArray, List.set_cons_zero, List.set_cons_succ]
    refine wpAnyH_take (i := 3) (oi := { dst := some 28, op := Op.move (Operand.tmp 0), type := 9, pos := "ref.go:133", after := #[], guard := none }) (v := ?_) rfl (by kernel_rfl) (by kernel_rfl) (by kernel_rfl) (fun _ _ _ h => h) (Or.inl ⟨by rfl, ?_⟩) (by assumption) ?_
    rotate_left
    · intro w hSw; (try dsimp only at hSw); go_simp; try with_reducible rfl
    simp only [Act.put, List.setIfInBounds_toArray, List.set_cons_zero, List.set_cons_succ]
    refine wpAnyH_take (i := 4) (oi := { dst := some 29, op := Op.slice 9 (Operand.tmp 28) (some (Operand.const (Value.int IntKind.i64 10))) (some (Operand.const (Value.int IntKind.i64 12))) none, type := 9, pos := "ref.go:133", after := #[{ on := 3, ground := Ground.data }], guard := none }) (v := ?_) rfl (by kernel_rfl) (by kernel_rfl) (by kernel_rfl) (fun _ _ _ h => h) (Or.inl ⟨by rfl, ?_⟩) (by assumption) ?_
    rotate_left
    · intro w hSw; (try dsimp only at hSw); go_simp; try with_reducible rfl
    simp only [Act.put, List.setIfInBounds_toArray, List.set_cons_zero, List.set_cons_succ]
    refine wpAnyH_take (i := 6) (oi := { dst := some 31, op := Op.move (Operand.tmp 0), type := 9, pos := "ref.go:133", after := #[], guard := none }) (v := ?_) rfl (by kernel_rfl) (by kernel_rfl) (by kernel_rfl) (fun _ _ _ h => h) (Or.inl ⟨by rfl, ?_⟩) (by assumption) ?_
    rotate_left
    · intro w hSw; (try dsimp only at hSw); go_simp; try with_reducible rfl
    simp only [Act.put, List.setIfInBounds_toArray, List.set_cons_zero, List.set_cons_succ]
    refine wpAnyH_take (i := 7) (oi := { dst := some 32, op := Op.slice 9 (Operand.tmp 31) (some (Operand.const (Value.int IntKind.i64 12))) (some (Operand.const (Value.int IntKind.i64 16))) none, type := 9, pos := "ref.go:133", after := #[{ on := 6, ground := Ground.data }], guard := none }) (v := ?_) rfl (by kernel_rfl) (by kernel_rfl) (by kernel_rfl) (fun _ _ _ h => h) (Or.inl ⟨by rfl, ?_⟩) (by assumption) ?_
    rotate_left
    · intro w hSw; (try dsimp only at hSw); go_simp; try with_reducible rfl
    simp only [Act.put, List.setIfInBounds_toArray, List.set_cons_zero, List.set_cons_succ]
    refine wpAnyH_take (i := 9) (oi := { dst := some 34, op := Op.move (Operand.tmp 0), type := 9, pos := "ref.go:133", after := #[], guard := none }) (v := ?_) rfl (by kernel_rfl) (by kernel_rfl) (by kernel_rfl) (fun _ _ _ h => h) (Or.inl ⟨by rfl, ?_⟩) (by assumption) ?_
    rotate_left
    · intro w hSw; (try dsimp only at hSw); go_simp; try with_reducible rfl
    simp only [Act.put, List.setIfInBounds_toArray, List.set_cons_zero, List.set_cons_succ]
    refine wpAnyH_take (i := 10) (oi := { dst := some 35, op := Op.slice 9 (Operand.tmp 34) (some (Operand.const (Value.int IntKind.i64 16))) (some (Operand.const (Value.int IntKind.i64 17))) none, type := 9, pos := "ref.go:133", after := #[{ on := 9, ground := Ground.data }], guard := none }) (v := ?_) rfl (by kernel_rfl) (by kernel_rfl) (by kernel_rfl) (fun _ _ _ h => h) (Or.inl ⟨by rfl, ?_⟩) (by assumption) ?_
    rotate_left
    · intro w hSw; (try dsimp only at hSw); go_simp; try with_reducible rfl
    simp only [Act.put, List.setIfInBounds_toArray, List.set_cons_zero, List.set_cons_succ]
    refine wpAnyH_ready (rs := [2, 13]) (by kernel_rfl) (by simp) (AllReadyH.cons (o := { dst := some 27, op := Op.call { callee := Callee.value (Operand.func 76), args := #[Operand.tmp 26], argTypes := #[9] }, type := 3, pos := "ref.go:133", after := #[{ on := 1, ground := Ground.data }], guard := none }) rfl (fun KK hK => ?_) (AllReadyH.cons (o := { dst := some 5, op := Op.alloc 24, type := 0, pos := "ref.go:133", after := #[], guard := none }) rfl (fun KK hK => ?_) AllReadyH.nil))
    · go_simp
      go_at_call 76
      with_reducible refine (sr_intT _ ((S.drop 2).take 8) (by first | rfl | simp) p HP.out HP8.out hs).mono ?_
      rintro e wq ⟨rfl, hs⟩
      refine hK.out _ _ (trivial) (fun hHeld => ?_)
      clear hK KK
      try simp only [Act.put, List.setIfInBounds_toArray, List.set_cons_zero, List.set_cons_succ]
      refine wpAnyH_ready (rs := [5, 13]) (by kernel_rfl) (by simp) (AllReadyH.cons (o := { dst := some 30, op := Op.call { callee := Callee.value (Operand.func 76), args := #[Operand.tmp 29], argTypes := #[9] }, type := 3, pos := "ref.go:133", after := #[{ on := 4, ground := Ground.data }, { on := 2, ground := Ground.chain }], guard := none }) rfl (fun KK hK => ?_) (AllReadyH.cons (o := { dst := some 5, op := Op.alloc 24, type := 0, pos := "ref.go:133", after := #[], guard := none }) rfl (fun KK hK => ?_) AllReadyH.nil))
      · go_simp
        go_at_call 76
        with_reducible refine (sr_intT _ ((S.drop 10).take 2) (by first | rfl | simp) e HE.out HE8.out hs).mono ?_
        rintro e wq ⟨rfl, hs⟩
        refine hK.out _ _ (trivial) (fun hHeld => ?_)
        clear hK KK
        try simp only [Act.put, List.setIfInBounds_toArray, List.set_cons_zero, List.set_cons_succ]
        refine wpAnyH_ready (rs := [8, 13]) (by kernel_rfl) (by simp) (AllReadyH.cons (o := { dst := some 33, op := Op.call { callee := Callee.value (Operand.func 76), args := #[Operand.tmp 32], argTypes := #[9] }, type := 3, pos := "ref.go:133", after := #[{ on := 7, ground := Ground.data }, { on := 5, ground := Ground.chain }], guard := none }) rfl (fun KK hK => ?_) (AllReadyH.cons (o := { dst := some 5, op := Op.alloc 24, type := 0, pos := "ref.go:133", after := #[], guard := none }) rfl (fun KK hK => ?_) AllReadyH.nil))
        · go_simp
          go_at_call 76
          with_reducible refine (sr_intT _ ((S.drop 12).take 4) (by first | rfl | simp) t HT.out HT8.out hs).mono ?_
          rintro e wq ⟨rfl, hs⟩
          refine hK.out _ _ (trivial) (fun hHeld => ?_)
          clear hK KK
          try simp only [Act.put, List.setIfInBounds_toArray, List.set_cons_zero, List.set_cons_succ]
          refine wpAnyH_ready (rs := [11, 13]) (by kernel_rfl) (by simp) (AllReadyH.cons (o := { dst := some 36, op := Op.call { callee := Callee.value (Operand.func 76), args := #[Operand.tmp 35], argTypes := #[9] }, type := 3, pos := "ref.go:133", after := #[{ on := 10, ground := Ground.data }, { on := 8, ground := Ground.chain }], guard := none }) rfl (fun KK hK => ?_) (AllReadyH.cons (o := { dst := some 5, op := Op.alloc 24, type := 0, pos := "ref.go:133", after := #[], guard := none }) rfl (fun KK hK => ?_) AllReadyH.nil))
          · go_simp
            go_at_call 76
            with_reducible refine (sr_intT _ ((S.drop 16).take 1) (by first | rfl | simp) u HU.out HU8.out hs).mono ?_
            rintro e wq ⟨rfl, hs⟩
            refine hK.out _ _ (trivial) (fun hHeld => ?_)
            clear hK KK
            try simp only [Act.put, List.setIfInBounds_toArray, List.set_cons_zero, List.set_cons_succ]
            refine wpAnyH_take (i := 12) (oi := { dst := some 37, op := Op.build 24 #[(0, Operand.tmp 27), (1, Operand.tmp 30), (2, Operand.tmp 33), (3, Operand.tmp 36)], type := 24, pos := "ref.go:133", after := #[{ on := 2, ground := Ground.data }, { on := 5, ground := Ground.data }, { on := 8, ground := Ground.data }, { on := 11, ground := Ground.data }], guard := none }) (v := ?_) rfl (by kernel_rfl) (by kernel_rfl) (by kernel_rfl) (fun _ _ _ h => h) (Or.inl ⟨by rfl, ?_⟩) (by assumption) ?_
            rotate_left
            · intro w hSw; (try dsimp only at hSw); go_simp; try with_reducible rfl
            simp only [Act.put, List.setIfInBounds_toArray, List.set_cons_zero, List.set_cons_succ]
            refine wpAnyH_ready (rs := [13]) (by kernel_rfl) (by simp) (AllReadyH.cons (o := { dst := some 5, op := Op.alloc 24, type := 0, pos := "ref.go:133", after := #[], guard := none }) rfl (fun KK hK => ?_) AllReadyH.nil)
            · obtain ⟨wy, vb, ey, er, hs⟩ := hs.allocEx #[.int .i64 0, .int .i64 0, .int .i64 0, .int .i64 0, .slice none 0 0, .int .i64 0, .int .i64 0] 24
              go_simp
              try rw [ey]
              try rw [er]
              clear ey er
              refine hK.out _ _ (trivial) (fun hHeld => ?_)
              clear hK KK
              try simp only [Act.put, List.setIfInBounds_toArray, List.set_cons_zero, List.set_cons_succ]
              refine wpAnyH_ready (rs := [14]) (by kernel_rfl) (by simp) (AllReadyH.cons (o := { dst := none, op := Op.store 24 (Operand.tmp 5) (Operand.tmp 37), type := 0, pos := "ref.go:133", after := #[{ on := 13, ground := Ground.data }, { on := 12, ground := Ground.data }, { on := 11, ground := Ground.chain }, { on := 0, ground := Ground.phase }, { on := 1, ground := Ground.phase }, { on := 2, ground := Ground.phase }, { on := 3, ground := Ground.phase }, { on := 4, ground := Ground.phase }, { on := 5, ground := Ground.phase }, { on := 6, ground := Ground.phase }, { on := 7, ground := Ground.phase }, { on := 8, ground := Ground.phase }, { on := 9, ground := Ground.phase }, { on := 10, ground := Ground.phase }, { on := 11, ground := Ground.phase }, { on := 12, ground := Ground.phase }, { on := 13, ground := Ground.phase }], guard := none }) rfl (fun KK hK => ?_) AllReadyH.nil)
              · rw [if_pos (by rfl)]
                refine wp_store_mid 24 (.tmp 5) (.tmp 37) rfl vb 0 #[.int .i64 p, .int .i64 e, .int .i64 t, .int .i64 u, .slice none 0 0, .int .i64 0, .int .i64 0] (by rfl) (by rfl) hs.there (by kernel_rfl) (by simp [Value.oneCell']) ?_
                obtain ⟨wz, ez, hs⟩ := hs.storeEx #[.int .i64 p, .int .i64 e, .int .i64 t, .int .i64 u, .slice none 0 0, .int .i64 0, .int .i64 0]
                rw [ez]
                clear ez
                refine hK.out _ _ (trivial) (fun hHeld => ?_)
                clear hK KK
                try simp only [Act.put, List.setIfInBounds_toArray, List.set_cons_zero, List.set_cons_succ]
                refine wpAnyH_done (by kernel_rfl) ?_ _
                clear hHeld
                rw [setAll_allV] at hs
                rotate_left
                · rfl
                go_wp2_with fail
                go_meet
                exact ⟨vb, rfl, hs⟩
          · obtain ⟨wy, vb, ey, er, hs⟩ := hs.allocEx #[.int .i64 0, .int .i64 0, .int .i64 0, .int .i64 0, .slice none 0 0, .int .i64 0, .int .i64 0] 24
            go_simp
            try rw [ey]
            try rw [er]
            clear ey er
            refine hK.out _ _ (trivial) (fun hHeld => ?_)
            clear hK KK
            try simp only [Act.put, List.setIfInBounds_toArray, List.set_cons_zero, List.set_cons_succ]
            refine wpAnyH_ready (rs := [11]) (by kernel_rfl) (by simp) (AllReadyH.cons (o := { dst := some 36, op := Op.call { callee := Callee.value (Operand.func 76), args := #[Operand.tmp 35], argTypes := #[9] }, type := 3, pos := "ref.go:133", after := #[{ on := 10, ground := Ground.data }, { on := 8, ground := Ground.chain }], guard := none }) rfl (fun KK hK => ?_) AllReadyH.nil)
            · go_simp
              go_at_call 76
              with_reducible refine (sr_intT _ ((S.drop 16).take 1) (by first | rfl | simp) u HU.out HU8.out hs).mono ?_
              rintro e wq ⟨rfl, hs⟩
              refine hK.out _ _ (trivial) (fun hHeld => ?_)
              clear hK KK
              try simp only [Act.put, List.setIfInBounds_toArray, List.set_cons_zero, List.set_cons_succ]
              refine wpAnyH_take (i := 12) (oi := { dst := some 37, op := Op.build 24 #[(0, Operand.tmp 27), (1, Operand.tmp 30), (2, Operand.tmp 33), (3, Operand.tmp 36)], type := 24, pos := "ref.go:133", after := #[{ on := 2, ground := Ground.data }, { on := 5, ground := Ground.data }, { on := 8, ground := Ground.data }, { on := 11, ground := Ground.data }], guard := none }) (v := ?_) rfl (by kernel_rfl) (by kernel_rfl) (by kernel_rfl) (fun _ _ _ h => h) (Or.inl ⟨by rfl, ?_⟩) (by assumption) ?_
              rotate_left
              · intro w hSw; (try dsimp only at hSw); go_simp; try with_reducible rfl
              simp only [Act.put, List.setIfInBounds_toArray, List.set_cons_zero, List.set_cons_succ]
              refine wpAnyH_ready (rs := [14]) (by kernel_rfl) (by simp) (AllReadyH.cons (o := { dst := none, op := Op.store 24 (Operand.tmp 5) (Operand.tmp 37), type := 0, pos := "ref.go:133", after := #[{ on := 13, ground := Ground.data }, { on := 12, ground := Ground.data }, { on := 11, ground := Ground.chain }, { on := 0, ground := Ground.phase }, { on := 1, ground := Ground.phase }, { on := 2, ground := Ground.phase }, { on := 3, ground := Ground.phase }, { on := 4, ground := Ground.phase }, { on := 5, ground := Ground.phase }, { on := 6, ground := Ground.phase }, { on := 7, ground := Ground.phase }, { on := 8, ground := Ground.phase }, { on := 9, ground := Ground.phase }, { on := 10, ground := Ground.phase }, { on := 11, ground := Ground.phase }, { on := 12, ground := Ground.phase }, { on := 13, ground := Ground.phase }], guard := none }) rfl (fun KK hK => ?_) AllReadyH.nil)
              · rw [if_pos (by rfl)]
                refine wp_store_mid 24 (.tmp 5) (.tmp 37) rfl vb 0 #[.int .i64 p, .int .i64 e, .int .i64 t, .int .i64 u, .slice none 0 0, .int .i64 0, .int .i64 0] (by rfl) (by rfl) hs.there (by kernel_rfl) (by simp [Value.oneCell']) ?_
                obtain ⟨wz, ez, hs⟩ := hs.storeEx #[.int .i64 p, .int .i64 e, .int .i64 t, .int .i64 u, .slice none 0 0, .int .i64 0, .int .i64 0]
                rw [ez]
                clear ez
                refine hK.out _ _ (trivial) (fun hHeld => ?_)
                clear hK KK
                try simp only [Act.put, List.setIfInBounds_toArray, List.set_cons_zero, List.set_cons_succ]
                refine wpAnyH_done (by kernel_rfl) ?_ _
                clear hHeld
                rw [setAll_allV] at hs
                rotate_left
                · rfl
                go_wp2_with fail
                go_meet
                exact ⟨vb, rfl, hs⟩
        · obtain ⟨wy, vb, ey, er, hs⟩ := hs.allocEx #[.int .i64 0, .int .i64 0, .int .i64 0, .int .i64 0, .slice none 0 0, .int .i64 0, .int .i64 0] 24
          go_simp
          try rw [ey]
          try rw [er]
          clear ey er
          refine hK.out _ _ (trivial) (fun hHeld => ?_)
          clear hK KK
          try simp only [Act.put, List.setIfInBounds_toArray, List.set_cons_zero, List.set_cons_succ]
          refine wpAnyH_ready (rs := [8]) (by kernel_rfl) (by simp) (AllReadyH.cons (o := { dst := some 33, op := Op.call { callee := Callee.value (Operand.func 76), args := #[Operand.tmp 32], argTypes := #[9] }, type := 3, pos := "ref.go:133", after := #[{ on := 7, ground := Ground.data }, { on := 5, ground := Ground.chain }], guard := none }) rfl (fun KK hK => ?_) AllReadyH.nil)
          · go_simp
            go_at_call 76
            with_reducible refine (sr_intT _ ((S.drop 12).take 4) (by first | rfl | simp) t HT.out HT8.out hs).mono ?_
            rintro e wq ⟨rfl, hs⟩
            refine hK.out _ _ (trivial) (fun hHeld => ?_)
            clear hK KK
            try simp only [Act.put, List.setIfInBounds_toArray, List.set_cons_zero, List.set_cons_succ]
            refine wpAnyH_ready (rs := [11]) (by kernel_rfl) (by simp) (AllReadyH.cons (o := { dst := some 36, op := Op.call { callee := Callee.value (Operand.func 76), args := #[Operand.tmp 35], argTypes := #[9] }, type := 3, pos := "ref.go:133", after := #[{ on := 10, ground := Ground.data }, { on := 8, ground := Ground.chain }], guard := none }) rfl (fun KK hK => ?_) AllReadyH.nil)
            · go_simp
              go_at_call 76
              with_reducible refine (sr_intT _ ((S.drop 16).take 1) (by first | rfl | simp) u HU.out HU8.out hs).mono ?_
              rintro e wq ⟨rfl, hs⟩
              refine hK.out _ _ (trivial) (fun hHeld => ?_)
              clear hK KK
              try simp only [Act.put, List.setIfInBounds_toArray, List.set_cons_zero, List.set_cons_succ]
              refine wpAnyH_take (i := 12) (oi := { dst := some 37, op := Op.build 24 #[(0, Operand.tmp 27), (1, Operand.tmp 30), (2, Operand.tmp 33), (3, Operand.tmp 36)], type := 24, pos := "ref.go:133", after := #[{ on := 2, ground := Ground.data }, { on := 5, ground := Ground.data }, { on := 8, ground := Ground.data }, { on := 11, ground := Ground.data }], guard := none }) (v := ?_) rfl (by kernel_rfl) (by kernel_rfl) (by kernel_rfl) (fun _ _ _ h => h) (Or.inl ⟨by rfl, ?_⟩) (by assumption) ?_
              rotate_left
              · intro w hSw; (try dsimp only at hSw); go_simp; try with_reducible rfl
              simp only [Act.put, List.setIfInBounds_toArray, List.set_cons_zero, List.set_cons_succ]
              refine wpAnyH_ready (rs := [14]) (by kernel_rfl) (by simp) (AllReadyH.cons (o := { dst := none, op := Op.store 24 (Operand.tmp 5) (Operand.tmp 37), type := 0, pos := "ref.go:133", after := #[{ on := 13, ground := Ground.data }, { on := 12, ground := Ground.data }, { on := 11, ground := Ground.chain }, { on := 0, ground := Ground.phase }, { on := 1, ground := Ground.phase }, { on := 2, ground := Ground.phase }, { on := 3, ground := Ground.phase }, { on := 4, ground := Ground.phase }, { on := 5, ground := Ground.phase }, { on := 6, ground := Ground.phase }, { on := 7, ground := Ground.phase }, { on := 8, ground := Ground.phase }, { on := 9, ground := Ground.phase }, { on := 10, ground := Ground.phase }, { on := 11, ground := Ground.phase }, { on := 12, ground := Ground.phase }, { on := 13, ground := Ground.phase }], guard := none }) rfl (fun KK hK => ?_) AllReadyH.nil)
              · rw [if_pos (by rfl)]
                refine wp_store_mid 24 (.tmp 5) (.tmp 37) rfl vb 0 #[.int .i64 p, .int .i64 e, .int .i64 t, .int .i64 u, .slice none 0 0, .int .i64 0, .int .i64 0] (by rfl) (by rfl) hs.there (by kernel_rfl) (by simp [Value.oneCell']) ?_
                obtain ⟨wz, ez, hs⟩ := hs.storeEx #[.int .i64 p, .int .i64 e, .int .i64 t, .int .i64 u, .slice none 0 0, .int .i64 0, .int .i64 0]
                rw [ez]
                clear ez
                refine hK.out _ _ (trivial) (fun hHeld => ?_)
                clear hK KK
                try simp only [Act.put, List.setIfInBounds_toArray, List.set_cons_zero, List.set_cons_succ]
                refine wpAnyH_done (by kernel_rfl) ?_ _
                clear hHeld
                rw [setAll_allV] at hs
                rotate_left
                · rfl
                go_wp2_with fail
                go_meet
                exact ⟨vb, rfl, hs⟩
      · obtain ⟨wy, vb, ey, er, hs⟩ := hs.allocEx #[.int .i64 0, .int .i64 0, .int .i64 0, .int .i64 0, .slice none 0 0, .int .i64 0, .int .i64 0] 24
        go_simp
        try rw [ey]
        try rw [er]
        clear ey er
        refine hK.out _ _ (trivial) (fun hHeld => ?_)
        clear hK KK
        try simp only [Act.put, List.setIfInBounds_toArray, List.set_cons_zero, List.set_cons_succ]
        refine wpAnyH_ready (rs := [5]) (by kernel_rfl) (by simp) (AllReadyH.cons (o := { dst := some 30, op := Op.call { callee := Callee.value (Operand.func 76), args := #[Operand.tmp 29], argTypes := #[9] }, type := 3, pos := "ref.go:133", after := #[{ on := 4, ground := Ground.data }, { on := 2, ground := Ground.chain }], guard := none }) rfl (fun KK hK => ?_) AllReadyH.nil)
        · go_simp
          go_at_call 76
          with_reducible refine (sr_intT _ ((S.drop 10).take 2) (by first | rfl | simp) e HE.out HE8.out hs).mono ?_
          rintro e wq ⟨rfl, hs⟩
          refine hK.out _ _ (trivial) (fun hHeld => ?_)
          clear hK KK
          try simp only [Act.put, List.setIfInBounds_toArray, List.set_cons_zero, List.set_cons_succ]
          refine wpAnyH_ready (rs := [8]) (by kernel_rfl) (by simp) (AllReadyH.cons (o := { dst := some 33, op := Op.call { callee := Callee.value (Operand.func 76), args := #[Operand.tmp 32], argTypes := #[9] }, type := 3, pos := "ref.go:133", after := #[{ on := 7, ground := Ground.data }, { on := 5, ground := Ground.chain }], guard := none }) rfl (fun KK hK => ?_) AllReadyH.nil)
          · go_simp
            go_at_call 76
            with_reducible refine (sr_intT _ ((S.drop 12).take 4) (by first | rfl | simp) t HT.out HT8.out hs).mono ?_
            rintro e wq ⟨rfl, hs⟩
            refine hK.out _ _ (trivial) (fun hHeld => ?_)
            clear hK KK
            try simp only [Act.put, List.setIfInBounds_toArray, List.set_cons_zero, List.set_cons_succ]
            refine wpAnyH_ready (rs := [11]) (by kernel_rfl) (by simp) (AllReadyH.cons (o := { dst := some 36, op := Op.call { callee := Callee.value (Operand.func 76), args := #[Operand.tmp 35], argTypes := #[9] }, type := 3, pos := "ref.go:133", after := #[{ on := 10, ground := Ground.data }, { on := 8, ground := Ground.chain }], guard := none }) rfl (fun KK hK => ?_) AllReadyH.nil)
            · go_simp
              go_at_call 76
              with_reducible refine (sr_intT _ ((S.drop 16).take 1) (by first | rfl | simp) u HU.out HU8.out hs).mono ?_
              rintro e wq ⟨rfl, hs⟩
              refine hK.out _ _ (trivial) (fun hHeld => ?_)
              clear hK KK
              try simp only [Act.put, List.setIfInBounds_toArray, List.set_cons_zero, List.set_cons_succ]
              refine wpAnyH_take (i := 12) (oi := { dst := some 37, op := Op.build 24 #[(0, Operand.tmp 27), (1, Operand.tmp 30), (2, Operand.tmp 33), (3, Operand.tmp 36)], type := 24, pos := "ref.go:133", after := #[{ on := 2, ground := Ground.data }, { on := 5, ground := Ground.data }, { on := 8, ground := Ground.data }, { on := 11, ground := Ground.data }], guard := none }) (v := ?_) rfl (by kernel_rfl) (by kernel_rfl) (by kernel_rfl) (fun _ _ _ h => h) (Or.inl ⟨by rfl, ?_⟩) (by assumption) ?_
              rotate_left
              · intro w hSw; (try dsimp only at hSw); go_simp; try with_reducible rfl
              simp only [Act.put, List.setIfInBounds_toArray, List.set_cons_zero, List.set_cons_succ]
              refine wpAnyH_ready (rs := [14]) (by kernel_rfl) (by simp) (AllReadyH.cons (o := { dst := none, op := Op.store 24 (Operand.tmp 5) (Operand.tmp 37), type := 0, pos := "ref.go:133", after := #[{ on := 13, ground := Ground.data }, { on := 12, ground := Ground.data }, { on := 11, ground := Ground.chain }, { on := 0, ground := Ground.phase }, { on := 1, ground := Ground.phase }, { on := 2, ground := Ground.phase }, { on := 3, ground := Ground.phase }, { on := 4, ground := Ground.phase }, { on := 5, ground := Ground.phase }, { on := 6, ground := Ground.phase }, { on := 7, ground := Ground.phase }, { on := 8, ground := Ground.phase }, { on := 9, ground := Ground.phase }, { on := 10, ground := Ground.phase }, { on := 11, ground := Ground.phase }, { on := 12, ground := Ground.phase }, { on := 13, ground := Ground.phase }], guard := none }) rfl (fun KK hK => ?_) AllReadyH.nil)
              · rw [if_pos (by rfl)]
                refine wp_store_mid 24 (.tmp 5) (.tmp 37) rfl vb 0 #[.int .i64 p, .int .i64 e, .int .i64 t, .int .i64 u, .slice none 0 0, .int .i64 0, .int .i64 0] (by rfl) (by rfl) hs.there (by kernel_rfl) (by simp [Value.oneCell']) ?_
                obtain ⟨wz, ez, hs⟩ := hs.storeEx #[.int .i64 p, .int .i64 e, .int .i64 t, .int .i64 u, .slice none 0 0, .int .i64 0, .int .i64 0]
                rw [ez]
                clear ez
                refine hK.out _ _ (trivial) (fun hHeld => ?_)
                clear hK KK
                try simp only [Act.put, List.setIfInBounds_toArray, List.set_cons_zero, List.set_cons_succ]
                refine wpAnyH_done (by kernel_rfl) ?_ _
                clear hHeld
                rw [setAll_allV] at hs
                rotate_left
                · rfl
                go_wp2_with fail
                go_meet
                exact ⟨vb, rfl, hs⟩
    · obtain ⟨wy, vb, ey, er, hs⟩ := hs.allocEx #[.int .i64 0, .int .i64 0, .int .i64 0, .int .i64 0, .slice none 0 0, .int .i64 0, .int .i64 0] 24
      go_simp
      try rw [ey]
      try rw [er]
      clear ey er
      refine hK.out _ _ (trivial) (fun hHeld => ?_)
      clear hK KK
      try simp only [Act.put, List.setIfInBounds_toArray, List.set_cons_zero, List.set_cons_succ]
      refine wpAnyH_ready (rs := [2]) (by kernel_rfl) (by simp) (AllReadyH.cons (o := { dst := some 27, op := Op.call { callee := Callee.value (Operand.func 76), args := #[Operand.tmp 26], argTypes := #[9] }, type := 3, pos := "ref.go:133", after := #[{ on := 1, ground := Ground.data }], guard := none }) rfl (fun KK hK => ?_) AllReadyH.nil)
      · go_simp
        go_at_call 76
        with_reducible refine (sr_intT _ ((S.drop 2).take 8) (by first | rfl | simp) p HP.out HP8.out hs).mono ?_
        rintro e wq ⟨rfl, hs⟩
        refine hK.out _ _ (trivial) (fun hHeld => ?_)
        clear hK KK
        try simp only [Act.put, List.setIfInBounds_toArray, List.set_cons_zero, List.set_cons_succ]
        refine wpAnyH_ready (rs := [5]) (by kernel_rfl) (by simp) (AllReadyH.cons (o := { dst := some 30, op := Op.call { callee := Callee.value (Operand.func 76), args := #[Operand.tmp 29], argTypes := #[9] }, type := 3, pos := "ref.go:133", after := #[{ on := 4, ground := Ground.data }, { on := 2, ground := Ground.chain }], guard := none }) rfl (fun KK hK => ?_) AllReadyH.nil)
        · go_simp
          go_at_call 76
          with_reducible refine (sr_intT _ ((S.drop 10).take 2) (by first | rfl | simp) e HE.out HE8.out hs).mono ?_
          rintro e wq ⟨rfl, hs⟩
          refine hK.out _ _ (trivial) (fun hHeld => ?_)
          clear hK KK
          try simp only [Act.put, List.setIfInBounds_toArray, List.set_cons_zero, List.set_cons_succ]
          refine wpAnyH_ready (rs := [8]) (by kernel_rfl) (by simp) (AllReadyH.cons (o := { dst := some 33, op := Op.call { callee := Callee.value (Operand.func 76), args := #[Operand.tmp 32], argTypes := #[9] }, type := 3, pos := "ref.go:133", after := #[{ on := 7, ground := Ground.data }, { on := 5, ground := Ground.chain }], guard := none }) rfl (fun KK hK => ?_) AllReadyH.nil)
          · go_simp
            go_at_call 76
            with_reducible refine (sr_intT _ ((S.drop 12).take 4) (by first | rfl | simp) t HT.out HT8.out hs).mono ?_
            rintro e wq ⟨rfl, hs⟩
            refine hK.out _ _ (trivial) (fun hHeld => ?_)
            clear hK KK
            try simp only [Act.put, List.setIfInBounds_toArray, List.set_cons_zero, List.set_cons_succ]
            refine wpAnyH_ready (rs := [11]) (by kernel_rfl) (by simp) (AllReadyH.cons (o := { dst := some 36, op := Op.call { callee := Callee.value (Operand.func 76), args := #[Operand.tmp 35], argTypes := #[9] }, type := 3, pos := "ref.go:133", after := #[{ on := 10, ground := Ground.data }, { on := 8, ground := Ground.chain }], guard := none }) rfl (fun KK hK => ?_) AllReadyH.nil)
            · go_simp
              go_at_call 76
              with_reducible refine (sr_intT _ ((S.drop 16).take 1) (by first | rfl | simp) u HU.out HU8.out hs).mono ?_
              rintro e wq ⟨rfl, hs⟩
              refine hK.out _ _ (trivial) (fun hHeld => ?_)
              clear hK KK
              try simp only [Act.put, List.setIfInBounds_toArray, List.set_cons_zero, List.set_cons_succ]
              refine wpAnyH_take (i := 12) (oi := { dst := some 37, op := Op.build 24 #[(0, Operand.tmp 27), (1, Operand.tmp 30), (2, Operand.tmp 33), (3, Operand.tmp 36)], type := 24, pos := "ref.go:133", after := #[{ on := 2, ground := Ground.data }, { on := 5, ground := Ground.data }, { on := 8, ground := Ground.data }, { on := 11, ground := Ground.data }], guard := none }) (v := ?_) rfl (by kernel_rfl) (by kernel_rfl) (by kernel_rfl) (fun _ _ _ h => h) (Or.inl ⟨by rfl, ?_⟩) (by assumption) ?_
              rotate_left
              · intro w hSw; (try dsimp only at hSw); go_simp; try with_reducible rfl
              simp only [Act.put, List.setIfInBounds_toArray, List.set_cons_zero, List.set_cons_succ]
              refine wpAnyH_ready (rs := [14]) (by kernel_rfl) (by simp) (AllReadyH.cons (o := { dst := none, op := Op.store 24 (Operand.tmp 5) (Operand.tmp 37), type := 0, pos := "ref.go:133", after := #[{ on := 13, ground := Ground.data }, { on := 12, ground := Ground.data }, { on := 11, ground := Ground.chain }, { on := 0, ground := Ground.phase }, { on := 1, ground := Ground.phase }, { on := 2, ground := Ground.phase }, { on := 3, ground := Ground.phase }, { on := 4, ground := Ground.phase }, { on := 5, ground := Ground.phase }, { on := 6, ground := Ground.phase }, { on := 7, ground := Ground.phase }, { on := 8, ground := Ground.phase }, { on := 9, ground := Ground.phase }, { on := 10, ground := Ground.phase }, { on := 11, ground := Ground.phase }, { on := 12, ground := Ground.phase }, { on := 13, ground := Ground.phase }], guard := none }) rfl (fun KK hK => ?_) AllReadyH.nil)
              · rw [if_pos (by rfl)]
                refine wp_store_mid 24 (.tmp 5) (.tmp 37) rfl vb 0 #[.int .i64 p, .int .i64 e, .int .i64 t, .int .i64 u, .slice none 0 0, .int .i64 0, .int .i64 0] (by rfl) (by rfl) hs.there (by kernel_rfl) (by simp [Value.oneCell']) ?_
                obtain ⟨wz, ez, hs⟩ := hs.storeEx #[.int .i64 p, .int .i64 e, .int .i64 t, .int .i64 u, .slice none 0 0, .int .i64 0, .int .i64 0]
                rw [ez]
                clear ez
                refine hK.out _ _ (trivial) (fun hHeld => ?_)
                clear hK KK
                try simp only [Act.put, List.setIfInBounds_toArray, List.set_cons_zero, List.set_cons_succ]
                refine wpAnyH_done (by kernel_rfl) ?_ _
                clear hHeld
                rw [setAll_allV] at hs
                rotate_left
                · rfl
                go_wp2_with fail
                go_meet
                exact ⟨vb, rfl, hs⟩
  obtain ⟨vb, rfl, h⟩ := hcut
  clear c0 d0 r0 c1 d1 r1 c2 d2 r2 c3 d3 r3 c4 d4 r4 c5 d5 r5 c6 d6 r6
  have H := Lib.hid h
  clear h
  have c0 := H.out.p1.rawCell 0; have c1 := H.out.p1.rawCell 1; have c2 := H.out.p1.rawCell 2; have c3 := H.out.p1.rawCell 3; have c4 := H.out.p1.rawCell 4; have c5 := H.out.p1.rawCell 5; have c6 := H.out.p1.rawCell 6; simp at c0 c1 c2 c3 c4 c5 c6; have d0 := H.out.p2.rawCell 0; have r0 := H.out.p2.rawFree 0; have d1 := H.out.p2.rawCell 1; have r1 := H.out.p2.rawFree 1; have d2 := H.out.p2.rawCell 2; have r2 := H.out.p2.rawFree 2; have d3 := H.out.p2.rawCell 3; have r3 := H.out.p2.rawFree 3; have d4 := H.out.p2.rawCell 4; have r4 := H.out.p2.rawFree 4; have d5 := H.out.p2.rawCell 5; have r5 := H.out.p2.rawFree 5; have d6 := H.out.p2.rawCell 6; have r6 := H.out.p2.rawFree 6; simp at d0 d1 d2 d3 d4 d5 d6
  go_upto_region 13 with (go_at_call 26; clear HA; (with_reducible refine (ref14_readTopicsT _ (S.drop 17) HTE.out HX.out l m 0 HR.out H.out).mono ?_); rintro e_ wn ⟨v_, lr, rfl, hlr, h⟩; obtain ⟨q, cap, rfl⟩ := tops_form (Know.has_right (Know.has_refl _)) h; have HLR := Lib.hid hlr; clear hlr; clear c0 d0 r0 c1 d1 r1 c2 d2 r2 c3 d3 r3 c4 d4 r4 c5 d5 r5 c6 d6 r6; have f4 := h.rawFree 4; have g4 := h.rawCell 4; simp at g4; have h := (show St W0 (wn.setCell ⟨vb, 4, none⟩ (.slice q lr.length cap)) (K.and (Know.tops (.slice q lr.length cap) lr)) (.raw vb #[.int .i64 p, .int .i64 e, .int .i64 t, .int .i64 u, .slice q lr.length cap, .int .i64 0, .int .i64 0] 24 :: .raw nb #[.int .i64 0, .int .i64 0, .int .i64 0, .int .i64 0, .slice none 0 0, .int .i64 0, .int .i64 0] 24 :: .raw rb #[.int .i64 0, .int .i64 0, .int .i64 0, .int .i64 0, .slice none 0 0, .int .i64 0, .int .i64 0] 24 :: L) from h.rawSet 4 (.slice q lr.length cap)); replace H := Lib.hid h; clear h)
  try rw [HRR.out]
  go_wp2_with (first
    | (go_at_call 76; clear f4 g4; (with_reducible refine (sr_intT _ (R.take 8) (by first | rfl | simp) x HX1.out HX18.out H.out).mono ?_); rintro e_ wn ⟨rfl, h⟩; have f5 := h.rawFree 5; have g5 := h.rawCell 5; simp at g5; have h := (show St W0 (wn.setCell ⟨vb, 5, none⟩ (.int .i64 x)) (K.and (Know.tops (.slice q lr.length cap) lr)) (.raw vb #[.int .i64 p, .int .i64 e, .int .i64 t, .int .i64 u, .slice q lr.length cap, .int .i64 x, .int .i64 0] 24 :: .raw nb #[.int .i64 0, .int .i64 0, .int .i64 0, .int .i64 0, .slice none 0 0, .int .i64 0, .int .i64 0] 24 :: .raw rb #[.int .i64 0, .int .i64 0, .int .i64 0, .int .i64 0, .slice none 0 0, .int .i64 0, .int .i64 0] 24 :: L) from h.rawSet 5 (.int .i64 x)); replace H := Lib.hid h; clear h)
    | (go_at_call 76; clear f5 g5; (with_reducible refine (sr_intT _ (R.drop 8) HTE8.out y HX2.out HX28.out H.out).mono ?_); rintro e_ wn ⟨rfl, h⟩; have f6 := h.rawFree 6; have g6 := h.rawCell 6; simp at g6; have h := (show St W0 (wn.setCell ⟨vb, 6, none⟩ (.int .i64 y)) (K.and (Know.tops (.slice q lr.length cap) lr)) (.raw vb #[.int .i64 p, .int .i64 e, .int .i64 t, .int .i64 u, .slice q lr.length cap, .int .i64 x, .int .i64 y] 24 :: .raw nb #[.int .i64 0, .int .i64 0, .int .i64 0, .int .i64 0, .slice none 0 0, .int .i64 0, .int .i64 0] 24 :: .raw rb #[.int .i64 0, .int .i64 0, .int .i64 0, .int .i64 0, .slice none 0 0, .int .i64 0, .int .i64 0] 24 :: L) from h.rawSet 6 (.int .i64 y)); have b0 := h.rawCell 0; have b1 := h.rawCell 1; have b2 := h.rawCell 2; have b3 := h.rawCell 3; have b4 := h.rawCell 4; have b5 := h.rawCell 5; have b6 := h.rawCell 6; simp at b0 b1 b2 b3 b4 b5 b6; replace H := Lib.hid h; clear h)
    | (go_at_call 16; clear f6 g6 b0 b1 b2 b3 b4 b5 b6; (with_reducible refine (ref14_checkS p e t u x y lr q cap l HLR.out E HVE.out (fewT_of (by rw [HLR.out]; exact HFL.out)) (Know.has_right (Know.has_refl _)) H.out).mono ?_); rintro e_ wn ⟨rfl, h⟩; have b0 := h.rawCell 0; have b1 := h.rawCell 1; have b2 := h.rawCell 2; have b3 := h.rawCell 3; have b4 := h.rawCell 4; have b5 := h.rawCell 5; have b6 := h.rawCell 6; simp at b0 b1 b2 b3 b4 b5 b6; have c0 := h.p1.rawCell 0; have c1 := h.p1.rawCell 1; have c2 := h.p1.rawCell 2; have c3 := h.p1.rawCell 3; have c4 := h.p1.rawCell 4; have c5 := h.p1.rawCell 5; have c6 := h.p1.rawCell 6; simp at c0 c1 c2 c3 c4 c5 c6; have d0 := h.p2.rawCell 0; have r0 := h.p2.rawFree 0; have d1 := h.p2.rawCell 1; have r1 := h.p2.rawFree 1; have d2 := h.p2.rawCell 2; have r2 := h.p2.rawFree 2; have d3 := h.p2.rawCell 3; have r3 := h.p2.rawFree 3; have d4 := h.p2.rawCell 4; have r4 := h.p2.rawFree 4; have d5 := h.p2.rawCell 5; have r5 := h.p2.rawFree 5; have d6 := h.p2.rawCell 6; have r6 := h.p2.rawFree 6; simp at d0 d1 d2 d3 d4 d5 d6; replace H := Lib.hid h; clear h))
  have hz : St W0 _ _ (.raw rb #[.int .i64 0, .int .i64 0, .int .i64 0, .int .i64 0, .slice none 0 0, .int .i64 0, .int .i64 0] 24 :: _) := St.sets7 _ _ _ _ _ _ _ (H.out.p2)
  refine bodyPost_ret (rc_cell_tmp rfl _ _ rb [.int .i64 0, .int .i64 0, .int .i64 0, .int .i64 0, .slice none 0 0, .int .i64 0, .int .i64 0] _ rfl (rc_range hz) Try.underlying24 rfl (by kernel_rfl)) rfl ?_
  exact ⟨rfl, (hz.drop.drop.drop).know (Know.has_left (Know.has_refl _))⟩

end Go.Proofs.Ytombolmicfjjpaa

/- Values, read by definition. -/
namespace Go.Proofs.Ytombolmicfjjpaa
open Go.RowKit

set_option maxHeartbeats 6000000 in
set_option maxRecDepth 100000 in
theorem rd_8 (S : Bs) (hsl : S.length ≤ 1000000) (ha : sInt (S.take 2) = 0) (hl17 : 17 ≤ S.length) (p e t u : Int) (hp : sInt ((S.drop 2).take 8) = p) (he : sInt ((S.drop 10).take 2) = e) (ht : sInt ((S.drop 12).take 4) = t) (hu : sInt ((S.drop 16).take 1) = u) (l : List TopS) (m : Nat) (hr : topsR (S.drop 17) = (l, m, 0)) (hm : 17 + m ≤ S.length) (R : Bs) (hR : S.drop (17 + m) = R) (hrl : R.length = 16) (x y : Int) (hx : sInt (R.take 8) = x) (hy : sInt (R.drop 8) = y) (hve : ValS.err ⟨p, e, t, u, l, x, y⟩ = 0) {W0 w : World} {K : Know} {L : List Res} (h : St W0 w K L) :
    Calls Try.prog 23 #[.string (bb S)] w fun en w' => ∃ (q : Option Addr) (cap : Nat) (lr : List (TopS × Value)), en = .returned (.tuple #[.agg #[.int .i64 p, .int .i64 e, .int .i64 t, .int .i64 u, .slice q lr.length cap, .int .i64 x, .int .i64 y], .int .i64 0]) ∧ lr.map (·.1) = l ∧ St W0 w' (K.and (Know.tops (.slice q lr.length cap) lr)) L := by
  obtain ⟨rb, hrb⟩ : ∃ b, w.heap.size = b := ⟨_, rfl⟩
  obtain ⟨nb, hnb⟩ : ∃ b, rb + 1 = b := ⟨_, rfl⟩
  have g1 := (h.allocRaw #[.int .i64 0, .int .i64 0, .int .i64 0, .int .i64 0, .slice none 0 0, .int .i64 0, .int .i64 0] 24).allocRaw #[.int .i64 0, .int .i64 0, .int .i64 0, .int .i64 0, .slice none 0 0, .int .i64 0, .int .i64 0] 24
  simp only [World.size_alloc, hrb, hnb] at g1
  have H := Lib.hid g1
  have HSL := Lib.hid hsl
  have c0 := g1.rawCell 0; have c1 := g1.rawCell 1; have c2 := g1.rawCell 2; have c3 := g1.rawCell 3; have c4 := g1.rawCell 4; have c5 := g1.rawCell 5; have c6 := g1.rawCell 6; simp at c0 c1 c2 c3 c4 c5 c6
  have d0 := g1.p1.rawCell 0; have r0 := g1.p1.rawFree 0; have d1 := g1.p1.rawCell 1; have r1 := g1.p1.rawFree 1; have d2 := g1.p1.rawCell 2; have r2 := g1.p1.rawFree 2; have d3 := g1.p1.rawCell 3; have r3 := g1.p1.rawFree 3; have d4 := g1.p1.rawCell 4; have r4 := g1.p1.rawFree 4; have d5 := g1.p1.rawCell 5; have r5 := g1.p1.rawFree 5; have d6 := g1.p1.rawCell 6; have r6 := g1.p1.rawFree 6; simp at d0 d1 d2 d3 d4 d5 d6
  have hl2 : ¬ (S.length : Int) < 2 := by omega
  have hl3 : 2 ≤ (S.length : Int) := by omega
  have hl4 : ¬ (S.length : Int) < 17 := by omega
  have hl5 : 10 ≤ (S.length : Int) := by omega
  have hl6 : 12 ≤ (S.length : Int) := by omega
  have hl7 : 16 ≤ (S.length : Int) := by omega
  have hl8 : 17 ≤ (S.length : Int) := by omega
  have HA := Lib.hid ha
  have H8 := Lib.hid (show (S.take 2).length ≤ 8 by rw [List.length_take]; omega)
  have HP := Lib.hid hp
  have HP8 := Lib.hid (show ((S.drop 2).take 8).length ≤ 8 by rw [List.length_take]; omega)
  have HE := Lib.hid he
  have HE8 := Lib.hid (show ((S.drop 10).take 2).length ≤ 8 by rw [List.length_take]; omega)
  have HT := Lib.hid ht
  have HT8 := Lib.hid (show ((S.drop 12).take 4).length ≤ 8 by rw [List.length_take]; omega)
  have HU := Lib.hid hu
  have HU8 := Lib.hid (show ((S.drop 16).take 1).length ≤ 8 by rw [List.length_take]; omega)
  have HTE := Lib.hid (takeEnd S 17)
  have HX := Lib.hid (show (S.drop 17).length ≤ 1000000 by rw [List.length_drop]; omega)
  have HR := Lib.hid hr
  have HRR := Lib.hid ((takeEnd S (17 + m)).trans hR)
  have hmi : 17 + (m : Int) ≤ (S.length : Int) := by omega
  have hmz : (m : Int) ≤ 1000000 := by omega
  have hw : IntKind.i64.wrap (17 + (m : Int)) = 17 + (m : Int) := by rw [IntKind.wrap_i64]; omega
  have hri : (R.length : Int) = 16 := by omega
  have hrj : ¬ (R.length : Int) < 16 := by omega
  have hrk : ¬ (16 : Int) < (R.length : Int) := by omega
  have hrm : 8 ≤ (R.length : Int) := by omega
  have HTE8 := Lib.hid (takeEnd R 8)
  have HX1 := Lib.hid hx
  have HX18 := Lib.hid (show (R.take 8).length ≤ 8 by rw [List.length_take]; omega)
  have HX2 := Lib.hid hy
  have HX28 := Lib.hid (show (R.drop 8).length ≤ 8 by rw [List.length_drop]; omega)
  have HFL := Lib.hid (show FewL l from topsP_few (topsR_ok hr) (by rw [List.length_drop]; omega))
  have HVE := Lib.hid hve
  clear h g1 hsl ha hl17 hp he ht hu hr hm hR hrl hx hy hve hri
  go_enter Try.func23, Try.ntmps23
  go_upto_region 8 with (go_at_call 76; clear c0 d0 r0 c1 d1 r1 c2 d2 r2 c3 d3 r3 c4 d4 r4 c5 d5 r5 c6 d6 r6; (with_reducible refine (sr_intT _ (S.take 2) (by first | rfl | simp) 0 HA.out H8.out H.out).mono ?_); rintro e_ wn ⟨rfl, h⟩; have c0 := h.rawCell 0; have c1 := h.rawCell 1; have c2 := h.rawCell 2; have c3 := h.rawCell 3; have c4 := h.rawCell 4; have c5 := h.rawCell 5; have c6 := h.rawCell 6; simp at c0 c1 c2 c3 c4 c5 c6; have d0 := h.p1.rawCell 0; have r0 := h.p1.rawFree 0; have d1 := h.p1.rawCell 1; have r1 := h.p1.rawFree 1; have d2 := h.p1.rawCell 2; have r2 := h.p1.rawFree 2; have d3 := h.p1.rawCell 3; have r3 := h.p1.rawFree 3; have d4 := h.p1.rawCell 4; have r4 := h.p1.rawFree 4; have d5 := h.p1.rawCell 5; have r5 := h.p1.rawFree 5; have d6 := h.p1.rawCell 6; have r6 := h.p1.rawFree 6; simp at d0 d1 d2 d3 d4 d5 d6; replace H := Lib.hid h; clear h)
  go_cut [5] (fun s5 wx => ∃ vb : Nat, s5 = .pointer (some ⟨vb, 0, none⟩) ∧ St W0 wx K (.raw vb #[.int .i64 p, .int .i64 e, .int .i64 t, .int .i64 u, .slice none 0 0, .int .i64 0, .int .i64 0] 24 :: .raw nb #[.int .i64 0, .int .i64 0, .int .i64 0, .int .i64 0, .slice none 0 0, .int .i64 0, .int .i64 0] 24 :: .raw rb #[.int .i64 0, .int .i64 0, .int .i64 0, .int .i64 0, .slice none 0 0, .int .i64 0, .int .i64 0] 24 :: L))
  case first =>
    clear c0 d0 r0 c1 d1 r1 c2 d2 r2 c3 d3 r3 c4 d4 r4 c5 d5 r5 c6 d6 r6
    have hs := H.out.drew
    refine wp_region_held_drew (S := fun _ => True) (by kernel_rfl) trivial (fun hHeld => ?_)
    refine wpAnyH_take (i := 0) (oi := { dst := some 25, op := Op.move (Operand.tmp 0), type := 9, pos := "ref.go:133", after := #[], guard := none }) (v := ?_) rfl (by kernel_rfl) (by kernel_rfl) (by kernel_rfl) (fun _ _ _ h => h) (Or.inl ⟨by rfl, ?_⟩) (by assumption) ?_
    rotate_left
    · intro w hSw; (try dsimp only at hSw); go_simp; try with_reducible rfl
    simp only [Act.put, List.setIfInBounds_toArray, List.set_cons_zero, List.set_cons_succ]
    refine wpAnyH_take (i := 1) (oi := { dst := some 26, op := Op.slice 9 (Operand.tmp 25) (some (Operand.const (Value.int IntKind.i64 2))) (some (Operand.const (Value.int IntKind.i64 10))) none, type := 9, pos := "ref.go:133", after := #[{ on := 0, ground := Ground.data }], guard := none }) (v := ?_) rfl (by kernel_rfl) (by kernel_rfl) (by kernel_rfl) (fun _ _ _ h => h) (Or.inl ⟨by rfl, ?_⟩) (by assumption) ?_
    rotate_left
    · intro w hSw; (try dsimp only at hSw); go_simp; try with_reducible rfl
    simp only [Act.put, List.setIfInBounds_toArray, List.set_cons_zero, List.set_cons_succ]
    refine wpAnyH_take (i := 3) (oi := { dst := some 28, op := Op.move (Operand.tmp 0), type := 9, pos := "ref.go:133", after := #[], guard := none }) (v := ?_) rfl (by kernel_rfl) (by kernel_rfl) (by kernel_rfl) (fun _ _ _ h => h) (Or.inl ⟨by rfl, ?_⟩) (by assumption) ?_
    rotate_left
    · intro w hSw; (try dsimp only at hSw); go_simp; try with_reducible rfl
    simp only [Act.put, List.setIfInBounds_toArray, List.set_cons_zero, List.set_cons_succ]
    refine wpAnyH_take (i := 4) (oi := { dst := some 29, op := Op.slice 9 (Operand.tmp 28) (some (Operand.const (Value.int IntKind.i64 10))) (some (Operand.const (Value.int IntKind.i64 12))) none, type := 9, pos := "ref.go:133", after := #[{ on := 3, ground := Ground.data }], guard := none }) (v := ?_) rfl (by kernel_rfl) (by kernel_rfl) (by kernel_rfl) (fun _ _ _ h => h) (Or.inl ⟨by rfl, ?_⟩) (by assumption) ?_
    rotate_left
    · intro w hSw; (try dsimp only at hSw); go_simp; try with_reducible rfl
    simp only [Act.put, List.setIfInBounds_toArray, List.set_cons_zero, List.set_cons_succ]
    refine wpAnyH_take (i := 6) (oi := { dst := some 31, op := Op.move (Operand.tmp 0), type := 9, pos := "ref.go:133", after := #[], guard := none }) (v := ?_) rfl (by kernel_rfl) (by kernel_rfl) (by kernel_rfl) (fun _ _ _ h => h) (Or.inl ⟨by rfl, ?_⟩) (by assumption) ?_
    rotate_left
    · intro w hSw; (try dsimp only at hSw); go_simp; try with_reducible rfl
    simp only [Act.put, List.setIfInBounds_toArray, List.set_cons_zero, List.set_cons_succ]
    refine wpAnyH_take (i := 7) (oi := { dst := some 32, op := Op.slice 9 (Operand.tmp 31) (some (Operand.const (Value.int IntKind.i64 12))) (some (Operand.const (Value.int IntKind.i64 16))) none, type := 9, pos := "ref.go:133", after := #[{ on := 6, ground := Ground.data }], guard := none }) (v := ?_) rfl (by kernel_rfl) (by kernel_rfl) (by kernel_rfl) (fun _ _ _ h => h) (Or.inl ⟨by rfl, ?_⟩) (by assumption) ?_
    rotate_left
    · intro w hSw; (try dsimp only at hSw); go_simp; try with_reducible rfl
    simp only [Act.put, List.setIfInBounds_toArray, List.set_cons_zero, List.set_cons_succ]
    refine wpAnyH_take (i := 9) (oi := { dst := some 34, op := Op.move (Operand.tmp 0), type := 9, pos := "ref.go:133", after := #[], guard := none }) (v := ?_) rfl (by kernel_rfl) (by kernel_rfl) (by kernel_rfl) (fun _ _ _ h => h) (Or.inl ⟨by rfl, ?_⟩) (by assumption) ?_
    rotate_left
    · intro w hSw; (try dsimp only at hSw); go_simp; try with_reducible rfl
    simp only [Act.put, List.setIfInBounds_toArray, List.set_cons_zero, List.set_cons_succ]
    refine wpAnyH_take (i := 10) (oi := { dst := some 35, op := Op.slice 9 (Operand.tmp 34) (some (Operand.const (Value.int IntKind.i64 16))) (some (Operand.const (Value.int IntKind.i64 17))) none, type := 9, pos := "ref.go:133", after := #[{ on := 9, ground := Ground.data }], guard := none }) (v := ?_) rfl (by kernel_rfl) (by kernel_rfl) (by kernel_rfl) (fun _ _ _ h => h) (Or.inl ⟨by rfl, ?_⟩) (by assumption) ?_
    rotate_left
    · intro w hSw; (try dsimp only at hSw); go_simp; try with_reducible rfl
    simp only [Act.put, List.setIfInBounds_toArray, List.set_cons_zero, List.set_cons_succ]
    refine wpAnyH_ready (rs := [2, 13]) (by kernel_rfl) (by simp) (AllReadyH.cons (o := { dst := some 27, op := Op.call { callee := Callee.value (Operand.func 76), args := #[Operand.tmp 26], argTypes := #[9] }, type := 3, pos := "ref.go:133", after := #[{ on := 1, ground := Ground.data }], guard := none }) rfl (fun KK hK => ?_) (AllReadyH.cons (o := { dst := some 5, op := Op.alloc 24, type := 0, pos := "ref.go:133", after := #[], guard := none }) rfl (fun KK hK => ?_) AllReadyH.nil))
    · go_simp
      go_at_call 76
      with_reducible refine (sr_intT _ ((S.drop 2).take 8) (by first | rfl | simp) p HP.out HP8.out hs).mono ?_
      rintro e wq ⟨rfl, hs⟩
      refine hK.out _ _ (trivial) (fun hHeld => ?_)
      clear hK KK
      try simp only [Act.put, List.setIfInBounds_toArray, List.set_cons_zero, List.set_cons_succ]
      refine wpAnyH_ready (rs := [5, 13]) (by kernel_rfl) (by simp) (AllReadyH.cons (o := { dst := some 30, op := Op.call { callee := Callee.value (Operand.func 76), args := #[Operand.tmp 29], argTypes := #[9] }, type := 3, pos := "ref.go:133", after := #[{ on := 4, ground := Ground.data }, { on := 2, ground := Ground.chain }], guard := none }) rfl (fun KK hK => ?_) (AllReadyH.cons (o := { dst := some 5, op := Op.alloc 24, type := 0, pos := "ref.go:133", after := #[], guard := none }) rfl (fun KK hK => ?_) AllReadyH.nil))
      · go_simp
        go_at_call 76
        with_reducible refine (sr_intT _ ((S.drop 10).take 2) (by first | rfl | simp) e HE.out HE8.out hs).mono ?_
        rintro e wq ⟨rfl, hs⟩
        refine hK.out _ _ (trivial) (fun hHeld => ?_)
        clear hK KK
        try simp only [Act.put, List.setIfInBounds_toArray, List.set_cons_zero, List.set_cons_succ]
        refine wpAnyH_ready (rs := [8, 13]) (by kernel_rfl) (by simp) (AllReadyH.cons (o := { dst := some 33, op := Op.call { callee := Callee.value (Operand.func 76), args := #[Operand.tmp 32], argTypes := #[9] }, type := 3, pos := "ref.go:133", after := #[{ on := 7, ground := Ground.data }, { on := 5, ground := Ground.chain }], guard := none }) rfl (fun KK hK => ?_) (AllReadyH.cons (o := { dst := some 5, op := Op.alloc 24, type := 0, pos := "ref.go:133", after := #[], guard := none }) rfl (fun KK hK => ?_) AllReadyH.nil))
        · go_simp
          go_at_call 76
          with_reducible refine (sr_intT _ ((S.drop 12).take 4) (by first | rfl | simp) t HT.out HT8.out hs).mono ?_
          rintro e wq ⟨rfl, hs⟩
          refine hK.out _ _ (trivial) (fun hHeld => ?_)
          clear hK KK
          try simp only [Act.put, List.setIfInBounds_toArray, List.set_cons_zero, List.set_cons_succ]
          refine wpAnyH_ready (rs := [11, 13]) (by kernel_rfl) (by simp) (AllReadyH.cons (o := { dst := some 36, op := Op.call { callee := Callee.value (Operand.func 76), args := #[Operand.tmp 35], argTypes := #[9] }, type := 3, pos := "ref.go:133", after := #[{ on := 10, ground := Ground.data }, { on := 8, ground := Ground.chain }], guard := none }) rfl (fun KK hK => ?_) (AllReadyH.cons (o := { dst := some 5, op := Op.alloc 24, type := 0, pos := "ref.go:133", after := #[], guard := none }) rfl (fun KK hK => ?_) AllReadyH.nil))
          · go_simp
            go_at_call 76
            with_reducible refine (sr_intT _ ((S.drop 16).take 1) (by first | rfl | simp) u HU.out HU8.out hs).mono ?_
            rintro e wq ⟨rfl, hs⟩
            refine hK.out _ _ (trivial) (fun hHeld => ?_)
            clear hK KK
            try simp only [Act.put, List.setIfInBounds_toArray, List.set_cons_zero, List.set_cons_succ]
            refine wpAnyH_take (i := 12) (oi := { dst := some 37, op := Op.build 24 #[(0, Operand.tmp 27), (1, Operand.tmp 30), (2, Operand.tmp 33), (3, Operand.tmp 36)], type := 24, pos := "ref.go:133", after := #[{ on := 2, ground := Ground.data }, { on := 5, ground := Ground.data }, { on := 8, ground := Ground.data }, { on := 11, ground := Ground.data }], guard := none }) (v := ?_) rfl (by kernel_rfl) (by kernel_rfl) (by kernel_rfl) (fun _ _ _ h => h) (Or.inl ⟨by rfl, ?_⟩) (by assumption) ?_
            rotate_left
            · intro w hSw; (try dsimp only at hSw); go_simp; try with_reducible rfl
            simp only [Act.put, List.setIfInBounds_toArray, List.set_cons_zero, List.set_cons_succ]
            refine wpAnyH_ready (rs := [13]) (by kernel_rfl) (by simp) (AllReadyH.cons (o := { dst := some 5, op := Op.alloc 24, type := 0, pos := "ref.go:133", after := #[], guard := none }) rfl (fun KK hK => ?_) AllReadyH.nil)
            · obtain ⟨wy, vb, ey, er, hs⟩ := hs.allocEx #[.int .i64 0, .int .i64 0, .int .i64 0, .int .i64 0, .slice none 0 0, .int .i64 0, .int .i64 0] 24
              go_simp
              try rw [ey]
              try rw [er]
              clear ey er
              refine hK.out _ _ (trivial) (fun hHeld => ?_)
              clear hK KK
              try simp only [Act.put, List.setIfInBounds_toArray, List.set_cons_zero, List.set_cons_succ]
              refine wpAnyH_ready (rs := [14]) (by kernel_rfl) (by simp) (AllReadyH.cons (o := { dst := none, op := Op.store 24 (Operand.tmp 5) (Operand.tmp 37), type := 0, pos := "ref.go:133", after := #[{ on := 13, ground := Ground.data }, { on := 12, ground := Ground.data }, { on := 11, ground := Ground.chain }, { on := 0, ground := Ground.phase }, { on := 1, ground := Ground.phase }, { on := 2, ground := Ground.phase }, { on := 3, ground := Ground.phase }, { on := 4, ground := Ground.phase }, { on := 5, ground := Ground.phase }, { on := 6, ground := Ground.phase }, { on := 7, ground := Ground.phase }, { on := 8, ground := Ground.phase }, { on := 9, ground := Ground.phase }, { on := 10, ground := Ground.phase }, { on := 11, ground := Ground.phase }, { on := 12, ground := Ground.phase }, { on := 13, ground := Ground.phase }], guard := none }) rfl (fun KK hK => ?_) AllReadyH.nil)
              · rw [if_pos (by rfl)]
                refine wp_store_mid 24 (.tmp 5) (.tmp 37) rfl vb 0 #[.int .i64 p, .int .i64 e, .int .i64 t, .int .i64 u, .slice none 0 0, .int .i64 0, .int .i64 0] (by rfl) (by rfl) hs.there (by kernel_rfl) (by simp [Value.oneCell']) ?_
                obtain ⟨wz, ez, hs⟩ := hs.storeEx #[.int .i64 p, .int .i64 e, .int .i64 t, .int .i64 u, .slice none 0 0, .int .i64 0, .int .i64 0]
                rw [ez]
                clear ez
                refine hK.out _ _ (trivial) (fun hHeld => ?_)
                clear hK KK
                try simp only [Act.put, List.setIfInBounds_toArray, List.set_cons_zero, List.set_cons_succ]
                refine wpAnyH_done (by kernel_rfl) ?_ _
                clear hHeld
                rw [setAll_allV] at hs
                rotate_left
                · rfl
                go_wp2_with fail
                go_meet
                exact ⟨vb, rfl, hs⟩
          · obtain ⟨wy, vb, ey, er, hs⟩ := hs.allocEx #[.int .i64 0, .int .i64 0, .int .i64 0, .int .i64 0, .slice none 0 0, .int .i64 0, .int .i64 0] 24
            go_simp
            try rw [ey]
            try rw [er]
            clear ey er
            refine hK.out _ _ (trivial) (fun hHeld => ?_)
            clear hK KK
            try simp only [Act.put, List.setIfInBounds_toArray, List.set_cons_zero, List.set_cons_succ]
            refine wpAnyH_ready (rs := [11]) (by kernel_rfl) (by simp) (AllReadyH.cons (o := { dst := some 36, op := Op.call { callee := Callee.value (Operand.func 76), args := #[Operand.tmp 35], argTypes := #[9] }, type := 3, pos := "ref.go:133", after := #[{ on := 10, ground := Ground.data }, { on := 8, ground := Ground.chain }], guard := none }) rfl (fun KK hK => ?_) AllReadyH.nil)
            · go_simp
              go_at_call 76
              with_reducible refine (sr_intT _ ((S.drop 16).take 1) (by first | rfl | simp) u HU.out HU8.out hs).mono ?_
              rintro e wq ⟨rfl, hs⟩
              refine hK.out _ _ (trivial) (fun hHeld => ?_)
              clear hK KK
              try simp only [Act.put, List.setIfInBounds_toArray, List.set_cons_zero, List.set_cons_succ]
              refine wpAnyH_take (i := 12) (oi := { dst := some 37, op := Op.build 24 #[(0, Operand.tmp 27), (1, Operand.tmp 30), (2, Operand.tmp 33), (3, Operand.tmp 36)], type := 24, pos := "ref.go:133", after := #[{ on := 2, ground := Ground.data }, { on := 5, ground := Ground.data }, { on := 8, ground := Ground.data }, { on := 11, ground := Ground.data }], guard := none }) (v := ?_) rfl (by kernel_rfl) (by kernel_rfl) (by kernel_rfl) (fun _ _ _ h => h) (Or.inl ⟨by rfl, ?_⟩) (by assumption) ?_
              rotate_left
              · intro w hSw; (try dsimp only at hSw); go_simp; try with_reducible rfl
              simp only [Act.put, List.setIfInBounds_toArray, List.set_cons_zero, List.set_cons_succ]
              refine wpAnyH_ready (rs := [14]) (by kernel_rfl) (by simp) (AllReadyH.cons (o := { dst := none, op := Op.store 24 (Operand.tmp 5) (Operand.tmp 37), type := 0, pos := "ref.go:133", after := #[{ on := 13, ground := Ground.data }, { on := 12, ground := Ground.data }, { on := 11, ground := Ground.chain }, { on := 0, ground := Ground.phase }, { on := 1, ground := Ground.phase }, { on := 2, ground := Ground.phase }, { on := 3, ground := Ground.phase }, { on := 4, ground := Ground.phase }, { on := 5, ground := Ground.phase }, { on := 6, ground := Ground.phase }, { on := 7, ground := Ground.phase }, { on := 8, ground := Ground.phase }, { on := 9, ground := Ground.phase }, { on := 10, ground := Ground.phase }, { on := 11, ground := Ground.phase }, { on := 12, ground := Ground.phase }, { on := 13, ground := Ground.phase }], guard := none }) rfl (fun KK hK => ?_) AllReadyH.nil)
              · rw [if_pos (by rfl)]
                refine wp_store_mid 24 (.tmp 5) (.tmp 37) rfl vb 0 #[.int .i64 p, .int .i64 e, .int .i64 t, .int .i64 u, .slice none 0 0, .int .i64 0, .int .i64 0] (by rfl) (by rfl) hs.there (by kernel_rfl) (by simp [Value.oneCell']) ?_
                obtain ⟨wz, ez, hs⟩ := hs.storeEx #[.int .i64 p, .int .i64 e, .int .i64 t, .int .i64 u, .slice none 0 0, .int .i64 0, .int .i64 0]
                rw [ez]
                clear ez
                refine hK.out _ _ (trivial) (fun hHeld => ?_)
                clear hK KK
                try simp only [Act.put, List.setIfInBounds_toArray, List.set_cons_zero, List.set_cons_succ]
                refine wpAnyH_done (by kernel_rfl) ?_ _
                clear hHeld
                rw [setAll_allV] at hs
                rotate_left
                · rfl
                go_wp2_with fail
                go_meet
                exact ⟨vb, rfl, hs⟩
        · obtain ⟨wy, vb, ey, er, hs⟩ := hs.allocEx #[.int .i64 0, .int .i64 0, .int .i64 0, .int .i64 0, .slice none 0 0, .int .i64 0, .int .i64 0] 24
          go_simp
          try rw [ey]
          try rw [er]
          clear ey er
          refine hK.out _ _ (trivial) (fun hHeld => ?_)
          clear hK KK
          try simp only [Act.put, List.setIfInBounds_toArray, List.set_cons_zero, List.set_cons_succ]
          refine wpAnyH_ready (rs := [8]) (by kernel_rfl) (by simp) (AllReadyH.cons (o := { dst := some 33, op := Op.call { callee := Callee.value (Operand.func 76), args := #[Operand.tmp 32], argTypes := #[9] }, type := 3, pos := "ref.go:133", after := #[{ on := 7, ground := Ground.data }, { on := 5, ground := Ground.chain }], guard := none }) rfl (fun KK hK => ?_) AllReadyH.nil)
          · go_simp
            go_at_call 76
            with_reducible refine (sr_intT _ ((S.drop 12).take 4) (by first | rfl | simp) t HT.out HT8.out hs).mono ?_
            rintro e wq ⟨rfl, hs⟩
            refine hK.out _ _ (trivial) (fun hHeld => ?_)
            clear hK KK
            try simp only [Act.put, List.setIfInBounds_toArray, List.set_cons_zero, List.set_cons_succ]
            refine wpAnyH_ready (rs := [11]) (by kernel_rfl) (by simp) (AllReadyH.cons (o := { dst := some 36, op := Op.call { callee := Callee.value (Operand.func 76), args := #[Operand.tmp 35], argTypes := #[9] }, type := 3, pos := "ref.go:133", after := #[{ on := 10, ground := Ground.data }, { on := 8, ground := Ground.chain }], guard := none }) rfl (fun KK hK => ?_) AllReadyH.nil)
            · go_simp
              go_at_call 76
              with_reducible refine (sr_intT _ ((S.drop 16).take 1) (by first | rfl | simp) u HU.out HU8.out hs).mono ?_
              rintro e wq ⟨rfl, hs⟩
              refine hK.out _ _ (trivial) (fun hHeld => ?_)
              clear hK KK
              try simp only [Act.put, List.setIfInBounds_toArray, List.set_cons_zero, List.set_cons_succ]
              refine wpAnyH_take (i := 12) (oi := { dst := some 37, op := Op.build 24 #[(0, Operand.tmp 27), (1, Operand.tmp 30), (2, Operand.tmp 33), (3, Operand.tmp 36)], type := 24, pos := "ref.go:133", after := #[{ on := 2, ground := Ground.data }, { on := 5, ground := Ground.data }, { on := 8, ground := Ground.data }, { on := 11, ground := Ground.data }], guard := none }) (v := ?_) rfl (by kernel_rfl) (by kernel_rfl) (by kernel_rfl) (fun _ _ _ h => h) (Or.inl ⟨by rfl, ?_⟩) (by assumption) ?_
              rotate_left
              · intro w hSw; (try dsimp only at hSw); go_simp; try with_reducible rfl
              simp only [Act.put, List.setIfInBounds_toArray, List.set_cons_zero, List.set_cons_succ]
              refine wpAnyH_ready (rs := [14]) (by kernel_rfl) (by simp) (AllReadyH.cons (o := { dst := none, op := Op.store 24 (Operand.tmp 5) (Operand.tmp 37), type := 0, pos := "ref.go:133", after := #[{ on := 13, ground := Ground.data }, { on := 12, ground := Ground.data }, { on := 11, ground := Ground.chain }, { on := 0, ground := Ground.phase }, { on := 1, ground := Ground.phase }, { on := 2, ground := Ground.phase }, { on := 3, ground := Ground.phase }, { on := 4, ground := Ground.phase }, { on := 5, ground := Ground.phase }, { on := 6, ground := Ground.phase }, { on := 7, ground := Ground.phase }, { on := 8, ground := Ground.phase }, { on := 9, ground := Ground.phase }, { on := 10, ground := Ground.phase }, { on := 11, ground := Ground.phase }, { on := 12, ground := Ground.phase }, { on := 13, ground := Ground.phase }], guard := none }) rfl (fun KK hK => ?_) AllReadyH.nil)
              · rw [if_pos (by rfl)]
                refine wp_store_mid 24 (.tmp 5) (.tmp 37) rfl vb 0 #[.int .i64 p, .int .i64 e, .int .i64 t, .int .i64 u, .slice none 0 0, .int .i64 0, .int .i64 0] (by rfl) (by rfl) hs.there (by kernel_rfl) (by simp [Value.oneCell']) ?_
                obtain ⟨wz, ez, hs⟩ := hs.storeEx #[.int .i64 p, .int .i64 e, .int .i64 t, .int .i64 u, .slice none 0 0, .int .i64 0, .int .i64 0]
                rw [ez]
                clear ez
                refine hK.out _ _ (trivial) (fun hHeld => ?_)
                clear hK KK
                try simp only [Act.put, List.setIfInBounds_toArray, List.set_cons_zero, List.set_cons_succ]
                refine wpAnyH_done (by kernel_rfl) ?_ _
                clear hHeld
                rw [setAll_allV] at hs
                rotate_left
                · rfl
                go_wp2_with fail
                go_meet
                exact ⟨vb, rfl, hs⟩
      · obtain ⟨wy, vb, ey, er, hs⟩ := hs.allocEx #[.int .i64 0, .int .i64 0, .int .i64 0, .int .i64 0, .slice none 0 0, .int .i64 0, .int .i64 0] 24
        go_simp
        try rw [ey]
        try rw [er]
        clear ey er
        refine hK.out _ _ (trivial) (fun hHeld => ?_)
        clear hK KK
        try simp only [Act.put, List.setIfInBounds_toArray, List.set_cons_zero, List.set_cons_succ]
        refine wpAnyH_ready (rs := [5]) (by kernel_rfl) (by simp) (AllReadyH.cons (o := { dst := some 30, op := Op.call { callee := Callee.value (Operand.func 76), args := #[Operand.tmp 29], argTypes := #[9] }, type := 3, pos := "ref.go:133", after := #[{ on := 4, ground := Ground.data }, { on := 2, ground := Ground.chain }], guard := none }) rfl (fun KK hK => ?_) AllReadyH.nil)
        · go_simp
          go_at_call 76
          with_reducible refine (sr_intT _ ((S.drop 10).take 2) (by first | rfl | simp) e HE.out HE8.out hs).mono ?_
          rintro e wq ⟨rfl, hs⟩
          refine hK.out _ _ (trivial) (fun hHeld => ?_)
          clear hK KK
          try simp only [Act.put, List.setIfInBounds_toArray, List.set_cons_zero, List.set_cons_succ]
          refine wpAnyH_ready (rs := [8]) (by kernel_rfl) (by simp) (AllReadyH.cons (o := { dst := some 33, op := Op.call { callee := Callee.value (Operand.func 76), args := #[Operand.tmp 32], argTypes := #[9] }, type := 3, pos := "ref.go:133", after := #[{ on := 7, ground := Ground.data }, { on := 5, ground := Ground.chain }], guard := none }) rfl (fun KK hK => ?_) AllReadyH.nil)
          · go_simp
            go_at_call 76
            with_reducible refine (sr_intT _ ((S.drop 12).take 4) (by first | rfl | simp) t HT.out HT8.out hs).mono ?_
            rintro e wq ⟨rfl, hs⟩
            refine hK.out _ _ (trivial) (fun hHeld => ?_)
            clear hK KK
            try simp only [Act.put, List.setIfInBounds_toArray, List.set_cons_zero, List.set_cons_succ]
            refine wpAnyH_ready (rs := [11]) (by kernel_rfl) (by simp) (AllReadyH.cons (o := { dst := some 36, op := Op.call { callee := Callee.value (Operand.func 76), args := #[Operand.tmp 35], argTypes := #[9] }, type := 3, pos := "ref.go:133", after := #[{ on := 10, ground := Ground.data }, { on := 8, ground := Ground.chain }], guard := none }) rfl (fun KK hK => ?_) AllReadyH.nil)
            · go_simp
              go_at_call 76
              with_reducible refine (sr_intT _ ((S.drop 16).take 1) (by first | rfl | simp) u HU.out HU8.out hs).mono ?_
              rintro e wq ⟨rfl, hs⟩
              refine hK.out _ _ (trivial) (fun hHeld => ?_)
              clear hK KK
              try simp only [Act.put, List.setIfInBounds_toArray, List.set_cons_zero, List.set_cons_succ]
              refine wpAnyH_take (i := 12) (oi := { dst := some 37, op := Op.build 24 #[(0, Operand.tmp 27), (1, Operand.tmp 30), (2, Operand.tmp 33), (3, Operand.tmp 36)], type := 24, pos := "ref.go:133", after := #[{ on := 2, ground := Ground.data }, { on := 5, ground := Ground.data }, { on := 8, ground := Ground.data }, { on := 11, ground := Ground.data }], guard := none }) (v := ?_) rfl (by kernel_rfl) (by kernel_rfl) (by kernel_rfl) (fun _ _ _ h => h) (Or.inl ⟨by rfl, ?_⟩) (by assumption) ?_
              rotate_left
              · intro w hSw; (try dsimp only at hSw); go_simp; try with_reducible rfl
              simp only [Act.put, List.setIfInBounds_toArray, List.set_cons_zero, List.set_cons_succ]
              refine wpAnyH_ready (rs := [14]) (by kernel_rfl) (by simp) (AllReadyH.cons (o := { dst := none, op := Op.store 24 (Operand.tmp 5) (Operand.tmp 37), type := 0, pos := "ref.go:133", after := #[{ on := 13, ground := Ground.data }, { on := 12, ground := Ground.data }, { on := 11, ground := Ground.chain }, { on := 0, ground := Ground.phase }, { on := 1, ground := Ground.phase }, { on := 2, ground := Ground.phase }, { on := 3, ground := Ground.phase }, { on := 4, ground := Ground.phase }, { on := 5, ground := Ground.phase }, { on := 6, ground := Ground.phase }, { on := 7, ground := Ground.phase }, { on := 8, ground := Ground.phase }, { on := 9, ground := Ground.phase }, { on := 10, ground := Ground.phase }, { on := 11, ground := Ground.phase }, { on := 12, ground := Ground.phase }, { on := 13, ground := Ground.phase }], guard := none }) rfl (fun KK hK => ?_) AllReadyH.nil)
              · rw [if_pos (by rfl)]
                refine wp_store_mid 24 (.tmp 5) (.tmp 37) rfl vb 0 #[.int .i64 p, .int .i64 e, .int .i64 t, .int .i64 u, .slice none 0 0, .int .i64 0, .int .i64 0] (by rfl) (by rfl) hs.there (by kernel_rfl) (by simp [Value.oneCell']) ?_
                obtain ⟨wz, ez, hs⟩ := hs.storeEx #[.int .i64 p, .int .i64 e, .int .i64 t, .int .i64 u, .slice none 0 0, .int .i64 0, .int .i64 0]
                rw [ez]
                clear ez
                refine hK.out _ _ (trivial) (fun hHeld => ?_)
                clear hK KK
                try simp only [Act.put, List.setIfInBounds_toArray, List.set_cons_zero, List.set_cons_succ]
                refine wpAnyH_done (by kernel_rfl) ?_ _
                clear hHeld
                rw [setAll_allV] at hs
                rotate_left
                · rfl
                go_wp2_with fail
                go_meet
                exact ⟨vb, rfl, hs⟩
    · obtain ⟨wy, vb, ey, er, hs⟩ := hs.allocEx #[.int .i64 0, .int .i64 0, .int .i64 0, .int .i64 0, .slice none 0 0, .int .i64 0, .int .i64 0] 24
      go_simp
      try rw [ey]
      try rw [er]
      clear ey er
      refine hK.out _ _ (trivial) (fun hHeld => ?_)
      clear hK KK
      try simp only [Act.put, List.setIfInBounds_toArray, List.set_cons_zero, List.set_cons_succ]
      refine wpAnyH_ready (rs := [2]) (by kernel_rfl) (by simp) (AllReadyH.cons (o := { dst := some 27, op := Op.call { callee := Callee.value (Operand.func 76), args := #[Operand.tmp 26], argTypes := #[9] }, type := 3, pos := "ref.go:133", after := #[{ on := 1, ground := Ground.data }], guard := none }) rfl (fun KK hK => ?_) AllReadyH.nil)
      · go_simp
        go_at_call 76
        with_reducible refine (sr_intT _ ((S.drop 2).take 8) (by first | rfl | simp) p HP.out HP8.out hs).mono ?_
        rintro e wq ⟨rfl, hs⟩
        refine hK.out _ _ (trivial) (fun hHeld => ?_)
        clear hK KK
        try simp only [Act.put, List.setIfInBounds_toArray, List.set_cons_zero, List.set_cons_succ]
        refine wpAnyH_ready (rs := [5]) (by kernel_rfl) (by simp) (AllReadyH.cons (o := { dst := some 30, op := Op.call { callee := Callee.value (Operand.func 76), args := #[Operand.tmp 29], argTypes := #[9] }, type := 3, pos := "ref.go:133", after := #[{ on := 4, ground := Ground.data }, { on := 2, ground := Ground.chain }], guard := none }) rfl (fun KK hK => ?_) AllReadyH.nil)
        · go_simp
          go_at_call 76
          with_reducible refine (sr_intT _ ((S.drop 10).take 2) (by first | rfl | simp) e HE.out HE8.out hs).mono ?_
          rintro e wq ⟨rfl, hs⟩
          refine hK.out _ _ (trivial) (fun hHeld => ?_)
          clear hK KK
          try simp only [Act.put, List.setIfInBounds_toArray, List.set_cons_zero, List.set_cons_succ]
          refine wpAnyH_ready (rs := [8]) (by kernel_rfl) (by simp) (AllReadyH.cons (o := { dst := some 33, op := Op.call { callee := Callee.value (Operand.func 76), args := #[Operand.tmp 32], argTypes := #[9] }, type := 3, pos := "ref.go:133", after := #[{ on := 7, ground := Ground.data }, { on := 5, ground := Ground.chain }], guard := none }) rfl (fun KK hK => ?_) AllReadyH.nil)
          · go_simp
            go_at_call 76
            with_reducible refine (sr_intT _ ((S.drop 12).take 4) (by first | rfl | simp) t HT.out HT8.out hs).mono ?_
            rintro e wq ⟨rfl, hs⟩
            refine hK.out _ _ (trivial) (fun hHeld => ?_)
            clear hK KK
            try simp only [Act.put, List.setIfInBounds_toArray, List.set_cons_zero, List.set_cons_succ]
            refine wpAnyH_ready (rs := [11]) (by kernel_rfl) (by simp) (AllReadyH.cons (o := { dst := some 36, op := Op.call { callee := Callee.value (Operand.func 76), args := #[Operand.tmp 35], argTypes := #[9] }, type := 3, pos := "ref.go:133", after := #[{ on := 10, ground := Ground.data }, { on := 8, ground := Ground.chain }], guard := none }) rfl (fun KK hK => ?_) AllReadyH.nil)
            · go_simp
              go_at_call 76
              with_reducible refine (sr_intT _ ((S.drop 16).take 1) (by first | rfl | simp) u HU.out HU8.out hs).mono ?_
              rintro e wq ⟨rfl, hs⟩
              refine hK.out _ _ (trivial) (fun hHeld => ?_)
              clear hK KK
              try simp only [Act.put, List.setIfInBounds_toArray, List.set_cons_zero, List.set_cons_succ]
              refine wpAnyH_take (i := 12) (oi := { dst := some 37, op := Op.build 24 #[(0, Operand.tmp 27), (1, Operand.tmp 30), (2, Operand.tmp 33), (3, Operand.tmp 36)], type := 24, pos := "ref.go:133", after := #[{ on := 2, ground := Ground.data }, { on := 5, ground := Ground.data }, { on := 8, ground := Ground.data }, { on := 11, ground := Ground.data }], guard := none }) (v := ?_) rfl (by kernel_rfl) (by kernel_rfl) (by kernel_rfl) (fun _ _ _ h => h) (Or.inl ⟨by rfl, ?_⟩) (by assumption) ?_
              rotate_left
              · intro w hSw; (try dsimp only at hSw); go_simp; try with_reducible rfl
              simp only [Act.put, List.setIfInBounds_toArray, List.set_cons_zero, List.set_cons_succ]
              refine wpAnyH_ready (rs := [14]) (by kernel_rfl) (by simp) (AllReadyH.cons (o := { dst := none, op := Op.store 24 (Operand.tmp 5) (Operand.tmp 37), type := 0, pos := "ref.go:133", after := #[{ on := 13, ground := Ground.data }, { on := 12, ground := Ground.data }, { on := 11, ground := Ground.chain }, { on := 0, ground := Ground.phase }, { on := 1, ground := Ground.phase }, { on := 2, ground := Ground.phase }, { on := 3, ground := Ground.phase }, { on := 4, ground := Ground.phase }, { on := 5, ground := Ground.phase }, { on := 6, ground := Ground.phase }, { on := 7, ground := Ground.phase }, { on := 8, ground := Ground.phase }, { on := 9, ground := Ground.phase }, { on := 10, ground := Ground.phase }, { on := 11, ground := Ground.phase }, { on := 12, ground := Ground.phase }, { on := 13, ground := Ground.phase }], guard := none }) rfl (fun KK hK => ?_) AllReadyH.nil)
              · rw [if_pos (by rfl)]
                refine wp_store_mid 24 (.tmp 5) (.tmp 37) rfl vb 0 #[.int .i64 p, .int .i64 e, .int .i64 t, .int .i64 u, .slice none 0 0, .int .i64 0, .int .i64 0] (by rfl) (by rfl) hs.there (by kernel_rfl) (by simp [Value.oneCell']) ?_
                obtain ⟨wz, ez, hs⟩ := hs.storeEx #[.int .i64 p, .int .i64 e, .int .i64 t, .int .i64 u, .slice none 0 0, .int .i64 0, .int .i64 0]
                rw [ez]
                clear ez
                refine hK.out _ _ (trivial) (fun hHeld => ?_)
                clear hK KK
                try simp only [Act.put, List.setIfInBounds_toArray, List.set_cons_zero, List.set_cons_succ]
                refine wpAnyH_done (by kernel_rfl) ?_ _
                clear hHeld
                rw [setAll_allV] at hs
                rotate_left
                · rfl
                go_wp2_with fail
                go_meet
                exact ⟨vb, rfl, hs⟩
  obtain ⟨vb, rfl, h⟩ := hcut
  clear c0 d0 r0 c1 d1 r1 c2 d2 r2 c3 d3 r3 c4 d4 r4 c5 d5 r5 c6 d6 r6
  have H := Lib.hid h
  clear h
  have c0 := H.out.p1.rawCell 0; have c1 := H.out.p1.rawCell 1; have c2 := H.out.p1.rawCell 2; have c3 := H.out.p1.rawCell 3; have c4 := H.out.p1.rawCell 4; have c5 := H.out.p1.rawCell 5; have c6 := H.out.p1.rawCell 6; simp at c0 c1 c2 c3 c4 c5 c6; have d0 := H.out.p2.rawCell 0; have r0 := H.out.p2.rawFree 0; have d1 := H.out.p2.rawCell 1; have r1 := H.out.p2.rawFree 1; have d2 := H.out.p2.rawCell 2; have r2 := H.out.p2.rawFree 2; have d3 := H.out.p2.rawCell 3; have r3 := H.out.p2.rawFree 3; have d4 := H.out.p2.rawCell 4; have r4 := H.out.p2.rawFree 4; have d5 := H.out.p2.rawCell 5; have r5 := H.out.p2.rawFree 5; have d6 := H.out.p2.rawCell 6; have r6 := H.out.p2.rawFree 6; simp at d0 d1 d2 d3 d4 d5 d6
  go_upto_region 13 with (go_at_call 26; clear HA; (with_reducible refine (ref14_readTopicsT _ (S.drop 17) HTE.out HX.out l m 0 HR.out H.out).mono ?_); rintro e_ wn ⟨v_, lr, rfl, hlr, h⟩; obtain ⟨q, cap, rfl⟩ := tops_form (Know.has_right (Know.has_refl _)) h; have HLR := Lib.hid hlr; clear hlr; clear c0 d0 r0 c1 d1 r1 c2 d2 r2 c3 d3 r3 c4 d4 r4 c5 d5 r5 c6 d6 r6; have f4 := h.rawFree 4; have g4 := h.rawCell 4; simp at g4; have h := (show St W0 (wn.setCell ⟨vb, 4, none⟩ (.slice q lr.length cap)) (K.and (Know.tops (.slice q lr.length cap) lr)) (.raw vb #[.int .i64 p, .int .i64 e, .int .i64 t, .int .i64 u, .slice q lr.length cap, .int .i64 0, .int .i64 0] 24 :: .raw nb #[.int .i64 0, .int .i64 0, .int .i64 0, .int .i64 0, .slice none 0 0, .int .i64 0, .int .i64 0] 24 :: .raw rb #[.int .i64 0, .int .i64 0, .int .i64 0, .int .i64 0, .slice none 0 0, .int .i64 0, .int .i64 0] 24 :: L) from h.rawSet 4 (.slice q lr.length cap)); replace H := Lib.hid h; clear h)
  try rw [HRR.out]
  go_wp2_with (first
    | (go_at_call 76; clear f4 g4; (with_reducible refine (sr_intT _ (R.take 8) (by first | rfl | simp) x HX1.out HX18.out H.out).mono ?_); rintro e_ wn ⟨rfl, h⟩; have f5 := h.rawFree 5; have g5 := h.rawCell 5; simp at g5; have h := (show St W0 (wn.setCell ⟨vb, 5, none⟩ (.int .i64 x)) (K.and (Know.tops (.slice q lr.length cap) lr)) (.raw vb #[.int .i64 p, .int .i64 e, .int .i64 t, .int .i64 u, .slice q lr.length cap, .int .i64 x, .int .i64 0] 24 :: .raw nb #[.int .i64 0, .int .i64 0, .int .i64 0, .int .i64 0, .slice none 0 0, .int .i64 0, .int .i64 0] 24 :: .raw rb #[.int .i64 0, .int .i64 0, .int .i64 0, .int .i64 0, .slice none 0 0, .int .i64 0, .int .i64 0] 24 :: L) from h.rawSet 5 (.int .i64 x)); replace H := Lib.hid h; clear h)
    | (go_at_call 76; clear f5 g5; (with_reducible refine (sr_intT _ (R.drop 8) HTE8.out y HX2.out HX28.out H.out).mono ?_); rintro e_ wn ⟨rfl, h⟩; have f6 := h.rawFree 6; have g6 := h.rawCell 6; simp at g6; have h := (show St W0 (wn.setCell ⟨vb, 6, none⟩ (.int .i64 y)) (K.and (Know.tops (.slice q lr.length cap) lr)) (.raw vb #[.int .i64 p, .int .i64 e, .int .i64 t, .int .i64 u, .slice q lr.length cap, .int .i64 x, .int .i64 y] 24 :: .raw nb #[.int .i64 0, .int .i64 0, .int .i64 0, .int .i64 0, .slice none 0 0, .int .i64 0, .int .i64 0] 24 :: .raw rb #[.int .i64 0, .int .i64 0, .int .i64 0, .int .i64 0, .slice none 0 0, .int .i64 0, .int .i64 0] 24 :: L) from h.rawSet 6 (.int .i64 y)); have b0 := h.rawCell 0; have b1 := h.rawCell 1; have b2 := h.rawCell 2; have b3 := h.rawCell 3; have b4 := h.rawCell 4; have b5 := h.rawCell 5; have b6 := h.rawCell 6; simp at b0 b1 b2 b3 b4 b5 b6; replace H := Lib.hid h; clear h)
    | (go_at_call 16; clear f6 g6 b0 b1 b2 b3 b4 b5 b6; (with_reducible refine (ref14_checkS p e t u x y lr q cap l HLR.out 0 HVE.out (fewT_of (by rw [HLR.out]; exact HFL.out)) (Know.has_right (Know.has_refl _)) H.out).mono ?_); rintro e_ wn ⟨rfl, h⟩; have b0 := h.rawCell 0; have b1 := h.rawCell 1; have b2 := h.rawCell 2; have b3 := h.rawCell 3; have b4 := h.rawCell 4; have b5 := h.rawCell 5; have b6 := h.rawCell 6; simp at b0 b1 b2 b3 b4 b5 b6; have c0 := h.p1.rawCell 0; have c1 := h.p1.rawCell 1; have c2 := h.p1.rawCell 2; have c3 := h.p1.rawCell 3; have c4 := h.p1.rawCell 4; have c5 := h.p1.rawCell 5; have c6 := h.p1.rawCell 6; simp at c0 c1 c2 c3 c4 c5 c6; have d0 := h.p2.rawCell 0; have r0 := h.p2.rawFree 0; have d1 := h.p2.rawCell 1; have r1 := h.p2.rawFree 1; have d2 := h.p2.rawCell 2; have r2 := h.p2.rawFree 2; have d3 := h.p2.rawCell 3; have r3 := h.p2.rawFree 3; have d4 := h.p2.rawCell 4; have r4 := h.p2.rawFree 4; have d5 := h.p2.rawCell 5; have r5 := h.p2.rawFree 5; have d6 := h.p2.rawCell 6; have r6 := h.p2.rawFree 6; simp at d0 d1 d2 d3 d4 d5 d6; replace H := Lib.hid h; clear h))
  have hz : St W0 _ _ (.raw rb #[.int .i64 p, .int .i64 e, .int .i64 t, .int .i64 u, .slice q lr.length cap, .int .i64 x, .int .i64 y] 24 :: _) := St.sets7 _ _ _ _ _ _ _ (H.out.p2)
  refine bodyPost_ret (rc_cell_tmp rfl _ _ rb [.int .i64 p, .int .i64 e, .int .i64 t, .int .i64 u, .slice q lr.length cap, .int .i64 x, .int .i64 y] _ rfl (rc_range hz) Try.underlying24 rfl (by kernel_rfl)) rfl ?_
  exact ⟨q, cap, lr, rfl, HLR.out, hz.drop.drop.drop⟩

end Go.Proofs.Ytombolmicfjjpaa

/- Values, read by definition: any bytes. -/
namespace Go.Proofs.Ytombolmicfjjpaa
open Go.RowKit

theorem ref14_decode_bad (S : Bs) (hsl : S.length ≤ 1000000) (v : ValS) (E : Int) (hv : valDec S = (v, E)) (h0 : E ≠ 0) {W0 w : World} {K : Know} {L : List Res} (h : St W0 w K L) :
    Calls Try.prog 23 #[.string (bb S)] w fun en w' => en = .returned (.tuple #[.agg #[.int .i64 0, .int .i64 0, .int .i64 0, .int .i64 0, .slice none 0 0, .int .i64 0, .int .i64 0], .int .i64 E]) ∧ St W0 w' K L := by
  by_cases c1 : S.length < 2
  · rw [rdec_1 c1] at hv; cases hv; exact rd_1 S hsl c1 h
  obtain ⟨a, ha⟩ : ∃ a, sInt (S.take 2) = a := ⟨_, rfl⟩
  by_cases ha0 : a = 0
  rotate_left
  · rw [rdec_2 (by omega) (by rw [ha]; exact ha0)] at hv; cases hv; exact rd_2 S hsl (by omega) a ha ha0 h
  subst ha0
  by_cases c2 : S.length < 17
  · rw [rdec_3 (by omega) ha c2] at hv; cases hv; exact rd_3 S hsl (by omega) ha c2 h
  obtain ⟨⟨l, m, ef⟩, hr⟩ : ∃ r, topsR (S.drop 17) = r := ⟨_, rfl⟩
  by_cases c3 : ef = 0
  rotate_left
  · rw [rdec_4 ha (by omega) hr c3] at hv; cases hv; exact rd_4 S hsl ha (by omega) _ _ _ _ rfl rfl rfl rfl l m _ hr c3 h
  subst c3
  have hm := topsR_le hr
  rw [List.length_drop] at hm
  have hRl : (S.drop (17 + m)).length = S.length - (17 + m) := List.length_drop
  by_cases c4 : S.length < 17 + m + 16
  · rw [rdec_5 ha (by omega) hr c4] at hv; cases hv; exact rd_5 S hsl ha (by omega) _ _ _ _ rfl rfl rfl rfl l m hr (by omega) _ rfl (by omega) h
  by_cases c5 : 17 + m + 16 < S.length
  · rw [rdec_6 ha (by omega) hr c5] at hv; cases hv; exact rd_6 S hsl ha (by omega) _ _ _ _ rfl rfl rfl rfl l m hr (by omega) _ rfl (by omega) h
  rw [rdec_7 ha (by omega) hr (by omega) _ rfl] at hv
  by_cases c6 : ValS.err ⟨sInt ((S.drop 2).take 8), sInt ((S.drop 10).take 2), sInt ((S.drop 12).take 4), sInt ((S.drop 16).take 1), l, sInt ((S.drop (17 + m)).take 8), sInt ((S.drop (17 + m)).drop 8)⟩ ≠ 0
  · rw [if_pos c6] at hv
    cases hv
    exact rd_7 S hsl ha (by omega) _ _ _ _ rfl rfl rfl rfl l m hr (by omega) _ rfl (by omega) _ _ rfl rfl _ rfl c6 h
  · rw [if_neg c6] at hv
    cases hv
    exact absurd rfl h0
theorem ref14_decode_ok (S : Bs) (hsl : S.length ≤ 1000000) (p e t u x y : Int) (l : List TopS) (hv : valDec S = (⟨p, e, t, u, l, x, y⟩, 0)) {W0 w : World} {K : Know} {L : List Res} (h : St W0 w K L) :
    Calls Try.prog 23 #[.string (bb S)] w fun en w' => ∃ (q : Option Addr) (cap : Nat) (lr : List (TopS × Value)), en = .returned (.tuple #[.agg #[.int .i64 p, .int .i64 e, .int .i64 t, .int .i64 u, .slice q lr.length cap, .int .i64 x, .int .i64 y], .int .i64 0]) ∧ lr.map (·.1) = l ∧ St W0 w' (K.and (Know.tops (.slice q lr.length cap) lr)) L := by
  have one : ∀ v : ValS, ∀ k : Int, k ≠ 0 → (v, k) = ((⟨p, e, t, u, l, x, y⟩ : ValS), (0 : Int)) → False := fun v k hk h => by cases h; exact hk rfl
  by_cases c1 : S.length < 2
  · rw [rdec_1 c1] at hv; exact (one _ _ (by decide) hv).elim
  by_cases ha0 : sInt (S.take 2) = 0
  rotate_left
  · rw [rdec_2 (by omega) ha0] at hv; exact (one _ _ (by decide) hv).elim
  by_cases c2 : S.length < 17
  · rw [rdec_3 (by omega) ha0 c2] at hv; exact (one _ _ (by decide) hv).elim
  obtain ⟨⟨l2, m, ef⟩, hr⟩ : ∃ r, topsR (S.drop 17) = r := ⟨_, rfl⟩
  by_cases c3 : ef = 0
  rotate_left
  · rw [rdec_4 ha0 (by omega) hr c3] at hv; exact (one _ _ c3 hv).elim
  subst c3
  have hm := topsR_le hr
  rw [List.length_drop] at hm
  have hRl : (S.drop (17 + m)).length = S.length - (17 + m) := List.length_drop
  by_cases c4 : S.length < 17 + m + 16
  · rw [rdec_5 ha0 (by omega) hr c4] at hv; exact (one _ _ (by decide) hv).elim
  by_cases c5 : 17 + m + 16 < S.length
  · rw [rdec_6 ha0 (by omega) hr c5] at hv; exact (one _ _ (by decide) hv).elim
  rw [rdec_7 ha0 (by omega) hr (by omega) _ rfl] at hv
  by_cases c6 : ValS.err ⟨sInt ((S.drop 2).take 8), sInt ((S.drop 10).take 2), sInt ((S.drop 12).take 4), sInt ((S.drop 16).take 1), l2, sInt ((S.drop (17 + m)).take 8), sInt ((S.drop (17 + m)).drop 8)⟩ ≠ 0
  · rw [if_pos c6] at hv
    exact (one _ _ c6 hv).elim
  · rw [if_neg c6] at hv
    simp only [Prod.mk.injEq, ValS.mk.injEq, and_true] at hv
    obtain ⟨rfl, rfl, rfl, rfl, rfl, rfl, rfl⟩ := hv
    exact rd_8 S hsl ha0 (by omega) _ _ _ _ rfl rfl rfl rfl _ m hr (by omega) _ rfl (by omega) _ _ rfl rfl (by simpa using c6) h
theorem valDec_zero {S : Bs} {v : ValS} {E : Int} (hv : valDec S = (v, E)) (h0 : E ≠ 0) : v = ValS.z := by
  unfold valDec at hv
  split at hv
  · cases hv; rfl
  · split at hv
    · cases hv; rfl
    · cases hv; exact absurd rfl h0

end Go.Proofs.Ytombolmicfjjpaa
