/- Lines of scripts, refused. -/
import Derived.Test.YtenojajfacacoaaDoorGScriptBackCard3
import Derived.Test.YtenojajfacacoaaDoorGScriptBackCard2
import Derived.Test.YtenojajfacacoaaDoorRegOp
import Derived.RegionTactic
import Derived.WalkMore
import Derived.Deep.RegionHeld3
import Derived.Deep.DeepCutAuto
import Derived.Test.YtenojajfacacoaaDoorSc9P
/- Lines of scripts: a header. -/
namespace Go.Proofs.YtenojajfacacoaaDoor
open Go.RowKit

set_option maxHeartbeats 8000000 in
set_option maxRecDepth 100000 in
theorem rd_header (rd wb off cap g bcap k n gr rcap j m p : Nat) (vH ch : Value) (c : Int) (xs rs us : List Value) (kw vw kd vd : Bs) (vn kok vok : Bool) (hn : n = k + 1) (hm1 : m = j + 1) (hxs : xs[k * 12 + 11]? = some (.slice (some ⟨gr, 0, none⟩) m rcap)) (hrs : rs[j * 7 + 6]? = some vH) (hkb : hexV kw = (kd, kok)) (hvb : blobV vw = (vn, vd, vok)) (hxl : ∀ y ∈ [kw, vw], y.length ≤ 1000000) (hn6 : n ≤ 1000000) (hm : m ≤ 1000000) (hp : p ≤ 1000000) (hcap : 2 ≤ cap) {W0 w : World} {K : Know} {L : List Res} (hlib : K.has Know.lib) (hk : K.has (Know.strs wb off [kw, vw])) (h : St W0 w K (.raw rd #[(.slice (some ⟨g, 0, none⟩) n bcap), .int .i64 c, ch] 65 :: .row (.slice (some ⟨g, 0, none⟩) n bcap) 45 12 n xs :: .row (.slice (some ⟨gr, 0, none⟩) m rcap) 51 7 m rs :: .row vH 54 3 p us :: L)) :
    Calls Tryd.prog 46 #[.pointer (some ⟨rd, 0, none⟩), .slice (some ⟨wb, off, none⟩) 2 cap] w fun en w' => ∃ vH', en = .returned (.bool (kok && vok)) ∧ St W0 w' K (.raw rd #[(.slice (some ⟨g, 0, none⟩) n bcap), .int .i64 c, ch] 65 :: .row (.slice (some ⟨g, 0, none⟩) n bcap) 45 12 n xs :: .row (.slice (some ⟨gr, 0, none⟩) m rcap) 51 7 m (rs.set (j * 7 + 6) vH') :: .row vH' 54 3 (p + 1) (us ++ [.string (bb kd), .bool vn, .string (bb vd)]) :: L) := by
  have H := Lib.hid h
  have C0 := Lib.hid (show ∀ (w' : World) (L' : List Res), St W0 w' K L' → w'.cell? ⟨wb, off, none⟩ = some (.string (bb kw)) from strs_fact hk 0 kw rfl)
  have C1 := Lib.hid (strs_fact (W0 := W0) hk 1 vw rfl)
  have HLIB := Lib.hid hlib
  have HRS := Lib.hid hrs
  have HKB := Lib.hid hkb
  have HVB := Lib.hid hvb
  have HKWL := Lib.hid (hxl kw (by simp))
  have HVWL := Lib.hid (hxl vw (by simp))
  have HP := Lib.hid hp
  have HJ := Lib.hid (show k * 12 + 11 < n * 12 by omega)
  have HJR := Lib.hid (show j * 7 + 6 < m * 7 by omega)
  have z0 : w.cell? ⟨rd, 0, none⟩ = some (.slice (some ⟨g, 0, none⟩) n bcap) := h.rawCell 0
  have z1 : w.cell? ⟨g, k * 12 + 11, none⟩ = some (.slice (some ⟨gr, 0, none⟩) m rcap) := (h.p1.rowCell (k * 12 + 11) HJ.out).trans hxs
  have q0 : ((n : Int) == 0) = false := by rw [beq_eq_false_iff_ne]; omega
  have q1 : (n : Int) - 1 = (k : Int) := by omega
  have q3 : (k : Int) < (n : Int) := by omega
  have q5 : (k : Int) ≤ 1000000 := by omega
  have r0 : ((m : Int) == 0) = false := by rw [beq_eq_false_iff_ne]; omega
  have r1 : (m : Int) - 1 = (j : Int) := by omega
  have r3 : (j : Int) < (m : Int) := by omega
  have r5 : (j : Int) ≤ 1000000 := by omega
  clear h hk hlib hxs hrs hkb hvb hxl hcap hm hn hn6 hm1 hp
  go_enter Tryd.func46, Tryd.ntmps46
  go_upto_region 3 with fail
  go_region
  all_goals
    have c0 := C0.out _ _ H.out.drew
    replace H := Lib.hid H.out.drew
    clear z0 z1
    go_upto_region 9 with (first
    | (go_at_call 16; (try clear c0); (with_reducible refine (sc_bytes kw HKWL.out H.out).mono ?_); rintro e_ wn ⟨rfl, h⟩; rw [HKB.out]; have c1 := C1.out _ _ h; replace H := Lib.hid h; clear h)
    | (go_at_call 58; (try clear c1); (with_reducible refine (sc_readBlob vw vd vn vok HVB.out HVWL.out H.out).mono ?_); rintro e_ wn ⟨rfl, h⟩; obtain ⟨vb, hvb⟩ : ∃ y, wn.heap.size = y := ⟨_, rfl⟩; have h := h.allocRaw #[.bool vn, .string (bb vd)] 48; rw [hvb] at h; replace H := Lib.hid h; clear h))
  have K9 := Lib.hid (show ∀ (w1 : World) (L1 : List Res), St W0 w1 K (.raw vb #[.bool vn, .string (bb vd)] 48 :: L1) → (w1.cell? ⟨vb, 0, none⟩ = some (.bool vn) ∧ w1.cell? ⟨vb, 1, none⟩ = some (.string (bb vd))) from fun w1 L1 h1 => ⟨h1.rawCell 0, h1.rawCell 1⟩)
  have hs := H.out.drew
  clear H
  refine wp_region_held_drew (S := fun w' => w'.cell? ⟨vb, 0, none⟩ = some (.bool vn) ∧ w'.cell? ⟨vb, 1, none⟩ = some (.string (bb vd))) (by kernel_rfl) (K9.out _ _ (hs)) (fun hHeld => ?_)
  refine wpAnyH_take (i := 0) (oi := { dst := some 60, op := Op.move (Operand.tmp 10), type := 100, pos := "parse.go:101", after := #[], guard := none }) (v := ?_) rfl (by kernel_rfl) (by kernel_rfl) (by kernel_rfl) (fun _ _ _ h => h) (Or.inl ⟨by rfl, ?_⟩) (by assumption) ?_
  rotate_left
  · intro w hSw; (try dsimp only at hSw); go_simp; try with_reducible rfl
  simp only [Act.put, List.setIfInBounds_toArray, List.set_cons_zero, List.set_cons_succ]
  refine wpAnyH_take (i := 1) (oi := { dst := some 61, op := Op.move (Operand.tmp 10), type := 100, pos := "parse.go:101", after := #[], guard := none }) (v := ?_) rfl (by kernel_rfl) (by kernel_rfl) (by kernel_rfl) (fun _ _ _ h => h) (Or.inl ⟨by rfl, ?_⟩) (by assumption) ?_
  rotate_left
  · intro w hSw; (try dsimp only at hSw); go_simp; try with_reducible rfl
  simp only [Act.put, List.setIfInBounds_toArray, List.set_cons_zero, List.set_cons_succ]
  refine wpAnyH_take (i := 2) (oi := { dst := some 62, op := Op.nilCheck (Operand.tmp 61), type := 0, pos := "parse.go:101", after := #[{ on := 1, ground := Ground.data }], guard := none }) (v := ?_) rfl (by kernel_rfl) (by kernel_rfl) (by kernel_rfl) (fun _ _ _ h => h) (Or.inl ⟨by rfl, ?_⟩) (by assumption) ?_
  rotate_left
  · intro w hSw; (try dsimp only at hSw); go_simp; try with_reducible rfl
  simp only [Act.put, List.setIfInBounds_toArray, List.set_cons_zero, List.set_cons_succ]
  refine wpAnyH_take (i := 3) (oi := { dst := some 63, op := Op.fieldAddr 51 (Operand.tmp 62) 4, type := 0, pos := "parse.go:101", after := #[{ on := 2, ground := Ground.data }], guard := none }) (v := ?_) rfl (by kernel_rfl) (by kernel_rfl) (by kernel_rfl) (fun _ _ _ h => h) (Or.inl ⟨by rfl, ?_⟩) (by assumption) ?_
  rotate_left
  · intro w hSw; (try dsimp only at hSw); go_simp; try with_reducible rfl
  simp only [Act.put, List.setIfInBounds_toArray, List.set_cons_zero, List.set_cons_succ]
  refine wpAnyH_take (i := 5) (oi := { dst := some 65, op := Op.move (Operand.tmp 6), type := 9, pos := "parse.go:101", after := #[], guard := none }) (v := ?_) rfl (by kernel_rfl) (by kernel_rfl) (by kernel_rfl) (fun _ _ _ h => h) (Or.inl ⟨by rfl, ?_⟩) (by assumption) ?_
  rotate_left
  · intro w hSw; (try dsimp only at hSw); go_simp; try with_reducible rfl
  simp only [Act.put, List.setIfInBounds_toArray, List.set_cons_zero, List.set_cons_succ]
  refine wpAnyH_take (i := 6) (oi := { dst := some 66, op := Op.load 48 (Operand.tmp 8), type := 48, pos := "parse.go:101", after := #[], guard := none }) (v := ?_) rfl (by kernel_rfl) (by kernel_rfl) (by kernel_rfl) (fun _ _ _ h => h) (Or.inl ⟨by rfl, ?_⟩) (by assumption) ?_
  rotate_left
  · intro w hSw; (try dsimp only at hSw); go_simp; try with_reducible rfl
  simp only [Act.put, List.setIfInBounds_toArray, List.set_cons_zero, List.set_cons_succ]
  refine wpAnyH_take (i := 7) (oi := { dst := some 67, op := Op.build 54 #[(0, Operand.tmp 65), (1, Operand.tmp 66)], type := 54, pos := "parse.go:101", after := #[{ on := 5, ground := Ground.data }, { on := 6, ground := Ground.data }], guard := none }) (v := ?_) rfl (by kernel_rfl) (by kernel_rfl) (by kernel_rfl) (fun _ _ _ h => h) (Or.inl ⟨by rfl, ?_⟩) (by assumption) ?_
  rotate_left
  · intro w hSw; (try dsimp only at hSw); go_simp; try with_reducible rfl
  simp only [Act.put, List.setIfInBounds_toArray, List.set_cons_zero, List.set_cons_succ]
  refine wpAnyH_ready (rs := [4, 8]) (by kernel_rfl) (by simp) (AllReadyH.cons (o := { dst := some 64, op := Op.load 49 (Operand.tmp 63), type := 49, pos := "parse.go:101", after := #[{ on := 3, ground := Ground.data }], guard := none }) rfl (fun KK hK => ?_) (AllReadyH.cons (o := { dst := some 68, op := Op.buildSlice 49 1 #[(0, Operand.tmp 67)], type := 49, pos := "parse.go:101", after := #[{ on := 7, ground := Ground.data }], guard := none }) rfl (fun KK hK => ?_) AllReadyH.nil))
  · have z3 := (hs.p3.rowCell (j * 7 + 6) HJR.out).trans HRS.out
    go_simp
    refine hK.out _ _ (K9.out _ _ (hs)) (fun hHeld => ?_)
    clear hK KK
    try simp only [Act.put, List.setIfInBounds_toArray, List.set_cons_zero, List.set_cons_succ]
    clear z3
    refine wpAnyH_ready (rs := [8]) (by kernel_rfl) (by simp) (AllReadyH.cons (o := { dst := some 68, op := Op.buildSlice 49 1 #[(0, Operand.tmp 67)], type := 49, pos := "parse.go:101", after := #[{ on := 7, ground := Ground.data }], guard := none }) rfl (fun KK hK => ?_) AllReadyH.nil)
    · rw [if_pos (by rfl)]
      refine op_value (exec_buildH _ _ _ _ (by kernel_rfl) (buildH vn (bb kd) (bb vd) _)) ?_
      obtain ⟨wy, b2, ey, eb, hs⟩ := hs.allocEx #[.string (bb kd), .bool vn, .string (bb vd)] 54
      rw [ey, eb]
      clear ey eb
      refine hK.out _ _ (K9.out _ _ (hs.p1)) (fun hHeld => ?_)
      clear hK KK
      try simp only [Act.put, List.setIfInBounds_toArray, List.set_cons_zero, List.set_cons_succ]
      refine wpAnyH_ready (rs := [9]) (by kernel_rfl) (by simp) (AllReadyH.cons (o := { dst := some 69, op := Op.call { callee := Callee.builtin Builtin.append, args := #[Operand.tmp 64, Operand.tmp 68], argTypes := #[49, 49] }, type := 49, pos := "parse.go:101", after := #[{ on := 4, ground := Ground.data }, { on := 8, ground := Ground.data }], guard := none }) rfl (fun KK hK => ?_) AllReadyH.nil)
      · have hs := hs.p5.p1
        rw [if_pos (by rfl)]
        refine op_app1 (.tmp 64) (.tmp 68) 49 rfl 54 Tryd.underlying49 elem_hdrS _ _ _ (by rfl) b2 #[.string (bb kd), .bool vn, .string (bb vd)] 54 hs (by rfl) rfl (by simp [Value.oneCell']) (by have := HP.out; unfold maxLen; omega) (by have := HP.out; omega) (fun v' w' h => ?_)
        have hs := h
        clear h
        obtain ⟨qv, cv, hv⟩ := hs.rowAny
        subst hv
        refine hK.out _ _ (K9.out _ _ (hs.p1)) (fun hHeld => ?_)
        clear hK KK
        try simp only [Act.put, List.setIfInBounds_toArray, List.set_cons_zero, List.set_cons_succ]
        refine wpAnyH_take (i := 10) (oi := { dst := some 70, op := Op.nilCheck (Operand.tmp 60), type := 0, pos := "parse.go:101", after := #[{ on := 0, ground := Ground.data }, { on := 0, ground := Ground.phase }, { on := 1, ground := Ground.phase }, { on := 2, ground := Ground.phase }, { on := 3, ground := Ground.phase }, { on := 4, ground := Ground.phase }, { on := 5, ground := Ground.phase }, { on := 6, ground := Ground.phase }, { on := 7, ground := Ground.phase }, { on := 8, ground := Ground.phase }, { on := 9, ground := Ground.phase }], guard := none }) (v := ?_) rfl (by kernel_rfl) (by kernel_rfl) (by kernel_rfl) (fun _ _ _ h => h) (Or.inl ⟨by rfl, ?_⟩) (by assumption) ?_
        rotate_left
        · intro w hSw; (try dsimp only at hSw); go_simp; try with_reducible rfl
        simp only [Act.put, List.setIfInBounds_toArray, List.set_cons_zero, List.set_cons_succ]
        refine wpAnyH_take (i := 11) (oi := { dst := some 71, op := Op.fieldAddr 51 (Operand.tmp 70) 4, type := 0, pos := "parse.go:101", after := #[{ on := 10, ground := Ground.data }, { on := 0, ground := Ground.phase }, { on := 1, ground := Ground.phase }, { on := 2, ground := Ground.phase }, { on := 3, ground := Ground.phase }, { on := 4, ground := Ground.phase }, { on := 5, ground := Ground.phase }, { on := 6, ground := Ground.phase }, { on := 7, ground := Ground.phase }, { on := 8, ground := Ground.phase }, { on := 9, ground := Ground.phase }], guard := none }) (v := ?_) rfl (by kernel_rfl) (by kernel_rfl) (by kernel_rfl) (fun _ _ _ h => h) (Or.inl ⟨by rfl, ?_⟩) (by assumption) ?_
        rotate_left
        · intro w hSw; (try dsimp only at hSw); go_simp; try with_reducible rfl
        simp only [Act.put, List.setIfInBounds_toArray, List.set_cons_zero, List.set_cons_succ]
        refine wpAnyH_ready (rs := [12]) (by kernel_rfl) (by simp) (AllReadyH.cons (o := { dst := none, op := Op.store 49 (Operand.tmp 71) (Operand.tmp 69), type := 0, pos := "parse.go:101", after := #[{ on := 11, ground := Ground.data }, { on := 9, ground := Ground.data }, { on := 9, ground := Ground.chain }, { on := 0, ground := Ground.phase }, { on := 1, ground := Ground.phase }, { on := 2, ground := Ground.phase }, { on := 3, ground := Ground.phase }, { on := 4, ground := Ground.phase }, { on := 5, ground := Ground.phase }, { on := 6, ground := Ground.phase }, { on := 7, ground := Ground.phase }, { on := 8, ground := Ground.phase }, { on := 9, ground := Ground.phase }], guard := none }) rfl (fun KK hK => ?_) AllReadyH.nil)
        · have hs := hs.p4
          have q1 := hs.rowFree (j * 7 + 6)
          have z3 := (hs.rowCell (j * 7 + 6) HJR.out).trans HRS.out
          rw [if_pos (by rfl)]
          refine op_skip (w' := w'.setCell ⟨gr, j * 7 + 6, none⟩ (.slice qv (p + 1) cv)) (by go_simp) ?_
          obtain ⟨wz, ez, hs⟩ := hs.rowSetEx (j * 7 + 6) (.slice qv (p + 1) cv)
          rw [ez]
          clear ez q1 z3
          refine hK.out _ _ (K9.out _ _ (hs.p2)) (fun hHeld => ?_)
          clear hK KK
          try simp only [Act.put]
          refine wpAnyH_done (by kernel_rfl) ?_ _
          clear hHeld
          have H := Lib.hid hs
          clear hs
          cases kok <;> (go_wp2_with fail; go_ret; exact ⟨rfl, _, H.out.p2.drop.p3.p3⟩)
  · rw [if_pos (by rfl)]
    refine op_value (exec_buildH _ _ _ _ (by kernel_rfl) (buildH vn (bb kd) (bb vd) _)) ?_
    obtain ⟨wy, b2, ey, eb, hs⟩ := hs.allocEx #[.string (bb kd), .bool vn, .string (bb vd)] 54
    rw [ey, eb]
    clear ey eb
    refine hK.out _ _ (K9.out _ _ (hs.p1)) (fun hHeld => ?_)
    clear hK KK
    try simp only [Act.put, List.setIfInBounds_toArray, List.set_cons_zero, List.set_cons_succ]
    refine wpAnyH_ready (rs := [4]) (by kernel_rfl) (by simp) (AllReadyH.cons (o := { dst := some 64, op := Op.load 49 (Operand.tmp 63), type := 49, pos := "parse.go:101", after := #[{ on := 3, ground := Ground.data }], guard := none }) rfl (fun KK hK => ?_) AllReadyH.nil)
    · have z3 := (hs.p4.rowCell (j * 7 + 6) HJR.out).trans HRS.out
      go_simp
      refine hK.out _ _ (K9.out _ _ (hs.p1)) (fun hHeld => ?_)
      clear hK KK
      try simp only [Act.put, List.setIfInBounds_toArray, List.set_cons_zero, List.set_cons_succ]
      clear z3
      refine wpAnyH_ready (rs := [9]) (by kernel_rfl) (by simp) (AllReadyH.cons (o := { dst := some 69, op := Op.call { callee := Callee.builtin Builtin.append, args := #[Operand.tmp 64, Operand.tmp 68], argTypes := #[49, 49] }, type := 49, pos := "parse.go:101", after := #[{ on := 4, ground := Ground.data }, { on := 8, ground := Ground.data }], guard := none }) rfl (fun KK hK => ?_) AllReadyH.nil)
      · have hs := hs.p5.p1
        rw [if_pos (by rfl)]
        refine op_app1 (.tmp 64) (.tmp 68) 49 rfl 54 Tryd.underlying49 elem_hdrS _ _ _ (by rfl) b2 #[.string (bb kd), .bool vn, .string (bb vd)] 54 hs (by rfl) rfl (by simp [Value.oneCell']) (by have := HP.out; unfold maxLen; omega) (by have := HP.out; omega) (fun v' w' h => ?_)
        have hs := h
        clear h
        obtain ⟨qv, cv, hv⟩ := hs.rowAny
        subst hv
        refine hK.out _ _ (K9.out _ _ (hs.p1)) (fun hHeld => ?_)
        clear hK KK
        try simp only [Act.put, List.setIfInBounds_toArray, List.set_cons_zero, List.set_cons_succ]
        refine wpAnyH_take (i := 10) (oi := { dst := some 70, op := Op.nilCheck (Operand.tmp 60), type := 0, pos := "parse.go:101", after := #[{ on := 0, ground := Ground.data }, { on := 0, ground := Ground.phase }, { on := 1, ground := Ground.phase }, { on := 2, ground := Ground.phase }, { on := 3, ground := Ground.phase }, { on := 4, ground := Ground.phase }, { on := 5, ground := Ground.phase }, { on := 6, ground := Ground.phase }, { on := 7, ground := Ground.phase }, { on := 8, ground := Ground.phase }, { on := 9, ground := Ground.phase }], guard := none }) (v := ?_) rfl (by kernel_rfl) (by kernel_rfl) (by kernel_rfl) (fun _ _ _ h => h) (Or.inl ⟨by rfl, ?_⟩) (by assumption) ?_
        rotate_left
        · intro w hSw; (try dsimp only at hSw); go_simp; try with_reducible rfl
        simp only [Act.put, List.setIfInBounds_toArray, List.set_cons_zero, List.set_cons_succ]
        refine wpAnyH_take (i := 11) (oi := { dst := some 71, op := Op.fieldAddr 51 (Operand.tmp 70) 4, type := 0, pos := "parse.go:101", after := #[{ on := 10, ground := Ground.data }, { on := 0, ground := Ground.phase }, { on := 1, ground := Ground.phase }, { on := 2, ground := Ground.phase }, { on := 3, ground := Ground.phase }, { on := 4, ground := Ground.phase }, { on := 5, ground := Ground.phase }, { on := 6, ground := Ground.phase }, { on := 7, ground := Ground.phase }, { on := 8, ground := Ground.phase }, { on := 9, ground := Ground.phase }], guard := none }) (v := ?_) rfl (by kernel_rfl) (by kernel_rfl) (by kernel_rfl) (fun _ _ _ h => h) (Or.inl ⟨by rfl, ?_⟩) (by assumption) ?_
        rotate_left
        · intro w hSw; (try dsimp only at hSw); go_simp; try with_reducible rfl
        simp only [Act.put, List.setIfInBounds_toArray, List.set_cons_zero, List.set_cons_succ]
        refine wpAnyH_ready (rs := [12]) (by kernel_rfl) (by simp) (AllReadyH.cons (o := { dst := none, op := Op.store 49 (Operand.tmp 71) (Operand.tmp 69), type := 0, pos := "parse.go:101", after := #[{ on := 11, ground := Ground.data }, { on := 9, ground := Ground.data }, { on := 9, ground := Ground.chain }, { on := 0, ground := Ground.phase }, { on := 1, ground := Ground.phase }, { on := 2, ground := Ground.phase }, { on := 3, ground := Ground.phase }, { on := 4, ground := Ground.phase }, { on := 5, ground := Ground.phase }, { on := 6, ground := Ground.phase }, { on := 7, ground := Ground.phase }, { on := 8, ground := Ground.phase }, { on := 9, ground := Ground.phase }], guard := none }) rfl (fun KK hK => ?_) AllReadyH.nil)
        · have hs := hs.p4
          have q1 := hs.rowFree (j * 7 + 6)
          have z3 := (hs.rowCell (j * 7 + 6) HJR.out).trans HRS.out
          rw [if_pos (by rfl)]
          refine op_skip (w' := w'.setCell ⟨gr, j * 7 + 6, none⟩ (.slice qv (p + 1) cv)) (by go_simp) ?_
          obtain ⟨wz, ez, hs⟩ := hs.rowSetEx (j * 7 + 6) (.slice qv (p + 1) cv)
          rw [ez]
          clear ez q1 z3
          refine hK.out _ _ (K9.out _ _ (hs.p2)) (fun hHeld => ?_)
          clear hK KK
          try simp only [Act.put]
          refine wpAnyH_done (by kernel_rfl) ?_ _
          clear hHeld
          have H := Lib.hid hs
          clear hs
          cases kok <;> (go_wp2_with fail; go_ret; exact ⟨rfl, _, H.out.p2.drop.p3.p3⟩)

end Go.Proofs.YtenojajfacacoaaDoor
/- Lines of scripts: headers, in all. -/
namespace Go.Proofs.YtenojajfacacoaaDoor
open Go.RowKit

theorem k_hdr (rd wb off cap : Nat) (s : BSt) (q : Option Addr) (vB vR vH : Value) (r : List Bs) (hx : ∀ y ∈ r, y.length ≤ 1000000) (hr : r.length ≤ 1000000) (hb : s.n ≤ 1000000 ∧ s.m ≤ 1000000 ∧ s.p ≤ 1000000) {W0 w : World} {K : Know} {L : List Res} (hlib : K.has Know.lib) (hs : s.known K) (hk : K.has (Know.strs wb off r)) (h : St W0 w K (.raw rd #[vB, .int .i64 (-1), .slice q 0 cap] 65 :: s.rows vB vR vH L)) :
    Calls Tryd.prog 46 #[.pointer (some ⟨rd, 0, none⟩), .slice (some ⟨wb, off, none⟩) r.length r.length] w fun en w' => ∃ b, en = .returned (.bool b) ∧ Came rd s (-1) [] (if s.n = 0 ∨ s.m = 0 then none else (rdHdr r).map .hdr) W0 K L b w' := by
  cases s with
  | zero =>
    obtain ⟨qb, cb, hv⟩ := h.p1.rowAny
    subst hv
    refine (rd_header_none rd wb off r.length 0 cb qb _ (-1) r.length rfl h).mono ?_
    rintro en w' ⟨rfl, h⟩
    exact ⟨_, rfl, .no rfl (rows_drop (s := .zero) h)⟩
  | bat d b =>
    obtain ⟨g, bcap, hv⟩ := h.p1.rowSlice (Nat.succ_pos _)
    subst hv
    by_cases h2 : r.length = 2
    · rw [h2]
      obtain ⟨qr, rcap, hv⟩ := h.p2.rowAny
      subst hv
      refine (rd_header_norec rd wb off 2 g bcap d.length (d.length + 1) rcap qr _ (-1) _ rfl hb.1 (xs_at d b _) h).mono ?_
      rintro en w' ⟨rfl, h⟩
      exact ⟨_, rfl, .no (if_pos (.inr rfl)) h.drop.drop⟩
    · refine (rd_header_len rd wb off r.length (d.length + 1) bcap _ _ (-1) r.length (by omega) h2 h).mono ?_
      rintro en w' ⟨rfl, h⟩
      exact ⟨_, rfl, .no (if_pos (.inr rfl)) (rows_drop (s := .bat d b) h)⟩
  | recd d b l r0 =>
    obtain ⟨g, bcap, hv⟩ := h.p1.rowSlice (Nat.succ_pos _)
    subst hv
    have hif : (if (BSt.recd d b l r0).n = 0 ∨ (BSt.recd d b l r0).m = 0 then none else (rdHdr r).map Said.hdr) = (rdHdr r).map Said.hdr := if_neg (by simp [BSt.n, BSt.m])
    rw [hif]
    by_cases h2 : r.length = 2
    · obtain ⟨kw, vw, rfl⟩ : ∃ kw vw, r = [kw, vw] := by
        rcases r with _ | ⟨a, _ | ⟨b, _ | ⟨c, t⟩⟩⟩ <;> simp at h2
        exact ⟨a, b, rfl⟩
      obtain ⟨gr, rcap, hv⟩ := h.p2.rowSlice (Nat.succ_pos _)
      subst hv
      obtain ⟨kd, kok, hkd⟩ : ∃ kd kok, hexV kw = (kd, kok) := ⟨_, _, rfl⟩
      obtain ⟨vn, vd, vok, hvd⟩ : ∃ vn vd vok, blobV vw = (vn, vd, vok) := ⟨_, _, _, rfl⟩
      refine (rd_header rd wb off 2 g bcap d.length (d.length + 1) gr rcap l.length (l.length + 1) r0.hdrs.length vH _ (-1) _ _ _ kw vw kd vd vn kok vok rfl rfl (xs_at d b _) (ys_at l r0 vH) hkd hvd hx hb.1 hb.2.1 hb.2.2 (Nat.le_refl 2) hlib hk h).mono ?_
      rintro en w' ⟨vH', rfl, h2⟩
      refine ⟨_, rfl, ?_⟩
      have e : rdHdr [kw, vw] = if kok && vok then some ⟨kd, ⟨vn, vd⟩⟩ else none := by show (if (hexV kw).2 && (blobV vw).2.2 then some (⟨(hexV kw).1, ⟨(blobV vw).1, (blobV vw).2.1⟩⟩ : HdrS) else none) = _; rw [hkd, hvd]
      rw [ys_set] at h2
      cases hl : (kok && vok) with
      | false =>
        rw [hl] at e
        exact .no (by rw [e]; rfl) h2.drop.drop.drop.drop
      | true =>
        rw [hl] at e
        have e9 : (rdHdr [kw, vw]).map Said.hdr = some (.hdr ⟨kd, ⟨vn, vd⟩⟩) := by rw [e]; rfl
        refine .yes e9 (Know.has_refl _) (.slice (some ⟨gr, 0, none⟩) (l.length + 1) rcap) vH ⟨.slice (some ⟨g, 0, none⟩) (d.length + 1) bcap, .slice (some ⟨gr, 0, none⟩) (l.length + 1) rcap, vH', q, cap, ?_, hs, fun w F hh => ⟨q, cap, rfl, fun h0 => absurd h0 (Nat.lt_irrefl 0)⟩⟩
        have e7 : (r0.hdrs ++ [(⟨kd, ⟨vn, vd⟩⟩ : HdrS)]).flatMap hcells = r0.hdrs.flatMap hcells ++ [.string (bb kd), .bool vn, .string (bb vd)] := flat_snoc _ _ _
        have e6 : (r0.hdrs ++ [(⟨kd, ⟨vn, vd⟩⟩ : HdrS)]).length = r0.hdrs.length + 1 := by simp
        show St _ _ _ (_ :: _ :: _ :: .row vH' _ 3 (r0.hdrs ++ [(⟨kd, ⟨vn, vd⟩⟩ : HdrS)]).length ((r0.hdrs ++ [(⟨kd, ⟨vn, vd⟩⟩ : HdrS)]).flatMap hcells) :: _)
        rw [e7, e6]
        exact h2
    · refine (rd_header_len rd wb off r.length (d.length + 1) bcap _ _ (-1) r.length (by omega) h2 h).mono ?_
      rintro en w' ⟨rfl, h⟩
      refine ⟨_, rfl, .no ?_ (rows_drop (s := .recd d b l r0) h)⟩
      have e : rdHdr r = none := by
        rcases r with _ | ⟨a, _ | ⟨b, _ | ⟨c, t⟩⟩⟩
        · rfl
        · rfl
        · exact absurd rfl h2
        · rfl
      rw [e]; rfl

end Go.Proofs.YtenojajfacacoaaDoor
/- Lines of scripts: a record. -/
namespace Go.Proofs.YtenojajfacacoaaDoor
open Go.RowKit

set_option maxHeartbeats 8000000 in
set_option maxRecDepth 100000 in
theorem rd_record (rd wb off cap g bcap k n m : Nat) (vR ch : Value) (c t o : Int) (xs rs : List Value) (a b kw vw kd vd : Bs) (kn vn kok vok : Bool) (hn : n = k + 1) (hxs : xs[k * 12 + 11]? = some vR) (hns : numsRd [a, b] = some [t, o]) (hkb : blobV kw = (kn, kd, kok)) (hvb : blobV vw = (vn, vd, vok)) (hxl : ∀ y ∈ [a, b, kw, vw], y.length ≤ 1000000) (hn6 : n ≤ 1000000) (hm : m ≤ 1000000) (hcap : 4 ≤ cap) {W0 w : World} {K : Know} {L : List Res} (hlib : K.has Know.lib) (hk : K.has (Know.strs wb off [a, b, kw, vw])) (h : St W0 w K (.raw rd #[(.slice (some ⟨g, 0, none⟩) n bcap), .int .i64 c, ch] 65 :: .row (.slice (some ⟨g, 0, none⟩) n bcap) 45 12 n xs :: .row vR 51 7 m rs :: L)) :
    Calls Tryd.prog 45 #[.pointer (some ⟨rd, 0, none⟩), .slice (some ⟨wb, off, none⟩) 4 cap] w fun en w' => ∃ vR', en = .returned (.bool (kok && vok)) ∧ St W0 w' K (.raw rd #[(.slice (some ⟨g, 0, none⟩) n bcap), .int .i64 c, ch] 65 :: .row (.slice (some ⟨g, 0, none⟩) n bcap) 45 12 n (xs.set (k * 12 + 11) vR') :: .row vR' 51 7 (m + 1) (rs ++ [.int .i64 t, .int .i64 o, .bool kn, .string (bb kd), .bool vn, .string (bb vd), .slice none 0 0]) :: L) := by
  obtain ⟨nb, hnb⟩ : ∃ b, w.heap.size = b := ⟨_, rfl⟩
  have g1 := h.allocRaw #[.int .i64 0, .int .i64 0] 96
  rw [hnb] at g1
  have H := Lib.hid g1
  have C2 := Lib.hid (strs_fact (W0 := W0) hk 2 kw rfl)
  have C3 := Lib.hid (strs_fact (W0 := W0) hk 3 vw rfl)
  have HK2 := Lib.hid (show K.has (Know.strs wb off [a, b]) from strs_take hk 2)
  have HLIB := Lib.hid hlib
  have HNS := Lib.hid hns
  have HXS := Lib.hid hxs
  have HKB := Lib.hid hkb
  have HVB := Lib.hid hvb
  have HXL := Lib.hid (show ∀ y ∈ [a, b], y.length ≤ 1000000 from fun y hy => hxl y (by simp only [List.mem_cons, List.not_mem_nil, or_false] at hy ⊢; rcases hy with rfl | rfl <;> simp))
  have HKWL := Lib.hid (hxl kw (by simp))
  have HVWL := Lib.hid (hxl vw (by simp))
  have HL1 := Lib.hid (show [a, b].length ≤ 1000000 by simp)
  have HM := Lib.hid hm
  have HJ := Lib.hid (show k * 12 + 11 < n * 12 by omega)
  have q0 : ((n : Int) == 0) = false := by rw [beq_eq_false_iff_ne]; omega
  have q1 : (n : Int) - 1 = (k : Int) := by omega
  have q3 : (k : Int) < (n : Int) := by omega
  have q4 : (2 : Int) ≤ (cap : Int) := by omega
  have q5 : (k : Int) ≤ 1000000 := by omega
  clear h g1 hk hlib hns hxs hkb hvb hxl hcap hm hn hn6
  go_enter Tryd.func45, Tryd.ntmps45
  go_upto_region 2 with fail
  have hs := H.out.drew
  have KEEP := Lib.hid (show ∀ (w' : World) (L' : List Res), St W0 w' K (.raw rd #[(.slice (some ⟨g, 0, none⟩) n bcap), .int .i64 c, ch] 65 :: L') → w'.cell? ⟨rd, 0, none⟩ = some (.slice (some ⟨g, 0, none⟩) n bcap) from fun w' L' h' => h'.rawCell 0)
  clear H
  refine wp_region_held_drew (S := fun w' => w'.cell? ⟨rd, 0, none⟩ = some (.slice (some ⟨g, 0, none⟩) n bcap)) (by kernel_rfl) (KEEP.out _ _ hs.p1) (fun hHeld => ?_)
  refine wpAnyH_take (i := 0) (oi := { dst := some 11, op := Op.move (Operand.tmp 0), type := 87, pos := "parse.go:79", after := #[], guard := none }) (v := ?_) rfl (by kernel_rfl) (by kernel_rfl) (by kernel_rfl) (fun _ _ _ h => h) (Or.inl ⟨by rfl, ?_⟩) (by assumption) ?_
  rotate_left
  · intro w hSw; (try dsimp only at hSw); go_simp; try with_reducible rfl
  simp only [Act.put, List.setIfInBounds_toArray, List.set_cons_zero, List.set_cons_succ]
  refine wpAnyH_take (i := 1) (oi := { dst := some 12, op := Op.nilCheck (Operand.tmp 11), type := 0, pos := "parse.go:79", after := #[{ on := 0, ground := Ground.data }], guard := none }) (v := ?_) rfl (by kernel_rfl) (by kernel_rfl) (by kernel_rfl) (fun _ _ _ h => h) (Or.inl ⟨by rfl, ?_⟩) (by assumption) ?_
  rotate_left
  · intro w hSw; (try dsimp only at hSw); go_simp; try with_reducible rfl
  simp only [Act.put, List.setIfInBounds_toArray, List.set_cons_zero, List.set_cons_succ]
  refine wpAnyH_take (i := 2) (oi := { dst := some 13, op := Op.fieldAddr 65 (Operand.tmp 12) 0, type := 0, pos := "parse.go:79", after := #[{ on := 1, ground := Ground.data }], guard := none }) (v := ?_) rfl (by kernel_rfl) (by kernel_rfl) (by kernel_rfl) (fun _ _ _ h => h) (Or.inl ⟨by rfl, ?_⟩) (by assumption) ?_
  rotate_left
  · intro w hSw; (try dsimp only at hSw); go_simp; try with_reducible rfl
  simp only [Act.put, List.setIfInBounds_toArray, List.set_cons_zero, List.set_cons_succ]
  refine wpAnyH_take (i := 3) (oi := { dst := some 14, op := Op.fieldAddr 25 (Operand.tmp 13) 0, type := 0, pos := "parse.go:79", after := #[{ on := 2, ground := Ground.data }], guard := none }) (v := ?_) rfl (by kernel_rfl) (by kernel_rfl) (by kernel_rfl) (fun _ _ _ h => h) (Or.inl ⟨by rfl, ?_⟩) (by assumption) ?_
  rotate_left
  · intro w hSw; (try dsimp only at hSw); go_simp; try with_reducible rfl
  simp only [Act.put, List.setIfInBounds_toArray, List.set_cons_zero, List.set_cons_succ]
  refine wpAnyH_take (i := 4) (oi := { dst := some 15, op := Op.load 22 (Operand.tmp 14), type := 22, pos := "parse.go:79", after := #[{ on := 3, ground := Ground.data }], guard := none }) (v := ?_) rfl (by kernel_rfl) (by kernel_rfl) (by kernel_rfl) (fun _ _ _ h => h) (Or.inl ⟨by rfl, ?_⟩) (by assumption) ?_
  rotate_left
  · intro w hSw; (try dsimp only at hSw); go_simp; try with_reducible rfl
  simp only [Act.put, List.setIfInBounds_toArray, List.set_cons_zero, List.set_cons_succ]
  refine wpAnyH_take (i := 5) (oi := { dst := some 16, op := Op.call { callee := Callee.builtin Builtin.len, args := #[Operand.tmp 15], argTypes := #[22] }, type := 3, pos := "parse.go:79", after := #[{ on := 4, ground := Ground.data }], guard := none }) (v := ?_) rfl (by kernel_rfl) (by kernel_rfl) (by kernel_rfl) (fun _ _ _ h => h) (Or.inl ⟨by rfl, ?_⟩) (by assumption) ?_
  rotate_left
  · intro w hSw; (try dsimp only at hSw); go_simp; try with_reducible rfl
  simp only [Act.put, List.setIfInBounds_toArray, List.set_cons_zero, List.set_cons_succ]
  refine wpAnyH_take (i := 6) (oi := { dst := some 17, op := Op.binOp BinOp.eql 3 (Operand.tmp 16) (Operand.const (Value.int IntKind.i64 0)) 3, type := 4, pos := "parse.go:79", after := #[{ on := 5, ground := Ground.data }], guard := none }) (v := ?_) rfl (by kernel_rfl) (by kernel_rfl) (by kernel_rfl) (fun _ _ _ h => h) (Or.inl ⟨by rfl, ?_⟩) (by assumption) ?_
  rotate_left
  · intro w hSw; (try dsimp only at hSw); go_simp; try with_reducible rfl
  simp only [Act.put, List.setIfInBounds_toArray, List.set_cons_zero, List.set_cons_succ]
  refine wpAnyH_take (i := 7) (oi := { dst := some 18, op := Op.move (Operand.tmp 17), type := 4, pos := "parse.go:79", after := #[{ on := 6, ground := Ground.data }], guard := none }) (v := ?_) rfl (by kernel_rfl) (by kernel_rfl) (by kernel_rfl) (fun _ _ _ h => h) (Or.inl ⟨by rfl, ?_⟩) (by assumption) ?_
  rotate_left
  · intro w hSw; (try dsimp only at hSw); go_simp; try with_reducible rfl
  simp only [Act.put, List.setIfInBounds_toArray, List.set_cons_zero, List.set_cons_succ]
  refine wpAnyH_take (i := 8) (oi := { dst := some 19, op := Op.move (Operand.tmp 1), type := 36, pos := "parse.go:79", after := #[{ on := 7, ground := Ground.guard }], guard := some (7, false) }) (v := ?_) rfl (by kernel_rfl) (by kernel_rfl) (by kernel_rfl) (fun _ _ _ h => h) (Or.inl ⟨by rfl, ?_⟩) (by assumption) ?_
  rotate_left
  · intro w hSw; (try dsimp only at hSw); go_simp; try with_reducible rfl
  simp only [Act.put, List.setIfInBounds_toArray, List.set_cons_zero, List.set_cons_succ]
  refine wpAnyH_take (i := 9) (oi := { dst := some 20, op := Op.call { callee := Callee.builtin Builtin.len, args := #[Operand.tmp 19], argTypes := #[36] }, type := 3, pos := "parse.go:79", after := #[{ on := 8, ground := Ground.data }, { on := 7, ground := Ground.guard }], guard := some (7, false) }) (v := ?_) rfl (by kernel_rfl) (by kernel_rfl) (by kernel_rfl) (fun _ _ _ h => h) (Or.inl ⟨by rfl, ?_⟩) (by assumption) ?_
  rotate_left
  · intro w hSw; (try dsimp only at hSw); go_simp; try with_reducible rfl
  simp only [Act.put, List.setIfInBounds_toArray, List.set_cons_zero, List.set_cons_succ]
  refine wpAnyH_take (i := 10) (oi := { dst := some 21, op := Op.binOp BinOp.neq 3 (Operand.tmp 20) (Operand.const (Value.int IntKind.i64 4)) 3, type := 4, pos := "parse.go:79", after := #[{ on := 9, ground := Ground.data }, { on := 7, ground := Ground.guard }], guard := some (7, false) }) (v := ?_) rfl (by kernel_rfl) (by kernel_rfl) (by kernel_rfl) (fun _ _ _ h => h) (Or.inl ⟨by rfl, ?_⟩) (by assumption) ?_
  rotate_left
  · intro w hSw; (try dsimp only at hSw); go_simp; try with_reducible rfl
  simp only [Act.put, List.setIfInBounds_toArray, List.set_cons_zero, List.set_cons_succ]
  refine wpAnyH_take (i := 11) (oi := { dst := some 22, op := Op.pick (Operand.tmp 18) (Operand.const (Value.bool true)) (Operand.tmp 21), type := 4, pos := "parse.go:79", after := #[{ on := 7, ground := Ground.data }, { on := 10, ground := Ground.data }], guard := none }) (v := ?_) rfl (by kernel_rfl) (by kernel_rfl) (by kernel_rfl) (fun _ _ _ h => h) (Or.inl ⟨by rfl, ?_⟩) (by assumption) ?_
  rotate_left
  · intro w hSw; (try dsimp only at hSw); go_simp; try with_reducible rfl
  simp only [Act.put, List.setIfInBounds_toArray, List.set_cons_zero, List.set_cons_succ]
  refine wpAnyH_take (i := 12) (oi := { dst := some 23, op := Op.move (Operand.tmp 22), type := 4, pos := "parse.go:79", after := #[{ on := 11, ground := Ground.data }, { on := 7, ground := Ground.chain }], guard := none }) (v := ?_) rfl (by kernel_rfl) (by kernel_rfl) (by kernel_rfl) (fun _ _ _ h => h) (Or.inl ⟨by rfl, ?_⟩) (by assumption) ?_
  rotate_left
  · intro w hSw; (try dsimp only at hSw); go_simp; try with_reducible rfl
  simp only [Act.put, List.setIfInBounds_toArray, List.set_cons_zero, List.set_cons_succ]
  refine wpAnyH_take (i := 13) (oi := { dst := some 24, op := Op.slice 96 (Operand.tmp 5) none none none, type := 23, pos := "parse.go:79", after := #[{ on := 12, ground := Ground.guard }], guard := some (12, false) }) (v := ?_) rfl (by kernel_rfl) (by kernel_rfl) (by kernel_rfl) (fun _ _ _ h => h) (Or.inl ⟨by rfl, ?_⟩) (by assumption) ?_
  rotate_left
  · intro w hSw; (try dsimp only at hSw); go_simp; try with_reducible rfl
  simp only [Act.put, List.setIfInBounds_toArray, List.set_cons_zero, List.set_cons_succ]
  refine wpAnyH_take (i := 14) (oi := { dst := some 25, op := Op.move (Operand.tmp 1), type := 36, pos := "parse.go:79", after := #[{ on := 12, ground := Ground.guard }], guard := some (12, false) }) (v := ?_) rfl (by kernel_rfl) (by kernel_rfl) (by kernel_rfl) (fun _ _ _ h => h) (Or.inl ⟨by rfl, ?_⟩) (by assumption) ?_
  rotate_left
  · intro w hSw; (try dsimp only at hSw); go_simp; try with_reducible rfl
  simp only [Act.put, List.setIfInBounds_toArray, List.set_cons_zero, List.set_cons_succ]
  refine wpAnyH_take (i := 15) (oi := { dst := some 26, op := Op.slice 36 (Operand.tmp 25) none (some (Operand.const (Value.int IntKind.i64 2))) none, type := 36, pos := "parse.go:79", after := #[{ on := 14, ground := Ground.data }, { on := 12, ground := Ground.guard }], guard := some (12, false) }) (v := ?_) rfl (by kernel_rfl) (by kernel_rfl) (by kernel_rfl) (fun _ _ _ h => h) (Or.inl ⟨by rfl, ?_⟩) (by assumption) ?_
  rotate_left
  · intro w hSw; (try dsimp only at hSw); go_simp; try with_reducible rfl
  simp only [Act.put, List.setIfInBounds_toArray, List.set_cons_zero, List.set_cons_succ]
  refine wpAnyH_ready (rs := [16]) (by kernel_rfl) (by simp) (AllReadyH.cons (o := { dst := some 27, op := Op.call { callee := Callee.value (Operand.func 56), args := #[Operand.tmp 24, Operand.tmp 26], argTypes := #[23, 36] }, type := 4, pos := "parse.go:79", after := #[{ on := 13, ground := Ground.data }, { on := 15, ground := Ground.data }, { on := 12, ground := Ground.chain }, { on := 12, ground := Ground.guard }], guard := some (12, false) }) rfl (fun KK hK => ?_) AllReadyH.nil)
  · go_simp
    go_at_call 56
    with_reducible refine (sc_nums_good nb #[.int .i64 0, .int .i64 0] 96 wb off cap 2 [a, b] [t, o] 2 rfl HNS.out rfl HL1.out HXL.out HLIB.out HK2.out hs).mono ?_
    rintro e wq ⟨rfl, hs⟩
    refine hK.out _ _ (KEEP.out _ _ hs.p1) (fun hHeld => ?_)
    clear hK KK
    try simp only [Act.put, List.setIfInBounds_toArray, List.set_cons_zero, List.set_cons_succ]
    have hs : St W0 wq K (.raw nb #[.int .i64 t, .int .i64 o] 96 :: .raw rd #[(.slice (some ⟨g, 0, none⟩) n bcap), .int .i64 c, ch] 65 :: .row (.slice (some ⟨g, 0, none⟩) n bcap) 45 12 n xs :: .row vR 51 7 m rs :: L) := hs
    refine wpAnyH_take (i := 17) (oi := { dst := some 28, op := Op.unOp UnOp.not 4 (Operand.tmp 27), type := 4, pos := "parse.go:79", after := #[{ on := 16, ground := Ground.data }, { on := 12, ground := Ground.guard }], guard := some (12, false) }) (v := ?_) rfl (by kernel_rfl) (by kernel_rfl) (by kernel_rfl) (fun _ _ _ h => h) (Or.inl ⟨by rfl, ?_⟩) (by assumption) ?_
    rotate_left
    · intro w hSw; (try dsimp only at hSw); go_simp; try with_reducible rfl
    simp only [Act.put, List.setIfInBounds_toArray, List.set_cons_zero, List.set_cons_succ]
    refine wpAnyH_take (i := 18) (oi := { dst := some 29, op := Op.pick (Operand.tmp 23) (Operand.const (Value.bool true)) (Operand.tmp 28), type := 4, pos := "parse.go:79", after := #[{ on := 12, ground := Ground.data }, { on := 17, ground := Ground.data }], guard := none }) (v := ?_) rfl (by kernel_rfl) (by kernel_rfl) (by kernel_rfl) (fun _ _ _ h => h) (Or.inl ⟨by rfl, ?_⟩) (by assumption) ?_
    rotate_left
    · intro w hSw; (try dsimp only at hSw); go_simp; try with_reducible rfl
    simp only [Act.put, List.setIfInBounds_toArray, List.set_cons_zero, List.set_cons_succ]
    refine wpAnyH_done (by kernel_rfl) ?_ _
    clear hHeld
    have H := Lib.hid hs
    clear hs
    have c2 := C2.out _ _ H.out
    go_upto_region 6 with (first
    | (go_at_call 58; (try clear c2); (with_reducible refine (sc_readBlob kw kd kn kok HKB.out HKWL.out H.out).mono ?_); rintro e_ wn ⟨rfl, h⟩; obtain ⟨kb, hkb⟩ : ∃ y, wn.heap.size = y := ⟨_, rfl⟩; have h := h.allocRaw #[.bool kn, .string (bb kd)] 48; rw [hkb] at h; have c3 := C3.out _ _ h; replace H := Lib.hid h; clear h)
    | (go_at_call 58; (try clear c3); (with_reducible refine (sc_readBlob vw vd vn vok HVB.out HVWL.out H.out).mono ?_); rintro e_ wn ⟨rfl, h⟩; obtain ⟨vb, hvb⟩ : ∃ y, wn.heap.size = y := ⟨_, rfl⟩; have h := h.allocRaw #[.bool vn, .string (bb vd)] 48; rw [hvb] at h; have z0 := KEEP.out _ _ h.p3; replace H := Lib.hid h; clear h))
    go_region
    have K7 := Lib.hid (show ∀ (w1 : World) (L1 L2 L3 : List Res), St W0 w1 K (.raw vb #[.bool vn, .string (bb vd)] 48 :: L1) → St W0 w1 K (.raw kb #[.bool kn, .string (bb kd)] 48 :: L2) → St W0 w1 K (.raw nb #[.int .i64 t, .int .i64 o] 96 :: L3) → (w1.cell? ⟨nb, 0, none⟩ = some (.int .i64 t) ∧ w1.cell? ⟨nb, 1, none⟩ = some (.int .i64 o) ∧ w1.cell? ⟨kb, 0, none⟩ = some (.bool kn) ∧ w1.cell? ⟨kb, 1, none⟩ = some (.string (bb kd)) ∧ w1.cell? ⟨vb, 0, none⟩ = some (.bool vn) ∧ w1.cell? ⟨vb, 1, none⟩ = some (.string (bb vd))) from fun w1 L1 L2 L3 h1 h2 h3 => ⟨h3.rawCell 0, h3.rawCell 1, h2.rawCell 0, h2.rawCell 1, h1.rawCell 0, h1.rawCell 1⟩)
    clear z0
    go_upto_region 7 with fail
    have hs := H.out.drew.drew
    clear H
    refine wp_region_held_drew (S := fun w' => w'.cell? ⟨nb, 0, none⟩ = some (.int .i64 t) ∧ w'.cell? ⟨nb, 1, none⟩ = some (.int .i64 o) ∧ w'.cell? ⟨kb, 0, none⟩ = some (.bool kn) ∧ w'.cell? ⟨kb, 1, none⟩ = some (.string (bb kd)) ∧ w'.cell? ⟨vb, 0, none⟩ = some (.bool vn) ∧ w'.cell? ⟨vb, 1, none⟩ = some (.string (bb vd))) (by kernel_rfl) (K7.out _ _ _ _ (hs) (hs.p1) (hs.p2)) (fun hHeld => ?_)
    refine wpAnyH_take (i := 0) (oi := { dst := some 57, op := Op.move (Operand.tmp 10), type := 99, pos := "parse.go:85", after := #[], guard := none }) (v := ?_) rfl (by kernel_rfl) (by kernel_rfl) (by kernel_rfl) (fun _ _ _ h => h) (Or.inl ⟨by rfl, ?_⟩) (by assumption) ?_
    rotate_left
    · intro w hSw; (try dsimp only at hSw); go_simp; try with_reducible rfl
    simp only [Act.put, List.setIfInBounds_toArray, List.set_cons_zero, List.set_cons_succ]
    refine wpAnyH_take (i := 1) (oi := { dst := some 58, op := Op.move (Operand.tmp 10), type := 99, pos := "parse.go:85", after := #[], guard := none }) (v := ?_) rfl (by kernel_rfl) (by kernel_rfl) (by kernel_rfl) (fun _ _ _ h => h) (Or.inl ⟨by rfl, ?_⟩) (by assumption) ?_
    rotate_left
    · intro w hSw; (try dsimp only at hSw); go_simp; try with_reducible rfl
    simp only [Act.put, List.setIfInBounds_toArray, List.set_cons_zero, List.set_cons_succ]
    refine wpAnyH_take (i := 2) (oi := { dst := some 59, op := Op.nilCheck (Operand.tmp 58), type := 0, pos := "parse.go:85", after := #[{ on := 1, ground := Ground.data }], guard := none }) (v := ?_) rfl (by kernel_rfl) (by kernel_rfl) (by kernel_rfl) (fun _ _ _ h => h) (Or.inl ⟨by rfl, ?_⟩) (by assumption) ?_
    rotate_left
    · intro w hSw; (try dsimp only at hSw); go_simp; try with_reducible rfl
    simp only [Act.put, List.setIfInBounds_toArray, List.set_cons_zero, List.set_cons_succ]
    refine wpAnyH_take (i := 3) (oi := { dst := some 60, op := Op.fieldAddr 45 (Operand.tmp 59) 11, type := 0, pos := "parse.go:85", after := #[{ on := 2, ground := Ground.data }], guard := none }) (v := ?_) rfl (by kernel_rfl) (by kernel_rfl) (by kernel_rfl) (fun _ _ _ h => h) (Or.inl ⟨by rfl, ?_⟩) (by assumption) ?_
    rotate_left
    · intro w hSw; (try dsimp only at hSw); go_simp; try with_reducible rfl
    simp only [Act.put, List.setIfInBounds_toArray, List.set_cons_zero, List.set_cons_succ]
    refine wpAnyH_take (i := 5) (oi := { dst := some 62, op := Op.indexAddr 96 (Operand.tmp 5) (Operand.const (Value.int IntKind.i64 0)), type := 0, pos := "parse.go:85", after := #[], guard := none }) (v := ?_) rfl (by kernel_rfl) (by kernel_rfl) (by kernel_rfl) (fun _ _ _ h => h) (Or.inl ⟨by rfl, ?_⟩) (by assumption) ?_
    rotate_left
    · intro w hSw; (try dsimp only at hSw); go_simp; try with_reducible rfl
    simp only [Act.put, List.setIfInBounds_toArray, List.set_cons_zero, List.set_cons_succ]
    refine wpAnyH_take (i := 6) (oi := { dst := some 63, op := Op.load 3 (Operand.tmp 62), type := 3, pos := "parse.go:85", after := #[{ on := 5, ground := Ground.data }], guard := none }) (v := ?_) rfl (by kernel_rfl) (by kernel_rfl) (by kernel_rfl) (fun _ _ _ h => h) (Or.inl ⟨by rfl, ?_⟩) (by assumption) ?_
    rotate_left
    · intro w hSw; (try dsimp only at hSw); go_simp; try with_reducible rfl
    simp only [Act.put, List.setIfInBounds_toArray, List.set_cons_zero, List.set_cons_succ]
    refine wpAnyH_take (i := 7) (oi := { dst := some 64, op := Op.indexAddr 96 (Operand.tmp 5) (Operand.const (Value.int IntKind.i64 1)), type := 0, pos := "parse.go:85", after := #[], guard := none }) (v := ?_) rfl (by kernel_rfl) (by kernel_rfl) (by kernel_rfl) (fun _ _ _ h => h) (Or.inl ⟨by rfl, ?_⟩) (by assumption) ?_
    rotate_left
    · intro w hSw; (try dsimp only at hSw); go_simp; try with_reducible rfl
    simp only [Act.put, List.setIfInBounds_toArray, List.set_cons_zero, List.set_cons_succ]
    refine wpAnyH_take (i := 8) (oi := { dst := some 65, op := Op.load 3 (Operand.tmp 64), type := 3, pos := "parse.go:85", after := #[{ on := 7, ground := Ground.data }], guard := none }) (v := ?_) rfl (by kernel_rfl) (by kernel_rfl) (by kernel_rfl) (fun _ _ _ h => h) (Or.inl ⟨by rfl, ?_⟩) (by assumption) ?_
    rotate_left
    · intro w hSw; (try dsimp only at hSw); go_simp; try with_reducible rfl
    simp only [Act.put, List.setIfInBounds_toArray, List.set_cons_zero, List.set_cons_succ]
    refine wpAnyH_take (i := 9) (oi := { dst := some 66, op := Op.load 48 (Operand.tmp 6), type := 48, pos := "parse.go:85", after := #[], guard := none }) (v := ?_) rfl (by kernel_rfl) (by kernel_rfl) (by kernel_rfl) (fun _ _ _ h => h) (Or.inl ⟨by rfl, ?_⟩) (by assumption) ?_
    rotate_left
    · intro w hSw; (try dsimp only at hSw); go_simp; try with_reducible rfl
    simp only [Act.put, List.setIfInBounds_toArray, List.set_cons_zero, List.set_cons_succ]
    refine wpAnyH_take (i := 10) (oi := { dst := some 67, op := Op.load 48 (Operand.tmp 8), type := 48, pos := "parse.go:85", after := #[], guard := none }) (v := ?_) rfl (by kernel_rfl) (by kernel_rfl) (by kernel_rfl) (fun _ _ _ h => h) (Or.inl ⟨by rfl, ?_⟩) (by assumption) ?_
    rotate_left
    · intro w hSw; (try dsimp only at hSw); go_simp; try with_reducible rfl
    simp only [Act.put, List.setIfInBounds_toArray, List.set_cons_zero, List.set_cons_succ]
    refine wpAnyH_take (i := 11) (oi := { dst := some 68, op := Op.build 51 #[(0, Operand.tmp 63), (1, Operand.tmp 65), (2, Operand.tmp 66), (3, Operand.tmp 67)], type := 51, pos := "parse.go:85", after := #[{ on := 6, ground := Ground.data }, { on := 8, ground := Ground.data }, { on := 9, ground := Ground.data }, { on := 10, ground := Ground.data }], guard := none }) (v := ?_) rfl (by kernel_rfl) (by kernel_rfl) (by kernel_rfl) (fun _ _ _ h => h) (Or.inl ⟨by rfl, ?_⟩) (by assumption) ?_
    rotate_left
    · intro w hSw; (try dsimp only at hSw); go_simp; try with_reducible rfl
    simp only [Act.put, List.setIfInBounds_toArray, List.set_cons_zero, List.set_cons_succ]
    refine wpAnyH_ready (rs := [4, 12]) (by kernel_rfl) (by simp) (AllReadyH.cons (o := { dst := some 61, op := Op.load 43 (Operand.tmp 60), type := 43, pos := "parse.go:85", after := #[{ on := 3, ground := Ground.data }], guard := none }) rfl (fun KK hK => ?_) (AllReadyH.cons (o := { dst := some 69, op := Op.buildSlice 43 1 #[(0, Operand.tmp 68)], type := 43, pos := "parse.go:85", after := #[{ on := 11, ground := Ground.data }], guard := none }) rfl (fun KK hK => ?_) AllReadyH.nil))
    · have z1 := (hs.p4.rowCell (k * 12 + 11) HJ.out).trans HXS.out
      go_simp
      refine hK.out _ _ (K7.out _ _ _ _ (hs) (hs.p1) (hs.p2)) (fun hHeld => ?_)
      clear hK KK
      try simp only [Act.put, List.setIfInBounds_toArray, List.set_cons_zero, List.set_cons_succ]
      clear z1
      refine wpAnyH_ready (rs := [12]) (by kernel_rfl) (by simp) (AllReadyH.cons (o := { dst := some 69, op := Op.buildSlice 43 1 #[(0, Operand.tmp 68)], type := 43, pos := "parse.go:85", after := #[{ on := 11, ground := Ground.data }], guard := none }) rfl (fun KK hK => ?_) AllReadyH.nil)
      · rw [if_pos (by rfl)]
        refine op_value (exec_buildR _ _ _ _ (by kernel_rfl) (buildR t o kn vn (bb kd) (bb vd) _)) ?_
        obtain ⟨wy, b2, ey, eb, hs⟩ := hs.allocEx #[.int .i64 t, .int .i64 o, .bool kn, .string (bb kd), .bool vn, .string (bb vd), .slice none 0 0] 51
        rw [ey, eb]
        clear ey eb
        refine hK.out _ _ (K7.out _ _ _ _ (hs.p1) (hs.p2) (hs.p3)) (fun hHeld => ?_)
        clear hK KK
        try simp only [Act.put, List.setIfInBounds_toArray, List.set_cons_zero, List.set_cons_succ]
        refine wpAnyH_ready (rs := [13]) (by kernel_rfl) (by simp) (AllReadyH.cons (o := { dst := some 70, op := Op.call { callee := Callee.builtin Builtin.append, args := #[Operand.tmp 61, Operand.tmp 69], argTypes := #[43, 43] }, type := 43, pos := "parse.go:85", after := #[{ on := 4, ground := Ground.data }, { on := 12, ground := Ground.data }], guard := none }) rfl (fun KK hK => ?_) AllReadyH.nil)
        · have hs := hs.p6.p1
          rw [if_pos (by rfl)]
          refine op_app1 (.tmp 61) (.tmp 69) 43 rfl 51 Tryd.underlying43 elem_recS _ _ _ (by rfl) b2 #[.int .i64 t, .int .i64 o, .bool kn, .string (bb kd), .bool vn, .string (bb vd), .slice none 0 0] 51 hs (by rfl) rfl (by simp [Value.oneCell']) (by have := HM.out; unfold maxLen; omega) (by have := HM.out; omega) (fun v' w' h => ?_)
          have hs := h
          clear h
          obtain ⟨qv, cv, hv⟩ := hs.rowAny
          subst hv
          refine hK.out _ _ (K7.out _ _ _ _ (hs.p1) (hs.p2) (hs.p3)) (fun hHeld => ?_)
          clear hK KK
          try simp only [Act.put, List.setIfInBounds_toArray, List.set_cons_zero, List.set_cons_succ]
          refine wpAnyH_take (i := 14) (oi := { dst := some 71, op := Op.nilCheck (Operand.tmp 57), type := 0, pos := "parse.go:85", after := #[{ on := 0, ground := Ground.data }, { on := 0, ground := Ground.phase }, { on := 1, ground := Ground.phase }, { on := 2, ground := Ground.phase }, { on := 3, ground := Ground.phase }, { on := 4, ground := Ground.phase }, { on := 5, ground := Ground.phase }, { on := 6, ground := Ground.phase }, { on := 7, ground := Ground.phase }, { on := 8, ground := Ground.phase }, { on := 9, ground := Ground.phase }, { on := 10, ground := Ground.phase }, { on := 11, ground := Ground.phase }, { on := 12, ground := Ground.phase }, { on := 13, ground := Ground.phase }], guard := none }) (v := ?_) rfl (by kernel_rfl) (by kernel_rfl) (by kernel_rfl) (fun _ _ _ h => h) (Or.inl ⟨by rfl, ?_⟩) (by assumption) ?_
          rotate_left
          · intro w hSw; (try dsimp only at hSw); go_simp; try with_reducible rfl
          simp only [Act.put, List.setIfInBounds_toArray, List.set_cons_zero, List.set_cons_succ]
          refine wpAnyH_take (i := 15) (oi := { dst := some 72, op := Op.fieldAddr 45 (Operand.tmp 71) 11, type := 0, pos := "parse.go:85", after := #[{ on := 14, ground := Ground.data }, { on := 0, ground := Ground.phase }, { on := 1, ground := Ground.phase }, { on := 2, ground := Ground.phase }, { on := 3, ground := Ground.phase }, { on := 4, ground := Ground.phase }, { on := 5, ground := Ground.phase }, { on := 6, ground := Ground.phase }, { on := 7, ground := Ground.phase }, { on := 8, ground := Ground.phase }, { on := 9, ground := Ground.phase }, { on := 10, ground := Ground.phase }, { on := 11, ground := Ground.phase }, { on := 12, ground := Ground.phase }, { on := 13, ground := Ground.phase }], guard := none }) (v := ?_) rfl (by kernel_rfl) (by kernel_rfl) (by kernel_rfl) (fun _ _ _ h => h) (Or.inl ⟨by rfl, ?_⟩) (by assumption) ?_
          rotate_left
          · intro w hSw; (try dsimp only at hSw); go_simp; try with_reducible rfl
          simp only [Act.put, List.setIfInBounds_toArray, List.set_cons_zero, List.set_cons_succ]
          refine wpAnyH_ready (rs := [16]) (by kernel_rfl) (by simp) (AllReadyH.cons (o := { dst := none, op := Op.store 43 (Operand.tmp 72) (Operand.tmp 70), type := 0, pos := "parse.go:85", after := #[{ on := 15, ground := Ground.data }, { on := 13, ground := Ground.data }, { on := 13, ground := Ground.chain }, { on := 0, ground := Ground.phase }, { on := 1, ground := Ground.phase }, { on := 2, ground := Ground.phase }, { on := 3, ground := Ground.phase }, { on := 4, ground := Ground.phase }, { on := 5, ground := Ground.phase }, { on := 6, ground := Ground.phase }, { on := 7, ground := Ground.phase }, { on := 8, ground := Ground.phase }, { on := 9, ground := Ground.phase }, { on := 10, ground := Ground.phase }, { on := 11, ground := Ground.phase }, { on := 12, ground := Ground.phase }, { on := 13, ground := Ground.phase }], guard := none }) rfl (fun KK hK => ?_) AllReadyH.nil)
          · have hs := hs.p5
            have q1 := hs.rowFree (k * 12 + 11)
            have z1 := (hs.rowCell (k * 12 + 11) HJ.out).trans HXS.out
            rw [if_pos (by rfl)]
            refine op_skip (w' := w'.setCell ⟨g, k * 12 + 11, none⟩ (.slice qv (m + 1) cv)) (by go_simp) ?_
            obtain ⟨wz, ez, hs⟩ := hs.rowSetEx (k * 12 + 11) (.slice qv (m + 1) cv)
            rw [ez]
            clear ez q1 z1
            refine hK.out _ _ (K7.out _ _ _ _ (hs.p2) (hs.p3) (hs.p4)) (fun hHeld => ?_)
            clear hK KK
            try simp only [Act.put]
            refine wpAnyH_done (by kernel_rfl) ?_ _
            clear hHeld
            have H := Lib.hid hs
            clear hs
            cases kok <;> (go_wp2_with fail; go_ret; exact ⟨rfl, _, H.out.p2.drop.p2.drop.p2.drop.p2⟩)
    · rw [if_pos (by rfl)]
      refine op_value (exec_buildR _ _ _ _ (by kernel_rfl) (buildR t o kn vn (bb kd) (bb vd) _)) ?_
      obtain ⟨wy, b2, ey, eb, hs⟩ := hs.allocEx #[.int .i64 t, .int .i64 o, .bool kn, .string (bb kd), .bool vn, .string (bb vd), .slice none 0 0] 51
      rw [ey, eb]
      clear ey eb
      refine hK.out _ _ (K7.out _ _ _ _ (hs.p1) (hs.p2) (hs.p3)) (fun hHeld => ?_)
      clear hK KK
      try simp only [Act.put, List.setIfInBounds_toArray, List.set_cons_zero, List.set_cons_succ]
      refine wpAnyH_ready (rs := [4]) (by kernel_rfl) (by simp) (AllReadyH.cons (o := { dst := some 61, op := Op.load 43 (Operand.tmp 60), type := 43, pos := "parse.go:85", after := #[{ on := 3, ground := Ground.data }], guard := none }) rfl (fun KK hK => ?_) AllReadyH.nil)
      · have z1 := (hs.p5.rowCell (k * 12 + 11) HJ.out).trans HXS.out
        go_simp
        refine hK.out _ _ (K7.out _ _ _ _ (hs.p1) (hs.p2) (hs.p3)) (fun hHeld => ?_)
        clear hK KK
        try simp only [Act.put, List.setIfInBounds_toArray, List.set_cons_zero, List.set_cons_succ]
        clear z1
        refine wpAnyH_ready (rs := [13]) (by kernel_rfl) (by simp) (AllReadyH.cons (o := { dst := some 70, op := Op.call { callee := Callee.builtin Builtin.append, args := #[Operand.tmp 61, Operand.tmp 69], argTypes := #[43, 43] }, type := 43, pos := "parse.go:85", after := #[{ on := 4, ground := Ground.data }, { on := 12, ground := Ground.data }], guard := none }) rfl (fun KK hK => ?_) AllReadyH.nil)
        · have hs := hs.p6.p1
          rw [if_pos (by rfl)]
          refine op_app1 (.tmp 61) (.tmp 69) 43 rfl 51 Tryd.underlying43 elem_recS _ _ _ (by rfl) b2 #[.int .i64 t, .int .i64 o, .bool kn, .string (bb kd), .bool vn, .string (bb vd), .slice none 0 0] 51 hs (by rfl) rfl (by simp [Value.oneCell']) (by have := HM.out; unfold maxLen; omega) (by have := HM.out; omega) (fun v' w' h => ?_)
          have hs := h
          clear h
          obtain ⟨qv, cv, hv⟩ := hs.rowAny
          subst hv
          refine hK.out _ _ (K7.out _ _ _ _ (hs.p1) (hs.p2) (hs.p3)) (fun hHeld => ?_)
          clear hK KK
          try simp only [Act.put, List.setIfInBounds_toArray, List.set_cons_zero, List.set_cons_succ]
          refine wpAnyH_take (i := 14) (oi := { dst := some 71, op := Op.nilCheck (Operand.tmp 57), type := 0, pos := "parse.go:85", after := #[{ on := 0, ground := Ground.data }, { on := 0, ground := Ground.phase }, { on := 1, ground := Ground.phase }, { on := 2, ground := Ground.phase }, { on := 3, ground := Ground.phase }, { on := 4, ground := Ground.phase }, { on := 5, ground := Ground.phase }, { on := 6, ground := Ground.phase }, { on := 7, ground := Ground.phase }, { on := 8, ground := Ground.phase }, { on := 9, ground := Ground.phase }, { on := 10, ground := Ground.phase }, { on := 11, ground := Ground.phase }, { on := 12, ground := Ground.phase }, { on := 13, ground := Ground.phase }], guard := none }) (v := ?_) rfl (by kernel_rfl) (by kernel_rfl) (by kernel_rfl) (fun _ _ _ h => h) (Or.inl ⟨by rfl, ?_⟩) (by assumption) ?_
          rotate_left
          · intro w hSw; (try dsimp only at hSw); go_simp; try with_reducible rfl
          simp only [Act.put, List.setIfInBounds_toArray, List.set_cons_zero, List.set_cons_succ]
          refine wpAnyH_take (i := 15) (oi := { dst := some 72, op := Op.fieldAddr 45 (Operand.tmp 71) 11, type := 0, pos := "parse.go:85", after := #[{ on := 14, ground := Ground.data }, { on := 0, ground := Ground.phase }, { on := 1, ground := Ground.phase }, { on := 2, ground := Ground.phase }, { on := 3, ground := Ground.phase }, { on := 4, ground := Ground.phase }, { on := 5, ground := Ground.phase }, { on := 6, ground := Ground.phase }, { on := 7, ground := Ground.phase }, { on := 8, ground := Ground.phase }, { on := 9, ground := Ground.phase }, { on := 10, ground := Ground.phase }, { on := 11, ground := Ground.phase }, { on := 12, ground := Ground.phase }, { on := 13, ground := Ground.phase }], guard := none }) (v := ?_) rfl (by kernel_rfl) (by kernel_rfl) (by kernel_rfl) (fun _ _ _ h => h) (Or.inl ⟨by rfl, ?_⟩) (by assumption) ?_
          rotate_left
          · intro w hSw; (try dsimp only at hSw); go_simp; try with_reducible rfl
          simp only [Act.put, List.setIfInBounds_toArray, List.set_cons_zero, List.set_cons_succ]
          refine wpAnyH_ready (rs := [16]) (by kernel_rfl) (by simp) (AllReadyH.cons (o := { dst := none, op := Op.store 43 (Operand.tmp 72) (Operand.tmp 70), type := 0, pos := "parse.go:85", after := #[{ on := 15, ground := Ground.data }, { on := 13, ground := Ground.data }, { on := 13, ground := Ground.chain }, { on := 0, ground := Ground.phase }, { on := 1, ground := Ground.phase }, { on := 2, ground := Ground.phase }, { on := 3, ground := Ground.phase }, { on := 4, ground := Ground.phase }, { on := 5, ground := Ground.phase }, { on := 6, ground := Ground.phase }, { on := 7, ground := Ground.phase }, { on := 8, ground := Ground.phase }, { on := 9, ground := Ground.phase }, { on := 10, ground := Ground.phase }, { on := 11, ground := Ground.phase }, { on := 12, ground := Ground.phase }, { on := 13, ground := Ground.phase }], guard := none }) rfl (fun KK hK => ?_) AllReadyH.nil)
          · have hs := hs.p5
            have q1 := hs.rowFree (k * 12 + 11)
            have z1 := (hs.rowCell (k * 12 + 11) HJ.out).trans HXS.out
            rw [if_pos (by rfl)]
            refine op_skip (w' := w'.setCell ⟨g, k * 12 + 11, none⟩ (.slice qv (m + 1) cv)) (by go_simp) ?_
            obtain ⟨wz, ez, hs⟩ := hs.rowSetEx (k * 12 + 11) (.slice qv (m + 1) cv)
            rw [ez]
            clear ez q1 z1
            refine hK.out _ _ (K7.out _ _ _ _ (hs.p2) (hs.p3) (hs.p4)) (fun hHeld => ?_)
            clear hK KK
            try simp only [Act.put]
            refine wpAnyH_done (by kernel_rfl) ?_ _
            clear hHeld
            have H := Lib.hid hs
            clear hs
            cases kok <;> (go_wp2_with fail; go_ret; exact ⟨rfl, _, H.out.p2.drop.p2.drop.p2.drop.p2⟩)

end Go.Proofs.YtenojajfacacoaaDoor
/- Lines of scripts: records, in all. -/
namespace Go.Proofs.YtenojajfacacoaaDoor
open Go.RowKit

theorem rdRec_none (r : List Bs) (h : r.length ≠ 4) : rdRec r = none := by
  rcases r with _ | ⟨a, _ | ⟨b, _ | ⟨c, _ | ⟨d, _ | ⟨e, t⟩⟩⟩⟩⟩
  · rfl
  · rfl
  · rfl
  · rfl
  · exact absurd rfl h
  · rfl
/-- A record's line, where the records that are done with lie in a row. -/
theorem k_recG (rd wb off cap : Nat) (s : BSt) (q : Option Addr) (vB vR vH : Value) (d : List BtR) (b : BatS) (l : List (RecS × Value)) (r : List Bs) (hx : ∀ y ∈ r, y.length ≤ 1000000) (hn6 : d.length + 1 ≤ 1000000) (hm : l.length ≤ 1000000) (hput : ∀ x, s.put vR vH (.recd x) = .recd d b l x) {W0 w : World} {K K' : Know} {L : List Res} (hkk : K'.has K) (hlib : K.has Know.lib) (hs : ∀ x ∈ d, K.has (Know.recs x.v x.l)) (hl : ∀ x ∈ l, K'.has (Know.flat RHdr x.2 3 x.1.hdrs)) (hk : K.has (Know.strs wb off r)) (h : St W0 w K' (.raw rd #[vB, .int .i64 (-1), .slice q 0 cap] 65 :: .row vB 45 12 (d.length + 1) (d.flatMap btcells ++ bhead b vR) :: .row vR 51 7 l.length (l.flatMap rcells) :: L)) :
    Calls Tryd.prog 45 #[.pointer (some ⟨rd, 0, none⟩), .slice (some ⟨wb, off, none⟩) r.length r.length] w fun en w' => ∃ b, en = .returned (.bool b) ∧ Came rd s (-1) [] ((rdRec r).map .recd) W0 K L b w' := by
  obtain ⟨g, bcap, hv⟩ := h.p1.rowSlice (Nat.succ_pos _)
  subst hv
  by_cases h4 : r.length = 4
  · obtain ⟨a, c, kw, vw, rfl⟩ : ∃ a c kw vw, r = [a, c, kw, vw] := by
      rcases r with _ | ⟨a, _ | ⟨b, _ | ⟨c, _ | ⟨d, _ | ⟨e, t⟩⟩⟩⟩⟩ <;> simp at h4
      exact ⟨a, b, c, d, rfl⟩
    cases hn : numsRd [a, c] with
    | none =>
      refine (rd_record_bad rd wb off 4 (d.length + 1) bcap _ _ (-1) a c kw vw (by omega) hn (fun y hy => hx y (by simp only [List.mem_cons, List.not_mem_nil, or_false] at hy ⊢; rcases hy with rfl | rfl <;> simp)) (by omega) (Know.has_trans hkk hlib) (Know.has_trans hkk hk) h).mono ?_
      rintro en w' ⟨rfl, h⟩
      exact ⟨_, rfl, .no' (by simp [rdRec, hn]) hkk h.drop.drop⟩
    | some vs =>
      obtain ⟨t, o, rfl⟩ := list2 (numsRd_len _ vs hn)
      obtain ⟨kn, kd, kok, hkd⟩ : ∃ kn kd kok, blobV kw = (kn, kd, kok) := ⟨_, _, _, rfl⟩
      obtain ⟨vn, vd, vok, hvd⟩ : ∃ vn vd vok, blobV vw = (vn, vd, vok) := ⟨_, _, _, rfl⟩
      refine (rd_record rd wb off 4 g bcap d.length (d.length + 1) l.length vR _ (-1) t o _ _ a c kw vw kd vd kn vn kok vok rfl (xs_at d b vR) hn hkd hvd hx hn6 hm (Nat.le_refl 4) (Know.has_trans hkk hlib) (Know.has_trans hkk hk) h).mono ?_
      rintro en w' ⟨vR', rfl, h2⟩
      refine ⟨_, rfl, ?_⟩
      have e : rdRec [a, c, kw, vw] = if kok && vok then some ⟨t, o, ⟨kn, kd⟩, ⟨vn, vd⟩, []⟩ else none := by show (match numsRd [a, c] with | some [t, o] => if (blobV kw).2.2 && (blobV vw).2.2 then some (⟨t, o, ⟨(blobV kw).1, (blobV kw).2.1⟩, ⟨(blobV vw).1, (blobV vw).2.1⟩, []⟩ : RecS) else none | _ => none) = _; rw [hn, hkd, hvd]
      rw [xs_set] at h2
      cases hl2 : (kok && vok) with
      | false =>
        rw [hl2] at e
        exact .no' (by rw [e]; rfl) hkk h2.drop.drop.drop
      | true =>
        rw [hl2] at e
        have e9 : (rdRec [a, c, kw, vw]).map Said.recd = some (.recd ⟨t, o, ⟨kn, kd⟩, ⟨vn, vd⟩, []⟩) := by rw [e]; rfl
        refine .yes e9 hkk vR vH ⟨.slice (some ⟨g, 0, none⟩) (d.length + 1) bcap, vR', .slice none 0 0, q, cap, ?_, ?_, fun w F hh => ⟨q, cap, rfl, fun h0 => absurd h0 (Nat.lt_irrefl 0)⟩⟩
        · rw [hput]
          exact (h2.nilRow 54 3).p3.p3.p3
        · rw [hput]
          exact ⟨fun x hx => Know.has_trans hkk (hs x hx), hl⟩
  · refine (rd_record_len rd wb off r.length (d.length + 1) bcap _ _ (-1) r.length (by omega) h4 h).mono ?_
    rintro en w' ⟨rfl, h⟩
    exact ⟨_, rfl, .no' (by rw [rdRec_none r h4]; rfl) hkk h.drop.drop⟩

theorem k_rec (rd wb off cap : Nat) (s : BSt) (q : Option Addr) (vB vR vH : Value) (r : List Bs) (hx : ∀ y ∈ r, y.length ≤ 1000000) (hr : r.length ≤ 1000000) (hb : s.n ≤ 1000000 ∧ s.m ≤ 1000000 ∧ s.p ≤ 1000000) {W0 w : World} {K : Know} {L : List Res} (hlib : K.has Know.lib) (hs : s.known K) (hk : K.has (Know.strs wb off r)) (h : St W0 w K (.raw rd #[vB, .int .i64 (-1), .slice q 0 cap] 65 :: s.rows vB vR vH L)) :
    Calls Tryd.prog 45 #[.pointer (some ⟨rd, 0, none⟩), .slice (some ⟨wb, off, none⟩) r.length r.length] w fun en w' => ∃ b, en = .returned (.bool b) ∧ Came rd s (-1) [] (if s.n = 0 then none else (rdRec r).map .recd) W0 K L b w' := by
  cases s with
  | zero =>
    obtain ⟨qb, cb, hv⟩ := h.p1.rowAny
    subst hv
    refine (rd_record_none rd wb off r.length 0 cb qb _ (-1) r.length rfl h).mono ?_
    rintro en w' ⟨rfl, h⟩
    exact ⟨_, rfl, .no rfl (rows_drop (s := .zero) h)⟩
  | bat d b =>
    rw [show (if (BSt.bat d b).n = 0 then none else (rdRec r).map Said.recd) = (rdRec r).map Said.recd from if_neg (by simp [BSt.n])]
    exact k_recG rd wb off cap (.bat d b) q vB vR vH d b [] r hx hb.1 (Nat.zero_le _) (fun _ => rfl) (Know.has_refl _) hlib hs (fun x hx => by cases hx) hk h.p3.drop
  | recd d b l r0 =>
    rw [show (if (BSt.recd d b l r0).n = 0 then none else (rdRec r).map Said.recd) = (rdRec r).map Said.recd from if_neg (by simp [BSt.n])]
    obtain ⟨h1, h2⟩ := closeR hs h
    exact k_recG rd wb off cap (.recd d b l r0) q vB vR vH d b (l ++ [(r0, vH)]) r hx hb.1 (by have := hb.2.1; simp only [BSt.m] at this; simpa using this) (fun _ => rfl) (Know.has_left (Know.has_refl _)) hlib hs.1 h1 hk h2

end Go.Proofs.YtenojajfacacoaaDoor
/- Lines of scripts, told apart by their first word. -/
namespace Go.Proofs.YtenojajfacacoaaDoor
open Go.RowKit

set_option maxHeartbeats 4000000 in
set_option maxRecDepth 100000 in
theorem disp_chunks0 (P : Bool → World → Prop) (rd wb cap : Nat) (q : Option Addr) (v : Value) (c : Int) (ws : List Bs) {W0 w : World} {K : Know} {L : List Res} (hk : K.has (Know.strs wb 0 ([99, 104, 117, 110, 107, 115] :: ws))) (h : St W0 w K (.raw rd #[v, .int .i64 c, .slice q 0 cap] 65 :: L))
    (hcall : ∀ w2, St W0 w2 K (.raw rd #[v, .int .i64 c, .slice q 0 cap] 65 :: L) → Calls Tryd.prog 42 #[.pointer (some ⟨rd, 0, none⟩), .slice (some ⟨wb, 0, none⟩) 0 0] w2 fun en w' => ∃ b, en = .returned (.bool b) ∧ P b w') :
    Calls Tryd.prog 26 #[.pointer (some ⟨rd, 0, none⟩), .slice (some ⟨wb, 0, none⟩) 1 1] w fun en w' => ∃ b, en = .returned (.bool b) ∧ P b w' := by
  have c0 : w.cell? ⟨wb, 0, none⟩ = some (.string (bb [99, 104, 117, 110, 107, 115])) := strs_fact hk 0 _ rfl _ _ h
  have d0 := (h).rawCell 0; have d1 := (h).rawCell 1; have d2 := (h).rawCell 2; simp at d0 d1 d2
  have H := Lib.hid h
  have HC := Lib.hid hcall
  skip
  clear h hk hcall
  go_enter Tryd.func26, Tryd.ntmps26
  go_upto_region 1 with fail
  go_region
  all_goals (
    go_wp2_with (go_at_call 42; (with_reducible refine (HC.out _ H.out.drew).mono ?_); rintro e_ wn ⟨b, rfl, h⟩; have H9 := Lib.hid h; clear h)
    go_ret
    exact ⟨_, rfl, H9.out⟩)

set_option maxHeartbeats 4000000 in
set_option maxRecDepth 100000 in
theorem disp_chunks (P : Bool → World → Prop) (rd wb k cap : Nat) (q : Option Addr) (v : Value) (c : Int) (ws : List Bs) (hkb : k ≤ 1000000) {W0 w : World} {K : Know} {L : List Res} (hk : K.has (Know.strs wb 0 ([99, 104, 117, 110, 107, 115] :: ws))) (h : St W0 w K (.raw rd #[v, .int .i64 c, .slice q 0 cap] 65 :: L))
    (hcall : ∀ w2, St W0 w2 K (.raw rd #[v, .int .i64 c, .slice q 0 cap] 65 :: L) → Calls Tryd.prog 42 #[.pointer (some ⟨rd, 0, none⟩), .slice (some ⟨wb, 1, none⟩) (k + 1) (k + 1)] w2 fun en w' => ∃ b, en = .returned (.bool b) ∧ P b w') :
    Calls Tryd.prog 26 #[.pointer (some ⟨rd, 0, none⟩), .slice (some ⟨wb, 0, none⟩) (k + 2) (k + 2)] w fun en w' => ∃ b, en = .returned (.bool b) ∧ P b w' := by
  have c0 : w.cell? ⟨wb, 0, none⟩ = some (.string (bb [99, 104, 117, 110, 107, 115])) := strs_fact hk 0 _ rfl _ _ h
  have d0 := (h).rawCell 0; have d1 := (h).rawCell 1; have d2 := (h).rawCell 2; simp at d0 d1 d2
  have H := Lib.hid h
  have HC := Lib.hid hcall
  have q1 : (1 : Int) ≤ (k : Int) + 2 := by omega
  clear h hk hcall
  go_enter Tryd.func26, Tryd.ntmps26
  go_upto_region 1 with fail
  go_region
  all_goals (
    go_wp2_with (go_at_call 42; (with_reducible refine (HC.out _ H.out.drew).mono ?_); rintro e_ wn ⟨b, rfl, h⟩; have H9 := Lib.hid h; clear h)
    go_ret
    exact ⟨_, rfl, H9.out⟩)

set_option maxHeartbeats 4000000 in
set_option maxRecDepth 100000 in
theorem disp_cut0 (P : Bool → World → Prop) (rd wb cap : Nat) (q : Option Addr) (v : Value) (c : Int) (ws : List Bs) (hc : c = -1) {W0 w : World} {K : Know} {L : List Res} (hk : K.has (Know.strs wb 0 ([99, 117, 116] :: ws))) (h : St W0 w K (.raw rd #[v, .int .i64 c, .slice q 0 cap] 65 :: L))
    (hcall : ∀ w2, St W0 w2 K (.raw rd #[v, .int .i64 c, .slice q 0 cap] 65 :: L) → Calls Tryd.prog 43 #[.pointer (some ⟨rd, 0, none⟩), .slice (some ⟨wb, 0, none⟩) 0 0] w2 fun en w' => ∃ b, en = .returned (.bool b) ∧ P b w') :
    Calls Tryd.prog 26 #[.pointer (some ⟨rd, 0, none⟩), .slice (some ⟨wb, 0, none⟩) 1 1] w fun en w' => ∃ b, en = .returned (.bool b) ∧ P b w' := by
  have c0 : w.cell? ⟨wb, 0, none⟩ = some (.string (bb [99, 117, 116])) := strs_fact hk 0 _ rfl _ _ h
  have d0 := (h).rawCell 0; have d1 := (h).rawCell 1; have d2 := (h).rawCell 2; simp at d0 d1 d2
  subst hc
  have H := Lib.hid h
  have HC := Lib.hid hcall
  skip
  clear h hk hcall
  go_enter Tryd.func26, Tryd.ntmps26
  go_upto_region 1 with fail
  go_region
  all_goals (
    go_wp2_with (go_at_call 43; (with_reducible refine (HC.out _ H.out.drew).mono ?_); rintro e_ wn ⟨b, rfl, h⟩; have H9 := Lib.hid h; clear h)
    go_ret
    exact ⟨_, rfl, H9.out⟩)

set_option maxHeartbeats 4000000 in
set_option maxRecDepth 100000 in
theorem disp_cut (P : Bool → World → Prop) (rd wb k cap : Nat) (q : Option Addr) (v : Value) (c : Int) (ws : List Bs) (hc : c = -1) (hkb : k ≤ 1000000) {W0 w : World} {K : Know} {L : List Res} (hk : K.has (Know.strs wb 0 ([99, 117, 116] :: ws))) (h : St W0 w K (.raw rd #[v, .int .i64 c, .slice q 0 cap] 65 :: L))
    (hcall : ∀ w2, St W0 w2 K (.raw rd #[v, .int .i64 c, .slice q 0 cap] 65 :: L) → Calls Tryd.prog 43 #[.pointer (some ⟨rd, 0, none⟩), .slice (some ⟨wb, 1, none⟩) (k + 1) (k + 1)] w2 fun en w' => ∃ b, en = .returned (.bool b) ∧ P b w') :
    Calls Tryd.prog 26 #[.pointer (some ⟨rd, 0, none⟩), .slice (some ⟨wb, 0, none⟩) (k + 2) (k + 2)] w fun en w' => ∃ b, en = .returned (.bool b) ∧ P b w' := by
  have c0 : w.cell? ⟨wb, 0, none⟩ = some (.string (bb [99, 117, 116])) := strs_fact hk 0 _ rfl _ _ h
  have d0 := (h).rawCell 0; have d1 := (h).rawCell 1; have d2 := (h).rawCell 2; simp at d0 d1 d2
  subst hc
  have H := Lib.hid h
  have HC := Lib.hid hcall
  have q1 : (1 : Int) ≤ (k : Int) + 2 := by omega
  clear h hk hcall
  go_enter Tryd.func26, Tryd.ntmps26
  go_upto_region 1 with fail
  go_region
  all_goals (
    go_wp2_with (go_at_call 43; (with_reducible refine (HC.out _ H.out.drew).mono ?_); rintro e_ wn ⟨b, rfl, h⟩; have H9 := Lib.hid h; clear h)
    go_ret
    exact ⟨_, rfl, H9.out⟩)

set_option maxHeartbeats 4000000 in
set_option maxRecDepth 100000 in
theorem disp_batch0 (P : Bool → World → Prop) (rd wb cap : Nat) (q : Option Addr) (v : Value) (c : Int) (ws : List Bs) (hc : c = -1) {W0 w : World} {K : Know} {L : List Res} (hk : K.has (Know.strs wb 0 ([98, 97, 116, 99, 104] :: ws))) (h : St W0 w K (.raw rd #[v, .int .i64 c, .slice q 0 cap] 65 :: L))
    (hcall : ∀ w2, St W0 w2 K (.raw rd #[v, .int .i64 c, .slice q 0 cap] 65 :: L) → Calls Tryd.prog 44 #[.pointer (some ⟨rd, 0, none⟩), .slice (some ⟨wb, 0, none⟩) 0 0] w2 fun en w' => ∃ b, en = .returned (.bool b) ∧ P b w') :
    Calls Tryd.prog 26 #[.pointer (some ⟨rd, 0, none⟩), .slice (some ⟨wb, 0, none⟩) 1 1] w fun en w' => ∃ b, en = .returned (.bool b) ∧ P b w' := by
  have c0 : w.cell? ⟨wb, 0, none⟩ = some (.string (bb [98, 97, 116, 99, 104])) := strs_fact hk 0 _ rfl _ _ h
  have d0 := (h).rawCell 0; have d1 := (h).rawCell 1; have d2 := (h).rawCell 2; simp at d0 d1 d2
  subst hc
  have H := Lib.hid h
  have HC := Lib.hid hcall
  skip
  clear h hk hcall
  go_enter Tryd.func26, Tryd.ntmps26
  go_upto_region 1 with fail
  go_region
  all_goals (
    go_wp2_with (go_at_call 44; (with_reducible refine (HC.out _ H.out.drew).mono ?_); rintro e_ wn ⟨b, rfl, h⟩; have H9 := Lib.hid h; clear h)
    go_ret
    exact ⟨_, rfl, H9.out⟩)

set_option maxHeartbeats 4000000 in
set_option maxRecDepth 100000 in
theorem disp_batch (P : Bool → World → Prop) (rd wb k cap : Nat) (q : Option Addr) (v : Value) (c : Int) (ws : List Bs) (hc : c = -1) (hkb : k ≤ 1000000) {W0 w : World} {K : Know} {L : List Res} (hk : K.has (Know.strs wb 0 ([98, 97, 116, 99, 104] :: ws))) (h : St W0 w K (.raw rd #[v, .int .i64 c, .slice q 0 cap] 65 :: L))
    (hcall : ∀ w2, St W0 w2 K (.raw rd #[v, .int .i64 c, .slice q 0 cap] 65 :: L) → Calls Tryd.prog 44 #[.pointer (some ⟨rd, 0, none⟩), .slice (some ⟨wb, 1, none⟩) (k + 1) (k + 1)] w2 fun en w' => ∃ b, en = .returned (.bool b) ∧ P b w') :
    Calls Tryd.prog 26 #[.pointer (some ⟨rd, 0, none⟩), .slice (some ⟨wb, 0, none⟩) (k + 2) (k + 2)] w fun en w' => ∃ b, en = .returned (.bool b) ∧ P b w' := by
  have c0 : w.cell? ⟨wb, 0, none⟩ = some (.string (bb [98, 97, 116, 99, 104])) := strs_fact hk 0 _ rfl _ _ h
  have d0 := (h).rawCell 0; have d1 := (h).rawCell 1; have d2 := (h).rawCell 2; simp at d0 d1 d2
  subst hc
  have H := Lib.hid h
  have HC := Lib.hid hcall
  have q1 : (1 : Int) ≤ (k : Int) + 2 := by omega
  clear h hk hcall
  go_enter Tryd.func26, Tryd.ntmps26
  go_upto_region 1 with fail
  go_region
  all_goals (
    go_wp2_with (go_at_call 44; (with_reducible refine (HC.out _ H.out.drew).mono ?_); rintro e_ wn ⟨b, rfl, h⟩; have H9 := Lib.hid h; clear h)
    go_ret
    exact ⟨_, rfl, H9.out⟩)

set_option maxHeartbeats 4000000 in
set_option maxRecDepth 100000 in
theorem disp_record0 (P : Bool → World → Prop) (rd wb cap : Nat) (q : Option Addr) (v : Value) (c : Int) (ws : List Bs) (hc : c = -1) {W0 w : World} {K : Know} {L : List Res} (hk : K.has (Know.strs wb 0 ([114, 101, 99, 111, 114, 100] :: ws))) (h : St W0 w K (.raw rd #[v, .int .i64 c, .slice q 0 cap] 65 :: L))
    (hcall : ∀ w2, St W0 w2 K (.raw rd #[v, .int .i64 c, .slice q 0 cap] 65 :: L) → Calls Tryd.prog 45 #[.pointer (some ⟨rd, 0, none⟩), .slice (some ⟨wb, 0, none⟩) 0 0] w2 fun en w' => ∃ b, en = .returned (.bool b) ∧ P b w') :
    Calls Tryd.prog 26 #[.pointer (some ⟨rd, 0, none⟩), .slice (some ⟨wb, 0, none⟩) 1 1] w fun en w' => ∃ b, en = .returned (.bool b) ∧ P b w' := by
  have c0 : w.cell? ⟨wb, 0, none⟩ = some (.string (bb [114, 101, 99, 111, 114, 100])) := strs_fact hk 0 _ rfl _ _ h
  have d0 := (h).rawCell 0; have d1 := (h).rawCell 1; have d2 := (h).rawCell 2; simp at d0 d1 d2
  subst hc
  have H := Lib.hid h
  have HC := Lib.hid hcall
  skip
  clear h hk hcall
  go_enter Tryd.func26, Tryd.ntmps26
  go_upto_region 1 with fail
  go_region
  all_goals (
    go_wp2_with (go_at_call 45; (with_reducible refine (HC.out _ H.out.drew).mono ?_); rintro e_ wn ⟨b, rfl, h⟩; have H9 := Lib.hid h; clear h)
    go_ret
    exact ⟨_, rfl, H9.out⟩)

set_option maxHeartbeats 4000000 in
set_option maxRecDepth 100000 in
theorem disp_record (P : Bool → World → Prop) (rd wb k cap : Nat) (q : Option Addr) (v : Value) (c : Int) (ws : List Bs) (hc : c = -1) (hkb : k ≤ 1000000) {W0 w : World} {K : Know} {L : List Res} (hk : K.has (Know.strs wb 0 ([114, 101, 99, 111, 114, 100] :: ws))) (h : St W0 w K (.raw rd #[v, .int .i64 c, .slice q 0 cap] 65 :: L))
    (hcall : ∀ w2, St W0 w2 K (.raw rd #[v, .int .i64 c, .slice q 0 cap] 65 :: L) → Calls Tryd.prog 45 #[.pointer (some ⟨rd, 0, none⟩), .slice (some ⟨wb, 1, none⟩) (k + 1) (k + 1)] w2 fun en w' => ∃ b, en = .returned (.bool b) ∧ P b w') :
    Calls Tryd.prog 26 #[.pointer (some ⟨rd, 0, none⟩), .slice (some ⟨wb, 0, none⟩) (k + 2) (k + 2)] w fun en w' => ∃ b, en = .returned (.bool b) ∧ P b w' := by
  have c0 : w.cell? ⟨wb, 0, none⟩ = some (.string (bb [114, 101, 99, 111, 114, 100])) := strs_fact hk 0 _ rfl _ _ h
  have d0 := (h).rawCell 0; have d1 := (h).rawCell 1; have d2 := (h).rawCell 2; simp at d0 d1 d2
  subst hc
  have H := Lib.hid h
  have HC := Lib.hid hcall
  have q1 : (1 : Int) ≤ (k : Int) + 2 := by omega
  clear h hk hcall
  go_enter Tryd.func26, Tryd.ntmps26
  go_upto_region 1 with fail
  go_region
  all_goals (
    go_wp2_with (go_at_call 45; (with_reducible refine (HC.out _ H.out.drew).mono ?_); rintro e_ wn ⟨b, rfl, h⟩; have H9 := Lib.hid h; clear h)
    go_ret
    exact ⟨_, rfl, H9.out⟩)

set_option maxHeartbeats 4000000 in
set_option maxRecDepth 100000 in
theorem disp_header0 (P : Bool → World → Prop) (rd wb cap : Nat) (q : Option Addr) (v : Value) (c : Int) (ws : List Bs) (hc : c = -1) {W0 w : World} {K : Know} {L : List Res} (hk : K.has (Know.strs wb 0 ([104, 101, 97, 100, 101, 114] :: ws))) (h : St W0 w K (.raw rd #[v, .int .i64 c, .slice q 0 cap] 65 :: L))
    (hcall : ∀ w2, St W0 w2 K (.raw rd #[v, .int .i64 c, .slice q 0 cap] 65 :: L) → Calls Tryd.prog 46 #[.pointer (some ⟨rd, 0, none⟩), .slice (some ⟨wb, 0, none⟩) 0 0] w2 fun en w' => ∃ b, en = .returned (.bool b) ∧ P b w') :
    Calls Tryd.prog 26 #[.pointer (some ⟨rd, 0, none⟩), .slice (some ⟨wb, 0, none⟩) 1 1] w fun en w' => ∃ b, en = .returned (.bool b) ∧ P b w' := by
  have c0 : w.cell? ⟨wb, 0, none⟩ = some (.string (bb [104, 101, 97, 100, 101, 114])) := strs_fact hk 0 _ rfl _ _ h
  have d0 := (h).rawCell 0; have d1 := (h).rawCell 1; have d2 := (h).rawCell 2; simp at d0 d1 d2
  subst hc
  have H := Lib.hid h
  have HC := Lib.hid hcall
  skip
  clear h hk hcall
  go_enter Tryd.func26, Tryd.ntmps26
  go_upto_region 1 with fail
  go_region
  all_goals (
    go_wp2_with (go_at_call 46; (with_reducible refine (HC.out _ H.out.drew).mono ?_); rintro e_ wn ⟨b, rfl, h⟩; have H9 := Lib.hid h; clear h)
    go_ret
    exact ⟨_, rfl, H9.out⟩)

set_option maxHeartbeats 4000000 in
set_option maxRecDepth 100000 in
theorem disp_header (P : Bool → World → Prop) (rd wb k cap : Nat) (q : Option Addr) (v : Value) (c : Int) (ws : List Bs) (hc : c = -1) (hkb : k ≤ 1000000) {W0 w : World} {K : Know} {L : List Res} (hk : K.has (Know.strs wb 0 ([104, 101, 97, 100, 101, 114] :: ws))) (h : St W0 w K (.raw rd #[v, .int .i64 c, .slice q 0 cap] 65 :: L))
    (hcall : ∀ w2, St W0 w2 K (.raw rd #[v, .int .i64 c, .slice q 0 cap] 65 :: L) → Calls Tryd.prog 46 #[.pointer (some ⟨rd, 0, none⟩), .slice (some ⟨wb, 1, none⟩) (k + 1) (k + 1)] w2 fun en w' => ∃ b, en = .returned (.bool b) ∧ P b w') :
    Calls Tryd.prog 26 #[.pointer (some ⟨rd, 0, none⟩), .slice (some ⟨wb, 0, none⟩) (k + 2) (k + 2)] w fun en w' => ∃ b, en = .returned (.bool b) ∧ P b w' := by
  have c0 : w.cell? ⟨wb, 0, none⟩ = some (.string (bb [104, 101, 97, 100, 101, 114])) := strs_fact hk 0 _ rfl _ _ h
  have d0 := (h).rawCell 0; have d1 := (h).rawCell 1; have d2 := (h).rawCell 2; simp at d0 d1 d2
  subst hc
  have H := Lib.hid h
  have HC := Lib.hid hcall
  have q1 : (1 : Int) ≤ (k : Int) + 2 := by omega
  clear h hk hcall
  go_enter Tryd.func26, Tryd.ntmps26
  go_upto_region 1 with fail
  go_region
  all_goals (
    go_wp2_with (go_at_call 46; (with_reducible refine (HC.out _ H.out.drew).mono ?_); rintro e_ wn ⟨b, rfl, h⟩; have H9 := Lib.hid h; clear h)
    go_ret
    exact ⟨_, rfl, H9.out⟩)

end Go.Proofs.YtenojajfacacoaaDoor
/- Lines of scripts, refused. -/
namespace Go.Proofs.YtenojajfacacoaaDoor
open Go.RowKit

set_option maxHeartbeats 4000000 in
set_option maxRecDepth 100000 in
theorem ref_chunks0 (rd wb cap : Nat) (q : Option Addr) (v : Value) (c : Int) (w0 : Bs) (ws : List Bs) (j : Nat)  {W0 w : World} {K : Know} {L : List Res} (hk : K.has (Know.strs wb 0 (w0 :: ws))) (h : St W0 w K (.raw rd #[v, .int .i64 c, .slice q (j + 1) cap] 65 :: L)) :
    Calls Tryd.prog 26 #[.pointer (some ⟨rd, 0, none⟩), .slice (some ⟨wb, 0, none⟩) 1 1] w fun en w' => en = .returned (.bool false) ∧ St W0 w' K L := by
  have c0 : w.cell? ⟨wb, 0, none⟩ = some (.string (bb w0)) := strs_fact hk 0 _ rfl _ _ h
  have d0 := (h).rawCell 0; have d1 := (h).rawCell 1; have d2 := (h).rawCell 2; simp at d0 d1 d2
  have z1 : (0 : Int) < (j : Int) + 1 := by omega
  have H := Lib.hid h
  skip
  clear h hk 
  go_enter Tryd.func26, Tryd.ntmps26
  go_upto_region 1 with fail
  go_region
  all_goals (
    go_wp2_with fail
    go_ret
    exact ⟨rfl, H.out.drew.drop⟩)

set_option maxHeartbeats 4000000 in
set_option maxRecDepth 100000 in
theorem ref_cut0 (rd wb cap : Nat) (q : Option Addr) (v : Value) (c : Int) (w0 : Bs) (ws : List Bs)  (hc : c ≠ -1) (h1 : w0 ≠ [99, 104, 117, 110, 107, 115]) {W0 w : World} {K : Know} {L : List Res} (hk : K.has (Know.strs wb 0 (w0 :: ws))) (h : St W0 w K (.raw rd #[v, .int .i64 c, .slice q 0 cap] 65 :: L)) :
    Calls Tryd.prog 26 #[.pointer (some ⟨rd, 0, none⟩), .slice (some ⟨wb, 0, none⟩) 1 1] w fun en w' => en = .returned (.bool false) ∧ St W0 w' K L := by
  have c0 : w.cell? ⟨wb, 0, none⟩ = some (.string (bb w0)) := strs_fact hk 0 _ rfl _ _ h
  have d0 := (h).rawCell 0; have d1 := (h).rawCell 1; have d2 := (h).rawCell 2; simp at d0 d1 d2
  have e1 : (w0 == [99, 104, 117, 110, 107, 115]) = false := by rw [beq_eq_false_iff_ne]; exact h1
  have g1 : ([99, 104, 117, 110, 107, 115] == w0) = false := by rw [beq_eq_false_iff_ne]; exact fun h => h1 h.symm
  have z1 : (c == -1) = false := by rw [beq_eq_false_iff_ne]; exact hc
  have z2 : (c != -1) = true := by simp [bne, z1]
  have H := Lib.hid h
  skip
  clear h hk hc h1
  go_enter Tryd.func26, Tryd.ntmps26
  go_upto_region 1 with fail
  go_region
  all_goals (
    go_wp2_with fail
    go_ret
    exact ⟨rfl, H.out.drew.drop⟩)

set_option maxHeartbeats 4000000 in
set_option maxRecDepth 100000 in
theorem ref_word0 (rd wb cap : Nat) (q : Option Addr) (v : Value) (c : Int) (w0 : Bs) (ws : List Bs)  (hc : c = -1) (h1 : w0 ≠ [99, 104, 117, 110, 107, 115]) (h2 : w0 ≠ [99, 117, 116]) (h3 : w0 ≠ [98, 97, 116, 99, 104]) (h4 : w0 ≠ [114, 101, 99, 111, 114, 100]) (h5 : w0 ≠ [104, 101, 97, 100, 101, 114]) {W0 w : World} {K : Know} {L : List Res} (hk : K.has (Know.strs wb 0 (w0 :: ws))) (h : St W0 w K (.raw rd #[v, .int .i64 c, .slice q 0 cap] 65 :: L)) :
    Calls Tryd.prog 26 #[.pointer (some ⟨rd, 0, none⟩), .slice (some ⟨wb, 0, none⟩) 1 1] w fun en w' => en = .returned (.bool false) ∧ St W0 w' K L := by
  have c0 : w.cell? ⟨wb, 0, none⟩ = some (.string (bb w0)) := strs_fact hk 0 _ rfl _ _ h
  have d0 := (h).rawCell 0; have d1 := (h).rawCell 1; have d2 := (h).rawCell 2; simp at d0 d1 d2
  subst hc
  have e1 : (w0 == [99, 104, 117, 110, 107, 115]) = false := by rw [beq_eq_false_iff_ne]; exact h1
  have g1 : ([99, 104, 117, 110, 107, 115] == w0) = false := by rw [beq_eq_false_iff_ne]; exact fun h => h1 h.symm
  have e2 : (w0 == [99, 117, 116]) = false := by rw [beq_eq_false_iff_ne]; exact h2
  have g2 : ([99, 117, 116] == w0) = false := by rw [beq_eq_false_iff_ne]; exact fun h => h2 h.symm
  have e3 : (w0 == [98, 97, 116, 99, 104]) = false := by rw [beq_eq_false_iff_ne]; exact h3
  have g3 : ([98, 97, 116, 99, 104] == w0) = false := by rw [beq_eq_false_iff_ne]; exact fun h => h3 h.symm
  have e4 : (w0 == [114, 101, 99, 111, 114, 100]) = false := by rw [beq_eq_false_iff_ne]; exact h4
  have g4 : ([114, 101, 99, 111, 114, 100] == w0) = false := by rw [beq_eq_false_iff_ne]; exact fun h => h4 h.symm
  have e5 : (w0 == [104, 101, 97, 100, 101, 114]) = false := by rw [beq_eq_false_iff_ne]; exact h5
  have g5 : ([104, 101, 97, 100, 101, 114] == w0) = false := by rw [beq_eq_false_iff_ne]; exact fun h => h5 h.symm
  have H := Lib.hid h
  skip
  clear h hk h1 h2 h3 h4 h5
  go_enter Tryd.func26, Tryd.ntmps26
  go_upto_region 1 with fail
  go_region
  all_goals (
    go_wp2_with fail
    go_ret
    exact ⟨rfl, H.out.drew.drop⟩)

set_option maxHeartbeats 4000000 in
set_option maxRecDepth 100000 in
theorem ref_chunks (rd wb k cap : Nat) (q : Option Addr) (v : Value) (c : Int) (w0 : Bs) (ws : List Bs) (j : Nat)  (hkb : k ≤ 1000000) {W0 w : World} {K : Know} {L : List Res} (hk : K.has (Know.strs wb 0 (w0 :: ws))) (h : St W0 w K (.raw rd #[v, .int .i64 c, .slice q (j + 1) cap] 65 :: L)) :
    Calls Tryd.prog 26 #[.pointer (some ⟨rd, 0, none⟩), .slice (some ⟨wb, 0, none⟩) (k + 2) (k + 2)] w fun en w' => en = .returned (.bool false) ∧ St W0 w' K L := by
  have c0 : w.cell? ⟨wb, 0, none⟩ = some (.string (bb w0)) := strs_fact hk 0 _ rfl _ _ h
  have d0 := (h).rawCell 0; have d1 := (h).rawCell 1; have d2 := (h).rawCell 2; simp at d0 d1 d2
  have z1 : (0 : Int) < (j : Int) + 1 := by omega
  have H := Lib.hid h
  have q1 : (1 : Int) ≤ (k : Int) + 2 := by omega
  clear h hk 
  go_enter Tryd.func26, Tryd.ntmps26
  go_upto_region 1 with fail
  go_region
  all_goals (
    go_wp2_with fail
    go_ret
    exact ⟨rfl, H.out.drew.drop⟩)

set_option maxHeartbeats 4000000 in
set_option maxRecDepth 100000 in
theorem ref_cut (rd wb k cap : Nat) (q : Option Addr) (v : Value) (c : Int) (w0 : Bs) (ws : List Bs)  (hc : c ≠ -1) (h1 : w0 ≠ [99, 104, 117, 110, 107, 115]) (hkb : k ≤ 1000000) {W0 w : World} {K : Know} {L : List Res} (hk : K.has (Know.strs wb 0 (w0 :: ws))) (h : St W0 w K (.raw rd #[v, .int .i64 c, .slice q 0 cap] 65 :: L)) :
    Calls Tryd.prog 26 #[.pointer (some ⟨rd, 0, none⟩), .slice (some ⟨wb, 0, none⟩) (k + 2) (k + 2)] w fun en w' => en = .returned (.bool false) ∧ St W0 w' K L := by
  have c0 : w.cell? ⟨wb, 0, none⟩ = some (.string (bb w0)) := strs_fact hk 0 _ rfl _ _ h
  have d0 := (h).rawCell 0; have d1 := (h).rawCell 1; have d2 := (h).rawCell 2; simp at d0 d1 d2
  have e1 : (w0 == [99, 104, 117, 110, 107, 115]) = false := by rw [beq_eq_false_iff_ne]; exact h1
  have g1 : ([99, 104, 117, 110, 107, 115] == w0) = false := by rw [beq_eq_false_iff_ne]; exact fun h => h1 h.symm
  have z1 : (c == -1) = false := by rw [beq_eq_false_iff_ne]; exact hc
  have z2 : (c != -1) = true := by simp [bne, z1]
  have H := Lib.hid h
  have q1 : (1 : Int) ≤ (k : Int) + 2 := by omega
  clear h hk hc h1
  go_enter Tryd.func26, Tryd.ntmps26
  go_upto_region 1 with fail
  go_region
  all_goals (
    go_wp2_with fail
    go_ret
    exact ⟨rfl, H.out.drew.drop⟩)

set_option maxHeartbeats 4000000 in
set_option maxRecDepth 100000 in
theorem ref_word (rd wb k cap : Nat) (q : Option Addr) (v : Value) (c : Int) (w0 : Bs) (ws : List Bs)  (hc : c = -1) (h1 : w0 ≠ [99, 104, 117, 110, 107, 115]) (h2 : w0 ≠ [99, 117, 116]) (h3 : w0 ≠ [98, 97, 116, 99, 104]) (h4 : w0 ≠ [114, 101, 99, 111, 114, 100]) (h5 : w0 ≠ [104, 101, 97, 100, 101, 114]) (hkb : k ≤ 1000000) {W0 w : World} {K : Know} {L : List Res} (hk : K.has (Know.strs wb 0 (w0 :: ws))) (h : St W0 w K (.raw rd #[v, .int .i64 c, .slice q 0 cap] 65 :: L)) :
    Calls Tryd.prog 26 #[.pointer (some ⟨rd, 0, none⟩), .slice (some ⟨wb, 0, none⟩) (k + 2) (k + 2)] w fun en w' => en = .returned (.bool false) ∧ St W0 w' K L := by
  have c0 : w.cell? ⟨wb, 0, none⟩ = some (.string (bb w0)) := strs_fact hk 0 _ rfl _ _ h
  have d0 := (h).rawCell 0; have d1 := (h).rawCell 1; have d2 := (h).rawCell 2; simp at d0 d1 d2
  subst hc
  have e1 : (w0 == [99, 104, 117, 110, 107, 115]) = false := by rw [beq_eq_false_iff_ne]; exact h1
  have g1 : ([99, 104, 117, 110, 107, 115] == w0) = false := by rw [beq_eq_false_iff_ne]; exact fun h => h1 h.symm
  have e2 : (w0 == [99, 117, 116]) = false := by rw [beq_eq_false_iff_ne]; exact h2
  have g2 : ([99, 117, 116] == w0) = false := by rw [beq_eq_false_iff_ne]; exact fun h => h2 h.symm
  have e3 : (w0 == [98, 97, 116, 99, 104]) = false := by rw [beq_eq_false_iff_ne]; exact h3
  have g3 : ([98, 97, 116, 99, 104] == w0) = false := by rw [beq_eq_false_iff_ne]; exact fun h => h3 h.symm
  have e4 : (w0 == [114, 101, 99, 111, 114, 100]) = false := by rw [beq_eq_false_iff_ne]; exact h4
  have g4 : ([114, 101, 99, 111, 114, 100] == w0) = false := by rw [beq_eq_false_iff_ne]; exact fun h => h4 h.symm
  have e5 : (w0 == [104, 101, 97, 100, 101, 114]) = false := by rw [beq_eq_false_iff_ne]; exact h5
  have g5 : ([104, 101, 97, 100, 101, 114] == w0) = false := by rw [beq_eq_false_iff_ne]; exact fun h => h5 h.symm
  have H := Lib.hid h
  have q1 : (1 : Int) ≤ (k : Int) + 2 := by omega
  clear h hk h1 h2 h3 h4 h5
  go_enter Tryd.func26, Tryd.ntmps26
  go_upto_region 1 with fail
  go_region
  all_goals (
    go_wp2_with fail
    go_ret
    exact ⟨rfl, H.out.drew.drop⟩)

end Go.Proofs.YtenojajfacacoaaDoor
