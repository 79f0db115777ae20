/- Heads of requests: the reference: written. -/
import Derived.Test.YtngnhdiafbjfkaaDoorReq3
import Derived.Test.YtngnhdiafbjfkaaDoorCtl2
import Derived.Test.YtngnhdiafbjfkaaDoorRef04
import Derived.Deep.RegionHeld3
import Derived.Deep.DeepCutAuto
namespace Go.Proofs.YtngnhdiafbjfkaaDoor
open Go.RowKit

theorem req_keep {W0 w : World} {K : Know} {L : List Res} {hb : Nat} {a0 a1 a2 a3 a4 : Value} {T : TypeId} (h : St W0 w K (.raw hb #[a0, a1, a2, a3, a4] T :: L)) : w.cell? ⟨hb, 0, none⟩ = some a0 ∧ w.cell? ⟨hb, 1, none⟩ = some a1 ∧ w.cell? ⟨hb, 2, none⟩ = some a2 ∧ w.cell? ⟨hb, 3, none⟩ = some a3 ∧ w.cell? ⟨hb, 4, none⟩ = some a4 :=
  let ⟨x0, x1, x2, x3, x4, _⟩ := raw5 h
  ⟨x0, x1, x2, x3, x4⟩
theorem ref04_fixed2 (u : Bool) (d : Bs) (v : ByteArray) (hv : v = bb d) (hb : d.length ≤ 70368744177664) {W0 w : World} {K : Know} {L : List Res} (h : St W0 w K L) :
    Calls Tryd.prog 33 #[.agg #[.bool u, .string v], .int .i64 2] w fun en w' => en = .returned (.string (bb (beBytes (⟨u, d⟩ : BlobS).len 2 ++ d))) ∧ St W0 w' K L := by
  subst hv; exact ref04_fixed ⟨u, d⟩ 2 hb (by decide) h
set_option maxHeartbeats 1000000 in
set_option maxRecDepth 100000 in
theorem ref17_write (a v n : Int) (u : Bool) (d : Bs) (ra : -9223372036854775808 ≤ a ∧ a < 9223372036854775808) (rv : -9223372036854775808 ≤ v ∧ v < 9223372036854775808) (rn : -9223372036854775808 ≤ n ∧ n < 9223372036854775808) (hd : d.length ≤ 100000) {W0 w : World} {K : Know} {L : List Res} (h : St W0 w K L) :
    Calls Tryd.prog 19 #[.agg #[.int .i64 a, .int .i64 v, .int .i64 n, .bool u, .string (bb d)]] w fun en w' => en = .returned (.string (bb (encHead ⟨a, v, n, ⟨u, d⟩⟩))) ∧ St W0 w' K L := by
  have h1 := h.allocRaw #[.int .i64 a, .int .i64 v, .int .i64 n, .bool u, .string (bb d)] 47
  obtain ⟨hb, hhb⟩ : ∃ b, w.heap.size = b := ⟨_, rfl⟩
  rw [hhb] at h1
  have H := Lib.hid h1
  have RA := Lib.hid ra
  have RV := Lib.hid rv
  have RN := Lib.hid rn
  have HD := Lib.hid (show d.length ≤ 70368744177664 by omega)
  have z1 : ¬ (9223372036854775807 < 2 + 2 + 4 + (2 + d.length)) := by omega
  have z2 : ¬ (9223372036854775807 < 2 + (2 + 4) + (2 + d.length)) := by omega
  have z3 : ¬ (9223372036854775807 < 2 + (2 + (4 + (2 + d.length)))) := by omega
  have l2 : ∀ n : Int, (beBytes n 2).length = 2 := fun n => beBytes_length n 2
  have l4 : ∀ n : Int, (beBytes n 4).length = 4 := fun n => beBytes_length n 4
  clear h h1 ra rv rn hd
  go_enter Tryd.func19, Tryd.ntmps19
  go_upto_region 1 with (fail)
  have hs := H.out.drew
  refine wp_region_held_drew (S := fun w' => w'.cell? ⟨hb, 0, none⟩ = some (.int .i64 a) ∧ w'.cell? ⟨hb, 1, none⟩ = some (.int .i64 v) ∧ w'.cell? ⟨hb, 2, none⟩ = some (.int .i64 n) ∧ w'.cell? ⟨hb, 3, none⟩ = some (.bool u) ∧ w'.cell? ⟨hb, 4, none⟩ = some (.string (bb d))) (by kernel_rfl) (req_keep hs) (fun hHeld => ?_)
  refine wpAnyH_take (i := 0) (oi := { dst := some 3, op := Op.fieldAddr 47 (Operand.tmp 1) 0, type := 0, pos := "ref.go:55", after := #[], guard := none }) (v := ?_) rfl (by kernel_rfl) (by kernel_rfl) (by kernel_rfl) (fun _ _ _ h => h) (Or.inl ⟨by rfl, ?_⟩) (by assumption) ?_
  rotate_left
  · intro w hSw; (try dsimp only at hSw); go_simp; try with_reducible rfl
  simp only [Act.put, List.setIfInBounds_toArray, List.set_cons_zero, List.set_cons_succ]
  refine wpAnyH_take (i := 1) (oi := { dst := some 4, op := Op.load 3 (Operand.tmp 3), type := 3, pos := "ref.go:55", after := #[{ on := 0, ground := Ground.data }], guard := none }) (v := ?_) rfl (by kernel_rfl) (by kernel_rfl) (by kernel_rfl) (fun _ _ _ h => h) (Or.inl ⟨by rfl, ?_⟩) (by assumption) ?_
  rotate_left
  · intro w hSw; (try dsimp only at hSw); go_simp; try with_reducible rfl
  simp only [Act.put, List.setIfInBounds_toArray, List.set_cons_zero, List.set_cons_succ]
  refine wpAnyH_take (i := 3) (oi := { dst := some 6, op := Op.fieldAddr 47 (Operand.tmp 1) 1, type := 0, pos := "ref.go:55", after := #[], guard := none }) (v := ?_) rfl (by kernel_rfl) (by kernel_rfl) (by kernel_rfl) (fun _ _ _ h => h) (Or.inl ⟨by rfl, ?_⟩) (by assumption) ?_
  rotate_left
  · intro w hSw; (try dsimp only at hSw); go_simp; try with_reducible rfl
  simp only [Act.put, List.setIfInBounds_toArray, List.set_cons_zero, List.set_cons_succ]
  refine wpAnyH_take (i := 4) (oi := { dst := some 7, op := Op.load 3 (Operand.tmp 6), type := 3, pos := "ref.go:55", after := #[{ on := 3, ground := Ground.data }], guard := none }) (v := ?_) rfl (by kernel_rfl) (by kernel_rfl) (by kernel_rfl) (fun _ _ _ h => h) (Or.inl ⟨by rfl, ?_⟩) (by assumption) ?_
  rotate_left
  · intro w hSw; (try dsimp only at hSw); go_simp; try with_reducible rfl
  simp only [Act.put, List.setIfInBounds_toArray, List.set_cons_zero, List.set_cons_succ]
  refine wpAnyH_take (i := 7) (oi := { dst := some 10, op := Op.fieldAddr 47 (Operand.tmp 1) 2, type := 0, pos := "ref.go:55", after := #[], guard := none }) (v := ?_) rfl (by kernel_rfl) (by kernel_rfl) (by kernel_rfl) (fun _ _ _ h => h) (Or.inl ⟨by rfl, ?_⟩) (by assumption) ?_
  rotate_left
  · intro w hSw; (try dsimp only at hSw); go_simp; try with_reducible rfl
  simp only [Act.put, List.setIfInBounds_toArray, List.set_cons_zero, List.set_cons_succ]
  refine wpAnyH_take (i := 8) (oi := { dst := some 11, op := Op.load 3 (Operand.tmp 10), type := 3, pos := "ref.go:55", after := #[{ on := 7, ground := Ground.data }], guard := none }) (v := ?_) rfl (by kernel_rfl) (by kernel_rfl) (by kernel_rfl) (fun _ _ _ h => h) (Or.inl ⟨by rfl, ?_⟩) (by assumption) ?_
  rotate_left
  · intro w hSw; (try dsimp only at hSw); go_simp; try with_reducible rfl
  simp only [Act.put, List.setIfInBounds_toArray, List.set_cons_zero, List.set_cons_succ]
  refine wpAnyH_take (i := 11) (oi := { dst := some 14, op := Op.fieldAddr 47 (Operand.tmp 1) 3, type := 0, pos := "ref.go:55", after := #[], guard := none }) (v := ?_) rfl (by kernel_rfl) (by kernel_rfl) (by kernel_rfl) (fun _ _ _ h => h) (Or.inl ⟨by rfl, ?_⟩) (by assumption) ?_
  rotate_left
  · intro w hSw; (try dsimp only at hSw); go_simp; try with_reducible rfl
  simp only [Act.put, List.setIfInBounds_toArray, List.set_cons_zero, List.set_cons_succ]
  refine wpAnyH_take (i := 12) (oi := { dst := some 15, op := Op.load 36 (Operand.tmp 14), type := 36, pos := "ref.go:55", after := #[{ on := 11, ground := Ground.data }], guard := none }) (v := ?_) rfl (by kernel_rfl) (by kernel_rfl) (by kernel_rfl) (fun _ _ _ h => h) (Or.inl ⟨by rfl, ?_⟩) (by assumption) ?_
  rotate_left
  · intro w hSw; (try dsimp only at hSw); go_simp; try with_reducible rfl
  simp only [Act.put, List.setIfInBounds_toArray, List.set_cons_zero, List.set_cons_succ]
  refine wpAnyH_ready (rs := [2]) (by kernel_rfl) (by simp) (AllReadyH.cons (o := { dst := some 5, op := Op.call { callee := Callee.value (Operand.func 32), args := #[Operand.tmp 4, Operand.const (Value.int IntKind.i64 2)], argTypes := #[3, 3] }, type := 9, pos := "ref.go:55", after := #[{ on := 1, ground := Ground.data }], guard := none }) rfl (fun KK hK => ?_) AllReadyH.nil)
  · go_simp
    go_at_call 32
    with_reducible refine (sr_bytes2 a RA.out hs).mono ?_
    rintro e wq ⟨rfl, hs⟩
    refine hK.out _ _ (req_keep hs) (fun hHeld => ?_)
    clear hK KK
    try simp only [Act.put, List.setIfInBounds_toArray, List.set_cons_zero, List.set_cons_succ]
    refine wpAnyH_ready (rs := [5]) (by kernel_rfl) (by simp) (AllReadyH.cons (o := { dst := some 8, op := Op.call { callee := Callee.value (Operand.func 32), args := #[Operand.tmp 7, Operand.const (Value.int IntKind.i64 2)], argTypes := #[3, 3] }, type := 9, pos := "ref.go:55", after := #[{ on := 4, ground := Ground.data }, { on := 2, ground := Ground.chain }], guard := none }) rfl (fun KK hK => ?_) AllReadyH.nil)
    · go_simp
      go_at_call 32
      with_reducible refine (sr_bytes2 v RV.out hs).mono ?_
      rintro e wq ⟨rfl, hs⟩
      refine hK.out _ _ (req_keep hs) (fun hHeld => ?_)
      clear hK KK
      try simp only [Act.put, List.setIfInBounds_toArray, List.set_cons_zero, List.set_cons_succ]
      refine wpAnyH_take (i := 6) (oi := { dst := some 9, op := Op.binOp BinOp.add 9 (Operand.tmp 5) (Operand.tmp 8) 9, type := 9, pos := "ref.go:55", after := #[{ on := 2, ground := Ground.data }, { on := 5, ground := Ground.data }], guard := none }) (v := ?_) rfl (by kernel_rfl) (by kernel_rfl) (by kernel_rfl) (fun _ _ _ h => h) (Or.inl ⟨by rfl, ?_⟩) (by assumption) ?_
      rotate_left
      · intro w hSw; (try dsimp only at hSw); go_simp; try with_reducible rfl
      simp only [Act.put, List.setIfInBounds_toArray, List.set_cons_zero, List.set_cons_succ]
      refine wpAnyH_ready (rs := [9]) (by kernel_rfl) (by simp) (AllReadyH.cons (o := { dst := some 12, op := Op.call { callee := Callee.value (Operand.func 32), args := #[Operand.tmp 11, Operand.const (Value.int IntKind.i64 4)], argTypes := #[3, 3] }, type := 9, pos := "ref.go:55", after := #[{ on := 8, ground := Ground.data }, { on := 5, ground := Ground.chain }], guard := none }) rfl (fun KK hK => ?_) AllReadyH.nil)
      · go_simp
        go_at_call 32
        with_reducible refine (sr_bytes4 n RN.out hs).mono ?_
        rintro e wq ⟨rfl, hs⟩
        refine hK.out _ _ (req_keep hs) (fun hHeld => ?_)
        clear hK KK
        try simp only [Act.put, List.setIfInBounds_toArray, List.set_cons_zero, List.set_cons_succ]
        refine wpAnyH_take (i := 10) (oi := { dst := some 13, op := Op.binOp BinOp.add 9 (Operand.tmp 9) (Operand.tmp 12) 9, type := 9, pos := "ref.go:55", after := #[{ on := 6, ground := Ground.data }, { on := 9, ground := Ground.data }], guard := none }) (v := ?_) rfl (by kernel_rfl) (by kernel_rfl) (by kernel_rfl) (fun _ _ _ h => h) (Or.inl ⟨by rfl, ?_⟩) (by assumption) ?_
        rotate_left
        · intro w hSw; (try dsimp only at hSw); go_simp; try with_reducible rfl
        simp only [Act.put, List.setIfInBounds_toArray, List.set_cons_zero, List.set_cons_succ]
        refine wpAnyH_ready (rs := [13]) (by kernel_rfl) (by simp) (AllReadyH.cons (o := { dst := some 16, op := Op.call { callee := Callee.value (Operand.func 33), args := #[Operand.tmp 15, Operand.const (Value.int IntKind.i64 2)], argTypes := #[36, 3] }, type := 9, pos := "ref.go:55", after := #[{ on := 12, ground := Ground.data }, { on := 9, ground := Ground.chain }], guard := none }) rfl (fun KK hK => ?_) AllReadyH.nil)
        · go_simp
          go_at_call 33
          with_reducible refine (ref04_fixed2 u d _ rfl HD.out hs).mono ?_
          rintro e wq ⟨rfl, hs⟩
          refine hK.out _ _ (req_keep hs) (fun hHeld => ?_)
          clear hK KK
          try simp only [Act.put, List.setIfInBounds_toArray, List.set_cons_zero, List.set_cons_succ]
          refine wpAnyH_take (i := 14) (oi := { dst := some 17, op := Op.binOp BinOp.add 9 (Operand.tmp 13) (Operand.tmp 16) 9, type := 9, pos := "ref.go:55", after := #[{ on := 10, ground := Ground.data }, { on := 13, ground := Ground.data }], guard := none }) (v := ?_) rfl (by kernel_rfl) (by kernel_rfl) (by kernel_rfl) (fun _ _ _ h => h) (Or.inl ⟨by rfl, ?_⟩) (by assumption) ?_
          rotate_left
          · intro w hSw; (try dsimp only at hSw); go_simp; try with_reducible rfl
          simp only [Act.put, List.setIfInBounds_toArray, List.set_cons_zero, List.set_cons_succ]
          refine wpAnyH_take (i := 15) (oi := { dst := some 2, op := Op.assign (Operand.tmp 17), type := 9, pos := "ref.go:55", after := #[{ on := 14, ground := Ground.data }, { on := 13, ground := Ground.chain }, { on := 0, ground := Ground.phase }, { on := 1, ground := Ground.phase }, { on := 2, ground := Ground.phase }, { on := 3, ground := Ground.phase }, { on := 4, ground := Ground.phase }, { on := 5, ground := Ground.phase }, { on := 6, ground := Ground.phase }, { on := 7, ground := Ground.phase }, { on := 8, ground := Ground.phase }, { on := 9, ground := Ground.phase }, { on := 10, ground := Ground.phase }, { on := 11, ground := Ground.phase }, { on := 12, ground := Ground.phase }, { on := 13, ground := Ground.phase }, { on := 14, ground := Ground.phase }], guard := none }) (v := ?_) rfl (by kernel_rfl) (by kernel_rfl) (by kernel_rfl) (fun _ _ _ h => h) (Or.inl ⟨by rfl, ?_⟩) (by assumption) ?_
          rotate_left
          · intro w hSw; (try dsimp only at hSw); go_simp; try with_reducible rfl
          simp only [Act.put, List.setIfInBounds_toArray, List.set_cons_zero, List.set_cons_succ]
          refine wpAnyH_done (by kernel_rfl) ?_ _
          clear hHeld
          go_wp2_with fail
          go_ret
          exact ⟨by unfold encHead encF; simp, hs.drop⟩

end Go.Proofs.YtngnhdiafbjfkaaDoor
