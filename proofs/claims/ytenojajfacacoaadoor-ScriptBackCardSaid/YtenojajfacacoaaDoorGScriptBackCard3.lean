/- A word of bytes, or none. -/
import Derived.Test.YtenojajfacacoaaDoorSc16P
import Derived.Test.YtenojajfacacoaaDoorGScriptBackCard2
import Derived.Test.YtenojajfacacoaaDoorRegOp
import Derived.RegionTactic
import Derived.WalkMore
import Derived.Deep.RegionHeld3
import Derived.Deep.DeepCutAuto
import Derived.Test.YtenojajfacacoaaDoorSc9
import Derived.Test.YtenojajfacacoaaDoorSc17P
import Derived.Test.YtenojajfacacoaaDoorSc8
import Derived.Test.YtenojajfacacoaaDoorSc7P
import Derived.Test.YtenojajfacacoaaDoorSc2
/- Lines that are none. -/
namespace Go.Proofs.YtenojajfacacoaaDoor
open Go.RowKit

set_option maxHeartbeats 4000000 in
set_option maxRecDepth 100000 in
theorem rd_batch_len (rd wb off cap nw : Nat) (c : Array Value) (hnw : nw ≠ 9) {W0 w : World} {K : Know} {L : List Res} (h : St W0 w K (.raw rd c 65 :: L)) :
    Calls Tryd.prog 44 #[.pointer (some ⟨rd, 0, none⟩), .slice (some ⟨wb, off, none⟩) nw cap] w fun en w' => en = .returned (.bool false) ∧ St W0 w' K L := by
  obtain ⟨nb, hnb⟩ : ∃ b, w.heap.size = b := ⟨_, rfl⟩
  have g1 := h.allocRaw #[.int .i64 0, .int .i64 0, .int .i64 0, .int .i64 0, .int .i64 0, .int .i64 0, .int .i64 0, .int .i64 0] 83
  rw [hnb] at g1
  have H := Lib.hid g1
  have e1 : ((nw : Int) == 9) = false := by rw [beq_eq_false_iff_ne]; omega
  have e2 : ((nw : Int) != 9) = true := by simp [bne, e1]
  clear h g1 hnw
  go_enter Tryd.func44, Tryd.ntmps44
  go_upto_region 2 with fail
  have hs := H.out.drew
  clear H
  refine wp_region_held_drew (S := fun _ => True) (by kernel_rfl) trivial (fun hHeld => ?_)
  refine wpAnyH_take (i := 0) (oi := { dst := some 8, op := Op.move (Operand.tmp 1), type := 36, pos := "parse.go:65", after := #[], guard := none }) (v := ?_) rfl (by kernel_rfl) (by kernel_rfl) (by kernel_rfl) (fun _ _ _ h => h) (Or.inl ⟨by rfl, ?_⟩) (by assumption) ?_
  rotate_left
  · intro w hSw; (try dsimp only at hSw); go_simp; try with_reducible rfl
  simp only [Act.put, List.setIfInBounds_toArray, List.set_cons_zero, List.set_cons_succ]
  refine wpAnyH_take (i := 1) (oi := { dst := some 9, op := Op.call { callee := Callee.builtin Builtin.len, args := #[Operand.tmp 8], argTypes := #[36] }, type := 3, pos := "parse.go:65", after := #[{ on := 0, ground := Ground.data }], guard := none }) (v := ?_) rfl (by kernel_rfl) (by kernel_rfl) (by kernel_rfl) (fun _ _ _ h => h) (Or.inl ⟨by rfl, ?_⟩) (by assumption) ?_
  rotate_left
  · intro w hSw; (try dsimp only at hSw); go_simp; try with_reducible rfl
  simp only [Act.put, List.setIfInBounds_toArray, List.set_cons_zero, List.set_cons_succ]
  refine wpAnyH_take (i := 2) (oi := { dst := some 10, op := Op.binOp BinOp.neq 3 (Operand.tmp 9) (Operand.const (Value.int IntKind.i64 9)) 3, type := 4, pos := "parse.go:65", after := #[{ on := 1, ground := Ground.data }], guard := none }) (v := ?_) rfl (by kernel_rfl) (by kernel_rfl) (by kernel_rfl) (fun _ _ _ h => h) (Or.inl ⟨by rfl, ?_⟩) (by assumption) ?_
  rotate_left
  · intro w hSw; (try dsimp only at hSw); go_simp; try with_reducible rfl
  simp only [Act.put, List.setIfInBounds_toArray, List.set_cons_zero, List.set_cons_succ]
  refine wpAnyH_take (i := 3) (oi := { dst := some 11, op := Op.move (Operand.tmp 10), type := 4, pos := "parse.go:65", after := #[{ on := 2, ground := Ground.data }], guard := none }) (v := ?_) rfl (by kernel_rfl) (by kernel_rfl) (by kernel_rfl) (fun _ _ _ h => h) (Or.inl ⟨by rfl, ?_⟩) (by assumption) ?_
  rotate_left
  · intro w hSw; (try dsimp only at hSw); go_simp; try with_reducible rfl
  simp only [Act.put, List.setIfInBounds_toArray, List.set_cons_zero, List.set_cons_succ]
  refine wpAnyH_take (i := 4) (oi := { dst := some 12, op := Op.slice 83 (Operand.tmp 5) none none none, type := 23, pos := "parse.go:65", after := #[{ on := 3, ground := Ground.guard }], guard := some (3, false) }) (v := undef) rfl (by kernel_rfl) (by kernel_rfl) (by kernel_rfl) (fun _ _ _ h => h) (Or.inr ⟨by rfl, rfl⟩) (by assumption) ?_
  simp only [Act.put, List.setIfInBounds_toArray, List.set_cons_zero, List.set_cons_succ]
  refine wpAnyH_take (i := 5) (oi := { dst := some 13, op := Op.move (Operand.tmp 1), type := 36, pos := "parse.go:65", after := #[{ on := 3, ground := Ground.guard }], guard := some (3, false) }) (v := undef) rfl (by kernel_rfl) (by kernel_rfl) (by kernel_rfl) (fun _ _ _ h => h) (Or.inr ⟨by rfl, rfl⟩) (by assumption) ?_
  simp only [Act.put, List.setIfInBounds_toArray, List.set_cons_zero, List.set_cons_succ]
  refine wpAnyH_take (i := 6) (oi := { dst := some 14, op := Op.slice 36 (Operand.tmp 13) none (some (Operand.const (Value.int IntKind.i64 8))) none, type := 36, pos := "parse.go:65", after := #[{ on := 5, ground := Ground.data }, { on := 3, ground := Ground.guard }], guard := some (3, false) }) (v := undef) rfl (by kernel_rfl) (by kernel_rfl) (by kernel_rfl) (fun _ _ _ h => h) (Or.inr ⟨by rfl, rfl⟩) (by assumption) ?_
  simp only [Act.put, List.setIfInBounds_toArray, List.set_cons_zero, List.set_cons_succ]
  refine wpAnyH_take (i := 7) (oi := { dst := some 15, op := Op.call { callee := Callee.value (Operand.func 56), args := #[Operand.tmp 12, Operand.tmp 14], argTypes := #[23, 36] }, type := 4, pos := "parse.go:65", after := #[{ on := 4, ground := Ground.data }, { on := 6, ground := Ground.data }, { on := 3, ground := Ground.chain }, { on := 3, ground := Ground.guard }], guard := some (3, false) }) (v := undef) rfl (by kernel_rfl) (by kernel_rfl) (by kernel_rfl) (fun _ _ _ h => h) (Or.inr ⟨by rfl, rfl⟩) (by assumption) ?_
  simp only [Act.put, List.setIfInBounds_toArray, List.set_cons_zero, List.set_cons_succ]
  refine wpAnyH_take (i := 8) (oi := { dst := some 16, op := Op.unOp UnOp.not 4 (Operand.tmp 15), type := 4, pos := "parse.go:65", after := #[{ on := 7, ground := Ground.data }, { on := 3, ground := Ground.guard }], guard := some (3, false) }) (v := undef) rfl (by kernel_rfl) (by kernel_rfl) (by kernel_rfl) (fun _ _ _ h => h) (Or.inr ⟨by rfl, rfl⟩) (by assumption) ?_
  simp only [Act.put, List.setIfInBounds_toArray, List.set_cons_zero, List.set_cons_succ]
  refine wpAnyH_take (i := 9) (oi := { dst := some 17, op := Op.pick (Operand.tmp 11) (Operand.const (Value.bool true)) (Operand.tmp 16), type := 4, pos := "parse.go:65", after := #[{ on := 3, ground := Ground.data }, { on := 8, ground := Ground.data }], guard := none }) (v := ?_) rfl (by kernel_rfl) (by kernel_rfl) (by kernel_rfl) (fun _ _ _ h => h) (Or.inl ⟨by rfl, ?_⟩) (by assumption) ?_
  rotate_left
  · intro w hSw; (try dsimp only at hSw); go_simp; try with_reducible rfl
  simp only [Act.put, List.setIfInBounds_toArray, List.set_cons_zero, List.set_cons_succ]
  refine wpAnyH_done (by kernel_rfl) ?_ _
  clear hHeld
  have H := Lib.hid hs
  clear hs
  go_wp2_with fail
  go_ret
  exact ⟨rfl, H.out.drop.drop⟩
set_option maxHeartbeats 4000000 in
set_option maxRecDepth 100000 in
theorem rd_batch_bad (rd wb off cap : Nat) (c : Array Value) (ws : List Bs) (s : Bs) (hw : 8 = ws.length) (hns : numsRd ws = none) (hxl : ∀ y ∈ ws, y.length ≤ 1000000) (hcap : 9 ≤ cap) {W0 w : World} {K : Know} {L : List Res} (hlib : K.has Know.lib) (hk : K.has (Know.strs wb off (ws ++ [s]))) (h : St W0 w K (.raw rd c 65 :: L)) :
    Calls Tryd.prog 44 #[.pointer (some ⟨rd, 0, none⟩), .slice (some ⟨wb, off, none⟩) 9 cap] w fun en w' => en = .returned (.bool false) ∧ St W0 w' K L := by
  obtain ⟨nb, hnb⟩ : ∃ b, w.heap.size = b := ⟨_, rfl⟩
  have g1 := h.allocRaw #[.int .i64 0, .int .i64 0, .int .i64 0, .int .i64 0, .int .i64 0, .int .i64 0, .int .i64 0, .int .i64 0] 83
  rw [hnb] at g1
  have H := Lib.hid g1
  have HK2 := Lib.hid (show K.has (Know.strs wb off ws) from by have h9 := strs_take hk 8; rw [List.take_append_of_le_length (by omega), List.take_of_length_le (by omega)] at h9; exact h9)
  have HLIB := Lib.hid hlib
  have HW := Lib.hid hw
  have HNS := Lib.hid hns
  have HXL := Lib.hid hxl
  have HZ := Lib.hid (show ((#[.int .i64 0, .int .i64 0, .int .i64 0, .int .i64 0, .int .i64 0, .int .i64 0, .int .i64 0, .int .i64 0] : Array Value)).size = ws.length from hw)
  have HL1 := Lib.hid (show ws.length ≤ 1000000 by omega)
  have hc8 : (8 : Int) ≤ (cap : Int) := by omega
  clear h g1 hk hlib hns hxl hw hcap
  go_enter Tryd.func44, Tryd.ntmps44
  go_upto_region 2 with fail
  have hs := H.out.drew
  clear H
  refine wp_region_held_drew (S := fun _ => True) (by kernel_rfl) trivial (fun hHeld => ?_)
  refine wpAnyH_take (i := 0) (oi := { dst := some 8, op := Op.move (Operand.tmp 1), type := 36, pos := "parse.go:65", after := #[], guard := none }) (v := ?_) rfl (by kernel_rfl) (by kernel_rfl) (by kernel_rfl) (fun _ _ _ h => h) (Or.inl ⟨by rfl, ?_⟩) (by assumption) ?_
  rotate_left
  · intro w hSw; (try dsimp only at hSw); go_simp; try with_reducible rfl
  simp only [Act.put, List.setIfInBounds_toArray, List.set_cons_zero, List.set_cons_succ]
  refine wpAnyH_take (i := 1) (oi := { dst := some 9, op := Op.call { callee := Callee.builtin Builtin.len, args := #[Operand.tmp 8], argTypes := #[36] }, type := 3, pos := "parse.go:65", after := #[{ on := 0, ground := Ground.data }], guard := none }) (v := ?_) rfl (by kernel_rfl) (by kernel_rfl) (by kernel_rfl) (fun _ _ _ h => h) (Or.inl ⟨by rfl, ?_⟩) (by assumption) ?_
  rotate_left
  · intro w hSw; (try dsimp only at hSw); go_simp; try with_reducible rfl
  simp only [Act.put, List.setIfInBounds_toArray, List.set_cons_zero, List.set_cons_succ]
  refine wpAnyH_take (i := 2) (oi := { dst := some 10, op := Op.binOp BinOp.neq 3 (Operand.tmp 9) (Operand.const (Value.int IntKind.i64 9)) 3, type := 4, pos := "parse.go:65", after := #[{ on := 1, ground := Ground.data }], guard := none }) (v := ?_) rfl (by kernel_rfl) (by kernel_rfl) (by kernel_rfl) (fun _ _ _ h => h) (Or.inl ⟨by rfl, ?_⟩) (by assumption) ?_
  rotate_left
  · intro w hSw; (try dsimp only at hSw); go_simp; try with_reducible rfl
  simp only [Act.put, List.setIfInBounds_toArray, List.set_cons_zero, List.set_cons_succ]
  refine wpAnyH_take (i := 3) (oi := { dst := some 11, op := Op.move (Operand.tmp 10), type := 4, pos := "parse.go:65", after := #[{ on := 2, ground := Ground.data }], guard := none }) (v := ?_) rfl (by kernel_rfl) (by kernel_rfl) (by kernel_rfl) (fun _ _ _ h => h) (Or.inl ⟨by rfl, ?_⟩) (by assumption) ?_
  rotate_left
  · intro w hSw; (try dsimp only at hSw); go_simp; try with_reducible rfl
  simp only [Act.put, List.setIfInBounds_toArray, List.set_cons_zero, List.set_cons_succ]
  refine wpAnyH_take (i := 4) (oi := { dst := some 12, op := Op.slice 83 (Operand.tmp 5) none none none, type := 23, pos := "parse.go:65", after := #[{ on := 3, ground := Ground.guard }], guard := some (3, false) }) (v := ?_) rfl (by kernel_rfl) (by kernel_rfl) (by kernel_rfl) (fun _ _ _ h => h) (Or.inl ⟨by rfl, ?_⟩) (by assumption) ?_
  rotate_left
  · intro w hSw; (try dsimp only at hSw); go_simp; try with_reducible rfl
  simp only [Act.put, List.setIfInBounds_toArray, List.set_cons_zero, List.set_cons_succ]
  refine wpAnyH_take (i := 5) (oi := { dst := some 13, op := Op.move (Operand.tmp 1), type := 36, pos := "parse.go:65", after := #[{ on := 3, ground := Ground.guard }], guard := some (3, false) }) (v := ?_) rfl (by kernel_rfl) (by kernel_rfl) (by kernel_rfl) (fun _ _ _ h => h) (Or.inl ⟨by rfl, ?_⟩) (by assumption) ?_
  rotate_left
  · intro w hSw; (try dsimp only at hSw); go_simp; try with_reducible rfl
  simp only [Act.put, List.setIfInBounds_toArray, List.set_cons_zero, List.set_cons_succ]
  refine wpAnyH_take (i := 6) (oi := { dst := some 14, op := Op.slice 36 (Operand.tmp 13) none (some (Operand.const (Value.int IntKind.i64 8))) none, type := 36, pos := "parse.go:65", after := #[{ on := 5, ground := Ground.data }, { on := 3, ground := Ground.guard }], guard := some (3, false) }) (v := ?_) rfl (by kernel_rfl) (by kernel_rfl) (by kernel_rfl) (fun _ _ _ h => h) (Or.inl ⟨by rfl, ?_⟩) (by assumption) ?_
  rotate_left
  · intro w hSw; (try dsimp only at hSw); go_simp; try with_reducible rfl
  simp only [Act.put, List.setIfInBounds_toArray, List.set_cons_zero, List.set_cons_succ]
  refine wpAnyH_ready (rs := [7]) (by kernel_rfl) (by simp) (AllReadyH.cons (o := { dst := some 15, op := Op.call { callee := Callee.value (Operand.func 56), args := #[Operand.tmp 12, Operand.tmp 14], argTypes := #[23, 36] }, type := 4, pos := "parse.go:65", after := #[{ on := 4, ground := Ground.data }, { on := 6, ground := Ground.data }, { on := 3, ground := Ground.chain }, { on := 3, ground := Ground.guard }], guard := some (3, false) }) rfl (fun KK hK => ?_) AllReadyH.nil)
  · go_simp
    go_at_call 56
    with_reducible refine (sc_nums_bad nb #[.int .i64 0, .int .i64 0, .int .i64 0, .int .i64 0, .int .i64 0, .int .i64 0, .int .i64 0, .int .i64 0] 83 wb off cap 8 ws 8 HW.out HNS.out HZ.out HL1.out HXL.out HLIB.out HK2.out hs).mono ?_
    rintro e wq ⟨rfl, hs⟩
    refine hK.out _ _ (trivial) (fun hHeld => ?_)
    clear hK KK
    try simp only [Act.put, List.setIfInBounds_toArray, List.set_cons_zero, List.set_cons_succ]
    refine wpAnyH_take (i := 8) (oi := { dst := some 16, op := Op.unOp UnOp.not 4 (Operand.tmp 15), type := 4, pos := "parse.go:65", after := #[{ on := 7, ground := Ground.data }, { on := 3, ground := Ground.guard }], guard := some (3, false) }) (v := ?_) rfl (by kernel_rfl) (by kernel_rfl) (by kernel_rfl) (fun _ _ _ h => h) (Or.inl ⟨by rfl, ?_⟩) (by assumption) ?_
    rotate_left
    · intro w hSw; (try dsimp only at hSw); go_simp; try with_reducible rfl
    simp only [Act.put, List.setIfInBounds_toArray, List.set_cons_zero, List.set_cons_succ]
    refine wpAnyH_take (i := 9) (oi := { dst := some 17, op := Op.pick (Operand.tmp 11) (Operand.const (Value.bool true)) (Operand.tmp 16), type := 4, pos := "parse.go:65", after := #[{ on := 3, ground := Ground.data }, { on := 8, ground := Ground.data }], guard := none }) (v := ?_) rfl (by kernel_rfl) (by kernel_rfl) (by kernel_rfl) (fun _ _ _ h => h) (Or.inl ⟨by rfl, ?_⟩) (by assumption) ?_
    rotate_left
    · intro w hSw; (try dsimp only at hSw); go_simp; try with_reducible rfl
    simp only [Act.put, List.setIfInBounds_toArray, List.set_cons_zero, List.set_cons_succ]
    refine wpAnyH_done (by kernel_rfl) ?_ _
    clear hHeld
    have H := Lib.hid hs
    clear hs
    go_wp2_with fail
    go_ret
    exact ⟨rfl, H.out.drop⟩

set_option maxHeartbeats 4000000 in
set_option maxRecDepth 100000 in
theorem rd_record_none (rd wb off cap n bcap : Nat) (q : Option Addr) (ch : Value) (c : Int) (nw : Nat) (hn : n = 0) {W0 w : World} {K : Know} {L : List Res}  (h : St W0 w K (.raw rd #[.slice q n bcap, .int .i64 c, ch] 65 :: L)) :
    Calls Tryd.prog 45 #[.pointer (some ⟨rd, 0, none⟩), .slice (some ⟨wb, off, none⟩) nw cap] w fun en w' => en = .returned (.bool false) ∧ St W0 w' K L := by
  obtain ⟨nb, hnb⟩ : ∃ b, w.heap.size = b := ⟨_, rfl⟩
  have g1 := h.allocRaw #[.int .i64 0, .int .i64 0] 96
  rw [hnb] at g1
  have H := Lib.hid g1
  subst hn
  clear h g1 
  go_enter Tryd.func45, Tryd.ntmps45
  go_upto_region 2 with fail
  have hs := H.out.drew
  have KEEP := Lib.hid (show ∀ (w' : World) (L' : List Res), St W0 w' K (.raw rd #[.slice q 0 bcap, .int .i64 c, ch] 65 :: L') → w'.cell? ⟨rd, 0, none⟩ = some (.slice q 0 bcap) from fun w' L' h' => h'.rawCell 0)
  clear H
  refine wp_region_held_drew (S := fun w' => w'.cell? ⟨rd, 0, none⟩ = some (.slice q 0 bcap)) (by kernel_rfl) (KEEP.out _ _ hs.p1) (fun hHeld => ?_)
  refine wpAnyH_take (i := 0) (oi := { dst := some 11, op := Op.move (Operand.tmp 0), type := 87, pos := "parse.go:79", after := #[], guard := none }) (v := ?_) rfl (by kernel_rfl) (by kernel_rfl) (by kernel_rfl) (fun _ _ _ h => h) (Or.inl ⟨by rfl, ?_⟩) (by assumption) ?_
  rotate_left
  · intro w hSw; (try dsimp only at hSw); go_simp; try with_reducible rfl
  simp only [Act.put, List.setIfInBounds_toArray, List.set_cons_zero, List.set_cons_succ]
  refine wpAnyH_take (i := 1) (oi := { dst := some 12, op := Op.nilCheck (Operand.tmp 11), type := 0, pos := "parse.go:79", after := #[{ on := 0, ground := Ground.data }], guard := none }) (v := ?_) rfl (by kernel_rfl) (by kernel_rfl) (by kernel_rfl) (fun _ _ _ h => h) (Or.inl ⟨by rfl, ?_⟩) (by assumption) ?_
  rotate_left
  · intro w hSw; (try dsimp only at hSw); go_simp; try with_reducible rfl
  simp only [Act.put, List.setIfInBounds_toArray, List.set_cons_zero, List.set_cons_succ]
  refine wpAnyH_take (i := 2) (oi := { dst := some 13, op := Op.fieldAddr 65 (Operand.tmp 12) 0, type := 0, pos := "parse.go:79", after := #[{ on := 1, ground := Ground.data }], guard := none }) (v := ?_) rfl (by kernel_rfl) (by kernel_rfl) (by kernel_rfl) (fun _ _ _ h => h) (Or.inl ⟨by rfl, ?_⟩) (by assumption) ?_
  rotate_left
  · intro w hSw; (try dsimp only at hSw); go_simp; try with_reducible rfl
  simp only [Act.put, List.setIfInBounds_toArray, List.set_cons_zero, List.set_cons_succ]
  refine wpAnyH_take (i := 3) (oi := { dst := some 14, op := Op.fieldAddr 25 (Operand.tmp 13) 0, type := 0, pos := "parse.go:79", after := #[{ on := 2, ground := Ground.data }], guard := none }) (v := ?_) rfl (by kernel_rfl) (by kernel_rfl) (by kernel_rfl) (fun _ _ _ h => h) (Or.inl ⟨by rfl, ?_⟩) (by assumption) ?_
  rotate_left
  · intro w hSw; (try dsimp only at hSw); go_simp; try with_reducible rfl
  simp only [Act.put, List.setIfInBounds_toArray, List.set_cons_zero, List.set_cons_succ]
  refine wpAnyH_take (i := 4) (oi := { dst := some 15, op := Op.load 22 (Operand.tmp 14), type := 22, pos := "parse.go:79", after := #[{ on := 3, ground := Ground.data }], guard := none }) (v := ?_) rfl (by kernel_rfl) (by kernel_rfl) (by kernel_rfl) (fun _ _ _ h => h) (Or.inl ⟨by rfl, ?_⟩) (by assumption) ?_
  rotate_left
  · intro w hSw; (try dsimp only at hSw); go_simp; try with_reducible rfl
  simp only [Act.put, List.setIfInBounds_toArray, List.set_cons_zero, List.set_cons_succ]
  refine wpAnyH_take (i := 5) (oi := { dst := some 16, op := Op.call { callee := Callee.builtin Builtin.len, args := #[Operand.tmp 15], argTypes := #[22] }, type := 3, pos := "parse.go:79", after := #[{ on := 4, ground := Ground.data }], guard := none }) (v := ?_) rfl (by kernel_rfl) (by kernel_rfl) (by kernel_rfl) (fun _ _ _ h => h) (Or.inl ⟨by rfl, ?_⟩) (by assumption) ?_
  rotate_left
  · intro w hSw; (try dsimp only at hSw); go_simp; try with_reducible rfl
  simp only [Act.put, List.setIfInBounds_toArray, List.set_cons_zero, List.set_cons_succ]
  refine wpAnyH_take (i := 6) (oi := { dst := some 17, op := Op.binOp BinOp.eql 3 (Operand.tmp 16) (Operand.const (Value.int IntKind.i64 0)) 3, type := 4, pos := "parse.go:79", after := #[{ on := 5, ground := Ground.data }], guard := none }) (v := ?_) rfl (by kernel_rfl) (by kernel_rfl) (by kernel_rfl) (fun _ _ _ h => h) (Or.inl ⟨by rfl, ?_⟩) (by assumption) ?_
  rotate_left
  · intro w hSw; (try dsimp only at hSw); go_simp; try with_reducible rfl
  simp only [Act.put, List.setIfInBounds_toArray, List.set_cons_zero, List.set_cons_succ]
  refine wpAnyH_take (i := 7) (oi := { dst := some 18, op := Op.move (Operand.tmp 17), type := 4, pos := "parse.go:79", after := #[{ on := 6, ground := Ground.data }], guard := none }) (v := ?_) rfl (by kernel_rfl) (by kernel_rfl) (by kernel_rfl) (fun _ _ _ h => h) (Or.inl ⟨by rfl, ?_⟩) (by assumption) ?_
  rotate_left
  · intro w hSw; (try dsimp only at hSw); go_simp; try with_reducible rfl
  simp only [Act.put, List.setIfInBounds_toArray, List.set_cons_zero, List.set_cons_succ]
  refine wpAnyH_take (i := 8) (oi := { dst := some 19, op := Op.move (Operand.tmp 1), type := 36, pos := "parse.go:79", after := #[{ on := 7, ground := Ground.guard }], guard := some (7, false) }) (v := undef) rfl (by kernel_rfl) (by kernel_rfl) (by kernel_rfl) (fun _ _ _ h => h) (Or.inr ⟨by rfl, rfl⟩) (by assumption) ?_
  simp only [Act.put, List.setIfInBounds_toArray, List.set_cons_zero, List.set_cons_succ]
  refine wpAnyH_take (i := 9) (oi := { dst := some 20, op := Op.call { callee := Callee.builtin Builtin.len, args := #[Operand.tmp 19], argTypes := #[36] }, type := 3, pos := "parse.go:79", after := #[{ on := 8, ground := Ground.data }, { on := 7, ground := Ground.guard }], guard := some (7, false) }) (v := undef) rfl (by kernel_rfl) (by kernel_rfl) (by kernel_rfl) (fun _ _ _ h => h) (Or.inr ⟨by rfl, rfl⟩) (by assumption) ?_
  simp only [Act.put, List.setIfInBounds_toArray, List.set_cons_zero, List.set_cons_succ]
  refine wpAnyH_take (i := 10) (oi := { dst := some 21, op := Op.binOp BinOp.neq 3 (Operand.tmp 20) (Operand.const (Value.int IntKind.i64 4)) 3, type := 4, pos := "parse.go:79", after := #[{ on := 9, ground := Ground.data }, { on := 7, ground := Ground.guard }], guard := some (7, false) }) (v := undef) rfl (by kernel_rfl) (by kernel_rfl) (by kernel_rfl) (fun _ _ _ h => h) (Or.inr ⟨by rfl, rfl⟩) (by assumption) ?_
  simp only [Act.put, List.setIfInBounds_toArray, List.set_cons_zero, List.set_cons_succ]
  refine wpAnyH_take (i := 11) (oi := { dst := some 22, op := Op.pick (Operand.tmp 18) (Operand.const (Value.bool true)) (Operand.tmp 21), type := 4, pos := "parse.go:79", after := #[{ on := 7, ground := Ground.data }, { on := 10, ground := Ground.data }], guard := none }) (v := ?_) rfl (by kernel_rfl) (by kernel_rfl) (by kernel_rfl) (fun _ _ _ h => h) (Or.inl ⟨by rfl, ?_⟩) (by assumption) ?_
  rotate_left
  · intro w hSw; (try dsimp only at hSw); go_simp; try with_reducible rfl
  simp only [Act.put, List.setIfInBounds_toArray, List.set_cons_zero, List.set_cons_succ]
  refine wpAnyH_take (i := 12) (oi := { dst := some 23, op := Op.move (Operand.tmp 22), type := 4, pos := "parse.go:79", after := #[{ on := 11, ground := Ground.data }, { on := 7, ground := Ground.chain }], guard := none }) (v := ?_) rfl (by kernel_rfl) (by kernel_rfl) (by kernel_rfl) (fun _ _ _ h => h) (Or.inl ⟨by rfl, ?_⟩) (by assumption) ?_
  rotate_left
  · intro w hSw; (try dsimp only at hSw); go_simp; try with_reducible rfl
  simp only [Act.put, List.setIfInBounds_toArray, List.set_cons_zero, List.set_cons_succ]
  refine wpAnyH_take (i := 13) (oi := { dst := some 24, op := Op.slice 96 (Operand.tmp 5) none none none, type := 23, pos := "parse.go:79", after := #[{ on := 12, ground := Ground.guard }], guard := some (12, false) }) (v := undef) rfl (by kernel_rfl) (by kernel_rfl) (by kernel_rfl) (fun _ _ _ h => h) (Or.inr ⟨by rfl, rfl⟩) (by assumption) ?_
  simp only [Act.put, List.setIfInBounds_toArray, List.set_cons_zero, List.set_cons_succ]
  refine wpAnyH_take (i := 14) (oi := { dst := some 25, op := Op.move (Operand.tmp 1), type := 36, pos := "parse.go:79", after := #[{ on := 12, ground := Ground.guard }], guard := some (12, false) }) (v := undef) rfl (by kernel_rfl) (by kernel_rfl) (by kernel_rfl) (fun _ _ _ h => h) (Or.inr ⟨by rfl, rfl⟩) (by assumption) ?_
  simp only [Act.put, List.setIfInBounds_toArray, List.set_cons_zero, List.set_cons_succ]
  refine wpAnyH_take (i := 15) (oi := { dst := some 26, op := Op.slice 36 (Operand.tmp 25) none (some (Operand.const (Value.int IntKind.i64 2))) none, type := 36, pos := "parse.go:79", after := #[{ on := 14, ground := Ground.data }, { on := 12, ground := Ground.guard }], guard := some (12, false) }) (v := undef) rfl (by kernel_rfl) (by kernel_rfl) (by kernel_rfl) (fun _ _ _ h => h) (Or.inr ⟨by rfl, rfl⟩) (by assumption) ?_
  simp only [Act.put, List.setIfInBounds_toArray, List.set_cons_zero, List.set_cons_succ]
  refine wpAnyH_take (i := 16) (oi := { dst := some 27, op := Op.call { callee := Callee.value (Operand.func 56), args := #[Operand.tmp 24, Operand.tmp 26], argTypes := #[23, 36] }, type := 4, pos := "parse.go:79", after := #[{ on := 13, ground := Ground.data }, { on := 15, ground := Ground.data }, { on := 12, ground := Ground.chain }, { on := 12, ground := Ground.guard }], guard := some (12, false) }) (v := undef) rfl (by kernel_rfl) (by kernel_rfl) (by kernel_rfl) (fun _ _ _ h => h) (Or.inr ⟨by rfl, rfl⟩) (by assumption) ?_
  simp only [Act.put, List.setIfInBounds_toArray, List.set_cons_zero, List.set_cons_succ]
  refine wpAnyH_take (i := 17) (oi := { dst := some 28, op := Op.unOp UnOp.not 4 (Operand.tmp 27), type := 4, pos := "parse.go:79", after := #[{ on := 16, ground := Ground.data }, { on := 12, ground := Ground.guard }], guard := some (12, false) }) (v := undef) rfl (by kernel_rfl) (by kernel_rfl) (by kernel_rfl) (fun _ _ _ h => h) (Or.inr ⟨by rfl, rfl⟩) (by assumption) ?_
  simp only [Act.put, List.setIfInBounds_toArray, List.set_cons_zero, List.set_cons_succ]
  refine wpAnyH_take (i := 18) (oi := { dst := some 29, op := Op.pick (Operand.tmp 23) (Operand.const (Value.bool true)) (Operand.tmp 28), type := 4, pos := "parse.go:79", after := #[{ on := 12, ground := Ground.data }, { on := 17, ground := Ground.data }], guard := none }) (v := ?_) rfl (by kernel_rfl) (by kernel_rfl) (by kernel_rfl) (fun _ _ _ h => h) (Or.inl ⟨by rfl, ?_⟩) (by assumption) ?_
  rotate_left
  · intro w hSw; (try dsimp only at hSw); go_simp; try with_reducible rfl
  simp only [Act.put, List.setIfInBounds_toArray, List.set_cons_zero, List.set_cons_succ]
  refine wpAnyH_done (by kernel_rfl) ?_ _
  clear hHeld
  have H := Lib.hid hs
  clear hs
  go_wp2_with fail
  go_ret
  exact ⟨rfl, H.out.drop.drop⟩

set_option maxHeartbeats 4000000 in
set_option maxRecDepth 100000 in
theorem rd_record_len (rd wb off cap n bcap : Nat) (q : Option Addr) (ch : Value) (c : Int) (nw : Nat) (hn : n ≠ 0) (hnw : nw ≠ 4) {W0 w : World} {K : Know} {L : List Res}  (h : St W0 w K (.raw rd #[.slice q n bcap, .int .i64 c, ch] 65 :: L)) :
    Calls Tryd.prog 45 #[.pointer (some ⟨rd, 0, none⟩), .slice (some ⟨wb, off, none⟩) nw cap] w fun en w' => en = .returned (.bool false) ∧ St W0 w' K L := by
  obtain ⟨nb, hnb⟩ : ∃ b, w.heap.size = b := ⟨_, rfl⟩
  have g1 := h.allocRaw #[.int .i64 0, .int .i64 0] 96
  rw [hnb] at g1
  have H := Lib.hid g1
  have q0 : ((n : Int) == 0) = false := by rw [beq_eq_false_iff_ne]; omega
  have e1 : ((nw : Int) == 4) = false := by rw [beq_eq_false_iff_ne]; omega
  have e2 : ((nw : Int) != 4) = true := by simp [bne, e1]
  clear h g1 hn hnw
  go_enter Tryd.func45, Tryd.ntmps45
  go_upto_region 2 with fail
  have hs := H.out.drew
  have KEEP := Lib.hid (show ∀ (w' : World) (L' : List Res), St W0 w' K (.raw rd #[.slice q n bcap, .int .i64 c, ch] 65 :: L') → w'.cell? ⟨rd, 0, none⟩ = some (.slice q n bcap) from fun w' L' h' => h'.rawCell 0)
  clear H
  refine wp_region_held_drew (S := fun w' => w'.cell? ⟨rd, 0, none⟩ = some (.slice q n bcap)) (by kernel_rfl) (KEEP.out _ _ hs.p1) (fun hHeld => ?_)
  refine wpAnyH_take (i := 0) (oi := { dst := some 11, op := Op.move (Operand.tmp 0), type := 87, pos := "parse.go:79", after := #[], guard := none }) (v := ?_) rfl (by kernel_rfl) (by kernel_rfl) (by kernel_rfl) (fun _ _ _ h => h) (Or.inl ⟨by rfl, ?_⟩) (by assumption) ?_
  rotate_left
  · intro w hSw; (try dsimp only at hSw); go_simp; try with_reducible rfl
  simp only [Act.put, List.setIfInBounds_toArray, List.set_cons_zero, List.set_cons_succ]
  refine wpAnyH_take (i := 1) (oi := { dst := some 12, op := Op.nilCheck (Operand.tmp 11), type := 0, pos := "parse.go:79", after := #[{ on := 0, ground := Ground.data }], guard := none }) (v := ?_) rfl (by kernel_rfl) (by kernel_rfl) (by kernel_rfl) (fun _ _ _ h => h) (Or.inl ⟨by rfl, ?_⟩) (by assumption) ?_
  rotate_left
  · intro w hSw; (try dsimp only at hSw); go_simp; try with_reducible rfl
  simp only [Act.put, List.setIfInBounds_toArray, List.set_cons_zero, List.set_cons_succ]
  refine wpAnyH_take (i := 2) (oi := { dst := some 13, op := Op.fieldAddr 65 (Operand.tmp 12) 0, type := 0, pos := "parse.go:79", after := #[{ on := 1, ground := Ground.data }], guard := none }) (v := ?_) rfl (by kernel_rfl) (by kernel_rfl) (by kernel_rfl) (fun _ _ _ h => h) (Or.inl ⟨by rfl, ?_⟩) (by assumption) ?_
  rotate_left
  · intro w hSw; (try dsimp only at hSw); go_simp; try with_reducible rfl
  simp only [Act.put, List.setIfInBounds_toArray, List.set_cons_zero, List.set_cons_succ]
  refine wpAnyH_take (i := 3) (oi := { dst := some 14, op := Op.fieldAddr 25 (Operand.tmp 13) 0, type := 0, pos := "parse.go:79", after := #[{ on := 2, ground := Ground.data }], guard := none }) (v := ?_) rfl (by kernel_rfl) (by kernel_rfl) (by kernel_rfl) (fun _ _ _ h => h) (Or.inl ⟨by rfl, ?_⟩) (by assumption) ?_
  rotate_left
  · intro w hSw; (try dsimp only at hSw); go_simp; try with_reducible rfl
  simp only [Act.put, List.setIfInBounds_toArray, List.set_cons_zero, List.set_cons_succ]
  refine wpAnyH_take (i := 4) (oi := { dst := some 15, op := Op.load 22 (Operand.tmp 14), type := 22, pos := "parse.go:79", after := #[{ on := 3, ground := Ground.data }], guard := none }) (v := ?_) rfl (by kernel_rfl) (by kernel_rfl) (by kernel_rfl) (fun _ _ _ h => h) (Or.inl ⟨by rfl, ?_⟩) (by assumption) ?_
  rotate_left
  · intro w hSw; (try dsimp only at hSw); go_simp; try with_reducible rfl
  simp only [Act.put, List.setIfInBounds_toArray, List.set_cons_zero, List.set_cons_succ]
  refine wpAnyH_take (i := 5) (oi := { dst := some 16, op := Op.call { callee := Callee.builtin Builtin.len, args := #[Operand.tmp 15], argTypes := #[22] }, type := 3, pos := "parse.go:79", after := #[{ on := 4, ground := Ground.data }], guard := none }) (v := ?_) rfl (by kernel_rfl) (by kernel_rfl) (by kernel_rfl) (fun _ _ _ h => h) (Or.inl ⟨by rfl, ?_⟩) (by assumption) ?_
  rotate_left
  · intro w hSw; (try dsimp only at hSw); go_simp; try with_reducible rfl
  simp only [Act.put, List.setIfInBounds_toArray, List.set_cons_zero, List.set_cons_succ]
  refine wpAnyH_take (i := 6) (oi := { dst := some 17, op := Op.binOp BinOp.eql 3 (Operand.tmp 16) (Operand.const (Value.int IntKind.i64 0)) 3, type := 4, pos := "parse.go:79", after := #[{ on := 5, ground := Ground.data }], guard := none }) (v := ?_) rfl (by kernel_rfl) (by kernel_rfl) (by kernel_rfl) (fun _ _ _ h => h) (Or.inl ⟨by rfl, ?_⟩) (by assumption) ?_
  rotate_left
  · intro w hSw; (try dsimp only at hSw); go_simp; try with_reducible rfl
  simp only [Act.put, List.setIfInBounds_toArray, List.set_cons_zero, List.set_cons_succ]
  refine wpAnyH_take (i := 7) (oi := { dst := some 18, op := Op.move (Operand.tmp 17), type := 4, pos := "parse.go:79", after := #[{ on := 6, ground := Ground.data }], guard := none }) (v := ?_) rfl (by kernel_rfl) (by kernel_rfl) (by kernel_rfl) (fun _ _ _ h => h) (Or.inl ⟨by rfl, ?_⟩) (by assumption) ?_
  rotate_left
  · intro w hSw; (try dsimp only at hSw); go_simp; try with_reducible rfl
  simp only [Act.put, List.setIfInBounds_toArray, List.set_cons_zero, List.set_cons_succ]
  refine wpAnyH_take (i := 8) (oi := { dst := some 19, op := Op.move (Operand.tmp 1), type := 36, pos := "parse.go:79", after := #[{ on := 7, ground := Ground.guard }], guard := some (7, false) }) (v := ?_) rfl (by kernel_rfl) (by kernel_rfl) (by kernel_rfl) (fun _ _ _ h => h) (Or.inl ⟨by rfl, ?_⟩) (by assumption) ?_
  rotate_left
  · intro w hSw; (try dsimp only at hSw); go_simp; try with_reducible rfl
  simp only [Act.put, List.setIfInBounds_toArray, List.set_cons_zero, List.set_cons_succ]
  refine wpAnyH_take (i := 9) (oi := { dst := some 20, op := Op.call { callee := Callee.builtin Builtin.len, args := #[Operand.tmp 19], argTypes := #[36] }, type := 3, pos := "parse.go:79", after := #[{ on := 8, ground := Ground.data }, { on := 7, ground := Ground.guard }], guard := some (7, false) }) (v := ?_) rfl (by kernel_rfl) (by kernel_rfl) (by kernel_rfl) (fun _ _ _ h => h) (Or.inl ⟨by rfl, ?_⟩) (by assumption) ?_
  rotate_left
  · intro w hSw; (try dsimp only at hSw); go_simp; try with_reducible rfl
  simp only [Act.put, List.setIfInBounds_toArray, List.set_cons_zero, List.set_cons_succ]
  refine wpAnyH_take (i := 10) (oi := { dst := some 21, op := Op.binOp BinOp.neq 3 (Operand.tmp 20) (Operand.const (Value.int IntKind.i64 4)) 3, type := 4, pos := "parse.go:79", after := #[{ on := 9, ground := Ground.data }, { on := 7, ground := Ground.guard }], guard := some (7, false) }) (v := ?_) rfl (by kernel_rfl) (by kernel_rfl) (by kernel_rfl) (fun _ _ _ h => h) (Or.inl ⟨by rfl, ?_⟩) (by assumption) ?_
  rotate_left
  · intro w hSw; (try dsimp only at hSw); go_simp; try with_reducible rfl
  simp only [Act.put, List.setIfInBounds_toArray, List.set_cons_zero, List.set_cons_succ]
  refine wpAnyH_take (i := 11) (oi := { dst := some 22, op := Op.pick (Operand.tmp 18) (Operand.const (Value.bool true)) (Operand.tmp 21), type := 4, pos := "parse.go:79", after := #[{ on := 7, ground := Ground.data }, { on := 10, ground := Ground.data }], guard := none }) (v := ?_) rfl (by kernel_rfl) (by kernel_rfl) (by kernel_rfl) (fun _ _ _ h => h) (Or.inl ⟨by rfl, ?_⟩) (by assumption) ?_
  rotate_left
  · intro w hSw; (try dsimp only at hSw); go_simp; try with_reducible rfl
  simp only [Act.put, List.setIfInBounds_toArray, List.set_cons_zero, List.set_cons_succ]
  refine wpAnyH_take (i := 12) (oi := { dst := some 23, op := Op.move (Operand.tmp 22), type := 4, pos := "parse.go:79", after := #[{ on := 11, ground := Ground.data }, { on := 7, ground := Ground.chain }], guard := none }) (v := ?_) rfl (by kernel_rfl) (by kernel_rfl) (by kernel_rfl) (fun _ _ _ h => h) (Or.inl ⟨by rfl, ?_⟩) (by assumption) ?_
  rotate_left
  · intro w hSw; (try dsimp only at hSw); go_simp; try with_reducible rfl
  simp only [Act.put, List.setIfInBounds_toArray, List.set_cons_zero, List.set_cons_succ]
  refine wpAnyH_take (i := 13) (oi := { dst := some 24, op := Op.slice 96 (Operand.tmp 5) none none none, type := 23, pos := "parse.go:79", after := #[{ on := 12, ground := Ground.guard }], guard := some (12, false) }) (v := undef) rfl (by kernel_rfl) (by kernel_rfl) (by kernel_rfl) (fun _ _ _ h => h) (Or.inr ⟨by rfl, rfl⟩) (by assumption) ?_
  simp only [Act.put, List.setIfInBounds_toArray, List.set_cons_zero, List.set_cons_succ]
  refine wpAnyH_take (i := 14) (oi := { dst := some 25, op := Op.move (Operand.tmp 1), type := 36, pos := "parse.go:79", after := #[{ on := 12, ground := Ground.guard }], guard := some (12, false) }) (v := undef) rfl (by kernel_rfl) (by kernel_rfl) (by kernel_rfl) (fun _ _ _ h => h) (Or.inr ⟨by rfl, rfl⟩) (by assumption) ?_
  simp only [Act.put, List.setIfInBounds_toArray, List.set_cons_zero, List.set_cons_succ]
  refine wpAnyH_take (i := 15) (oi := { dst := some 26, op := Op.slice 36 (Operand.tmp 25) none (some (Operand.const (Value.int IntKind.i64 2))) none, type := 36, pos := "parse.go:79", after := #[{ on := 14, ground := Ground.data }, { on := 12, ground := Ground.guard }], guard := some (12, false) }) (v := undef) rfl (by kernel_rfl) (by kernel_rfl) (by kernel_rfl) (fun _ _ _ h => h) (Or.inr ⟨by rfl, rfl⟩) (by assumption) ?_
  simp only [Act.put, List.setIfInBounds_toArray, List.set_cons_zero, List.set_cons_succ]
  refine wpAnyH_take (i := 16) (oi := { dst := some 27, op := Op.call { callee := Callee.value (Operand.func 56), args := #[Operand.tmp 24, Operand.tmp 26], argTypes := #[23, 36] }, type := 4, pos := "parse.go:79", after := #[{ on := 13, ground := Ground.data }, { on := 15, ground := Ground.data }, { on := 12, ground := Ground.chain }, { on := 12, ground := Ground.guard }], guard := some (12, false) }) (v := undef) rfl (by kernel_rfl) (by kernel_rfl) (by kernel_rfl) (fun _ _ _ h => h) (Or.inr ⟨by rfl, rfl⟩) (by assumption) ?_
  simp only [Act.put, List.setIfInBounds_toArray, List.set_cons_zero, List.set_cons_succ]
  refine wpAnyH_take (i := 17) (oi := { dst := some 28, op := Op.unOp UnOp.not 4 (Operand.tmp 27), type := 4, pos := "parse.go:79", after := #[{ on := 16, ground := Ground.data }, { on := 12, ground := Ground.guard }], guard := some (12, false) }) (v := undef) rfl (by kernel_rfl) (by kernel_rfl) (by kernel_rfl) (fun _ _ _ h => h) (Or.inr ⟨by rfl, rfl⟩) (by assumption) ?_
  simp only [Act.put, List.setIfInBounds_toArray, List.set_cons_zero, List.set_cons_succ]
  refine wpAnyH_take (i := 18) (oi := { dst := some 29, op := Op.pick (Operand.tmp 23) (Operand.const (Value.bool true)) (Operand.tmp 28), type := 4, pos := "parse.go:79", after := #[{ on := 12, ground := Ground.data }, { on := 17, ground := Ground.data }], guard := none }) (v := ?_) rfl (by kernel_rfl) (by kernel_rfl) (by kernel_rfl) (fun _ _ _ h => h) (Or.inl ⟨by rfl, ?_⟩) (by assumption) ?_
  rotate_left
  · intro w hSw; (try dsimp only at hSw); go_simp; try with_reducible rfl
  simp only [Act.put, List.setIfInBounds_toArray, List.set_cons_zero, List.set_cons_succ]
  refine wpAnyH_done (by kernel_rfl) ?_ _
  clear hHeld
  have H := Lib.hid hs
  clear hs
  go_wp2_with fail
  go_ret
  exact ⟨rfl, H.out.drop.drop⟩

set_option maxHeartbeats 4000000 in
set_option maxRecDepth 100000 in
theorem rd_record_bad (rd wb off cap n bcap : Nat) (q : Option Addr) (ch : Value) (c : Int) (a b kw vw : Bs) (hn : n ≠ 0) (hns : numsRd [a, b] = none) (hxl : ∀ y ∈ [a, b], y.length ≤ 1000000) (hcap : 4 ≤ cap) {W0 w : World} {K : Know} {L : List Res} (hlib : K.has Know.lib) (hk : K.has (Know.strs wb off [a, b, kw, vw])) (h : St W0 w K (.raw rd #[.slice q n bcap, .int .i64 c, ch] 65 :: L)) :
    Calls Tryd.prog 45 #[.pointer (some ⟨rd, 0, none⟩), .slice (some ⟨wb, off, none⟩) 4 cap] w fun en w' => en = .returned (.bool false) ∧ St W0 w' K L := by
  obtain ⟨nb, hnb⟩ : ∃ b, w.heap.size = b := ⟨_, rfl⟩
  have g1 := h.allocRaw #[.int .i64 0, .int .i64 0] 96
  rw [hnb] at g1
  have H := Lib.hid g1
  have q0 : ((n : Int) == 0) = false := by rw [beq_eq_false_iff_ne]; omega
  have q4 : (2 : Int) ≤ (cap : Int) := by omega
  have HK2 := Lib.hid (show K.has (Know.strs wb off [a, b]) from strs_take hk 2)
  have HLIB := Lib.hid hlib
  have HW := Lib.hid (show 2 = [a, b].length from rfl)
  have HNS := Lib.hid hns
  have HXL := Lib.hid hxl
  have HZ := Lib.hid (show (#[Value.int .i64 0, .int .i64 0] : Array Value).size = [a, b].length from rfl)
  have HL1 := Lib.hid (show [a, b].length ≤ 1000000 by simp)
  clear h g1 hn hns hxl hcap hk hlib
  go_enter Tryd.func45, Tryd.ntmps45
  go_upto_region 2 with fail
  have hs := H.out.drew
  have KEEP := Lib.hid (show ∀ (w' : World) (L' : List Res), St W0 w' K (.raw rd #[.slice q n bcap, .int .i64 c, ch] 65 :: L') → w'.cell? ⟨rd, 0, none⟩ = some (.slice q n bcap) from fun w' L' h' => h'.rawCell 0)
  clear H
  refine wp_region_held_drew (S := fun w' => w'.cell? ⟨rd, 0, none⟩ = some (.slice q n bcap)) (by kernel_rfl) (KEEP.out _ _ hs.p1) (fun hHeld => ?_)
  refine wpAnyH_take (i := 0) (oi := { dst := some 11, op := Op.move (Operand.tmp 0), type := 87, pos := "parse.go:79", after := #[], guard := none }) (v := ?_) rfl (by kernel_rfl) (by kernel_rfl) (by kernel_rfl) (fun _ _ _ h => h) (Or.inl ⟨by rfl, ?_⟩) (by assumption) ?_
  rotate_left
  · intro w hSw; (try dsimp only at hSw); go_simp; try with_reducible rfl
  simp only [Act.put, List.setIfInBounds_toArray, List.set_cons_zero, List.set_cons_succ]
  refine wpAnyH_take (i := 1) (oi := { dst := some 12, op := Op.nilCheck (Operand.tmp 11), type := 0, pos := "parse.go:79", after := #[{ on := 0, ground := Ground.data }], guard := none }) (v := ?_) rfl (by kernel_rfl) (by kernel_rfl) (by kernel_rfl) (fun _ _ _ h => h) (Or.inl ⟨by rfl, ?_⟩) (by assumption) ?_
  rotate_left
  · intro w hSw; (try dsimp only at hSw); go_simp; try with_reducible rfl
  simp only [Act.put, List.setIfInBounds_toArray, List.set_cons_zero, List.set_cons_succ]
  refine wpAnyH_take (i := 2) (oi := { dst := some 13, op := Op.fieldAddr 65 (Operand.tmp 12) 0, type := 0, pos := "parse.go:79", after := #[{ on := 1, ground := Ground.data }], guard := none }) (v := ?_) rfl (by kernel_rfl) (by kernel_rfl) (by kernel_rfl) (fun _ _ _ h => h) (Or.inl ⟨by rfl, ?_⟩) (by assumption) ?_
  rotate_left
  · intro w hSw; (try dsimp only at hSw); go_simp; try with_reducible rfl
  simp only [Act.put, List.setIfInBounds_toArray, List.set_cons_zero, List.set_cons_succ]
  refine wpAnyH_take (i := 3) (oi := { dst := some 14, op := Op.fieldAddr 25 (Operand.tmp 13) 0, type := 0, pos := "parse.go:79", after := #[{ on := 2, ground := Ground.data }], guard := none }) (v := ?_) rfl (by kernel_rfl) (by kernel_rfl) (by kernel_rfl) (fun _ _ _ h => h) (Or.inl ⟨by rfl, ?_⟩) (by assumption) ?_
  rotate_left
  · intro w hSw; (try dsimp only at hSw); go_simp; try with_reducible rfl
  simp only [Act.put, List.setIfInBounds_toArray, List.set_cons_zero, List.set_cons_succ]
  refine wpAnyH_take (i := 4) (oi := { dst := some 15, op := Op.load 22 (Operand.tmp 14), type := 22, pos := "parse.go:79", after := #[{ on := 3, ground := Ground.data }], guard := none }) (v := ?_) rfl (by kernel_rfl) (by kernel_rfl) (by kernel_rfl) (fun _ _ _ h => h) (Or.inl ⟨by rfl, ?_⟩) (by assumption) ?_
  rotate_left
  · intro w hSw; (try dsimp only at hSw); go_simp; try with_reducible rfl
  simp only [Act.put, List.setIfInBounds_toArray, List.set_cons_zero, List.set_cons_succ]
  refine wpAnyH_take (i := 5) (oi := { dst := some 16, op := Op.call { callee := Callee.builtin Builtin.len, args := #[Operand.tmp 15], argTypes := #[22] }, type := 3, pos := "parse.go:79", after := #[{ on := 4, ground := Ground.data }], guard := none }) (v := ?_) rfl (by kernel_rfl) (by kernel_rfl) (by kernel_rfl) (fun _ _ _ h => h) (Or.inl ⟨by rfl, ?_⟩) (by assumption) ?_
  rotate_left
  · intro w hSw; (try dsimp only at hSw); go_simp; try with_reducible rfl
  simp only [Act.put, List.setIfInBounds_toArray, List.set_cons_zero, List.set_cons_succ]
  refine wpAnyH_take (i := 6) (oi := { dst := some 17, op := Op.binOp BinOp.eql 3 (Operand.tmp 16) (Operand.const (Value.int IntKind.i64 0)) 3, type := 4, pos := "parse.go:79", after := #[{ on := 5, ground := Ground.data }], guard := none }) (v := ?_) rfl (by kernel_rfl) (by kernel_rfl) (by kernel_rfl) (fun _ _ _ h => h) (Or.inl ⟨by rfl, ?_⟩) (by assumption) ?_
  rotate_left
  · intro w hSw; (try dsimp only at hSw); go_simp; try with_reducible rfl
  simp only [Act.put, List.setIfInBounds_toArray, List.set_cons_zero, List.set_cons_succ]
  refine wpAnyH_take (i := 7) (oi := { dst := some 18, op := Op.move (Operand.tmp 17), type := 4, pos := "parse.go:79", after := #[{ on := 6, ground := Ground.data }], guard := none }) (v := ?_) rfl (by kernel_rfl) (by kernel_rfl) (by kernel_rfl) (fun _ _ _ h => h) (Or.inl ⟨by rfl, ?_⟩) (by assumption) ?_
  rotate_left
  · intro w hSw; (try dsimp only at hSw); go_simp; try with_reducible rfl
  simp only [Act.put, List.setIfInBounds_toArray, List.set_cons_zero, List.set_cons_succ]
  refine wpAnyH_take (i := 8) (oi := { dst := some 19, op := Op.move (Operand.tmp 1), type := 36, pos := "parse.go:79", after := #[{ on := 7, ground := Ground.guard }], guard := some (7, false) }) (v := ?_) rfl (by kernel_rfl) (by kernel_rfl) (by kernel_rfl) (fun _ _ _ h => h) (Or.inl ⟨by rfl, ?_⟩) (by assumption) ?_
  rotate_left
  · intro w hSw; (try dsimp only at hSw); go_simp; try with_reducible rfl
  simp only [Act.put, List.setIfInBounds_toArray, List.set_cons_zero, List.set_cons_succ]
  refine wpAnyH_take (i := 9) (oi := { dst := some 20, op := Op.call { callee := Callee.builtin Builtin.len, args := #[Operand.tmp 19], argTypes := #[36] }, type := 3, pos := "parse.go:79", after := #[{ on := 8, ground := Ground.data }, { on := 7, ground := Ground.guard }], guard := some (7, false) }) (v := ?_) rfl (by kernel_rfl) (by kernel_rfl) (by kernel_rfl) (fun _ _ _ h => h) (Or.inl ⟨by rfl, ?_⟩) (by assumption) ?_
  rotate_left
  · intro w hSw; (try dsimp only at hSw); go_simp; try with_reducible rfl
  simp only [Act.put, List.setIfInBounds_toArray, List.set_cons_zero, List.set_cons_succ]
  refine wpAnyH_take (i := 10) (oi := { dst := some 21, op := Op.binOp BinOp.neq 3 (Operand.tmp 20) (Operand.const (Value.int IntKind.i64 4)) 3, type := 4, pos := "parse.go:79", after := #[{ on := 9, ground := Ground.data }, { on := 7, ground := Ground.guard }], guard := some (7, false) }) (v := ?_) rfl (by kernel_rfl) (by kernel_rfl) (by kernel_rfl) (fun _ _ _ h => h) (Or.inl ⟨by rfl, ?_⟩) (by assumption) ?_
  rotate_left
  · intro w hSw; (try dsimp only at hSw); go_simp; try with_reducible rfl
  simp only [Act.put, List.setIfInBounds_toArray, List.set_cons_zero, List.set_cons_succ]
  refine wpAnyH_take (i := 11) (oi := { dst := some 22, op := Op.pick (Operand.tmp 18) (Operand.const (Value.bool true)) (Operand.tmp 21), type := 4, pos := "parse.go:79", after := #[{ on := 7, ground := Ground.data }, { on := 10, ground := Ground.data }], guard := none }) (v := ?_) rfl (by kernel_rfl) (by kernel_rfl) (by kernel_rfl) (fun _ _ _ h => h) (Or.inl ⟨by rfl, ?_⟩) (by assumption) ?_
  rotate_left
  · intro w hSw; (try dsimp only at hSw); go_simp; try with_reducible rfl
  simp only [Act.put, List.setIfInBounds_toArray, List.set_cons_zero, List.set_cons_succ]
  refine wpAnyH_take (i := 12) (oi := { dst := some 23, op := Op.move (Operand.tmp 22), type := 4, pos := "parse.go:79", after := #[{ on := 11, ground := Ground.data }, { on := 7, ground := Ground.chain }], guard := none }) (v := ?_) rfl (by kernel_rfl) (by kernel_rfl) (by kernel_rfl) (fun _ _ _ h => h) (Or.inl ⟨by rfl, ?_⟩) (by assumption) ?_
  rotate_left
  · intro w hSw; (try dsimp only at hSw); go_simp; try with_reducible rfl
  simp only [Act.put, List.setIfInBounds_toArray, List.set_cons_zero, List.set_cons_succ]
  refine wpAnyH_take (i := 13) (oi := { dst := some 24, op := Op.slice 96 (Operand.tmp 5) none none none, type := 23, pos := "parse.go:79", after := #[{ on := 12, ground := Ground.guard }], guard := some (12, false) }) (v := ?_) rfl (by kernel_rfl) (by kernel_rfl) (by kernel_rfl) (fun _ _ _ h => h) (Or.inl ⟨by rfl, ?_⟩) (by assumption) ?_
  rotate_left
  · intro w hSw; (try dsimp only at hSw); go_simp; try with_reducible rfl
  simp only [Act.put, List.setIfInBounds_toArray, List.set_cons_zero, List.set_cons_succ]
  refine wpAnyH_take (i := 14) (oi := { dst := some 25, op := Op.move (Operand.tmp 1), type := 36, pos := "parse.go:79", after := #[{ on := 12, ground := Ground.guard }], guard := some (12, false) }) (v := ?_) rfl (by kernel_rfl) (by kernel_rfl) (by kernel_rfl) (fun _ _ _ h => h) (Or.inl ⟨by rfl, ?_⟩) (by assumption) ?_
  rotate_left
  · intro w hSw; (try dsimp only at hSw); go_simp; try with_reducible rfl
  simp only [Act.put, List.setIfInBounds_toArray, List.set_cons_zero, List.set_cons_succ]
  refine wpAnyH_take (i := 15) (oi := { dst := some 26, op := Op.slice 36 (Operand.tmp 25) none (some (Operand.const (Value.int IntKind.i64 2))) none, type := 36, pos := "parse.go:79", after := #[{ on := 14, ground := Ground.data }, { on := 12, ground := Ground.guard }], guard := some (12, false) }) (v := ?_) rfl (by kernel_rfl) (by kernel_rfl) (by kernel_rfl) (fun _ _ _ h => h) (Or.inl ⟨by rfl, ?_⟩) (by assumption) ?_
  rotate_left
  · intro w hSw; (try dsimp only at hSw); go_simp; try with_reducible rfl
  simp only [Act.put, List.setIfInBounds_toArray, List.set_cons_zero, List.set_cons_succ]
  refine wpAnyH_ready (rs := [16]) (by kernel_rfl) (by simp) (AllReadyH.cons (o := { dst := some 27, op := Op.call { callee := Callee.value (Operand.func 56), args := #[Operand.tmp 24, Operand.tmp 26], argTypes := #[23, 36] }, type := 4, pos := "parse.go:79", after := #[{ on := 13, ground := Ground.data }, { on := 15, ground := Ground.data }, { on := 12, ground := Ground.chain }, { on := 12, ground := Ground.guard }], guard := some (12, false) }) rfl (fun KK hK => ?_) AllReadyH.nil)
  · go_simp
    go_at_call 56
    with_reducible refine (sc_nums_bad nb #[.int .i64 0, .int .i64 0] 96 wb off cap 2 [a, b] 2 HW.out HNS.out HZ.out HL1.out HXL.out HLIB.out HK2.out hs).mono ?_
    rintro e wq ⟨rfl, hs⟩
    refine hK.out _ _ (KEEP.out _ _ hs) (fun hHeld => ?_)
    clear hK KK
    try simp only [Act.put, List.setIfInBounds_toArray, List.set_cons_zero, List.set_cons_succ]
    refine wpAnyH_take (i := 17) (oi := { dst := some 28, op := Op.unOp UnOp.not 4 (Operand.tmp 27), type := 4, pos := "parse.go:79", after := #[{ on := 16, ground := Ground.data }, { on := 12, ground := Ground.guard }], guard := some (12, false) }) (v := ?_) rfl (by kernel_rfl) (by kernel_rfl) (by kernel_rfl) (fun _ _ _ h => h) (Or.inl ⟨by rfl, ?_⟩) (by assumption) ?_
    rotate_left
    · intro w hSw; (try dsimp only at hSw); go_simp; try with_reducible rfl
    simp only [Act.put, List.setIfInBounds_toArray, List.set_cons_zero, List.set_cons_succ]
    refine wpAnyH_take (i := 18) (oi := { dst := some 29, op := Op.pick (Operand.tmp 23) (Operand.const (Value.bool true)) (Operand.tmp 28), type := 4, pos := "parse.go:79", after := #[{ on := 12, ground := Ground.data }, { on := 17, ground := Ground.data }], guard := none }) (v := ?_) rfl (by kernel_rfl) (by kernel_rfl) (by kernel_rfl) (fun _ _ _ h => h) (Or.inl ⟨by rfl, ?_⟩) (by assumption) ?_
    rotate_left
    · intro w hSw; (try dsimp only at hSw); go_simp; try with_reducible rfl
    simp only [Act.put, List.setIfInBounds_toArray, List.set_cons_zero, List.set_cons_succ]
    refine wpAnyH_done (by kernel_rfl) ?_ _
    clear hHeld
    have H := Lib.hid hs
    clear hs
    go_wp2_with fail
    go_ret
    exact ⟨rfl, H.out.drop⟩

set_option maxHeartbeats 4000000 in
set_option maxRecDepth 100000 in
theorem rd_header_none (rd wb off cap n bcap : Nat) (q : Option Addr) (ch : Value) (c : Int) (nw : Nat) (hn : n = 0) {W0 w : World} {K : Know} {L : List Res} (h : St W0 w K (.raw rd #[.slice q n bcap, .int .i64 c, ch] 65 :: L)) :
    Calls Tryd.prog 46 #[.pointer (some ⟨rd, 0, none⟩), .slice (some ⟨wb, off, none⟩) nw cap] w fun en w' => en = .returned (.bool false) ∧ St W0 w' K L := by
  subst hn
  have H := Lib.hid h
  have z0 := (h).rawCell 0; simp at z0
  clear h 
  go_enter Tryd.func46, Tryd.ntmps46
  go_wp2_with fail
  go_ret
  exact ⟨rfl, H.out.drop⟩

set_option maxHeartbeats 4000000 in
set_option maxRecDepth 100000 in
theorem rd_header_len (rd wb off cap n bcap : Nat) (q : Option Addr) (ch : Value) (c : Int) (nw : Nat) (hn : n ≠ 0) (hnw : nw ≠ 2) {W0 w : World} {K : Know} {L : List Res} (h : St W0 w K (.raw rd #[.slice q n bcap, .int .i64 c, ch] 65 :: L)) :
    Calls Tryd.prog 46 #[.pointer (some ⟨rd, 0, none⟩), .slice (some ⟨wb, off, none⟩) nw cap] w fun en w' => en = .returned (.bool false) ∧ St W0 w' K L := by
  have q0 : ((n : Int) == 0) = false := by rw [beq_eq_false_iff_ne]; omega
  have e1 : ((nw : Int) == 2) = false := by rw [beq_eq_false_iff_ne]; omega
  have e2 : ((nw : Int) != 2) = true := by simp [bne, e1]
  have H := Lib.hid h
  have z0 := (h).rawCell 0; simp at z0
  clear h hn hnw
  go_enter Tryd.func46, Tryd.ntmps46
  go_wp2_with fail
  go_ret
  exact ⟨rfl, H.out.drop⟩

end Go.Proofs.YtenojajfacacoaaDoor
/- Lines of scripts: a batch, in all. -/
namespace Go.Proofs.YtenojajfacacoaaDoor
open Go.RowKit

theorem k_bat (rd wb off cap : Nat) (s : BSt) (q : Option Addr) (vB vR vH : Value) (r : List Bs) (hx : ∀ y ∈ r, y.length ≤ 1000000) (hr : r.length ≤ 1000000) (hb : s.n ≤ 1000000 ∧ s.m ≤ 1000000 ∧ s.p ≤ 1000000) {W0 w : World} {K : Know} {L : List Res} (hlib : K.has Know.lib) (hs : s.known K) (hk : K.has (Know.strs wb off r)) (h : St W0 w K (.raw rd #[vB, .int .i64 (-1), .slice q 0 cap] 65 :: s.rows vB vR vH L)) :
    Calls Tryd.prog 44 #[.pointer (some ⟨rd, 0, none⟩), .slice (some ⟨wb, off, none⟩) r.length r.length] w fun en w' => ∃ b, en = .returned (.bool b) ∧ Came rd s (-1) [] ((rdBat r).map .bat) W0 K L b w' := by
  by_cases h9 : r.length = 9
  · obtain ⟨ws, t, rfl, hw⟩ := split9 r h9
    have e := rdBat_app ws t hw
    rw [h9]
    cases hn : numsRd ws with
    | none =>
      rw [hn] at e
      refine (rd_batch_bad rd wb off 9 _ ws t hw hn (fun y hy => hx y (List.mem_append_left _ hy)) (by omega) hlib hk h).mono ?_
      rintro en w' ⟨rfl, h⟩
      exact ⟨_, rfl, .no (by rw [e]; rfl) (rows_drop h)⟩
    | some vs =>
      obtain ⟨n0, n1, n2, n3, n4, n5, n6, n7, rfl⟩ := list8 ((numsRd_len ws vs hn).trans hw.symm)
      rw [hn] at e
      simp only at e
      obtain ⟨K', hk', hc, h1⟩ := closeS hs h
      have hlen : (s.close vR vH).length ≤ 1000000 := by
        have : (s.close vR vH).length = s.n := by cases s <;> simp [BSt.close, BSt.n]
        rw [this]; exact hb.1
      refine (rd_batch rd wb off 9 vB (.slice q 0 cap) (-1) (s.close vR vH).length ((s.close vR vH).flatMap btcells) ws t n0 n1 n2 n3 n4 n5 n6 n7 (hasB t 97) (hasB t 116) (hasB t 99) (letOk t) hw hn rfl rfl rfl rfl hlen (fun y hy => hx y (List.mem_append_left _ hy)) (by omega) (Know.has_trans hk' hlib) (Know.has_trans hk' hk) h1).mono ?_
      rintro en w' ⟨v', rfl, h2⟩
      refine ⟨_, rfl, ?_⟩
      cases hl : letOk t with
      | false =>
        rw [hl] at e
        exact .no' (by rw [e]; rfl) hk' h2.drop.drop
      | true =>
        rw [hl] at e
        have e9 : (rdBat (ws ++ [t])).map Said.bat = some (.bat ⟨n0, n1, hasB t 97, hasB t 116, hasB t 99, n2, n3, n4, n5, n6, n7, []⟩) := by rw [e]; rfl
        refine .yes e9 hk' vR vH ⟨v', .slice none 0 0, .slice none 0 0, q, cap, ?_, hc, ?_⟩
        · exact ((h2.nilRow 51 7).p2.p2.nilRow 54 3).p3.p3.p3
        · exact fun w F hh => ⟨q, cap, rfl, fun h0 => absurd h0 (Nat.lt_irrefl 0)⟩
  · refine (rd_batch_len rd wb off r.length r.length _ h9 h).mono ?_
    rintro en w' ⟨rfl, h⟩
    exact ⟨_, rfl, .no (by rw [rdBat_len r h9]; rfl) (rows_drop h)⟩

end Go.Proofs.YtenojajfacacoaaDoor
/- Lines of scripts: chunks, and what is none. -/
namespace Go.Proofs.YtenojajfacacoaaDoor
open Go.RowKit

set_option maxHeartbeats 4000000 in
set_option maxRecDepth 100000 in
theorem rd_chunks_good (rd wb off cap nw : Nat) (v x2 : Value) (c : Int) (ws : List Bs) (vs : List Int) (hw : nw = ws.length) (hpos : 0 < nw) (hns : numsRd ws = some vs) (hxl : ∀ y ∈ ws, y.length ≤ 1000000) (hl : nw ≤ 1000000) {W0 w : World} {K : Know} {L : List Res} (hlib : K.has Know.lib) (hk : K.has (Know.strs wb off ws)) (h : St W0 w K (.raw rd #[v, .int .i64 c, x2] 65 :: L)) :
    Calls Tryd.prog 42 #[.pointer (some ⟨rd, 0, none⟩), .slice (some ⟨wb, off, none⟩) nw cap] w fun en w' => ∃ cb, en = .returned (.bool true) ∧ St W0 w' K (.raw cb (vs.map fun v => Value.int .i64 v).toArray 3 :: .raw rd #[v, .int .i64 c, .slice (some ⟨cb, 0, none⟩) nw nw] 65 :: L) := by
  obtain ⟨cb, hcb⟩ : ∃ b, w.heap.size = b := ⟨_, rfl⟩
  have hmk := mk_ints nw hl
  have g0 := h.allocRaw (madeCells #[Value.int .i64 0] nw) 3
  rw [hcb] at g0
  have c2 := g0.p1.rawCell 2
  have r2 := g0.p1.rawFree 2
  simp at c2
  have hz := (g0.p1.rawSet 2 (.slice (some ⟨cb, 0, none⟩) nw nw)).p1
  have H := Lib.hid (show St W0 _ K (.raw cb (madeCells #[Value.int .i64 0] nw) 3 :: .raw rd #[v, .int .i64 c, .slice (some ⟨cb, 0, none⟩) nw nw] 65 :: L) from hz)
  have d2 := H.out.p1.rawCell 2
  simp at d2
  have HLIB := Lib.hid hlib
  have HK := Lib.hid hk
  have HW := Lib.hid hw
  have HNS := Lib.hid hns
  have HXL := Lib.hid hxl
  have HZ := Lib.hid (show (madeCells #[Value.int .i64 0] nw).size = ws.length by rw [made_len, hw])
  have HL1 := Lib.hid (show ws.length ≤ 1000000 by omega)
  have q1 : 0 < nw := hpos
  have q2 : decide (0 < nw) = true := decide_eq_true hpos
  have q3 : (0 : Int) < (nw : Int) := by omega
  have q4 : decide ((0 : Int) < (nw : Int)) = true := decide_eq_true q3
  clear h g0 hk hlib hz hns hxl hw hl hpos
  go_enter Tryd.func42, Tryd.ntmps42
  go_wp2_with (go_at_call 56; (with_reducible refine (sc_nums_good cb (madeCells #[Value.int .i64 0] nw) 3 wb off cap nw ws vs nw HW.out HNS.out HZ.out HL1.out HXL.out HLIB.out HK.out H.out).mono ?_); rintro e_ wn ⟨rfl, h⟩; replace H := Lib.hid h; clear h)
  go_ret
  exact ⟨_, rfl, H.out⟩

set_option maxHeartbeats 4000000 in
set_option maxRecDepth 100000 in
theorem rd_chunks_bad (rd wb off cap nw : Nat) (v x2 : Value) (c : Int) (ws : List Bs) (hw : nw = ws.length) (hpos : 0 < nw) (hns : numsRd ws = none) (hxl : ∀ y ∈ ws, y.length ≤ 1000000) (hl : nw ≤ 1000000) {W0 w : World} {K : Know} {L : List Res} (hlib : K.has Know.lib) (hk : K.has (Know.strs wb off ws)) (h : St W0 w K (.raw rd #[v, .int .i64 c, x2] 65 :: L)) :
    Calls Tryd.prog 42 #[.pointer (some ⟨rd, 0, none⟩), .slice (some ⟨wb, off, none⟩) nw cap] w fun en w' => en = .returned (.bool false) ∧ St W0 w' K L := by
  obtain ⟨cb, hcb⟩ : ∃ b, w.heap.size = b := ⟨_, rfl⟩
  have hmk := mk_ints nw hl
  have g0 := h.allocRaw (madeCells #[Value.int .i64 0] nw) 3
  rw [hcb] at g0
  have c2 := g0.p1.rawCell 2
  have r2 := g0.p1.rawFree 2
  simp at c2
  have hz := (g0.p1.rawSet 2 (.slice (some ⟨cb, 0, none⟩) nw nw)).p1
  have H := Lib.hid (show St W0 _ K (.raw cb (madeCells #[Value.int .i64 0] nw) 3 :: .raw rd #[v, .int .i64 c, .slice (some ⟨cb, 0, none⟩) nw nw] 65 :: L) from hz)
  have d2 := H.out.p1.rawCell 2
  simp at d2
  have HLIB := Lib.hid hlib
  have HK := Lib.hid hk
  have HW := Lib.hid hw
  have HNS := Lib.hid hns
  have HXL := Lib.hid hxl
  have HZ := Lib.hid (show (madeCells #[Value.int .i64 0] nw).size = ws.length by rw [made_len, hw])
  have HL1 := Lib.hid (show ws.length ≤ 1000000 by omega)
  have q1 : 0 < nw := hpos
  have q2 : decide (0 < nw) = true := decide_eq_true hpos
  have q3 : (0 : Int) < (nw : Int) := by omega
  have q4 : decide ((0 : Int) < (nw : Int)) = true := decide_eq_true q3
  clear h g0 hk hlib hz hns hxl hw hl hpos
  go_enter Tryd.func42, Tryd.ntmps42
  go_wp2_with (go_at_call 56; (with_reducible refine (sc_nums_bad cb (madeCells #[Value.int .i64 0] nw) 3 wb off cap nw ws nw HW.out HNS.out HZ.out HL1.out HXL.out HLIB.out HK.out H.out).mono ?_); rintro e_ wn ⟨rfl, h⟩; replace H := Lib.hid h; clear h)
  go_ret
  exact ⟨rfl, H.out.drop⟩

set_option maxHeartbeats 4000000 in
set_option maxRecDepth 100000 in
theorem rd_chunks_none (rd wb off cap : Nat) (v x2 : Value) (c : Int) (ws : List Bs)   {W0 w : World} {K : Know} {L : List Res} (hlib : K.has Know.lib) (hk : K.has (Know.strs wb off ws)) (h : St W0 w K (.raw rd #[v, .int .i64 c, x2] 65 :: L)) :
    Calls Tryd.prog 42 #[.pointer (some ⟨rd, 0, none⟩), .slice (some ⟨wb, off, none⟩) 0 cap] w fun en w' => en = .returned (.bool false) ∧ St W0 w' K L := by
  obtain ⟨cb, hcb⟩ : ∃ b, w.heap.size = b := ⟨_, rfl⟩
  have hmk := mk_ints 0 (by omega)
  simp only [Int.natCast_zero] at hmk
  have g0 := h.allocRaw (madeCells #[Value.int .i64 0] 0) 3
  rw [hcb] at g0
  have c2 := g0.p1.rawCell 2
  have r2 := g0.p1.rawFree 2
  simp at c2
  have hz := (g0.p1.rawSet 2 (.slice (some ⟨cb, 0, none⟩) 0 0)).p1
  have H := Lib.hid (show St W0 _ K (.raw cb (madeCells #[Value.int .i64 0] 0) 3 :: .raw rd #[v, .int .i64 c, .slice (some ⟨cb, 0, none⟩) 0 0] 65 :: L) from hz)
  have d2 := H.out.p1.rawCell 2
  simp at d2
  have HLIB := Lib.hid hlib
  have HK := Lib.hid hk
  clear h g0 hk hlib hz 
  go_enter Tryd.func42, Tryd.ntmps42
  go_wp2_with fail
  go_ret
  exact ⟨rfl, H.out.drop.drop⟩

set_option maxHeartbeats 4000000 in
set_option maxRecDepth 100000 in
theorem rd_cut_len (rd wb off cap nw : Nat) (v ch : Value) (c : Int) (ws : List Bs) (hw : nw = ws.length) (hne : nw ≠ 1) {W0 w : World} {K : Know} {L : List Res}  (h : St W0 w K (.raw rd #[v, .int .i64 c, ch] 65 :: L)) :
    Calls Tryd.prog 43 #[.pointer (some ⟨rd, 0, none⟩), .slice (some ⟨wb, off, none⟩) nw cap] w fun en w' => en = .returned (.bool false) ∧ St W0 w' K L := by
  obtain ⟨nb, hnb⟩ : ∃ b, w.heap.size = b := ⟨_, rfl⟩
  have g1 := h.allocRaw #[.int .i64 0] 93
  rw [hnb] at g1
  have H := Lib.hid g1
  have HW := Lib.hid hw
  have HNE := Lib.hid hne
  clear h g1 hw hne
  go_enter Tryd.func43, Tryd.ntmps43
  go_wp2_with (go_at_call 56; (with_reducible refine (sc_nums_many nb 1 nw wb off cap 1 ws HW.out HNE.out H.out).mono ?_); rintro e_ wn ⟨rfl, h⟩; replace H := Lib.hid h; clear h)
  go_ret
  exact ⟨rfl, H.out.drop.drop⟩

set_option maxHeartbeats 4000000 in
set_option maxRecDepth 100000 in
theorem rd_cut_bad (rd wb off cap : Nat) (v ch : Value) (c : Int) (x : Bs) (hx : numRd x = none) (hxl : x.length ≤ 1000000) {W0 w : World} {K : Know} {L : List Res} (hlib : K.has Know.lib) (hk : K.has (Know.strs wb off [x])) (h : St W0 w K (.raw rd #[v, .int .i64 c, ch] 65 :: L)) :
    Calls Tryd.prog 43 #[.pointer (some ⟨rd, 0, none⟩), .slice (some ⟨wb, off, none⟩) 1 cap] w fun en w' => en = .returned (.bool false) ∧ St W0 w' K L := by
  obtain ⟨nb, hnb⟩ : ∃ b, w.heap.size = b := ⟨_, rfl⟩
  have g1 := h.allocRaw #[.int .i64 0] 93
  rw [hnb] at g1
  have H := Lib.hid g1
  have HK := Lib.hid hk
  have HLIB := Lib.hid hlib
  have HXL := Lib.hid (show ∀ y ∈ [x], y.length ≤ 1000000 from fun y hy => by rw [List.mem_singleton.1 hy]; exact hxl)
  have HL1 := Lib.hid (show [x].length ≤ 1000000 by simp)
  have HNS := Lib.hid (show numsRd [x] = none by show (match numRd x with | none => none | some v => (numsRd []).map (v :: ·)) = _; rw [hx])
  clear h g1 hk hlib hx hxl
  go_enter Tryd.func43, Tryd.ntmps43
  go_wp2_with (go_at_call 56; (with_reducible refine (sc_nums_bad nb #[.int .i64 0] 93 wb off cap 1 [x] 1 rfl HNS.out rfl HL1.out HXL.out HLIB.out HK.out H.out).mono ?_); rintro e_ wn ⟨rfl, h⟩; replace H := Lib.hid h; clear h)
  go_ret
  exact ⟨rfl, H.out.drop⟩

set_option maxHeartbeats 4000000 in
set_option maxRecDepth 100000 in
theorem rd_cut_neg (rd wb off cap : Nat) (v ch : Value) (c : Int) (x : Bs) (n : Int) (hx : numRd x = some n) (hn : n < 0) (hxl : x.length ≤ 1000000) {W0 w : World} {K : Know} {L : List Res} (hlib : K.has Know.lib) (hk : K.has (Know.strs wb off [x])) (h : St W0 w K (.raw rd #[v, .int .i64 c, ch] 65 :: L)) :
    Calls Tryd.prog 43 #[.pointer (some ⟨rd, 0, none⟩), .slice (some ⟨wb, off, none⟩) 1 cap] w fun en w' => en = .returned (.bool false) ∧ St W0 w' K L := by
  obtain ⟨nb, hnb⟩ : ∃ b, w.heap.size = b := ⟨_, rfl⟩
  have g1 := h.allocRaw #[.int .i64 0] 93
  rw [hnb] at g1
  have H := Lib.hid g1
  have HK := Lib.hid hk
  have HLIB := Lib.hid hlib
  have HXL := Lib.hid (show ∀ y ∈ [x], y.length ≤ 1000000 from fun y hy => by rw [List.mem_singleton.1 hy]; exact hxl)
  have HL1 := Lib.hid (show [x].length ≤ 1000000 by simp)
  have HNS := Lib.hid (show numsRd [x] = some [n] by show (match numRd x with | none => none | some v => (numsRd []).map (v :: ·)) = _; rw [hx]; rfl)
  have q2 : decide (n < 0) = true := decide_eq_true hn
  clear h g1 hk hlib hx hxl
  go_enter Tryd.func43, Tryd.ntmps43
  go_wp2_with (go_at_call 56; (with_reducible refine (sc_nums_good nb #[.int .i64 0] 93 wb off cap 1 [x] [n] 1 rfl HNS.out rfl HL1.out HXL.out HLIB.out HK.out H.out).mono ?_); rintro e_ wn ⟨rfl, h⟩; have h : St W0 wn K (.raw nb #[.int .i64 n] 93 :: _) := h; have c0 := h.rawCell 0; simp at c0; replace H := Lib.hid h; clear h)
  go_ret
  exact ⟨rfl, H.out.drop.drop⟩

set_option maxHeartbeats 4000000 in
set_option maxRecDepth 100000 in
theorem rd_header_norec (rd wb off cap g bcap k n rcap : Nat) (qr : Option Addr) (ch : Value) (c : Int) (xs : List Value) (hn : n = k + 1) (hn6 : n ≤ 1000000) (hxs : xs[k * 12 + 11]? = some (.slice qr 0 rcap)) {W0 w : World} {K : Know} {L : List Res} (h : St W0 w K (.raw rd #[(.slice (some ⟨g, 0, none⟩) n bcap), .int .i64 c, ch] 65 :: .row (.slice (some ⟨g, 0, none⟩) n bcap) 45 12 n xs :: L)) :
    Calls Tryd.prog 46 #[.pointer (some ⟨rd, 0, none⟩), .slice (some ⟨wb, off, none⟩) 2 cap] w fun en w' => en = .returned (.bool false) ∧ St W0 w' K L := by
  have H := Lib.hid h
  have HJ := Lib.hid (show k * 12 + 11 < n * 12 by omega)
  have z0 : w.cell? ⟨rd, 0, none⟩ = some (.slice (some ⟨g, 0, none⟩) n bcap) := h.rawCell 0
  have z1 : w.cell? ⟨g, k * 12 + 11, none⟩ = some (.slice qr 0 rcap) := (h.p1.rowCell (k * 12 + 11) HJ.out).trans hxs
  have q0 : ((n : Int) == 0) = false := by rw [beq_eq_false_iff_ne]; omega
  have q1 : (n : Int) - 1 = (k : Int) := by omega
  have q3 : (k : Int) < (n : Int) := by omega
  have q5 : (k : Int) ≤ 1000000 := by omega
  clear h hxs hn hn6
  go_enter Tryd.func46, Tryd.ntmps46
  go_upto_region 3 with fail
  go_region
  all_goals
    go_wp2_with fail
    go_ret
    exact ⟨rfl, H.out.drew.drop.drop⟩

end Go.Proofs.YtenojajfacacoaaDoor
/- Lines of scripts: cuts and chunks, in all. -/
namespace Go.Proofs.YtenojajfacacoaaDoor
open Go.RowKit

theorem k_cut (rd wb off cap : Nat) (s : BSt) (q : Option Addr) (vB vR vH : Value) (r : List Bs) (hx : ∀ y ∈ r, y.length ≤ 1000000) (hr : r.length ≤ 1000000) (hb : s.n ≤ 1000000 ∧ s.m ≤ 1000000 ∧ s.p ≤ 1000000) {W0 w : World} {K : Know} {L : List Res} (hlib : K.has Know.lib) (hs : s.known K) (hk : K.has (Know.strs wb off r)) (h : St W0 w K (.raw rd #[vB, .int .i64 (-1), .slice q 0 cap] 65 :: s.rows vB vR vH L)) :
    Calls Tryd.prog 43 #[.pointer (some ⟨rd, 0, none⟩), .slice (some ⟨wb, off, none⟩) r.length r.length] w fun en w' => ∃ b, en = .returned (.bool b) ∧ Came rd s (-1) [] ((rdCut r).map .cut) W0 K L b w' := by
  by_cases h1 : r.length = 1
  · obtain ⟨x, rfl⟩ : ∃ x, r = [x] := List.length_eq_one_iff.1 h1
    have hxl : x.length ≤ 1000000 := hx x (by simp)
    cases hn : numRd x with
    | none =>
      refine (rd_cut_bad rd wb off 1 vB _ (-1) x hn hxl hlib hk h).mono ?_
      rintro en w' ⟨rfl, h⟩
      exact ⟨_, rfl, .no (by simp [rdCut, hn]) (rows_drop h)⟩
    | some n =>
      by_cases h0 : n < 0
      · refine (rd_cut_neg rd wb off 1 vB _ (-1) x n hn h0 hxl hlib hk h).mono ?_
        rintro en w' ⟨rfl, h⟩
        exact ⟨_, rfl, .no (by simp [rdCut, hn, h0]) (rows_drop h)⟩
      · refine (rd_cut rd wb off 1 vB _ (-1) n x hn (by omega) hxl hlib hk h).mono ?_
        rintro en w' ⟨rfl, h⟩
        have e9 : (rdCut [x]).map Said.cut = some (.cut n) := by simp [rdCut, hn, h0]
        exact ⟨_, rfl, .yes e9 (Know.has_refl _) vR vH ⟨vB, vR, vH, q, cap, h, hs, fun w F hh => ⟨q, cap, rfl, fun h0 => absurd h0 (Nat.lt_irrefl 0)⟩⟩⟩
  · refine (rd_cut_len rd wb off r.length r.length vB _ (-1) r rfl h1 h).mono ?_
    rintro en w' ⟨rfl, h⟩
    refine ⟨_, rfl, .no ?_ (rows_drop h)⟩
    rcases r with _ | ⟨a, _ | ⟨b, t⟩⟩
    · rfl
    · exact absurd rfl h1
    · rfl

theorem k_chunks (rd wb off cap : Nat) (s : BSt) (c : Int) (q : Option Addr) (vB vR vH : Value) (r : List Bs) (hx : ∀ y ∈ r, y.length ≤ 1000000) (hr : r.length ≤ 1000000) (hb : s.n ≤ 1000000 ∧ s.m ≤ 1000000 ∧ s.p ≤ 1000000) {W0 w : World} {K : Know} {L : List Res} (hlib : K.has Know.lib) (hs : s.known K) (hk : K.has (Know.strs wb off r)) (h : St W0 w K (.raw rd #[vB, .int .i64 c, .slice q 0 cap] 65 :: s.rows vB vR vH L)) :
    Calls Tryd.prog 42 #[.pointer (some ⟨rd, 0, none⟩), .slice (some ⟨wb, off, none⟩) r.length r.length] w fun en w' => ∃ b, en = .returned (.bool b) ∧ Came rd s c [] ((rdChunks r).map .chunks) W0 K L b w' := by
  by_cases h0 : r = []
  · subst h0
    refine (rd_chunks_none rd wb off 0 vB _ c [] hlib hk h).mono ?_
    rintro en w' ⟨rfl, h⟩
    exact ⟨_, rfl, .no rfl (rows_drop h)⟩
  · have hpos : 0 < r.length := List.length_pos_iff.2 h0
    cases hn : numsRd r with
    | none =>
      refine (rd_chunks_bad rd wb off r.length r.length vB _ c r rfl hpos hn hx hr hlib hk h).mono ?_
      rintro en w' ⟨rfl, h⟩
      exact ⟨_, rfl, .no (by unfold rdChunks; rw [if_neg h0, hn]; rfl) (rows_drop h)⟩
    | some vs =>
      refine (rd_chunks_good rd wb off r.length r.length vB _ c r vs rfl hpos hn hx hr hlib hk h).mono ?_
      rintro en w' ⟨cb, rfl, h⟩
      have e9 : (rdChunks r).map Said.chunks = some (.chunks vs) := by unfold rdChunks; rw [if_neg h0, hn]; rfl
      obtain ⟨K', hk', hf, h2⟩ := shutI h
      rw [numsRd_len r vs hn] at hf
      refine ⟨_, rfl, .yes e9 hk' vR vH ⟨vB, vR, vH, some ⟨cb, 0, none⟩, r.length, ?_, hs.mono hk', ?_⟩⟩
      · have e8 : (chOf [] (Said.chunks vs)).length = r.length := numsRd_len r vs hn
        rw [e8]
        exact h2
      · have e8 : (chOf [] (Said.chunks vs)).length = r.length := numsRd_len r vs hn
        rw [e8]
        exact hf

end Go.Proofs.YtenojajfacacoaaDoor
/- Rows of headers, made (pure). -/
namespace Go.Proofs.YtenojajfacacoaaDoor
open Go.RowKit

theorem elem_hdrS : ElemT Tryd.prog 54 (.agg #[.string ⟨#[]⟩, .bool false, .string ⟨#[]⟩]) 3 40 := elemT_of (by kernel_rfl) rfl (by decide)
theorem buildH (vn : Bool) (kd vd : ByteArray) (w : World) : (Instr.buildSlice 49 1 #[(0, .agg #[.string kd, .bool vn, .string vd])]).run Tryd.prog w = .ok (.slice (some ⟨w.heap.size, 0, none⟩) 1 1) (w.alloc (.cells #[.string kd, .bool vn, .string vd] 54 (0, 0))) := by go_simp
theorem exec_buildH {o : Oper} {ρ : Operand → Value} (ps : Array (Nat × Value)) (v : Value) (w w' : World) (ho : execOp ρ o = (do pure (Next.value (← Instr.buildSlice 49 1 ps)))) (hb : (Instr.buildSlice 49 1 ps).run Tryd.prog w = .ok v w') : (execOp ρ o).run Tryd.prog w = .ok (.value v) w' := by
  rw [ho]
  simp [hb, Result.andThen]

end Go.Proofs.YtenojajfacacoaaDoor
/- A word of bytes, or none. -/
namespace Go.Proofs.YtenojajfacacoaaDoor
open Go.RowKit

set_option maxHeartbeats 4000000 in
set_option maxRecDepth 100000 in
theorem rb_none {W0 w : World} {K : Know} {L : List Res} (h : St W0 w K L) :
    Calls Tryd.prog 58 #[.string (bb [110, 111, 110, 101])] w fun en w' => en = .returned (.tuple #[.agg #[.bool true, .string (bb [])], .bool true]) ∧ St W0 w' K L := by
  obtain ⟨rb, hrb⟩ : ∃ b, w.heap.size = b := ⟨_, rfl⟩
  have g1 := h.allocRaw #[.bool false, .string ⟨#[]⟩] 48
  rw [hrb] at g1
  have hz := h.allocRaw #[.bool true, .string (bb [])] 48
  rw [hrb] at hz
  have H := Lib.hid g1
  have c0 := (g1).rawCell 0; have c1 := (g1).rawCell 1; simp at c0 c1; have r0 := (g1).rawFree 0; have r1 := (g1).rawFree 1
  clear h g1
  go_enter Tryd.func58, Tryd.ntmps58
  go_wp2_with fail
  refine bodyPost_ret (rc_cell_tmpS rfl _ _ rb [.bool true, .string (bb [])] _ rfl (rc_rangeS hz) Tryd.underlying48 rfl (by kernel_rfl)) rfl ?_
  exact ⟨rfl, hz.drop⟩
set_option maxHeartbeats 4000000 in
set_option maxRecDepth 100000 in
theorem rb_word (s d : Bs) (ok : Bool) (hne : s ≠ [110, 111, 110, 101]) (hv : hexV s = (d, ok)) (hl : s.length ≤ 1000000) {W0 w : World} {K : Know} {L : List Res} (h : St W0 w K L) :
    Calls Tryd.prog 58 #[.string (bb s)] w fun en w' => en = .returned (.tuple #[.agg #[.bool false, .string (bb d)], .bool ok]) ∧ St W0 w' K L := by
  obtain ⟨rb, hrb⟩ : ∃ b, w.heap.size = b := ⟨_, rfl⟩
  have g1 := h.allocRaw #[.bool false, .string ⟨#[]⟩] 48
  rw [hrb] at g1
  have H := Lib.hid g1
  have HV := Lib.hid hv
  have HL := Lib.hid hl
  have e1 : ([110, 111, 110, 101] == s) = false := by rw [beq_eq_false_iff_ne]; exact fun h => hne h.symm
  have e2 : (s == [110, 111, 110, 101]) = false := by rw [beq_eq_false_iff_ne]; exact hne
  clear h g1 hv hl hne
  go_enter Tryd.func58, Tryd.ntmps58
  go_wp2_with (go_at_call 16; (with_reducible refine (sc_bytes s HL.out H.out).mono ?_); rintro e_ wn ⟨rfl, h⟩; rw [HV.out]; have c0 := (h).rawCell 0; have c1 := (h).rawCell 1; simp at c0 c1; have r0 := (h).rawFree 0; have r1 := (h).rawFree 1; replace H := Lib.hid h; clear h)
  have hz : St W0 _ K (.raw rb #[.bool false, .string (bb d)] 48 :: L) := (H.out.rawSet 0 (.bool false)).rawSet 1 (.string (bb d))
  refine bodyPost_ret (rc_cell_tmpS rfl _ _ rb [.bool false, .string (bb d)] _ rfl (rc_rangeS hz) Tryd.underlying48 rfl (by kernel_rfl)) rfl ?_
  exact ⟨rfl, hz.drop⟩

theorem sc_readBlob (s d : Bs) (nl ok : Bool) (hv : blobV s = (nl, d, ok)) (hl : s.length ≤ 1000000) {W0 w : World} {K : Know} {L : List Res} (h : St W0 w K L) :
    Calls Tryd.prog 58 #[.string (bb s)] w fun en w' => en = .returned (.tuple #[.agg #[.bool nl, .string (bb d)], .bool ok]) ∧ St W0 w' K L := by
  unfold blobV at hv
  by_cases hs : s = [110, 111, 110, 101]
  · rw [if_pos hs] at hv
    injection hv with h1 h2
    injection h2 with h2 h3
    subst h1 h2 h3 hs
    exact rb_none h
  · rw [if_neg hs] at hv
    injection hv with h1 h2
    injection h2 with h2 h3
    subst h1
    exact rb_word s d ok hs (Prod.ext h2 h3) hl h

end Go.Proofs.YtenojajfacacoaaDoor
