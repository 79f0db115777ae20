/- Letters of words. -/
import Derived.Test.YtenojajfacacoaaDoorSc6
import Derived.Test.YtenojajfacacoaaDoorSc7P
import Derived.Test.YtenojajfacacoaaDoorRegOp
import Derived.RegionTactic
import Derived.WalkMore
import Derived.Deep.RegionHeld3
import Derived.Deep.DeepCutAuto
namespace Go.Proofs.YtenojajfacacoaaDoor
open Go.RowKit

set_option maxHeartbeats 4000000 in
set_option maxRecDepth 100000 in
theorem sc_readLet (s : Bs) (va vt vc : Bool) (hva : hasB s 97 = va) (hvt : hasB s 116 = vt) (hvc : hasB s 99 = vc) (ok : Bool) (hok : (letW va vt vc == s) = ok) {W0 w : World} {K : Know} {L : List Res} (h : St W0 w K L) :
    Calls Tryd.prog 57 #[.string (bb s)] w fun en w' => en = .returned (.tuple #[.agg #[.bool va, .bool vt, .bool vc], .bool ok]) ∧ St W0 w' K L := by
  obtain ⟨rb, hrb⟩ : ∃ b, w.heap.size = b := ⟨_, rfl⟩
  have g1 := h.allocRaw #[.bool false, .bool false, .bool false] 85
  rw [hrb] at g1
  have H := Lib.hid g1
  have HVA := Lib.hid hva
  have HVT := Lib.hid hvt
  have HVC := Lib.hid hvc
  clear h g1 hva hvt hvc
  go_enter Tryd.func57, Tryd.ntmps57
  go_wp2_with fail
  go_loopw [5] (fun iv wr => (iv = .int .i64 0 ∧ St W0 wr K (.raw rb #[.bool false, .bool false, .bool false] 85 :: L)) ∨ (iv = .int .i64 1 ∧ St W0 wr K (.raw rb #[.bool va, .bool false, .bool false] 85 :: L)) ∨ (iv = .int .i64 2 ∧ St W0 wr K (.raw rb #[.bool va, .bool vt, .bool false] 85 :: L)) ∨ (iv = .int .i64 3 ∧ St W0 wr K (.raw rb #[.bool va, .bool vt, .bool vc] 85 :: L))) (fun iv _ => 4 - (intOf iv).toNat)
  case atStart => exact .inl ⟨rfl, H.out⟩
  case round =>
    clear H
    rcases hrel with ⟨rfl, hst⟩ | ⟨rfl, hst⟩ | ⟨rfl, hst⟩ | ⟨rfl, hst⟩
    · have H := Lib.hid hst
      have c0 := (hst).rawCell 0; have c1 := (hst).rawCell 1; have c2 := (hst).rawCell 2; simp at c0 c1 c2; have r0 := (hst).rawFree 0; have r1 := (hst).rawFree 1; have r2 := (hst).rawFree 2
      clear hst
      go_wp2_with (go_at_call 74; (try clear c0 c1 c2 r0 r1 r2); (with_reducible refine (sl_hasE s _ 97 va ?_ HVA.out H.out).mono ?_); kernel_rfl; rintro e_ wn ⟨rfl, h⟩; have c0 := (h).rawCell 0; have c1 := (h).rawCell 1; have c2 := (h).rawCell 2; simp at c0 c1 c2; have r0 := (h).rawFree 0; have r1 := (h).rawFree 1; have r2 := (h).rawFree 2; replace H := Lib.hid h; clear h)
      go_roundw
      case rel => exact .inr (.inl ⟨by go_num, H.out.rawSet 0 (.bool va)⟩)
      case measure => first | (simp [intOf]; done) | (simp [intOf]; omega)
    · have H := Lib.hid hst
      have c0 := (hst).rawCell 0; have c1 := (hst).rawCell 1; have c2 := (hst).rawCell 2; simp at c0 c1 c2; have r0 := (hst).rawFree 0; have r1 := (hst).rawFree 1; have r2 := (hst).rawFree 2
      clear hst
      go_wp2_with (go_at_call 74; (try clear c0 c1 c2 r0 r1 r2); (with_reducible refine (sl_hasE s _ 116 vt ?_ HVT.out H.out).mono ?_); kernel_rfl; rintro e_ wn ⟨rfl, h⟩; have c0 := (h).rawCell 0; have c1 := (h).rawCell 1; have c2 := (h).rawCell 2; simp at c0 c1 c2; have r0 := (h).rawFree 0; have r1 := (h).rawFree 1; have r2 := (h).rawFree 2; replace H := Lib.hid h; clear h)
      go_roundw
      case rel => exact .inr (.inr (.inl ⟨by go_num, H.out.rawSet 1 (.bool vt)⟩))
      case measure => first | (simp [intOf]; done) | (simp [intOf]; omega)
    · have H := Lib.hid hst
      have c0 := (hst).rawCell 0; have c1 := (hst).rawCell 1; have c2 := (hst).rawCell 2; simp at c0 c1 c2; have r0 := (hst).rawFree 0; have r1 := (hst).rawFree 1; have r2 := (hst).rawFree 2
      clear hst
      go_wp2_with (go_at_call 74; (try clear c0 c1 c2 r0 r1 r2); (with_reducible refine (sl_hasE s _ 99 vc ?_ HVC.out H.out).mono ?_); kernel_rfl; rintro e_ wn ⟨rfl, h⟩; have c0 := (h).rawCell 0; have c1 := (h).rawCell 1; have c2 := (h).rawCell 2; simp at c0 c1 c2; have r0 := (h).rawFree 0; have r1 := (h).rawFree 1; have r2 := (h).rawFree 2; replace H := Lib.hid h; clear h)
      go_roundw
      case rel => exact .inr (.inr (.inr ⟨by go_num, H.out.rawSet 2 (.bool vc)⟩))
      case measure => first | (simp [intOf]; done) | (simp [intOf]; omega)
    · have H := Lib.hid hst
      clear hst
      go_upto_region 6 with fail
      have hs := H.out.drew
      have KEEP := Lib.hid (show ∀ w', St W0 w' K (.raw rb #[.bool va, .bool vt, .bool vc] 85 :: L) → (w'.cell? ⟨rb, 0, none⟩ = some (.bool va) ∧ w'.cell? ⟨rb, 1, none⟩ = some (.bool vt) ∧ w'.cell? ⟨rb, 2, none⟩ = some (.bool vc)) from fun w' hs => ⟨hs.rawCell 0, hs.rawCell 1, hs.rawCell 2⟩)
      clear H
      refine wp_region_held_drew (S := fun w' => w'.cell? ⟨rb, 0, none⟩ = some (.bool va) ∧ w'.cell? ⟨rb, 1, none⟩ = some (.bool vt) ∧ w'.cell? ⟨rb, 2, none⟩ = some (.bool vc)) (by kernel_rfl) (KEEP.out _ hs) (fun hHeld => ?_)
      refine wpAnyH_take (i := 0) (oi := { dst := some 17, op := Op.load 85 (Operand.tmp 2), type := 85, pos := "words.go:106", after := #[], guard := none }) (v := ?_) rfl (by kernel_rfl) (by kernel_rfl) (by kernel_rfl) (fun _ _ _ h => h) (Or.inl ⟨by rfl, ?_⟩) (by assumption) ?_
      rotate_left
      · intro w hSw; (try dsimp only at hSw); go_simp; try with_reducible rfl
      simp only [Act.put, List.setIfInBounds_toArray, List.set_cons_zero, List.set_cons_succ]
      refine wpAnyH_take (i := 1) (oi := { dst := some 18, op := Op.load 85 (Operand.tmp 2), type := 85, pos := "words.go:106", after := #[], guard := none }) (v := ?_) rfl (by kernel_rfl) (by kernel_rfl) (by kernel_rfl) (fun _ _ _ h => h) (Or.inl ⟨by rfl, ?_⟩) (by assumption) ?_
      rotate_left
      · intro w hSw; (try dsimp only at hSw); go_simp; try with_reducible rfl
      simp only [Act.put, List.setIfInBounds_toArray, List.set_cons_zero, List.set_cons_succ]
      refine wpAnyH_take (i := 3) (oi := { dst := some 20, op := Op.move (Operand.tmp 0), type := 9, pos := "words.go:106", after := #[{ on := 5, ground := Ground.gcOnly Departure.lateStores }], guard := none }) (v := ?_) rfl (by kernel_rfl) (by kernel_rfl) (by kernel_rfl) (fun _ _ _ h => h) (Or.inl ⟨by rfl, ?_⟩) (by assumption) ?_
      rotate_left
      · intro w hSw; (try dsimp only at hSw); go_simp; try with_reducible rfl
      simp only [Act.put, List.setIfInBounds_toArray, List.set_cons_zero, List.set_cons_succ]
      refine wpAnyH_ready (rs := [2]) (by kernel_rfl) (by simp) (AllReadyH.cons (o := { dst := some 19, op := Op.call { callee := Callee.value (Operand.func 38), args := #[Operand.tmp 18], argTypes := #[85] }, type := 9, pos := "words.go:106", after := #[{ on := 1, ground := Ground.data }], guard := none }) rfl (fun KK hK => ?_) AllReadyH.nil)
      · go_simp
        go_at_call 38
        with_reducible refine (sc_let va vt vc hs).mono ?_
        rintro e wq ⟨rfl, hs⟩
        refine hK.out _ _ (KEEP.out _ hs) (fun hHeld => ?_)
        clear hK KK
        try simp only [Act.put, List.setIfInBounds_toArray, List.set_cons_zero, List.set_cons_succ]
        refine wpAnyH_take (i := 4) (oi := { dst := some 21, op := Op.binOp BinOp.eql 9 (Operand.tmp 19) (Operand.tmp 20) 9, type := 4, pos := "words.go:106", after := #[{ on := 2, ground := Ground.data }, { on := 3, ground := Ground.data }, { on := 5, ground := Ground.gcOnly Departure.lateStores }], guard := none }) (v := ?_) rfl (by kernel_rfl) (by kernel_rfl) (by kernel_rfl) (fun _ _ _ h => h) (Or.inl ⟨by rfl, ?_⟩) (by assumption) ?_
        rotate_left
        · intro w hSw; (try dsimp only at hSw); go_simp; try with_reducible rfl
        simp only [Act.put, List.setIfInBounds_toArray, List.set_cons_zero, List.set_cons_succ]
        refine wpAnyH_ready (rs := [5]) (by kernel_rfl) (by simp) (AllReadyH.cons (o := { dst := none, op := Op.store 85 (Operand.tmp 2) (Operand.tmp 17), type := 0, pos := "words.go:106", after := #[{ on := 0, ground := Ground.data }, { on := 2, ground := Ground.chain }, { on := 0, ground := Ground.phase }, { on := 1, ground := Ground.phase }, { on := 2, ground := Ground.textOnly Departure.lateStoresUnsure }, { on := 3, ground := Ground.textOnly Departure.lateStores }, { on := 4, ground := Ground.textOnly Departure.lateStores }], guard := none }) rfl (fun KK hK => ?_) AllReadyH.nil)
        · rw [if_pos (by rfl)]
          refine wp_store_mid 85 (.tmp 2) (.tmp 17) rfl rb 0 #[.bool va, .bool vt, .bool vc] (by rfl) (by rfl) hs.there (by kernel_rfl) (by simp [Value.oneCell']) ?_
          obtain ⟨wz, ez, hs⟩ := hs.storeEx #[.bool va, .bool vt, .bool vc]
          rw [ez]
          clear ez
          have hs : St W0 wz K (.raw rb #[.bool va, .bool vt, .bool vc] 85 :: L) := hs
          refine hK.out _ _ (KEEP.out _ hs) (fun hHeld => ?_)
          clear hK KK
          try simp only [Act.put]
          refine wpAnyH_take (i := 6) (oi := { dst := some 3, op := Op.assign (Operand.tmp 21), type := 4, pos := "words.go:106", after := #[{ on := 4, ground := Ground.data }, { on := 5, ground := Ground.chain }, { on := 0, ground := Ground.phase }, { on := 1, ground := Ground.phase }, { on := 2, ground := Ground.phase }, { on := 3, ground := Ground.phase }, { on := 4, ground := Ground.phase }, { on := 5, ground := Ground.phase }], guard := none }) (v := ?_) rfl (by kernel_rfl) (by kernel_rfl) (by kernel_rfl) (fun _ _ _ h => h) (Or.inl ⟨by rfl, ?_⟩) (by assumption) ?_
          rotate_left
          · intro w hSw; (try dsimp only at hSw); go_simp; try with_reducible rfl
          simp only [Act.put, List.setIfInBounds_toArray, List.set_cons_zero, List.set_cons_succ]
          refine wpAnyH_done (by kernel_rfl) ?_ _
          clear hHeld
          have H := Lib.hid hs
          clear hs
          go_wp2_with fail
          refine bodyPost_ret (rc_cell_tmpS rfl _ _ rb [.bool va, .bool vt, .bool vc] _ rfl (rc_rangeS H.out) Tryd.underlying85 rfl (by kernel_rfl)) rfl ?_
          exact ⟨rfl, H.out.drop⟩

end Go.Proofs.YtenojajfacacoaaDoor
