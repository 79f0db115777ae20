/- Layer 7, walked: RecordDecodes. -/
import Derived.Test.YtkenneeejdngaaaRec16
import Derived.Test.YtkenneeejdngaaaL07E
import Derived.Deep.RegionHeld3
import Derived.Deep.DeepCutAuto
import Derived.BigQuiet
namespace Go.Proofs.Ytkenneeejdngaaa
open Go.RowKit

theorem rec_readZ (p : Nat) (i k : InS) (hx : i.record = (RecS.zero, k)) {W0 w : World} {K : Know} {L : List Res} (h : St W0 w K (.inp p i :: L)) :
    Calls Try.prog 43 #[inPtr p] w fun en w' => ∃ v, en = .returned (.agg #[.int .i64 0, .int .i64 0, .bool false, .string ⟨#[]⟩, .bool false, .string ⟨#[]⟩, v]) ∧ St W0 w' (K.and (Know.flat RHdr v 3 [])) (.inp p k :: L) := rec_readQ p i RecS.zero k hx h
theorem rec_decodeZ (s : Bs) (e : Int) (hx : decR s = RecS.zero) (he : (decJ s).err = e) (hl : s.length ≤ 140737488355328) {W0 w : World} {K : Know} {L : List Res} (h : St W0 w K L) :
    Calls Try.prog 39 #[.string (bb s)] w fun en w' => ∃ v, en = .returned (.tuple #[.agg #[.int .i64 0, .int .i64 0, .bool false, .string ⟨#[]⟩, .bool false, .string ⟨#[]⟩, v], .int .i64 e]) ∧ St W0 w' (K.and (Know.flat RHdr v 3 [])) L := rec_decode s RecS.zero e hx he hl h
set_option maxHeartbeats 1000000 in
set_option maxRecDepth 100000 in
theorem ref07_sameZ (va vb : Value) {W0 w : World} {K : Know} {L : List Res} (hka : K.has (Know.flat RHdr va 3 [])) (hkb : K.has (Know.flat RHdr vb 3 [])) (h : St W0 w K L) :
    Calls Try.prog 41 #[.agg #[.int .i64 0, .int .i64 0, .bool false, .string ⟨#[]⟩, .bool false, .string ⟨#[]⟩, va], .agg #[.int .i64 0, .int .i64 0, .bool false, .string ⟨#[]⟩, .bool false, .string ⟨#[]⟩, vb]] w fun en w' => en = .returned (.bool true) ∧ St W0 w' K L := ref07_same 0 0 0 0 false false false false [] [] [] [] [] [] va vb true (decide_eq_true rfl) (by decide) (by decide) hka hkb h
theorem know_nil0 {α : Type} (R : List Value → α → Prop) (sz : Nat) (K : Know) : K.has (Know.flat R (.slice none 0 0) sz []) := fun _ _ _ => ⟨none, 0, rfl, fun h => absurd h (by simp)⟩
theorem flat_form0 {W0 w : World} {K : Know} {L : List Res} {α : Type} {R : List Value → α → Prop} {sz : Nat} {v : Value} (hk : K.has (Know.flat R v sz ([] : List α))) (h : St W0 w K L) : ∃ q cap, v = .slice q 0 cap := flat_form hk h
theorem raw97 {W0 w : World} {K : Know} {L : List Res} {a b : Nat} {T T' : TypeId} {v0 v1 v2 v3 v4 v5 v6 v7 v8 u0 u1 u2 u3 u4 u5 u6 : Value} (h : St W0 w K (.raw a #[v0, v1, v2, v3, v4, v5, v6, v7, v8] T :: .raw b #[u0, u1, u2, u3, u4, u5, u6] T' :: L)) :
    w.cell? ⟨a, 0, none⟩ = some v0 ∧ w.cell? ⟨a, 1, none⟩ = some v1 ∧ w.cell? ⟨a, 2, none⟩ = some v2 ∧ w.cell? ⟨a, 3, none⟩ = some v3 ∧ w.cell? ⟨a, 4, none⟩ = some v4 ∧ w.cell? ⟨a, 5, none⟩ = some v5 ∧ w.cell? ⟨a, 6, none⟩ = some v6 ∧ w.cell? ⟨a, 7, none⟩ = some v7 ∧ w.cell? ⟨a, 8, none⟩ = some v8 ∧ w.cell? ⟨b, 0, none⟩ = some u0 ∧ w.cell? ⟨b, 1, none⟩ = some u1 ∧ w.cell? ⟨b, 2, none⟩ = some u2 ∧ w.cell? ⟨b, 3, none⟩ = some u3 ∧ w.cell? ⟨b, 4, none⟩ = some u4 ∧ w.cell? ⟨b, 5, none⟩ = some u5 ∧ w.cell? ⟨b, 6, none⟩ = some u6 :=
  ⟨h.rawCell 0, h.rawCell 1, h.rawCell 2, h.rawCell 3, h.rawCell 4, h.rawCell 5, h.rawCell 6, h.rawCell 7, h.rawCell 8, h.p1.rawCell 0, h.p1.rawCell 1, h.p1.rawCell 2, h.p1.rawCell 3, h.p1.rawCell 4, h.p1.rawCell 5, h.p1.rawCell 6⟩

set_option maxHeartbeats 1000000 in
set_option maxRecDepth 100000 in
theorem recordDecodes_err (s : Bs) (hs : s.length ≤ 2000) (e : Int) (q : Nat) (hr : reRec s = .error e) (hx : (⟨s, 0, 0⟩ : InS).record = (RecS.zero, ⟨s, q, e⟩)) (he : e ≠ 0) {W0 w : World} (h : St W0 w Know.none []) :
    Calls Try.prog 9 #[.string (bb s)] w fun en w' => en = .returned (.bool true) ∧ Below W0.heap.size W0 w' := by
  have H := Lib.hid h
  have hs2 : decide ((2000 : Int) < (s.length : Int)) = false := decide_eq_false (by omega)
  have HS := Lib.hid (show s.length ≤ 140737488355328 by omega)
  have HS1 := Lib.hid (show s.length ≤ 1000000 by omega)
  have HR := Lib.hid hr
  have EX := Lib.hid hx
  have ED := Lib.hid (dec_ofE hr)
  have e0 : (e == 0) = false := by simpa using he
  have e1 : (e != 0) = true := by simpa using he
  clear hx he
  clear h hs hr
  go_enter Try.func9, Try.ntmps9
  go_wp2_with (first
    | (go_at_call 34; refine (speaks07 H.out).mono ?_; rintro e wn ⟨rfl, h⟩; replace H := Lib.hid h; clear h)
    | (go_at_call 25; refine (s_new s HS.out (by first | (first | with_reducible exact H.out | with_reducible exact H.out.p1 | with_reducible exact H.out.p2 | with_reducible exact H.out.p3 | with_reducible exact H.out.p4 | with_reducible exact H.out.p5) | ((repeat first | with_reducible refine St.drewN ?_ _ | with_reducible refine St.drew ?_ | with_reducible refine St.alloc ?_ _); first | with_reducible exact H.out | with_reducible exact H.out.p1 | with_reducible exact H.out.p2 | with_reducible exact H.out.p3 | with_reducible exact H.out.p4 | with_reducible exact H.out.p5))).mono ?_; rintro e wn ⟨bi, rfl, h⟩; replace H := Lib.hid h; clear h)
    | (go_at_call 43; refine (rec_readZ _ _ ⟨s, q, e⟩ EX.out H.out).mono ?_; rintro e wn ⟨v1, rfl, h⟩; obtain ⟨q1, c1, hv1⟩ := flat_form0 (Know.has_right (Know.has_refl _)) h; subst hv1; obtain ⟨wB, hwB⟩ : ∃ b, wn.heap.size = b := ⟨_, rfl⟩; have h := h.allocRaw #[.int .i64 0, .int .i64 0, .bool false, .string ⟨#[]⟩, .bool false, .string ⟨#[]⟩, .slice q1 0 c1] 62; rw [hwB] at h; replace H := Lib.hid h; clear h)
    | (go_at_call 44; refine (ref07_readE s e HR.out HS1.out H.out).mono ?_; rintro e wn ⟨n, rfl, h⟩; obtain ⟨wC, hwC⟩ : ∃ b, wn.heap.size = b := ⟨_, rfl⟩; have h := h.allocRaw #[.int .i64 0, .int .i64 0, .bool false, .string ⟨#[]⟩, .bool false, .string ⟨#[]⟩, .slice none 0 0, .int .i64 n, .int .i64 e] 73; rw [hwC] at h; replace H := Lib.hid h; clear h))
  have h1 := H.out.drew
  clear H
  go_cut [3, 4, 5, 44] (fun s3 s4 s5 s44 wx => s3 = inPtr bi ∧ s4 = .pointer (some ⟨wB, 0, none⟩) ∧ s5 = .pointer (some ⟨wC, 0, none⟩) ∧ s44 = .bool false ∧ St W0 wx (Know.none.and (Know.flat RHdr (.slice q1 0 c1) 3 [])) [.raw wC #[.int .i64 0, .int .i64 0, .bool false, .string ⟨#[]⟩, .bool false, .string ⟨#[]⟩, .slice none 0 0, .int .i64 n, .int .i64 e] 73, .raw wB #[.int .i64 0, .int .i64 0, .bool false, .string ⟨#[]⟩, .bool false, .string ⟨#[]⟩, .slice q1 0 c1] 62, .inp bi ⟨s, q, e⟩])
  case first =>
    refine wp_region_held_drew (S := (fun w' => (w'.cell? ⟨wC, 0, none⟩ = some (.int .i64 0) ∧ w'.cell? ⟨wC, 1, none⟩ = some (.int .i64 0) ∧ w'.cell? ⟨wC, 2, none⟩ = some (.bool false) ∧ w'.cell? ⟨wC, 3, none⟩ = some (.string ⟨#[]⟩) ∧ w'.cell? ⟨wC, 4, none⟩ = some (.bool false) ∧ w'.cell? ⟨wC, 5, none⟩ = some (.string ⟨#[]⟩) ∧ w'.cell? ⟨wC, 6, none⟩ = some (.slice none 0 0) ∧ w'.cell? ⟨wC, 7, none⟩ = some (.int .i64 n) ∧ w'.cell? ⟨wC, 8, none⟩ = some (.int .i64 e) ∧ w'.cell? ⟨wB, 0, none⟩ = some (.int .i64 0) ∧ w'.cell? ⟨wB, 1, none⟩ = some (.int .i64 0) ∧ w'.cell? ⟨wB, 2, none⟩ = some (.bool false) ∧ w'.cell? ⟨wB, 3, none⟩ = some (.string ⟨#[]⟩) ∧ w'.cell? ⟨wB, 4, none⟩ = some (.bool false) ∧ w'.cell? ⟨wB, 5, none⟩ = some (.string ⟨#[]⟩) ∧ w'.cell? ⟨wB, 6, none⟩ = some (.slice q1 0 c1)) ∧ St W0 w' (Know.none.and (Know.flat RHdr (.slice q1 0 c1) 3 [])) [.raw wC #[.int .i64 0, .int .i64 0, .bool false, .string ⟨#[]⟩, .bool false, .string ⟨#[]⟩, .slice none 0 0, .int .i64 n, .int .i64 e] 73, .raw wB #[.int .i64 0, .int .i64 0, .bool false, .string ⟨#[]⟩, .bool false, .string ⟨#[]⟩, .slice q1 0 c1] 62, .inp bi ⟨s, q, e⟩])) (by kernel_rfl) ⟨raw97 h1, h1⟩ (fun hHeld => ?_)
    refine wpAnyH_take (i := 0) (oi := { dst := some 21, op := Op.move (Operand.tmp 3), type := 44, pos := "law.go:61", after := #[], guard := none }) (v := ?_) rfl (by kernel_rfl) (by kernel_rfl) (by kernel_rfl) (fun _ _ _ h => h) (Or.inl ⟨by rfl, ?_⟩) (by assumption) ?_
    rotate_left
    · intro w hSw; (try dsimp only at hSw); go_simp; try with_reducible rfl
    simp only [Act.put, List.setIfInBounds_toArray, List.set_cons_zero, List.set_cons_succ]
    refine wpAnyH_take (i := 2) (oi := { dst := some 23, op := Op.fieldAddr 73 (Operand.tmp 5) 2, type := 0, pos := "law.go:61", after := #[], guard := none }) (v := ?_) rfl (by kernel_rfl) (by kernel_rfl) (by kernel_rfl) (fun _ _ _ h => h) (Or.inl ⟨by rfl, ?_⟩) (by assumption) ?_
    rotate_left
    · intro w hSw; (try dsimp only at hSw); go_simp; try with_reducible rfl
    simp only [Act.put, List.setIfInBounds_toArray, List.set_cons_zero, List.set_cons_succ]
    refine wpAnyH_take (i := 3) (oi := { dst := some 24, op := Op.load 3 (Operand.tmp 23), type := 3, pos := "law.go:61", after := #[{ on := 2, ground := Ground.data }], guard := none }) (v := ?_) rfl (by kernel_rfl) (by kernel_rfl) (by kernel_rfl) (fun _ _ _ h => h) (Or.inl ⟨by rfl, ?_⟩) (by assumption) ?_
    rotate_left
    · intro w hSw; (try dsimp only at hSw); go_simp; try with_reducible rfl
    simp only [Act.put, List.setIfInBounds_toArray, List.set_cons_zero, List.set_cons_succ]
    refine wpAnyH_ready (rs := [1]) (by kernel_rfl) (by simp) (AllReadyH.cons (o := { dst := some 22, op := Op.call { callee := Callee.value (Operand.func 31), args := #[Operand.tmp 21], argTypes := #[44] }, type := 36, pos := "law.go:61", after := #[{ on := 0, ground := Ground.data }], guard := none }) rfl (fun KK hK => ?_) AllReadyH.nil)
    · go_simp
      (go_at_call 31; with_reducible refine (s_err _ ⟨s, q, e⟩ (St.p2 (show St W0 _ (Know.none.and (Know.flat RHdr (.slice q1 0 c1) 3 [])) [.raw wC #[.int .i64 0, .int .i64 0, .bool false, .string ⟨#[]⟩, .bool false, .string ⟨#[]⟩, .slice none 0 0, .int .i64 n, .int .i64 e] 73, .raw wB #[.int .i64 0, .int .i64 0, .bool false, .string ⟨#[]⟩, .bool false, .string ⟨#[]⟩, .slice q1 0 c1] 62, .inp bi ⟨s, q, e⟩] by assumption))).mono ?_; rintro e wq ⟨rfl, h⟩; replace h := h.p2.p2)
      refine hK.out _ _ (by (try dsimp only); exact ⟨raw97 (show St W0 _ (Know.none.and (Know.flat RHdr (.slice q1 0 c1) 3 [])) [.raw wC #[.int .i64 0, .int .i64 0, .bool false, .string ⟨#[]⟩, .bool false, .string ⟨#[]⟩, .slice none 0 0, .int .i64 n, .int .i64 e] 73, .raw wB #[.int .i64 0, .int .i64 0, .bool false, .string ⟨#[]⟩, .bool false, .string ⟨#[]⟩, .slice q1 0 c1] 62, .inp bi ⟨s, q, e⟩] by assumption), (show St W0 _ (Know.none.and (Know.flat RHdr (.slice q1 0 c1) 3 [])) [.raw wC #[.int .i64 0, .int .i64 0, .bool false, .string ⟨#[]⟩, .bool false, .string ⟨#[]⟩, .slice none 0 0, .int .i64 n, .int .i64 e] 73, .raw wB #[.int .i64 0, .int .i64 0, .bool false, .string ⟨#[]⟩, .bool false, .string ⟨#[]⟩, .slice q1 0 c1] 62, .inp bi ⟨s, q, e⟩] by assumption)⟩) (fun hHeld => ?_)
      clear hK KK
      try simp only [Act.put, List.setIfInBounds_toArray, List.set_cons_zero, List.set_cons_succ]
      refine wpAnyH_take (i := 4) (oi := { dst := some 25, op := Op.binOp BinOp.neq 3 (Operand.tmp 22) (Operand.tmp 24) 3, type := 4, pos := "law.go:61", after := #[{ on := 1, ground := Ground.data }, { on := 3, ground := Ground.data }], guard := none }) (v := ?_) rfl (by kernel_rfl) (by kernel_rfl) (by kernel_rfl) (fun _ _ _ h => h) (Or.inl ⟨by rfl, ?_⟩) (by assumption) ?_
      rotate_left
      · intro w hSw; (try dsimp only at hSw); go_simp; try with_reducible rfl
      simp only [Act.put, List.setIfInBounds_toArray, List.set_cons_zero, List.set_cons_succ]
      refine wpAnyH_take (i := 5) (oi := { dst := some 26, op := Op.move (Operand.tmp 25), type := 4, pos := "law.go:61", after := #[{ on := 4, ground := Ground.data }, { on := 1, ground := Ground.chain }], guard := none }) (v := ?_) rfl (by kernel_rfl) (by kernel_rfl) (by kernel_rfl) (fun _ _ _ h => h) (Or.inl ⟨by rfl, ?_⟩) (by assumption) ?_
      rotate_left
      · intro w hSw; (try dsimp only at hSw); go_simp; try with_reducible rfl
      simp only [Act.put, List.setIfInBounds_toArray, List.set_cons_zero, List.set_cons_succ]
      refine wpAnyH_take (i := 6) (oi := { dst := some 27, op := Op.load 62 (Operand.tmp 4), type := 62, pos := "law.go:61", after := #[{ on := 5, ground := Ground.guard }], guard := some (5, false) }) (v := ?_) rfl (by kernel_rfl) (by kernel_rfl) (by kernel_rfl) (fun _ _ _ h => h) (Or.inl ⟨by rfl, ?_⟩) (by assumption) ?_
      rotate_left
      · intro w hSw; (try dsimp only at hSw); go_simp; try with_reducible rfl
      simp only [Act.put, List.setIfInBounds_toArray, List.set_cons_zero, List.set_cons_succ]
      refine wpAnyH_take (i := 7) (oi := { dst := some 28, op := Op.fieldAddr 73 (Operand.tmp 5) 0, type := 0, pos := "law.go:61", after := #[{ on := 5, ground := Ground.guard }], guard := some (5, false) }) (v := ?_) rfl (by kernel_rfl) (by kernel_rfl) (by kernel_rfl) (fun _ _ _ h => h) (Or.inl ⟨by rfl, ?_⟩) (by assumption) ?_
      rotate_left
      · intro w hSw; (try dsimp only at hSw); go_simp; try with_reducible rfl
      simp only [Act.put, List.setIfInBounds_toArray, List.set_cons_zero, List.set_cons_succ]
      refine wpAnyH_take (i := 8) (oi := { dst := some 29, op := Op.load 62 (Operand.tmp 28), type := 62, pos := "law.go:61", after := #[{ on := 7, ground := Ground.data }, { on := 5, ground := Ground.guard }], guard := some (5, false) }) (v := ?_) rfl (by kernel_rfl) (by kernel_rfl) (by kernel_rfl) (fun _ _ _ h => h) (Or.inl ⟨by rfl, ?_⟩) (by assumption) ?_
      rotate_left
      · intro w hSw; (try dsimp only at hSw); go_simp; try with_reducible rfl
      simp only [Act.put, List.setIfInBounds_toArray, List.set_cons_zero, List.set_cons_succ]
      refine wpAnyH_ready (rs := [9]) (by kernel_rfl) (by simp) (AllReadyH.cons (o := { dst := some 30, op := Op.call { callee := Callee.value (Operand.func 41), args := #[Operand.tmp 27, Operand.tmp 29], argTypes := #[62, 62] }, type := 4, pos := "law.go:61", after := #[{ on := 6, ground := Ground.data }, { on := 8, ground := Ground.data }, { on := 5, ground := Ground.chain }, { on := 5, ground := Ground.guard }], guard := some (5, false) }) rfl (fun KK hK => ?_) AllReadyH.nil)
      · go_simp
        (go_at_call 41; with_reducible refine (ref07_sameZ (.slice q1 0 c1) (.slice none 0 0) (Know.has_right (Know.has_refl _)) (know_nil0 _ _ _) (show St W0 _ (Know.none.and (Know.flat RHdr (.slice q1 0 c1) 3 [])) [.raw wC #[.int .i64 0, .int .i64 0, .bool false, .string ⟨#[]⟩, .bool false, .string ⟨#[]⟩, .slice none 0 0, .int .i64 n, .int .i64 e] 73, .raw wB #[.int .i64 0, .int .i64 0, .bool false, .string ⟨#[]⟩, .bool false, .string ⟨#[]⟩, .slice q1 0 c1] 62, .inp bi ⟨s, q, e⟩] by assumption)).mono ?_; rintro e wq ⟨rfl, h⟩)
        refine hK.out _ _ (by (try dsimp only); exact ⟨raw97 (show St W0 _ (Know.none.and (Know.flat RHdr (.slice q1 0 c1) 3 [])) [.raw wC #[.int .i64 0, .int .i64 0, .bool false, .string ⟨#[]⟩, .bool false, .string ⟨#[]⟩, .slice none 0 0, .int .i64 n, .int .i64 e] 73, .raw wB #[.int .i64 0, .int .i64 0, .bool false, .string ⟨#[]⟩, .bool false, .string ⟨#[]⟩, .slice q1 0 c1] 62, .inp bi ⟨s, q, e⟩] by assumption), (show St W0 _ (Know.none.and (Know.flat RHdr (.slice q1 0 c1) 3 [])) [.raw wC #[.int .i64 0, .int .i64 0, .bool false, .string ⟨#[]⟩, .bool false, .string ⟨#[]⟩, .slice none 0 0, .int .i64 n, .int .i64 e] 73, .raw wB #[.int .i64 0, .int .i64 0, .bool false, .string ⟨#[]⟩, .bool false, .string ⟨#[]⟩, .slice q1 0 c1] 62, .inp bi ⟨s, q, e⟩] by assumption)⟩) (fun hHeld => ?_)
        clear hK KK
        try simp only [Act.put, List.setIfInBounds_toArray, List.set_cons_zero, List.set_cons_succ]
        refine wpAnyH_take (i := 10) (oi := { dst := some 31, op := Op.unOp UnOp.not 4 (Operand.tmp 30), type := 4, pos := "law.go:61", after := #[{ on := 9, ground := Ground.data }, { on := 5, ground := Ground.guard }], guard := some (5, false) }) (v := ?_) rfl (by kernel_rfl) (by kernel_rfl) (by kernel_rfl) (fun _ _ _ h => h) (Or.inl ⟨by rfl, ?_⟩) (by assumption) ?_
        rotate_left
        · intro w hSw; (try dsimp only at hSw); go_simp; try with_reducible rfl
        simp only [Act.put, List.setIfInBounds_toArray, List.set_cons_zero, List.set_cons_succ]
        refine wpAnyH_take (i := 11) (oi := { dst := some 32, op := Op.pick (Operand.tmp 26) (Operand.const (Value.bool true)) (Operand.tmp 31), type := 4, pos := "law.go:61", after := #[{ on := 5, ground := Ground.data }, { on := 10, ground := Ground.data }], guard := none }) (v := ?_) rfl (by kernel_rfl) (by kernel_rfl) (by kernel_rfl) (fun _ _ _ h => h) (Or.inl ⟨by rfl, ?_⟩) (by assumption) ?_
        rotate_left
        · intro w hSw; (try dsimp only at hSw); go_simp; try with_reducible rfl
        simp only [Act.put, List.setIfInBounds_toArray, List.set_cons_zero, List.set_cons_succ]
        refine wpAnyH_take (i := 12) (oi := { dst := some 33, op := Op.move (Operand.tmp 32), type := 4, pos := "law.go:61", after := #[{ on := 11, ground := Ground.data }, { on := 9, ground := Ground.chain }], guard := none }) (v := ?_) rfl (by kernel_rfl) (by kernel_rfl) (by kernel_rfl) (fun _ _ _ h => h) (Or.inl ⟨by rfl, ?_⟩) (by assumption) ?_
        rotate_left
        · intro w hSw; (try dsimp only at hSw); go_simp; try with_reducible rfl
        simp only [Act.put, List.setIfInBounds_toArray, List.set_cons_zero, List.set_cons_succ]
        refine wpAnyH_take (i := 13) (oi := { dst := some 34, op := Op.fieldAddr 73 (Operand.tmp 5) 2, type := 0, pos := "law.go:61", after := #[{ on := 12, ground := Ground.guard }], guard := some (12, false) }) (v := ?_) rfl (by kernel_rfl) (by kernel_rfl) (by kernel_rfl) (fun _ _ _ h => h) (Or.inl ⟨by rfl, ?_⟩) (by assumption) ?_
        rotate_left
        · intro w hSw; (try dsimp only at hSw); go_simp; try with_reducible rfl
        simp only [Act.put, List.setIfInBounds_toArray, List.set_cons_zero, List.set_cons_succ]
        refine wpAnyH_take (i := 14) (oi := { dst := some 35, op := Op.load 3 (Operand.tmp 34), type := 3, pos := "law.go:61", after := #[{ on := 13, ground := Ground.data }, { on := 12, ground := Ground.guard }], guard := some (12, false) }) (v := ?_) rfl (by kernel_rfl) (by kernel_rfl) (by kernel_rfl) (fun _ _ _ h => h) (Or.inl ⟨by rfl, ?_⟩) (by assumption) ?_
        rotate_left
        · intro w hSw; (try dsimp only at hSw); go_simp; try with_reducible rfl
        simp only [Act.put, List.setIfInBounds_toArray, List.set_cons_zero, List.set_cons_succ]
        refine wpAnyH_take (i := 15) (oi := { dst := some 36, op := Op.binOp BinOp.eql 3 (Operand.tmp 35) (Operand.const (Value.int IntKind.i64 0)) 3, type := 4, pos := "law.go:61", after := #[{ on := 14, ground := Ground.data }, { on := 12, ground := Ground.guard }], guard := some (12, false) }) (v := ?_) rfl (by kernel_rfl) (by kernel_rfl) (by kernel_rfl) (fun _ _ _ h => h) (Or.inl ⟨by rfl, ?_⟩) (by assumption) ?_
        rotate_left
        · intro w hSw; (try dsimp only at hSw); go_simp; try with_reducible rfl
        simp only [Act.put, List.setIfInBounds_toArray, List.set_cons_zero, List.set_cons_succ]
        refine wpAnyH_take (i := 16) (oi := { dst := some 37, op := Op.move (Operand.tmp 36), type := 4, pos := "law.go:61", after := #[{ on := 15, ground := Ground.data }, { on := 12, ground := Ground.chain }, { on := 12, ground := Ground.guard }], guard := some (12, false) }) (v := ?_) rfl (by kernel_rfl) (by kernel_rfl) (by kernel_rfl) (fun _ _ _ h => h) (Or.inl ⟨by rfl, ?_⟩) (by assumption) ?_
        rotate_left
        · intro w hSw; (try dsimp only at hSw); go_simp; try with_reducible rfl
        simp only [Act.put, List.setIfInBounds_toArray, List.set_cons_zero, List.set_cons_succ]
        refine wpAnyH_take (i := 17) (oi := { dst := some 38, op := Op.move (Operand.tmp 3), type := 44, pos := "law.go:61", after := #[{ on := 16, ground := Ground.guard }], guard := some (16, true) }) (v := undef) rfl (by kernel_rfl) (by kernel_rfl) (by kernel_rfl) (fun _ _ _ h => h) (Or.inr ⟨by rfl, rfl⟩) (by assumption) ?_
        simp only [Act.put, List.setIfInBounds_toArray, List.set_cons_zero, List.set_cons_succ]
        refine wpAnyH_take (i := 18) (oi := { dst := some 39, op := Op.call { callee := Callee.value (Operand.func 32), args := #[Operand.tmp 38], argTypes := #[44] }, type := 3, pos := "law.go:61", after := #[{ on := 17, ground := Ground.data }, { on := 16, ground := Ground.chain }, { on := 16, ground := Ground.guard }], guard := some (16, true) }) (v := undef) rfl (by kernel_rfl) (by kernel_rfl) (by kernel_rfl) (fun _ _ _ h => h) (Or.inr ⟨by rfl, rfl⟩) (by assumption) ?_
        simp only [Act.put, List.setIfInBounds_toArray, List.set_cons_zero, List.set_cons_succ]
        refine wpAnyH_take (i := 19) (oi := { dst := some 40, op := Op.fieldAddr 73 (Operand.tmp 5) 1, type := 0, pos := "law.go:61", after := #[{ on := 16, ground := Ground.guard }], guard := some (16, true) }) (v := undef) rfl (by kernel_rfl) (by kernel_rfl) (by kernel_rfl) (fun _ _ _ h => h) (Or.inr ⟨by rfl, rfl⟩) (by assumption) ?_
        simp only [Act.put, List.setIfInBounds_toArray, List.set_cons_zero, List.set_cons_succ]
        refine wpAnyH_take (i := 20) (oi := { dst := some 41, op := Op.load 3 (Operand.tmp 40), type := 3, pos := "law.go:61", after := #[{ on := 19, ground := Ground.data }, { on := 16, ground := Ground.guard }], guard := some (16, true) }) (v := undef) rfl (by kernel_rfl) (by kernel_rfl) (by kernel_rfl) (fun _ _ _ h => h) (Or.inr ⟨by rfl, rfl⟩) (by assumption) ?_
        simp only [Act.put, List.setIfInBounds_toArray, List.set_cons_zero, List.set_cons_succ]
        refine wpAnyH_take (i := 21) (oi := { dst := some 42, op := Op.binOp BinOp.neq 3 (Operand.tmp 39) (Operand.tmp 41) 3, type := 4, pos := "law.go:61", after := #[{ on := 18, ground := Ground.data }, { on := 20, ground := Ground.data }, { on := 16, ground := Ground.guard }], guard := some (16, true) }) (v := undef) rfl (by kernel_rfl) (by kernel_rfl) (by kernel_rfl) (fun _ _ _ h => h) (Or.inr ⟨by rfl, rfl⟩) (by assumption) ?_
        simp only [Act.put, List.setIfInBounds_toArray, List.set_cons_zero, List.set_cons_succ]
        refine wpAnyH_take (i := 22) (oi := { dst := some 43, op := Op.pick (Operand.tmp 37) (Operand.tmp 42) (Operand.const (Value.bool false)), type := 4, pos := "law.go:61", after := #[{ on := 16, ground := Ground.data }, { on := 21, ground := Ground.data }, { on := 12, ground := Ground.guard }], guard := some (12, false) }) (v := ?_) rfl (by kernel_rfl) (by kernel_rfl) (by kernel_rfl) (fun _ _ _ h => h) (Or.inl ⟨by rfl, ?_⟩) (by assumption) ?_
        rotate_left
        · intro w hSw; (try dsimp only at hSw); go_simp; try with_reducible rfl
        simp only [Act.put, List.setIfInBounds_toArray, List.set_cons_zero, List.set_cons_succ]
        refine wpAnyH_take (i := 23) (oi := { dst := some 44, op := Op.pick (Operand.tmp 33) (Operand.const (Value.bool true)) (Operand.tmp 43), type := 4, pos := "law.go:61", after := #[{ on := 12, ground := Ground.data }, { on := 22, ground := Ground.data }], guard := none }) (v := ?_) rfl (by kernel_rfl) (by kernel_rfl) (by kernel_rfl) (fun _ _ _ h => h) (Or.inl ⟨by rfl, ?_⟩) (by assumption) ?_
        rotate_left
        · intro w hSw; (try dsimp only at hSw); go_simp; try with_reducible rfl
        simp only [Act.put, List.setIfInBounds_toArray, List.set_cons_zero, List.set_cons_succ]
        refine wpAnyH_done (by kernel_rfl) ?_ _
        have h2 := (show St W0 _ (Know.none.and (Know.flat RHdr (.slice q1 0 c1) 3 [])) [.raw wC #[.int .i64 0, .int .i64 0, .bool false, .string ⟨#[]⟩, .bool false, .string ⟨#[]⟩, .slice none 0 0, .int .i64 n, .int .i64 e] 73, .raw wB #[.int .i64 0, .int .i64 0, .bool false, .string ⟨#[]⟩, .bool false, .string ⟨#[]⟩, .slice q1 0 c1] 62, .inp bi ⟨s, q, e⟩] by assumption)
        go_wp2_with fail
        go_meet
        exact ⟨rfl, rfl, rfl, rfl, h2⟩
  case rest =>
    obtain ⟨rfl, rfl, rfl, rfl, h⟩ := hcut
    have H := Lib.hid h
    clear h h1
    go_wp2_with (first
      | (go_at_call 39; refine (rec_decodeZ s e ED.out.1 ED.out.2 HS.out H.out).mono ?_; rintro e wn ⟨v3, rfl, h⟩; obtain ⟨q3, c3, hv3⟩ := flat_form0 (Know.has_right (Know.has_refl _)) h; subst hv3; obtain ⟨wD, hwD⟩ : ∃ b, wn.heap.size = b := ⟨_, rfl⟩; have h := h.allocRaw #[.int .i64 0, .int .i64 0, .bool false, .string ⟨#[]⟩, .bool false, .string ⟨#[]⟩, .slice q3 0 c3] 62; rw [hwD] at h; replace H := Lib.hid h; clear h; obtain ⟨dc0, dc1, dc2, dc3, dc4, dc5, dc6, df0, df1, df2, df3, df4, df5, df6⟩ := raw7 (b := wD) (H.out); obtain ⟨cc0, cc1, cc2, cc3, cc4, cc5, cc6, cc7, cc8, cf0, cf1, cf2, cf3, cf4, cf5, cf6, cf7, cf8⟩ := raw9 (b := wC) (H.out.p1); have n1 : ¬ (wD = wC) := H.out.raw_ne; have n2 : ¬ (wC = wD) := fun e => n1 e.symm)
      | (go_at_call 41; refine (ref07_sameZ (.slice q3 0 c3) (.slice none 0 0) (Know.has_right (Know.has_refl _)) (know_nil0 _ _ _) H.out).mono ?_; rintro e wn ⟨rfl, h⟩; replace H := Lib.hid h; clear h))
    go_ret
    exact ⟨rfl, H.out.below⟩

set_option maxHeartbeats 1000000 in
set_option maxRecDepth 100000 in
theorem recordDecodes_long (s : Bs) (hs : s.length ≤ 2000) (x : RecS) (m : Nat) (hr : reRec s = .ok (x, m)) (hm : m < s.length) {W0 w : World} (h : St W0 w Know.none []) :
    Calls Try.prog 9 #[.string (bb s)] w fun en w' => en = .returned (.bool true) ∧ Below W0.heap.size W0 w' := by
  have H := Lib.hid h
  have hs2 : decide ((2000 : Int) < (s.length : Int)) = false := decide_eq_false (by omega)
  have HS := Lib.hid (show s.length ≤ 140737488355328 by omega)
  have HS1 := Lib.hid (show s.length ≤ 1000000 by omega)
  have HR := Lib.hid hr
  have EX := Lib.hid (record_of hr)
  obtain ⟨o1, o2, o3, o4, o5, o6⟩ := reRec_one hr
  have ED := Lib.hid (dec_long2 hr hm)
  have m0 : decide ((m : Int) < (s.length : Int)) = true := decide_eq_true (by omega)
  have m1 : m < s.length := hm
  clear o1 o2 o3 o4 o5 o6 hm
  have HL := Lib.hid (show x.hdrs.length ≤ 9223372036854775807 by have := hsum_le x.hdrs; have := (reRec_one HR.out).2.2.2.1; unfold RecS.sum at this; omega)
  clear h hs hr
  go_enter Try.func9, Try.ntmps9
  go_wp2_with (first
    | (go_at_call 34; refine (speaks07 H.out).mono ?_; rintro e wn ⟨rfl, h⟩; replace H := Lib.hid h; clear h)
    | (go_at_call 25; refine (s_new s HS.out (by first | (first | with_reducible exact H.out | with_reducible exact H.out.p1 | with_reducible exact H.out.p2 | with_reducible exact H.out.p3 | with_reducible exact H.out.p4 | with_reducible exact H.out.p5) | ((repeat first | with_reducible refine St.drewN ?_ _ | with_reducible refine St.drew ?_ | with_reducible refine St.alloc ?_ _); first | with_reducible exact H.out | with_reducible exact H.out.p1 | with_reducible exact H.out.p2 | with_reducible exact H.out.p3 | with_reducible exact H.out.p4 | with_reducible exact H.out.p5))).mono ?_; rintro e wn ⟨bi, rfl, h⟩; replace H := Lib.hid h; clear h)
    | (go_at_call 43; refine (rec_readQ _ _ x ⟨s, m, 0⟩ EX.out H.out).mono ?_; rintro e wn ⟨v1, rfl, h⟩; obtain ⟨q1, c1, hv1⟩ := flat_form (Know.has_right (Know.has_refl _)) h; subst hv1; obtain ⟨wB, hwB⟩ : ∃ b, wn.heap.size = b := ⟨_, rfl⟩; have h := h.allocRaw #[.int .i64 x.time, .int .i64 x.off, .bool x.key.null, .string (bb x.key.data), .bool x.val.null, .string (bb x.val.data), (.slice q1 x.hdrs.length c1)] 62; rw [hwB] at h; replace H := Lib.hid h; clear h)
    | (go_at_call 44; refine (ref07_readO s x m HR.out HS1.out H.out).mono ?_; rintro e wn ⟨v2, rfl, h⟩; obtain ⟨q2, c2, hv2⟩ := flat_form (Know.has_right (Know.has_refl _)) h; subst hv2; obtain ⟨wC, hwC⟩ : ∃ b, wn.heap.size = b := ⟨_, rfl⟩; have h := h.allocRaw #[.int .i64 x.time, .int .i64 x.off, .bool x.key.null, .string (bb x.key.data), .bool x.val.null, .string (bb x.val.data), (.slice q2 x.hdrs.length c2), .int .i64 m, .int .i64 0] 73; rw [hwC] at h; replace H := Lib.hid h; clear h))
  have h1 := H.out.drew
  clear H
  go_cut [3, 4, 5, 44] (fun s3 s4 s5 s44 wx => s3 = inPtr bi ∧ s4 = .pointer (some ⟨wB, 0, none⟩) ∧ s5 = .pointer (some ⟨wC, 0, none⟩) ∧ s44 = .bool false ∧ St W0 wx ((Know.none.and (Know.flat RHdr (.slice q1 x.hdrs.length c1) 3 x.hdrs)).and (Know.flat RHdr (.slice q2 x.hdrs.length c2) 3 x.hdrs)) [.raw wC #[.int .i64 x.time, .int .i64 x.off, .bool x.key.null, .string (bb x.key.data), .bool x.val.null, .string (bb x.val.data), (.slice q2 x.hdrs.length c2), .int .i64 m, .int .i64 0] 73, .raw wB #[.int .i64 x.time, .int .i64 x.off, .bool x.key.null, .string (bb x.key.data), .bool x.val.null, .string (bb x.val.data), (.slice q1 x.hdrs.length c1)] 62, .inp bi ⟨s, m, 0⟩])
  case first =>
    try (go_region_held3 (fun w' => w'.cell? ⟨wC, 0, none⟩ = some (.int .i64 x.time) ∧ w'.cell? ⟨wC, 1, none⟩ = some (.int .i64 x.off) ∧ w'.cell? ⟨wC, 2, none⟩ = some (.bool x.key.null) ∧ w'.cell? ⟨wC, 3, none⟩ = some (.string (bb x.key.data)) ∧ w'.cell? ⟨wC, 4, none⟩ = some (.bool x.val.null) ∧ w'.cell? ⟨wC, 5, none⟩ = some (.string (bb x.val.data)) ∧ w'.cell? ⟨wC, 6, none⟩ = some ((.slice q2 x.hdrs.length c2)) ∧ w'.cell? ⟨wC, 7, none⟩ = some (.int .i64 m) ∧ w'.cell? ⟨wC, 8, none⟩ = some (.int .i64 0) ∧ w'.cell? ⟨wB, 0, none⟩ = some (.int .i64 x.time) ∧ w'.cell? ⟨wB, 1, none⟩ = some (.int .i64 x.off) ∧ w'.cell? ⟨wB, 2, none⟩ = some (.bool x.key.null) ∧ w'.cell? ⟨wB, 3, none⟩ = some (.string (bb x.key.data)) ∧ w'.cell? ⟨wB, 4, none⟩ = some (.bool x.val.null) ∧ w'.cell? ⟨wB, 5, none⟩ = some (.string (bb x.val.data)) ∧ w'.cell? ⟨wB, 6, none⟩ = some ((.slice q1 x.hdrs.length c1)))
      (exact raw97 (by assumption))
      (first
        | (go_at_call 31; with_reducible refine (s_err _ ⟨s, m, 0⟩ (St.p2 (by assumption))).mono ?_; rintro e wq ⟨rfl, h⟩; replace h := h.p2.p2)
        | (go_at_call 41; with_reducible refine (ref07_sameV x x (.slice q1 x.hdrs.length c1) (.slice q2 x.hdrs.length c2) true (decide_eq_true rfl) HL.out HL.out (Know.has_left (Know.has_right (Know.has_refl _))) (Know.has_right (Know.has_refl _)) (by assumption)).mono ?_; rintro e wq ⟨rfl, h⟩)
        | (go_at_call 32; with_reducible refine (s_at _ ⟨s, m, 0⟩ (St.p2 (by assumption))).mono ?_; rintro e wq ⟨rfl, h⟩; replace h := h.p2.p2)))
    all_goals
      have h2 := (show St W0 _ ((Know.none.and (Know.flat RHdr (.slice q1 x.hdrs.length c1) 3 x.hdrs)).and (Know.flat RHdr (.slice q2 x.hdrs.length c2) 3 x.hdrs)) [.raw wC #[.int .i64 x.time, .int .i64 x.off, .bool x.key.null, .string (bb x.key.data), .bool x.val.null, .string (bb x.val.data), (.slice q2 x.hdrs.length c2), .int .i64 m, .int .i64 0] 73, .raw wB #[.int .i64 x.time, .int .i64 x.off, .bool x.key.null, .string (bb x.key.data), .bool x.val.null, .string (bb x.val.data), (.slice q1 x.hdrs.length c1)] 62, .inp bi ⟨s, m, 0⟩] by assumption)
      go_wp2_with fail
      go_meet
      exact ⟨rfl, rfl, rfl, rfl, h2⟩
  case rest =>
    obtain ⟨rfl, rfl, rfl, rfl, h⟩ := hcut
    have H := Lib.hid h
    clear h h1
    go_wp2_with (first
      | (go_at_call 39; refine (rec_decodeZ s 2 ED.out.1 ED.out.2 HS.out H.out).mono ?_; rintro e wn ⟨v3, rfl, h⟩; obtain ⟨q3, c3, hv3⟩ := flat_form0 (Know.has_right (Know.has_refl _)) h; subst hv3; obtain ⟨wD, hwD⟩ : ∃ b, wn.heap.size = b := ⟨_, rfl⟩; have h := h.allocRaw #[.int .i64 0, .int .i64 0, .bool false, .string ⟨#[]⟩, .bool false, .string ⟨#[]⟩, .slice q3 0 c3] 62; rw [hwD] at h; replace H := Lib.hid h; clear h; obtain ⟨dc0, dc1, dc2, dc3, dc4, dc5, dc6, df0, df1, df2, df3, df4, df5, df6⟩ := raw7 (b := wD) (H.out); obtain ⟨cc0, cc1, cc2, cc3, cc4, cc5, cc6, cc7, cc8, cf0, cf1, cf2, cf3, cf4, cf5, cf6, cf7, cf8⟩ := raw9 (b := wC) (H.out.p1); have n1 : ¬ (wD = wC) := H.out.raw_ne; have n2 : ¬ (wC = wD) := fun e => n1 e.symm)
      | (go_at_call 41; refine (ref07_sameZ (.slice q3 0 c3) (.slice none 0 0) (Know.has_right (Know.has_refl _)) (know_nil0 _ _ _) (H.out.p1.rawSet 8 _)).mono ?_; rintro e wn ⟨rfl, h⟩; replace H := Lib.hid h; clear h))
    go_ret
    exact ⟨rfl, H.out.below⟩

set_option maxHeartbeats 1000000 in
set_option maxRecDepth 100000 in
theorem recordDecodes_all (s : Bs) (hs : s.length ≤ 2000) (x : RecS) (m : Nat) (hr : reRec s = .ok (x, m)) (hm : m = s.length) {W0 w : World} (h : St W0 w Know.none []) :
    Calls Try.prog 9 #[.string (bb s)] w fun en w' => en = .returned (.bool true) ∧ Below W0.heap.size W0 w' := by
  have H := Lib.hid h
  have hs2 : decide ((2000 : Int) < (s.length : Int)) = false := decide_eq_false (by omega)
  have HS := Lib.hid (show s.length ≤ 140737488355328 by omega)
  have HS1 := Lib.hid (show s.length ≤ 1000000 by omega)
  have HR := Lib.hid hr
  have EX := Lib.hid (record_of hr)
  obtain ⟨o1, o2, o3, o4, o5, o6⟩ := reRec_one hr
  have ED := Lib.hid (dec_all hr hm)
  have m0 : decide ((m : Int) < (s.length : Int)) = false := decide_eq_false (by omega)
  have m1 : ¬ m < s.length := by omega
  have HE := Lib.hid (show encOk x = s by unfold encOk; rw [if_pos o2, o1, hm, List.take_length])
  have HO := Lib.hid o2
  have HX := Lib.hid o3
  have HU := Lib.hid (show x.sum ≤ 1000000 by omega)
  clear o1 o2 o3 o4 o5 o6 hm
  have HL := Lib.hid (show x.hdrs.length ≤ 9223372036854775807 by have := hsum_le x.hdrs; have := (reRec_one HR.out).2.2.2.1; unfold RecS.sum at this; omega)
  clear h hs hr
  go_enter Try.func9, Try.ntmps9
  go_wp2_with (first
    | (go_at_call 34; refine (speaks07 H.out).mono ?_; rintro e wn ⟨rfl, h⟩; replace H := Lib.hid h; clear h)
    | (go_at_call 25; refine (s_new s HS.out (by first | (first | with_reducible exact H.out | with_reducible exact H.out.p1 | with_reducible exact H.out.p2 | with_reducible exact H.out.p3 | with_reducible exact H.out.p4 | with_reducible exact H.out.p5) | ((repeat first | with_reducible refine St.drewN ?_ _ | with_reducible refine St.drew ?_ | with_reducible refine St.alloc ?_ _); first | with_reducible exact H.out | with_reducible exact H.out.p1 | with_reducible exact H.out.p2 | with_reducible exact H.out.p3 | with_reducible exact H.out.p4 | with_reducible exact H.out.p5))).mono ?_; rintro e wn ⟨bi, rfl, h⟩; replace H := Lib.hid h; clear h)
    | (go_at_call 43; refine (rec_readQ _ _ x ⟨s, m, 0⟩ EX.out H.out).mono ?_; rintro e wn ⟨v1, rfl, h⟩; obtain ⟨q1, c1, hv1⟩ := flat_form (Know.has_right (Know.has_refl _)) h; subst hv1; obtain ⟨wB, hwB⟩ : ∃ b, wn.heap.size = b := ⟨_, rfl⟩; have h := h.allocRaw #[.int .i64 x.time, .int .i64 x.off, .bool x.key.null, .string (bb x.key.data), .bool x.val.null, .string (bb x.val.data), (.slice q1 x.hdrs.length c1)] 62; rw [hwB] at h; replace H := Lib.hid h; clear h)
    | (go_at_call 44; refine (ref07_readO s x m HR.out HS1.out H.out).mono ?_; rintro e wn ⟨v2, rfl, h⟩; obtain ⟨q2, c2, hv2⟩ := flat_form (Know.has_right (Know.has_refl _)) h; subst hv2; obtain ⟨wC, hwC⟩ : ∃ b, wn.heap.size = b := ⟨_, rfl⟩; have h := h.allocRaw #[.int .i64 x.time, .int .i64 x.off, .bool x.key.null, .string (bb x.key.data), .bool x.val.null, .string (bb x.val.data), (.slice q2 x.hdrs.length c2), .int .i64 m, .int .i64 0] 73; rw [hwC] at h; replace H := Lib.hid h; clear h))
  have h1 := H.out.drew
  clear H
  go_cut [3, 4, 5, 44] (fun s3 s4 s5 s44 wx => s3 = inPtr bi ∧ s4 = .pointer (some ⟨wB, 0, none⟩) ∧ s5 = .pointer (some ⟨wC, 0, none⟩) ∧ s44 = .bool false ∧ St W0 wx ((Know.none.and (Know.flat RHdr (.slice q1 x.hdrs.length c1) 3 x.hdrs)).and (Know.flat RHdr (.slice q2 x.hdrs.length c2) 3 x.hdrs)) [.raw wC #[.int .i64 x.time, .int .i64 x.off, .bool x.key.null, .string (bb x.key.data), .bool x.val.null, .string (bb x.val.data), (.slice q2 x.hdrs.length c2), .int .i64 m, .int .i64 0] 73, .raw wB #[.int .i64 x.time, .int .i64 x.off, .bool x.key.null, .string (bb x.key.data), .bool x.val.null, .string (bb x.val.data), (.slice q1 x.hdrs.length c1)] 62, .inp bi ⟨s, m, 0⟩])
  case first =>
    try (go_region_held3 (fun w' => w'.cell? ⟨wC, 0, none⟩ = some (.int .i64 x.time) ∧ w'.cell? ⟨wC, 1, none⟩ = some (.int .i64 x.off) ∧ w'.cell? ⟨wC, 2, none⟩ = some (.bool x.key.null) ∧ w'.cell? ⟨wC, 3, none⟩ = some (.string (bb x.key.data)) ∧ w'.cell? ⟨wC, 4, none⟩ = some (.bool x.val.null) ∧ w'.cell? ⟨wC, 5, none⟩ = some (.string (bb x.val.data)) ∧ w'.cell? ⟨wC, 6, none⟩ = some ((.slice q2 x.hdrs.length c2)) ∧ w'.cell? ⟨wC, 7, none⟩ = some (.int .i64 m) ∧ w'.cell? ⟨wC, 8, none⟩ = some (.int .i64 0) ∧ w'.cell? ⟨wB, 0, none⟩ = some (.int .i64 x.time) ∧ w'.cell? ⟨wB, 1, none⟩ = some (.int .i64 x.off) ∧ w'.cell? ⟨wB, 2, none⟩ = some (.bool x.key.null) ∧ w'.cell? ⟨wB, 3, none⟩ = some (.string (bb x.key.data)) ∧ w'.cell? ⟨wB, 4, none⟩ = some (.bool x.val.null) ∧ w'.cell? ⟨wB, 5, none⟩ = some (.string (bb x.val.data)) ∧ w'.cell? ⟨wB, 6, none⟩ = some ((.slice q1 x.hdrs.length c1)))
      (exact raw97 (by assumption))
      (first
        | (go_at_call 31; with_reducible refine (s_err _ ⟨s, m, 0⟩ (St.p2 (by assumption))).mono ?_; rintro e wq ⟨rfl, h⟩; replace h := h.p2.p2)
        | (go_at_call 41; with_reducible refine (ref07_sameV x x (.slice q1 x.hdrs.length c1) (.slice q2 x.hdrs.length c2) true (decide_eq_true rfl) HL.out HL.out (Know.has_left (Know.has_right (Know.has_refl _))) (Know.has_right (Know.has_refl _)) (by assumption)).mono ?_; rintro e wq ⟨rfl, h⟩)
        | (go_at_call 32; with_reducible refine (s_at _ ⟨s, m, 0⟩ (St.p2 (by assumption))).mono ?_; rintro e wq ⟨rfl, h⟩; replace h := h.p2.p2)))
    all_goals
      have h2 := (show St W0 _ ((Know.none.and (Know.flat RHdr (.slice q1 x.hdrs.length c1) 3 x.hdrs)).and (Know.flat RHdr (.slice q2 x.hdrs.length c2) 3 x.hdrs)) [.raw wC #[.int .i64 x.time, .int .i64 x.off, .bool x.key.null, .string (bb x.key.data), .bool x.val.null, .string (bb x.val.data), (.slice q2 x.hdrs.length c2), .int .i64 m, .int .i64 0] 73, .raw wB #[.int .i64 x.time, .int .i64 x.off, .bool x.key.null, .string (bb x.key.data), .bool x.val.null, .string (bb x.val.data), (.slice q1 x.hdrs.length c1)] 62, .inp bi ⟨s, m, 0⟩] by assumption)
      go_wp2_with fail
      go_meet
      exact ⟨rfl, rfl, rfl, rfl, h2⟩
  case rest =>
    obtain ⟨rfl, rfl, rfl, rfl, h⟩ := hcut
    have H := Lib.hid h
    clear h h1
    go_wp2_with (first
      | (go_at_call 39; refine (rec_decode s x 0 ED.out.1 ED.out.2 HS.out H.out).mono ?_; rintro e wn ⟨v3, rfl, h⟩; obtain ⟨q3, c3, hv3⟩ := flat_form (Know.has_right (Know.has_refl _)) h; subst hv3; obtain ⟨wD, hwD⟩ : ∃ b, wn.heap.size = b := ⟨_, rfl⟩; have h := h.allocRaw #[.int .i64 x.time, .int .i64 x.off, .bool x.key.null, .string (bb x.key.data), .bool x.val.null, .string (bb x.val.data), (.slice q3 x.hdrs.length c3)] 62; rw [hwD] at h; replace H := Lib.hid h; clear h; obtain ⟨dc0, dc1, dc2, dc3, dc4, dc5, dc6, df0, df1, df2, df3, df4, df5, df6⟩ := raw7 (b := wD) (H.out); obtain ⟨cc0, cc1, cc2, cc3, cc4, cc5, cc6, cc7, cc8, cf0, cf1, cf2, cf3, cf4, cf5, cf6, cf7, cf8⟩ := raw9 (b := wC) (H.out.p1); have n1 : ¬ (wD = wC) := H.out.raw_ne; have n2 : ¬ (wC = wD) := fun e => n1 e.symm)
      | (go_at_call 36; refine (rec_encode x (.slice q3 x.hdrs.length c3) 0 s HX.out HU.out HO.out HE.out (Know.has_right (Know.has_refl _)) H.out).mono ?_; rintro e wn ⟨rfl, h⟩; replace H := Lib.hid h; clear h))
    go_ret
    exact ⟨rfl, H.out.below⟩

set_option maxHeartbeats 1000000 in
set_option maxRecDepth 100000 in
theorem recordDecodes_big (s : Bs) (hs : 2000 < s.length) {W0 w : World} (h : St W0 w Know.none []) :
    Calls Try.prog 9 #[.string (bb s)] w fun en w' => en = .returned (.bool true) ∧ Below W0.heap.size W0 w' := by
  have H := Lib.hid h
  have hs2 : decide ((2000 : Int) < (s.length : Int)) = true := decide_eq_true (by omega)
  clear h hs
  go_enter Try.func9, Try.ntmps9
  go_wp2_with (go_at_call 34; refine (speaks07 H.out).mono ?_; rintro e wn ⟨rfl, h⟩; replace H := Lib.hid h; clear h)
  go_ret
  exact ⟨rfl, H.out.below⟩
theorem recordDecodes_any (s : Bs) (w : World) (_ : s.length ≤ maxLen) :
    Calls Try.prog 9 #[.string (bb s)] w fun en w' => en = .returned (.bool true) ∧ Below w.heap.size w w' := by
  have h : St w w Know.none [] := St.start trivial
  by_cases hs : 2000 < s.length
  · exact recordDecodes_big s hs h
  cases hr : reRec s with
  | error e =>
    obtain ⟨q, hq⟩ := record_ofE hr
    exact recordDecodes_err s (by omega) e q hr hq (reRec_nz hr) h
  | ok x =>
    obtain ⟨x, m⟩ := x
    obtain ⟨_, _, _, _, _, o6⟩ := reRec_one hr
    by_cases hm : m < s.length
    · exact recordDecodes_long s (by omega) x m hr hm h
    · exact recordDecodes_all s (by omega) x m hr (by omega) h

end Go.Proofs.Ytkenneeejdngaaa
