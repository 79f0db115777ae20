/- Layer 4, walked: BlobReads, one of four. -/
import Derived.Test.YtbcfnfcmghbelaaL04R5
namespace Go.Proofs.Ytbcfnfcmghbelaa
open Go.RowKit

set_option maxHeartbeats 2000000 in
set_option maxRecDepth 100000 in
theorem blobReads_01 (s : Bs) (k : Nat) (z : Int) (hs : s.length ≤ 2000) (hz : wrap64 (1 + (wrap64 z).tmod 8) = k) (h1 : 1 ≤ k) (h8 : k ≤ 8)
    (n0 n1 n2 : Bool) (d0 d1 d2 : Bs) (m0 m1 m2 : Nat) (e0 e1 e2 : Int) (j0 j1 jt jn : InS)
    (f0 : (⟨s, 0, 0⟩ : InS).fixed k = (⟨n0, d0⟩, j0)) (g0 : gotV (refixed k s) = .agg #[.bool n0, .string (bb d0), .int .i64 m0, .int .i64 e0]) (x0 : j0.err = e0) (y0 : e0 = 0 → j0.pos = m0)
    (f1 : (⟨s, 0, 0⟩ : InS).varied = (⟨n1, d1⟩, j1)) (g1 : gotV (revaried s) = .agg #[.bool n1, .string (bb d1), .int .i64 m1, .int .i64 e1]) (x1 : j1.err = e1) (y1 : e1 = 0 → j1.pos = m1)
    (g2 : gotV (refixed 2 s) = .agg #[.bool n2, .string (bb d2), .int .i64 m2, .int .i64 e2])
    (ft : (⟨s, 0, 0⟩ : InS).text = (d2, jt)) (xt : ErrOf e2 n2 jt.err) (yt : jt.err = 0 → jt.pos = m2)
    (fn : (⟨s, 0, 0⟩ : InS).name = (d1, jn)) (xn : ErrOf e1 n1 jn.err) (yn : jn.err = 0 → jn.pos = m1)
    (t0 : e0 = 0) (t1 : e1 ≠ 0) {W0 w : World} (h : St W0 w Know.none []) :
    Calls Try.prog 10 #[.string (bb s), .int .u8 z] w fun en w' => en = .returned (.bool true) ∧ Below W0.heap.size W0 w' := by
  have H := Lib.hid h
  subst t0
  have te1 : (e1 == 0) = false := by simpa using t1
  have hs2 : decide ((2000 : Int) < (s.length : Int)) = false := decide_eq_false (by omega)
  have HS := Lib.hid (show s.length ≤ 140737488355328 by omega)
  have HK := Lib.hid h8
  have F0 := Lib.hid f0
  have F1 := Lib.hid f1
  have G0 := Lib.hid g0
  have G1 := Lib.hid g1
  have G2 := Lib.hid g2
  have X0 := Lib.hid x0
  have X1 := Lib.hid x1
  have FT := Lib.hid ft
  have XT := Lib.hid xt
  have YT := Lib.hid yt
  have FN := Lib.hid fn
  have XN := Lib.hid xn
  have YN := Lib.hid yn
  have Y0 := Lib.hid (y0 rfl)
  have Y1 := Lib.hid (True.intro)
  skip
  clear t1
  have HZ := Lib.hid hz
  clear h hs hz f0 f1 g0 g1 g2 x0 x1 ft xt yt fn xn yn y0 y1 h8 h1
  go_enter Try.func10, Try.ntmps10
  go_wp2_with (first
    | (go_at_call 47; refine (speaks04  (by first | (first | with_reducible exact H.out | with_reducible exact H.out.p1 | with_reducible exact H.out.p2 | with_reducible exact H.out.p3 | with_reducible exact H.out.p4 | with_reducible exact H.out.p5) | ((repeat first | with_reducible refine St.drewN ?_ _ | with_reducible refine St.drew ?_ | with_reducible refine St.alloc ?_ _); first | with_reducible exact H.out | with_reducible exact H.out.p1 | with_reducible exact H.out.p2 | with_reducible exact H.out.p3 | with_reducible exact H.out.p4 | with_reducible exact H.out.p5))).mono ?_; rintro e wn ⟨rfl, h⟩; replace H := Lib.hid h; clear h)
    | (go_at_call 15; refine (s_new s HS.out (by first | (first | with_reducible exact H.out | with_reducible exact H.out.p1 | with_reducible exact H.out.p2 | with_reducible exact H.out.p3 | with_reducible exact H.out.p4 | with_reducible exact H.out.p5) | ((repeat first | with_reducible refine St.drewN ?_ _ | with_reducible refine St.drew ?_ | with_reducible refine St.alloc ?_ _); first | with_reducible exact H.out | with_reducible exact H.out.p1 | with_reducible exact H.out.p2 | with_reducible exact H.out.p3 | with_reducible exact H.out.p4 | with_reducible exact H.out.p5))).mono ?_; rintro e wn ⟨bi, rfl, h⟩; replace H := Lib.hid h; clear h)
    | (go_at_call 58; (with_reducible refine (ref04_readFixedQ s k _ _ HZ.out HS.out HK.out G0.out (by first | (first | with_reducible exact H.out | with_reducible exact H.out.p1 | with_reducible exact H.out.p2 | with_reducible exact H.out.p3 | with_reducible exact H.out.p4 | with_reducible exact H.out.p5) | ((repeat first | with_reducible refine St.drewN ?_ _ | with_reducible refine St.drew ?_ | with_reducible refine St.alloc ?_ _); first | with_reducible exact H.out | with_reducible exact H.out.p1 | with_reducible exact H.out.p2 | with_reducible exact H.out.p3 | with_reducible exact H.out.p4 | with_reducible exact H.out.p5))).mono ?_); rintro e wn ⟨rfl, h⟩; replace H := Lib.hid h; clear h)
    | (go_at_call 59; (with_reducible refine (ref04_readVariedQ s _ HS.out G1.out (by first | (first | with_reducible exact H.out | with_reducible exact H.out.p1 | with_reducible exact H.out.p2 | with_reducible exact H.out.p3 | with_reducible exact H.out.p4 | with_reducible exact H.out.p5) | ((repeat first | with_reducible refine St.drewN ?_ _ | with_reducible refine St.drew ?_ | with_reducible refine St.alloc ?_ _); first | with_reducible exact H.out | with_reducible exact H.out.p1 | with_reducible exact H.out.p2 | with_reducible exact H.out.p3 | with_reducible exact H.out.p4 | with_reducible exact H.out.p5))).mono ?_); rintro e wn ⟨rfl, h⟩; replace H := Lib.hid h; clear h))
  have h1 := ((((H.out.allocRaw #[.bool n0, .string (bb d0), .int .i64 m0, .int .i64 0] 75).p4).allocRaw #[.bool n1, .string (bb d1), .int .i64 m1, .int .i64 e1] 75).p1).drew
  rw [World.size_alloc] at h1
  clear H
  go_cut [7, 8, 9, 11, 60] (fun s7 s8 s9 s11 s60 wx => ∃ b c d y : Nat, s7 = inPtr b ∧ s8 = inPtr c ∧ s9 = inPtr d ∧ s11 = .pointer (some ⟨y, 0, none⟩) ∧ s60 = .bool false ∧ St W0 wx Know.none [.inp b ⟨s, 0, 0⟩, .raw y #[.bool n1, .string (bb d1), .int .i64 m1, .int .i64 e1] 75, .inp c ⟨s, 0, 0⟩, .inp d ⟨s, 0, 0⟩])
  case first =>
    refine wp_region_held_drew (S := fun w' => w'.cell? ⟨wn.heap.size, 0, none⟩ = some (.bool n0) ∧ w'.cell? ⟨wn.heap.size, 1, none⟩ = some (.string (bb d0)) ∧ w'.cell? ⟨wn.heap.size, 2, none⟩ = some (.int .i64 m0) ∧ w'.cell? ⟨wn.heap.size, 3, none⟩ = some (.int .i64 0)) (by kernel_rfl) (raw_four3 h1) (fun hHeld => ?_)
    have hs := h1
    clear h1
    refine wpAnyH_take (i := 0) (oi := { dst := some 36, op := Op.move (Operand.tmp 6), type := 24, pos := "law.go:71", after := #[], guard := none }) (v := ?_) rfl (by kernel_rfl) (by kernel_rfl) (by kernel_rfl) (fun _ _ _ h => h) (Or.inl ⟨by rfl, ?_⟩) (by assumption) ?_
    rotate_left
    · intro w hSw; (try dsimp only at hSw); go_simp; try with_reducible rfl
    simp only [Act.put, List.setIfInBounds_toArray, List.set_cons_zero, List.set_cons_succ]
    refine wpAnyH_take (i := 1) (oi := { dst := some 37, op := Op.move (Operand.tmp 5), type := 3, pos := "law.go:71", after := #[], guard := none }) (v := ?_) rfl (by kernel_rfl) (by kernel_rfl) (by kernel_rfl) (fun _ _ _ h => h) (Or.inl ⟨by rfl, ?_⟩) (by assumption) ?_
    rotate_left
    · intro w hSw; (try dsimp only at hSw); go_simp; try with_reducible rfl
    simp only [Act.put, List.setIfInBounds_toArray, List.set_cons_zero, List.set_cons_succ]
    refine wpAnyH_take (i := 3) (oi := { dst := some 39, op := Op.fieldAddr 75 (Operand.tmp 10) 0, type := 0, pos := "law.go:71", after := #[], guard := none }) (v := ?_) rfl (by kernel_rfl) (by kernel_rfl) (by kernel_rfl) (fun _ _ _ h => h) (Or.inl ⟨by rfl, ?_⟩) (by assumption) ?_
    rotate_left
    · intro w hSw; (try dsimp only at hSw); go_simp; try with_reducible rfl
    simp only [Act.put, List.setIfInBounds_toArray, List.set_cons_zero, List.set_cons_succ]
    refine wpAnyH_take (i := 4) (oi := { dst := some 40, op := Op.load 63 (Operand.tmp 39), type := 63, pos := "law.go:71", after := #[{ on := 3, ground := Ground.data }], guard := none }) (v := ?_) rfl (by kernel_rfl) (by kernel_rfl) (by kernel_rfl) (fun _ _ _ h => h) (Or.inl ⟨by rfl, ?_⟩) (by assumption) ?_
    rotate_left
    · intro w hSw; (try dsimp only at hSw); go_simp; try with_reducible rfl
    simp only [Act.put, List.setIfInBounds_toArray, List.set_cons_zero, List.set_cons_succ]
    refine wpAnyH_ready (rs := [2]) (by kernel_rfl) (by simp) (AllReadyH.cons (o := { dst := some 38, op := Op.call { callee := Callee.value (Operand.func 60), args := #[Operand.tmp 36, Operand.tmp 37], argTypes := #[24, 3] }, type := 63, pos := "law.go:71", after := #[{ on := 0, ground := Ground.data }, { on := 1, ground := Ground.data }], guard := none }) rfl (fun KK hK => ?_) AllReadyH.nil)
    · go_simp
      go_at_call 60
      with_reducible refine (blob_fixedQ _ _ k _ _ _ _ HZ.out F0.out hs).mono ?_
      rintro e wq ⟨rfl, hs⟩
      refine hK.out _ _ (raw_four3 hs) (fun hHeld => ?_)
      clear hK KK
      try simp only [Act.put, List.setIfInBounds_toArray, List.set_cons_zero, List.set_cons_succ]
      refine wpAnyH_take (i := 5) (oi := { dst := some 41, op := Op.binOp BinOp.neq 63 (Operand.tmp 38) (Operand.tmp 40) 63, type := 4, pos := "law.go:71", after := #[{ on := 2, ground := Ground.data }, { on := 4, ground := Ground.data }], guard := none }) (v := ?_) rfl (by kernel_rfl) (by kernel_rfl) (by kernel_rfl) (fun _ _ _ h => h) (Or.inl ⟨by rfl, ?_⟩) (by assumption) ?_
      rotate_left
      · intro w hSw; (try dsimp only at hSw); go_simp; try with_reducible rfl
      simp only [Act.put, List.setIfInBounds_toArray, List.set_cons_zero, List.set_cons_succ]
      refine wpAnyH_take (i := 6) (oi := { dst := some 42, op := Op.move (Operand.tmp 41), type := 4, pos := "law.go:71", after := #[{ on := 5, ground := Ground.data }, { on := 2, ground := Ground.chain }], guard := none }) (v := ?_) rfl (by kernel_rfl) (by kernel_rfl) (by kernel_rfl) (fun _ _ _ h => h) (Or.inl ⟨by rfl, ?_⟩) (by assumption) ?_
      rotate_left
      · intro w hSw; (try dsimp only at hSw); go_simp; try with_reducible rfl
      simp only [Act.put, List.setIfInBounds_toArray, List.set_cons_zero, List.set_cons_succ]
      refine wpAnyH_take (i := 7) (oi := { dst := some 43, op := Op.move (Operand.tmp 6), type := 24, pos := "law.go:71", after := #[{ on := 6, ground := Ground.guard }], guard := some (6, false) }) (v := ?_) rfl (by kernel_rfl) (by kernel_rfl) (by kernel_rfl) (fun _ _ _ h => h) (Or.inl ⟨by rfl, ?_⟩) (by assumption) ?_
      rotate_left
      · intro w hSw; (try dsimp only at hSw); go_simp; try with_reducible rfl
      simp only [Act.put, List.setIfInBounds_toArray, List.set_cons_zero, List.set_cons_succ]
      refine wpAnyH_take (i := 9) (oi := { dst := some 45, op := Op.fieldAddr 75 (Operand.tmp 10) 2, type := 0, pos := "law.go:71", after := #[{ on := 6, ground := Ground.guard }], guard := some (6, false) }) (v := ?_) rfl (by kernel_rfl) (by kernel_rfl) (by kernel_rfl) (fun _ _ _ h => h) (Or.inl ⟨by rfl, ?_⟩) (by assumption) ?_
      rotate_left
      · intro w hSw; (try dsimp only at hSw); go_simp; try with_reducible rfl
      simp only [Act.put, List.setIfInBounds_toArray, List.set_cons_zero, List.set_cons_succ]
      refine wpAnyH_take (i := 10) (oi := { dst := some 46, op := Op.load 3 (Operand.tmp 45), type := 3, pos := "law.go:71", after := #[{ on := 9, ground := Ground.data }, { on := 6, ground := Ground.guard }], guard := some (6, false) }) (v := ?_) rfl (by kernel_rfl) (by kernel_rfl) (by kernel_rfl) (fun _ _ _ h => h) (Or.inl ⟨by rfl, ?_⟩) (by assumption) ?_
      rotate_left
      · intro w hSw; (try dsimp only at hSw); go_simp; try with_reducible rfl
      simp only [Act.put, List.setIfInBounds_toArray, List.set_cons_zero, List.set_cons_succ]
      refine wpAnyH_ready (rs := [8]) (by kernel_rfl) (by simp) (AllReadyH.cons (o := { dst := some 44, op := Op.call { callee := Callee.value (Operand.func 23), args := #[Operand.tmp 43], argTypes := #[24] }, type := 33, pos := "law.go:71", after := #[{ on := 7, ground := Ground.data }, { on := 6, ground := Ground.chain }, { on := 6, ground := Ground.guard }], guard := some (6, false) }) rfl (fun KK hK => ?_) AllReadyH.nil)
      · go_simp
        go_at_call 23
        with_reducible refine (s_err _ j0 hs).mono ?_
        rw [X0.out]
        rintro e wq ⟨rfl, hs⟩
        refine hK.out _ _ (raw_four3 hs) (fun hHeld => ?_)
        clear hK KK
        try simp only [Act.put, List.setIfInBounds_toArray, List.set_cons_zero, List.set_cons_succ]
        refine wpAnyH_take (i := 11) (oi := { dst := some 47, op := Op.binOp BinOp.neq 3 (Operand.tmp 44) (Operand.tmp 46) 3, type := 4, pos := "law.go:71", after := #[{ on := 8, ground := Ground.data }, { on := 10, ground := Ground.data }, { on := 6, ground := Ground.guard }], guard := some (6, false) }) (v := ?_) rfl (by kernel_rfl) (by kernel_rfl) (by kernel_rfl) (fun _ _ _ h => h) (Or.inl ⟨by rfl, ?_⟩) (by assumption) ?_
        rotate_left
        · intro w hSw; (try dsimp only at hSw); go_simp; try with_reducible rfl
        simp only [Act.put, List.setIfInBounds_toArray, List.set_cons_zero, List.set_cons_succ]
        refine wpAnyH_take (i := 12) (oi := { dst := some 48, op := Op.pick (Operand.tmp 42) (Operand.const (Value.bool true)) (Operand.tmp 47), type := 4, pos := "law.go:71", after := #[{ on := 6, ground := Ground.data }, { on := 11, ground := Ground.data }], guard := none }) (v := ?_) rfl (by kernel_rfl) (by kernel_rfl) (by kernel_rfl) (fun _ _ _ h => h) (Or.inl ⟨by rfl, ?_⟩) (by assumption) ?_
        rotate_left
        · intro w hSw; (try dsimp only at hSw); go_simp; try with_reducible rfl
        simp only [Act.put, List.setIfInBounds_toArray, List.set_cons_zero, List.set_cons_succ]
        refine wpAnyH_take (i := 13) (oi := { dst := some 49, op := Op.move (Operand.tmp 48), type := 4, pos := "law.go:71", after := #[{ on := 12, ground := Ground.data }, { on := 8, ground := Ground.chain }], guard := none }) (v := ?_) rfl (by kernel_rfl) (by kernel_rfl) (by kernel_rfl) (fun _ _ _ h => h) (Or.inl ⟨by rfl, ?_⟩) (by assumption) ?_
        rotate_left
        · intro w hSw; (try dsimp only at hSw); go_simp; try with_reducible rfl
        simp only [Act.put, List.setIfInBounds_toArray, List.set_cons_zero, List.set_cons_succ]
        refine wpAnyH_take (i := 14) (oi := { dst := some 50, op := Op.fieldAddr 75 (Operand.tmp 10) 2, type := 0, pos := "law.go:71", after := #[{ on := 13, ground := Ground.guard }], guard := some (13, false) }) (v := ?_) rfl (by kernel_rfl) (by kernel_rfl) (by kernel_rfl) (fun _ _ _ h => h) (Or.inl ⟨by rfl, ?_⟩) (by assumption) ?_
        rotate_left
        · intro w hSw; (try dsimp only at hSw); go_simp; try with_reducible rfl
        simp only [Act.put, List.setIfInBounds_toArray, List.set_cons_zero, List.set_cons_succ]
        refine wpAnyH_take (i := 15) (oi := { dst := some 51, op := Op.load 3 (Operand.tmp 50), type := 3, pos := "law.go:71", after := #[{ on := 14, ground := Ground.data }, { on := 13, ground := Ground.guard }], guard := some (13, false) }) (v := ?_) rfl (by kernel_rfl) (by kernel_rfl) (by kernel_rfl) (fun _ _ _ h => h) (Or.inl ⟨by rfl, ?_⟩) (by assumption) ?_
        rotate_left
        · intro w hSw; (try dsimp only at hSw); go_simp; try with_reducible rfl
        simp only [Act.put, List.setIfInBounds_toArray, List.set_cons_zero, List.set_cons_succ]
        refine wpAnyH_take (i := 16) (oi := { dst := some 52, op := Op.binOp BinOp.eql 3 (Operand.tmp 51) (Operand.const (Value.int IntKind.i64 0)) 3, type := 4, pos := "law.go:71", after := #[{ on := 15, ground := Ground.data }, { on := 13, ground := Ground.guard }], guard := some (13, false) }) (v := ?_) rfl (by kernel_rfl) (by kernel_rfl) (by kernel_rfl) (fun _ _ _ h => h) (Or.inl ⟨by rfl, ?_⟩) (by assumption) ?_
        rotate_left
        · intro w hSw; (try dsimp only at hSw); go_simp; try with_reducible rfl
        simp only [Act.put, List.setIfInBounds_toArray, List.set_cons_zero, List.set_cons_succ]
        refine wpAnyH_take (i := 17) (oi := { dst := some 53, op := Op.move (Operand.tmp 52), type := 4, pos := "law.go:71", after := #[{ on := 16, ground := Ground.data }, { on := 13, ground := Ground.chain }, { on := 13, ground := Ground.guard }], guard := some (13, false) }) (v := ?_) rfl (by kernel_rfl) (by kernel_rfl) (by kernel_rfl) (fun _ _ _ h => h) (Or.inl ⟨by rfl, ?_⟩) (by assumption) ?_
        rotate_left
        · intro w hSw; (try dsimp only at hSw); go_simp; try with_reducible rfl
        simp only [Act.put, List.setIfInBounds_toArray, List.set_cons_zero, List.set_cons_succ]
        refine wpAnyH_take (i := 18) (oi := { dst := some 54, op := Op.move (Operand.tmp 6), type := 24, pos := "law.go:71", after := #[{ on := 17, ground := Ground.guard }], guard := some (17, true) }) (v := ?_) rfl (by kernel_rfl) (by kernel_rfl) (by kernel_rfl) (fun _ _ _ h => h) (Or.inl ⟨by rfl, ?_⟩) (by assumption) ?_
        rotate_left
        · intro w hSw; (try dsimp only at hSw); go_simp; try with_reducible rfl
        simp only [Act.put, List.setIfInBounds_toArray, List.set_cons_zero, List.set_cons_succ]
        refine wpAnyH_take (i := 20) (oi := { dst := some 56, op := Op.fieldAddr 75 (Operand.tmp 10) 1, type := 0, pos := "law.go:71", after := #[{ on := 17, ground := Ground.guard }], guard := some (17, true) }) (v := ?_) rfl (by kernel_rfl) (by kernel_rfl) (by kernel_rfl) (fun _ _ _ h => h) (Or.inl ⟨by rfl, ?_⟩) (by assumption) ?_
        rotate_left
        · intro w hSw; (try dsimp only at hSw); go_simp; try with_reducible rfl
        simp only [Act.put, List.setIfInBounds_toArray, List.set_cons_zero, List.set_cons_succ]
        refine wpAnyH_take (i := 21) (oi := { dst := some 57, op := Op.load 3 (Operand.tmp 56), type := 3, pos := "law.go:71", after := #[{ on := 20, ground := Ground.data }, { on := 17, ground := Ground.guard }], guard := some (17, true) }) (v := ?_) rfl (by kernel_rfl) (by kernel_rfl) (by kernel_rfl) (fun _ _ _ h => h) (Or.inl ⟨by rfl, ?_⟩) (by assumption) ?_
        rotate_left
        · intro w hSw; (try dsimp only at hSw); go_simp; try with_reducible rfl
        simp only [Act.put, List.setIfInBounds_toArray, List.set_cons_zero, List.set_cons_succ]
        refine wpAnyH_ready (rs := [19]) (by kernel_rfl) (by simp) (AllReadyH.cons (o := { dst := some 55, op := Op.call { callee := Callee.value (Operand.func 22), args := #[Operand.tmp 54], argTypes := #[24] }, type := 3, pos := "law.go:71", after := #[{ on := 18, ground := Ground.data }, { on := 17, ground := Ground.chain }, { on := 17, ground := Ground.guard }], guard := some (17, true) }) rfl (fun KK hK => ?_) AllReadyH.nil)
        · go_simp
          go_at_call 22
          with_reducible refine (s_at _ j0 hs).mono ?_
          rw [Y0.out]
          rintro e wq ⟨rfl, hs⟩
          refine hK.out _ _ (raw_four3 hs) (fun hHeld => ?_)
          clear hK KK
          try simp only [Act.put, List.setIfInBounds_toArray, List.set_cons_zero, List.set_cons_succ]
          refine wpAnyH_take (i := 22) (oi := { dst := some 58, op := Op.binOp BinOp.neq 3 (Operand.tmp 55) (Operand.tmp 57) 3, type := 4, pos := "law.go:71", after := #[{ on := 19, ground := Ground.data }, { on := 21, ground := Ground.data }, { on := 17, ground := Ground.guard }], guard := some (17, true) }) (v := ?_) rfl (by kernel_rfl) (by kernel_rfl) (by kernel_rfl) (fun _ _ _ h => h) (Or.inl ⟨by rfl, ?_⟩) (by assumption) ?_
          rotate_left
          · intro w hSw; (try dsimp only at hSw); go_simp; try with_reducible rfl
          simp only [Act.put, List.setIfInBounds_toArray, List.set_cons_zero, List.set_cons_succ]
          refine wpAnyH_take (i := 23) (oi := { dst := some 59, op := Op.pick (Operand.tmp 53) (Operand.tmp 58) (Operand.const (Value.bool false)), type := 4, pos := "law.go:71", after := #[{ on := 17, ground := Ground.data }, { on := 22, ground := Ground.data }, { on := 13, ground := Ground.guard }], guard := some (13, false) }) (v := ?_) rfl (by kernel_rfl) (by kernel_rfl) (by kernel_rfl) (fun _ _ _ h => h) (Or.inl ⟨by rfl, ?_⟩) (by assumption) ?_
          rotate_left
          · intro w hSw; (try dsimp only at hSw); go_simp; try with_reducible rfl
          simp only [Act.put, List.setIfInBounds_toArray, List.set_cons_zero, List.set_cons_succ]
          refine wpAnyH_take (i := 24) (oi := { dst := some 60, op := Op.pick (Operand.tmp 49) (Operand.const (Value.bool true)) (Operand.tmp 59), type := 4, pos := "law.go:71", after := #[{ on := 13, ground := Ground.data }, { on := 23, ground := Ground.data }], guard := none }) (v := ?_) rfl (by kernel_rfl) (by kernel_rfl) (by kernel_rfl) (fun _ _ _ h => h) (Or.inl ⟨by rfl, ?_⟩) (by assumption) ?_
          rotate_left
          · intro w hSw; (try dsimp only at hSw); go_simp; try with_reducible rfl
          simp only [Act.put, List.setIfInBounds_toArray, List.set_cons_zero, List.set_cons_succ]
          refine wpAnyH_done (by kernel_rfl) ?_ _
          have h2 := hs.sel [5, 1, 3, 2]
          go_wp2_with fail
          go_meet
          exact ⟨_, _, _, _, rfl, rfl, rfl, rfl, rfl, h2⟩
  case rest =>
    obtain ⟨b, c, d, y, rfl, rfl, rfl, rfl, rfl, h⟩ := hcut
    have H := Lib.hid h
    clear h h1
    go_wp2_with fail
    have h1 := H.out.drew
    clear H
    go_cut [8, 9, 11, 84] (fun s8 s9 s11 s84 wx => ∃ c d y : Nat, s8 = inPtr c ∧ s9 = inPtr d ∧ s11 = .pointer (some ⟨y, 0, none⟩) ∧ s84 = .bool false ∧ St W0 wx Know.none [.raw y #[.bool n1, .string (bb d1), .int .i64 m1, .int .i64 e1] 75, .inp c ⟨s, 0, 0⟩, .inp d ⟨s, 0, 0⟩])
    case first =>
      refine wp_region_held_drew (S := fun w' => w'.cell? ⟨y, 0, none⟩ = some (.bool n1) ∧ w'.cell? ⟨y, 1, none⟩ = some (.string (bb d1)) ∧ w'.cell? ⟨y, 2, none⟩ = some (.int .i64 m1) ∧ w'.cell? ⟨y, 3, none⟩ = some (.int .i64 e1)) (by kernel_rfl) (raw_four h1) (fun hHeld => ?_)
      have hs := h1
      clear h1
      refine wpAnyH_take (i := 0) (oi := { dst := some 61, op := Op.move (Operand.tmp 7), type := 24, pos := "law.go:74", after := #[], guard := none }) (v := ?_) rfl (by kernel_rfl) (by kernel_rfl) (by kernel_rfl) (fun _ _ _ h => h) (Or.inl ⟨by rfl, ?_⟩) (by assumption) ?_
      rotate_left
      · intro w hSw; (try dsimp only at hSw); go_simp; try with_reducible rfl
      simp only [Act.put, List.setIfInBounds_toArray, List.set_cons_zero, List.set_cons_succ]
      refine wpAnyH_take (i := 2) (oi := { dst := some 63, op := Op.fieldAddr 75 (Operand.tmp 11) 0, type := 0, pos := "law.go:74", after := #[], guard := none }) (v := ?_) rfl (by kernel_rfl) (by kernel_rfl) (by kernel_rfl) (fun _ _ _ h => h) (Or.inl ⟨by rfl, ?_⟩) (by assumption) ?_
      rotate_left
      · intro w hSw; (try dsimp only at hSw); go_simp; try with_reducible rfl
      simp only [Act.put, List.setIfInBounds_toArray, List.set_cons_zero, List.set_cons_succ]
      refine wpAnyH_take (i := 3) (oi := { dst := some 64, op := Op.load 63 (Operand.tmp 63), type := 63, pos := "law.go:74", after := #[{ on := 2, ground := Ground.data }], guard := none }) (v := ?_) rfl (by kernel_rfl) (by kernel_rfl) (by kernel_rfl) (fun _ _ _ h => h) (Or.inl ⟨by rfl, ?_⟩) (by assumption) ?_
      rotate_left
      · intro w hSw; (try dsimp only at hSw); go_simp; try with_reducible rfl
      simp only [Act.put, List.setIfInBounds_toArray, List.set_cons_zero, List.set_cons_succ]
      refine wpAnyH_ready (rs := [1]) (by kernel_rfl) (by simp) (AllReadyH.cons (o := { dst := some 62, op := Op.call { callee := Callee.value (Operand.func 61), args := #[Operand.tmp 61], argTypes := #[24] }, type := 63, pos := "law.go:74", after := #[{ on := 0, ground := Ground.data }], guard := none }) rfl (fun KK hK => ?_) AllReadyH.nil)
      · go_simp
        go_at_call 61
        with_reducible refine (blob_variedQ _ _ _ _ _ F1.out hs).mono ?_
        rintro e wq ⟨rfl, hs⟩
        refine hK.out _ _ (raw_four hs) (fun hHeld => ?_)
        clear hK KK
        try simp only [Act.put, List.setIfInBounds_toArray, List.set_cons_zero, List.set_cons_succ]
        refine wpAnyH_take (i := 4) (oi := { dst := some 65, op := Op.binOp BinOp.neq 63 (Operand.tmp 62) (Operand.tmp 64) 63, type := 4, pos := "law.go:74", after := #[{ on := 1, ground := Ground.data }, { on := 3, ground := Ground.data }], guard := none }) (v := ?_) rfl (by kernel_rfl) (by kernel_rfl) (by kernel_rfl) (fun _ _ _ h => h) (Or.inl ⟨by rfl, ?_⟩) (by assumption) ?_
        rotate_left
        · intro w hSw; (try dsimp only at hSw); go_simp; try with_reducible rfl
        simp only [Act.put, List.setIfInBounds_toArray, List.set_cons_zero, List.set_cons_succ]
        refine wpAnyH_take (i := 5) (oi := { dst := some 66, op := Op.move (Operand.tmp 65), type := 4, pos := "law.go:74", after := #[{ on := 4, ground := Ground.data }, { on := 1, ground := Ground.chain }], guard := none }) (v := ?_) rfl (by kernel_rfl) (by kernel_rfl) (by kernel_rfl) (fun _ _ _ h => h) (Or.inl ⟨by rfl, ?_⟩) (by assumption) ?_
        rotate_left
        · intro w hSw; (try dsimp only at hSw); go_simp; try with_reducible rfl
        simp only [Act.put, List.setIfInBounds_toArray, List.set_cons_zero, List.set_cons_succ]
        refine wpAnyH_take (i := 6) (oi := { dst := some 67, op := Op.move (Operand.tmp 7), type := 24, pos := "law.go:74", after := #[{ on := 5, ground := Ground.guard }], guard := some (5, false) }) (v := ?_) rfl (by kernel_rfl) (by kernel_rfl) (by kernel_rfl) (fun _ _ _ h => h) (Or.inl ⟨by rfl, ?_⟩) (by assumption) ?_
        rotate_left
        · intro w hSw; (try dsimp only at hSw); go_simp; try with_reducible rfl
        simp only [Act.put, List.setIfInBounds_toArray, List.set_cons_zero, List.set_cons_succ]
        refine wpAnyH_take (i := 8) (oi := { dst := some 69, op := Op.fieldAddr 75 (Operand.tmp 11) 2, type := 0, pos := "law.go:74", after := #[{ on := 5, ground := Ground.guard }], guard := some (5, false) }) (v := ?_) rfl (by kernel_rfl) (by kernel_rfl) (by kernel_rfl) (fun _ _ _ h => h) (Or.inl ⟨by rfl, ?_⟩) (by assumption) ?_
        rotate_left
        · intro w hSw; (try dsimp only at hSw); go_simp; try with_reducible rfl
        simp only [Act.put, List.setIfInBounds_toArray, List.set_cons_zero, List.set_cons_succ]
        refine wpAnyH_take (i := 9) (oi := { dst := some 70, op := Op.load 3 (Operand.tmp 69), type := 3, pos := "law.go:74", after := #[{ on := 8, ground := Ground.data }, { on := 5, ground := Ground.guard }], guard := some (5, false) }) (v := ?_) rfl (by kernel_rfl) (by kernel_rfl) (by kernel_rfl) (fun _ _ _ h => h) (Or.inl ⟨by rfl, ?_⟩) (by assumption) ?_
        rotate_left
        · intro w hSw; (try dsimp only at hSw); go_simp; try with_reducible rfl
        simp only [Act.put, List.setIfInBounds_toArray, List.set_cons_zero, List.set_cons_succ]
        refine wpAnyH_ready (rs := [7]) (by kernel_rfl) (by simp) (AllReadyH.cons (o := { dst := some 68, op := Op.call { callee := Callee.value (Operand.func 23), args := #[Operand.tmp 67], argTypes := #[24] }, type := 33, pos := "law.go:74", after := #[{ on := 6, ground := Ground.data }, { on := 5, ground := Ground.chain }, { on := 5, ground := Ground.guard }], guard := some (5, false) }) rfl (fun KK hK => ?_) AllReadyH.nil)
        · go_simp
          go_at_call 23
          with_reducible refine (s_err _ j1 hs).mono ?_
          rw [X1.out]
          rintro e wq ⟨rfl, hs⟩
          refine hK.out _ _ (raw_four hs) (fun hHeld => ?_)
          clear hK KK
          try simp only [Act.put, List.setIfInBounds_toArray, List.set_cons_zero, List.set_cons_succ]
          refine wpAnyH_take (i := 10) (oi := { dst := some 71, op := Op.binOp BinOp.neq 3 (Operand.tmp 68) (Operand.tmp 70) 3, type := 4, pos := "law.go:74", after := #[{ on := 7, ground := Ground.data }, { on := 9, ground := Ground.data }, { on := 5, ground := Ground.guard }], guard := some (5, false) }) (v := ?_) rfl (by kernel_rfl) (by kernel_rfl) (by kernel_rfl) (fun _ _ _ h => h) (Or.inl ⟨by rfl, ?_⟩) (by assumption) ?_
          rotate_left
          · intro w hSw; (try dsimp only at hSw); go_simp; try with_reducible rfl
          simp only [Act.put, List.setIfInBounds_toArray, List.set_cons_zero, List.set_cons_succ]
          refine wpAnyH_take (i := 11) (oi := { dst := some 72, op := Op.pick (Operand.tmp 66) (Operand.const (Value.bool true)) (Operand.tmp 71), type := 4, pos := "law.go:74", after := #[{ on := 5, ground := Ground.data }, { on := 10, ground := Ground.data }], guard := none }) (v := ?_) rfl (by kernel_rfl) (by kernel_rfl) (by kernel_rfl) (fun _ _ _ h => h) (Or.inl ⟨by rfl, ?_⟩) (by assumption) ?_
          rotate_left
          · intro w hSw; (try dsimp only at hSw); go_simp; try with_reducible rfl
          simp only [Act.put, List.setIfInBounds_toArray, List.set_cons_zero, List.set_cons_succ]
          refine wpAnyH_take (i := 12) (oi := { dst := some 73, op := Op.move (Operand.tmp 72), type := 4, pos := "law.go:74", after := #[{ on := 11, ground := Ground.data }, { on := 7, ground := Ground.chain }], guard := none }) (v := ?_) rfl (by kernel_rfl) (by kernel_rfl) (by kernel_rfl) (fun _ _ _ h => h) (Or.inl ⟨by rfl, ?_⟩) (by assumption) ?_
          rotate_left
          · intro w hSw; (try dsimp only at hSw); go_simp; try with_reducible rfl
          simp only [Act.put, List.setIfInBounds_toArray, List.set_cons_zero, List.set_cons_succ]
          refine wpAnyH_take (i := 13) (oi := { dst := some 74, op := Op.fieldAddr 75 (Operand.tmp 11) 2, type := 0, pos := "law.go:74", after := #[{ on := 12, ground := Ground.guard }], guard := some (12, false) }) (v := ?_) rfl (by kernel_rfl) (by kernel_rfl) (by kernel_rfl) (fun _ _ _ h => h) (Or.inl ⟨by rfl, ?_⟩) (by assumption) ?_
          rotate_left
          · intro w hSw; (try dsimp only at hSw); go_simp; try with_reducible rfl
          simp only [Act.put, List.setIfInBounds_toArray, List.set_cons_zero, List.set_cons_succ]
          refine wpAnyH_take (i := 14) (oi := { dst := some 75, op := Op.load 3 (Operand.tmp 74), type := 3, pos := "law.go:74", after := #[{ on := 13, ground := Ground.data }, { on := 12, ground := Ground.guard }], guard := some (12, false) }) (v := ?_) rfl (by kernel_rfl) (by kernel_rfl) (by kernel_rfl) (fun _ _ _ h => h) (Or.inl ⟨by rfl, ?_⟩) (by assumption) ?_
          rotate_left
          · intro w hSw; (try dsimp only at hSw); go_simp; try with_reducible rfl
          simp only [Act.put, List.setIfInBounds_toArray, List.set_cons_zero, List.set_cons_succ]
          refine wpAnyH_take (i := 15) (oi := { dst := some 76, op := Op.binOp BinOp.eql 3 (Operand.tmp 75) (Operand.const (Value.int IntKind.i64 0)) 3, type := 4, pos := "law.go:74", after := #[{ on := 14, ground := Ground.data }, { on := 12, ground := Ground.guard }], guard := some (12, false) }) (v := ?_) rfl (by kernel_rfl) (by kernel_rfl) (by kernel_rfl) (fun _ _ _ h => h) (Or.inl ⟨by rfl, ?_⟩) (by assumption) ?_
          rotate_left
          · intro w hSw; (try dsimp only at hSw); go_simp; try with_reducible rfl
          simp only [Act.put, List.setIfInBounds_toArray, List.set_cons_zero, List.set_cons_succ]
          refine wpAnyH_take (i := 16) (oi := { dst := some 77, op := Op.move (Operand.tmp 76), type := 4, pos := "law.go:74", after := #[{ on := 15, ground := Ground.data }, { on := 12, ground := Ground.chain }, { on := 12, ground := Ground.guard }], guard := some (12, false) }) (v := ?_) rfl (by kernel_rfl) (by kernel_rfl) (by kernel_rfl) (fun _ _ _ h => h) (Or.inl ⟨by rfl, ?_⟩) (by assumption) ?_
          rotate_left
          · intro w hSw; (try dsimp only at hSw); go_simp; try with_reducible rfl
          simp only [Act.put, List.setIfInBounds_toArray, List.set_cons_zero, List.set_cons_succ]
          refine wpAnyH_take (i := 17) (oi := { dst := some 78, op := Op.move (Operand.tmp 7), type := 24, pos := "law.go:74", after := #[{ on := 16, ground := Ground.guard }], guard := some (16, true) }) (v := undef) rfl (by kernel_rfl) (by kernel_rfl) (by kernel_rfl) (fun _ _ _ h => h) (Or.inr ⟨by rfl, rfl⟩) (by assumption) ?_
          simp only [Act.put, List.setIfInBounds_toArray, List.set_cons_zero, List.set_cons_succ]
          refine wpAnyH_take (i := 18) (oi := { dst := some 79, op := Op.call { callee := Callee.value (Operand.func 22), args := #[Operand.tmp 78], argTypes := #[24] }, type := 3, pos := "law.go:74", after := #[{ on := 17, ground := Ground.data }, { on := 16, ground := Ground.chain }, { on := 16, ground := Ground.guard }], guard := some (16, true) }) (v := undef) rfl (by kernel_rfl) (by kernel_rfl) (by kernel_rfl) (fun _ _ _ h => h) (Or.inr ⟨by rfl, rfl⟩) (by assumption) ?_
          simp only [Act.put, List.setIfInBounds_toArray, List.set_cons_zero, List.set_cons_succ]
          refine wpAnyH_take (i := 19) (oi := { dst := some 80, op := Op.fieldAddr 75 (Operand.tmp 11) 1, type := 0, pos := "law.go:74", after := #[{ on := 16, ground := Ground.guard }], guard := some (16, true) }) (v := undef) rfl (by kernel_rfl) (by kernel_rfl) (by kernel_rfl) (fun _ _ _ h => h) (Or.inr ⟨by rfl, rfl⟩) (by assumption) ?_
          simp only [Act.put, List.setIfInBounds_toArray, List.set_cons_zero, List.set_cons_succ]
          refine wpAnyH_take (i := 20) (oi := { dst := some 81, op := Op.load 3 (Operand.tmp 80), type := 3, pos := "law.go:74", after := #[{ on := 19, ground := Ground.data }, { on := 16, ground := Ground.guard }], guard := some (16, true) }) (v := undef) rfl (by kernel_rfl) (by kernel_rfl) (by kernel_rfl) (fun _ _ _ h => h) (Or.inr ⟨by rfl, rfl⟩) (by assumption) ?_
          simp only [Act.put, List.setIfInBounds_toArray, List.set_cons_zero, List.set_cons_succ]
          refine wpAnyH_take (i := 21) (oi := { dst := some 82, op := Op.binOp BinOp.neq 3 (Operand.tmp 79) (Operand.tmp 81) 3, type := 4, pos := "law.go:74", after := #[{ on := 18, ground := Ground.data }, { on := 20, ground := Ground.data }, { on := 16, ground := Ground.guard }], guard := some (16, true) }) (v := undef) rfl (by kernel_rfl) (by kernel_rfl) (by kernel_rfl) (fun _ _ _ h => h) (Or.inr ⟨by rfl, rfl⟩) (by assumption) ?_
          simp only [Act.put, List.setIfInBounds_toArray, List.set_cons_zero, List.set_cons_succ]
          refine wpAnyH_take (i := 22) (oi := { dst := some 83, op := Op.pick (Operand.tmp 77) (Operand.tmp 82) (Operand.const (Value.bool false)), type := 4, pos := "law.go:74", after := #[{ on := 16, ground := Ground.data }, { on := 21, ground := Ground.data }, { on := 12, ground := Ground.guard }], guard := some (12, false) }) (v := ?_) rfl (by kernel_rfl) (by kernel_rfl) (by kernel_rfl) (fun _ _ _ h => h) (Or.inl ⟨by rfl, ?_⟩) (by assumption) ?_
          rotate_left
          · intro w hSw; (try dsimp only at hSw); go_simp; try with_reducible rfl
          simp only [Act.put, List.setIfInBounds_toArray, List.set_cons_zero, List.set_cons_succ]
          refine wpAnyH_take (i := 23) (oi := { dst := some 84, op := Op.pick (Operand.tmp 73) (Operand.const (Value.bool true)) (Operand.tmp 83), type := 4, pos := "law.go:74", after := #[{ on := 12, ground := Ground.data }, { on := 22, ground := Ground.data }], guard := none }) (v := ?_) rfl (by kernel_rfl) (by kernel_rfl) (by kernel_rfl) (fun _ _ _ h => h) (Or.inl ⟨by rfl, ?_⟩) (by assumption) ?_
          rotate_left
          · intro w hSw; (try dsimp only at hSw); go_simp; try with_reducible rfl
          simp only [Act.put, List.setIfInBounds_toArray, List.set_cons_zero, List.set_cons_succ]
          refine wpAnyH_done (by kernel_rfl) ?_ _
          have h2 := hs.sel [1, 1, 1]
          go_wp2_with fail
          go_meet
          exact ⟨_, _, _, rfl, rfl, rfl, rfl, h2⟩
    case rest =>
      obtain ⟨c, d, y, rfl, rfl, rfl, rfl, h⟩ := hcut
      have H := Lib.hid h
      clear h h1
      go_wp2_with fail
      have h2 := H.out.drew
      clear H
      go_cut [8, 9, 12, 13] (fun s8 s9 s12 s13 wx => ∃ c d x y : Nat, s8 = inPtr c ∧ s9 = inPtr d ∧ s12 = .pointer (some ⟨x, 0, none⟩) ∧ s13 = .pointer (some ⟨y, 0, none⟩) ∧ St W0 wx Know.none [.inp c ⟨s, 0, 0⟩, .raw x #[.bool n2, .string (bb d2), .int .i64 m2, .int .i64 e2] 75, .raw y #[.bool n1, .string (bb d1), .int .i64 m1, .int .i64 e1] 75, .inp d ⟨s, 0, 0⟩])
      case first =>
        refine wp_region_held_drew (S := fun w' => w'.cell? ⟨y, 0, none⟩ = some (.bool n1) ∧ w'.cell? ⟨y, 1, none⟩ = some (.string (bb d1)) ∧ w'.cell? ⟨y, 2, none⟩ = some (.int .i64 m1) ∧ w'.cell? ⟨y, 3, none⟩ = some (.int .i64 e1)) (by kernel_rfl) (raw_all4' h2) (fun hHeld => ?_)
        have hs := h2
        clear h2
        refine wpAnyH_take (i := 0) (oi := { dst := some 85, op := Op.move (Operand.tmp 0), type := 9, pos := "law.go:77", after := #[], guard := none }) (v := ?_) rfl (by kernel_rfl) (by kernel_rfl) (by kernel_rfl) (fun _ _ _ h => h) (Or.inl ⟨by rfl, ?_⟩) (by assumption) ?_
        rotate_left
        · intro w hSw; (try dsimp only at hSw); go_simp; try with_reducible rfl
        simp only [Act.put, List.setIfInBounds_toArray, List.set_cons_zero, List.set_cons_succ]
        refine wpAnyH_take (i := 2) (oi := { dst := some 87, op := Op.load 75 (Operand.tmp 11), type := 75, pos := "law.go:77", after := #[{ on := 5, ground := Ground.gcOnly Departure.lateStores }], guard := none }) (v := ?_) rfl (by kernel_rfl) (by kernel_rfl) (by kernel_rfl) (fun _ _ _ h => h) (Or.inl ⟨by rfl, ?_⟩) (by assumption) ?_
        rotate_left
        · intro w hSw; (try dsimp only at hSw); go_simp; try with_reducible rfl
        simp only [Act.put, List.setIfInBounds_toArray, List.set_cons_zero, List.set_cons_succ]
        refine wpAnyH_ready (rs := [1, 3, 4]) (by kernel_rfl) (by simp) (AllReadyH.cons (o := { dst := some 86, op := Op.call { callee := Callee.value (Operand.func 58), args := #[Operand.tmp 85, Operand.const (Value.int IntKind.i64 2)], argTypes := #[9, 3] }, type := 75, pos := "law.go:77", after := #[{ on := 0, ground := Ground.data }], guard := none }) rfl (fun KK hK => ?_) (AllReadyH.cons (o := { dst := some 12, op := Op.alloc 75, type := 0, pos := "law.go:77", after := #[], guard := none }) rfl (fun KK hK => ?_) (AllReadyH.cons (o := { dst := some 13, op := Op.alloc 75, type := 0, pos := "law.go:77", after := #[], guard := none }) rfl (fun KK hK => ?_) AllReadyH.nil)))
        · go_simp
          go_at_call 58
          with_reducible refine (ref04_readFixedQ s 2 2 _ (by decide) HS.out (by decide) G2.out hs).mono ?_
          rintro e wq ⟨rfl, hs⟩
          refine hK.out _ _ (raw_all4' (hs.sel [0])) (fun hHeld => ?_)
          clear hK KK
          try simp only [Act.put, List.setIfInBounds_toArray, List.set_cons_zero, List.set_cons_succ]
          refine wpAnyH_ready (rs := [3, 4]) (by kernel_rfl) (by simp) (AllReadyH.cons (o := { dst := some 12, op := Op.alloc 75, type := 0, pos := "law.go:77", after := #[], guard := none }) rfl (fun KK hK => ?_) (AllReadyH.cons (o := { dst := some 13, op := Op.alloc 75, type := 0, pos := "law.go:77", after := #[], guard := none }) rfl (fun KK hK => ?_) AllReadyH.nil))
          · obtain ⟨wy, bA, ey, eb, hs⟩ := hs.allocEx #[.bool false, .string ⟨#[]⟩, .int .i64 0, .int .i64 0] 75
            go_simp
            try rw [ey]
            try rw [eb]
            clear ey eb
            refine hK.out _ _ (raw_all4' (hs.sel [1])) (fun hHeld => ?_)
            clear hK KK
            try simp only [Act.put, List.setIfInBounds_toArray, List.set_cons_zero, List.set_cons_succ]
            refine wpAnyH_ready (rs := [4]) (by kernel_rfl) (by simp) (AllReadyH.cons (o := { dst := some 13, op := Op.alloc 75, type := 0, pos := "law.go:77", after := #[], guard := none }) rfl (fun KK hK => ?_) AllReadyH.nil)
            · obtain ⟨wy, bB, ey, eb, hs⟩ := hs.allocEx #[.bool false, .string ⟨#[]⟩, .int .i64 0, .int .i64 0] 75
              go_simp
              try rw [ey]
              try rw [eb]
              clear ey eb
              refine hK.out _ _ (raw_all4' (hs.sel [2])) (fun hHeld => ?_)
              clear hK KK
              try simp only [Act.put, List.setIfInBounds_toArray, List.set_cons_zero, List.set_cons_succ]
              refine wpAnyH_ready (rs := [5]) (by kernel_rfl) (by simp) (AllReadyH.cons (o := { dst := none, op := Op.store 75 (Operand.tmp 12) (Operand.tmp 86), type := 0, pos := "law.go:77", after := #[{ on := 3, ground := Ground.data }, { on := 1, ground := Ground.data }, { on := 1, ground := Ground.chain }, { on := 0, ground := Ground.phase }, { on := 1, ground := Ground.phase }, { on := 2, ground := Ground.textOnly Departure.lateStores }, { on := 3, ground := Ground.phase }, { on := 4, ground := Ground.phase }], guard := none }) rfl (fun KK hK => ?_) AllReadyH.nil)
              · have hs := hs.sel [1, 0, 0, 0, 0]
                rw [if_pos (by rfl)]
                refine wp_store_mid 75 (.tmp 12) (.tmp 86) rfl bA 0 #[.bool n2, .string (bb d2), .int .i64 m2, .int .i64 e2] (by rfl) (by rfl) hs.there (by kernel_rfl) (by simp [Value.oneCell']) ?_
                obtain ⟨wz, ez, hs⟩ := hs.storeEx #[.bool n2, .string (bb d2), .int .i64 m2, .int .i64 e2]
                rw [ez]
                clear ez
                refine hK.out _ _ (raw_all4' (hs.sel [2])) (fun hHeld => ?_)
                clear hK KK
                try simp only [Act.put, List.setIfInBounds_toArray, List.set_cons_zero, List.set_cons_succ]
                refine wpAnyH_ready (rs := [6]) (by kernel_rfl) (by simp) (AllReadyH.cons (o := { dst := none, op := Op.store 75 (Operand.tmp 13) (Operand.tmp 87), type := 0, pos := "law.go:77", after := #[{ on := 4, ground := Ground.data }, { on := 2, ground := Ground.data }, { on := 5, ground := Ground.chain }, { on := 0, ground := Ground.phase }, { on := 1, ground := Ground.phase }, { on := 2, ground := Ground.phase }, { on := 3, ground := Ground.phase }, { on := 4, ground := Ground.phase }, { on := 5, ground := Ground.phase }], guard := none }) rfl (fun KK hK => ?_) AllReadyH.nil)
                · have hs := hs.sel [1, 0, 0, 0, 0]
                  rw [if_pos (by rfl)]
                  refine wp_store_mid 75 (.tmp 13) (.tmp 87) rfl bB 0 #[.bool n1, .string (bb d1), .int .i64 m1, .int .i64 e1] (by rfl) (by rfl) hs.there (by kernel_rfl) (by simp [Value.oneCell']) ?_
                  obtain ⟨wz, ez, hs⟩ := hs.storeEx #[.bool n1, .string (bb d1), .int .i64 m1, .int .i64 e1]
                  rw [ez]
                  clear ez
                  refine hK.out _ _ (raw_all4' (hs.sel [2])) (fun hHeld => ?_)
                  clear hK KK
                  try simp only [Act.put, List.setIfInBounds_toArray, List.set_cons_zero, List.set_cons_succ]
                  refine wpAnyH_done (by kernel_rfl) ?_ _
                  have h2 := hs.sel [3, 1, 0, 1]
                  go_wp2_with fail
                  go_meet
                  exact ⟨_, _, _, _, rfl, rfl, rfl, rfl, h2⟩
          · obtain ⟨wy, bB, ey, eb, hs⟩ := hs.allocEx #[.bool false, .string ⟨#[]⟩, .int .i64 0, .int .i64 0] 75
            go_simp
            try rw [ey]
            try rw [eb]
            clear ey eb
            refine hK.out _ _ (raw_all4' (hs.sel [1])) (fun hHeld => ?_)
            clear hK KK
            try simp only [Act.put, List.setIfInBounds_toArray, List.set_cons_zero, List.set_cons_succ]
            refine wpAnyH_ready (rs := [3]) (by kernel_rfl) (by simp) (AllReadyH.cons (o := { dst := some 12, op := Op.alloc 75, type := 0, pos := "law.go:77", after := #[], guard := none }) rfl (fun KK hK => ?_) AllReadyH.nil)
            · obtain ⟨wy, bA, ey, eb, hs⟩ := hs.allocEx #[.bool false, .string ⟨#[]⟩, .int .i64 0, .int .i64 0] 75
              go_simp
              try rw [ey]
              try rw [eb]
              clear ey eb
              refine hK.out _ _ (raw_all4' (hs.sel [2])) (fun hHeld => ?_)
              clear hK KK
              try simp only [Act.put, List.setIfInBounds_toArray, List.set_cons_zero, List.set_cons_succ]
              refine wpAnyH_ready (rs := [5]) (by kernel_rfl) (by simp) (AllReadyH.cons (o := { dst := none, op := Op.store 75 (Operand.tmp 12) (Operand.tmp 86), type := 0, pos := "law.go:77", after := #[{ on := 3, ground := Ground.data }, { on := 1, ground := Ground.data }, { on := 1, ground := Ground.chain }, { on := 0, ground := Ground.phase }, { on := 1, ground := Ground.phase }, { on := 2, ground := Ground.textOnly Departure.lateStores }, { on := 3, ground := Ground.phase }, { on := 4, ground := Ground.phase }], guard := none }) rfl (fun KK hK => ?_) AllReadyH.nil)
              · have hs := hs.sel [0, 0, 0, 0, 0]
                rw [if_pos (by rfl)]
                refine wp_store_mid 75 (.tmp 12) (.tmp 86) rfl bA 0 #[.bool n2, .string (bb d2), .int .i64 m2, .int .i64 e2] (by rfl) (by rfl) hs.there (by kernel_rfl) (by simp [Value.oneCell']) ?_
                obtain ⟨wz, ez, hs⟩ := hs.storeEx #[.bool n2, .string (bb d2), .int .i64 m2, .int .i64 e2]
                rw [ez]
                clear ez
                refine hK.out _ _ (raw_all4' (hs.sel [2])) (fun hHeld => ?_)
                clear hK KK
                try simp only [Act.put, List.setIfInBounds_toArray, List.set_cons_zero, List.set_cons_succ]
                refine wpAnyH_ready (rs := [6]) (by kernel_rfl) (by simp) (AllReadyH.cons (o := { dst := none, op := Op.store 75 (Operand.tmp 13) (Operand.tmp 87), type := 0, pos := "law.go:77", after := #[{ on := 4, ground := Ground.data }, { on := 2, ground := Ground.data }, { on := 5, ground := Ground.chain }, { on := 0, ground := Ground.phase }, { on := 1, ground := Ground.phase }, { on := 2, ground := Ground.phase }, { on := 3, ground := Ground.phase }, { on := 4, ground := Ground.phase }, { on := 5, ground := Ground.phase }], guard := none }) rfl (fun KK hK => ?_) AllReadyH.nil)
                · have hs := hs.sel [1, 0, 0, 0, 0]
                  rw [if_pos (by rfl)]
                  refine wp_store_mid 75 (.tmp 13) (.tmp 87) rfl bB 0 #[.bool n1, .string (bb d1), .int .i64 m1, .int .i64 e1] (by rfl) (by rfl) hs.there (by kernel_rfl) (by simp [Value.oneCell']) ?_
                  obtain ⟨wz, ez, hs⟩ := hs.storeEx #[.bool n1, .string (bb d1), .int .i64 m1, .int .i64 e1]
                  rw [ez]
                  clear ez
                  refine hK.out _ _ (raw_all4' (hs.sel [2])) (fun hHeld => ?_)
                  clear hK KK
                  try simp only [Act.put, List.setIfInBounds_toArray, List.set_cons_zero, List.set_cons_succ]
                  refine wpAnyH_done (by kernel_rfl) ?_ _
                  have h2 := hs.sel [3, 1, 0, 1]
                  go_wp2_with fail
                  go_meet
                  exact ⟨_, _, _, _, rfl, rfl, rfl, rfl, h2⟩
        · obtain ⟨wy, bA, ey, eb, hs⟩ := hs.allocEx #[.bool false, .string ⟨#[]⟩, .int .i64 0, .int .i64 0] 75
          go_simp
          try rw [ey]
          try rw [eb]
          clear ey eb
          refine hK.out _ _ (raw_all4' (hs.sel [1])) (fun hHeld => ?_)
          clear hK KK
          try simp only [Act.put, List.setIfInBounds_toArray, List.set_cons_zero, List.set_cons_succ]
          refine wpAnyH_ready (rs := [1, 4]) (by kernel_rfl) (by simp) (AllReadyH.cons (o := { dst := some 86, op := Op.call { callee := Callee.value (Operand.func 58), args := #[Operand.tmp 85, Operand.const (Value.int IntKind.i64 2)], argTypes := #[9, 3] }, type := 75, pos := "law.go:77", after := #[{ on := 0, ground := Ground.data }], guard := none }) rfl (fun KK hK => ?_) (AllReadyH.cons (o := { dst := some 13, op := Op.alloc 75, type := 0, pos := "law.go:77", after := #[], guard := none }) rfl (fun KK hK => ?_) AllReadyH.nil))
          · go_simp
            go_at_call 58
            with_reducible refine (ref04_readFixedQ s 2 2 _ (by decide) HS.out (by decide) G2.out hs).mono ?_
            rintro e wq ⟨rfl, hs⟩
            refine hK.out _ _ (raw_all4' (hs.sel [1])) (fun hHeld => ?_)
            clear hK KK
            try simp only [Act.put, List.setIfInBounds_toArray, List.set_cons_zero, List.set_cons_succ]
            refine wpAnyH_ready (rs := [4]) (by kernel_rfl) (by simp) (AllReadyH.cons (o := { dst := some 13, op := Op.alloc 75, type := 0, pos := "law.go:77", after := #[], guard := none }) rfl (fun KK hK => ?_) AllReadyH.nil)
            · obtain ⟨wy, bB, ey, eb, hs⟩ := hs.allocEx #[.bool false, .string ⟨#[]⟩, .int .i64 0, .int .i64 0] 75
              go_simp
              try rw [ey]
              try rw [eb]
              clear ey eb
              refine hK.out _ _ (raw_all4' (hs.sel [2])) (fun hHeld => ?_)
              clear hK KK
              try simp only [Act.put, List.setIfInBounds_toArray, List.set_cons_zero, List.set_cons_succ]
              refine wpAnyH_ready (rs := [5]) (by kernel_rfl) (by simp) (AllReadyH.cons (o := { dst := none, op := Op.store 75 (Operand.tmp 12) (Operand.tmp 86), type := 0, pos := "law.go:77", after := #[{ on := 3, ground := Ground.data }, { on := 1, ground := Ground.data }, { on := 1, ground := Ground.chain }, { on := 0, ground := Ground.phase }, { on := 1, ground := Ground.phase }, { on := 2, ground := Ground.textOnly Departure.lateStores }, { on := 3, ground := Ground.phase }, { on := 4, ground := Ground.phase }], guard := none }) rfl (fun KK hK => ?_) AllReadyH.nil)
              · have hs := hs.sel [1, 0, 0, 0, 0]
                rw [if_pos (by rfl)]
                refine wp_store_mid 75 (.tmp 12) (.tmp 86) rfl bA 0 #[.bool n2, .string (bb d2), .int .i64 m2, .int .i64 e2] (by rfl) (by rfl) hs.there (by kernel_rfl) (by simp [Value.oneCell']) ?_
                obtain ⟨wz, ez, hs⟩ := hs.storeEx #[.bool n2, .string (bb d2), .int .i64 m2, .int .i64 e2]
                rw [ez]
                clear ez
                refine hK.out _ _ (raw_all4' (hs.sel [2])) (fun hHeld => ?_)
                clear hK KK
                try simp only [Act.put, List.setIfInBounds_toArray, List.set_cons_zero, List.set_cons_succ]
                refine wpAnyH_ready (rs := [6]) (by kernel_rfl) (by simp) (AllReadyH.cons (o := { dst := none, op := Op.store 75 (Operand.tmp 13) (Operand.tmp 87), type := 0, pos := "law.go:77", after := #[{ on := 4, ground := Ground.data }, { on := 2, ground := Ground.data }, { on := 5, ground := Ground.chain }, { on := 0, ground := Ground.phase }, { on := 1, ground := Ground.phase }, { on := 2, ground := Ground.phase }, { on := 3, ground := Ground.phase }, { on := 4, ground := Ground.phase }, { on := 5, ground := Ground.phase }], guard := none }) rfl (fun KK hK => ?_) AllReadyH.nil)
                · have hs := hs.sel [1, 0, 0, 0, 0]
                  rw [if_pos (by rfl)]
                  refine wp_store_mid 75 (.tmp 13) (.tmp 87) rfl bB 0 #[.bool n1, .string (bb d1), .int .i64 m1, .int .i64 e1] (by rfl) (by rfl) hs.there (by kernel_rfl) (by simp [Value.oneCell']) ?_
                  obtain ⟨wz, ez, hs⟩ := hs.storeEx #[.bool n1, .string (bb d1), .int .i64 m1, .int .i64 e1]
                  rw [ez]
                  clear ez
                  refine hK.out _ _ (raw_all4' (hs.sel [2])) (fun hHeld => ?_)
                  clear hK KK
                  try simp only [Act.put, List.setIfInBounds_toArray, List.set_cons_zero, List.set_cons_succ]
                  refine wpAnyH_done (by kernel_rfl) ?_ _
                  have h2 := hs.sel [3, 1, 0, 1]
                  go_wp2_with fail
                  go_meet
                  exact ⟨_, _, _, _, rfl, rfl, rfl, rfl, h2⟩
          · obtain ⟨wy, bB, ey, eb, hs⟩ := hs.allocEx #[.bool false, .string ⟨#[]⟩, .int .i64 0, .int .i64 0] 75
            go_simp
            try rw [ey]
            try rw [eb]
            clear ey eb
            refine hK.out _ _ (raw_all4' (hs.sel [2])) (fun hHeld => ?_)
            clear hK KK
            try simp only [Act.put, List.setIfInBounds_toArray, List.set_cons_zero, List.set_cons_succ]
            refine wpAnyH_ready (rs := [1]) (by kernel_rfl) (by simp) (AllReadyH.cons (o := { dst := some 86, op := Op.call { callee := Callee.value (Operand.func 58), args := #[Operand.tmp 85, Operand.const (Value.int IntKind.i64 2)], argTypes := #[9, 3] }, type := 75, pos := "law.go:77", after := #[{ on := 0, ground := Ground.data }], guard := none }) rfl (fun KK hK => ?_) AllReadyH.nil)
            · go_simp
              go_at_call 58
              with_reducible refine (ref04_readFixedQ s 2 2 _ (by decide) HS.out (by decide) G2.out hs).mono ?_
              rintro e wq ⟨rfl, hs⟩
              refine hK.out _ _ (raw_all4' (hs.sel [2])) (fun hHeld => ?_)
              clear hK KK
              try simp only [Act.put, List.setIfInBounds_toArray, List.set_cons_zero, List.set_cons_succ]
              refine wpAnyH_ready (rs := [5]) (by kernel_rfl) (by simp) (AllReadyH.cons (o := { dst := none, op := Op.store 75 (Operand.tmp 12) (Operand.tmp 86), type := 0, pos := "law.go:77", after := #[{ on := 3, ground := Ground.data }, { on := 1, ground := Ground.data }, { on := 1, ground := Ground.chain }, { on := 0, ground := Ground.phase }, { on := 1, ground := Ground.phase }, { on := 2, ground := Ground.textOnly Departure.lateStores }, { on := 3, ground := Ground.phase }, { on := 4, ground := Ground.phase }], guard := none }) rfl (fun KK hK => ?_) AllReadyH.nil)
              · have hs := hs.sel [1, 0, 0, 0, 0]
                rw [if_pos (by rfl)]
                refine wp_store_mid 75 (.tmp 12) (.tmp 86) rfl bA 0 #[.bool n2, .string (bb d2), .int .i64 m2, .int .i64 e2] (by rfl) (by rfl) hs.there (by kernel_rfl) (by simp [Value.oneCell']) ?_
                obtain ⟨wz, ez, hs⟩ := hs.storeEx #[.bool n2, .string (bb d2), .int .i64 m2, .int .i64 e2]
                rw [ez]
                clear ez
                refine hK.out _ _ (raw_all4' (hs.sel [2])) (fun hHeld => ?_)
                clear hK KK
                try simp only [Act.put, List.setIfInBounds_toArray, List.set_cons_zero, List.set_cons_succ]
                refine wpAnyH_ready (rs := [6]) (by kernel_rfl) (by simp) (AllReadyH.cons (o := { dst := none, op := Op.store 75 (Operand.tmp 13) (Operand.tmp 87), type := 0, pos := "law.go:77", after := #[{ on := 4, ground := Ground.data }, { on := 2, ground := Ground.data }, { on := 5, ground := Ground.chain }, { on := 0, ground := Ground.phase }, { on := 1, ground := Ground.phase }, { on := 2, ground := Ground.phase }, { on := 3, ground := Ground.phase }, { on := 4, ground := Ground.phase }, { on := 5, ground := Ground.phase }], guard := none }) rfl (fun KK hK => ?_) AllReadyH.nil)
                · have hs := hs.sel [1, 0, 0, 0, 0]
                  rw [if_pos (by rfl)]
                  refine wp_store_mid 75 (.tmp 13) (.tmp 87) rfl bB 0 #[.bool n1, .string (bb d1), .int .i64 m1, .int .i64 e1] (by rfl) (by rfl) hs.there (by kernel_rfl) (by simp [Value.oneCell']) ?_
                  obtain ⟨wz, ez, hs⟩ := hs.storeEx #[.bool n1, .string (bb d1), .int .i64 m1, .int .i64 e1]
                  rw [ez]
                  clear ez
                  refine hK.out _ _ (raw_all4' (hs.sel [2])) (fun hHeld => ?_)
                  clear hK KK
                  try simp only [Act.put, List.setIfInBounds_toArray, List.set_cons_zero, List.set_cons_succ]
                  refine wpAnyH_done (by kernel_rfl) ?_ _
                  have h2 := hs.sel [3, 1, 0, 1]
                  go_wp2_with fail
                  go_meet
                  exact ⟨_, _, _, _, rfl, rfl, rfl, rfl, h2⟩
        · obtain ⟨wy, bB, ey, eb, hs⟩ := hs.allocEx #[.bool false, .string ⟨#[]⟩, .int .i64 0, .int .i64 0] 75
          go_simp
          try rw [ey]
          try rw [eb]
          clear ey eb
          refine hK.out _ _ (raw_all4' (hs.sel [1])) (fun hHeld => ?_)
          clear hK KK
          try simp only [Act.put, List.setIfInBounds_toArray, List.set_cons_zero, List.set_cons_succ]
          refine wpAnyH_ready (rs := [1, 3]) (by kernel_rfl) (by simp) (AllReadyH.cons (o := { dst := some 86, op := Op.call { callee := Callee.value (Operand.func 58), args := #[Operand.tmp 85, Operand.const (Value.int IntKind.i64 2)], argTypes := #[9, 3] }, type := 75, pos := "law.go:77", after := #[{ on := 0, ground := Ground.data }], guard := none }) rfl (fun KK hK => ?_) (AllReadyH.cons (o := { dst := some 12, op := Op.alloc 75, type := 0, pos := "law.go:77", after := #[], guard := none }) rfl (fun KK hK => ?_) AllReadyH.nil))
          · go_simp
            go_at_call 58
            with_reducible refine (ref04_readFixedQ s 2 2 _ (by decide) HS.out (by decide) G2.out hs).mono ?_
            rintro e wq ⟨rfl, hs⟩
            refine hK.out _ _ (raw_all4' (hs.sel [1])) (fun hHeld => ?_)
            clear hK KK
            try simp only [Act.put, List.setIfInBounds_toArray, List.set_cons_zero, List.set_cons_succ]
            refine wpAnyH_ready (rs := [3]) (by kernel_rfl) (by simp) (AllReadyH.cons (o := { dst := some 12, op := Op.alloc 75, type := 0, pos := "law.go:77", after := #[], guard := none }) rfl (fun KK hK => ?_) AllReadyH.nil)
            · obtain ⟨wy, bA, ey, eb, hs⟩ := hs.allocEx #[.bool false, .string ⟨#[]⟩, .int .i64 0, .int .i64 0] 75
              go_simp
              try rw [ey]
              try rw [eb]
              clear ey eb
              refine hK.out _ _ (raw_all4' (hs.sel [2])) (fun hHeld => ?_)
              clear hK KK
              try simp only [Act.put, List.setIfInBounds_toArray, List.set_cons_zero, List.set_cons_succ]
              refine wpAnyH_ready (rs := [5]) (by kernel_rfl) (by simp) (AllReadyH.cons (o := { dst := none, op := Op.store 75 (Operand.tmp 12) (Operand.tmp 86), type := 0, pos := "law.go:77", after := #[{ on := 3, ground := Ground.data }, { on := 1, ground := Ground.data }, { on := 1, ground := Ground.chain }, { on := 0, ground := Ground.phase }, { on := 1, ground := Ground.phase }, { on := 2, ground := Ground.textOnly Departure.lateStores }, { on := 3, ground := Ground.phase }, { on := 4, ground := Ground.phase }], guard := none }) rfl (fun KK hK => ?_) AllReadyH.nil)
              · have hs := hs.sel [0, 0, 0, 0, 0]
                rw [if_pos (by rfl)]
                refine wp_store_mid 75 (.tmp 12) (.tmp 86) rfl bA 0 #[.bool n2, .string (bb d2), .int .i64 m2, .int .i64 e2] (by rfl) (by rfl) hs.there (by kernel_rfl) (by simp [Value.oneCell']) ?_
                obtain ⟨wz, ez, hs⟩ := hs.storeEx #[.bool n2, .string (bb d2), .int .i64 m2, .int .i64 e2]
                rw [ez]
                clear ez
                refine hK.out _ _ (raw_all4' (hs.sel [2])) (fun hHeld => ?_)
                clear hK KK
                try simp only [Act.put, List.setIfInBounds_toArray, List.set_cons_zero, List.set_cons_succ]
                refine wpAnyH_ready (rs := [6]) (by kernel_rfl) (by simp) (AllReadyH.cons (o := { dst := none, op := Op.store 75 (Operand.tmp 13) (Operand.tmp 87), type := 0, pos := "law.go:77", after := #[{ on := 4, ground := Ground.data }, { on := 2, ground := Ground.data }, { on := 5, ground := Ground.chain }, { on := 0, ground := Ground.phase }, { on := 1, ground := Ground.phase }, { on := 2, ground := Ground.phase }, { on := 3, ground := Ground.phase }, { on := 4, ground := Ground.phase }, { on := 5, ground := Ground.phase }], guard := none }) rfl (fun KK hK => ?_) AllReadyH.nil)
                · have hs := hs.sel [1, 0, 0, 0, 0]
                  rw [if_pos (by rfl)]
                  refine wp_store_mid 75 (.tmp 13) (.tmp 87) rfl bB 0 #[.bool n1, .string (bb d1), .int .i64 m1, .int .i64 e1] (by rfl) (by rfl) hs.there (by kernel_rfl) (by simp [Value.oneCell']) ?_
                  obtain ⟨wz, ez, hs⟩ := hs.storeEx #[.bool n1, .string (bb d1), .int .i64 m1, .int .i64 e1]
                  rw [ez]
                  clear ez
                  refine hK.out _ _ (raw_all4' (hs.sel [2])) (fun hHeld => ?_)
                  clear hK KK
                  try simp only [Act.put, List.setIfInBounds_toArray, List.set_cons_zero, List.set_cons_succ]
                  refine wpAnyH_done (by kernel_rfl) ?_ _
                  have h2 := hs.sel [3, 1, 0, 1]
                  go_wp2_with fail
                  go_meet
                  exact ⟨_, _, _, _, rfl, rfl, rfl, rfl, h2⟩
          · obtain ⟨wy, bA, ey, eb, hs⟩ := hs.allocEx #[.bool false, .string ⟨#[]⟩, .int .i64 0, .int .i64 0] 75
            go_simp
            try rw [ey]
            try rw [eb]
            clear ey eb
            refine hK.out _ _ (raw_all4' (hs.sel [2])) (fun hHeld => ?_)
            clear hK KK
            try simp only [Act.put, List.setIfInBounds_toArray, List.set_cons_zero, List.set_cons_succ]
            refine wpAnyH_ready (rs := [1]) (by kernel_rfl) (by simp) (AllReadyH.cons (o := { dst := some 86, op := Op.call { callee := Callee.value (Operand.func 58), args := #[Operand.tmp 85, Operand.const (Value.int IntKind.i64 2)], argTypes := #[9, 3] }, type := 75, pos := "law.go:77", after := #[{ on := 0, ground := Ground.data }], guard := none }) rfl (fun KK hK => ?_) AllReadyH.nil)
            · go_simp
              go_at_call 58
              with_reducible refine (ref04_readFixedQ s 2 2 _ (by decide) HS.out (by decide) G2.out hs).mono ?_
              rintro e wq ⟨rfl, hs⟩
              refine hK.out _ _ (raw_all4' (hs.sel [2])) (fun hHeld => ?_)
              clear hK KK
              try simp only [Act.put, List.setIfInBounds_toArray, List.set_cons_zero, List.set_cons_succ]
              refine wpAnyH_ready (rs := [5]) (by kernel_rfl) (by simp) (AllReadyH.cons (o := { dst := none, op := Op.store 75 (Operand.tmp 12) (Operand.tmp 86), type := 0, pos := "law.go:77", after := #[{ on := 3, ground := Ground.data }, { on := 1, ground := Ground.data }, { on := 1, ground := Ground.chain }, { on := 0, ground := Ground.phase }, { on := 1, ground := Ground.phase }, { on := 2, ground := Ground.textOnly Departure.lateStores }, { on := 3, ground := Ground.phase }, { on := 4, ground := Ground.phase }], guard := none }) rfl (fun KK hK => ?_) AllReadyH.nil)
              · have hs := hs.sel [0, 0, 0, 0, 0]
                rw [if_pos (by rfl)]
                refine wp_store_mid 75 (.tmp 12) (.tmp 86) rfl bA 0 #[.bool n2, .string (bb d2), .int .i64 m2, .int .i64 e2] (by rfl) (by rfl) hs.there (by kernel_rfl) (by simp [Value.oneCell']) ?_
                obtain ⟨wz, ez, hs⟩ := hs.storeEx #[.bool n2, .string (bb d2), .int .i64 m2, .int .i64 e2]
                rw [ez]
                clear ez
                refine hK.out _ _ (raw_all4' (hs.sel [2])) (fun hHeld => ?_)
                clear hK KK
                try simp only [Act.put, List.setIfInBounds_toArray, List.set_cons_zero, List.set_cons_succ]
                refine wpAnyH_ready (rs := [6]) (by kernel_rfl) (by simp) (AllReadyH.cons (o := { dst := none, op := Op.store 75 (Operand.tmp 13) (Operand.tmp 87), type := 0, pos := "law.go:77", after := #[{ on := 4, ground := Ground.data }, { on := 2, ground := Ground.data }, { on := 5, ground := Ground.chain }, { on := 0, ground := Ground.phase }, { on := 1, ground := Ground.phase }, { on := 2, ground := Ground.phase }, { on := 3, ground := Ground.phase }, { on := 4, ground := Ground.phase }, { on := 5, ground := Ground.phase }], guard := none }) rfl (fun KK hK => ?_) AllReadyH.nil)
                · have hs := hs.sel [1, 0, 0, 0, 0]
                  rw [if_pos (by rfl)]
                  refine wp_store_mid 75 (.tmp 13) (.tmp 87) rfl bB 0 #[.bool n1, .string (bb d1), .int .i64 m1, .int .i64 e1] (by rfl) (by rfl) hs.there (by kernel_rfl) (by simp [Value.oneCell']) ?_
                  obtain ⟨wz, ez, hs⟩ := hs.storeEx #[.bool n1, .string (bb d1), .int .i64 m1, .int .i64 e1]
                  rw [ez]
                  clear ez
                  refine hK.out _ _ (raw_all4' (hs.sel [2])) (fun hHeld => ?_)
                  clear hK KK
                  try simp only [Act.put, List.setIfInBounds_toArray, List.set_cons_zero, List.set_cons_succ]
                  refine wpAnyH_done (by kernel_rfl) ?_ _
                  have h2 := hs.sel [3, 1, 0, 1]
                  go_wp2_with fail
                  go_meet
                  exact ⟨_, _, _, _, rfl, rfl, rfl, rfl, h2⟩
      case rest =>
        obtain ⟨c, d, x, y, rfl, rfl, rfl, rfl, h⟩ := hcut
        have H := Lib.hid h
        clear h h2
        go_wp2_with fail
        have h2 := H.out.drew
        clear H
        refine wp_region_held_drew (S := fun w' => (w'.cell? ⟨x, 0, none⟩ = some (.bool n2) ∧ w'.cell? ⟨x, 1, none⟩ = some (.string (bb d2)) ∧ w'.cell? ⟨x, 2, none⟩ = some (.int .i64 m2) ∧ w'.cell? ⟨x, 3, none⟩ = some (.int .i64 e2)) ∧ (w'.cell? ⟨y, 0, none⟩ = some (.bool n1) ∧ w'.cell? ⟨y, 1, none⟩ = some (.string (bb d1)) ∧ w'.cell? ⟨y, 2, none⟩ = some (.int .i64 m1) ∧ w'.cell? ⟨y, 3, none⟩ = some (.int .i64 e1))) (by kernel_rfl) ⟨raw_four h2, raw_four3 h2⟩ (fun hHeld => ?_)
        have hs := h2
        clear h2
        refine wpAnyH_take (i := 0) (oi := { dst := some 88, op := Op.load 75 (Operand.tmp 12), type := 75, pos := "law.go:78", after := #[], guard := none }) (v := ?_) rfl (by kernel_rfl) (by kernel_rfl) (by kernel_rfl) (fun _ _ _ h => h) (Or.inl ⟨by rfl, ?_⟩) (by assumption) ?_
        rotate_left
        · intro w hSw; (try dsimp only at hSw); go_simp; try with_reducible rfl
        simp only [Act.put, List.setIfInBounds_toArray, List.set_cons_zero, List.set_cons_succ]
        refine wpAnyH_take (i := 1) (oi := { dst := some 89, op := Op.move (Operand.tmp 8), type := 24, pos := "law.go:78", after := #[], guard := none }) (v := ?_) rfl (by kernel_rfl) (by kernel_rfl) (by kernel_rfl) (fun _ _ _ h => h) (Or.inl ⟨by rfl, ?_⟩) (by assumption) ?_
        rotate_left
        · intro w hSw; (try dsimp only at hSw); go_simp; try with_reducible rfl
        simp only [Act.put, List.setIfInBounds_toArray, List.set_cons_zero, List.set_cons_succ]
        refine wpAnyH_take (i := 3) (oi := { dst := some 91, op := Op.move (Operand.tmp 8), type := 24, pos := "law.go:78", after := #[], guard := none }) (v := ?_) rfl (by kernel_rfl) (by kernel_rfl) (by kernel_rfl) (fun _ _ _ h => h) (Or.inl ⟨by rfl, ?_⟩) (by assumption) ?_
        rotate_left
        · intro w hSw; (try dsimp only at hSw); go_simp; try with_reducible rfl
        simp only [Act.put, List.setIfInBounds_toArray, List.set_cons_zero, List.set_cons_succ]
        refine wpAnyH_ready (rs := [2]) (by kernel_rfl) (by simp) (AllReadyH.cons (o := { dst := some 90, op := Op.call { callee := Callee.value (Operand.func 63), args := #[Operand.tmp 89], argTypes := #[24] }, type := 9, pos := "law.go:78", after := #[{ on := 1, ground := Ground.data }], guard := none }) rfl (fun KK hK => ?_) AllReadyH.nil)
        · go_simp
          go_at_call 63
          with_reducible refine (blob_text _ _ hs).mono ?_
          rw [FT.out]
          rintro e wq ⟨rfl, hs⟩
          refine hK.out _ _ (⟨raw_four hs, raw_four3 hs⟩) (fun hHeld => ?_)
          clear hK KK
          try simp only [Act.put, List.setIfInBounds_toArray, List.set_cons_zero, List.set_cons_succ]
          refine wpAnyH_ready (rs := [4]) (by kernel_rfl) (by simp) (AllReadyH.cons (o := { dst := some 92, op := Op.call { callee := Callee.value (Operand.func 62), args := #[Operand.tmp 88, Operand.tmp 90, Operand.tmp 91], argTypes := #[75, 9, 24] }, type := 4, pos := "law.go:78", after := #[{ on := 0, ground := Ground.data }, { on := 2, ground := Ground.data }, { on := 3, ground := Ground.data }, { on := 2, ground := Ground.chain }], guard := none }) rfl (fun KK hK => ?_) AllReadyH.nil)
          · go_simp
            go_at_call 62
            with_reducible refine (law_isE n2 d2 m2 e2 _ jt XT.out YT.out hs).mono ?_
            rintro e wq ⟨rfl, hs⟩
            refine hK.out _ _ (⟨raw_four hs, raw_four3 hs⟩) (fun hHeld => ?_)
            clear hK KK
            try simp only [Act.put, List.setIfInBounds_toArray, List.set_cons_zero, List.set_cons_succ]
            have hs := hs.sel [3, 0, 0, 0]
            refine wpAnyH_take (i := 5) (oi := { dst := some 93, op := Op.move (Operand.tmp 92), type := 4, pos := "law.go:78", after := #[{ on := 4, ground := Ground.data }, { on := 4, ground := Ground.chain }], guard := none }) (v := ?_) rfl (by kernel_rfl) (by kernel_rfl) (by kernel_rfl) (fun _ _ _ h => h) (Or.inl ⟨by rfl, ?_⟩) (by assumption) ?_
            rotate_left
            · intro w hSw; (try dsimp only at hSw); go_simp; try with_reducible rfl
            simp only [Act.put, List.setIfInBounds_toArray, List.set_cons_zero, List.set_cons_succ]
            refine wpAnyH_take (i := 6) (oi := { dst := some 94, op := Op.load 75 (Operand.tmp 13), type := 75, pos := "law.go:78", after := #[{ on := 5, ground := Ground.guard }], guard := some (5, true) }) (v := ?_) rfl (by kernel_rfl) (by kernel_rfl) (by kernel_rfl) (fun _ _ _ h => h) (Or.inl ⟨by rfl, ?_⟩) (by assumption) ?_
            rotate_left
            · intro w hSw; (try dsimp only at hSw); go_simp; try with_reducible rfl
            simp only [Act.put, List.setIfInBounds_toArray, List.set_cons_zero, List.set_cons_succ]
            refine wpAnyH_take (i := 7) (oi := { dst := some 95, op := Op.move (Operand.tmp 9), type := 24, pos := "law.go:78", after := #[{ on := 5, ground := Ground.guard }], guard := some (5, true) }) (v := ?_) rfl (by kernel_rfl) (by kernel_rfl) (by kernel_rfl) (fun _ _ _ h => h) (Or.inl ⟨by rfl, ?_⟩) (by assumption) ?_
            rotate_left
            · intro w hSw; (try dsimp only at hSw); go_simp; try with_reducible rfl
            simp only [Act.put, List.setIfInBounds_toArray, List.set_cons_zero, List.set_cons_succ]
            refine wpAnyH_take (i := 9) (oi := { dst := some 97, op := Op.move (Operand.tmp 9), type := 24, pos := "law.go:78", after := #[{ on := 5, ground := Ground.guard }], guard := some (5, true) }) (v := ?_) rfl (by kernel_rfl) (by kernel_rfl) (by kernel_rfl) (fun _ _ _ h => h) (Or.inl ⟨by rfl, ?_⟩) (by assumption) ?_
            rotate_left
            · intro w hSw; (try dsimp only at hSw); go_simp; try with_reducible rfl
            simp only [Act.put, List.setIfInBounds_toArray, List.set_cons_zero, List.set_cons_succ]
            refine wpAnyH_ready (rs := [8]) (by kernel_rfl) (by simp) (AllReadyH.cons (o := { dst := some 96, op := Op.call { callee := Callee.value (Operand.func 64), args := #[Operand.tmp 95], argTypes := #[24] }, type := 9, pos := "law.go:78", after := #[{ on := 7, ground := Ground.data }, { on := 5, ground := Ground.chain }, { on := 5, ground := Ground.guard }], guard := some (5, true) }) rfl (fun KK hK => ?_) AllReadyH.nil)
            · go_simp
              go_at_call 64
              with_reducible refine (blob_name _ _ hs).mono ?_
              rw [FN.out]
              rintro e wq ⟨rfl, hs⟩
              refine hK.out _ _ (⟨raw_four3 hs, raw_all4' (hs.sel [3])⟩) (fun hHeld => ?_)
              clear hK KK
              try simp only [Act.put, List.setIfInBounds_toArray, List.set_cons_zero, List.set_cons_succ]
              refine wpAnyH_ready (rs := [10]) (by kernel_rfl) (by simp) (AllReadyH.cons (o := { dst := some 98, op := Op.call { callee := Callee.value (Operand.func 62), args := #[Operand.tmp 94, Operand.tmp 96, Operand.tmp 97], argTypes := #[75, 9, 24] }, type := 4, pos := "law.go:78", after := #[{ on := 6, ground := Ground.data }, { on := 8, ground := Ground.data }, { on := 9, ground := Ground.data }, { on := 8, ground := Ground.chain }, { on := 5, ground := Ground.guard }], guard := some (5, true) }) rfl (fun KK hK => ?_) AllReadyH.nil)
              · go_simp
                go_at_call 62
                with_reducible refine (law_isE n1 d1 m1 e1 _ jn XN.out YN.out hs).mono ?_
                rintro e wq ⟨rfl, hs⟩
                refine hK.out _ _ (⟨raw_four3 hs, raw_all4' (hs.sel [3])⟩) (fun hHeld => ?_)
                clear hK KK
                try simp only [Act.put, List.setIfInBounds_toArray, List.set_cons_zero, List.set_cons_succ]
                refine wpAnyH_take (i := 11) (oi := { dst := some 99, op := Op.pick (Operand.tmp 93) (Operand.tmp 98) (Operand.const (Value.bool false)), type := 4, pos := "law.go:78", after := #[{ on := 5, ground := Ground.data }, { on := 10, ground := Ground.data }], guard := none }) (v := ?_) rfl (by kernel_rfl) (by kernel_rfl) (by kernel_rfl) (fun _ _ _ h => h) (Or.inl ⟨by rfl, ?_⟩) (by assumption) ?_
                rotate_left
                · intro w hSw; (try dsimp only at hSw); go_simp; try with_reducible rfl
                simp only [Act.put, List.setIfInBounds_toArray, List.set_cons_zero, List.set_cons_succ]
                refine wpAnyH_take (i := 12) (oi := { dst := some 4, op := Op.assign (Operand.tmp 99), type := 4, pos := "law.go:78", after := #[{ on := 11, ground := Ground.data }, { on := 10, ground := Ground.chain }, { on := 0, ground := Ground.phase }, { on := 1, ground := Ground.phase }, { on := 2, ground := Ground.phase }, { on := 3, ground := Ground.phase }, { on := 4, ground := Ground.phase }, { on := 5, ground := Ground.phase }, { on := 6, ground := Ground.phase }, { on := 7, ground := Ground.phase }, { on := 8, ground := Ground.phase }, { on := 9, ground := Ground.phase }, { on := 10, ground := Ground.phase }, { on := 11, ground := Ground.phase }], guard := none }) (v := ?_) rfl (by kernel_rfl) (by kernel_rfl) (by kernel_rfl) (fun _ _ _ h => h) (Or.inl ⟨by rfl, ?_⟩) (by assumption) ?_
                rotate_left
                · intro w hSw; (try dsimp only at hSw); go_simp; try with_reducible rfl
                simp only [Act.put, List.setIfInBounds_toArray, List.set_cons_zero, List.set_cons_succ]
                refine wpAnyH_done (by kernel_rfl) ?_ _
                go_wp2_with fail
                go_ret
                exact ⟨rfl, hs.below⟩

end Go.Proofs.Ytbcfnfcmghbelaa
