/- A text. -/
import Derived.Test.YtnnnglklgofabaaGreatGProduceWrites1
import Derived.Deep.RegionHeld3
import Derived.Deep.DeepCutAuto
/- A text. -/
namespace Go.Proofs.YtnnnglklgofabaaGreat
open Go.RowKit

theorem ref06_intQ (n : Int) (r : Bs) (hr : encI n = r) (hn : -9223372036854775808 ≤ n ∧ n < 9223372036854775808) {W0 w : World} {K : Know} {L : List Res} (h : St W0 w K L) :
  Calls Tryz.prog 110 #[.int .i64 n] w fun en w' => en = .returned (.string (bb r)) ∧ St W0 w' K L := by
 subst hr; exact ref06_int n hn h
theorem ref06_writeQ (v : Value) (l : List HdrS) (r : Bs) (hr : encHs l = r) (hs : hsize l ≤ 70368744177664) {W0 w : World} {K : Know} {L : List Res} (hk : K.has (Know.flat RHdr v 3 l)) (h : St W0 w K L) :
  Calls Tryz.prog 112 #[v] w fun en w' => en = .returned (.string (bb r)) ∧ St W0 w' K L := by
 subst hr; exact ref06_write v l hs hk h
theorem raw7S {W0 w : World} {K : Know} {L : List Res} {b : Nat} {T : TypeId} {v0 v1 v2 v3 v4 v5 v6 : Value} (h : St W0 w K (.raw b #[v0, v1, v2, v3, v4, v5, v6] T :: L)) :
  (w.cell? ⟨b, 0, none⟩ = some v0 ∧ w.cell? ⟨b, 1, none⟩ = some v1 ∧ w.cell? ⟨b, 2, none⟩ = some v2 ∧ w.cell? ⟨b, 3, none⟩ = some v3 ∧ w.cell? ⟨b, 4, none⟩ = some v4 ∧ w.cell? ⟨b, 5, none⟩ = some v5 ∧ w.cell? ⟨b, 6, none⟩ = some v6) ∧ St W0 w K (.raw b #[v0, v1, v2, v3, v4, v5, v6] T :: L) :=
 ⟨⟨h.rawCell 0, h.rawCell 1, h.rawCell 2, h.rawCell 3, h.rawCell 4, h.rawCell 5, h.rawCell 6⟩, h⟩
theorem conv_zero {W0 w : World} {K : Know} {L : List Res} {b : Nat} {T : TypeId} (h : St W0 w K (.raw b #[.int .u8 0] T :: L)) :
  (convert 29 9 (.slice (some ⟨b, 0, none⟩) 1 1)).run Tryz.prog w = .ok (.string ⟨#[0]⟩) w := by
 refine run_convert_bytes_back (P := Tryz.prog) w 29 9 5 ⟨b, 0, none⟩ 1 [0] Tryz.underlying29 Tryz.underlying5 Tryz.underlying9 (fun j hj => ?_); have hj : j = 0 := by simp at hj; exact hj
 subst hj; exact h.rawCell 0
theorem zq42 {p : Prop} (h : p := by (try dsimp only); exact (raw7S (show St W0 _ K (.raw wA _ _ :: L) by assumption))) : p := h
set_option maxHeartbeats 1000000 in
set_option maxRecDepth 100000 in
theorem ref07_write (x : RecS) (v : Value) (s : Bs) (hss : encR x = s) (hx : x.R) (hs : x.sum ≤ 1000000) {W0 w : World} {K : Know} {L : List Res} (hk : K.has (Know.flat RHdr v 3 x.hdrs)) (h : St W0 w K L) :
  Calls Tryz.prog 81 #[.agg #[.int .i64 x.time, .int .i64 x.off, .bool x.key.null, .string (bb x.key.data), .bool x.val.null, .string (bb x.val.data), v]] w fun en w' => en = .returned (.string (bb s)) ∧ St W0 w' K L := by
 obtain ⟨wA, hwA⟩ : ∃ b, w.heap.size = b := ⟨_, rfl⟩; have h0 := h.allocRaw #[.int .i64 x.time, .int .i64 x.off, .bool x.key.null, .string (bb x.key.data), .bool x.val.null, .string (bb x.val.data), v] 119; rw [hwA] at h0; have hle := recF_le x hx hs; have hsm := hs; unfold RecS.sum at hsm; have hsl := hsum_le x.hdrs; obtain ⟨f, hf⟩ : ∃ f, recF x = f := ⟨_, rfl⟩; obtain ⟨a1, e1⟩ : ∃ a, encI x.time = a := ⟨_, rfl⟩; obtain ⟨a2, e2⟩ : ∃ a, encI x.off = a := ⟨_, rfl⟩; obtain ⟨a3, e3⟩ : ∃ a, encV ⟨x.key.null, x.key.data⟩ = a := ⟨_, rfl⟩; obtain ⟨a4, e4⟩ : ∃ a, encV ⟨x.val.null, x.val.data⟩ = a := ⟨_, rfl⟩; obtain ⟨a5, e5⟩ : ∃ a, encHs x.hdrs = a := ⟨_, rfl⟩
 have hfe : f = [0] ++ (a1 ++ (a2 ++ (a3 ++ (a4 ++ a5)))) := by
  rw [← hf, ← e1, ← e2, ← e3, ← e4, ← e5]; rfl
 have hl := congrArg List.length hfe; simp only [List.length_append, List.length_cons, List.length_nil] at hl; rw [hf] at hle; have hfl : f.length ≤ 40000000 := by omega
 obtain ⟨a6, e6⟩ : ∃ a, encI f.length = a := ⟨_, rfl⟩; have h6 : a6.length ≤ 10 := by rw [← e6]; exact encI_le _ (by omega)
 have hse : s = a6 ++ f := by
  rw [← hss]; unfold encR encV; rw [hf, ← e6]; rfl
 have hz1 : ¬ (9223372036854775807 < 1 + a1.length) := by omega
 have hy1 : ¬ (9223372036854775807 < a1.length + 1) := by omega
 have hz2 : ¬ (9223372036854775807 < 1 + a1.length + a2.length) := by omega
 have hy2 : ¬ (9223372036854775807 < a1.length + 1 + a2.length) := by omega
 have hz3 : ¬ (9223372036854775807 < 1 + a1.length + a2.length + a3.length) := by omega
 have hy3 : ¬ (9223372036854775807 < a1.length + 1 + a2.length + a3.length) := by omega
 have hz4 : ¬ (9223372036854775807 < 1 + a1.length + a2.length + a3.length + a4.length) := by omega
 have hy4 : ¬ (9223372036854775807 < a1.length + 1 + a2.length + a3.length + a4.length) := by omega
 have hz5 : ¬ (9223372036854775807 < 1 + a1.length + a2.length + a3.length + a4.length + a5.length) := by omega
 have hy5 : ¬ (9223372036854775807 < a1.length + 1 + a2.length + a3.length + a4.length + a5.length) := by omega
 have hz6 : ¬ (9223372036854775807 < a6.length + f.length) := by omega
 have hw3 : ¬ (9223372036854775807 < a1.length + a2.length + 1 + a3.length) := by omega
 have hw4 : ¬ (9223372036854775807 < a1.length + a2.length + a3.length + 1 + a4.length) := by omega
 have hw5 : ¬ (9223372036854775807 < a1.length + a2.length + a3.length + a4.length + 1 + a5.length) := by omega
 have hv4 : ¬ (9223372036854775807 < a1.length + (a2.length + a3.length) + 1 + a4.length) := by omega
 have hv5 : ¬ (9223372036854775807 < a1.length + (a2.length + (a3.length + a4.length)) + 1 + a5.length) := by omega
 have E1 := Lib.hid e1; have E2 := Lib.hid e2; have E3 := Lib.hid e3; have E4 := Lib.hid e4; have E5 := Lib.hid e5; have E6 := Lib.hid e6; have R1 := Lib.hid hx.1; have R2 := Lib.hid hx.2; have R6 := Lib.hid (show -9223372036854775808 ≤ (f.length : Int) ∧ (f.length : Int) < 9223372036854775808 by omega); have B3 := Lib.hid (show x.key.data.length ≤ 70368744177664 by omega); have B4 := Lib.hid (show x.val.data.length ≤ 70368744177664 by omega); have B5 := Lib.hid (show hsize x.hdrs ≤ 70368744177664 by omega); have HK := Lib.hid hk; have HF := Lib.hid hfe; have HSE := Lib.hid hse; have H := Lib.hid h0; have hcat : ∀ B : Bs, (⟨#[0]⟩ : ByteArray) ++ bb B = bb (0 :: B) := fun B => bb_append [0] B
 clear h hk h0 hss hx hs hle hsm hsl hf hfl h6 hse hfe hl e1 e2 e3 e4 e5 e6; go_enter Tryz.func81, Tryz.ntmps81; go_wp2_with fail; have hst := H.out; have ⟨⟨c0, c1, c2, c3, c4, c5, c6⟩, _⟩ := raw7S H.out.drew; have hst := H.out.drew; have hst2 := (H.out.allocRaw #[.int .u8 0] 5).drew; rw [World.size_alloc, hwA] at hst2; have cb := conv_zero hst2; have hst3 := hst2.drop; go_cut [3] (fun s3 wx => s3 = .string (bb f) ∧ St W0 wx K (.raw wA #[.int .i64 x.time, .int .i64 x.off, .bool x.key.null, .string (bb x.key.data), .bool x.val.null, .string (bb x.val.data), v] 119 :: L))
 case first =>
  refine wp_region_held_drew (S := (fun w' => (w'.cell? ⟨wA, 0, none⟩ = some (.int .i64 x.time) ∧ w'.cell? ⟨wA, 1, none⟩ = some (.int .i64 x.off) ∧ w'.cell? ⟨wA, 2, none⟩ = some (.bool x.key.null) ∧ w'.cell? ⟨wA, 3, none⟩ = some (.string (bb x.key.data)) ∧ w'.cell? ⟨wA, 4, none⟩ = some (.bool x.val.null) ∧ w'.cell? ⟨wA, 5, none⟩ = some (.string (bb x.val.data)) ∧ w'.cell? ⟨wA, 6, none⟩ = some (v)) ∧ St W0 w' K (.raw wA #[.int .i64 x.time, .int .i64 x.off, .bool x.key.null, .string (bb x.key.data), .bool x.val.null, .string (bb x.val.data), v] 119 :: L))) (by kernel_rfl) (raw7S (show St W0 _ K (.raw wA _ _ :: L) by assumption)) (fun hHeld => ?_); refine tQ 2 ⟨some 6, .fieldAddr 119 (.tmp 1) 0, 0, _, _, none⟩ ?_; simp only [Act.put, sA, sB, sC]; refine tQ 3 ⟨some 7, .load 3 (.tmp 6), 3, _, _, none⟩ ?_; simp only [Act.put, sA, sB, sC]; refine tQ 6 ⟨some 10, .fieldAddr 119 (.tmp 1) 1, 0, _, _, none⟩ ?_; simp only [Act.put, sA, sB, sC]; refine tQ 7 ⟨some 11, .load 3 (.tmp 10), 3, _, _, none⟩ ?_; simp only [Act.put, sA, sB, sC]; refine tQ 10 ⟨some 14, .fieldAddr 119 (.tmp 1) 2, 0, _, _, none⟩ ?_; simp only [Act.put, sA, sB, sC]; refine tQ 11 ⟨some 15, .load 23 (.tmp 14), 23, _, _, none⟩ ?_; simp only [Act.put, sA, sB, sC]; refine tQ 14 ⟨some 18, .fieldAddr 119 (.tmp 1) 3, 0, _, _, none⟩ ?_; simp only [Act.put, sA, sB, sC]; refine tQ 15 ⟨some 19, .load 23 (.tmp 18), 23, _, _, none⟩ ?_; simp only [Act.put, sA, sB, sC]; refine tQ 18 ⟨some 22, .fieldAddr 119 (.tmp 1) 4, 0, _, _, none⟩ ?_; simp only [Act.put, sA, sB, sC]; refine tQ 19 ⟨some 23, .load 117 (.tmp 22), 117, _, _, none⟩ ?_; simp only [Act.put, sA, sB, sC]; refine wpAnyH_ready (rs := [0, 4]) (by kernel_rfl) (by simp) (AllReadyH.cons (o := ⟨some 4, .buildSlice 29 1 #[(0, .const (Value.int IntKind.u8 0))], 29, _, _, none⟩) rfl (fun KK hK => ?_) (AllReadyH.cons (o := ⟨some 8, .call { callee := .value (.func 110), args := #[.tmp 7], argTypes := #[3] }, 9, _, _, none⟩) rfl (fun KK hK => ?_) AllReadyH.nil))
  focus
   go_simp; refine hK.out _ _ zq42 (fun hHeld => ?_); clear hK KK
   try simp only [Act.put, sA, sB, sC]
   refine wpAnyH_ready (rs := [1, 4]) (by kernel_rfl) (by simp) (AllReadyH.cons (o := ⟨some 5, .convert 29 9 (.tmp 4), 9, _, _, none⟩) rfl (fun KK hK => ?_) (AllReadyH.cons (o := ⟨some 8, .call { callee := .value (.func 110), args := #[.tmp 7], argTypes := #[3] }, 9, _, _, none⟩) rfl (fun KK hK => ?_) AllReadyH.nil))
   focus
    go_simp; refine hK.out _ _ zq42 (fun hHeld => ?_); clear hK KK
    try simp only [Act.put, sA, sB, sC]
    refine wpAnyH_ready (rs := [4]) (by kernel_rfl) (by simp) (AllReadyH.cons (o := ⟨some 8, .call { callee := .value (.func 110), args := #[.tmp 7], argTypes := #[3] }, 9, _, _, none⟩) rfl (fun KK hK => ?_) AllReadyH.nil); go_simp
    (go_at_call 110; first | (with_reducible refine (ref06_intQ x.time a1 E1.out R1.out (show St W0 _ K (.raw _ #[.int .u8 0] _ :: .raw wA _ _ :: L) by assumption)).mono ?_; rintro e wn ⟨rfl, h⟩; have cb := conv_zero h; have hd := h.drop) | (with_reducible refine (ref06_intQ x.time a1 E1.out R1.out (show St W0 _ K (.raw wA _ _ :: L) by assumption)).mono ?_; rintro e wn ⟨rfl, h⟩; have hal := h.allocRaw #[.int .u8 0] 5; have cb := conv_zero hal; have hd := hal.drop))
    refine hK.out _ _ zq42 (fun hHeld => ?_); clear hK KK
    try simp only [Act.put, sA, sB, sC]
    refine tQ 5 ⟨some 9, .binOp .add 9 (.tmp 5) (.tmp 8) 9, 9, _, _, none⟩ ?_; simp only [Act.put, sA, sB, sC]; refine wpAnyH_ready (rs := [8]) (by kernel_rfl) (by simp) (AllReadyH.cons (o := ⟨some 12, .call { callee := .value (.func 110), args := #[.tmp 11], argTypes := #[3] }, 9, _, _, none⟩) rfl (fun KK hK => ?_) AllReadyH.nil); go_simp
    (go_at_call 110; first | (with_reducible refine (ref06_intQ x.off a2 E2.out R2.out (show St W0 _ K (.raw _ #[.int .u8 0] _ :: .raw wA _ _ :: L) by assumption)).mono ?_; rintro e wn ⟨rfl, h⟩; have cb := conv_zero h; have hd := h.drop) | (with_reducible refine (ref06_intQ x.off a2 E2.out R2.out (show St W0 _ K (.raw wA _ _ :: L) by assumption)).mono ?_; rintro e wn ⟨rfl, h⟩; have hal := h.allocRaw #[.int .u8 0] 5; have cb := conv_zero hal; have hd := hal.drop))
    refine hK.out _ _ zq42 (fun hHeld => ?_); clear hK KK
    try simp only [Act.put, sA, sB, sC]
    refine tQ 9 ⟨some 13, .binOp .add 9 (.tmp 9) (.tmp 12) 9, 9, _, _, none⟩ ?_; simp only [Act.put, sA, sB, sC]; refine wpAnyH_ready (rs := [12]) (by kernel_rfl) (by simp) (AllReadyH.cons (o := ⟨some 16, .call { callee := .value (.func 111), args := #[.tmp 15], argTypes := #[23] }, 9, _, _, none⟩) rfl (fun KK hK => ?_) AllReadyH.nil); go_simp
    (go_at_call 111; first | (with_reducible refine (ref04_variedQ x.key.null x.key.data a3 E3.out B3.out (show St W0 _ K (.raw _ #[.int .u8 0] _ :: .raw wA _ _ :: L) by assumption)).mono ?_; rintro e wn ⟨rfl, h⟩; have cb := conv_zero h; have hd := h.drop) | (with_reducible refine (ref04_variedQ x.key.null x.key.data a3 E3.out B3.out (show St W0 _ K (.raw wA _ _ :: L) by assumption)).mono ?_; rintro e wn ⟨rfl, h⟩; have hal := h.allocRaw #[.int .u8 0] 5; have cb := conv_zero hal; have hd := hal.drop))
    refine hK.out _ _ zq42 (fun hHeld => ?_); clear hK KK
    try simp only [Act.put, sA, sB, sC]
    refine tQ 13 ⟨some 17, .binOp .add 9 (.tmp 13) (.tmp 16) 9, 9, _, _, none⟩ ?_; simp only [Act.put, sA, sB, sC]; refine wpAnyH_ready (rs := [16]) (by kernel_rfl) (by simp) (AllReadyH.cons (o := ⟨some 20, .call { callee := .value (.func 111), args := #[.tmp 19], argTypes := #[23] }, 9, _, _, none⟩) rfl (fun KK hK => ?_) AllReadyH.nil); go_simp
    (go_at_call 111; first | (with_reducible refine (ref04_variedQ x.val.null x.val.data a4 E4.out B4.out (show St W0 _ K (.raw _ #[.int .u8 0] _ :: .raw wA _ _ :: L) by assumption)).mono ?_; rintro e wn ⟨rfl, h⟩; have cb := conv_zero h; have hd := h.drop) | (with_reducible refine (ref04_variedQ x.val.null x.val.data a4 E4.out B4.out (show St W0 _ K (.raw wA _ _ :: L) by assumption)).mono ?_; rintro e wn ⟨rfl, h⟩; have hal := h.allocRaw #[.int .u8 0] 5; have cb := conv_zero hal; have hd := hal.drop))
    refine hK.out _ _ zq42 (fun hHeld => ?_); clear hK KK
    try simp only [Act.put, sA, sB, sC]
    refine tQ 17 ⟨some 21, .binOp .add 9 (.tmp 17) (.tmp 20) 9, 9, _, _, none⟩ ?_; simp only [Act.put, sA, sB, sC]; refine wpAnyH_ready (rs := [20]) (by kernel_rfl) (by simp) (AllReadyH.cons (o := ⟨some 24, .call { callee := .value (.func 112), args := #[.tmp 23], argTypes := #[117] }, 9, _, _, none⟩) rfl (fun KK hK => ?_) AllReadyH.nil); go_simp
    (go_at_call 112; first | (with_reducible refine (ref06_writeQ v x.hdrs a5 E5.out B5.out HK.out (show St W0 _ K (.raw _ #[.int .u8 0] _ :: .raw wA _ _ :: L) by assumption)).mono ?_; rintro e wn ⟨rfl, h⟩; have cb := conv_zero h; have hd := h.drop) | (with_reducible refine (ref06_writeQ v x.hdrs a5 E5.out B5.out HK.out (show St W0 _ K (.raw wA _ _ :: L) by assumption)).mono ?_; rintro e wn ⟨rfl, h⟩; have hal := h.allocRaw #[.int .u8 0] 5; have cb := conv_zero hal; have hd := hal.drop))
    refine hK.out _ _ zq42 (fun hHeld => ?_); clear hK KK
    try simp only [Act.put, sA, sB, sC]
   rotate_left
   focus
    go_simp
    (go_at_call 110; first | (with_reducible refine (ref06_intQ x.time a1 E1.out R1.out (show St W0 _ K (.raw _ #[.int .u8 0] _ :: .raw wA _ _ :: L) by assumption)).mono ?_; rintro e wn ⟨rfl, h⟩; have cb := conv_zero h; have hd := h.drop) | (with_reducible refine (ref06_intQ x.time a1 E1.out R1.out (show St W0 _ K (.raw wA _ _ :: L) by assumption)).mono ?_; rintro e wn ⟨rfl, h⟩; have hal := h.allocRaw #[.int .u8 0] 5; have cb := conv_zero hal; have hd := hal.drop))
    refine hK.out _ _ zq42 (fun hHeld => ?_); clear hK KK
    try simp only [Act.put, sA, sB, sC]
    refine wpAnyH_ready (rs := [1, 8]) (by kernel_rfl) (by simp) (AllReadyH.cons (o := ⟨some 5, .convert 29 9 (.tmp 4), 9, _, _, none⟩) rfl (fun KK hK => ?_) (AllReadyH.cons (o := ⟨some 12, .call { callee := .value (.func 110), args := #[.tmp 11], argTypes := #[3] }, 9, _, _, none⟩) rfl (fun KK hK => ?_) AllReadyH.nil))
    focus
     go_simp; refine hK.out _ _ zq42 (fun hHeld => ?_); clear hK KK
     try simp only [Act.put, sA, sB, sC]
     refine tQ 5 ⟨some 9, .binOp .add 9 (.tmp 5) (.tmp 8) 9, 9, _, _, none⟩ ?_; simp only [Act.put, sA, sB, sC]; refine wpAnyH_ready (rs := [8]) (by kernel_rfl) (by simp) (AllReadyH.cons (o := ⟨some 12, .call { callee := .value (.func 110), args := #[.tmp 11], argTypes := #[3] }, 9, _, _, none⟩) rfl (fun KK hK => ?_) AllReadyH.nil); go_simp
     (go_at_call 110; first | (with_reducible refine (ref06_intQ x.off a2 E2.out R2.out (show St W0 _ K (.raw _ #[.int .u8 0] _ :: .raw wA _ _ :: L) by assumption)).mono ?_; rintro e wn ⟨rfl, h⟩; have cb := conv_zero h; have hd := h.drop) | (with_reducible refine (ref06_intQ x.off a2 E2.out R2.out (show St W0 _ K (.raw wA _ _ :: L) by assumption)).mono ?_; rintro e wn ⟨rfl, h⟩; have hal := h.allocRaw #[.int .u8 0] 5; have cb := conv_zero hal; have hd := hal.drop))
     refine hK.out _ _ zq42 (fun hHeld => ?_); clear hK KK
     try simp only [Act.put, sA, sB, sC]
     refine tQ 9 ⟨some 13, .binOp .add 9 (.tmp 9) (.tmp 12) 9, 9, _, _, none⟩ ?_; simp only [Act.put, sA, sB, sC]; refine wpAnyH_ready (rs := [12]) (by kernel_rfl) (by simp) (AllReadyH.cons (o := ⟨some 16, .call { callee := .value (.func 111), args := #[.tmp 15], argTypes := #[23] }, 9, _, _, none⟩) rfl (fun KK hK => ?_) AllReadyH.nil); go_simp
     (go_at_call 111; first | (with_reducible refine (ref04_variedQ x.key.null x.key.data a3 E3.out B3.out (show St W0 _ K (.raw _ #[.int .u8 0] _ :: .raw wA _ _ :: L) by assumption)).mono ?_; rintro e wn ⟨rfl, h⟩; have cb := conv_zero h; have hd := h.drop) | (with_reducible refine (ref04_variedQ x.key.null x.key.data a3 E3.out B3.out (show St W0 _ K (.raw wA _ _ :: L) by assumption)).mono ?_; rintro e wn ⟨rfl, h⟩; have hal := h.allocRaw #[.int .u8 0] 5; have cb := conv_zero hal; have hd := hal.drop))
     refine hK.out _ _ zq42 (fun hHeld => ?_); clear hK KK
     try simp only [Act.put, sA, sB, sC]
     refine tQ 13 ⟨some 17, .binOp .add 9 (.tmp 13) (.tmp 16) 9, 9, _, _, none⟩ ?_; simp only [Act.put, sA, sB, sC]; refine wpAnyH_ready (rs := [16]) (by kernel_rfl) (by simp) (AllReadyH.cons (o := ⟨some 20, .call { callee := .value (.func 111), args := #[.tmp 19], argTypes := #[23] }, 9, _, _, none⟩) rfl (fun KK hK => ?_) AllReadyH.nil); go_simp
     (go_at_call 111; first | (with_reducible refine (ref04_variedQ x.val.null x.val.data a4 E4.out B4.out (show St W0 _ K (.raw _ #[.int .u8 0] _ :: .raw wA _ _ :: L) by assumption)).mono ?_; rintro e wn ⟨rfl, h⟩; have cb := conv_zero h; have hd := h.drop) | (with_reducible refine (ref04_variedQ x.val.null x.val.data a4 E4.out B4.out (show St W0 _ K (.raw wA _ _ :: L) by assumption)).mono ?_; rintro e wn ⟨rfl, h⟩; have hal := h.allocRaw #[.int .u8 0] 5; have cb := conv_zero hal; have hd := hal.drop))
     refine hK.out _ _ zq42 (fun hHeld => ?_); clear hK KK
     try simp only [Act.put, sA, sB, sC]
     refine tQ 17 ⟨some 21, .binOp .add 9 (.tmp 17) (.tmp 20) 9, 9, _, _, none⟩ ?_; simp only [Act.put, sA, sB, sC]; refine wpAnyH_ready (rs := [20]) (by kernel_rfl) (by simp) (AllReadyH.cons (o := ⟨some 24, .call { callee := .value (.func 112), args := #[.tmp 23], argTypes := #[117] }, 9, _, _, none⟩) rfl (fun KK hK => ?_) AllReadyH.nil); go_simp
     (go_at_call 112; first | (with_reducible refine (ref06_writeQ v x.hdrs a5 E5.out B5.out HK.out (show St W0 _ K (.raw _ #[.int .u8 0] _ :: .raw wA _ _ :: L) by assumption)).mono ?_; rintro e wn ⟨rfl, h⟩; have cb := conv_zero h; have hd := h.drop) | (with_reducible refine (ref06_writeQ v x.hdrs a5 E5.out B5.out HK.out (show St W0 _ K (.raw wA _ _ :: L) by assumption)).mono ?_; rintro e wn ⟨rfl, h⟩; have hal := h.allocRaw #[.int .u8 0] 5; have cb := conv_zero hal; have hd := hal.drop))
     refine hK.out _ _ zq42 (fun hHeld => ?_); clear hK KK
     try simp only [Act.put, sA, sB, sC]
    rotate_left
    focus
     go_simp
     (go_at_call 110; first | (with_reducible refine (ref06_intQ x.off a2 E2.out R2.out (show St W0 _ K (.raw _ #[.int .u8 0] _ :: .raw wA _ _ :: L) by assumption)).mono ?_; rintro e wn ⟨rfl, h⟩; have cb := conv_zero h; have hd := h.drop) | (with_reducible refine (ref06_intQ x.off a2 E2.out R2.out (show St W0 _ K (.raw wA _ _ :: L) by assumption)).mono ?_; rintro e wn ⟨rfl, h⟩; have hal := h.allocRaw #[.int .u8 0] 5; have cb := conv_zero hal; have hd := hal.drop))
     refine hK.out _ _ zq42 (fun hHeld => ?_); clear hK KK
     try simp only [Act.put, sA, sB, sC]
     refine wpAnyH_ready (rs := [1, 12]) (by kernel_rfl) (by simp) (AllReadyH.cons (o := ⟨some 5, .convert 29 9 (.tmp 4), 9, _, _, none⟩) rfl (fun KK hK => ?_) (AllReadyH.cons (o := ⟨some 16, .call { callee := .value (.func 111), args := #[.tmp 15], argTypes := #[23] }, 9, _, _, none⟩) rfl (fun KK hK => ?_) AllReadyH.nil))
     focus
      go_simp; refine hK.out _ _ zq42 (fun hHeld => ?_); clear hK KK
      try simp only [Act.put, sA, sB, sC]
      refine tQ 5 ⟨some 9, .binOp .add 9 (.tmp 5) (.tmp 8) 9, 9, _, _, none⟩ ?_; simp only [Act.put, sA, sB, sC]; refine tQ 9 ⟨some 13, .binOp .add 9 (.tmp 9) (.tmp 12) 9, 9, _, _, none⟩ ?_; simp only [Act.put, sA, sB, sC]; refine wpAnyH_ready (rs := [12]) (by kernel_rfl) (by simp) (AllReadyH.cons (o := ⟨some 16, .call { callee := .value (.func 111), args := #[.tmp 15], argTypes := #[23] }, 9, _, _, none⟩) rfl (fun KK hK => ?_) AllReadyH.nil); go_simp
      (go_at_call 111; first | (with_reducible refine (ref04_variedQ x.key.null x.key.data a3 E3.out B3.out (show St W0 _ K (.raw _ #[.int .u8 0] _ :: .raw wA _ _ :: L) by assumption)).mono ?_; rintro e wn ⟨rfl, h⟩; have cb := conv_zero h; have hd := h.drop) | (with_reducible refine (ref04_variedQ x.key.null x.key.data a3 E3.out B3.out (show St W0 _ K (.raw wA _ _ :: L) by assumption)).mono ?_; rintro e wn ⟨rfl, h⟩; have hal := h.allocRaw #[.int .u8 0] 5; have cb := conv_zero hal; have hd := hal.drop))
      refine hK.out _ _ zq42 (fun hHeld => ?_); clear hK KK
      try simp only [Act.put, sA, sB, sC]
      refine tQ 13 ⟨some 17, .binOp .add 9 (.tmp 13) (.tmp 16) 9, 9, _, _, none⟩ ?_; simp only [Act.put, sA, sB, sC]; refine wpAnyH_ready (rs := [16]) (by kernel_rfl) (by simp) (AllReadyH.cons (o := ⟨some 20, .call { callee := .value (.func 111), args := #[.tmp 19], argTypes := #[23] }, 9, _, _, none⟩) rfl (fun KK hK => ?_) AllReadyH.nil); go_simp
      (go_at_call 111; first | (with_reducible refine (ref04_variedQ x.val.null x.val.data a4 E4.out B4.out (show St W0 _ K (.raw _ #[.int .u8 0] _ :: .raw wA _ _ :: L) by assumption)).mono ?_; rintro e wn ⟨rfl, h⟩; have cb := conv_zero h; have hd := h.drop) | (with_reducible refine (ref04_variedQ x.val.null x.val.data a4 E4.out B4.out (show St W0 _ K (.raw wA _ _ :: L) by assumption)).mono ?_; rintro e wn ⟨rfl, h⟩; have hal := h.allocRaw #[.int .u8 0] 5; have cb := conv_zero hal; have hd := hal.drop))
      refine hK.out _ _ zq42 (fun hHeld => ?_); clear hK KK
      try simp only [Act.put, sA, sB, sC]
      refine tQ 17 ⟨some 21, .binOp .add 9 (.tmp 17) (.tmp 20) 9, 9, _, _, none⟩ ?_; simp only [Act.put, sA, sB, sC]; refine wpAnyH_ready (rs := [20]) (by kernel_rfl) (by simp) (AllReadyH.cons (o := ⟨some 24, .call { callee := .value (.func 112), args := #[.tmp 23], argTypes := #[117] }, 9, _, _, none⟩) rfl (fun KK hK => ?_) AllReadyH.nil); go_simp
      (go_at_call 112; first | (with_reducible refine (ref06_writeQ v x.hdrs a5 E5.out B5.out HK.out (show St W0 _ K (.raw _ #[.int .u8 0] _ :: .raw wA _ _ :: L) by assumption)).mono ?_; rintro e wn ⟨rfl, h⟩; have cb := conv_zero h; have hd := h.drop) | (with_reducible refine (ref06_writeQ v x.hdrs a5 E5.out B5.out HK.out (show St W0 _ K (.raw wA _ _ :: L) by assumption)).mono ?_; rintro e wn ⟨rfl, h⟩; have hal := h.allocRaw #[.int .u8 0] 5; have cb := conv_zero hal; have hd := hal.drop))
      refine hK.out _ _ zq42 (fun hHeld => ?_); clear hK KK
      try simp only [Act.put, sA, sB, sC]
     rotate_left
     focus
      go_simp
      (go_at_call 111; first | (with_reducible refine (ref04_variedQ x.key.null x.key.data a3 E3.out B3.out (show St W0 _ K (.raw _ #[.int .u8 0] _ :: .raw wA _ _ :: L) by assumption)).mono ?_; rintro e wn ⟨rfl, h⟩; have cb := conv_zero h; have hd := h.drop) | (with_reducible refine (ref04_variedQ x.key.null x.key.data a3 E3.out B3.out (show St W0 _ K (.raw wA _ _ :: L) by assumption)).mono ?_; rintro e wn ⟨rfl, h⟩; have hal := h.allocRaw #[.int .u8 0] 5; have cb := conv_zero hal; have hd := hal.drop))
      refine hK.out _ _ zq42 (fun hHeld => ?_); clear hK KK
      try simp only [Act.put, sA, sB, sC]
      refine wpAnyH_ready (rs := [1, 16]) (by kernel_rfl) (by simp) (AllReadyH.cons (o := ⟨some 5, .convert 29 9 (.tmp 4), 9, _, _, none⟩) rfl (fun KK hK => ?_) (AllReadyH.cons (o := ⟨some 20, .call { callee := .value (.func 111), args := #[.tmp 19], argTypes := #[23] }, 9, _, _, none⟩) rfl (fun KK hK => ?_) AllReadyH.nil))
      focus
       go_simp; refine hK.out _ _ zq42 (fun hHeld => ?_); clear hK KK
       try simp only [Act.put, sA, sB, sC]
       refine tQ 5 ⟨some 9, .binOp .add 9 (.tmp 5) (.tmp 8) 9, 9, _, _, none⟩ ?_; simp only [Act.put, sA, sB, sC]; refine tQ 9 ⟨some 13, .binOp .add 9 (.tmp 9) (.tmp 12) 9, 9, _, _, none⟩ ?_; simp only [Act.put, sA, sB, sC]; refine tQ 13 ⟨some 17, .binOp .add 9 (.tmp 13) (.tmp 16) 9, 9, _, _, none⟩ ?_; simp only [Act.put, sA, sB, sC]; refine wpAnyH_ready (rs := [16]) (by kernel_rfl) (by simp) (AllReadyH.cons (o := ⟨some 20, .call { callee := .value (.func 111), args := #[.tmp 19], argTypes := #[23] }, 9, _, _, none⟩) rfl (fun KK hK => ?_) AllReadyH.nil); go_simp
       (go_at_call 111; first | (with_reducible refine (ref04_variedQ x.val.null x.val.data a4 E4.out B4.out (show St W0 _ K (.raw _ #[.int .u8 0] _ :: .raw wA _ _ :: L) by assumption)).mono ?_; rintro e wn ⟨rfl, h⟩; have cb := conv_zero h; have hd := h.drop) | (with_reducible refine (ref04_variedQ x.val.null x.val.data a4 E4.out B4.out (show St W0 _ K (.raw wA _ _ :: L) by assumption)).mono ?_; rintro e wn ⟨rfl, h⟩; have hal := h.allocRaw #[.int .u8 0] 5; have cb := conv_zero hal; have hd := hal.drop))
       refine hK.out _ _ zq42 (fun hHeld => ?_); clear hK KK
       try simp only [Act.put, sA, sB, sC]
       refine tQ 17 ⟨some 21, .binOp .add 9 (.tmp 17) (.tmp 20) 9, 9, _, _, none⟩ ?_; simp only [Act.put, sA, sB, sC]; refine wpAnyH_ready (rs := [20]) (by kernel_rfl) (by simp) (AllReadyH.cons (o := ⟨some 24, .call { callee := .value (.func 112), args := #[.tmp 23], argTypes := #[117] }, 9, _, _, none⟩) rfl (fun KK hK => ?_) AllReadyH.nil); go_simp
       (go_at_call 112; first | (with_reducible refine (ref06_writeQ v x.hdrs a5 E5.out B5.out HK.out (show St W0 _ K (.raw _ #[.int .u8 0] _ :: .raw wA _ _ :: L) by assumption)).mono ?_; rintro e wn ⟨rfl, h⟩; have cb := conv_zero h; have hd := h.drop) | (with_reducible refine (ref06_writeQ v x.hdrs a5 E5.out B5.out HK.out (show St W0 _ K (.raw wA _ _ :: L) by assumption)).mono ?_; rintro e wn ⟨rfl, h⟩; have hal := h.allocRaw #[.int .u8 0] 5; have cb := conv_zero hal; have hd := hal.drop))
       refine hK.out _ _ zq42 (fun hHeld => ?_); clear hK KK
       try simp only [Act.put, sA, sB, sC]
      rotate_left
      focus
       go_simp
       (go_at_call 111; first | (with_reducible refine (ref04_variedQ x.val.null x.val.data a4 E4.out B4.out (show St W0 _ K (.raw _ #[.int .u8 0] _ :: .raw wA _ _ :: L) by assumption)).mono ?_; rintro e wn ⟨rfl, h⟩; have cb := conv_zero h; have hd := h.drop) | (with_reducible refine (ref04_variedQ x.val.null x.val.data a4 E4.out B4.out (show St W0 _ K (.raw wA _ _ :: L) by assumption)).mono ?_; rintro e wn ⟨rfl, h⟩; have hal := h.allocRaw #[.int .u8 0] 5; have cb := conv_zero hal; have hd := hal.drop))
       refine hK.out _ _ zq42 (fun hHeld => ?_); clear hK KK
       try simp only [Act.put, sA, sB, sC]
       refine wpAnyH_ready (rs := [1, 20]) (by kernel_rfl) (by simp) (AllReadyH.cons (o := ⟨some 5, .convert 29 9 (.tmp 4), 9, _, _, none⟩) rfl (fun KK hK => ?_) (AllReadyH.cons (o := ⟨some 24, .call { callee := .value (.func 112), args := #[.tmp 23], argTypes := #[117] }, 9, _, _, none⟩) rfl (fun KK hK => ?_) AllReadyH.nil))
       focus
        go_simp; refine hK.out _ _ zq42 (fun hHeld => ?_); clear hK KK
        try simp only [Act.put, sA, sB, sC]
        refine tQ 5 ⟨some 9, .binOp .add 9 (.tmp 5) (.tmp 8) 9, 9, _, _, none⟩ ?_; simp only [Act.put, sA, sB, sC]; refine tQ 9 ⟨some 13, .binOp .add 9 (.tmp 9) (.tmp 12) 9, 9, _, _, none⟩ ?_; simp only [Act.put, sA, sB, sC]; refine tQ 13 ⟨some 17, .binOp .add 9 (.tmp 13) (.tmp 16) 9, 9, _, _, none⟩ ?_; simp only [Act.put, sA, sB, sC]; refine tQ 17 ⟨some 21, .binOp .add 9 (.tmp 17) (.tmp 20) 9, 9, _, _, none⟩ ?_; simp only [Act.put, sA, sB, sC]; refine wpAnyH_ready (rs := [20]) (by kernel_rfl) (by simp) (AllReadyH.cons (o := ⟨some 24, .call { callee := .value (.func 112), args := #[.tmp 23], argTypes := #[117] }, 9, _, _, none⟩) rfl (fun KK hK => ?_) AllReadyH.nil); go_simp
        (go_at_call 112; first | (with_reducible refine (ref06_writeQ v x.hdrs a5 E5.out B5.out HK.out (show St W0 _ K (.raw _ #[.int .u8 0] _ :: .raw wA _ _ :: L) by assumption)).mono ?_; rintro e wn ⟨rfl, h⟩; have cb := conv_zero h; have hd := h.drop) | (with_reducible refine (ref06_writeQ v x.hdrs a5 E5.out B5.out HK.out (show St W0 _ K (.raw wA _ _ :: L) by assumption)).mono ?_; rintro e wn ⟨rfl, h⟩; have hal := h.allocRaw #[.int .u8 0] 5; have cb := conv_zero hal; have hd := hal.drop))
        refine hK.out _ _ zq42 (fun hHeld => ?_); clear hK KK
        try simp only [Act.put, sA, sB, sC]
       rotate_left
       focus
        go_simp
        (go_at_call 112; first | (with_reducible refine (ref06_writeQ v x.hdrs a5 E5.out B5.out HK.out (show St W0 _ K (.raw _ #[.int .u8 0] _ :: .raw wA _ _ :: L) by assumption)).mono ?_; rintro e wn ⟨rfl, h⟩; have cb := conv_zero h; have hd := h.drop) | (with_reducible refine (ref06_writeQ v x.hdrs a5 E5.out B5.out HK.out (show St W0 _ K (.raw wA _ _ :: L) by assumption)).mono ?_; rintro e wn ⟨rfl, h⟩; have hal := h.allocRaw #[.int .u8 0] 5; have cb := conv_zero hal; have hd := hal.drop))
        refine hK.out _ _ zq42 (fun hHeld => ?_); clear hK KK
        try simp only [Act.put, sA, sB, sC]
        refine wpAnyH_ready (rs := [1]) (by kernel_rfl) (by simp) (AllReadyH.cons (o := ⟨some 5, .convert 29 9 (.tmp 4), 9, _, _, none⟩) rfl (fun KK hK => ?_) AllReadyH.nil); go_simp; refine hK.out _ _ zq42 (fun hHeld => ?_); clear hK KK
        try simp only [Act.put, sA, sB, sC]
        refine tQ 5 ⟨some 9, .binOp .add 9 (.tmp 5) (.tmp 8) 9, 9, _, _, none⟩ ?_; simp only [Act.put, sA, sB, sC]; refine tQ 9 ⟨some 13, .binOp .add 9 (.tmp 9) (.tmp 12) 9, 9, _, _, none⟩ ?_; simp only [Act.put, sA, sB, sC]; refine tQ 13 ⟨some 17, .binOp .add 9 (.tmp 13) (.tmp 16) 9, 9, _, _, none⟩ ?_; simp only [Act.put, sA, sB, sC]; refine tQ 17 ⟨some 21, .binOp .add 9 (.tmp 17) (.tmp 20) 9, 9, _, _, none⟩ ?_; simp only [Act.put, sA, sB, sC]
  rotate_left 6
  focus
   go_simp
   (go_at_call 110; first | (with_reducible refine (ref06_intQ x.time a1 E1.out R1.out (show St W0 _ K (.raw _ #[.int .u8 0] _ :: .raw wA _ _ :: L) by assumption)).mono ?_; rintro e wn ⟨rfl, h⟩; have cb := conv_zero h; have hd := h.drop) | (with_reducible refine (ref06_intQ x.time a1 E1.out R1.out (show St W0 _ K (.raw wA _ _ :: L) by assumption)).mono ?_; rintro e wn ⟨rfl, h⟩; have hal := h.allocRaw #[.int .u8 0] 5; have cb := conv_zero hal; have hd := hal.drop))
   refine hK.out _ _ zq42 (fun hHeld => ?_); clear hK KK
   try simp only [Act.put, sA, sB, sC]
   refine wpAnyH_ready (rs := [0, 8]) (by kernel_rfl) (by simp) (AllReadyH.cons (o := ⟨some 4, .buildSlice 29 1 #[(0, .const (Value.int IntKind.u8 0))], 29, _, _, none⟩) rfl (fun KK hK => ?_) (AllReadyH.cons (o := ⟨some 12, .call { callee := .value (.func 110), args := #[.tmp 11], argTypes := #[3] }, 9, _, _, none⟩) rfl (fun KK hK => ?_) AllReadyH.nil))
   focus
    go_simp; refine hK.out _ _ zq42 (fun hHeld => ?_); clear hK KK
    try simp only [Act.put, sA, sB, sC]
    refine wpAnyH_ready (rs := [1, 8]) (by kernel_rfl) (by simp) (AllReadyH.cons (o := ⟨some 5, .convert 29 9 (.tmp 4), 9, _, _, none⟩) rfl (fun KK hK => ?_) (AllReadyH.cons (o := ⟨some 12, .call { callee := .value (.func 110), args := #[.tmp 11], argTypes := #[3] }, 9, _, _, none⟩) rfl (fun KK hK => ?_) AllReadyH.nil))
    focus
     go_simp; refine hK.out _ _ zq42 (fun hHeld => ?_); clear hK KK
     try simp only [Act.put, sA, sB, sC]
     refine tQ 5 ⟨some 9, .binOp .add 9 (.tmp 5) (.tmp 8) 9, 9, _, _, none⟩ ?_; simp only [Act.put, sA, sB, sC]; refine wpAnyH_ready (rs := [8]) (by kernel_rfl) (by simp) (AllReadyH.cons (o := ⟨some 12, .call { callee := .value (.func 110), args := #[.tmp 11], argTypes := #[3] }, 9, _, _, none⟩) rfl (fun KK hK => ?_) AllReadyH.nil); go_simp
     (go_at_call 110; first | (with_reducible refine (ref06_intQ x.off a2 E2.out R2.out (show St W0 _ K (.raw _ #[.int .u8 0] _ :: .raw wA _ _ :: L) by assumption)).mono ?_; rintro e wn ⟨rfl, h⟩; have cb := conv_zero h; have hd := h.drop) | (with_reducible refine (ref06_intQ x.off a2 E2.out R2.out (show St W0 _ K (.raw wA _ _ :: L) by assumption)).mono ?_; rintro e wn ⟨rfl, h⟩; have hal := h.allocRaw #[.int .u8 0] 5; have cb := conv_zero hal; have hd := hal.drop))
     refine hK.out _ _ zq42 (fun hHeld => ?_); clear hK KK
     try simp only [Act.put, sA, sB, sC]
     refine tQ 9 ⟨some 13, .binOp .add 9 (.tmp 9) (.tmp 12) 9, 9, _, _, none⟩ ?_; simp only [Act.put, sA, sB, sC]; refine wpAnyH_ready (rs := [12]) (by kernel_rfl) (by simp) (AllReadyH.cons (o := ⟨some 16, .call { callee := .value (.func 111), args := #[.tmp 15], argTypes := #[23] }, 9, _, _, none⟩) rfl (fun KK hK => ?_) AllReadyH.nil); go_simp
     (go_at_call 111; first | (with_reducible refine (ref04_variedQ x.key.null x.key.data a3 E3.out B3.out (show St W0 _ K (.raw _ #[.int .u8 0] _ :: .raw wA _ _ :: L) by assumption)).mono ?_; rintro e wn ⟨rfl, h⟩; have cb := conv_zero h; have hd := h.drop) | (with_reducible refine (ref04_variedQ x.key.null x.key.data a3 E3.out B3.out (show St W0 _ K (.raw wA _ _ :: L) by assumption)).mono ?_; rintro e wn ⟨rfl, h⟩; have hal := h.allocRaw #[.int .u8 0] 5; have cb := conv_zero hal; have hd := hal.drop))
     refine hK.out _ _ zq42 (fun hHeld => ?_); clear hK KK
     try simp only [Act.put, sA, sB, sC]
     refine tQ 13 ⟨some 17, .binOp .add 9 (.tmp 13) (.tmp 16) 9, 9, _, _, none⟩ ?_; simp only [Act.put, sA, sB, sC]; refine wpAnyH_ready (rs := [16]) (by kernel_rfl) (by simp) (AllReadyH.cons (o := ⟨some 20, .call { callee := .value (.func 111), args := #[.tmp 19], argTypes := #[23] }, 9, _, _, none⟩) rfl (fun KK hK => ?_) AllReadyH.nil); go_simp
     (go_at_call 111; first | (with_reducible refine (ref04_variedQ x.val.null x.val.data a4 E4.out B4.out (show St W0 _ K (.raw _ #[.int .u8 0] _ :: .raw wA _ _ :: L) by assumption)).mono ?_; rintro e wn ⟨rfl, h⟩; have cb := conv_zero h; have hd := h.drop) | (with_reducible refine (ref04_variedQ x.val.null x.val.data a4 E4.out B4.out (show St W0 _ K (.raw wA _ _ :: L) by assumption)).mono ?_; rintro e wn ⟨rfl, h⟩; have hal := h.allocRaw #[.int .u8 0] 5; have cb := conv_zero hal; have hd := hal.drop))
     refine hK.out _ _ zq42 (fun hHeld => ?_); clear hK KK
     try simp only [Act.put, sA, sB, sC]
     refine tQ 17 ⟨some 21, .binOp .add 9 (.tmp 17) (.tmp 20) 9, 9, _, _, none⟩ ?_; simp only [Act.put, sA, sB, sC]; refine wpAnyH_ready (rs := [20]) (by kernel_rfl) (by simp) (AllReadyH.cons (o := ⟨some 24, .call { callee := .value (.func 112), args := #[.tmp 23], argTypes := #[117] }, 9, _, _, none⟩) rfl (fun KK hK => ?_) AllReadyH.nil); go_simp
     (go_at_call 112; first | (with_reducible refine (ref06_writeQ v x.hdrs a5 E5.out B5.out HK.out (show St W0 _ K (.raw _ #[.int .u8 0] _ :: .raw wA _ _ :: L) by assumption)).mono ?_; rintro e wn ⟨rfl, h⟩; have cb := conv_zero h; have hd := h.drop) | (with_reducible refine (ref06_writeQ v x.hdrs a5 E5.out B5.out HK.out (show St W0 _ K (.raw wA _ _ :: L) by assumption)).mono ?_; rintro e wn ⟨rfl, h⟩; have hal := h.allocRaw #[.int .u8 0] 5; have cb := conv_zero hal; have hd := hal.drop))
     refine hK.out _ _ zq42 (fun hHeld => ?_); clear hK KK
     try simp only [Act.put, sA, sB, sC]
    rotate_left
    focus
     go_simp
     (go_at_call 110; first | (with_reducible refine (ref06_intQ x.off a2 E2.out R2.out (show St W0 _ K (.raw _ #[.int .u8 0] _ :: .raw wA _ _ :: L) by assumption)).mono ?_; rintro e wn ⟨rfl, h⟩; have cb := conv_zero h; have hd := h.drop) | (with_reducible refine (ref06_intQ x.off a2 E2.out R2.out (show St W0 _ K (.raw wA _ _ :: L) by assumption)).mono ?_; rintro e wn ⟨rfl, h⟩; have hal := h.allocRaw #[.int .u8 0] 5; have cb := conv_zero hal; have hd := hal.drop))
     refine hK.out _ _ zq42 (fun hHeld => ?_); clear hK KK
     try simp only [Act.put, sA, sB, sC]
     refine wpAnyH_ready (rs := [1, 12]) (by kernel_rfl) (by simp) (AllReadyH.cons (o := ⟨some 5, .convert 29 9 (.tmp 4), 9, _, _, none⟩) rfl (fun KK hK => ?_) (AllReadyH.cons (o := ⟨some 16, .call { callee := .value (.func 111), args := #[.tmp 15], argTypes := #[23] }, 9, _, _, none⟩) rfl (fun KK hK => ?_) AllReadyH.nil))
     focus
      go_simp; refine hK.out _ _ zq42 (fun hHeld => ?_); clear hK KK
      try simp only [Act.put, sA, sB, sC]
      refine tQ 5 ⟨some 9, .binOp .add 9 (.tmp 5) (.tmp 8) 9, 9, _, _, none⟩ ?_; simp only [Act.put, sA, sB, sC]; refine tQ 9 ⟨some 13, .binOp .add 9 (.tmp 9) (.tmp 12) 9, 9, _, _, none⟩ ?_; simp only [Act.put, sA, sB, sC]; refine wpAnyH_ready (rs := [12]) (by kernel_rfl) (by simp) (AllReadyH.cons (o := ⟨some 16, .call { callee := .value (.func 111), args := #[.tmp 15], argTypes := #[23] }, 9, _, _, none⟩) rfl (fun KK hK => ?_) AllReadyH.nil); go_simp
      (go_at_call 111; first | (with_reducible refine (ref04_variedQ x.key.null x.key.data a3 E3.out B3.out (show St W0 _ K (.raw _ #[.int .u8 0] _ :: .raw wA _ _ :: L) by assumption)).mono ?_; rintro e wn ⟨rfl, h⟩; have cb := conv_zero h; have hd := h.drop) | (with_reducible refine (ref04_variedQ x.key.null x.key.data a3 E3.out B3.out (show St W0 _ K (.raw wA _ _ :: L) by assumption)).mono ?_; rintro e wn ⟨rfl, h⟩; have hal := h.allocRaw #[.int .u8 0] 5; have cb := conv_zero hal; have hd := hal.drop))
      refine hK.out _ _ zq42 (fun hHeld => ?_); clear hK KK
      try simp only [Act.put, sA, sB, sC]
      refine tQ 13 ⟨some 17, .binOp .add 9 (.tmp 13) (.tmp 16) 9, 9, _, _, none⟩ ?_; simp only [Act.put, sA, sB, sC]; refine wpAnyH_ready (rs := [16]) (by kernel_rfl) (by simp) (AllReadyH.cons (o := ⟨some 20, .call { callee := .value (.func 111), args := #[.tmp 19], argTypes := #[23] }, 9, _, _, none⟩) rfl (fun KK hK => ?_) AllReadyH.nil); go_simp
      (go_at_call 111; first | (with_reducible refine (ref04_variedQ x.val.null x.val.data a4 E4.out B4.out (show St W0 _ K (.raw _ #[.int .u8 0] _ :: .raw wA _ _ :: L) by assumption)).mono ?_; rintro e wn ⟨rfl, h⟩; have cb := conv_zero h; have hd := h.drop) | (with_reducible refine (ref04_variedQ x.val.null x.val.data a4 E4.out B4.out (show St W0 _ K (.raw wA _ _ :: L) by assumption)).mono ?_; rintro e wn ⟨rfl, h⟩; have hal := h.allocRaw #[.int .u8 0] 5; have cb := conv_zero hal; have hd := hal.drop))
      refine hK.out _ _ zq42 (fun hHeld => ?_); clear hK KK
      try simp only [Act.put, sA, sB, sC]
      refine tQ 17 ⟨some 21, .binOp .add 9 (.tmp 17) (.tmp 20) 9, 9, _, _, none⟩ ?_; simp only [Act.put, sA, sB, sC]; refine wpAnyH_ready (rs := [20]) (by kernel_rfl) (by simp) (AllReadyH.cons (o := ⟨some 24, .call { callee := .value (.func 112), args := #[.tmp 23], argTypes := #[117] }, 9, _, _, none⟩) rfl (fun KK hK => ?_) AllReadyH.nil); go_simp
      (go_at_call 112; first | (with_reducible refine (ref06_writeQ v x.hdrs a5 E5.out B5.out HK.out (show St W0 _ K (.raw _ #[.int .u8 0] _ :: .raw wA _ _ :: L) by assumption)).mono ?_; rintro e wn ⟨rfl, h⟩; have cb := conv_zero h; have hd := h.drop) | (with_reducible refine (ref06_writeQ v x.hdrs a5 E5.out B5.out HK.out (show St W0 _ K (.raw wA _ _ :: L) by assumption)).mono ?_; rintro e wn ⟨rfl, h⟩; have hal := h.allocRaw #[.int .u8 0] 5; have cb := conv_zero hal; have hd := hal.drop))
      refine hK.out _ _ zq42 (fun hHeld => ?_); clear hK KK
      try simp only [Act.put, sA, sB, sC]
     rotate_left
     focus
      go_simp
      (go_at_call 111; first | (with_reducible refine (ref04_variedQ x.key.null x.key.data a3 E3.out B3.out (show St W0 _ K (.raw _ #[.int .u8 0] _ :: .raw wA _ _ :: L) by assumption)).mono ?_; rintro e wn ⟨rfl, h⟩; have cb := conv_zero h; have hd := h.drop) | (with_reducible refine (ref04_variedQ x.key.null x.key.data a3 E3.out B3.out (show St W0 _ K (.raw wA _ _ :: L) by assumption)).mono ?_; rintro e wn ⟨rfl, h⟩; have hal := h.allocRaw #[.int .u8 0] 5; have cb := conv_zero hal; have hd := hal.drop))
      refine hK.out _ _ zq42 (fun hHeld => ?_); clear hK KK
      try simp only [Act.put, sA, sB, sC]
      refine wpAnyH_ready (rs := [1, 16]) (by kernel_rfl) (by simp) (AllReadyH.cons (o := ⟨some 5, .convert 29 9 (.tmp 4), 9, _, _, none⟩) rfl (fun KK hK => ?_) (AllReadyH.cons (o := ⟨some 20, .call { callee := .value (.func 111), args := #[.tmp 19], argTypes := #[23] }, 9, _, _, none⟩) rfl (fun KK hK => ?_) AllReadyH.nil))
      focus
       go_simp; refine hK.out _ _ zq42 (fun hHeld => ?_); clear hK KK
       try simp only [Act.put, sA, sB, sC]
       refine tQ 5 ⟨some 9, .binOp .add 9 (.tmp 5) (.tmp 8) 9, 9, _, _, none⟩ ?_; simp only [Act.put, sA, sB, sC]; refine tQ 9 ⟨some 13, .binOp .add 9 (.tmp 9) (.tmp 12) 9, 9, _, _, none⟩ ?_; simp only [Act.put, sA, sB, sC]; refine tQ 13 ⟨some 17, .binOp .add 9 (.tmp 13) (.tmp 16) 9, 9, _, _, none⟩ ?_; simp only [Act.put, sA, sB, sC]; refine wpAnyH_ready (rs := [16]) (by kernel_rfl) (by simp) (AllReadyH.cons (o := ⟨some 20, .call { callee := .value (.func 111), args := #[.tmp 19], argTypes := #[23] }, 9, _, _, none⟩) rfl (fun KK hK => ?_) AllReadyH.nil); go_simp
       (go_at_call 111; first | (with_reducible refine (ref04_variedQ x.val.null x.val.data a4 E4.out B4.out (show St W0 _ K (.raw _ #[.int .u8 0] _ :: .raw wA _ _ :: L) by assumption)).mono ?_; rintro e wn ⟨rfl, h⟩; have cb := conv_zero h; have hd := h.drop) | (with_reducible refine (ref04_variedQ x.val.null x.val.data a4 E4.out B4.out (show St W0 _ K (.raw wA _ _ :: L) by assumption)).mono ?_; rintro e wn ⟨rfl, h⟩; have hal := h.allocRaw #[.int .u8 0] 5; have cb := conv_zero hal; have hd := hal.drop))
       refine hK.out _ _ zq42 (fun hHeld => ?_); clear hK KK
       try simp only [Act.put, sA, sB, sC]
       refine tQ 17 ⟨some 21, .binOp .add 9 (.tmp 17) (.tmp 20) 9, 9, _, _, none⟩ ?_; simp only [Act.put, sA, sB, sC]; refine wpAnyH_ready (rs := [20]) (by kernel_rfl) (by simp) (AllReadyH.cons (o := ⟨some 24, .call { callee := .value (.func 112), args := #[.tmp 23], argTypes := #[117] }, 9, _, _, none⟩) rfl (fun KK hK => ?_) AllReadyH.nil); go_simp
       (go_at_call 112; first | (with_reducible refine (ref06_writeQ v x.hdrs a5 E5.out B5.out HK.out (show St W0 _ K (.raw _ #[.int .u8 0] _ :: .raw wA _ _ :: L) by assumption)).mono ?_; rintro e wn ⟨rfl, h⟩; have cb := conv_zero h; have hd := h.drop) | (with_reducible refine (ref06_writeQ v x.hdrs a5 E5.out B5.out HK.out (show St W0 _ K (.raw wA _ _ :: L) by assumption)).mono ?_; rintro e wn ⟨rfl, h⟩; have hal := h.allocRaw #[.int .u8 0] 5; have cb := conv_zero hal; have hd := hal.drop))
       refine hK.out _ _ zq42 (fun hHeld => ?_); clear hK KK
       try simp only [Act.put, sA, sB, sC]
      rotate_left
      focus
       go_simp
       (go_at_call 111; first | (with_reducible refine (ref04_variedQ x.val.null x.val.data a4 E4.out B4.out (show St W0 _ K (.raw _ #[.int .u8 0] _ :: .raw wA _ _ :: L) by assumption)).mono ?_; rintro e wn ⟨rfl, h⟩; have cb := conv_zero h; have hd := h.drop) | (with_reducible refine (ref04_variedQ x.val.null x.val.data a4 E4.out B4.out (show St W0 _ K (.raw wA _ _ :: L) by assumption)).mono ?_; rintro e wn ⟨rfl, h⟩; have hal := h.allocRaw #[.int .u8 0] 5; have cb := conv_zero hal; have hd := hal.drop))
       refine hK.out _ _ zq42 (fun hHeld => ?_); clear hK KK
       try simp only [Act.put, sA, sB, sC]
       refine wpAnyH_ready (rs := [1, 20]) (by kernel_rfl) (by simp) (AllReadyH.cons (o := ⟨some 5, .convert 29 9 (.tmp 4), 9, _, _, none⟩) rfl (fun KK hK => ?_) (AllReadyH.cons (o := ⟨some 24, .call { callee := .value (.func 112), args := #[.tmp 23], argTypes := #[117] }, 9, _, _, none⟩) rfl (fun KK hK => ?_) AllReadyH.nil))
       focus
        go_simp; refine hK.out _ _ zq42 (fun hHeld => ?_); clear hK KK
        try simp only [Act.put, sA, sB, sC]
        refine tQ 5 ⟨some 9, .binOp .add 9 (.tmp 5) (.tmp 8) 9, 9, _, _, none⟩ ?_; simp only [Act.put, sA, sB, sC]; refine tQ 9 ⟨some 13, .binOp .add 9 (.tmp 9) (.tmp 12) 9, 9, _, _, none⟩ ?_; simp only [Act.put, sA, sB, sC]; refine tQ 13 ⟨some 17, .binOp .add 9 (.tmp 13) (.tmp 16) 9, 9, _, _, none⟩ ?_; simp only [Act.put, sA, sB, sC]; refine tQ 17 ⟨some 21, .binOp .add 9 (.tmp 17) (.tmp 20) 9, 9, _, _, none⟩ ?_; simp only [Act.put, sA, sB, sC]; refine wpAnyH_ready (rs := [20]) (by kernel_rfl) (by simp) (AllReadyH.cons (o := ⟨some 24, .call { callee := .value (.func 112), args := #[.tmp 23], argTypes := #[117] }, 9, _, _, none⟩) rfl (fun KK hK => ?_) AllReadyH.nil); go_simp
        (go_at_call 112; first | (with_reducible refine (ref06_writeQ v x.hdrs a5 E5.out B5.out HK.out (show St W0 _ K (.raw _ #[.int .u8 0] _ :: .raw wA _ _ :: L) by assumption)).mono ?_; rintro e wn ⟨rfl, h⟩; have cb := conv_zero h; have hd := h.drop) | (with_reducible refine (ref06_writeQ v x.hdrs a5 E5.out B5.out HK.out (show St W0 _ K (.raw wA _ _ :: L) by assumption)).mono ?_; rintro e wn ⟨rfl, h⟩; have hal := h.allocRaw #[.int .u8 0] 5; have cb := conv_zero hal; have hd := hal.drop))
        refine hK.out _ _ zq42 (fun hHeld => ?_); clear hK KK
        try simp only [Act.put, sA, sB, sC]
       rotate_left
       focus
        go_simp
        (go_at_call 112; first | (with_reducible refine (ref06_writeQ v x.hdrs a5 E5.out B5.out HK.out (show St W0 _ K (.raw _ #[.int .u8 0] _ :: .raw wA _ _ :: L) by assumption)).mono ?_; rintro e wn ⟨rfl, h⟩; have cb := conv_zero h; have hd := h.drop) | (with_reducible refine (ref06_writeQ v x.hdrs a5 E5.out B5.out HK.out (show St W0 _ K (.raw wA _ _ :: L) by assumption)).mono ?_; rintro e wn ⟨rfl, h⟩; have hal := h.allocRaw #[.int .u8 0] 5; have cb := conv_zero hal; have hd := hal.drop))
        refine hK.out _ _ zq42 (fun hHeld => ?_); clear hK KK
        try simp only [Act.put, sA, sB, sC]
        refine wpAnyH_ready (rs := [1]) (by kernel_rfl) (by simp) (AllReadyH.cons (o := ⟨some 5, .convert 29 9 (.tmp 4), 9, _, _, none⟩) rfl (fun KK hK => ?_) AllReadyH.nil); go_simp; refine hK.out _ _ zq42 (fun hHeld => ?_); clear hK KK
        try simp only [Act.put, sA, sB, sC]
        refine tQ 5 ⟨some 9, .binOp .add 9 (.tmp 5) (.tmp 8) 9, 9, _, _, none⟩ ?_; simp only [Act.put, sA, sB, sC]; refine tQ 9 ⟨some 13, .binOp .add 9 (.tmp 9) (.tmp 12) 9, 9, _, _, none⟩ ?_; simp only [Act.put, sA, sB, sC]; refine tQ 13 ⟨some 17, .binOp .add 9 (.tmp 13) (.tmp 16) 9, 9, _, _, none⟩ ?_; simp only [Act.put, sA, sB, sC]; refine tQ 17 ⟨some 21, .binOp .add 9 (.tmp 17) (.tmp 20) 9, 9, _, _, none⟩ ?_; simp only [Act.put, sA, sB, sC]
   rotate_left 5
   focus
    go_simp
    (go_at_call 110; first | (with_reducible refine (ref06_intQ x.off a2 E2.out R2.out (show St W0 _ K (.raw _ #[.int .u8 0] _ :: .raw wA _ _ :: L) by assumption)).mono ?_; rintro e wn ⟨rfl, h⟩; have cb := conv_zero h; have hd := h.drop) | (with_reducible refine (ref06_intQ x.off a2 E2.out R2.out (show St W0 _ K (.raw wA _ _ :: L) by assumption)).mono ?_; rintro e wn ⟨rfl, h⟩; have hal := h.allocRaw #[.int .u8 0] 5; have cb := conv_zero hal; have hd := hal.drop))
    refine hK.out _ _ zq42 (fun hHeld => ?_); clear hK KK
    try simp only [Act.put, sA, sB, sC]
    refine wpAnyH_ready (rs := [0, 12]) (by kernel_rfl) (by simp) (AllReadyH.cons (o := ⟨some 4, .buildSlice 29 1 #[(0, .const (Value.int IntKind.u8 0))], 29, _, _, none⟩) rfl (fun KK hK => ?_) (AllReadyH.cons (o := ⟨some 16, .call { callee := .value (.func 111), args := #[.tmp 15], argTypes := #[23] }, 9, _, _, none⟩) rfl (fun KK hK => ?_) AllReadyH.nil))
    focus
     go_simp; refine hK.out _ _ zq42 (fun hHeld => ?_); clear hK KK
     try simp only [Act.put, sA, sB, sC]
     refine wpAnyH_ready (rs := [1, 12]) (by kernel_rfl) (by simp) (AllReadyH.cons (o := ⟨some 5, .convert 29 9 (.tmp 4), 9, _, _, none⟩) rfl (fun KK hK => ?_) (AllReadyH.cons (o := ⟨some 16, .call { callee := .value (.func 111), args := #[.tmp 15], argTypes := #[23] }, 9, _, _, none⟩) rfl (fun KK hK => ?_) AllReadyH.nil))
     focus
      go_simp; refine hK.out _ _ zq42 (fun hHeld => ?_); clear hK KK
      try simp only [Act.put, sA, sB, sC]
      refine tQ 5 ⟨some 9, .binOp .add 9 (.tmp 5) (.tmp 8) 9, 9, _, _, none⟩ ?_; simp only [Act.put, sA, sB, sC]; refine tQ 9 ⟨some 13, .binOp .add 9 (.tmp 9) (.tmp 12) 9, 9, _, _, none⟩ ?_; simp only [Act.put, sA, sB, sC]; refine wpAnyH_ready (rs := [12]) (by kernel_rfl) (by simp) (AllReadyH.cons (o := ⟨some 16, .call { callee := .value (.func 111), args := #[.tmp 15], argTypes := #[23] }, 9, _, _, none⟩) rfl (fun KK hK => ?_) AllReadyH.nil); go_simp
      (go_at_call 111; first | (with_reducible refine (ref04_variedQ x.key.null x.key.data a3 E3.out B3.out (show St W0 _ K (.raw _ #[.int .u8 0] _ :: .raw wA _ _ :: L) by assumption)).mono ?_; rintro e wn ⟨rfl, h⟩; have cb := conv_zero h; have hd := h.drop) | (with_reducible refine (ref04_variedQ x.key.null x.key.data a3 E3.out B3.out (show St W0 _ K (.raw wA _ _ :: L) by assumption)).mono ?_; rintro e wn ⟨rfl, h⟩; have hal := h.allocRaw #[.int .u8 0] 5; have cb := conv_zero hal; have hd := hal.drop))
      refine hK.out _ _ zq42 (fun hHeld => ?_); clear hK KK
      try simp only [Act.put, sA, sB, sC]
      refine tQ 13 ⟨some 17, .binOp .add 9 (.tmp 13) (.tmp 16) 9, 9, _, _, none⟩ ?_; simp only [Act.put, sA, sB, sC]; refine wpAnyH_ready (rs := [16]) (by kernel_rfl) (by simp) (AllReadyH.cons (o := ⟨some 20, .call { callee := .value (.func 111), args := #[.tmp 19], argTypes := #[23] }, 9, _, _, none⟩) rfl (fun KK hK => ?_) AllReadyH.nil); go_simp
      (go_at_call 111; first | (with_reducible refine (ref04_variedQ x.val.null x.val.data a4 E4.out B4.out (show St W0 _ K (.raw _ #[.int .u8 0] _ :: .raw wA _ _ :: L) by assumption)).mono ?_; rintro e wn ⟨rfl, h⟩; have cb := conv_zero h; have hd := h.drop) | (with_reducible refine (ref04_variedQ x.val.null x.val.data a4 E4.out B4.out (show St W0 _ K (.raw wA _ _ :: L) by assumption)).mono ?_; rintro e wn ⟨rfl, h⟩; have hal := h.allocRaw #[.int .u8 0] 5; have cb := conv_zero hal; have hd := hal.drop))
      refine hK.out _ _ zq42 (fun hHeld => ?_); clear hK KK
      try simp only [Act.put, sA, sB, sC]
      refine tQ 17 ⟨some 21, .binOp .add 9 (.tmp 17) (.tmp 20) 9, 9, _, _, none⟩ ?_; simp only [Act.put, sA, sB, sC]; refine wpAnyH_ready (rs := [20]) (by kernel_rfl) (by simp) (AllReadyH.cons (o := ⟨some 24, .call { callee := .value (.func 112), args := #[.tmp 23], argTypes := #[117] }, 9, _, _, none⟩) rfl (fun KK hK => ?_) AllReadyH.nil); go_simp
      (go_at_call 112; first | (with_reducible refine (ref06_writeQ v x.hdrs a5 E5.out B5.out HK.out (show St W0 _ K (.raw _ #[.int .u8 0] _ :: .raw wA _ _ :: L) by assumption)).mono ?_; rintro e wn ⟨rfl, h⟩; have cb := conv_zero h; have hd := h.drop) | (with_reducible refine (ref06_writeQ v x.hdrs a5 E5.out B5.out HK.out (show St W0 _ K (.raw wA _ _ :: L) by assumption)).mono ?_; rintro e wn ⟨rfl, h⟩; have hal := h.allocRaw #[.int .u8 0] 5; have cb := conv_zero hal; have hd := hal.drop))
      refine hK.out _ _ zq42 (fun hHeld => ?_); clear hK KK
      try simp only [Act.put, sA, sB, sC]
     rotate_left
     focus
      go_simp
      (go_at_call 111; first | (with_reducible refine (ref04_variedQ x.key.null x.key.data a3 E3.out B3.out (show St W0 _ K (.raw _ #[.int .u8 0] _ :: .raw wA _ _ :: L) by assumption)).mono ?_; rintro e wn ⟨rfl, h⟩; have cb := conv_zero h; have hd := h.drop) | (with_reducible refine (ref04_variedQ x.key.null x.key.data a3 E3.out B3.out (show St W0 _ K (.raw wA _ _ :: L) by assumption)).mono ?_; rintro e wn ⟨rfl, h⟩; have hal := h.allocRaw #[.int .u8 0] 5; have cb := conv_zero hal; have hd := hal.drop))
      refine hK.out _ _ zq42 (fun hHeld => ?_); clear hK KK
      try simp only [Act.put, sA, sB, sC]
      refine wpAnyH_ready (rs := [1, 16]) (by kernel_rfl) (by simp) (AllReadyH.cons (o := ⟨some 5, .convert 29 9 (.tmp 4), 9, _, _, none⟩) rfl (fun KK hK => ?_) (AllReadyH.cons (o := ⟨some 20, .call { callee := .value (.func 111), args := #[.tmp 19], argTypes := #[23] }, 9, _, _, none⟩) rfl (fun KK hK => ?_) AllReadyH.nil))
      focus
       go_simp; refine hK.out _ _ zq42 (fun hHeld => ?_); clear hK KK
       try simp only [Act.put, sA, sB, sC]
       refine tQ 5 ⟨some 9, .binOp .add 9 (.tmp 5) (.tmp 8) 9, 9, _, _, none⟩ ?_; simp only [Act.put, sA, sB, sC]; refine tQ 9 ⟨some 13, .binOp .add 9 (.tmp 9) (.tmp 12) 9, 9, _, _, none⟩ ?_; simp only [Act.put, sA, sB, sC]; refine tQ 13 ⟨some 17, .binOp .add 9 (.tmp 13) (.tmp 16) 9, 9, _, _, none⟩ ?_; simp only [Act.put, sA, sB, sC]; refine wpAnyH_ready (rs := [16]) (by kernel_rfl) (by simp) (AllReadyH.cons (o := ⟨some 20, .call { callee := .value (.func 111), args := #[.tmp 19], argTypes := #[23] }, 9, _, _, none⟩) rfl (fun KK hK => ?_) AllReadyH.nil); go_simp
       (go_at_call 111; first | (with_reducible refine (ref04_variedQ x.val.null x.val.data a4 E4.out B4.out (show St W0 _ K (.raw _ #[.int .u8 0] _ :: .raw wA _ _ :: L) by assumption)).mono ?_; rintro e wn ⟨rfl, h⟩; have cb := conv_zero h; have hd := h.drop) | (with_reducible refine (ref04_variedQ x.val.null x.val.data a4 E4.out B4.out (show St W0 _ K (.raw wA _ _ :: L) by assumption)).mono ?_; rintro e wn ⟨rfl, h⟩; have hal := h.allocRaw #[.int .u8 0] 5; have cb := conv_zero hal; have hd := hal.drop))
       refine hK.out _ _ zq42 (fun hHeld => ?_); clear hK KK
       try simp only [Act.put, sA, sB, sC]
       refine tQ 17 ⟨some 21, .binOp .add 9 (.tmp 17) (.tmp 20) 9, 9, _, _, none⟩ ?_; simp only [Act.put, sA, sB, sC]; refine wpAnyH_ready (rs := [20]) (by kernel_rfl) (by simp) (AllReadyH.cons (o := ⟨some 24, .call { callee := .value (.func 112), args := #[.tmp 23], argTypes := #[117] }, 9, _, _, none⟩) rfl (fun KK hK => ?_) AllReadyH.nil); go_simp
       (go_at_call 112; first | (with_reducible refine (ref06_writeQ v x.hdrs a5 E5.out B5.out HK.out (show St W0 _ K (.raw _ #[.int .u8 0] _ :: .raw wA _ _ :: L) by assumption)).mono ?_; rintro e wn ⟨rfl, h⟩; have cb := conv_zero h; have hd := h.drop) | (with_reducible refine (ref06_writeQ v x.hdrs a5 E5.out B5.out HK.out (show St W0 _ K (.raw wA _ _ :: L) by assumption)).mono ?_; rintro e wn ⟨rfl, h⟩; have hal := h.allocRaw #[.int .u8 0] 5; have cb := conv_zero hal; have hd := hal.drop))
       refine hK.out _ _ zq42 (fun hHeld => ?_); clear hK KK
       try simp only [Act.put, sA, sB, sC]
      rotate_left
      focus
       go_simp
       (go_at_call 111; first | (with_reducible refine (ref04_variedQ x.val.null x.val.data a4 E4.out B4.out (show St W0 _ K (.raw _ #[.int .u8 0] _ :: .raw wA _ _ :: L) by assumption)).mono ?_; rintro e wn ⟨rfl, h⟩; have cb := conv_zero h; have hd := h.drop) | (with_reducible refine (ref04_variedQ x.val.null x.val.data a4 E4.out B4.out (show St W0 _ K (.raw wA _ _ :: L) by assumption)).mono ?_; rintro e wn ⟨rfl, h⟩; have hal := h.allocRaw #[.int .u8 0] 5; have cb := conv_zero hal; have hd := hal.drop))
       refine hK.out _ _ zq42 (fun hHeld => ?_); clear hK KK
       try simp only [Act.put, sA, sB, sC]
       refine wpAnyH_ready (rs := [1, 20]) (by kernel_rfl) (by simp) (AllReadyH.cons (o := ⟨some 5, .convert 29 9 (.tmp 4), 9, _, _, none⟩) rfl (fun KK hK => ?_) (AllReadyH.cons (o := ⟨some 24, .call { callee := .value (.func 112), args := #[.tmp 23], argTypes := #[117] }, 9, _, _, none⟩) rfl (fun KK hK => ?_) AllReadyH.nil))
       focus
        go_simp; refine hK.out _ _ zq42 (fun hHeld => ?_); clear hK KK
        try simp only [Act.put, sA, sB, sC]
        refine tQ 5 ⟨some 9, .binOp .add 9 (.tmp 5) (.tmp 8) 9, 9, _, _, none⟩ ?_; simp only [Act.put, sA, sB, sC]; refine tQ 9 ⟨some 13, .binOp .add 9 (.tmp 9) (.tmp 12) 9, 9, _, _, none⟩ ?_; simp only [Act.put, sA, sB, sC]; refine tQ 13 ⟨some 17, .binOp .add 9 (.tmp 13) (.tmp 16) 9, 9, _, _, none⟩ ?_; simp only [Act.put, sA, sB, sC]; refine tQ 17 ⟨some 21, .binOp .add 9 (.tmp 17) (.tmp 20) 9, 9, _, _, none⟩ ?_; simp only [Act.put, sA, sB, sC]; refine wpAnyH_ready (rs := [20]) (by kernel_rfl) (by simp) (AllReadyH.cons (o := ⟨some 24, .call { callee := .value (.func 112), args := #[.tmp 23], argTypes := #[117] }, 9, _, _, none⟩) rfl (fun KK hK => ?_) AllReadyH.nil); go_simp
        (go_at_call 112; first | (with_reducible refine (ref06_writeQ v x.hdrs a5 E5.out B5.out HK.out (show St W0 _ K (.raw _ #[.int .u8 0] _ :: .raw wA _ _ :: L) by assumption)).mono ?_; rintro e wn ⟨rfl, h⟩; have cb := conv_zero h; have hd := h.drop) | (with_reducible refine (ref06_writeQ v x.hdrs a5 E5.out B5.out HK.out (show St W0 _ K (.raw wA _ _ :: L) by assumption)).mono ?_; rintro e wn ⟨rfl, h⟩; have hal := h.allocRaw #[.int .u8 0] 5; have cb := conv_zero hal; have hd := hal.drop))
        refine hK.out _ _ zq42 (fun hHeld => ?_); clear hK KK
        try simp only [Act.put, sA, sB, sC]
       rotate_left
       focus
        go_simp
        (go_at_call 112; first | (with_reducible refine (ref06_writeQ v x.hdrs a5 E5.out B5.out HK.out (show St W0 _ K (.raw _ #[.int .u8 0] _ :: .raw wA _ _ :: L) by assumption)).mono ?_; rintro e wn ⟨rfl, h⟩; have cb := conv_zero h; have hd := h.drop) | (with_reducible refine (ref06_writeQ v x.hdrs a5 E5.out B5.out HK.out (show St W0 _ K (.raw wA _ _ :: L) by assumption)).mono ?_; rintro e wn ⟨rfl, h⟩; have hal := h.allocRaw #[.int .u8 0] 5; have cb := conv_zero hal; have hd := hal.drop))
        refine hK.out _ _ zq42 (fun hHeld => ?_); clear hK KK
        try simp only [Act.put, sA, sB, sC]
        refine wpAnyH_ready (rs := [1]) (by kernel_rfl) (by simp) (AllReadyH.cons (o := ⟨some 5, .convert 29 9 (.tmp 4), 9, _, _, none⟩) rfl (fun KK hK => ?_) AllReadyH.nil); go_simp; refine hK.out _ _ zq42 (fun hHeld => ?_); clear hK KK
        try simp only [Act.put, sA, sB, sC]
        refine tQ 5 ⟨some 9, .binOp .add 9 (.tmp 5) (.tmp 8) 9, 9, _, _, none⟩ ?_; simp only [Act.put, sA, sB, sC]; refine tQ 9 ⟨some 13, .binOp .add 9 (.tmp 9) (.tmp 12) 9, 9, _, _, none⟩ ?_; simp only [Act.put, sA, sB, sC]; refine tQ 13 ⟨some 17, .binOp .add 9 (.tmp 13) (.tmp 16) 9, 9, _, _, none⟩ ?_; simp only [Act.put, sA, sB, sC]; refine tQ 17 ⟨some 21, .binOp .add 9 (.tmp 17) (.tmp 20) 9, 9, _, _, none⟩ ?_; simp only [Act.put, sA, sB, sC]
    rotate_left 4
    focus
     go_simp
     (go_at_call 111; first | (with_reducible refine (ref04_variedQ x.key.null x.key.data a3 E3.out B3.out (show St W0 _ K (.raw _ #[.int .u8 0] _ :: .raw wA _ _ :: L) by assumption)).mono ?_; rintro e wn ⟨rfl, h⟩; have cb := conv_zero h; have hd := h.drop) | (with_reducible refine (ref04_variedQ x.key.null x.key.data a3 E3.out B3.out (show St W0 _ K (.raw wA _ _ :: L) by assumption)).mono ?_; rintro e wn ⟨rfl, h⟩; have hal := h.allocRaw #[.int .u8 0] 5; have cb := conv_zero hal; have hd := hal.drop))
     refine hK.out _ _ zq42 (fun hHeld => ?_); clear hK KK
     try simp only [Act.put, sA, sB, sC]
     refine wpAnyH_ready (rs := [0, 16]) (by kernel_rfl) (by simp) (AllReadyH.cons (o := ⟨some 4, .buildSlice 29 1 #[(0, .const (Value.int IntKind.u8 0))], 29, _, _, none⟩) rfl (fun KK hK => ?_) (AllReadyH.cons (o := ⟨some 20, .call { callee := .value (.func 111), args := #[.tmp 19], argTypes := #[23] }, 9, _, _, none⟩) rfl (fun KK hK => ?_) AllReadyH.nil))
     focus
      go_simp; refine hK.out _ _ zq42 (fun hHeld => ?_); clear hK KK
      try simp only [Act.put, sA, sB, sC]
      refine wpAnyH_ready (rs := [1, 16]) (by kernel_rfl) (by simp) (AllReadyH.cons (o := ⟨some 5, .convert 29 9 (.tmp 4), 9, _, _, none⟩) rfl (fun KK hK => ?_) (AllReadyH.cons (o := ⟨some 20, .call { callee := .value (.func 111), args := #[.tmp 19], argTypes := #[23] }, 9, _, _, none⟩) rfl (fun KK hK => ?_) AllReadyH.nil))
      focus
       go_simp; refine hK.out _ _ zq42 (fun hHeld => ?_); clear hK KK
       try simp only [Act.put, sA, sB, sC]
       refine tQ 5 ⟨some 9, .binOp .add 9 (.tmp 5) (.tmp 8) 9, 9, _, _, none⟩ ?_; simp only [Act.put, sA, sB, sC]; refine tQ 9 ⟨some 13, .binOp .add 9 (.tmp 9) (.tmp 12) 9, 9, _, _, none⟩ ?_; simp only [Act.put, sA, sB, sC]; refine tQ 13 ⟨some 17, .binOp .add 9 (.tmp 13) (.tmp 16) 9, 9, _, _, none⟩ ?_; simp only [Act.put, sA, sB, sC]; refine wpAnyH_ready (rs := [16]) (by kernel_rfl) (by simp) (AllReadyH.cons (o := ⟨some 20, .call { callee := .value (.func 111), args := #[.tmp 19], argTypes := #[23] }, 9, _, _, none⟩) rfl (fun KK hK => ?_) AllReadyH.nil); go_simp
       (go_at_call 111; first | (with_reducible refine (ref04_variedQ x.val.null x.val.data a4 E4.out B4.out (show St W0 _ K (.raw _ #[.int .u8 0] _ :: .raw wA _ _ :: L) by assumption)).mono ?_; rintro e wn ⟨rfl, h⟩; have cb := conv_zero h; have hd := h.drop) | (with_reducible refine (ref04_variedQ x.val.null x.val.data a4 E4.out B4.out (show St W0 _ K (.raw wA _ _ :: L) by assumption)).mono ?_; rintro e wn ⟨rfl, h⟩; have hal := h.allocRaw #[.int .u8 0] 5; have cb := conv_zero hal; have hd := hal.drop))
       refine hK.out _ _ zq42 (fun hHeld => ?_); clear hK KK
       try simp only [Act.put, sA, sB, sC]
       refine tQ 17 ⟨some 21, .binOp .add 9 (.tmp 17) (.tmp 20) 9, 9, _, _, none⟩ ?_; simp only [Act.put, sA, sB, sC]; refine wpAnyH_ready (rs := [20]) (by kernel_rfl) (by simp) (AllReadyH.cons (o := ⟨some 24, .call { callee := .value (.func 112), args := #[.tmp 23], argTypes := #[117] }, 9, _, _, none⟩) rfl (fun KK hK => ?_) AllReadyH.nil); go_simp
       (go_at_call 112; first | (with_reducible refine (ref06_writeQ v x.hdrs a5 E5.out B5.out HK.out (show St W0 _ K (.raw _ #[.int .u8 0] _ :: .raw wA _ _ :: L) by assumption)).mono ?_; rintro e wn ⟨rfl, h⟩; have cb := conv_zero h; have hd := h.drop) | (with_reducible refine (ref06_writeQ v x.hdrs a5 E5.out B5.out HK.out (show St W0 _ K (.raw wA _ _ :: L) by assumption)).mono ?_; rintro e wn ⟨rfl, h⟩; have hal := h.allocRaw #[.int .u8 0] 5; have cb := conv_zero hal; have hd := hal.drop))
       refine hK.out _ _ zq42 (fun hHeld => ?_); clear hK KK
       try simp only [Act.put, sA, sB, sC]
      rotate_left
      focus
       go_simp
       (go_at_call 111; first | (with_reducible refine (ref04_variedQ x.val.null x.val.data a4 E4.out B4.out (show St W0 _ K (.raw _ #[.int .u8 0] _ :: .raw wA _ _ :: L) by assumption)).mono ?_; rintro e wn ⟨rfl, h⟩; have cb := conv_zero h; have hd := h.drop) | (with_reducible refine (ref04_variedQ x.val.null x.val.data a4 E4.out B4.out (show St W0 _ K (.raw wA _ _ :: L) by assumption)).mono ?_; rintro e wn ⟨rfl, h⟩; have hal := h.allocRaw #[.int .u8 0] 5; have cb := conv_zero hal; have hd := hal.drop))
       refine hK.out _ _ zq42 (fun hHeld => ?_); clear hK KK
       try simp only [Act.put, sA, sB, sC]
       refine wpAnyH_ready (rs := [1, 20]) (by kernel_rfl) (by simp) (AllReadyH.cons (o := ⟨some 5, .convert 29 9 (.tmp 4), 9, _, _, none⟩) rfl (fun KK hK => ?_) (AllReadyH.cons (o := ⟨some 24, .call { callee := .value (.func 112), args := #[.tmp 23], argTypes := #[117] }, 9, _, _, none⟩) rfl (fun KK hK => ?_) AllReadyH.nil))
       focus
        go_simp; refine hK.out _ _ zq42 (fun hHeld => ?_); clear hK KK
        try simp only [Act.put, sA, sB, sC]
        refine tQ 5 ⟨some 9, .binOp .add 9 (.tmp 5) (.tmp 8) 9, 9, _, _, none⟩ ?_; simp only [Act.put, sA, sB, sC]; refine tQ 9 ⟨some 13, .binOp .add 9 (.tmp 9) (.tmp 12) 9, 9, _, _, none⟩ ?_; simp only [Act.put, sA, sB, sC]; refine tQ 13 ⟨some 17, .binOp .add 9 (.tmp 13) (.tmp 16) 9, 9, _, _, none⟩ ?_; simp only [Act.put, sA, sB, sC]; refine tQ 17 ⟨some 21, .binOp .add 9 (.tmp 17) (.tmp 20) 9, 9, _, _, none⟩ ?_; simp only [Act.put, sA, sB, sC]; refine wpAnyH_ready (rs := [20]) (by kernel_rfl) (by simp) (AllReadyH.cons (o := ⟨some 24, .call { callee := .value (.func 112), args := #[.tmp 23], argTypes := #[117] }, 9, _, _, none⟩) rfl (fun KK hK => ?_) AllReadyH.nil); go_simp
        (go_at_call 112; first | (with_reducible refine (ref06_writeQ v x.hdrs a5 E5.out B5.out HK.out (show St W0 _ K (.raw _ #[.int .u8 0] _ :: .raw wA _ _ :: L) by assumption)).mono ?_; rintro e wn ⟨rfl, h⟩; have cb := conv_zero h; have hd := h.drop) | (with_reducible refine (ref06_writeQ v x.hdrs a5 E5.out B5.out HK.out (show St W0 _ K (.raw wA _ _ :: L) by assumption)).mono ?_; rintro e wn ⟨rfl, h⟩; have hal := h.allocRaw #[.int .u8 0] 5; have cb := conv_zero hal; have hd := hal.drop))
        refine hK.out _ _ zq42 (fun hHeld => ?_); clear hK KK
        try simp only [Act.put, sA, sB, sC]
       rotate_left
       focus
        go_simp
        (go_at_call 112; first | (with_reducible refine (ref06_writeQ v x.hdrs a5 E5.out B5.out HK.out (show St W0 _ K (.raw _ #[.int .u8 0] _ :: .raw wA _ _ :: L) by assumption)).mono ?_; rintro e wn ⟨rfl, h⟩; have cb := conv_zero h; have hd := h.drop) | (with_reducible refine (ref06_writeQ v x.hdrs a5 E5.out B5.out HK.out (show St W0 _ K (.raw wA _ _ :: L) by assumption)).mono ?_; rintro e wn ⟨rfl, h⟩; have hal := h.allocRaw #[.int .u8 0] 5; have cb := conv_zero hal; have hd := hal.drop))
        refine hK.out _ _ zq42 (fun hHeld => ?_); clear hK KK
        try simp only [Act.put, sA, sB, sC]
        refine wpAnyH_ready (rs := [1]) (by kernel_rfl) (by simp) (AllReadyH.cons (o := ⟨some 5, .convert 29 9 (.tmp 4), 9, _, _, none⟩) rfl (fun KK hK => ?_) AllReadyH.nil); go_simp; refine hK.out _ _ zq42 (fun hHeld => ?_); clear hK KK
        try simp only [Act.put, sA, sB, sC]
        refine tQ 5 ⟨some 9, .binOp .add 9 (.tmp 5) (.tmp 8) 9, 9, _, _, none⟩ ?_; simp only [Act.put, sA, sB, sC]; refine tQ 9 ⟨some 13, .binOp .add 9 (.tmp 9) (.tmp 12) 9, 9, _, _, none⟩ ?_; simp only [Act.put, sA, sB, sC]; refine tQ 13 ⟨some 17, .binOp .add 9 (.tmp 13) (.tmp 16) 9, 9, _, _, none⟩ ?_; simp only [Act.put, sA, sB, sC]; refine tQ 17 ⟨some 21, .binOp .add 9 (.tmp 17) (.tmp 20) 9, 9, _, _, none⟩ ?_; simp only [Act.put, sA, sB, sC]
     rotate_left 3
     focus
      go_simp
      (go_at_call 111; first | (with_reducible refine (ref04_variedQ x.val.null x.val.data a4 E4.out B4.out (show St W0 _ K (.raw _ #[.int .u8 0] _ :: .raw wA _ _ :: L) by assumption)).mono ?_; rintro e wn ⟨rfl, h⟩; have cb := conv_zero h; have hd := h.drop) | (with_reducible refine (ref04_variedQ x.val.null x.val.data a4 E4.out B4.out (show St W0 _ K (.raw wA _ _ :: L) by assumption)).mono ?_; rintro e wn ⟨rfl, h⟩; have hal := h.allocRaw #[.int .u8 0] 5; have cb := conv_zero hal; have hd := hal.drop))
      refine hK.out _ _ zq42 (fun hHeld => ?_); clear hK KK
      try simp only [Act.put, sA, sB, sC]
      refine wpAnyH_ready (rs := [0, 20]) (by kernel_rfl) (by simp) (AllReadyH.cons (o := ⟨some 4, .buildSlice 29 1 #[(0, .const (Value.int IntKind.u8 0))], 29, _, _, none⟩) rfl (fun KK hK => ?_) (AllReadyH.cons (o := ⟨some 24, .call { callee := .value (.func 112), args := #[.tmp 23], argTypes := #[117] }, 9, _, _, none⟩) rfl (fun KK hK => ?_) AllReadyH.nil))
      focus
       go_simp; refine hK.out _ _ zq42 (fun hHeld => ?_); clear hK KK
       try simp only [Act.put, sA, sB, sC]
       refine wpAnyH_ready (rs := [1, 20]) (by kernel_rfl) (by simp) (AllReadyH.cons (o := ⟨some 5, .convert 29 9 (.tmp 4), 9, _, _, none⟩) rfl (fun KK hK => ?_) (AllReadyH.cons (o := ⟨some 24, .call { callee := .value (.func 112), args := #[.tmp 23], argTypes := #[117] }, 9, _, _, none⟩) rfl (fun KK hK => ?_) AllReadyH.nil))
       focus
        go_simp; refine hK.out _ _ zq42 (fun hHeld => ?_); clear hK KK
        try simp only [Act.put, sA, sB, sC]
        refine tQ 5 ⟨some 9, .binOp .add 9 (.tmp 5) (.tmp 8) 9, 9, _, _, none⟩ ?_; simp only [Act.put, sA, sB, sC]; refine tQ 9 ⟨some 13, .binOp .add 9 (.tmp 9) (.tmp 12) 9, 9, _, _, none⟩ ?_; simp only [Act.put, sA, sB, sC]; refine tQ 13 ⟨some 17, .binOp .add 9 (.tmp 13) (.tmp 16) 9, 9, _, _, none⟩ ?_; simp only [Act.put, sA, sB, sC]; refine tQ 17 ⟨some 21, .binOp .add 9 (.tmp 17) (.tmp 20) 9, 9, _, _, none⟩ ?_; simp only [Act.put, sA, sB, sC]; refine wpAnyH_ready (rs := [20]) (by kernel_rfl) (by simp) (AllReadyH.cons (o := ⟨some 24, .call { callee := .value (.func 112), args := #[.tmp 23], argTypes := #[117] }, 9, _, _, none⟩) rfl (fun KK hK => ?_) AllReadyH.nil); go_simp
        (go_at_call 112; first | (with_reducible refine (ref06_writeQ v x.hdrs a5 E5.out B5.out HK.out (show St W0 _ K (.raw _ #[.int .u8 0] _ :: .raw wA _ _ :: L) by assumption)).mono ?_; rintro e wn ⟨rfl, h⟩; have cb := conv_zero h; have hd := h.drop) | (with_reducible refine (ref06_writeQ v x.hdrs a5 E5.out B5.out HK.out (show St W0 _ K (.raw wA _ _ :: L) by assumption)).mono ?_; rintro e wn ⟨rfl, h⟩; have hal := h.allocRaw #[.int .u8 0] 5; have cb := conv_zero hal; have hd := hal.drop))
        refine hK.out _ _ zq42 (fun hHeld => ?_); clear hK KK
        try simp only [Act.put, sA, sB, sC]
       rotate_left
       focus
        go_simp
        (go_at_call 112; first | (with_reducible refine (ref06_writeQ v x.hdrs a5 E5.out B5.out HK.out (show St W0 _ K (.raw _ #[.int .u8 0] _ :: .raw wA _ _ :: L) by assumption)).mono ?_; rintro e wn ⟨rfl, h⟩; have cb := conv_zero h; have hd := h.drop) | (with_reducible refine (ref06_writeQ v x.hdrs a5 E5.out B5.out HK.out (show St W0 _ K (.raw wA _ _ :: L) by assumption)).mono ?_; rintro e wn ⟨rfl, h⟩; have hal := h.allocRaw #[.int .u8 0] 5; have cb := conv_zero hal; have hd := hal.drop))
        refine hK.out _ _ zq42 (fun hHeld => ?_); clear hK KK
        try simp only [Act.put, sA, sB, sC]
        refine wpAnyH_ready (rs := [1]) (by kernel_rfl) (by simp) (AllReadyH.cons (o := ⟨some 5, .convert 29 9 (.tmp 4), 9, _, _, none⟩) rfl (fun KK hK => ?_) AllReadyH.nil); go_simp; refine hK.out _ _ zq42 (fun hHeld => ?_); clear hK KK
        try simp only [Act.put, sA, sB, sC]
        refine tQ 5 ⟨some 9, .binOp .add 9 (.tmp 5) (.tmp 8) 9, 9, _, _, none⟩ ?_; simp only [Act.put, sA, sB, sC]; refine tQ 9 ⟨some 13, .binOp .add 9 (.tmp 9) (.tmp 12) 9, 9, _, _, none⟩ ?_; simp only [Act.put, sA, sB, sC]; refine tQ 13 ⟨some 17, .binOp .add 9 (.tmp 13) (.tmp 16) 9, 9, _, _, none⟩ ?_; simp only [Act.put, sA, sB, sC]; refine tQ 17 ⟨some 21, .binOp .add 9 (.tmp 17) (.tmp 20) 9, 9, _, _, none⟩ ?_; simp only [Act.put, sA, sB, sC]
      rotate_left 2
      focus
       go_simp
       (go_at_call 112; first | (with_reducible refine (ref06_writeQ v x.hdrs a5 E5.out B5.out HK.out (show St W0 _ K (.raw _ #[.int .u8 0] _ :: .raw wA _ _ :: L) by assumption)).mono ?_; rintro e wn ⟨rfl, h⟩; have cb := conv_zero h; have hd := h.drop) | (with_reducible refine (ref06_writeQ v x.hdrs a5 E5.out B5.out HK.out (show St W0 _ K (.raw wA _ _ :: L) by assumption)).mono ?_; rintro e wn ⟨rfl, h⟩; have hal := h.allocRaw #[.int .u8 0] 5; have cb := conv_zero hal; have hd := hal.drop))
       refine hK.out _ _ zq42 (fun hHeld => ?_); clear hK KK
       try simp only [Act.put, sA, sB, sC]
       refine wpAnyH_ready (rs := [0]) (by kernel_rfl) (by simp) (AllReadyH.cons (o := ⟨some 4, .buildSlice 29 1 #[(0, .const (Value.int IntKind.u8 0))], 29, _, _, none⟩) rfl (fun KK hK => ?_) AllReadyH.nil); go_simp; refine hK.out _ _ zq42 (fun hHeld => ?_); clear hK KK
       try simp only [Act.put, sA, sB, sC]
       refine wpAnyH_ready (rs := [1]) (by kernel_rfl) (by simp) (AllReadyH.cons (o := ⟨some 5, .convert 29 9 (.tmp 4), 9, _, _, none⟩) rfl (fun KK hK => ?_) AllReadyH.nil); go_simp; refine hK.out _ _ zq42 (fun hHeld => ?_); clear hK KK
       try simp only [Act.put, sA, sB, sC]
       refine tQ 5 ⟨some 9, .binOp .add 9 (.tmp 5) (.tmp 8) 9, 9, _, _, none⟩ ?_; simp only [Act.put, sA, sB, sC]; refine tQ 9 ⟨some 13, .binOp .add 9 (.tmp 9) (.tmp 12) 9, 9, _, _, none⟩ ?_; simp only [Act.put, sA, sB, sC]; refine tQ 13 ⟨some 17, .binOp .add 9 (.tmp 13) (.tmp 16) 9, 9, _, _, none⟩ ?_; simp only [Act.put, sA, sB, sC]; refine tQ 17 ⟨some 21, .binOp .add 9 (.tmp 17) (.tmp 20) 9, 9, _, _, none⟩ ?_; simp only [Act.put, sA, sB, sC]
  all_goals
   refine tQ 21 ⟨some 25, .binOp .add 9 (.tmp 21) (.tmp 24) 9, 9, _, _, none⟩ ?_; simp only [Act.put, sA, sB, sC]; refine tQ 22 ⟨some 3, .assign (.tmp 25), 9, _, _, none⟩ ?_; simp only [Act.put, sA, sB, sC]; refine wpAnyH_done (by kernel_rfl) ?_ _; have h2 := (show St W0 _ K (.raw wA _ _ :: L) by assumption); go_wp2_with fail; go_meet; exact ⟨by rw [HF.out]; rfl, h2⟩
 case rest =>
  obtain ⟨hu, h⟩ := hcut; subst hu; have H := Lib.hid h; clear h hst hst2 hst3 cb c0 c1 c2 c3 c4 c5 c6; go_wp2_with (go_at_call 110; refine (ref06_intQ _ a6 E6.out R6.out H.out).mono ?_; rintro e wn ⟨rfl, h⟩; replace H := Lib.hid h; clear h); go_ret; exact ⟨by rw [HSE.out]; first | rfl | simp, H.out.drop⟩

end Go.Proofs.YtnnnglklgofabaaGreat
