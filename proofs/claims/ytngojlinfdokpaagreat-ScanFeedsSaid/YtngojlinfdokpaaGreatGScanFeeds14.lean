/- A text. -/
import Derived.Test.YtngojlinfdokpaaGreatGScanFeeds13
import Derived.Test.YtngojlinfdokpaaGreatGScanFeeds12
import Derived.Test.YtngojlinfdokpaaGreatGScanFeeds1
import Derived.RegionTactic
import Derived.Deep.RegionHeld3
import Derived.Deep.DeepCutAuto
import Derived.Test.YtngojlinfdokpaaGreatGScanFeeds9
/- A text. -/
namespace Go.Proofs.YtngojlinfdokpaaGreat
open Go.RowKit

set_option maxHeartbeats 8000000 in
set_option maxRecDepth 100000 in
theorem r11_unp (s : Bs) (hs : s.length ≤ 1000000) (x : PreS) (hp : rePre s = .ok x) (nn : Nat) (hnn : 61 + (x.len - 49).toNat = nn) (hge0 : nn ≤ s.length) (sd : Bs) (hsd : (s.drop 21).take (nn - 21) = sd) (X : Nat) (hX : (crcMore 0#32 sd).toNat = X) (heq : (X : Int) = x.sum) (h8 : x.attr % 8 = 0) (hn0 : ¬ x.attr < 0) (hn1 : ¬ 63 < x.attr) (hn2 : ¬ (32 ≤ x.attr ∧ x.attr % 32 < 16)) (n : Nat) (hcn : x.count = (n : Int)) (hnb : n ≤ 2147483647) (e : Int) (he0 : e ≠ 0) (hu : unpT n ((s.drop 61).take (nn - 61)) = .error e) {W0 w : World} {K : Know} {L : List Res} (h : St W0 w K L) :
  Calls Tryz.prog 18 #[.string (bb s)] w fun en w' => en = .returned (.agg #[.int .i64 0, .int .i64 0, .bool false, .bool false, .bool false, .int .i64 0, .int .i64 0, .int .i64 0, .int .i64 0, .int .i64 0, .int .i64 0, .slice none 0 0, .int .i64 0, .int .i64 e]) ∧ St W0 w' K L := by
 obtain ⟨rb, hrb⟩ : ∃ b, w.heap.size = b := ⟨_, rfl⟩
 have g1 := h.allocRaw #[.int .i64 0, .int .i64 0, .bool false, .bool false, .bool false, .int .i64 0, .int .i64 0, .int .i64 0, .int .i64 0, .int .i64 0, .int .i64 0, .slice none 0 0, .int .i64 0, .int .i64 0] 56
 rw [hrb] at g1
 obtain ⟨z0, z1, z2, z3, z4, z5, z6, z7, z8, z9, z10, z11, z12, z13, zf0, zf1, zf2, zf3, zf4, zf5, zf6, zf7, zf8, zf9, zf10, zf11, zf12, zf13⟩ := raw14 (b := rb) (g1)
 have H := Lib.hid g1
 have HL := Lib.hid (show s.length ≤ 140737488355328 by omega)
 have HP := Lib.hid hp
 obtain ⟨r1, r2, r3, r4, r5, r6⟩ := pre_ranges hp
 have hln : x.len + 12 = (nn : Int) := by omega
 have hsl : (s.length : Int) ≤ 1000000 := by omega
 have HSD := Lib.hid hsd
 have HX := Lib.hid hX
 have HSL := Lib.hid (show sd.length ≤ 1000000 by rw [← hsd, List.length_take, List.length_drop]; omega)
 have hX4 : (X : Int) < 4294967296 := by rw [← hX]; have := (crcMore 0#32 sd).isLt; omega
 have hwX : IntKind.i64.wrap (X : Int) = (X : Int) := by rw [IntKind.wrap_i64]; omega
 clear hX4
 have hge : (nn : Int) ≤ (s.length : Int) := by omega
 have h21 : (21 : Int) ≤ (nn : Int) := by omega
 have h61 : (61 : Int) ≤ (nn : Int) := by omega
 have hg9 : ¬ (s.length : Int) < (nn : Int) := by omega
 have g5 : ((X : Int) == x.sum) = true := by rw [heq]; exact beq_self_eq_true _
 have g6 : ((X : Int) != x.sum) = false := by simp [bne, g5]
 obtain ⟨c0, c1, hb2, hc1⟩ := two_bytes x.attr
 have HB2 := Lib.hid hb2
 have HA := Lib.hid (show -9223372036854775808 ≤ x.attr ∧ x.attr < 9223372036854775808 from r3)
 have hc8 : (c1.toNat : Int) % 8 = 0 := by rw [hc1]; omega
 have e9 : (((([c0, c1] : List UInt8)[1]'(by simp)).toNat : Int) % 8 != 0) = false := by show ((c1.toNat : Int) % 8 != 0) = false; simp [bne, hc8]
 have e8 : (((([c0, c1] : List UInt8)[1]'(by simp)).toNat : Int) % 8 == 0) = true := by show ((c1.toNat : Int) % 8 == 0) = true; simp [hc8]
 clear hc8 hc1
 have d0 : decide (x.attr < 0) = false := decide_eq_false hn0
 have d1 : decide (63 < x.attr) = false := decide_eq_false hn1
 have ha0 : 0 ≤ x.attr := by omega
 have ha63 : x.attr ≤ 63 := by omega
 have q8 : x.attr.tdiv 8 = x.attr / 8 := Int.tdiv_eq_ediv_of_nonneg ha0
 have q16 : x.attr.tdiv 16 = x.attr / 16 := Int.tdiv_eq_ediv_of_nonneg ha0
 have q32 : x.attr.tdiv 32 = x.attr / 32 := Int.tdiv_eq_ediv_of_nonneg ha0
 have m8 : (x.attr / 8).tmod 2 = x.attr / 8 % 2 := Int.tmod_eq_emod_of_nonneg (by omega)
 have m16 : (x.attr / 16).tmod 2 = x.attr / 16 % 2 := Int.tmod_eq_emod_of_nonneg (by omega)
 have w8 : IntKind.i64.wrap (x.attr / 8) = x.attr / 8 := by rw [IntKind.wrap_i64]; omega
 have w16 : IntKind.i64.wrap (x.attr / 16) = x.attr / 16 := by rw [IntKind.wrap_i64]; omega
 have w32 : IntKind.i64.wrap (x.attr / 32) = x.attr / 32 := by rw [IntKind.wrap_i64]; omega
 have w8m : IntKind.i64.wrap (x.attr / 8 % 2) = x.attr / 8 % 2 := by rw [IntKind.wrap_i64]; omega
 have w16m : IntKind.i64.wrap (x.attr / 16 % 2) = x.attr / 16 % 2 := by rw [IntKind.wrap_i64]; omega
 have b5 : (x.attr / 32 == 1) = bitAt x.attr 5 := by unfold bitAt; rw [show (2 : Int) ^ 5 = 32 by decide, show (x.attr / 32 == 1) = decide (x.attr / 32 = 1) from rfl]; congr 1; rw [eq_iff_iff]; omega
 have b3 : (x.attr / 8 % 2 == 1) = bitAt x.attr 3 := rfl
 have b4 : (x.attr / 16 % 2 == 1) = bitAt x.attr 4 := rfl
 have HD := Lib.hid (And.intro b3 (And.intro b4 b5))
 have HN2 := Lib.hid hn2
 clear h8 hn0 hn1 hn2 b3 b4 b5
 obtain ⟨rw0, hrw⟩ : ∃ r, (s.drop 61).take (nn - 61) = r := ⟨_, rfl⟩
 rw [hrw] at hu
 have HRW := Lib.hid hrw
 have HRW1 := Lib.hid (show rw0.length ≤ 1000000 by rw [← hrw, List.length_take, List.length_drop]; omega)
 obtain ⟨tot, htot⟩ : ∃ t, unpT n rw0 = t := ⟨_, rfl⟩
 have HTT := Lib.hid (htot.symm.trans hu)
 have HT := Lib.hid (show preU [] (unpT (n - 0) rw0) = tot by rw [preU_nil]; exact htot)
 have HNB := Lib.hid hnb
 have HCN := Lib.hid hcn
 have HE0 := Lib.hid he0
 clear h g1 hp hs hnn r3 r4 r5 r6 hsd hX hge0 heq hb2 hu hrw htot hnb hcn he0
 go_enter Tryz.func18, Tryz.ntmps18
 go_upto_region 7 with (first
  | (go_at_call 17; clear z0 zf0 z1 zf1 z2 zf2 z3 zf3 z4 zf4 z5 zf5 z6 zf6 z7 zf7 z8 zf8 z9 zf9 z10 zf10 z11 zf11 z12 zf12 z13 zf13; (with_reducible refine (ref10_fields_ok s x HP.out HL.out H.out).mono ?_); rintro e_ wn ⟨bl, rfl, h⟩; have p0 := h.rawCell 0; have p1 := h.rawCell 1; have p2 := h.rawCell 2; have p3 := h.rawCell 3; have p4 := h.rawCell 4; have p5 := h.rawCell 5; have p6 := h.rawCell 6; have p7 := h.rawCell 7; have p8 := h.rawCell 8; have p9 := h.rawCell 9; have p10 := h.rawCell 10; have p11 := h.rawCell 11; simp at p0 p1 p2 p3 p4 p5 p6 p7 p8 p9 p10 p11; obtain ⟨z0, z1, z2, z3, z4, z5, z6, z7, z8, z9, z10, z11, z12, z13, zf0, zf1, zf2, zf3, zf4, zf5, zf6, zf7, zf8, zf9, zf10, zf11, zf12, zf13⟩ := raw14 (b := rb) (h.p1); replace H := Lib.hid h; clear h))
 clear z0 zf0 z1 zf1 z2 zf2 z3 zf3 z4 zf4 z5 zf5 z6 zf6 z7 zf7 z8 zf8 z9 zf9 z10 zf10 z11 zf11 z12 zf12 z13 zf13
 clear p0 p1 p2 p3 p4 p5 p6 p7 p8 p9 p10 p11
 go_cut [38] (fun s38 wx => s38 = .bool false ∧ St W0 wx K (.raw bl #[.int .i64 x.base, .int .i64 x.len, .int .i64 x.leader, .int .i64 x.sum, .int .i64 x.attr, .int .i64 x.last, .int .i64 x.first, .int .i64 x.maxt, .int .i64 x.prod, .int .i64 x.epoch, .int .i64 x.seq, .int .i64 x.count] 3 :: .raw rb #[.int .i64 0, .int .i64 0, .bool false, .bool false, .bool false, .int .i64 0, .int .i64 0, .int .i64 0, .int .i64 0, .int .i64 0, .int .i64 0, .slice none 0 0, .int .i64 0, .int .i64 0] 56 :: L))
 case first =>
  have hs := H.out.drew
  refine wp_region_held_drew (S := fun w' => w'.cell? ⟨bl, 0, none⟩ = some (.int .i64 x.base) ∧ w'.cell? ⟨bl, 1, none⟩ = some (.int .i64 x.len) ∧ w'.cell? ⟨bl, 2, none⟩ = some (.int .i64 x.leader) ∧ w'.cell? ⟨bl, 3, none⟩ = some (.int .i64 x.sum) ∧ w'.cell? ⟨bl, 4, none⟩ = some (.int .i64 x.attr) ∧ w'.cell? ⟨bl, 5, none⟩ = some (.int .i64 x.last) ∧ w'.cell? ⟨bl, 6, none⟩ = some (.int .i64 x.first) ∧ w'.cell? ⟨bl, 7, none⟩ = some (.int .i64 x.maxt) ∧ w'.cell? ⟨bl, 8, none⟩ = some (.int .i64 x.prod) ∧ w'.cell? ⟨bl, 9, none⟩ = some (.int .i64 x.epoch) ∧ w'.cell? ⟨bl, 10, none⟩ = some (.int .i64 x.seq) ∧ w'.cell? ⟨bl, 11, none⟩ = some (.int .i64 x.count)) (by kernel_rfl) (⟨hs.rawCell 0, hs.rawCell 1, hs.rawCell 2, hs.rawCell 3, hs.rawCell 4, hs.rawCell 5, hs.rawCell 6, hs.rawCell 7, hs.rawCell 8, hs.rawCell 9, hs.rawCell 10, hs.rawCell 11⟩) (fun hHeld => ?_)
  refine tQ 0 ⟨some 30, .move (.tmp 0), 9, "ref.go:141", #[], none⟩ ?_; simp only [Act.put, sA, sB, sC]
  refine tQ 1 ⟨some 31, .move (.tmp 5), 3, "ref.go:141", #[], none⟩ ?_; simp only [Act.put, sA, sB, sC]
  refine tQ 2 ⟨some 32, .slice 9 (.tmp 30) (some (.const (Value.int IntKind.i64 21))) (some (.tmp 31)) none, 9, "ref.go:141", #[.mk 0 .data, .mk 1 .data], none⟩ ?_; simp only [Act.put, sA, sB, sC]
  refine tQ 5 ⟨some 35, .move (.tmp 3), 40, "ref.go:141", #[], none⟩ ?_; simp only [Act.put, sA, sB, sC]
  refine tQ 6 ⟨some 36, .indexAddr 40 (.tmp 35) (.const (Value.int IntKind.i64 3)), 0, "ref.go:141", #[.mk 5 .data], none⟩ ?_; simp only [Act.put, sA, sB, sC]
  refine tQ 7 ⟨some 37, .load 3 (.tmp 36), 3, "ref.go:141", #[.mk 6 .data], none⟩ ?_; simp only [Act.put, sA, sB, sC]
  refine wpAnyH_ready (rs := [3]) (by kernel_rfl) (by simp) (AllReadyH.cons (o := ⟨some 33, .call { callee := .value (.func 29), args := #[.tmp 32], argTypes := #[9] }, 76, "ref.go:141", #[.mk 2 .data], none⟩) rfl (fun KK hK => ?_) AllReadyH.nil)
  · go_simp
    (try rw [HSD.out])
    go_at_call 29
    with_reducible refine (ref05_sumX sd HSL.out X HX.out hs).mono ?_
    rintro e wq ⟨rfl, hs⟩
    refine hK.out _ _ (⟨hs.rawCell 0, hs.rawCell 1, hs.rawCell 2, hs.rawCell 3, hs.rawCell 4, hs.rawCell 5, hs.rawCell 6, hs.rawCell 7, hs.rawCell 8, hs.rawCell 9, hs.rawCell 10, hs.rawCell 11⟩) (fun hHeld => ?_)
    clear hK KK
    try simp only [Act.put, sA, sB, sC]
    refine tQ 4 ⟨some 34, .convert 76 3 (.tmp 33), 3, "ref.go:141", #[.mk 3 .data], none⟩ ?_; simp only [Act.put, sA, sB, sC]
    refine tQ 8 ⟨some 38, .binOp .neq 3 (.tmp 34) (.tmp 37) 3, 4, "ref.go:141", #[.mk 4 .data, .mk 7 .data], none⟩ ?_; simp only [Act.put, sA, sB, sC]
    refine wpAnyH_done (by kernel_rfl) ?_ _
    clear hHeld
    go_wp2_with fail
    go_meet
    exact ⟨rfl, hs⟩
 obtain ⟨rfl, h⟩ := hcut
 clear H
 have p0 := h.rawCell 0; have p1 := h.rawCell 1; have p2 := h.rawCell 2; have p3 := h.rawCell 3; have p4 := h.rawCell 4; have p5 := h.rawCell 5; have p6 := h.rawCell 6; have p7 := h.rawCell 7; have p8 := h.rawCell 8; have p9 := h.rawCell 9; have p10 := h.rawCell 10; have p11 := h.rawCell 11; simp at p0 p1 p2 p3 p4 p5 p6 p7 p8 p9 p10 p11
 obtain ⟨z0, z1, z2, z3, z4, z5, z6, z7, z8, z9, z10, z11, z12, z13, zf0, zf1, zf2, zf3, zf4, zf5, zf6, zf7, zf8, zf9, zf10, zf11, zf12, zf13⟩ := raw14 (b := rb) (h.p1)
 have H := Lib.hid h
 clear h
 go_upto_region 12 with (first
  | (go_at_call 37; clear z0 zf0 z1 zf1 z2 zf2 z3 zf3 z4 zf4 z5 zf5 z6 zf6 z7 zf7 z8 zf8 z9 zf9 z10 zf10 z11 zf11 z12 zf12 z13 zf13; clear p0 p1 p2 p3 p4 p5 p6 p7 p8 p9 p10 p11; (with_reducible refine (sr_bytes2T x.attr HA.out c0 c1 HB2.out H.out).mono ?_); rintro e_ wn ⟨rfl, h⟩; have p0 := h.rawCell 0; have p1 := h.rawCell 1; have p2 := h.rawCell 2; have p3 := h.rawCell 3; have p4 := h.rawCell 4; have p5 := h.rawCell 5; have p6 := h.rawCell 6; have p7 := h.rawCell 7; have p8 := h.rawCell 8; have p9 := h.rawCell 9; have p10 := h.rawCell 10; have p11 := h.rawCell 11; simp at p0 p1 p2 p3 p4 p5 p6 p7 p8 p9 p10 p11; obtain ⟨z0, z1, z2, z3, z4, z5, z6, z7, z8, z9, z10, z11, z12, z13, zf0, zf1, zf2, zf3, zf4, zf5, zf6, zf7, zf8, zf9, zf10, zf11, zf12, zf13⟩ := raw14 (b := rb) (h.p1); replace H := Lib.hid h; clear h))
 go_cut [63] (fun s63 wx => s63 = .bool false ∧ St W0 wx K (.raw bl #[.int .i64 x.base, .int .i64 x.len, .int .i64 x.leader, .int .i64 x.sum, .int .i64 x.attr, .int .i64 x.last, .int .i64 x.first, .int .i64 x.maxt, .int .i64 x.prod, .int .i64 x.epoch, .int .i64 x.seq, .int .i64 x.count] 3 :: .raw rb #[.int .i64 0, .int .i64 0, .bool false, .bool false, .bool false, .int .i64 0, .int .i64 0, .int .i64 0, .int .i64 0, .int .i64 0, .int .i64 0, .slice none 0 0, .int .i64 0, .int .i64 0] 56 :: L))
 case first =>
  have h9 := H.out
  by_cases c32 : 32 ≤ x.attr
  · have d2 : decide (32 ≤ x.attr) = true := decide_eq_true c32
    have d3 : decide (x.attr % 32 < 16) = false := decide_eq_false (by have := HN2.out; omega)
    clear c32
    go_wp2_with fail
    go_meet
    exact ⟨rfl, h9⟩
  · have d2 : decide (32 ≤ x.attr) = false := decide_eq_false c32
    clear c32
    go_wp2_with fail
    go_meet
    exact ⟨rfl, h9⟩
 obtain ⟨rfl, h⟩ := hcut
 clear H
 have H := Lib.hid h
 clear h
 go_upto_region 14 with (fail)
 clear z0 zf0 z1 zf1 z2 zf2 z3 zf3 z4 zf4 z5 zf5 z6 zf6 z7 zf7 z8 zf8 z9 zf9 z10 zf10 z11 zf11 z12 zf12 z13 zf13
 clear p0 p1 p2 p3 p4 p5 p6 p7 p8 p9 p10 p11
 go_cut [7] (fun s7 wx => ∃ tb : Nat, s7 = .pointer (some ⟨tb, 0, none⟩) ∧ St W0 wx K (.raw tb #[.int .i64 x.base, .int .i64 x.leader, .bool (bitAt x.attr 3), .bool (bitAt x.attr 4), .bool (bitAt x.attr 5), .int .i64 x.last, .int .i64 x.first, .int .i64 x.maxt, .int .i64 x.prod, .int .i64 x.epoch, .int .i64 x.seq, .slice none 0 0] 43 :: .raw bl #[.int .i64 x.base, .int .i64 x.len, .int .i64 x.leader, .int .i64 x.sum, .int .i64 x.attr, .int .i64 x.last, .int .i64 x.first, .int .i64 x.maxt, .int .i64 x.prod, .int .i64 x.epoch, .int .i64 x.seq, .int .i64 x.count] 3 :: .raw rb #[.int .i64 0, .int .i64 0, .bool false, .bool false, .bool false, .int .i64 0, .int .i64 0, .int .i64 0, .int .i64 0, .int .i64 0, .int .i64 0, .slice none 0 0, .int .i64 0, .int .i64 0] 56 :: L))
 case first =>
  have hs := H.out.drew
  refine wp_region_held_drew (S := fun w' => w'.cell? ⟨bl, 0, none⟩ = some (.int .i64 x.base) ∧ w'.cell? ⟨bl, 1, none⟩ = some (.int .i64 x.len) ∧ w'.cell? ⟨bl, 2, none⟩ = some (.int .i64 x.leader) ∧ w'.cell? ⟨bl, 3, none⟩ = some (.int .i64 x.sum) ∧ w'.cell? ⟨bl, 4, none⟩ = some (.int .i64 x.attr) ∧ w'.cell? ⟨bl, 5, none⟩ = some (.int .i64 x.last) ∧ w'.cell? ⟨bl, 6, none⟩ = some (.int .i64 x.first) ∧ w'.cell? ⟨bl, 7, none⟩ = some (.int .i64 x.maxt) ∧ w'.cell? ⟨bl, 8, none⟩ = some (.int .i64 x.prod) ∧ w'.cell? ⟨bl, 9, none⟩ = some (.int .i64 x.epoch) ∧ w'.cell? ⟨bl, 10, none⟩ = some (.int .i64 x.seq) ∧ w'.cell? ⟨bl, 11, none⟩ = some (.int .i64 x.count)) (by kernel_rfl) (⟨hs.rawCell 0, hs.rawCell 1, hs.rawCell 2, hs.rawCell 3, hs.rawCell 4, hs.rawCell 5, hs.rawCell 6, hs.rawCell 7, hs.rawCell 8, hs.rawCell 9, hs.rawCell 10, hs.rawCell 11⟩) (fun hHeld => ?_)
  refine tQ 0 ⟨some 65, .move (.tmp 3), 40, "ref.go:151", #[], none⟩ ?_; simp only [Act.put, sA, sB, sC]
  refine tQ 1 ⟨some 66, .indexAddr 40 (.tmp 65) (.const (Value.int IntKind.i64 0)), 0, "ref.go:151", #[.mk 0 .data], none⟩ ?_; simp only [Act.put, sA, sB, sC]
  refine tQ 2 ⟨some 67, .load 3 (.tmp 66), 3, "ref.go:151", #[.mk 1 .data], none⟩ ?_; simp only [Act.put, sA, sB, sC]
  refine tQ 3 ⟨some 68, .move (.tmp 3), 40, "ref.go:151", #[], none⟩ ?_; simp only [Act.put, sA, sB, sC]
  refine tQ 4 ⟨some 69, .indexAddr 40 (.tmp 68) (.const (Value.int IntKind.i64 2)), 0, "ref.go:151", #[.mk 3 .data], none⟩ ?_; simp only [Act.put, sA, sB, sC]
  refine tQ 5 ⟨some 70, .load 3 (.tmp 69), 3, "ref.go:151", #[.mk 4 .data], none⟩ ?_; simp only [Act.put, sA, sB, sC]
  refine tQ 6 ⟨some 71, .move (.tmp 6), 3, "ref.go:151", #[], none⟩ ?_; simp only [Act.put, sA, sB, sC]
  refine tQ 7 ⟨some 72, .binOp .quo 3 (.tmp 71) (.const (Value.int IntKind.i64 8)) 3, 3, "ref.go:151", #[.mk 6 .data], none⟩ ?_; simp only [Act.put, sA, sB, sC]
  refine tQ 8 ⟨some 73, .binOp .rem 3 (.tmp 72) (.const (Value.int IntKind.i64 2)) 3, 3, "ref.go:151", #[.mk 7 .data], none⟩ ?_; simp only [Act.put, sA, sB, sC]
  refine tQ 9 ⟨some 74, .binOp .eql 3 (.tmp 73) (.const (Value.int IntKind.i64 1)) 3, 4, "ref.go:151", #[.mk 8 .data], none⟩ ?_; simp only [Act.put, sA, sB, sC]
  refine tQ 10 ⟨some 75, .move (.tmp 6), 3, "ref.go:151", #[], none⟩ ?_; simp only [Act.put, sA, sB, sC]
  refine tQ 11 ⟨some 76, .binOp .quo 3 (.tmp 75) (.const (Value.int IntKind.i64 16)) 3, 3, "ref.go:151", #[.mk 10 .data], none⟩ ?_; simp only [Act.put, sA, sB, sC]
  refine tQ 12 ⟨some 77, .binOp .rem 3 (.tmp 76) (.const (Value.int IntKind.i64 2)) 3, 3, "ref.go:151", #[.mk 11 .data], none⟩ ?_; simp only [Act.put, sA, sB, sC]
  refine tQ 13 ⟨some 78, .binOp .eql 3 (.tmp 77) (.const (Value.int IntKind.i64 1)) 3, 4, "ref.go:151", #[.mk 12 .data], none⟩ ?_; simp only [Act.put, sA, sB, sC]
  refine tQ 14 ⟨some 79, .move (.tmp 6), 3, "ref.go:151", #[], none⟩ ?_; simp only [Act.put, sA, sB, sC]
  refine tQ 15 ⟨some 80, .binOp .quo 3 (.tmp 79) (.const (Value.int IntKind.i64 32)) 3, 3, "ref.go:151", #[.mk 14 .data], none⟩ ?_; simp only [Act.put, sA, sB, sC]
  refine tQ 16 ⟨some 81, .binOp .eql 3 (.tmp 80) (.const (Value.int IntKind.i64 1)) 3, 4, "ref.go:151", #[.mk 15 .data], none⟩ ?_; simp only [Act.put, sA, sB, sC]
  refine tQ 17 ⟨some 82, .move (.tmp 3), 40, "ref.go:151", #[], none⟩ ?_; simp only [Act.put, sA, sB, sC]
  refine tQ 18 ⟨some 83, .indexAddr 40 (.tmp 82) (.const (Value.int IntKind.i64 5)), 0, "ref.go:151", #[.mk 17 .data], none⟩ ?_; simp only [Act.put, sA, sB, sC]
  refine tQ 19 ⟨some 84, .load 3 (.tmp 83), 3, "ref.go:151", #[.mk 18 .data], none⟩ ?_; simp only [Act.put, sA, sB, sC]
  refine tQ 20 ⟨some 85, .move (.tmp 3), 40, "ref.go:151", #[], none⟩ ?_; simp only [Act.put, sA, sB, sC]
  refine tQ 21 ⟨some 86, .indexAddr 40 (.tmp 85) (.const (Value.int IntKind.i64 6)), 0, "ref.go:151", #[.mk 20 .data], none⟩ ?_; simp only [Act.put, sA, sB, sC]
  refine tQ 22 ⟨some 87, .load 3 (.tmp 86), 3, "ref.go:151", #[.mk 21 .data], none⟩ ?_; simp only [Act.put, sA, sB, sC]
  refine tQ 23 ⟨some 88, .move (.tmp 3), 40, "ref.go:151", #[], none⟩ ?_; simp only [Act.put, sA, sB, sC]
  refine tQ 24 ⟨some 89, .indexAddr 40 (.tmp 88) (.const (Value.int IntKind.i64 7)), 0, "ref.go:151", #[.mk 23 .data], none⟩ ?_; simp only [Act.put, sA, sB, sC]
  refine tQ 25 ⟨some 90, .load 3 (.tmp 89), 3, "ref.go:151", #[.mk 24 .data], none⟩ ?_; simp only [Act.put, sA, sB, sC]
  refine tQ 26 ⟨some 91, .move (.tmp 3), 40, "ref.go:151", #[], none⟩ ?_; simp only [Act.put, sA, sB, sC]
  refine tQ 27 ⟨some 92, .indexAddr 40 (.tmp 91) (.const (Value.int IntKind.i64 8)), 0, "ref.go:151", #[.mk 26 .data], none⟩ ?_; simp only [Act.put, sA, sB, sC]
  refine tQ 28 ⟨some 93, .load 3 (.tmp 92), 3, "ref.go:151", #[.mk 27 .data], none⟩ ?_; simp only [Act.put, sA, sB, sC]
  refine tQ 29 ⟨some 94, .move (.tmp 3), 40, "ref.go:151", #[], none⟩ ?_; simp only [Act.put, sA, sB, sC]
  refine tQ 30 ⟨some 95, .indexAddr 40 (.tmp 94) (.const (Value.int IntKind.i64 9)), 0, "ref.go:151", #[.mk 29 .data], none⟩ ?_; simp only [Act.put, sA, sB, sC]
  refine tQ 31 ⟨some 96, .load 3 (.tmp 95), 3, "ref.go:151", #[.mk 30 .data], none⟩ ?_; simp only [Act.put, sA, sB, sC]
  refine tQ 32 ⟨some 97, .move (.tmp 3), 40, "ref.go:151", #[], none⟩ ?_; simp only [Act.put, sA, sB, sC]
  refine tQ 33 ⟨some 98, .indexAddr 40 (.tmp 97) (.const (Value.int IntKind.i64 10)), 0, "ref.go:151", #[.mk 32 .data], none⟩ ?_; simp only [Act.put, sA, sB, sC]
  refine tQ 34 ⟨some 99, .load 3 (.tmp 98), 3, "ref.go:151", #[.mk 33 .data], none⟩ ?_; simp only [Act.put, sA, sB, sC]
  refine tQ 35 ⟨some 100, .build 43 #[(0, .tmp 67), (1, .tmp 70), (2, .tmp 74), (3, .tmp 78), (4, .tmp 81), (5, .tmp 84), (6, .tmp 87), (7, .tmp 90), (8, .tmp 93), (9, .tmp 96), (10, .tmp 99)], 43, "ref.go:151", #[.mk 2 .data, .mk 5 .data, .mk 9 .data, .mk 13 .data, .mk 16 .data, .mk 19 .data, .mk 22 .data, .mk 25 .data, .mk 28 .data, .mk 31 .data, .mk 34 .data], none⟩ ?_; simp only [Act.put, sA, sB, sC]
  refine wpAnyH_ready (rs := [36]) (by kernel_rfl) (by simp) (AllReadyH.cons (o := ⟨some 7, .alloc 43, 0, "ref.go:151", #[], none⟩) rfl (fun KK hK => ?_) AllReadyH.nil)
  · obtain ⟨wy, tb, ey, er, hs⟩ := hs.allocEx #[.int .i64 0, .int .i64 0, .bool false, .bool false, .bool false, .int .i64 0, .int .i64 0, .int .i64 0, .int .i64 0, .int .i64 0, .int .i64 0, .slice none 0 0] 43
    go_simp
    try rw [ey]
    try rw [er]
    clear ey er
    refine hK.out _ _ (⟨hs.p1.rawCell 0, hs.p1.rawCell 1, hs.p1.rawCell 2, hs.p1.rawCell 3, hs.p1.rawCell 4, hs.p1.rawCell 5, hs.p1.rawCell 6, hs.p1.rawCell 7, hs.p1.rawCell 8, hs.p1.rawCell 9, hs.p1.rawCell 10, hs.p1.rawCell 11⟩) (fun hHeld => ?_)
    clear hK KK
    try simp only [Act.put, sA, sB, sC]
    refine wpAnyH_ready (rs := [37]) (by kernel_rfl) (by simp) (AllReadyH.cons (o := ⟨none, .store 43 (.tmp 7) (.tmp 100), 0, "ref.go:151", #[.mk 36 .data, .mk 35 .data, .mk 0 .phase, .mk 1 .phase, .mk 2 .phase, .mk 3 .phase, .mk 4 .phase, .mk 5 .phase, .mk 6 .phase, .mk 7 .phase, .mk 8 .phase, .mk 9 .phase, .mk 10 .phase, .mk 11 .phase, .mk 12 .phase, .mk 13 .phase, .mk 14 .phase, .mk 15 .phase, .mk 16 .phase, .mk 17 .phase, .mk 18 .phase, .mk 19 .phase, .mk 20 .phase, .mk 21 .phase, .mk 22 .phase, .mk 23 .phase, .mk 24 .phase, .mk 25 .phase, .mk 26 .phase, .mk 27 .phase, .mk 28 .phase, .mk 29 .phase, .mk 30 .phase, .mk 31 .phase, .mk 32 .phase, .mk 33 .phase, .mk 34 .phase, .mk 35 .phase, .mk 36 .phase], none⟩) rfl (fun KK hK => ?_) AllReadyH.nil)
    · rw [if_pos (by rfl)]
      refine wp_store_mid 43 (.tmp 7) (.tmp 100) rfl tb 0 #[.int .i64 x.base, .int .i64 x.leader, .bool (x.attr / 8 % 2 == 1), .bool (x.attr / 16 % 2 == 1), .bool (x.attr / 32 == 1), .int .i64 x.last, .int .i64 x.first, .int .i64 x.maxt, .int .i64 x.prod, .int .i64 x.epoch, .int .i64 x.seq, .slice none 0 0] (by rfl) (by rfl) hs.there (by kernel_rfl) (by simp [Value.oneCell']) ?_
      obtain ⟨wz, ez, hs⟩ := hs.storeEx #[.int .i64 x.base, .int .i64 x.leader, .bool (x.attr / 8 % 2 == 1), .bool (x.attr / 16 % 2 == 1), .bool (x.attr / 32 == 1), .int .i64 x.last, .int .i64 x.first, .int .i64 x.maxt, .int .i64 x.prod, .int .i64 x.epoch, .int .i64 x.seq, .slice none 0 0]
      rw [ez]
      clear ez
      rw [setAll_allV] at hs
      rotate_left
      · rfl
      rw [HD.out.1, HD.out.2.1, HD.out.2.2] at hs
      refine hK.out _ _ (⟨hs.p1.rawCell 0, hs.p1.rawCell 1, hs.p1.rawCell 2, hs.p1.rawCell 3, hs.p1.rawCell 4, hs.p1.rawCell 5, hs.p1.rawCell 6, hs.p1.rawCell 7, hs.p1.rawCell 8, hs.p1.rawCell 9, hs.p1.rawCell 10, hs.p1.rawCell 11⟩) (fun hHeld => ?_)
      clear hK KK
      try simp only [Act.put, sA, sB, sC]
      refine wpAnyH_done (by kernel_rfl) ?_ _
      clear hHeld
      go_wp2_with fail
      go_meet
      exact ⟨tb, rfl, hs⟩
 obtain ⟨tb, rfl, h⟩ := hcut
 clear H q8 q16 q32 m8 m16 w8 w16 w32 w8m w16m d0 d1 ha0 ha63 g5 g6 e8 e9
 have H := Lib.hid h
 clear h
 have hge := hge
 go_wp2
 rw [HRW.out]
 go_loopw [8, 9] (fun rv iv wr => ∃ (k : Nat) (acc : List (RecS × Value)) (r : Bs) (K2 : Know) (tv : Value), k ≤ n ∧ iv = .int .i64 k ∧ rv = .string (bb r) ∧ acc.length = k ∧ Hid (preU (acc.map (·.1)) (unpT (n - k) r) = tot) ∧ Hid (r.length ≤ 1000000) ∧ Hid (K2.has K) ∧ Hid (∀ x ∈ acc, K2.has (Know.flat RHdr x.2 3 x.1.hdrs)) ∧ St W0 wr K2 (.row tv 65 7 acc.length (acc.flatMap rcells) :: .raw tb #[.int .i64 x.base, .int .i64 x.leader, .bool (bitAt x.attr 3), .bool (bitAt x.attr 4), .bool (bitAt x.attr 5), .int .i64 x.last, .int .i64 x.first, .int .i64 x.maxt, .int .i64 x.prod, .int .i64 x.epoch, .int .i64 x.seq, tv] 43 :: .raw bl #[.int .i64 x.base, .int .i64 x.len, .int .i64 x.leader, .int .i64 x.sum, .int .i64 x.attr, .int .i64 x.last, .int .i64 x.first, .int .i64 x.maxt, .int .i64 x.prod, .int .i64 x.epoch, .int .i64 x.seq, .int .i64 x.count] 3 :: .raw rb #[.int .i64 0, .int .i64 0, .bool false, .bool false, .bool false, .int .i64 0, .int .i64 0, .int .i64 0, .int .i64 0, .int .i64 0, .int .i64 0, .slice none 0 0, .int .i64 0, .int .i64 0] 56 :: L)) (fun _ iv _ => n - (intOf iv).toNat)
 case atStart => exact ⟨0, [], rw0, K, .slice none 0 0, Nat.zero_le _, rfl, rfl, rfl, HT, HRW1, Lib.hid (Know.has_refl _), Lib.hid (fun x h => by cases h), H.out.nilRow 65 7⟩
 case round =>
  obtain ⟨k, acc, r, K2, tv, hk, rfl, rfl, hacc, HC, HRL, HK2, HALL, hst⟩ := hrel
  have HACC := Lib.hid hacc
  have HKB := Lib.hid (show k ≤ 2147483647 by have := HNB.out; omega)
  clear H hacc
  have t11 := hst.p1.rawCell 11; have tf11 := hst.p1.rawFree 11; simp at t11; have p11 := hst.p2.rawCell 11; simp at p11; obtain ⟨z0, z1, z2, z3, z4, z5, z6, z7, z8, z9, z10, z11, z12, z13, zf0, zf1, zf2, zf3, zf4, zf5, zf6, zf7, zf8, zf9, zf10, zf11, zf12, zf13⟩ := raw14 (b := rb) (hst.p3)
  have H := Lib.hid hst
  clear hst
  have hc9 := HCN.out
  rw [hc9] at p11
  clear hc9
  by_cases hlt : k < n
  · have hc := HC.out
    rw [show n - k = (n - (k + 1)) + 1 by omega] at hc
    have hki : (k : Int) < (n : Int) := by omega
    have hnb : (n : Int) ≤ 2147483647 := by have := HNB.out; omega
    by_cases hr0 : r = []
    · subst hr0
      rw [unpT_nil] at hc
      have hc2 : Except.error 10 = tot := hc
      have hc3 := hc2.trans HTT.out
      obtain rfl : 10 = e := by injection hc3
      clear hc hc2 hc3
      go_wp2_with (go_at_call 36; clear t11 tf11; clear p11; clear z0 zf0 z1 zf1 z2 zf2 z3 zf3 z4 zf4 z5 zf5 z6 zf6 z7 zf7 z8 zf8 z9 zf9 z10 zf10 z11 zf11 z12 zf12 z13 zf13; (with_reducible refine (ref11_fault 10 H.out).mono ?_); rintro e_ wn ⟨rfl, h⟩; obtain ⟨z0, z1, z2, z3, z4, z5, z6, z7, z8, z9, z10, z11, z12, z13, zf0, zf1, zf2, zf3, zf4, zf5, zf6, zf7, zf8, zf9, zf10, zf11, zf12, zf13⟩ := raw14 (b := rb) (h.p3); replace H := Lib.hid h; clear h)
      have hz : St W0 _ _ (.raw rb #[.int .i64 0, .int .i64 0, .bool false, .bool false, .bool false, .int .i64 0, .int .i64 0, .int .i64 0, .int .i64 0, .int .i64 0, .int .i64 0, .slice none 0 0, .int .i64 0, .int .i64 10] 56 :: _) := St.sets14 _ _ _ _ _ _ _ _ _ _ _ _ _ _ (H.out.p3)
      refine bodyPost_ret (rc_cell_only rfl _ _ rb [.int .i64 0, .int .i64 0, .bool false, .bool false, .bool false, .int .i64 0, .int .i64 0, .int .i64 0, .int .i64 0, .int .i64 0, .int .i64 0, .slice none 0 0, .int .i64 0, .int .i64 10] _ rfl (rc_range hz) Tryz.underlying56 rfl (by kernel_rfl)) rfl ?_
      exact ⟨rfl, hz.drop.drop.drop.drop.know HK2.out⟩
    have z1 : (r == []) = false := by rw [beq_eq_false_iff_ne]; exact hr0
    have z2 : (r != []) = true := by simp [bne, z1]
    have z3 : ¬ r = [] := hr0
    have hrl1 : (r.length : Int) ≤ 1000000 := by have := HRL.out; omega
    cases hrr : reRec r with
    | error e2 =>
      rw [unpT_err hr0 hrr] at hc
      have hc2 : Except.error e2 = tot := hc
      have hc3 := hc2.trans HTT.out
      obtain rfl : e2 = e := by injection hc3
      have HRR := Lib.hid hrr
      have gz : (e2 == 0) = false := by rw [beq_eq_false_iff_ne]; exact HE0.out
      have gz2 : (e2 != 0) = true := by simp [bne, gz]
      clear hc hc2 hc3 hrr hr0
      go_wp2_with (first
  | (go_at_call 38; clear t11 tf11; clear p11; clear z0 zf0 z1 zf1 z2 zf2 z3 zf3 z4 zf4 z5 zf5 z6 zf6 z7 zf7 z8 zf8 z9 zf9 z10 zf10 z11 zf11 z12 zf12 z13 zf13; (with_reducible refine (ref07_readE r e2 HRR.out HRL.out H.out).mono ?_); rintro e_ wn ⟨mm, rfl, h⟩; obtain ⟨xb, hxb⟩ : ∃ b, wn.heap.size = b := ⟨_, rfl⟩; have h := h.allocRaw #[.int .i64 0, .int .i64 0, .bool false, .string ⟨#[]⟩, .bool false, .string ⟨#[]⟩, .slice none 0 0, .int .i64 mm, .int .i64 e2] 89; rw [hxb] at h; have r0 := h.rawCell 0; have r1 := h.rawCell 1; have r2 := h.rawCell 2; have r3 := h.rawCell 3; have r4 := h.rawCell 4; have r5 := h.rawCell 5; have r6 := h.rawCell 6; have r7 := h.rawCell 7; have r8 := h.rawCell 8; simp at r0 r1 r2 r3 r4 r5 r6 r7 r8; have t11 := h.p2.rawCell 11; have tf11 := h.p2.rawFree 11; simp at t11; have p11 := h.p3.rawCell 11; simp at p11; obtain ⟨z0, z1, z2, z3, z4, z5, z6, z7, z8, z9, z10, z11, z12, z13, zf0, zf1, zf2, zf3, zf4, zf5, zf6, zf7, zf8, zf9, zf10, zf11, zf12, zf13⟩ := raw14 (b := rb) (h.p4); replace H := Lib.hid h; clear h)
  | (go_at_call 36; clear r0 r1 r2 r3 r4 r5 r6 r7 r8; clear t11 tf11; clear p11; clear z0 zf0 z1 zf1 z2 zf2 z3 zf3 z4 zf4 z5 zf5 z6 zf6 z7 zf7 z8 zf8 z9 zf9 z10 zf10 z11 zf11 z12 zf12 z13 zf13; (with_reducible refine (ref11_fault e2 H.out).mono ?_); rintro e_ wn ⟨rfl, h⟩; obtain ⟨z0, z1, z2, z3, z4, z5, z6, z7, z8, z9, z10, z11, z12, z13, zf0, zf1, zf2, zf3, zf4, zf5, zf6, zf7, zf8, zf9, zf10, zf11, zf12, zf13⟩ := raw14 (b := rb) (h.p4); replace H := Lib.hid h; clear h))
      have hz : St W0 _ _ (.raw rb #[.int .i64 0, .int .i64 0, .bool false, .bool false, .bool false, .int .i64 0, .int .i64 0, .int .i64 0, .int .i64 0, .int .i64 0, .int .i64 0, .slice none 0 0, .int .i64 0, .int .i64 e2] 56 :: _) := St.sets14 _ _ _ _ _ _ _ _ _ _ _ _ _ _ (H.out.p4)
      refine bodyPost_ret (rc_cell_only rfl _ _ rb [.int .i64 0, .int .i64 0, .bool false, .bool false, .bool false, .int .i64 0, .int .i64 0, .int .i64 0, .int .i64 0, .int .i64 0, .int .i64 0, .slice none 0 0, .int .i64 0, .int .i64 e2] _ rfl (rc_range hz) Tryz.underlying56 rfl (by kernel_rfl)) rfl ?_
      exact ⟨rfl, hz.drop.drop.drop.drop.drop.know HK2.out⟩
    | ok yy =>
      obtain ⟨y, m⟩ := yy
      rw [unpT_ok hr0 hrr, ← preU_snoc] at hc
      have hmr := (reRec_one hrr).2.2.2.2.2
      have hmi : (m : Int) ≤ (r.length : Int) := by omega
      have HRR := Lib.hid hrr
      have HC2 := Lib.hid hc
      have HDR := Lib.hid (show List.take (r.length - m) (r.drop m) = r.drop m from List.take_of_length_le (by rw [List.length_drop]; exact Nat.le_refl _))
      clear hc hrr hr0
      go_wp2_with (first
  | (go_at_call 38; clear t11 tf11; clear p11; clear z0 zf0 z1 zf1 z2 zf2 z3 zf3 z4 zf4 z5 zf5 z6 zf6 z7 zf7 z8 zf8 z9 zf9 z10 zf10 z11 zf11 z12 zf12 z13 zf13; (with_reducible refine (ref07_readO r y m HRR.out HRL.out H.out).mono ?_); rintro e_ wn ⟨v1, rfl, h⟩; obtain ⟨q1, cc1, hv1⟩ := flat_form (Know.has_right (Know.has_refl _)) h; subst hv1; obtain ⟨xb, hxb⟩ : ∃ b, wn.heap.size = b := ⟨_, rfl⟩; have h := h.allocRaw #[.int .i64 y.time, .int .i64 y.off, .bool y.key.null, .string (bb y.key.data), .bool y.val.null, .string (bb y.val.data), (.slice q1 y.hdrs.length cc1), .int .i64 m, .int .i64 0] 89; rw [hxb] at h; have r0 := h.rawCell 0; have r1 := h.rawCell 1; have r2 := h.rawCell 2; have r3 := h.rawCell 3; have r4 := h.rawCell 4; have r5 := h.rawCell 5; have r6 := h.rawCell 6; have r7 := h.rawCell 7; have r8 := h.rawCell 8; simp at r0 r1 r2 r3 r4 r5 r6 r7 r8; have t11 := h.p2.rawCell 11; have tf11 := h.p2.rawFree 11; simp at t11; have p11 := h.p3.rawCell 11; simp at p11; obtain ⟨z0, z1, z2, z3, z4, z5, z6, z7, z8, z9, z10, z11, z12, z13, zf0, zf1, zf2, zf3, zf4, zf5, zf6, zf7, zf8, zf9, zf10, zf11, zf12, zf13⟩ := raw14 (b := rb) (h.p4); replace H := Lib.hid h; clear h)
  | (at_builtin; clear t11 tf11; clear p11; clear z0 zf0 z1 zf1 z2 zf2 z3 zf3 z4 zf4 z5 zf5 z6 zf6 z7 zf7 z8 zf8 z9 zf9 z10 zf10 z11 zf11 z12 zf12 z13 zf13; clear r0 r2 r3 r4 r5 r6 r7 r8; refine wpl_app1_st rfl _ _ 41 rfl 65 Tryz.underlying41 elem_rec _ _ _ rfl H.out.p1 [.int .i64 y.time, .int .i64 y.off, .bool y.key.null, .string (bb y.key.data), .bool y.val.null, .string (bb y.val.data), .slice q1 y.hdrs.length cc1] 65 (by first | rfl | (rw [World.size_alloc]; rfl) | (rw [World.size_alloc, hxb]; rfl)) rfl (by simp [Value.oneCell']) (by have := HACC.out; have := HKB.out; unfold maxLen; omega) (by have := HACC.out; have := HKB.out; omega) ?_; intro v' w' h; obtain ⟨qv, cv, hv⟩ := h.rowAny; subst hv; have t11 := h.p2.rawCell 11; have tf11 := h.p2.rawFree 11; simp at t11; have r7 := h.p1.rawCell 7; simp at r7; replace H := Lib.hid h; clear h))
      go_roundw
      case rel =>
       refine ⟨k + 1, acc ++ [(y, .slice q1 y.hdrs.length cc1)], r.drop m, K2.and (Know.flat RHdr (.slice q1 y.hdrs.length cc1) 3 y.hdrs), .slice qv (acc.length + 1) cv, hlt, by go_num, ?_, ?_, ?_, ?_, ?_, ?_, ?_⟩
       · rw [HDR.out]
       · rw [List.length_append, HACC.out]; rfl
       · exact Lib.hid (by rw [List.map_append]; exact HC2.out)
       · exact Lib.hid (by rw [List.length_drop]; have := HRL.out; omega)
       · exact Lib.hid (Know.has_trans (Know.has_left (Know.has_refl _)) HK2.out)
       · refine Lib.hid (fun z hz => ?_)
         rcases List.mem_append.1 hz with hz | hz
         · exact Know.has_trans (Know.has_left (Know.has_refl _)) (HALL.out z hz)
         · rw [List.mem_singleton.1 hz]; exact Know.has_right (Know.has_refl _)
       · rw [List.length_append, List.flatMap_append]
         exact (H.out.p2.rawSet 11 (.slice qv _ cv)).p1.p2.drop
      case measure => first | (simp [intOf]; done) | (simp [intOf]; omega)
  · obtain rfl : k = n := by omega
    have hc := HC.out
    rw [Nat.sub_self, unpT_zero] at hc
    have hki : ¬ (k : Int) < (k : Int) := by omega
    by_cases hr0 : r = []
    · rw [if_pos hr0] at hc
      have hc2 : Except.ok (acc.map (·.1) ++ []) = tot := hc
      have hc3 := hc2.trans HTT.out
      cases hc3
    · rw [if_neg hr0] at hc
      have hc2 : Except.error 10 = tot := hc
      have hc3 := hc2.trans HTT.out
      obtain rfl : 10 = e := by injection hc3
      have z1 : (r == []) = false := by rw [beq_eq_false_iff_ne]; exact hr0
      have z2 : (r != []) = true := by simp [bne, z1]
      have z3 : ¬ r = [] := hr0
      clear hc hc2 hc3 hr0
      go_wp2_with (go_at_call 36; clear t11 tf11; clear p11; clear z0 zf0 z1 zf1 z2 zf2 z3 zf3 z4 zf4 z5 zf5 z6 zf6 z7 zf7 z8 zf8 z9 zf9 z10 zf10 z11 zf11 z12 zf12 z13 zf13; (with_reducible refine (ref11_fault 10 H.out).mono ?_); rintro e_ wn ⟨rfl, h⟩; obtain ⟨z0, z1, z2, z3, z4, z5, z6, z7, z8, z9, z10, z11, z12, z13, zf0, zf1, zf2, zf3, zf4, zf5, zf6, zf7, zf8, zf9, zf10, zf11, zf12, zf13⟩ := raw14 (b := rb) (h.p3); replace H := Lib.hid h; clear h)
      have hz : St W0 _ _ (.raw rb #[.int .i64 0, .int .i64 0, .bool false, .bool false, .bool false, .int .i64 0, .int .i64 0, .int .i64 0, .int .i64 0, .int .i64 0, .int .i64 0, .slice none 0 0, .int .i64 0, .int .i64 10] 56 :: _) := St.sets14 _ _ _ _ _ _ _ _ _ _ _ _ _ _ (H.out.p3)
      refine bodyPost_ret (rc_cell_only rfl _ _ rb [.int .i64 0, .int .i64 0, .bool false, .bool false, .bool false, .int .i64 0, .int .i64 0, .int .i64 0, .int .i64 0, .int .i64 0, .int .i64 0, .slice none 0 0, .int .i64 0, .int .i64 10] _ rfl (rc_range hz) Tryz.underlying56 rfl (by kernel_rfl)) rfl ?_
      exact ⟨rfl, hz.drop.drop.drop.drop.know HK2.out⟩
set_option maxHeartbeats 8000000 in
set_option maxRecDepth 100000 in
theorem r11_chk (s : Bs) (hs : s.length ≤ 1000000) (x : PreS) (hp : rePre s = .ok x) (nn : Nat) (hnn : 61 + (x.len - 49).toNat = nn) (hge0 : nn ≤ s.length) (sd : Bs) (hsd : (s.drop 21).take (nn - 21) = sd) (X : Nat) (hX : (crcMore 0#32 sd).toNat = X) (heq : (X : Int) = x.sum) (h8 : x.attr % 8 = 0) (hn0 : ¬ x.attr < 0) (hn1 : ¬ 63 < x.attr) (hn2 : ¬ (32 ≤ x.attr ∧ x.attr % 32 < 16)) (n : Nat) (hcn : x.count = (n : Int)) (hnb : n ≤ 2147483647) (rs : List RecS) (hu : unpT n ((s.drop 61).take (nn - 61)) = .ok rs) (hrs : rs.length ≤ 1000000) (hrf : ∀ l : List (RecS × Value), l.map (·.1) = rs → FitB l) (e : Int) (he0 : e ≠ 0) (hbe : batErr ⟨x.base, x.leader, bitAt x.attr 3, bitAt x.attr 4, bitAt x.attr 5, x.last, x.first, x.maxt, x.prod, x.epoch, x.seq, rs⟩ = e) {W0 w : World} {K : Know} {L : List Res} (h : St W0 w K L) :
  Calls Tryz.prog 18 #[.string (bb s)] w fun en w' => en = .returned (.agg #[.int .i64 0, .int .i64 0, .bool false, .bool false, .bool false, .int .i64 0, .int .i64 0, .int .i64 0, .int .i64 0, .int .i64 0, .int .i64 0, .slice none 0 0, .int .i64 0, .int .i64 e]) ∧ St W0 w' K L := by
 obtain ⟨rb, hrb⟩ : ∃ b, w.heap.size = b := ⟨_, rfl⟩
 have g1 := h.allocRaw #[.int .i64 0, .int .i64 0, .bool false, .bool false, .bool false, .int .i64 0, .int .i64 0, .int .i64 0, .int .i64 0, .int .i64 0, .int .i64 0, .slice none 0 0, .int .i64 0, .int .i64 0] 56
 rw [hrb] at g1
 obtain ⟨z0, z1, z2, z3, z4, z5, z6, z7, z8, z9, z10, z11, z12, z13, zf0, zf1, zf2, zf3, zf4, zf5, zf6, zf7, zf8, zf9, zf10, zf11, zf12, zf13⟩ := raw14 (b := rb) (g1)
 have H := Lib.hid g1
 have HL := Lib.hid (show s.length ≤ 140737488355328 by omega)
 have HP := Lib.hid hp
 obtain ⟨r1, r2, r3, r4, r5, r6⟩ := pre_ranges hp
 have hln : x.len + 12 = (nn : Int) := by omega
 have hsl : (s.length : Int) ≤ 1000000 := by omega
 have HSD := Lib.hid hsd
 have HX := Lib.hid hX
 have HSL := Lib.hid (show sd.length ≤ 1000000 by rw [← hsd, List.length_take, List.length_drop]; omega)
 have hX4 : (X : Int) < 4294967296 := by rw [← hX]; have := (crcMore 0#32 sd).isLt; omega
 have hwX : IntKind.i64.wrap (X : Int) = (X : Int) := by rw [IntKind.wrap_i64]; omega
 clear hX4
 have hge : (nn : Int) ≤ (s.length : Int) := by omega
 have h21 : (21 : Int) ≤ (nn : Int) := by omega
 have h61 : (61 : Int) ≤ (nn : Int) := by omega
 have hg9 : ¬ (s.length : Int) < (nn : Int) := by omega
 have g5 : ((X : Int) == x.sum) = true := by rw [heq]; exact beq_self_eq_true _
 have g6 : ((X : Int) != x.sum) = false := by simp [bne, g5]
 obtain ⟨c0, c1, hb2, hc1⟩ := two_bytes x.attr
 have HB2 := Lib.hid hb2
 have HA := Lib.hid (show -9223372036854775808 ≤ x.attr ∧ x.attr < 9223372036854775808 from r3)
 have hc8 : (c1.toNat : Int) % 8 = 0 := by rw [hc1]; omega
 have e9 : (((([c0, c1] : List UInt8)[1]'(by simp)).toNat : Int) % 8 != 0) = false := by show ((c1.toNat : Int) % 8 != 0) = false; simp [bne, hc8]
 have e8 : (((([c0, c1] : List UInt8)[1]'(by simp)).toNat : Int) % 8 == 0) = true := by show ((c1.toNat : Int) % 8 == 0) = true; simp [hc8]
 clear hc8 hc1
 have d0 : decide (x.attr < 0) = false := decide_eq_false hn0
 have d1 : decide (63 < x.attr) = false := decide_eq_false hn1
 have ha0 : 0 ≤ x.attr := by omega
 have ha63 : x.attr ≤ 63 := by omega
 have q8 : x.attr.tdiv 8 = x.attr / 8 := Int.tdiv_eq_ediv_of_nonneg ha0
 have q16 : x.attr.tdiv 16 = x.attr / 16 := Int.tdiv_eq_ediv_of_nonneg ha0
 have q32 : x.attr.tdiv 32 = x.attr / 32 := Int.tdiv_eq_ediv_of_nonneg ha0
 have m8 : (x.attr / 8).tmod 2 = x.attr / 8 % 2 := Int.tmod_eq_emod_of_nonneg (by omega)
 have m16 : (x.attr / 16).tmod 2 = x.attr / 16 % 2 := Int.tmod_eq_emod_of_nonneg (by omega)
 have w8 : IntKind.i64.wrap (x.attr / 8) = x.attr / 8 := by rw [IntKind.wrap_i64]; omega
 have w16 : IntKind.i64.wrap (x.attr / 16) = x.attr / 16 := by rw [IntKind.wrap_i64]; omega
 have w32 : IntKind.i64.wrap (x.attr / 32) = x.attr / 32 := by rw [IntKind.wrap_i64]; omega
 have w8m : IntKind.i64.wrap (x.attr / 8 % 2) = x.attr / 8 % 2 := by rw [IntKind.wrap_i64]; omega
 have w16m : IntKind.i64.wrap (x.attr / 16 % 2) = x.attr / 16 % 2 := by rw [IntKind.wrap_i64]; omega
 have b5 : (x.attr / 32 == 1) = bitAt x.attr 5 := by unfold bitAt; rw [show (2 : Int) ^ 5 = 32 by decide, show (x.attr / 32 == 1) = decide (x.attr / 32 = 1) from rfl]; congr 1; rw [eq_iff_iff]; omega
 have b3 : (x.attr / 8 % 2 == 1) = bitAt x.attr 3 := rfl
 have b4 : (x.attr / 16 % 2 == 1) = bitAt x.attr 4 := rfl
 have HD := Lib.hid (And.intro b3 (And.intro b4 b5))
 have HN2 := Lib.hid hn2
 clear h8 hn0 hn1 hn2 b3 b4 b5
 obtain ⟨rw0, hrw⟩ : ∃ r, (s.drop 61).take (nn - 61) = r := ⟨_, rfl⟩
 rw [hrw] at hu
 have HRW := Lib.hid hrw
 have HRW1 := Lib.hid (show rw0.length ≤ 1000000 by rw [← hrw, List.length_take, List.length_drop]; omega)
 obtain ⟨tot, htot⟩ : ∃ t, unpT n rw0 = t := ⟨_, rfl⟩
 have HTT := Lib.hid (htot.symm.trans hu)
 have HT := Lib.hid (show preU [] (unpT (n - 0) rw0) = tot by rw [preU_nil]; exact htot)
 have HNB := Lib.hid hnb
 have HCN := Lib.hid hcn
 have HE0 := Lib.hid he0
 have HBE := Lib.hid hbe
 have HRS := Lib.hid hrs
 have HRF := Lib.hid hrf
 have HB0 := Lib.hid r6
 have HB1 := Lib.hid (show Rn x.base from (pre_R64 hp).1)
 clear h g1 hp hs hnn r3 r4 r5 r6 hsd hX hge0 heq hb2 hu hrw htot hnb hcn he0 hbe hrs hrf
 go_enter Tryz.func18, Tryz.ntmps18
 go_upto_region 7 with (first
  | (go_at_call 17; clear z0 zf0 z1 zf1 z2 zf2 z3 zf3 z4 zf4 z5 zf5 z6 zf6 z7 zf7 z8 zf8 z9 zf9 z10 zf10 z11 zf11 z12 zf12 z13 zf13; (with_reducible refine (ref10_fields_ok s x HP.out HL.out H.out).mono ?_); rintro e_ wn ⟨bl, rfl, h⟩; have p0 := h.rawCell 0; have p1 := h.rawCell 1; have p2 := h.rawCell 2; have p3 := h.rawCell 3; have p4 := h.rawCell 4; have p5 := h.rawCell 5; have p6 := h.rawCell 6; have p7 := h.rawCell 7; have p8 := h.rawCell 8; have p9 := h.rawCell 9; have p10 := h.rawCell 10; have p11 := h.rawCell 11; simp at p0 p1 p2 p3 p4 p5 p6 p7 p8 p9 p10 p11; obtain ⟨z0, z1, z2, z3, z4, z5, z6, z7, z8, z9, z10, z11, z12, z13, zf0, zf1, zf2, zf3, zf4, zf5, zf6, zf7, zf8, zf9, zf10, zf11, zf12, zf13⟩ := raw14 (b := rb) (h.p1); replace H := Lib.hid h; clear h))
 clear z0 zf0 z1 zf1 z2 zf2 z3 zf3 z4 zf4 z5 zf5 z6 zf6 z7 zf7 z8 zf8 z9 zf9 z10 zf10 z11 zf11 z12 zf12 z13 zf13
 clear p0 p1 p2 p3 p4 p5 p6 p7 p8 p9 p10 p11
 go_cut [38] (fun s38 wx => s38 = .bool false ∧ St W0 wx K (.raw bl #[.int .i64 x.base, .int .i64 x.len, .int .i64 x.leader, .int .i64 x.sum, .int .i64 x.attr, .int .i64 x.last, .int .i64 x.first, .int .i64 x.maxt, .int .i64 x.prod, .int .i64 x.epoch, .int .i64 x.seq, .int .i64 x.count] 3 :: .raw rb #[.int .i64 0, .int .i64 0, .bool false, .bool false, .bool false, .int .i64 0, .int .i64 0, .int .i64 0, .int .i64 0, .int .i64 0, .int .i64 0, .slice none 0 0, .int .i64 0, .int .i64 0] 56 :: L))
 case first =>
  have hs := H.out.drew
  refine wp_region_held_drew (S := fun w' => w'.cell? ⟨bl, 0, none⟩ = some (.int .i64 x.base) ∧ w'.cell? ⟨bl, 1, none⟩ = some (.int .i64 x.len) ∧ w'.cell? ⟨bl, 2, none⟩ = some (.int .i64 x.leader) ∧ w'.cell? ⟨bl, 3, none⟩ = some (.int .i64 x.sum) ∧ w'.cell? ⟨bl, 4, none⟩ = some (.int .i64 x.attr) ∧ w'.cell? ⟨bl, 5, none⟩ = some (.int .i64 x.last) ∧ w'.cell? ⟨bl, 6, none⟩ = some (.int .i64 x.first) ∧ w'.cell? ⟨bl, 7, none⟩ = some (.int .i64 x.maxt) ∧ w'.cell? ⟨bl, 8, none⟩ = some (.int .i64 x.prod) ∧ w'.cell? ⟨bl, 9, none⟩ = some (.int .i64 x.epoch) ∧ w'.cell? ⟨bl, 10, none⟩ = some (.int .i64 x.seq) ∧ w'.cell? ⟨bl, 11, none⟩ = some (.int .i64 x.count)) (by kernel_rfl) (⟨hs.rawCell 0, hs.rawCell 1, hs.rawCell 2, hs.rawCell 3, hs.rawCell 4, hs.rawCell 5, hs.rawCell 6, hs.rawCell 7, hs.rawCell 8, hs.rawCell 9, hs.rawCell 10, hs.rawCell 11⟩) (fun hHeld => ?_)
  refine tQ 0 ⟨some 30, .move (.tmp 0), 9, "ref.go:141", #[], none⟩ ?_; simp only [Act.put, sA, sB, sC]
  refine tQ 1 ⟨some 31, .move (.tmp 5), 3, "ref.go:141", #[], none⟩ ?_; simp only [Act.put, sA, sB, sC]
  refine tQ 2 ⟨some 32, .slice 9 (.tmp 30) (some (.const (Value.int IntKind.i64 21))) (some (.tmp 31)) none, 9, "ref.go:141", #[.mk 0 .data, .mk 1 .data], none⟩ ?_; simp only [Act.put, sA, sB, sC]
  refine tQ 5 ⟨some 35, .move (.tmp 3), 40, "ref.go:141", #[], none⟩ ?_; simp only [Act.put, sA, sB, sC]
  refine tQ 6 ⟨some 36, .indexAddr 40 (.tmp 35) (.const (Value.int IntKind.i64 3)), 0, "ref.go:141", #[.mk 5 .data], none⟩ ?_; simp only [Act.put, sA, sB, sC]
  refine tQ 7 ⟨some 37, .load 3 (.tmp 36), 3, "ref.go:141", #[.mk 6 .data], none⟩ ?_; simp only [Act.put, sA, sB, sC]
  refine wpAnyH_ready (rs := [3]) (by kernel_rfl) (by simp) (AllReadyH.cons (o := ⟨some 33, .call { callee := .value (.func 29), args := #[.tmp 32], argTypes := #[9] }, 76, "ref.go:141", #[.mk 2 .data], none⟩) rfl (fun KK hK => ?_) AllReadyH.nil)
  · go_simp
    (try rw [HSD.out])
    go_at_call 29
    with_reducible refine (ref05_sumX sd HSL.out X HX.out hs).mono ?_
    rintro e wq ⟨rfl, hs⟩
    refine hK.out _ _ (⟨hs.rawCell 0, hs.rawCell 1, hs.rawCell 2, hs.rawCell 3, hs.rawCell 4, hs.rawCell 5, hs.rawCell 6, hs.rawCell 7, hs.rawCell 8, hs.rawCell 9, hs.rawCell 10, hs.rawCell 11⟩) (fun hHeld => ?_)
    clear hK KK
    try simp only [Act.put, sA, sB, sC]
    refine tQ 4 ⟨some 34, .convert 76 3 (.tmp 33), 3, "ref.go:141", #[.mk 3 .data], none⟩ ?_; simp only [Act.put, sA, sB, sC]
    refine tQ 8 ⟨some 38, .binOp .neq 3 (.tmp 34) (.tmp 37) 3, 4, "ref.go:141", #[.mk 4 .data, .mk 7 .data], none⟩ ?_; simp only [Act.put, sA, sB, sC]
    refine wpAnyH_done (by kernel_rfl) ?_ _
    clear hHeld
    go_wp2_with fail
    go_meet
    exact ⟨rfl, hs⟩
 obtain ⟨rfl, h⟩ := hcut
 clear H
 have p0 := h.rawCell 0; have p1 := h.rawCell 1; have p2 := h.rawCell 2; have p3 := h.rawCell 3; have p4 := h.rawCell 4; have p5 := h.rawCell 5; have p6 := h.rawCell 6; have p7 := h.rawCell 7; have p8 := h.rawCell 8; have p9 := h.rawCell 9; have p10 := h.rawCell 10; have p11 := h.rawCell 11; simp at p0 p1 p2 p3 p4 p5 p6 p7 p8 p9 p10 p11
 obtain ⟨z0, z1, z2, z3, z4, z5, z6, z7, z8, z9, z10, z11, z12, z13, zf0, zf1, zf2, zf3, zf4, zf5, zf6, zf7, zf8, zf9, zf10, zf11, zf12, zf13⟩ := raw14 (b := rb) (h.p1)
 have H := Lib.hid h
 clear h
 go_upto_region 12 with (first
  | (go_at_call 37; clear z0 zf0 z1 zf1 z2 zf2 z3 zf3 z4 zf4 z5 zf5 z6 zf6 z7 zf7 z8 zf8 z9 zf9 z10 zf10 z11 zf11 z12 zf12 z13 zf13; clear p0 p1 p2 p3 p4 p5 p6 p7 p8 p9 p10 p11; (with_reducible refine (sr_bytes2T x.attr HA.out c0 c1 HB2.out H.out).mono ?_); rintro e_ wn ⟨rfl, h⟩; have p0 := h.rawCell 0; have p1 := h.rawCell 1; have p2 := h.rawCell 2; have p3 := h.rawCell 3; have p4 := h.rawCell 4; have p5 := h.rawCell 5; have p6 := h.rawCell 6; have p7 := h.rawCell 7; have p8 := h.rawCell 8; have p9 := h.rawCell 9; have p10 := h.rawCell 10; have p11 := h.rawCell 11; simp at p0 p1 p2 p3 p4 p5 p6 p7 p8 p9 p10 p11; obtain ⟨z0, z1, z2, z3, z4, z5, z6, z7, z8, z9, z10, z11, z12, z13, zf0, zf1, zf2, zf3, zf4, zf5, zf6, zf7, zf8, zf9, zf10, zf11, zf12, zf13⟩ := raw14 (b := rb) (h.p1); replace H := Lib.hid h; clear h))
 go_cut [63] (fun s63 wx => s63 = .bool false ∧ St W0 wx K (.raw bl #[.int .i64 x.base, .int .i64 x.len, .int .i64 x.leader, .int .i64 x.sum, .int .i64 x.attr, .int .i64 x.last, .int .i64 x.first, .int .i64 x.maxt, .int .i64 x.prod, .int .i64 x.epoch, .int .i64 x.seq, .int .i64 x.count] 3 :: .raw rb #[.int .i64 0, .int .i64 0, .bool false, .bool false, .bool false, .int .i64 0, .int .i64 0, .int .i64 0, .int .i64 0, .int .i64 0, .int .i64 0, .slice none 0 0, .int .i64 0, .int .i64 0] 56 :: L))
 case first =>
  have h9 := H.out
  by_cases c32 : 32 ≤ x.attr
  · have d2 : decide (32 ≤ x.attr) = true := decide_eq_true c32
    have d3 : decide (x.attr % 32 < 16) = false := decide_eq_false (by have := HN2.out; omega)
    clear c32
    go_wp2_with fail
    go_meet
    exact ⟨rfl, h9⟩
  · have d2 : decide (32 ≤ x.attr) = false := decide_eq_false c32
    clear c32
    go_wp2_with fail
    go_meet
    exact ⟨rfl, h9⟩
 obtain ⟨rfl, h⟩ := hcut
 clear H
 have H := Lib.hid h
 clear h
 go_upto_region 14 with (fail)
 clear z0 zf0 z1 zf1 z2 zf2 z3 zf3 z4 zf4 z5 zf5 z6 zf6 z7 zf7 z8 zf8 z9 zf9 z10 zf10 z11 zf11 z12 zf12 z13 zf13
 clear p0 p1 p2 p3 p4 p5 p6 p7 p8 p9 p10 p11
 go_cut [7] (fun s7 wx => ∃ tb : Nat, s7 = .pointer (some ⟨tb, 0, none⟩) ∧ St W0 wx K (.raw tb #[.int .i64 x.base, .int .i64 x.leader, .bool (bitAt x.attr 3), .bool (bitAt x.attr 4), .bool (bitAt x.attr 5), .int .i64 x.last, .int .i64 x.first, .int .i64 x.maxt, .int .i64 x.prod, .int .i64 x.epoch, .int .i64 x.seq, .slice none 0 0] 43 :: .raw bl #[.int .i64 x.base, .int .i64 x.len, .int .i64 x.leader, .int .i64 x.sum, .int .i64 x.attr, .int .i64 x.last, .int .i64 x.first, .int .i64 x.maxt, .int .i64 x.prod, .int .i64 x.epoch, .int .i64 x.seq, .int .i64 x.count] 3 :: .raw rb #[.int .i64 0, .int .i64 0, .bool false, .bool false, .bool false, .int .i64 0, .int .i64 0, .int .i64 0, .int .i64 0, .int .i64 0, .int .i64 0, .slice none 0 0, .int .i64 0, .int .i64 0] 56 :: L))
 case first =>
  have hs := H.out.drew
  refine wp_region_held_drew (S := fun w' => w'.cell? ⟨bl, 0, none⟩ = some (.int .i64 x.base) ∧ w'.cell? ⟨bl, 1, none⟩ = some (.int .i64 x.len) ∧ w'.cell? ⟨bl, 2, none⟩ = some (.int .i64 x.leader) ∧ w'.cell? ⟨bl, 3, none⟩ = some (.int .i64 x.sum) ∧ w'.cell? ⟨bl, 4, none⟩ = some (.int .i64 x.attr) ∧ w'.cell? ⟨bl, 5, none⟩ = some (.int .i64 x.last) ∧ w'.cell? ⟨bl, 6, none⟩ = some (.int .i64 x.first) ∧ w'.cell? ⟨bl, 7, none⟩ = some (.int .i64 x.maxt) ∧ w'.cell? ⟨bl, 8, none⟩ = some (.int .i64 x.prod) ∧ w'.cell? ⟨bl, 9, none⟩ = some (.int .i64 x.epoch) ∧ w'.cell? ⟨bl, 10, none⟩ = some (.int .i64 x.seq) ∧ w'.cell? ⟨bl, 11, none⟩ = some (.int .i64 x.count)) (by kernel_rfl) (⟨hs.rawCell 0, hs.rawCell 1, hs.rawCell 2, hs.rawCell 3, hs.rawCell 4, hs.rawCell 5, hs.rawCell 6, hs.rawCell 7, hs.rawCell 8, hs.rawCell 9, hs.rawCell 10, hs.rawCell 11⟩) (fun hHeld => ?_)
  refine tQ 0 ⟨some 65, .move (.tmp 3), 40, "ref.go:151", #[], none⟩ ?_; simp only [Act.put, sA, sB, sC]
  refine tQ 1 ⟨some 66, .indexAddr 40 (.tmp 65) (.const (Value.int IntKind.i64 0)), 0, "ref.go:151", #[.mk 0 .data], none⟩ ?_; simp only [Act.put, sA, sB, sC]
  refine tQ 2 ⟨some 67, .load 3 (.tmp 66), 3, "ref.go:151", #[.mk 1 .data], none⟩ ?_; simp only [Act.put, sA, sB, sC]
  refine tQ 3 ⟨some 68, .move (.tmp 3), 40, "ref.go:151", #[], none⟩ ?_; simp only [Act.put, sA, sB, sC]
  refine tQ 4 ⟨some 69, .indexAddr 40 (.tmp 68) (.const (Value.int IntKind.i64 2)), 0, "ref.go:151", #[.mk 3 .data], none⟩ ?_; simp only [Act.put, sA, sB, sC]
  refine tQ 5 ⟨some 70, .load 3 (.tmp 69), 3, "ref.go:151", #[.mk 4 .data], none⟩ ?_; simp only [Act.put, sA, sB, sC]
  refine tQ 6 ⟨some 71, .move (.tmp 6), 3, "ref.go:151", #[], none⟩ ?_; simp only [Act.put, sA, sB, sC]
  refine tQ 7 ⟨some 72, .binOp .quo 3 (.tmp 71) (.const (Value.int IntKind.i64 8)) 3, 3, "ref.go:151", #[.mk 6 .data], none⟩ ?_; simp only [Act.put, sA, sB, sC]
  refine tQ 8 ⟨some 73, .binOp .rem 3 (.tmp 72) (.const (Value.int IntKind.i64 2)) 3, 3, "ref.go:151", #[.mk 7 .data], none⟩ ?_; simp only [Act.put, sA, sB, sC]
  refine tQ 9 ⟨some 74, .binOp .eql 3 (.tmp 73) (.const (Value.int IntKind.i64 1)) 3, 4, "ref.go:151", #[.mk 8 .data], none⟩ ?_; simp only [Act.put, sA, sB, sC]
  refine tQ 10 ⟨some 75, .move (.tmp 6), 3, "ref.go:151", #[], none⟩ ?_; simp only [Act.put, sA, sB, sC]
  refine tQ 11 ⟨some 76, .binOp .quo 3 (.tmp 75) (.const (Value.int IntKind.i64 16)) 3, 3, "ref.go:151", #[.mk 10 .data], none⟩ ?_; simp only [Act.put, sA, sB, sC]
  refine tQ 12 ⟨some 77, .binOp .rem 3 (.tmp 76) (.const (Value.int IntKind.i64 2)) 3, 3, "ref.go:151", #[.mk 11 .data], none⟩ ?_; simp only [Act.put, sA, sB, sC]
  refine tQ 13 ⟨some 78, .binOp .eql 3 (.tmp 77) (.const (Value.int IntKind.i64 1)) 3, 4, "ref.go:151", #[.mk 12 .data], none⟩ ?_; simp only [Act.put, sA, sB, sC]
  refine tQ 14 ⟨some 79, .move (.tmp 6), 3, "ref.go:151", #[], none⟩ ?_; simp only [Act.put, sA, sB, sC]
  refine tQ 15 ⟨some 80, .binOp .quo 3 (.tmp 79) (.const (Value.int IntKind.i64 32)) 3, 3, "ref.go:151", #[.mk 14 .data], none⟩ ?_; simp only [Act.put, sA, sB, sC]
  refine tQ 16 ⟨some 81, .binOp .eql 3 (.tmp 80) (.const (Value.int IntKind.i64 1)) 3, 4, "ref.go:151", #[.mk 15 .data], none⟩ ?_; simp only [Act.put, sA, sB, sC]
  refine tQ 17 ⟨some 82, .move (.tmp 3), 40, "ref.go:151", #[], none⟩ ?_; simp only [Act.put, sA, sB, sC]
  refine tQ 18 ⟨some 83, .indexAddr 40 (.tmp 82) (.const (Value.int IntKind.i64 5)), 0, "ref.go:151", #[.mk 17 .data], none⟩ ?_; simp only [Act.put, sA, sB, sC]
  refine tQ 19 ⟨some 84, .load 3 (.tmp 83), 3, "ref.go:151", #[.mk 18 .data], none⟩ ?_; simp only [Act.put, sA, sB, sC]
  refine tQ 20 ⟨some 85, .move (.tmp 3), 40, "ref.go:151", #[], none⟩ ?_; simp only [Act.put, sA, sB, sC]
  refine tQ 21 ⟨some 86, .indexAddr 40 (.tmp 85) (.const (Value.int IntKind.i64 6)), 0, "ref.go:151", #[.mk 20 .data], none⟩ ?_; simp only [Act.put, sA, sB, sC]
  refine tQ 22 ⟨some 87, .load 3 (.tmp 86), 3, "ref.go:151", #[.mk 21 .data], none⟩ ?_; simp only [Act.put, sA, sB, sC]
  refine tQ 23 ⟨some 88, .move (.tmp 3), 40, "ref.go:151", #[], none⟩ ?_; simp only [Act.put, sA, sB, sC]
  refine tQ 24 ⟨some 89, .indexAddr 40 (.tmp 88) (.const (Value.int IntKind.i64 7)), 0, "ref.go:151", #[.mk 23 .data], none⟩ ?_; simp only [Act.put, sA, sB, sC]
  refine tQ 25 ⟨some 90, .load 3 (.tmp 89), 3, "ref.go:151", #[.mk 24 .data], none⟩ ?_; simp only [Act.put, sA, sB, sC]
  refine tQ 26 ⟨some 91, .move (.tmp 3), 40, "ref.go:151", #[], none⟩ ?_; simp only [Act.put, sA, sB, sC]
  refine tQ 27 ⟨some 92, .indexAddr 40 (.tmp 91) (.const (Value.int IntKind.i64 8)), 0, "ref.go:151", #[.mk 26 .data], none⟩ ?_; simp only [Act.put, sA, sB, sC]
  refine tQ 28 ⟨some 93, .load 3 (.tmp 92), 3, "ref.go:151", #[.mk 27 .data], none⟩ ?_; simp only [Act.put, sA, sB, sC]
  refine tQ 29 ⟨some 94, .move (.tmp 3), 40, "ref.go:151", #[], none⟩ ?_; simp only [Act.put, sA, sB, sC]
  refine tQ 30 ⟨some 95, .indexAddr 40 (.tmp 94) (.const (Value.int IntKind.i64 9)), 0, "ref.go:151", #[.mk 29 .data], none⟩ ?_; simp only [Act.put, sA, sB, sC]
  refine tQ 31 ⟨some 96, .load 3 (.tmp 95), 3, "ref.go:151", #[.mk 30 .data], none⟩ ?_; simp only [Act.put, sA, sB, sC]
  refine tQ 32 ⟨some 97, .move (.tmp 3), 40, "ref.go:151", #[], none⟩ ?_; simp only [Act.put, sA, sB, sC]
  refine tQ 33 ⟨some 98, .indexAddr 40 (.tmp 97) (.const (Value.int IntKind.i64 10)), 0, "ref.go:151", #[.mk 32 .data], none⟩ ?_; simp only [Act.put, sA, sB, sC]
  refine tQ 34 ⟨some 99, .load 3 (.tmp 98), 3, "ref.go:151", #[.mk 33 .data], none⟩ ?_; simp only [Act.put, sA, sB, sC]
  refine tQ 35 ⟨some 100, .build 43 #[(0, .tmp 67), (1, .tmp 70), (2, .tmp 74), (3, .tmp 78), (4, .tmp 81), (5, .tmp 84), (6, .tmp 87), (7, .tmp 90), (8, .tmp 93), (9, .tmp 96), (10, .tmp 99)], 43, "ref.go:151", #[.mk 2 .data, .mk 5 .data, .mk 9 .data, .mk 13 .data, .mk 16 .data, .mk 19 .data, .mk 22 .data, .mk 25 .data, .mk 28 .data, .mk 31 .data, .mk 34 .data], none⟩ ?_; simp only [Act.put, sA, sB, sC]
  refine wpAnyH_ready (rs := [36]) (by kernel_rfl) (by simp) (AllReadyH.cons (o := ⟨some 7, .alloc 43, 0, "ref.go:151", #[], none⟩) rfl (fun KK hK => ?_) AllReadyH.nil)
  · obtain ⟨wy, tb, ey, er, hs⟩ := hs.allocEx #[.int .i64 0, .int .i64 0, .bool false, .bool false, .bool false, .int .i64 0, .int .i64 0, .int .i64 0, .int .i64 0, .int .i64 0, .int .i64 0, .slice none 0 0] 43
    go_simp
    try rw [ey]
    try rw [er]
    clear ey er
    refine hK.out _ _ (⟨hs.p1.rawCell 0, hs.p1.rawCell 1, hs.p1.rawCell 2, hs.p1.rawCell 3, hs.p1.rawCell 4, hs.p1.rawCell 5, hs.p1.rawCell 6, hs.p1.rawCell 7, hs.p1.rawCell 8, hs.p1.rawCell 9, hs.p1.rawCell 10, hs.p1.rawCell 11⟩) (fun hHeld => ?_)
    clear hK KK
    try simp only [Act.put, sA, sB, sC]
    refine wpAnyH_ready (rs := [37]) (by kernel_rfl) (by simp) (AllReadyH.cons (o := ⟨none, .store 43 (.tmp 7) (.tmp 100), 0, "ref.go:151", #[.mk 36 .data, .mk 35 .data, .mk 0 .phase, .mk 1 .phase, .mk 2 .phase, .mk 3 .phase, .mk 4 .phase, .mk 5 .phase, .mk 6 .phase, .mk 7 .phase, .mk 8 .phase, .mk 9 .phase, .mk 10 .phase, .mk 11 .phase, .mk 12 .phase, .mk 13 .phase, .mk 14 .phase, .mk 15 .phase, .mk 16 .phase, .mk 17 .phase, .mk 18 .phase, .mk 19 .phase, .mk 20 .phase, .mk 21 .phase, .mk 22 .phase, .mk 23 .phase, .mk 24 .phase, .mk 25 .phase, .mk 26 .phase, .mk 27 .phase, .mk 28 .phase, .mk 29 .phase, .mk 30 .phase, .mk 31 .phase, .mk 32 .phase, .mk 33 .phase, .mk 34 .phase, .mk 35 .phase, .mk 36 .phase], none⟩) rfl (fun KK hK => ?_) AllReadyH.nil)
    · rw [if_pos (by rfl)]
      refine wp_store_mid 43 (.tmp 7) (.tmp 100) rfl tb 0 #[.int .i64 x.base, .int .i64 x.leader, .bool (x.attr / 8 % 2 == 1), .bool (x.attr / 16 % 2 == 1), .bool (x.attr / 32 == 1), .int .i64 x.last, .int .i64 x.first, .int .i64 x.maxt, .int .i64 x.prod, .int .i64 x.epoch, .int .i64 x.seq, .slice none 0 0] (by rfl) (by rfl) hs.there (by kernel_rfl) (by simp [Value.oneCell']) ?_
      obtain ⟨wz, ez, hs⟩ := hs.storeEx #[.int .i64 x.base, .int .i64 x.leader, .bool (x.attr / 8 % 2 == 1), .bool (x.attr / 16 % 2 == 1), .bool (x.attr / 32 == 1), .int .i64 x.last, .int .i64 x.first, .int .i64 x.maxt, .int .i64 x.prod, .int .i64 x.epoch, .int .i64 x.seq, .slice none 0 0]
      rw [ez]
      clear ez
      rw [setAll_allV] at hs
      rotate_left
      · rfl
      rw [HD.out.1, HD.out.2.1, HD.out.2.2] at hs
      refine hK.out _ _ (⟨hs.p1.rawCell 0, hs.p1.rawCell 1, hs.p1.rawCell 2, hs.p1.rawCell 3, hs.p1.rawCell 4, hs.p1.rawCell 5, hs.p1.rawCell 6, hs.p1.rawCell 7, hs.p1.rawCell 8, hs.p1.rawCell 9, hs.p1.rawCell 10, hs.p1.rawCell 11⟩) (fun hHeld => ?_)
      clear hK KK
      try simp only [Act.put, sA, sB, sC]
      refine wpAnyH_done (by kernel_rfl) ?_ _
      clear hHeld
      go_wp2_with fail
      go_meet
      exact ⟨tb, rfl, hs⟩
 obtain ⟨tb, rfl, h⟩ := hcut
 clear H q8 q16 q32 m8 m16 w8 w16 w32 w8m w16m d0 d1 ha0 ha63 g5 g6 e8 e9
 have H := Lib.hid h
 clear h
 have hge := hge
 go_wp2
 rw [HRW.out]
 go_loopw [8, 9] (fun rv iv wr => ∃ (k : Nat) (acc : List (RecS × Value)) (r : Bs) (K2 : Know) (tv : Value), k ≤ n ∧ iv = .int .i64 k ∧ rv = .string (bb r) ∧ acc.length = k ∧ Hid (preU (acc.map (·.1)) (unpT (n - k) r) = tot) ∧ Hid (r.length ≤ 1000000) ∧ Hid (K2.has K) ∧ Hid (∀ x ∈ acc, K2.has (Know.flat RHdr x.2 3 x.1.hdrs)) ∧ St W0 wr K2 (.row tv 65 7 acc.length (acc.flatMap rcells) :: .raw tb #[.int .i64 x.base, .int .i64 x.leader, .bool (bitAt x.attr 3), .bool (bitAt x.attr 4), .bool (bitAt x.attr 5), .int .i64 x.last, .int .i64 x.first, .int .i64 x.maxt, .int .i64 x.prod, .int .i64 x.epoch, .int .i64 x.seq, tv] 43 :: .raw bl #[.int .i64 x.base, .int .i64 x.len, .int .i64 x.leader, .int .i64 x.sum, .int .i64 x.attr, .int .i64 x.last, .int .i64 x.first, .int .i64 x.maxt, .int .i64 x.prod, .int .i64 x.epoch, .int .i64 x.seq, .int .i64 x.count] 3 :: .raw rb #[.int .i64 0, .int .i64 0, .bool false, .bool false, .bool false, .int .i64 0, .int .i64 0, .int .i64 0, .int .i64 0, .int .i64 0, .int .i64 0, .slice none 0 0, .int .i64 0, .int .i64 0] 56 :: L)) (fun _ iv _ => n - (intOf iv).toNat)
 case atStart => exact ⟨0, [], rw0, K, .slice none 0 0, Nat.zero_le _, rfl, rfl, rfl, HT, HRW1, Lib.hid (Know.has_refl _), Lib.hid (fun x h => by cases h), H.out.nilRow 65 7⟩
 case round =>
  obtain ⟨k, acc, r, K2, tv, hk, rfl, rfl, hacc, HC, HRL, HK2, HALL, hst⟩ := hrel
  have HACC := Lib.hid hacc
  have HKB := Lib.hid (show k ≤ 2147483647 by have := HNB.out; omega)
  clear H hacc
  have t11 := hst.p1.rawCell 11; have tf11 := hst.p1.rawFree 11; simp at t11; have p11 := hst.p2.rawCell 11; simp at p11; obtain ⟨z0, z1, z2, z3, z4, z5, z6, z7, z8, z9, z10, z11, z12, z13, zf0, zf1, zf2, zf3, zf4, zf5, zf6, zf7, zf8, zf9, zf10, zf11, zf12, zf13⟩ := raw14 (b := rb) (hst.p3)
  have H := Lib.hid hst
  clear hst
  have hc9 := HCN.out
  rw [hc9] at p11
  clear hc9
  by_cases hlt : k < n
  · have hc := HC.out
    rw [show n - k = (n - (k + 1)) + 1 by omega] at hc
    have hki : (k : Int) < (n : Int) := by omega
    have hnb : (n : Int) ≤ 2147483647 := by have := HNB.out; omega
    by_cases hr0 : r = []
    · subst hr0
      rw [unpT_nil] at hc
      have hc2 : Except.error 10 = tot := hc
      have hc3 := hc2.trans HTT.out
      cases hc3
    have z1 : (r == []) = false := by rw [beq_eq_false_iff_ne]; exact hr0
    have z2 : (r != []) = true := by simp [bne, z1]
    have z3 : ¬ r = [] := hr0
    have hrl1 : (r.length : Int) ≤ 1000000 := by have := HRL.out; omega
    cases hrr : reRec r with
    | error e2 =>
      rw [unpT_err hr0 hrr] at hc
      have hc2 : Except.error e2 = tot := hc
      have hc3 := hc2.trans HTT.out
      cases hc3
    | ok yy =>
      obtain ⟨y, m⟩ := yy
      rw [unpT_ok hr0 hrr, ← preU_snoc] at hc
      have hmr := (reRec_one hrr).2.2.2.2.2
      have hmi : (m : Int) ≤ (r.length : Int) := by omega
      have HRR := Lib.hid hrr
      have HC2 := Lib.hid hc
      have HDR := Lib.hid (show List.take (r.length - m) (r.drop m) = r.drop m from List.take_of_length_le (by rw [List.length_drop]; exact Nat.le_refl _))
      clear hc hrr hr0
      go_wp2_with (first
  | (go_at_call 38; clear t11 tf11; clear p11; clear z0 zf0 z1 zf1 z2 zf2 z3 zf3 z4 zf4 z5 zf5 z6 zf6 z7 zf7 z8 zf8 z9 zf9 z10 zf10 z11 zf11 z12 zf12 z13 zf13; (with_reducible refine (ref07_readO r y m HRR.out HRL.out H.out).mono ?_); rintro e_ wn ⟨v1, rfl, h⟩; obtain ⟨q1, cc1, hv1⟩ := flat_form (Know.has_right (Know.has_refl _)) h; subst hv1; obtain ⟨xb, hxb⟩ : ∃ b, wn.heap.size = b := ⟨_, rfl⟩; have h := h.allocRaw #[.int .i64 y.time, .int .i64 y.off, .bool y.key.null, .string (bb y.key.data), .bool y.val.null, .string (bb y.val.data), (.slice q1 y.hdrs.length cc1), .int .i64 m, .int .i64 0] 89; rw [hxb] at h; have r0 := h.rawCell 0; have r1 := h.rawCell 1; have r2 := h.rawCell 2; have r3 := h.rawCell 3; have r4 := h.rawCell 4; have r5 := h.rawCell 5; have r6 := h.rawCell 6; have r7 := h.rawCell 7; have r8 := h.rawCell 8; simp at r0 r1 r2 r3 r4 r5 r6 r7 r8; have t11 := h.p2.rawCell 11; have tf11 := h.p2.rawFree 11; simp at t11; have p11 := h.p3.rawCell 11; simp at p11; obtain ⟨z0, z1, z2, z3, z4, z5, z6, z7, z8, z9, z10, z11, z12, z13, zf0, zf1, zf2, zf3, zf4, zf5, zf6, zf7, zf8, zf9, zf10, zf11, zf12, zf13⟩ := raw14 (b := rb) (h.p4); replace H := Lib.hid h; clear h)
  | (at_builtin; clear t11 tf11; clear p11; clear z0 zf0 z1 zf1 z2 zf2 z3 zf3 z4 zf4 z5 zf5 z6 zf6 z7 zf7 z8 zf8 z9 zf9 z10 zf10 z11 zf11 z12 zf12 z13 zf13; clear r0 r2 r3 r4 r5 r6 r7 r8; refine wpl_app1_st rfl _ _ 41 rfl 65 Tryz.underlying41 elem_rec _ _ _ rfl H.out.p1 [.int .i64 y.time, .int .i64 y.off, .bool y.key.null, .string (bb y.key.data), .bool y.val.null, .string (bb y.val.data), .slice q1 y.hdrs.length cc1] 65 (by first | rfl | (rw [World.size_alloc]; rfl) | (rw [World.size_alloc, hxb]; rfl)) rfl (by simp [Value.oneCell']) (by have := HACC.out; have := HKB.out; unfold maxLen; omega) (by have := HACC.out; have := HKB.out; omega) ?_; intro v' w' h; obtain ⟨qv, cv, hv⟩ := h.rowAny; subst hv; have t11 := h.p2.rawCell 11; have tf11 := h.p2.rawFree 11; simp at t11; have r7 := h.p1.rawCell 7; simp at r7; replace H := Lib.hid h; clear h))
      go_roundw
      case rel =>
       refine ⟨k + 1, acc ++ [(y, .slice q1 y.hdrs.length cc1)], r.drop m, K2.and (Know.flat RHdr (.slice q1 y.hdrs.length cc1) 3 y.hdrs), .slice qv (acc.length + 1) cv, hlt, by go_num, ?_, ?_, ?_, ?_, ?_, ?_, ?_⟩
       · rw [HDR.out]
       · rw [List.length_append, HACC.out]; rfl
       · exact Lib.hid (by rw [List.map_append]; exact HC2.out)
       · exact Lib.hid (by rw [List.length_drop]; have := HRL.out; omega)
       · exact Lib.hid (Know.has_trans (Know.has_left (Know.has_refl _)) HK2.out)
       · refine Lib.hid (fun z hz => ?_)
         rcases List.mem_append.1 hz with hz | hz
         · exact Know.has_trans (Know.has_left (Know.has_refl _)) (HALL.out z hz)
         · rw [List.mem_singleton.1 hz]; exact Know.has_right (Know.has_refl _)
       · rw [List.length_append, List.flatMap_append]
         exact (H.out.p2.rawSet 11 (.slice qv _ cv)).p1.p2.drop
      case measure => first | (simp [intOf]; done) | (simp [intOf]; omega)
  · obtain rfl : k = n := by omega
    have hc := HC.out
    rw [Nat.sub_self, unpT_zero] at hc
    have hki : ¬ (k : Int) < (k : Int) := by omega
    by_cases hr0 : r = []
    · rw [if_pos hr0] at hc
      have hc2 : Except.ok (acc.map (·.1) ++ []) = tot := hc
      have hc3 := hc2.trans HTT.out
      subst hr0
      have hm0 : acc.map (·.1) = rs := by injection hc3 with h; rw [List.append_nil] at h; exact h
      obtain ⟨q2, cap2, hv⟩ := H.out.rowAny
      subst hv
      have h5 := (H.out.freezeRow (R := RRec) (fun y _ => ⟨rfl, rfl⟩))
      have h6 := h5.know (K' := K.and (Know.recs (.slice q2 acc.length cap2) acc)) (fun w F hh => ⟨HK2.out _ _ hh.1, hh.2, fun y hy => HALL.out y hy _ _ hh.1⟩)
      have HM0 := Lib.hid hm0
      have HBE2 := Lib.hid (show batErr ⟨x.base, x.leader, bitAt x.attr 3, bitAt x.attr 4, bitAt x.attr 5, x.last, x.first, x.maxt, x.prod, x.epoch, x.seq, acc.map (·.1)⟩ = e by rw [hm0]; exact HBE.out)
      have HFB := Lib.hid (HRF.out acc hm0)
      have HLL := Lib.hid (show acc.length ≤ 1000000 by have h8 := congrArg List.length hm0; rw [List.length_map] at h8; have := HRS.out; omega)
      clear t11 tf11; clear p11; clear z0 zf0 z1 zf1 z2 zf2 z3 zf3 z4 zf4 z5 zf5 z6 zf6 z7 zf7 z8 zf8 z9 zf9 z10 zf10 z11 zf11 z12 zf12 z13 zf13
      obtain ⟨z0, z1, z2, z3, z4, z5, z6, z7, z8, z9, z10, z11, z12, z13, zf0, zf1, zf2, zf3, zf4, zf5, zf6, zf7, zf8, zf9, zf10, zf11, zf12, zf13⟩ := raw14 (b := rb) (h6.p2)
      obtain ⟨b0, b1, b2, b3, b4, b5, b6, b7, b8, b9, b10, b11, bf0, bf1, bf2, bf3, bf4, bf5, bf6, bf7, bf8, bf9, bf10, bf11⟩ := raw12 (b := tb) (h6)
      have p11 := h6.p1.rawCell 11; simp at p11
      rw [HCN.out] at p11
      clear H hc hc2 hc3 hm0 h5
      have H := Lib.hid h6
      clear h6
      have gz : (e == 0) = false := by rw [beq_eq_false_iff_ne]; exact HE0.out
      have gz2 : (e != 0) = true := by simp [bne, gz]
      go_wp2_with (first
  | (go_at_call 13; clear b0 bf0 b1 bf1 b2 bf2 b3 bf3 b4 bf4 b5 bf5 b6 bf6 b7 bf7 b8 bf8 b9 bf9 b10 bf10 b11 bf11; clear p11; clear z0 zf0 z1 zf1 z2 zf2 z3 zf3 z4 zf4 z5 zf5 z6 zf6 z7 zf7 z8 zf8 z9 zf9 z10 zf10 z11 zf11 z12 zf12 z13 zf13; (with_reducible refine (ref11_check x.base x.leader (bitAt x.attr 3) (bitAt x.attr 4) (bitAt x.attr 5) x.last x.first x.maxt x.prod x.epoch x.seq acc q2 cap2 e HBE2.out HB0.out HB1.out HFB.out HLL.out (Know.has_right (Know.has_refl _)) H.out).mono ?_); rintro e_ wn ⟨rfl, h⟩; obtain ⟨b0, b1, b2, b3, b4, b5, b6, b7, b8, b9, b10, b11, bf0, bf1, bf2, bf3, bf4, bf5, bf6, bf7, bf8, bf9, bf10, bf11⟩ := raw12 (b := tb) (h); obtain ⟨z0, z1, z2, z3, z4, z5, z6, z7, z8, z9, z10, z11, z12, z13, zf0, zf1, zf2, zf3, zf4, zf5, zf6, zf7, zf8, zf9, zf10, zf11, zf12, zf13⟩ := raw14 (b := rb) (h.p2); replace H := Lib.hid h; clear h)
  | (go_at_call 36; clear b0 bf0 b1 bf1 b2 bf2 b3 bf3 b4 bf4 b5 bf5 b6 bf6 b7 bf7 b8 bf8 b9 bf9 b10 bf10 b11 bf11; clear z0 zf0 z1 zf1 z2 zf2 z3 zf3 z4 zf4 z5 zf5 z6 zf6 z7 zf7 z8 zf8 z9 zf9 z10 zf10 z11 zf11 z12 zf12 z13 zf13; (with_reducible refine (ref11_fault e H.out).mono ?_); rintro e_ wn ⟨rfl, h⟩; obtain ⟨z0, z1, z2, z3, z4, z5, z6, z7, z8, z9, z10, z11, z12, z13, zf0, zf1, zf2, zf3, zf4, zf5, zf6, zf7, zf8, zf9, zf10, zf11, zf12, zf13⟩ := raw14 (b := rb) (h.p2); replace H := Lib.hid h; clear h))
      have hz : St W0 _ _ (.raw rb #[.int .i64 0, .int .i64 0, .bool false, .bool false, .bool false, .int .i64 0, .int .i64 0, .int .i64 0, .int .i64 0, .int .i64 0, .int .i64 0, .slice none 0 0, .int .i64 0, .int .i64 e] 56 :: _) := St.sets14 _ _ _ _ _ _ _ _ _ _ _ _ _ _ (H.out.p2)
      refine bodyPost_ret (rc_cell_only rfl _ _ rb [.int .i64 0, .int .i64 0, .bool false, .bool false, .bool false, .int .i64 0, .int .i64 0, .int .i64 0, .int .i64 0, .int .i64 0, .int .i64 0, .slice none 0 0, .int .i64 0, .int .i64 e] _ rfl (rc_range hz) Tryz.underlying56 rfl (by kernel_rfl)) rfl ?_
      exact ⟨rfl, hz.drop.drop.drop.know (Know.has_left (Know.has_refl _))⟩
    · rw [if_neg hr0] at hc
      have hc2 : Except.error 10 = tot := hc
      have hc3 := hc2.trans HTT.out
      cases hc3

end Go.Proofs.YtngojlinfdokpaaGreat
