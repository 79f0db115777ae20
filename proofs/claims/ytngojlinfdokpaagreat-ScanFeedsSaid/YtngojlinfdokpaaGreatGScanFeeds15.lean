/- A text. -/
import Derived.Test.YtngojlinfdokpaaGreatGScanFeeds13
import Derived.Test.YtngojlinfdokpaaGreatGScanFeeds12
import Derived.Test.YtngojlinfdokpaaGreatGScanFeeds1
import Derived.Test.YtngojlinfdokpaaGreatGScanFeeds9
import Derived.RegionTactic
import Derived.Deep.RegionHeld3
import Derived.Deep.DeepCutAuto
import Derived.Test.YtngojlinfdokpaaGreatGScanFeeds14
import Derived.WalkMore
import Derived.Test.YtngojlinfdokpaaGreatGScanFeeds10
import Derived.Test.YtngojlinfdokpaaGreatGScanFeeds7
/- A text. -/
namespace Go.Proofs.YtngojlinfdokpaaGreat
open Go.RowKit

set_option maxHeartbeats 8000000 in
set_option maxRecDepth 100000 in
theorem r11_ok (s : Bs) (hs : s.length ≤ 1000000) (x : PreS) (hp : rePre s = .ok x) (nn : Nat) (hnn : 61 + (x.len - 49).toNat = nn) (hge0 : nn ≤ s.length) (sd : Bs) (hsd : (s.drop 21).take (nn - 21) = sd) (X : Nat) (hX : (crcMore 0#32 sd).toNat = X) (heq : (X : Int) = x.sum) (h8 : x.attr % 8 = 0) (hn0 : ¬ x.attr < 0) (hn1 : ¬ 63 < x.attr) (hn2 : ¬ (32 ≤ x.attr ∧ x.attr % 32 < 16)) (n : Nat) (hcn : x.count = (n : Int)) (hnb : n ≤ 2147483647) (rs : List RecS) (hu : unpT n ((s.drop 61).take (nn - 61)) = .ok rs) (hrs : rs.length ≤ 1000000) (hrf : ∀ l : List (RecS × Value), l.map (·.1) = rs → FitB l) (hbe : batErr ⟨x.base, x.leader, bitAt x.attr 3, bitAt x.attr 4, bitAt x.attr 5, x.last, x.first, x.maxt, x.prod, x.epoch, x.seq, rs⟩ = 0) {W0 w : World} {K : Know} {L : List Res} (h : St W0 w K L) :
  Calls Tryz.prog 18 #[.string (bb s)] w fun en w' => ∃ (q : Option Addr) (l : List (RecS × Value)) (cap : Nat), en = .returned (.agg #[.int .i64 x.base, .int .i64 x.leader, .bool (bitAt x.attr 3), .bool (bitAt x.attr 4), .bool (bitAt x.attr 5), .int .i64 x.last, .int .i64 x.first, .int .i64 x.maxt, .int .i64 x.prod, .int .i64 x.epoch, .int .i64 x.seq, .slice q l.length cap, .int .i64 nn, .int .i64 0]) ∧ l.map (·.1) = rs ∧ St W0 w' (K.and (Know.recs (.slice q l.length cap) l)) L := by
 obtain ⟨rb, hrb⟩ : ∃ b, w.heap.size = b := ⟨_, rfl⟩
 have g1 := h.allocRaw #[.int .i64 0, .int .i64 0, .bool false, .bool false, .bool false, .int .i64 0, .int .i64 0, .int .i64 0, .int .i64 0, .int .i64 0, .int .i64 0, .slice none 0 0, .int .i64 0, .int .i64 0] 56
 rw [hrb] at g1
 obtain ⟨z0, z1, z2, z3, z4, z5, z6, z7, z8, z9, z10, z11, z12, z13, zf0, zf1, zf2, zf3, zf4, zf5, zf6, zf7, zf8, zf9, zf10, zf11, zf12, zf13⟩ := raw14 (b := rb) (g1)
 have H := Lib.hid g1
 have HL := Lib.hid (show s.length ≤ 140737488355328 by omega)
 have HP := Lib.hid hp
 obtain ⟨r1, r2, r3, r4, r5, r6⟩ := pre_ranges hp
 have hln : x.len + 12 = (nn : Int) := by omega
 have hsl : (s.length : Int) ≤ 1000000 := by omega
 have HSD := Lib.hid hsd
 have HX := Lib.hid hX
 have HSL := Lib.hid (show sd.length ≤ 1000000 by rw [← hsd, List.length_take, List.length_drop]; omega)
 have hX4 : (X : Int) < 4294967296 := by rw [← hX]; have := (crcMore 0#32 sd).isLt; omega
 have hwX : IntKind.i64.wrap (X : Int) = (X : Int) := by rw [IntKind.wrap_i64]; omega
 clear hX4
 have hge : (nn : Int) ≤ (s.length : Int) := by omega
 have h21 : (21 : Int) ≤ (nn : Int) := by omega
 have h61 : (61 : Int) ≤ (nn : Int) := by omega
 have hg9 : ¬ (s.length : Int) < (nn : Int) := by omega
 have g5 : ((X : Int) == x.sum) = true := by rw [heq]; exact beq_self_eq_true _
 have g6 : ((X : Int) != x.sum) = false := by simp [bne, g5]
 obtain ⟨c0, c1, hb2, hc1⟩ := two_bytes x.attr
 have HB2 := Lib.hid hb2
 have HA := Lib.hid (show -9223372036854775808 ≤ x.attr ∧ x.attr < 9223372036854775808 from r3)
 have hc8 : (c1.toNat : Int) % 8 = 0 := by rw [hc1]; omega
 have e9 : (((([c0, c1] : List UInt8)[1]'(by simp)).toNat : Int) % 8 != 0) = false := by show ((c1.toNat : Int) % 8 != 0) = false; simp [bne, hc8]
 have e8 : (((([c0, c1] : List UInt8)[1]'(by simp)).toNat : Int) % 8 == 0) = true := by show ((c1.toNat : Int) % 8 == 0) = true; simp [hc8]
 clear hc8 hc1
 have d0 : decide (x.attr < 0) = false := decide_eq_false hn0
 have d1 : decide (63 < x.attr) = false := decide_eq_false hn1
 have ha0 : 0 ≤ x.attr := by omega
 have ha63 : x.attr ≤ 63 := by omega
 have q8 : x.attr.tdiv 8 = x.attr / 8 := Int.tdiv_eq_ediv_of_nonneg ha0
 have q16 : x.attr.tdiv 16 = x.attr / 16 := Int.tdiv_eq_ediv_of_nonneg ha0
 have q32 : x.attr.tdiv 32 = x.attr / 32 := Int.tdiv_eq_ediv_of_nonneg ha0
 have m8 : (x.attr / 8).tmod 2 = x.attr / 8 % 2 := Int.tmod_eq_emod_of_nonneg (by omega)
 have m16 : (x.attr / 16).tmod 2 = x.attr / 16 % 2 := Int.tmod_eq_emod_of_nonneg (by omega)
 have w8 : IntKind.i64.wrap (x.attr / 8) = x.attr / 8 := by rw [IntKind.wrap_i64]; omega
 have w16 : IntKind.i64.wrap (x.attr / 16) = x.attr / 16 := by rw [IntKind.wrap_i64]; omega
 have w32 : IntKind.i64.wrap (x.attr / 32) = x.attr / 32 := by rw [IntKind.wrap_i64]; omega
 have w8m : IntKind.i64.wrap (x.attr / 8 % 2) = x.attr / 8 % 2 := by rw [IntKind.wrap_i64]; omega
 have w16m : IntKind.i64.wrap (x.attr / 16 % 2) = x.attr / 16 % 2 := by rw [IntKind.wrap_i64]; omega
 have b5 : (x.attr / 32 == 1) = bitAt x.attr 5 := by unfold bitAt; rw [show (2 : Int) ^ 5 = 32 by decide, show (x.attr / 32 == 1) = decide (x.attr / 32 = 1) from rfl]; congr 1; rw [eq_iff_iff]; omega
 have b3 : (x.attr / 8 % 2 == 1) = bitAt x.attr 3 := rfl
 have b4 : (x.attr / 16 % 2 == 1) = bitAt x.attr 4 := rfl
 have HD := Lib.hid (And.intro b3 (And.intro b4 b5))
 have HN2 := Lib.hid hn2
 clear h8 hn0 hn1 hn2 b3 b4 b5
 obtain ⟨rw0, hrw⟩ : ∃ r, (s.drop 61).take (nn - 61) = r := ⟨_, rfl⟩
 rw [hrw] at hu
 have HRW := Lib.hid hrw
 have HRW1 := Lib.hid (show rw0.length ≤ 1000000 by rw [← hrw, List.length_take, List.length_drop]; omega)
 obtain ⟨tot, htot⟩ : ∃ t, unpT n rw0 = t := ⟨_, rfl⟩
 have HTT := Lib.hid (htot.symm.trans hu)
 have HT := Lib.hid (show preU [] (unpT (n - 0) rw0) = tot by rw [preU_nil]; exact htot)
 have HNB := Lib.hid hnb
 have HCN := Lib.hid hcn
 have HBE := Lib.hid hbe
 have HRS := Lib.hid hrs
 have HRF := Lib.hid hrf
 have HB0 := Lib.hid r6
 have HB1 := Lib.hid (show Rn x.base from (pre_R64 hp).1)
 clear h g1 hp hs hnn r3 r4 r5 r6 hsd hX hge0 heq hb2 hu hrw htot hnb hcn hbe hrs hrf
 go_enter Tryz.func18, Tryz.ntmps18
 go_upto_region 7 with (first
  | (go_at_call 17; clear z0 zf0 z1 zf1 z2 zf2 z3 zf3 z4 zf4 z5 zf5 z6 zf6 z7 zf7 z8 zf8 z9 zf9 z10 zf10 z11 zf11 z12 zf12 z13 zf13; (with_reducible refine (ref10_fields_ok s x HP.out HL.out H.out).mono ?_); rintro e_ wn ⟨bl, rfl, h⟩; have p0 := h.rawCell 0; have p1 := h.rawCell 1; have p2 := h.rawCell 2; have p3 := h.rawCell 3; have p4 := h.rawCell 4; have p5 := h.rawCell 5; have p6 := h.rawCell 6; have p7 := h.rawCell 7; have p8 := h.rawCell 8; have p9 := h.rawCell 9; have p10 := h.rawCell 10; have p11 := h.rawCell 11; simp at p0 p1 p2 p3 p4 p5 p6 p7 p8 p9 p10 p11; obtain ⟨z0, z1, z2, z3, z4, z5, z6, z7, z8, z9, z10, z11, z12, z13, zf0, zf1, zf2, zf3, zf4, zf5, zf6, zf7, zf8, zf9, zf10, zf11, zf12, zf13⟩ := raw14 (b := rb) (h.p1); replace H := Lib.hid h; clear h))
 clear z0 zf0 z1 zf1 z2 zf2 z3 zf3 z4 zf4 z5 zf5 z6 zf6 z7 zf7 z8 zf8 z9 zf9 z10 zf10 z11 zf11 z12 zf12 z13 zf13
 clear p0 p1 p2 p3 p4 p5 p6 p7 p8 p9 p10 p11
 go_cut [38] (fun s38 wx => s38 = .bool false ∧ St W0 wx K (.raw bl #[.int .i64 x.base, .int .i64 x.len, .int .i64 x.leader, .int .i64 x.sum, .int .i64 x.attr, .int .i64 x.last, .int .i64 x.first, .int .i64 x.maxt, .int .i64 x.prod, .int .i64 x.epoch, .int .i64 x.seq, .int .i64 x.count] 3 :: .raw rb #[.int .i64 0, .int .i64 0, .bool false, .bool false, .bool false, .int .i64 0, .int .i64 0, .int .i64 0, .int .i64 0, .int .i64 0, .int .i64 0, .slice none 0 0, .int .i64 0, .int .i64 0] 56 :: L))
 case first =>
  have hs := H.out.drew
  refine wp_region_held_drew (S := fun w' => w'.cell? ⟨bl, 0, none⟩ = some (.int .i64 x.base) ∧ w'.cell? ⟨bl, 1, none⟩ = some (.int .i64 x.len) ∧ w'.cell? ⟨bl, 2, none⟩ = some (.int .i64 x.leader) ∧ w'.cell? ⟨bl, 3, none⟩ = some (.int .i64 x.sum) ∧ w'.cell? ⟨bl, 4, none⟩ = some (.int .i64 x.attr) ∧ w'.cell? ⟨bl, 5, none⟩ = some (.int .i64 x.last) ∧ w'.cell? ⟨bl, 6, none⟩ = some (.int .i64 x.first) ∧ w'.cell? ⟨bl, 7, none⟩ = some (.int .i64 x.maxt) ∧ w'.cell? ⟨bl, 8, none⟩ = some (.int .i64 x.prod) ∧ w'.cell? ⟨bl, 9, none⟩ = some (.int .i64 x.epoch) ∧ w'.cell? ⟨bl, 10, none⟩ = some (.int .i64 x.seq) ∧ w'.cell? ⟨bl, 11, none⟩ = some (.int .i64 x.count)) (by kernel_rfl) (⟨hs.rawCell 0, hs.rawCell 1, hs.rawCell 2, hs.rawCell 3, hs.rawCell 4, hs.rawCell 5, hs.rawCell 6, hs.rawCell 7, hs.rawCell 8, hs.rawCell 9, hs.rawCell 10, hs.rawCell 11⟩) (fun hHeld => ?_)
  refine tQ 0 ⟨some 30, .move (.tmp 0), 9, "ref.go:141", #[], none⟩ ?_; simp only [Act.put, sA, sB, sC]
  refine tQ 1 ⟨some 31, .move (.tmp 5), 3, "ref.go:141", #[], none⟩ ?_; simp only [Act.put, sA, sB, sC]
  refine tQ 2 ⟨some 32, .slice 9 (.tmp 30) (some (.const (Value.int IntKind.i64 21))) (some (.tmp 31)) none, 9, "ref.go:141", #[.mk 0 .data, .mk 1 .data], none⟩ ?_; simp only [Act.put, sA, sB, sC]
  refine tQ 5 ⟨some 35, .move (.tmp 3), 40, "ref.go:141", #[], none⟩ ?_; simp only [Act.put, sA, sB, sC]
  refine tQ 6 ⟨some 36, .indexAddr 40 (.tmp 35) (.const (Value.int IntKind.i64 3)), 0, "ref.go:141", #[.mk 5 .data], none⟩ ?_; simp only [Act.put, sA, sB, sC]
  refine tQ 7 ⟨some 37, .load 3 (.tmp 36), 3, "ref.go:141", #[.mk 6 .data], none⟩ ?_; simp only [Act.put, sA, sB, sC]
  refine wpAnyH_ready (rs := [3]) (by kernel_rfl) (by simp) (AllReadyH.cons (o := ⟨some 33, .call { callee := .value (.func 29), args := #[.tmp 32], argTypes := #[9] }, 76, "ref.go:141", #[.mk 2 .data], none⟩) rfl (fun KK hK => ?_) AllReadyH.nil)
  · go_simp
    (try rw [HSD.out])
    go_at_call 29
    with_reducible refine (ref05_sumX sd HSL.out X HX.out hs).mono ?_
    rintro e wq ⟨rfl, hs⟩
    refine hK.out _ _ (⟨hs.rawCell 0, hs.rawCell 1, hs.rawCell 2, hs.rawCell 3, hs.rawCell 4, hs.rawCell 5, hs.rawCell 6, hs.rawCell 7, hs.rawCell 8, hs.rawCell 9, hs.rawCell 10, hs.rawCell 11⟩) (fun hHeld => ?_)
    clear hK KK
    try simp only [Act.put, sA, sB, sC]
    refine tQ 4 ⟨some 34, .convert 76 3 (.tmp 33), 3, "ref.go:141", #[.mk 3 .data], none⟩ ?_; simp only [Act.put, sA, sB, sC]
    refine tQ 8 ⟨some 38, .binOp .neq 3 (.tmp 34) (.tmp 37) 3, 4, "ref.go:141", #[.mk 4 .data, .mk 7 .data], none⟩ ?_; simp only [Act.put, sA, sB, sC]
    refine wpAnyH_done (by kernel_rfl) ?_ _
    clear hHeld
    go_wp2_with fail
    go_meet
    exact ⟨rfl, hs⟩
 obtain ⟨rfl, h⟩ := hcut
 clear H
 have p0 := h.rawCell 0; have p1 := h.rawCell 1; have p2 := h.rawCell 2; have p3 := h.rawCell 3; have p4 := h.rawCell 4; have p5 := h.rawCell 5; have p6 := h.rawCell 6; have p7 := h.rawCell 7; have p8 := h.rawCell 8; have p9 := h.rawCell 9; have p10 := h.rawCell 10; have p11 := h.rawCell 11; simp at p0 p1 p2 p3 p4 p5 p6 p7 p8 p9 p10 p11
 obtain ⟨z0, z1, z2, z3, z4, z5, z6, z7, z8, z9, z10, z11, z12, z13, zf0, zf1, zf2, zf3, zf4, zf5, zf6, zf7, zf8, zf9, zf10, zf11, zf12, zf13⟩ := raw14 (b := rb) (h.p1)
 have H := Lib.hid h
 clear h
 go_upto_region 12 with (first
  | (go_at_call 37; clear z0 zf0 z1 zf1 z2 zf2 z3 zf3 z4 zf4 z5 zf5 z6 zf6 z7 zf7 z8 zf8 z9 zf9 z10 zf10 z11 zf11 z12 zf12 z13 zf13; clear p0 p1 p2 p3 p4 p5 p6 p7 p8 p9 p10 p11; (with_reducible refine (sr_bytes2T x.attr HA.out c0 c1 HB2.out H.out).mono ?_); rintro e_ wn ⟨rfl, h⟩; have p0 := h.rawCell 0; have p1 := h.rawCell 1; have p2 := h.rawCell 2; have p3 := h.rawCell 3; have p4 := h.rawCell 4; have p5 := h.rawCell 5; have p6 := h.rawCell 6; have p7 := h.rawCell 7; have p8 := h.rawCell 8; have p9 := h.rawCell 9; have p10 := h.rawCell 10; have p11 := h.rawCell 11; simp at p0 p1 p2 p3 p4 p5 p6 p7 p8 p9 p10 p11; obtain ⟨z0, z1, z2, z3, z4, z5, z6, z7, z8, z9, z10, z11, z12, z13, zf0, zf1, zf2, zf3, zf4, zf5, zf6, zf7, zf8, zf9, zf10, zf11, zf12, zf13⟩ := raw14 (b := rb) (h.p1); replace H := Lib.hid h; clear h))
 go_cut [63] (fun s63 wx => s63 = .bool false ∧ St W0 wx K (.raw bl #[.int .i64 x.base, .int .i64 x.len, .int .i64 x.leader, .int .i64 x.sum, .int .i64 x.attr, .int .i64 x.last, .int .i64 x.first, .int .i64 x.maxt, .int .i64 x.prod, .int .i64 x.epoch, .int .i64 x.seq, .int .i64 x.count] 3 :: .raw rb #[.int .i64 0, .int .i64 0, .bool false, .bool false, .bool false, .int .i64 0, .int .i64 0, .int .i64 0, .int .i64 0, .int .i64 0, .int .i64 0, .slice none 0 0, .int .i64 0, .int .i64 0] 56 :: L))
 case first =>
  have h9 := H.out
  by_cases c32 : 32 ≤ x.attr
  · have d2 : decide (32 ≤ x.attr) = true := decide_eq_true c32
    have d3 : decide (x.attr % 32 < 16) = false := decide_eq_false (by have := HN2.out; omega)
    clear c32
    go_wp2_with fail
    go_meet
    exact ⟨rfl, h9⟩
  · have d2 : decide (32 ≤ x.attr) = false := decide_eq_false c32
    clear c32
    go_wp2_with fail
    go_meet
    exact ⟨rfl, h9⟩
 obtain ⟨rfl, h⟩ := hcut
 clear H
 have H := Lib.hid h
 clear h
 go_upto_region 14 with (fail)
 clear z0 zf0 z1 zf1 z2 zf2 z3 zf3 z4 zf4 z5 zf5 z6 zf6 z7 zf7 z8 zf8 z9 zf9 z10 zf10 z11 zf11 z12 zf12 z13 zf13
 clear p0 p1 p2 p3 p4 p5 p6 p7 p8 p9 p10 p11
 go_cut [7] (fun s7 wx => ∃ tb : Nat, s7 = .pointer (some ⟨tb, 0, none⟩) ∧ St W0 wx K (.raw tb #[.int .i64 x.base, .int .i64 x.leader, .bool (bitAt x.attr 3), .bool (bitAt x.attr 4), .bool (bitAt x.attr 5), .int .i64 x.last, .int .i64 x.first, .int .i64 x.maxt, .int .i64 x.prod, .int .i64 x.epoch, .int .i64 x.seq, .slice none 0 0] 43 :: .raw bl #[.int .i64 x.base, .int .i64 x.len, .int .i64 x.leader, .int .i64 x.sum, .int .i64 x.attr, .int .i64 x.last, .int .i64 x.first, .int .i64 x.maxt, .int .i64 x.prod, .int .i64 x.epoch, .int .i64 x.seq, .int .i64 x.count] 3 :: .raw rb #[.int .i64 0, .int .i64 0, .bool false, .bool false, .bool false, .int .i64 0, .int .i64 0, .int .i64 0, .int .i64 0, .int .i64 0, .int .i64 0, .slice none 0 0, .int .i64 0, .int .i64 0] 56 :: L))
 case first =>
  have hs := H.out.drew
  refine wp_region_held_drew (S := fun w' => w'.cell? ⟨bl, 0, none⟩ = some (.int .i64 x.base) ∧ w'.cell? ⟨bl, 1, none⟩ = some (.int .i64 x.len) ∧ w'.cell? ⟨bl, 2, none⟩ = some (.int .i64 x.leader) ∧ w'.cell? ⟨bl, 3, none⟩ = some (.int .i64 x.sum) ∧ w'.cell? ⟨bl, 4, none⟩ = some (.int .i64 x.attr) ∧ w'.cell? ⟨bl, 5, none⟩ = some (.int .i64 x.last) ∧ w'.cell? ⟨bl, 6, none⟩ = some (.int .i64 x.first) ∧ w'.cell? ⟨bl, 7, none⟩ = some (.int .i64 x.maxt) ∧ w'.cell? ⟨bl, 8, none⟩ = some (.int .i64 x.prod) ∧ w'.cell? ⟨bl, 9, none⟩ = some (.int .i64 x.epoch) ∧ w'.cell? ⟨bl, 10, none⟩ = some (.int .i64 x.seq) ∧ w'.cell? ⟨bl, 11, none⟩ = some (.int .i64 x.count)) (by kernel_rfl) (⟨hs.rawCell 0, hs.rawCell 1, hs.rawCell 2, hs.rawCell 3, hs.rawCell 4, hs.rawCell 5, hs.rawCell 6, hs.rawCell 7, hs.rawCell 8, hs.rawCell 9, hs.rawCell 10, hs.rawCell 11⟩) (fun hHeld => ?_)
  refine tQ 0 ⟨some 65, .move (.tmp 3), 40, "ref.go:151", #[], none⟩ ?_; simp only [Act.put, sA, sB, sC]
  refine tQ 1 ⟨some 66, .indexAddr 40 (.tmp 65) (.const (Value.int IntKind.i64 0)), 0, "ref.go:151", #[.mk 0 .data], none⟩ ?_; simp only [Act.put, sA, sB, sC]
  refine tQ 2 ⟨some 67, .load 3 (.tmp 66), 3, "ref.go:151", #[.mk 1 .data], none⟩ ?_; simp only [Act.put, sA, sB, sC]
  refine tQ 3 ⟨some 68, .move (.tmp 3), 40, "ref.go:151", #[], none⟩ ?_; simp only [Act.put, sA, sB, sC]
  refine tQ 4 ⟨some 69, .indexAddr 40 (.tmp 68) (.const (Value.int IntKind.i64 2)), 0, "ref.go:151", #[.mk 3 .data], none⟩ ?_; simp only [Act.put, sA, sB, sC]
  refine tQ 5 ⟨some 70, .load 3 (.tmp 69), 3, "ref.go:151", #[.mk 4 .data], none⟩ ?_; simp only [Act.put, sA, sB, sC]
  refine tQ 6 ⟨some 71, .move (.tmp 6), 3, "ref.go:151", #[], none⟩ ?_; simp only [Act.put, sA, sB, sC]
  refine tQ 7 ⟨some 72, .binOp .quo 3 (.tmp 71) (.const (Value.int IntKind.i64 8)) 3, 3, "ref.go:151", #[.mk 6 .data], none⟩ ?_; simp only [Act.put, sA, sB, sC]
  refine tQ 8 ⟨some 73, .binOp .rem 3 (.tmp 72) (.const (Value.int IntKind.i64 2)) 3, 3, "ref.go:151", #[.mk 7 .data], none⟩ ?_; simp only [Act.put, sA, sB, sC]
  refine tQ 9 ⟨some 74, .binOp .eql 3 (.tmp 73) (.const (Value.int IntKind.i64 1)) 3, 4, "ref.go:151", #[.mk 8 .data], none⟩ ?_; simp only [Act.put, sA, sB, sC]
  refine tQ 10 ⟨some 75, .move (.tmp 6), 3, "ref.go:151", #[], none⟩ ?_; simp only [Act.put, sA, sB, sC]
  refine tQ 11 ⟨some 76, .binOp .quo 3 (.tmp 75) (.const (Value.int IntKind.i64 16)) 3, 3, "ref.go:151", #[.mk 10 .data], none⟩ ?_; simp only [Act.put, sA, sB, sC]
  refine tQ 12 ⟨some 77, .binOp .rem 3 (.tmp 76) (.const (Value.int IntKind.i64 2)) 3, 3, "ref.go:151", #[.mk 11 .data], none⟩ ?_; simp only [Act.put, sA, sB, sC]
  refine tQ 13 ⟨some 78, .binOp .eql 3 (.tmp 77) (.const (Value.int IntKind.i64 1)) 3, 4, "ref.go:151", #[.mk 12 .data], none⟩ ?_; simp only [Act.put, sA, sB, sC]
  refine tQ 14 ⟨some 79, .move (.tmp 6), 3, "ref.go:151", #[], none⟩ ?_; simp only [Act.put, sA, sB, sC]
  refine tQ 15 ⟨some 80, .binOp .quo 3 (.tmp 79) (.const (Value.int IntKind.i64 32)) 3, 3, "ref.go:151", #[.mk 14 .data], none⟩ ?_; simp only [Act.put, sA, sB, sC]
  refine tQ 16 ⟨some 81, .binOp .eql 3 (.tmp 80) (.const (Value.int IntKind.i64 1)) 3, 4, "ref.go:151", #[.mk 15 .data], none⟩ ?_; simp only [Act.put, sA, sB, sC]
  refine tQ 17 ⟨some 82, .move (.tmp 3), 40, "ref.go:151", #[], none⟩ ?_; simp only [Act.put, sA, sB, sC]
  refine tQ 18 ⟨some 83, .indexAddr 40 (.tmp 82) (.const (Value.int IntKind.i64 5)), 0, "ref.go:151", #[.mk 17 .data], none⟩ ?_; simp only [Act.put, sA, sB, sC]
  refine tQ 19 ⟨some 84, .load 3 (.tmp 83), 3, "ref.go:151", #[.mk 18 .data], none⟩ ?_; simp only [Act.put, sA, sB, sC]
  refine tQ 20 ⟨some 85, .move (.tmp 3), 40, "ref.go:151", #[], none⟩ ?_; simp only [Act.put, sA, sB, sC]
  refine tQ 21 ⟨some 86, .indexAddr 40 (.tmp 85) (.const (Value.int IntKind.i64 6)), 0, "ref.go:151", #[.mk 20 .data], none⟩ ?_; simp only [Act.put, sA, sB, sC]
  refine tQ 22 ⟨some 87, .load 3 (.tmp 86), 3, "ref.go:151", #[.mk 21 .data], none⟩ ?_; simp only [Act.put, sA, sB, sC]
  refine tQ 23 ⟨some 88, .move (.tmp 3), 40, "ref.go:151", #[], none⟩ ?_; simp only [Act.put, sA, sB, sC]
  refine tQ 24 ⟨some 89, .indexAddr 40 (.tmp 88) (.const (Value.int IntKind.i64 7)), 0, "ref.go:151", #[.mk 23 .data], none⟩ ?_; simp only [Act.put, sA, sB, sC]
  refine tQ 25 ⟨some 90, .load 3 (.tmp 89), 3, "ref.go:151", #[.mk 24 .data], none⟩ ?_; simp only [Act.put, sA, sB, sC]
  refine tQ 26 ⟨some 91, .move (.tmp 3), 40, "ref.go:151", #[], none⟩ ?_; simp only [Act.put, sA, sB, sC]
  refine tQ 27 ⟨some 92, .indexAddr 40 (.tmp 91) (.const (Value.int IntKind.i64 8)), 0, "ref.go:151", #[.mk 26 .data], none⟩ ?_; simp only [Act.put, sA, sB, sC]
  refine tQ 28 ⟨some 93, .load 3 (.tmp 92), 3, "ref.go:151", #[.mk 27 .data], none⟩ ?_; simp only [Act.put, sA, sB, sC]
  refine tQ 29 ⟨some 94, .move (.tmp 3), 40, "ref.go:151", #[], none⟩ ?_; simp only [Act.put, sA, sB, sC]
  refine tQ 30 ⟨some 95, .indexAddr 40 (.tmp 94) (.const (Value.int IntKind.i64 9)), 0, "ref.go:151", #[.mk 29 .data], none⟩ ?_; simp only [Act.put, sA, sB, sC]
  refine tQ 31 ⟨some 96, .load 3 (.tmp 95), 3, "ref.go:151", #[.mk 30 .data], none⟩ ?_; simp only [Act.put, sA, sB, sC]
  refine tQ 32 ⟨some 97, .move (.tmp 3), 40, "ref.go:151", #[], none⟩ ?_; simp only [Act.put, sA, sB, sC]
  refine tQ 33 ⟨some 98, .indexAddr 40 (.tmp 97) (.const (Value.int IntKind.i64 10)), 0, "ref.go:151", #[.mk 32 .data], none⟩ ?_; simp only [Act.put, sA, sB, sC]
  refine tQ 34 ⟨some 99, .load 3 (.tmp 98), 3, "ref.go:151", #[.mk 33 .data], none⟩ ?_; simp only [Act.put, sA, sB, sC]
  refine tQ 35 ⟨some 100, .build 43 #[(0, .tmp 67), (1, .tmp 70), (2, .tmp 74), (3, .tmp 78), (4, .tmp 81), (5, .tmp 84), (6, .tmp 87), (7, .tmp 90), (8, .tmp 93), (9, .tmp 96), (10, .tmp 99)], 43, "ref.go:151", #[.mk 2 .data, .mk 5 .data, .mk 9 .data, .mk 13 .data, .mk 16 .data, .mk 19 .data, .mk 22 .data, .mk 25 .data, .mk 28 .data, .mk 31 .data, .mk 34 .data], none⟩ ?_; simp only [Act.put, sA, sB, sC]
  refine wpAnyH_ready (rs := [36]) (by kernel_rfl) (by simp) (AllReadyH.cons (o := ⟨some 7, .alloc 43, 0, "ref.go:151", #[], none⟩) rfl (fun KK hK => ?_) AllReadyH.nil)
  · obtain ⟨wy, tb, ey, er, hs⟩ := hs.allocEx #[.int .i64 0, .int .i64 0, .bool false, .bool false, .bool false, .int .i64 0, .int .i64 0, .int .i64 0, .int .i64 0, .int .i64 0, .int .i64 0, .slice none 0 0] 43
    go_simp
    try rw [ey]
    try rw [er]
    clear ey er
    refine hK.out _ _ (⟨hs.p1.rawCell 0, hs.p1.rawCell 1, hs.p1.rawCell 2, hs.p1.rawCell 3, hs.p1.rawCell 4, hs.p1.rawCell 5, hs.p1.rawCell 6, hs.p1.rawCell 7, hs.p1.rawCell 8, hs.p1.rawCell 9, hs.p1.rawCell 10, hs.p1.rawCell 11⟩) (fun hHeld => ?_)
    clear hK KK
    try simp only [Act.put, sA, sB, sC]
    refine wpAnyH_ready (rs := [37]) (by kernel_rfl) (by simp) (AllReadyH.cons (o := ⟨none, .store 43 (.tmp 7) (.tmp 100), 0, "ref.go:151", #[.mk 36 .data, .mk 35 .data, .mk 0 .phase, .mk 1 .phase, .mk 2 .phase, .mk 3 .phase, .mk 4 .phase, .mk 5 .phase, .mk 6 .phase, .mk 7 .phase, .mk 8 .phase, .mk 9 .phase, .mk 10 .phase, .mk 11 .phase, .mk 12 .phase, .mk 13 .phase, .mk 14 .phase, .mk 15 .phase, .mk 16 .phase, .mk 17 .phase, .mk 18 .phase, .mk 19 .phase, .mk 20 .phase, .mk 21 .phase, .mk 22 .phase, .mk 23 .phase, .mk 24 .phase, .mk 25 .phase, .mk 26 .phase, .mk 27 .phase, .mk 28 .phase, .mk 29 .phase, .mk 30 .phase, .mk 31 .phase, .mk 32 .phase, .mk 33 .phase, .mk 34 .phase, .mk 35 .phase, .mk 36 .phase], none⟩) rfl (fun KK hK => ?_) AllReadyH.nil)
    · rw [if_pos (by rfl)]
      refine wp_store_mid 43 (.tmp 7) (.tmp 100) rfl tb 0 #[.int .i64 x.base, .int .i64 x.leader, .bool (x.attr / 8 % 2 == 1), .bool (x.attr / 16 % 2 == 1), .bool (x.attr / 32 == 1), .int .i64 x.last, .int .i64 x.first, .int .i64 x.maxt, .int .i64 x.prod, .int .i64 x.epoch, .int .i64 x.seq, .slice none 0 0] (by rfl) (by rfl) hs.there (by kernel_rfl) (by simp [Value.oneCell']) ?_
      obtain ⟨wz, ez, hs⟩ := hs.storeEx #[.int .i64 x.base, .int .i64 x.leader, .bool (x.attr / 8 % 2 == 1), .bool (x.attr / 16 % 2 == 1), .bool (x.attr / 32 == 1), .int .i64 x.last, .int .i64 x.first, .int .i64 x.maxt, .int .i64 x.prod, .int .i64 x.epoch, .int .i64 x.seq, .slice none 0 0]
      rw [ez]
      clear ez
      rw [setAll_allV] at hs
      rotate_left
      · rfl
      rw [HD.out.1, HD.out.2.1, HD.out.2.2] at hs
      refine hK.out _ _ (⟨hs.p1.rawCell 0, hs.p1.rawCell 1, hs.p1.rawCell 2, hs.p1.rawCell 3, hs.p1.rawCell 4, hs.p1.rawCell 5, hs.p1.rawCell 6, hs.p1.rawCell 7, hs.p1.rawCell 8, hs.p1.rawCell 9, hs.p1.rawCell 10, hs.p1.rawCell 11⟩) (fun hHeld => ?_)
      clear hK KK
      try simp only [Act.put, sA, sB, sC]
      refine wpAnyH_done (by kernel_rfl) ?_ _
      clear hHeld
      go_wp2_with fail
      go_meet
      exact ⟨tb, rfl, hs⟩
 obtain ⟨tb, rfl, h⟩ := hcut
 clear H q8 q16 q32 m8 m16 w8 w16 w32 w8m w16m d0 d1 ha0 ha63 g5 g6 e8 e9
 have H := Lib.hid h
 clear h
 have hge := hge
 go_wp2
 rw [HRW.out]
 go_loopw [8, 9] (fun rv iv wr => ∃ (k : Nat) (acc : List (RecS × Value)) (r : Bs) (K2 : Know) (tv : Value), k ≤ n ∧ iv = .int .i64 k ∧ rv = .string (bb r) ∧ acc.length = k ∧ Hid (preU (acc.map (·.1)) (unpT (n - k) r) = tot) ∧ Hid (r.length ≤ 1000000) ∧ Hid (K2.has K) ∧ Hid (∀ x ∈ acc, K2.has (Know.flat RHdr x.2 3 x.1.hdrs)) ∧ St W0 wr K2 (.row tv 65 7 acc.length (acc.flatMap rcells) :: .raw tb #[.int .i64 x.base, .int .i64 x.leader, .bool (bitAt x.attr 3), .bool (bitAt x.attr 4), .bool (bitAt x.attr 5), .int .i64 x.last, .int .i64 x.first, .int .i64 x.maxt, .int .i64 x.prod, .int .i64 x.epoch, .int .i64 x.seq, tv] 43 :: .raw bl #[.int .i64 x.base, .int .i64 x.len, .int .i64 x.leader, .int .i64 x.sum, .int .i64 x.attr, .int .i64 x.last, .int .i64 x.first, .int .i64 x.maxt, .int .i64 x.prod, .int .i64 x.epoch, .int .i64 x.seq, .int .i64 x.count] 3 :: .raw rb #[.int .i64 0, .int .i64 0, .bool false, .bool false, .bool false, .int .i64 0, .int .i64 0, .int .i64 0, .int .i64 0, .int .i64 0, .int .i64 0, .slice none 0 0, .int .i64 0, .int .i64 0] 56 :: L)) (fun _ iv _ => n - (intOf iv).toNat)
 case atStart => exact ⟨0, [], rw0, K, .slice none 0 0, Nat.zero_le _, rfl, rfl, rfl, HT, HRW1, Lib.hid (Know.has_refl _), Lib.hid (fun x h => by cases h), H.out.nilRow 65 7⟩
 case round =>
  obtain ⟨k, acc, r, K2, tv, hk, rfl, rfl, hacc, HC, HRL, HK2, HALL, hst⟩ := hrel
  have HACC := Lib.hid hacc
  have HKB := Lib.hid (show k ≤ 2147483647 by have := HNB.out; omega)
  clear H hacc
  have t11 := hst.p1.rawCell 11; have tf11 := hst.p1.rawFree 11; simp at t11; have p11 := hst.p2.rawCell 11; simp at p11; obtain ⟨z0, z1, z2, z3, z4, z5, z6, z7, z8, z9, z10, z11, z12, z13, zf0, zf1, zf2, zf3, zf4, zf5, zf6, zf7, zf8, zf9, zf10, zf11, zf12, zf13⟩ := raw14 (b := rb) (hst.p3)
  have H := Lib.hid hst
  clear hst
  have hc9 := HCN.out
  rw [hc9] at p11
  clear hc9
  by_cases hlt : k < n
  · have hc := HC.out
    rw [show n - k = (n - (k + 1)) + 1 by omega] at hc
    have hki : (k : Int) < (n : Int) := by omega
    have hnb : (n : Int) ≤ 2147483647 := by have := HNB.out; omega
    by_cases hr0 : r = []
    · subst hr0
      rw [unpT_nil] at hc
      have hc2 : Except.error 10 = tot := hc
      have hc3 := hc2.trans HTT.out
      cases hc3
    have z1 : (r == []) = false := by rw [beq_eq_false_iff_ne]; exact hr0
    have z2 : (r != []) = true := by simp [bne, z1]
    have z3 : ¬ r = [] := hr0
    have hrl1 : (r.length : Int) ≤ 1000000 := by have := HRL.out; omega
    cases hrr : reRec r with
    | error e2 =>
      rw [unpT_err hr0 hrr] at hc
      have hc2 : Except.error e2 = tot := hc
      have hc3 := hc2.trans HTT.out
      cases hc3
    | ok yy =>
      obtain ⟨y, m⟩ := yy
      rw [unpT_ok hr0 hrr, ← preU_snoc] at hc
      have hmr := (reRec_one hrr).2.2.2.2.2
      have hmi : (m : Int) ≤ (r.length : Int) := by omega
      have HRR := Lib.hid hrr
      have HC2 := Lib.hid hc
      have HDR := Lib.hid (show List.take (r.length - m) (r.drop m) = r.drop m from List.take_of_length_le (by rw [List.length_drop]; exact Nat.le_refl _))
      clear hc hrr hr0
      go_wp2_with (first
  | (go_at_call 38; clear t11 tf11; clear p11; clear z0 zf0 z1 zf1 z2 zf2 z3 zf3 z4 zf4 z5 zf5 z6 zf6 z7 zf7 z8 zf8 z9 zf9 z10 zf10 z11 zf11 z12 zf12 z13 zf13; (with_reducible refine (ref07_readO r y m HRR.out HRL.out H.out).mono ?_); rintro e_ wn ⟨v1, rfl, h⟩; obtain ⟨q1, cc1, hv1⟩ := flat_form (Know.has_right (Know.has_refl _)) h; subst hv1; obtain ⟨xb, hxb⟩ : ∃ b, wn.heap.size = b := ⟨_, rfl⟩; have h := h.allocRaw #[.int .i64 y.time, .int .i64 y.off, .bool y.key.null, .string (bb y.key.data), .bool y.val.null, .string (bb y.val.data), (.slice q1 y.hdrs.length cc1), .int .i64 m, .int .i64 0] 89; rw [hxb] at h; have r0 := h.rawCell 0; have r1 := h.rawCell 1; have r2 := h.rawCell 2; have r3 := h.rawCell 3; have r4 := h.rawCell 4; have r5 := h.rawCell 5; have r6 := h.rawCell 6; have r7 := h.rawCell 7; have r8 := h.rawCell 8; simp at r0 r1 r2 r3 r4 r5 r6 r7 r8; have t11 := h.p2.rawCell 11; have tf11 := h.p2.rawFree 11; simp at t11; have p11 := h.p3.rawCell 11; simp at p11; obtain ⟨z0, z1, z2, z3, z4, z5, z6, z7, z8, z9, z10, z11, z12, z13, zf0, zf1, zf2, zf3, zf4, zf5, zf6, zf7, zf8, zf9, zf10, zf11, zf12, zf13⟩ := raw14 (b := rb) (h.p4); replace H := Lib.hid h; clear h)
  | (at_builtin; clear t11 tf11; clear p11; clear z0 zf0 z1 zf1 z2 zf2 z3 zf3 z4 zf4 z5 zf5 z6 zf6 z7 zf7 z8 zf8 z9 zf9 z10 zf10 z11 zf11 z12 zf12 z13 zf13; clear r0 r2 r3 r4 r5 r6 r7 r8; refine wpl_app1_st rfl _ _ 41 rfl 65 Tryz.underlying41 elem_rec _ _ _ rfl H.out.p1 [.int .i64 y.time, .int .i64 y.off, .bool y.key.null, .string (bb y.key.data), .bool y.val.null, .string (bb y.val.data), .slice q1 y.hdrs.length cc1] 65 (by first | rfl | (rw [World.size_alloc]; rfl) | (rw [World.size_alloc, hxb]; rfl)) rfl (by simp [Value.oneCell']) (by have := HACC.out; have := HKB.out; unfold maxLen; omega) (by have := HACC.out; have := HKB.out; omega) ?_; intro v' w' h; obtain ⟨qv, cv, hv⟩ := h.rowAny; subst hv; have t11 := h.p2.rawCell 11; have tf11 := h.p2.rawFree 11; simp at t11; have r7 := h.p1.rawCell 7; simp at r7; replace H := Lib.hid h; clear h))
      go_roundw
      case rel =>
       refine ⟨k + 1, acc ++ [(y, .slice q1 y.hdrs.length cc1)], r.drop m, K2.and (Know.flat RHdr (.slice q1 y.hdrs.length cc1) 3 y.hdrs), .slice qv (acc.length + 1) cv, hlt, by go_num, ?_, ?_, ?_, ?_, ?_, ?_, ?_⟩
       · rw [HDR.out]
       · rw [List.length_append, HACC.out]; rfl
       · exact Lib.hid (by rw [List.map_append]; exact HC2.out)
       · exact Lib.hid (by rw [List.length_drop]; have := HRL.out; omega)
       · exact Lib.hid (Know.has_trans (Know.has_left (Know.has_refl _)) HK2.out)
       · refine Lib.hid (fun z hz => ?_)
         rcases List.mem_append.1 hz with hz | hz
         · exact Know.has_trans (Know.has_left (Know.has_refl _)) (HALL.out z hz)
         · rw [List.mem_singleton.1 hz]; exact Know.has_right (Know.has_refl _)
       · rw [List.length_append, List.flatMap_append]
         exact (H.out.p2.rawSet 11 (.slice qv _ cv)).p1.p2.drop
      case measure => first | (simp [intOf]; done) | (simp [intOf]; omega)
  · obtain rfl : k = n := by omega
    have hc := HC.out
    rw [Nat.sub_self, unpT_zero] at hc
    have hki : ¬ (k : Int) < (k : Int) := by omega
    by_cases hr0 : r = []
    · rw [if_pos hr0] at hc
      have hc2 : Except.ok (acc.map (·.1) ++ []) = tot := hc
      have hc3 := hc2.trans HTT.out
      subst hr0
      have hm0 : acc.map (·.1) = rs := by injection hc3 with h; rw [List.append_nil] at h; exact h
      obtain ⟨q2, cap2, hv⟩ := H.out.rowAny
      subst hv
      have h5 := (H.out.freezeRow (R := RRec) (fun y _ => ⟨rfl, rfl⟩))
      have h6 := h5.know (K' := K.and (Know.recs (.slice q2 acc.length cap2) acc)) (fun w F hh => ⟨HK2.out _ _ hh.1, hh.2, fun y hy => HALL.out y hy _ _ hh.1⟩)
      have HM0 := Lib.hid hm0
      have HBE2 := Lib.hid (show batErr ⟨x.base, x.leader, bitAt x.attr 3, bitAt x.attr 4, bitAt x.attr 5, x.last, x.first, x.maxt, x.prod, x.epoch, x.seq, acc.map (·.1)⟩ = 0 by rw [hm0]; exact HBE.out)
      have HFB := Lib.hid (HRF.out acc hm0)
      have HLL := Lib.hid (show acc.length ≤ 1000000 by have h8 := congrArg List.length hm0; rw [List.length_map] at h8; have := HRS.out; omega)
      clear t11 tf11; clear p11; clear z0 zf0 z1 zf1 z2 zf2 z3 zf3 z4 zf4 z5 zf5 z6 zf6 z7 zf7 z8 zf8 z9 zf9 z10 zf10 z11 zf11 z12 zf12 z13 zf13
      obtain ⟨z0, z1, z2, z3, z4, z5, z6, z7, z8, z9, z10, z11, z12, z13, zf0, zf1, zf2, zf3, zf4, zf5, zf6, zf7, zf8, zf9, zf10, zf11, zf12, zf13⟩ := raw14 (b := rb) (h6.p2)
      obtain ⟨b0, b1, b2, b3, b4, b5, b6, b7, b8, b9, b10, b11, bf0, bf1, bf2, bf3, bf4, bf5, bf6, bf7, bf8, bf9, bf10, bf11⟩ := raw12 (b := tb) (h6)
      have p11 := h6.p1.rawCell 11; simp at p11
      rw [HCN.out] at p11
      clear H hc hc2 hc3 hm0 h5
      have H := Lib.hid h6
      clear h6
      go_wp2_with (go_at_call 13; clear b0 bf0 b1 bf1 b2 bf2 b3 bf3 b4 bf4 b5 bf5 b6 bf6 b7 bf7 b8 bf8 b9 bf9 b10 bf10 b11 bf11; clear p11; clear z0 zf0 z1 zf1 z2 zf2 z3 zf3 z4 zf4 z5 zf5 z6 zf6 z7 zf7 z8 zf8 z9 zf9 z10 zf10 z11 zf11 z12 zf12 z13 zf13; (with_reducible refine (ref11_check x.base x.leader (bitAt x.attr 3) (bitAt x.attr 4) (bitAt x.attr 5) x.last x.first x.maxt x.prod x.epoch x.seq acc q2 cap2 0 HBE2.out HB0.out HB1.out HFB.out HLL.out (Know.has_right (Know.has_refl _)) H.out).mono ?_); rintro e_ wn ⟨rfl, h⟩; obtain ⟨b0, b1, b2, b3, b4, b5, b6, b7, b8, b9, b10, b11, bf0, bf1, bf2, bf3, bf4, bf5, bf6, bf7, bf8, bf9, bf10, bf11⟩ := raw12 (b := tb) (h); obtain ⟨z0, z1, z2, z3, z4, z5, z6, z7, z8, z9, z10, z11, z12, z13, zf0, zf1, zf2, zf3, zf4, zf5, zf6, zf7, zf8, zf9, zf10, zf11, zf12, zf13⟩ := raw14 (b := rb) (h.p2); replace H := Lib.hid h; clear h)
      have hz : St W0 _ _ (.raw rb #[.int .i64 x.base, .int .i64 x.leader, .bool (bitAt x.attr 3), .bool (bitAt x.attr 4), .bool (bitAt x.attr 5), .int .i64 x.last, .int .i64 x.first, .int .i64 x.maxt, .int .i64 x.prod, .int .i64 x.epoch, .int .i64 x.seq, .slice q2 acc.length cap2, .int .i64 nn, .int .i64 0] 56 :: _) := St.sets14 _ _ _ _ _ _ _ _ _ _ _ _ _ _ (H.out.p2)
      refine bodyPost_ret (rc_cell_only rfl _ _ rb [.int .i64 x.base, .int .i64 x.leader, .bool (bitAt x.attr 3), .bool (bitAt x.attr 4), .bool (bitAt x.attr 5), .int .i64 x.last, .int .i64 x.first, .int .i64 x.maxt, .int .i64 x.prod, .int .i64 x.epoch, .int .i64 x.seq, .slice q2 acc.length cap2, .int .i64 nn, .int .i64 0] _ rfl (rc_range hz) Tryz.underlying56 rfl (by kernel_rfl)) rfl ?_
      exact ⟨q2, acc, cap2, rfl, HM0.out, hz.drop.drop.drop⟩
    · rw [if_neg hr0] at hc
      have hc2 : Except.error 10 = tot := hc
      have hc3 := hc2.trans HTT.out
      cases hc3
theorem said_eq (s : Bs) (k : Nat) : (s.drop 21).take (61 + k - 21) = (s.take 61).drop 21 ++ (s.drop 61).take k := by
 rw [show 61 + k - 21 = 40 + k by omega, List.take_add, List.drop_drop, List.drop_take]
theorem asmB_cases (x : PreS) (said rows : Bs) (P : Except Int BatS → Prop)
    (h1 : ((crcMore 0#32 (said.drop 21 ++ rows)).toNat : Int) ≠ x.sum → P (.error 5))
    (h2 : ((crcMore 0#32 (said.drop 21 ++ rows)).toNat : Int) = x.sum → chk x.attr ≠ 0 → P (.error (chk x.attr)))
    (h3 : ((crcMore 0#32 (said.drop 21 ++ rows)).toNat : Int) = x.sum → chk x.attr = 0 → ∀ e, unp x.count.toNat ⟨rows, 0, 0⟩ = .error e → P (.error e))
    (h4 : ((crcMore 0#32 (said.drop 21 ++ rows)).toNat : Int) = x.sum → chk x.attr = 0 → ∀ rs e, unp x.count.toNat ⟨rows, 0, 0⟩ = .ok rs → e ≠ 0 → batErr ⟨x.base, x.leader, bitAt x.attr 3, bitAt x.attr 4, bitAt x.attr 5, x.last, x.first, x.maxt, x.prod, x.epoch, x.seq, rs⟩ = e → P (.error e))
    (h5 : ((crcMore 0#32 (said.drop 21 ++ rows)).toNat : Int) = x.sum → chk x.attr = 0 → ∀ rs, unp x.count.toNat ⟨rows, 0, 0⟩ = .ok rs → batErr ⟨x.base, x.leader, bitAt x.attr 3, bitAt x.attr 4, bitAt x.attr 5, x.last, x.first, x.maxt, x.prod, x.epoch, x.seq, rs⟩ = 0 → P (.ok ⟨x.base, x.leader, bitAt x.attr 3, bitAt x.attr 4, bitAt x.attr 5, x.last, x.first, x.maxt, x.prod, x.epoch, x.seq, rs⟩)) : P (asmB x said rows) := by
  unfold asmB
  by_cases c1 : ((crcMore 0#32 (said.drop 21 ++ rows)).toNat : Int) ≠ x.sum
  · rw [if_pos c1]; exact h1 c1
  rw [if_neg c1]
  have c1 := Decidable.of_not_not c1
  by_cases c2 : chk x.attr ≠ 0
  · rw [if_pos c2]; exact h2 c1 c2
  rw [if_neg c2]
  have c2 := Decidable.of_not_not c2
  cases hu : unp x.count.toNat ⟨rows, 0, 0⟩ with
  | error e => exact h3 c1 c2 e hu
  | ok rs =>
    simp only
    split
    · rename_i c3; exact h5 c1 c2 rs hu c3
    · rename_i c3; exact h4 c1 c2 rs _ hu c3 rfl
theorem unpT_ne {n : Nat} {s : Bs} {e : Int} (h : unpT n s = .error e) : e ≠ 0 := by
 induction n generalizing s with
 | zero =>
  rw [unpT_zero] at h
  split at h
  · cases h
  · cases h; decide
 | succ n ih =>
  by_cases c : s = []
  · subst c; rw [unpT_nil] at h; cases h; decide
  · cases hr : reRec s with
    | error e2 => rw [unpT_err c hr] at h; cases h; exact reRec_nz hr
    | ok y =>
     obtain ⟨x, m⟩ := y
     rw [unpT_ok c hr] at h
     cases hu : unpT n (s.drop m) with
     | error e2 => rw [hu] at h; cases h; exact ih hu
     | ok t => rw [hu] at h; cases h
theorem ref11_readW (s : Bs) (hs : s.length ≤ 1000000) {W0 w : World} {K : Know} {L : List Res} (h : St W0 w K L) :
  Calls Tryz.prog 18 #[.string (bb s)] w fun en w' => match reBat s with
    | .error e => en = .returned (.agg #[.int .i64 0, .int .i64 0, .bool false, .bool false, .bool false, .int .i64 0, .int .i64 0, .int .i64 0, .int .i64 0, .int .i64 0, .int .i64 0, .slice none 0 0, .int .i64 0, .int .i64 e]) ∧ St W0 w' K L
    | .ok (b, n) => ∃ (q : Option Addr) (l : List (RecS × Value)) (cap : Nat), en = .returned (.agg #[.int .i64 b.base, .int .i64 b.leader, .bool b.app, .bool b.txn, .bool b.ctl, .int .i64 b.last, .int .i64 b.first, .int .i64 b.maxt, .int .i64 b.prod, .int .i64 b.epoch, .int .i64 b.seq, .slice q l.length cap, .int .i64 n, .int .i64 0]) ∧ l.map (·.1) = b.recs ∧ St W0 w' (K.and (Know.recs (.slice q l.length cap) l)) L := by
 unfold reBat
 cases hp : rePre s with
 | error e => exact r11_fields s hs e hp h
 | ok x =>
  simp only
  by_cases c1 : s.length < 61 + (x.len - 49).toNat
  · rw [if_pos c1]
    exact r11_short s hs x hp _ rfl c1 h
  rw [if_neg c1]
  have hse := said_eq s (x.len - 49).toNat
  have hpr := pre_ranges hp
  have hcn : x.count = (x.count.toNat : Int) := by have := hpr.2.2.2.1; omega
  have hnb : x.count.toNat ≤ 2147483647 := by have := hpr.2.2.2.2.1; omega
  have hrw : (s.drop 61).take (61 + (x.len - 49).toNat - 61) = (s.drop 61).take (x.len - 49).toNat := by rw [Nat.add_sub_cancel_left]
  have ok1 : chk x.attr = 0 → x.attr % 8 = 0 ∧ ¬ x.attr < 0 ∧ ¬ 63 < x.attr ∧ ¬ (32 ≤ x.attr ∧ x.attr % 32 < 16) := by
    intro hc
    by_cases h8 : x.attr % 8 = 0
    · rw [chk8_doc _ h8] at hc
      split at hc
      · cases hc
      · omega
    · rw [(chk8_low _).2 h8] at hc; cases hc
  refine asmB_cases x (s.take 61) ((s.drop 61).take (x.len - 49).toNat) (fun r => Calls Tryz.prog 18 #[.string (bb s)] w fun en w' => match (match r with | .error e => Except.error e | .ok b => Except.ok (b, 61 + (x.len - 49).toNat)) with
    | .error e => en = .returned (.agg #[.int .i64 0, .int .i64 0, .bool false, .bool false, .bool false, .int .i64 0, .int .i64 0, .int .i64 0, .int .i64 0, .int .i64 0, .int .i64 0, .slice none 0 0, .int .i64 0, .int .i64 e]) ∧ St W0 w' K L
    | .ok (b, n) => ∃ (q : Option Addr) (l : List (RecS × Value)) (cap : Nat), en = .returned (.agg #[.int .i64 b.base, .int .i64 b.leader, .bool b.app, .bool b.txn, .bool b.ctl, .int .i64 b.last, .int .i64 b.first, .int .i64 b.maxt, .int .i64 b.prod, .int .i64 b.epoch, .int .i64 b.seq, .slice q l.length cap, .int .i64 n, .int .i64 0]) ∧ l.map (·.1) = b.recs ∧ St W0 w' (K.and (Know.recs (.slice q l.length cap) l)) L) ?_ ?_ ?_ ?_ ?_
  · intro e1
    exact r11_sum s hs x hp _ rfl (by omega) _ hse _ rfl e1 h
  · intro e1 e2
    by_cases h8 : x.attr % 8 = 0
    · have e3 := e2
      rw [chk8_doc _ h8] at e3
      have e4 : x.attr < 0 ∨ 63 < x.attr ∨ (32 ≤ x.attr ∧ x.attr % 32 < 16) := by
       by_cases hh : x.attr < 0 ∨ 63 < x.attr ∨ (32 ≤ x.attr ∧ x.attr % 32 < 16)
       · exact hh
       · rw [if_neg hh] at e3; exact absurd rfl e3
      rw [chk8_doc _ h8, if_pos e4]
      by_cases n0 : x.attr < 0
      · exact r11_hi0 s hs x hp _ rfl (by omega) _ hse _ rfl e1 h8 n0 h
      by_cases n1 : 63 < x.attr
      · exact r11_hi1 s hs x hp _ rfl (by omega) _ hse _ rfl e1 h8 n0 n1 h
      exact r11_hi2 s hs x hp _ rfl (by omega) _ hse _ rfl e1 h8 n0 n1 (by omega) (by omega) h
    · rw [(chk8_low _).2 h8]
      exact r11_low s hs x hp _ rfl (by omega) _ hse _ rfl e1 h8 h
  · intro e1 e2 e hu
    obtain ⟨a1, a2, a3, a4⟩ := ok1 e2
    rw [unp_unpT _ _ 0 (Nat.zero_le _), List.drop_zero, ← hrw] at hu
    exact r11_unp s hs x hp _ rfl (by omega) _ hse _ rfl e1 a1 a2 a3 a4 _ hcn hnb e (unpT_ne hu) hu h
  · intro e1 e2 rs e hu h0 hb
    obtain ⟨a1, a2, a3, a4⟩ := ok1 e2
    have hrl : ((s.drop 61).take (x.len - 49).toNat).length ≤ 1000000 := by rw [List.length_take, List.length_drop]; omega
    have hf : ∀ l : List (RecS × Value), l.map (·.1) = rs → FitB l := fun l hl => (unp_fitB hu hl hrl).1
    have hl2 : rs.length ≤ 1000000 := by have := (unp_fit _ _ 0 _ (Nat.zero_le _) hu).2.1; omega
    rw [unp_unpT _ _ 0 (Nat.zero_le _), List.drop_zero, ← hrw] at hu
    exact r11_chk s hs x hp _ rfl (by omega) _ hse _ rfl e1 a1 a2 a3 a4 _ hcn hnb rs hu hl2 hf e h0 hb h
  · intro e1 e2 rs hu hb
    obtain ⟨a1, a2, a3, a4⟩ := ok1 e2
    have hrl : ((s.drop 61).take (x.len - 49).toNat).length ≤ 1000000 := by rw [List.length_take, List.length_drop]; omega
    have hf : ∀ l : List (RecS × Value), l.map (·.1) = rs → FitB l := fun l hl => (unp_fitB hu hl hrl).1
    have hl2 : rs.length ≤ 1000000 := by have := (unp_fit _ _ 0 _ (Nat.zero_le _) hu).2.1; omega
    rw [unp_unpT _ _ 0 (Nat.zero_le _), List.drop_zero, ← hrw] at hu
    exact r11_ok s hs x hp _ rfl (by omega) _ hse _ rfl e1 a1 a2 a3 a4 _ hcn hnb rs hu hl2 hf hb h
theorem ref11_readE (s : Bs) (hs : s.length ≤ 1000000) (e : Int) (hr : reBat s = .error e) {W0 w : World} {K : Know} {L : List Res} (h : St W0 w K L) :
  Calls Tryz.prog 18 #[.string (bb s)] w fun en w' => en = .returned (.agg #[.int .i64 0, .int .i64 0, .bool false, .bool false, .bool false, .int .i64 0, .int .i64 0, .int .i64 0, .int .i64 0, .int .i64 0, .int .i64 0, .slice none 0 0, .int .i64 0, .int .i64 e]) ∧ St W0 w' K L :=
 (ref11_readW s hs h).mono fun en w' hh => by rw [hr] at hh; exact hh
theorem ref11_readO (s : Bs) (hs : s.length ≤ 1000000) (b : BatS) (n : Nat) (hr : reBat s = .ok (b, n)) {W0 w : World} {K : Know} {L : List Res} (h : St W0 w K L) :
  Calls Tryz.prog 18 #[.string (bb s)] w fun en w' => ∃ (q : Option Addr) (l : List (RecS × Value)) (cap : Nat), en = .returned (.agg #[.int .i64 b.base, .int .i64 b.leader, .bool b.app, .bool b.txn, .bool b.ctl, .int .i64 b.last, .int .i64 b.first, .int .i64 b.maxt, .int .i64 b.prod, .int .i64 b.epoch, .int .i64 b.seq, .slice q l.length cap, .int .i64 n, .int .i64 0]) ∧ l.map (·.1) = b.recs ∧ St W0 w' (K.and (Know.recs (.slice q l.length cap) l)) L :=
 (ref11_readW s hs h).mono fun en w' hh => by rw [hr] at hh; exact hh
set_option maxHeartbeats 8000000 in
set_option maxRecDepth 100000 in
theorem ref23_all (A : Bs) (hA : A.length ≤ 90000) {W0 w : World} {K : Know} {L : List Res} (h : St W0 w K L) :
  Calls Tryz.prog 8 #[.string (bb A)] w fun en w' => ∃ (q : Option Addr) (cap : Nat) (lr : List BatR) (V : Nat) (rs : Bs) (e : Int), en = .returned (.agg #[.slice q lr.length cap, .int .i64 V, .int .i64 (stopS rs e), .int .i64 e]) ∧ finS A = (lr.map BatR.b, V, rs, e) ∧ (∀ x ∈ lr, LiteR x) ∧ 61 * lr.length ≤ A.length ∧ (((q = none ∧ cap = 0) ∨ ∃ g, q = some ⟨g, 0, none⟩) ∧ lr.length ≤ cap) ∧ St W0 w' (K.and (Know.bats (.slice q lr.length cap) lr)) L := by
 obtain ⟨rb, hrb⟩ : ∃ b, w.heap.size = b := ⟨_, rfl⟩
 obtain ⟨ob, hob⟩ : ∃ b, rb + 1 = b := ⟨_, rfl⟩
 have g1 := h.allocRaw #[.slice none 0 0, .int .i64 0, .int .i64 0, .int .i64 0] 30
 rw [hrb] at g1
 have g2 := g1.allocRaw #[.slice none 0 0, .int .i64 0, .int .i64 0, .int .i64 0] 30
 simp only [World.size_alloc, hrb, hob] at g2
 have g2 := g2.nilRow 43 12
 have o0 := g2.p1.rawCell 0; have of0 := g2.p1.rawFree 0; have o1 := g2.p1.rawCell 1; have of1 := g2.p1.rawFree 1; have o2 := g2.p1.rawCell 2; have of2 := g2.p1.rawFree 2; have o3 := g2.p1.rawCell 3; have of3 := g2.p1.rawFree 3; simp at o0 o1 o2 o3; have z0 := g2.p2.rawCell 0; have zf0 := g2.p2.rawFree 0; have z1 := g2.p2.rawCell 1; have zf1 := g2.p2.rawFree 1; have z2 := g2.p2.rawCell 2; have zf2 := g2.p2.rawFree 2; have z3 := g2.p2.rawCell 3; have zf3 := g2.p2.rawFree 3; simp at z0 z1 z2 z3
 have H := Lib.hid g2
 have HAL := Lib.hid hA
 have hai : (A.length : Int) ≤ 90000 := by omega
 clear h g1 g2 hA
 go_enter Tryz.func8, Tryz.ntmps8
 go_wp2
 go_loopw [4] (fun _ wr => ∃ (acc : List BatR) (K2 : Know) (V : Nat) (bv : Value), V ≤ A.length ∧ Hid (scanS A = (acc.map BatR.b ++ (scanS (A.drop V)).1, (scanS (A.drop V)).2)) ∧ Hid (K2.has K) ∧ Hid (∀ x ∈ acc, K2.has (Know.recs (.slice x.q x.l.length x.cap) x.l)) ∧ Hid (∀ x ∈ acc, LiteR x) ∧ Hid (61 * acc.length ≤ V) ∧ St W0 wr K2 (.row bv 43 12 acc.length (acc.flatMap batcells) :: .raw ob #[bv, .int .i64 V, .int .i64 0, .int .i64 0] 30 :: .raw rb #[.slice none 0 0, .int .i64 0, .int .i64 0, .int .i64 0] 30 :: L)) (fun _ wr => A.length - ValM ob wr)
 case atStart => exact ⟨[], K, 0, .slice none 0 0, Nat.zero_le _, Lib.hid (by rw [List.drop_zero]; rfl), Lib.hid (Know.has_refl _), Lib.hid (fun x hx => by cases hx), Lib.hid (fun x hx => by cases hx), Lib.hid (Nat.le_refl _), H.out⟩
 case round =>
  obtain ⟨acc, K2, V, bv, hV, HSC, HKK, HREC, HLIT, HCNT, hst⟩ := hrel
  clear H
  clear o0 of0 o1 of1 o2 of2 o3 of3; clear z0 zf0 z1 zf1 z2 zf2 z3 zf3
  have hform : ∃ q2 cap2, bv = .slice q2 acc.length cap2 ∧ ((q2 = none ∧ cap2 = 0) ∨ ∃ g, q2 = some ⟨g, 0, none⟩) ∧ acc.length ≤ cap2 := by
    rcases hst.rowGet.2 with ⟨e1, e2⟩ | ⟨g2, cap2, _, e1, _, _, e4, _⟩
    · exact ⟨none, 0, by rw [e1, e2], .inl ⟨rfl, rfl⟩, by omega⟩
    · exact ⟨_, cap2, e1, .inr ⟨g2, rfl⟩, e4⟩
  obtain ⟨q2, cap2, rfl, hq2⟩ := hform
  have HQ2 := Lib.hid hq2
  have HMS := Lib.hid (valM hst.p1)
  have HV := Lib.hid hV
  have HAB := Lib.hid (show acc.length ≤ 2000 by have := HCNT.out; have := HAL.out; omega)
  have HCN := Lib.hid (show 61 * acc.length ≤ A.length by have := HCNT.out; omega)
  have o0 := hst.p1.rawCell 0; have of0 := hst.p1.rawFree 0; have o1 := hst.p1.rawCell 1; have of1 := hst.p1.rawFree 1; have o2 := hst.p1.rawCell 2; have of2 := hst.p1.rawFree 2; have o3 := hst.p1.rawCell 3; have of3 := hst.p1.rawFree 3; simp at o0 o1 o2 o3; have z0 := hst.p2.rawCell 0; have zf0 := hst.p2.rawFree 0; have z1 := hst.p2.rawCell 1; have zf1 := hst.p2.rawFree 1; have z2 := hst.p2.rawCell 2; have zf2 := hst.p2.rawFree 2; have z3 := hst.p2.rawCell 3; have zf3 := hst.p2.rawFree 3; simp at z0 z1 z2 z3
  have H := Lib.hid hst
  clear hst hq2
  obtain ⟨R, hR⟩ : ∃ R, A.drop V = R := ⟨_, rfl⟩
  have hRl : R.length = A.length - V := by rw [← hR, List.length_drop]
  have HR := Lib.hid (show List.take (A.length - V) (List.drop V A) = R by rw [hR]; exact List.take_of_length_le (by omega))
  have HR0 := Lib.hid hR
  by_cases hlt : V < A.length
  · have hvi : (V : Int) < (A.length : Int) := by omega
    have hvl : (V : Int) ≤ (A.length : Int) := by omega
    have hrl : (R.length : Int) ≤ 90000 := by omega
    have HL := Lib.hid (show R.length ≤ 140737488355328 by omega)
    have HL6 := Lib.hid (show R.length ≤ 1000000 by omega)
    have hr0 : R ≠ [] := by intro hh; rw [hh] at hRl; simp at hRl; omega
    clear hR
    by_cases c1 : R.length < 61
    · have hfs : firstS R = .ok none := by unfold firstS; rw [if_pos c1]
      have HFE := Lib.hid (fin_none HV.out HSC.out (by rw [HR0.out]; exact hfs))
      have hst1 : stopS (A.drop V) 0 = 1 := by rw [HR0.out]; unfold stopS; rw [if_neg (by simp), if_pos hr0]
      have HST := Lib.hid hst1
      have c1i : (R.length : Int) < 61 := by omega
      clear hfs hst1 c1 hr0 hRl
      go_upto_region 4 with (fail)
      rw [HR.out]
      go_wp2_with fail
      have hz : St W0 _ _ (.raw rb #[.slice q2 acc.length cap2, .int .i64 V, .int .i64 1, .int .i64 0] 30 :: _) := (((((H.out.p1.rawSet 2 (.int .i64 1)).p2.rawSet 0 (.slice q2 acc.length cap2)).rawSet 1 (.int .i64 V)).rawSet 2 (.int .i64 1)).rawSet 3 (.int .i64 0))
      refine bodyPost_ret (rc_cell_only rfl _ _ rb [.slice q2 acc.length cap2, .int .i64 V, .int .i64 1, .int .i64 0] _ rfl (rc_range hz) Tryz.underlying30 rfl (by kernel_rfl)) rfl ?_
      have hf9 := (hz.drop.drop).freezeBats HREC.out
      have hf8 := hf9.know (K' := K.and (Know.bats _ acc)) (fun w F hh => ⟨HKK.out _ _ hh.1, hh.2⟩)
      exact ⟨q2, cap2, acc, V, _, 0, by rw [HST.out], HFE.out, HLIT.out, HCN.out, HQ2.out, hf8⟩
    have c1i : ¬ (R.length : Int) < 61 := by omega
    cases hp : rePre R with
    | error e =>
      have hre : reBat R = .error e := by unfold reBat; rw [hp]
      have hfs : firstS R = .error e := by unfold firstS; rw [if_neg c1, hp]
      have h0 := fs_err hfs
      have HFE := Lib.hid (fin_err HV.out HSC.out (by rw [HR0.out]; exact hfs))
      have hst1 : stopS [] e = 2 := by unfold stopS; rw [if_pos h0]
      have HST := Lib.hid hst1
      have HP := Lib.hid hp
      have HRE := Lib.hid hre
      have g1e : (e == 0) = false := by rw [beq_eq_false_iff_ne]; exact h0
      have g2e : (e != 0) = true := by simp [bne, g1e]
      clear hfs hst1 c1 hr0 hRl hp hre h0
      go_upto_region 4 with (fail)
      rw [HR.out]
      go_wp2_with (first
  | (go_at_call 17; clear o0 of0 o1 of1 o2 of2 o3 of3; clear z0 zf0 z1 zf1 z2 zf2 z3 zf3; (with_reducible refine (ref10_fields_err R e HP.out HL.out H.out).mono ?_); rintro e_ wn ⟨rfl, h⟩; have o0 := h.p1.rawCell 0; have of0 := h.p1.rawFree 0; have o1 := h.p1.rawCell 1; have of1 := h.p1.rawFree 1; have o2 := h.p1.rawCell 2; have of2 := h.p1.rawFree 2; have o3 := h.p1.rawCell 3; have of3 := h.p1.rawFree 3; simp at o0 o1 o2 o3; have z0 := h.p2.rawCell 0; have zf0 := h.p2.rawFree 0; have z1 := h.p2.rawCell 1; have zf1 := h.p2.rawFree 1; have z2 := h.p2.rawCell 2; have zf2 := h.p2.rawFree 2; have z3 := h.p2.rawCell 3; have zf3 := h.p2.rawFree 3; simp at z0 z1 z2 z3; replace H := Lib.hid h; clear h)
  | (go_at_call 18; clear o0 of0 o1 of1 o2 of2 o3 of3; clear z0 zf0 z1 zf1 z2 zf2 z3 zf3; (with_reducible refine (ref11_readE R HL6.out e HRE.out H.out).mono ?_); rintro e_ wn ⟨rfl, h⟩; obtain ⟨xb, hxb⟩ : ∃ b, wn.heap.size = b := ⟨_, rfl⟩; have h := h.allocRaw #[.int .i64 0, .int .i64 0, .bool false, .bool false, .bool false, .int .i64 0, .int .i64 0, .int .i64 0, .int .i64 0, .int .i64 0, .int .i64 0, .slice none 0 0, .int .i64 0, .int .i64 e] 56; rw [hxb] at h; have x0 := h.rawCell 0; have x1 := h.rawCell 1; have x2 := h.rawCell 2; have x3 := h.rawCell 3; have x4 := h.rawCell 4; have x5 := h.rawCell 5; have x6 := h.rawCell 6; have x7 := h.rawCell 7; have x8 := h.rawCell 8; have x9 := h.rawCell 9; have x10 := h.rawCell 10; have x11 := h.rawCell 11; have x12 := h.rawCell 12; have x13 := h.rawCell 13; simp at x0 x1 x2 x3 x4 x5 x6 x7 x8 x9 x10 x11 x12 x13; have o0 := h.p2.rawCell 0; have of0 := h.p2.rawFree 0; have o1 := h.p2.rawCell 1; have of1 := h.p2.rawFree 1; have o2 := h.p2.rawCell 2; have of2 := h.p2.rawFree 2; have o3 := h.p2.rawCell 3; have of3 := h.p2.rawFree 3; simp at o0 o1 o2 o3; have z0 := h.p3.rawCell 0; have zf0 := h.p3.rawFree 0; have z1 := h.p3.rawCell 1; have zf1 := h.p3.rawFree 1; have z2 := h.p3.rawCell 2; have zf2 := h.p3.rawFree 2; have z3 := h.p3.rawCell 3; have zf3 := h.p3.rawFree 3; simp at z0 z1 z2 z3; replace H := Lib.hid h; clear h))
      have hz : St W0 _ _ (.raw rb #[.slice q2 acc.length cap2, .int .i64 V, .int .i64 2, .int .i64 e] 30 :: _) := ((((((H.out.p2.rawSet 2 (.int .i64 2)).rawSet 3 (.int .i64 e)).p3.rawSet 0 (.slice q2 acc.length cap2)).rawSet 1 (.int .i64 V)).rawSet 2 (.int .i64 2)).rawSet 3 (.int .i64 e))
      refine bodyPost_ret (rc_cell_only rfl _ _ rb [.slice q2 acc.length cap2, .int .i64 V, .int .i64 2, .int .i64 e] _ rfl (rc_range hz) Tryz.underlying30 rfl (by kernel_rfl)) rfl ?_
      have hf9 := (hz.drop.drop.drop).freezeBats HREC.out
      have hf8 := hf9.know (K' := K.and (Know.bats _ acc)) (fun w F hh => ⟨HKK.out _ _ hh.1, hh.2⟩)
      exact ⟨q2, cap2, acc, V, _, e, by rw [HST.out], HFE.out, HLIT.out, HCN.out, HQ2.out, hf8⟩
    | ok x =>
      obtain ⟨r1, r2, r3, r4, r5, r6⟩ := pre_ranges hp
      obtain ⟨nn, hnn⟩ : ∃ nn, 61 + (x.len - 49).toNat = nn := ⟨_, rfl⟩
      have hln : x.len + 12 = (nn : Int) := by omega
      have HP := Lib.hid hp
      by_cases c2 : R.length < nn
      · have hfs : firstS R = .ok none := by unfold firstS; rw [if_neg c1, hp]; simp only; rw [if_pos (by omega)]
        have HFE := Lib.hid (fin_none HV.out HSC.out (by rw [HR0.out]; exact hfs))
        have hst1 : stopS (A.drop V) 0 = 1 := by rw [HR0.out]; unfold stopS; rw [if_neg (by simp), if_pos hr0]
        have HST := Lib.hid hst1
        have c2i : (R.length : Int) < (nn : Int) := by omega
        clear hfs hst1 c1 hr0 hRl hp r3 r4 r5 r6 hnn c2
        go_upto_region 4 with (fail)
        rw [HR.out]
        go_wp2_with (go_at_call 17; clear o0 of0 o1 of1 o2 of2 o3 of3; clear z0 zf0 z1 zf1 z2 zf2 z3 zf3; (with_reducible refine (ref10_fields_ok R x HP.out HL.out H.out).mono ?_); rintro e_ wn ⟨bl, rfl, h⟩; have p1 := h.rawCell 1; simp at p1; have h := h.drop; have o0 := h.p1.rawCell 0; have of0 := h.p1.rawFree 0; have o1 := h.p1.rawCell 1; have of1 := h.p1.rawFree 1; have o2 := h.p1.rawCell 2; have of2 := h.p1.rawFree 2; have o3 := h.p1.rawCell 3; have of3 := h.p1.rawFree 3; simp at o0 o1 o2 o3; have z0 := h.p2.rawCell 0; have zf0 := h.p2.rawFree 0; have z1 := h.p2.rawCell 1; have zf1 := h.p2.rawFree 1; have z2 := h.p2.rawCell 2; have zf2 := h.p2.rawFree 2; have z3 := h.p2.rawCell 3; have zf3 := h.p2.rawFree 3; simp at z0 z1 z2 z3; replace H := Lib.hid h; clear h)
        have hz : St W0 _ _ (.raw rb #[.slice q2 acc.length cap2, .int .i64 V, .int .i64 1, .int .i64 0] 30 :: _) := (((((H.out.p1.rawSet 2 (.int .i64 1)).p2.rawSet 0 (.slice q2 acc.length cap2)).rawSet 1 (.int .i64 V)).rawSet 2 (.int .i64 1)).rawSet 3 (.int .i64 0))
        refine bodyPost_ret (rc_cell_only rfl _ _ rb [.slice q2 acc.length cap2, .int .i64 V, .int .i64 1, .int .i64 0] _ rfl (rc_range hz) Tryz.underlying30 rfl (by kernel_rfl)) rfl ?_
        have hf9 := (hz.drop.drop).freezeBats HREC.out
        have hf8 := hf9.know (K' := K.and (Know.bats _ acc)) (fun w F hh => ⟨HKK.out _ _ hh.1, hh.2⟩)
        exact ⟨q2, cap2, acc, V, _, 0, by rw [HST.out], HFE.out, HLIT.out, HCN.out, HQ2.out, hf8⟩
      have c2i : ¬ (R.length : Int) < (nn : Int) := by omega
      cases ha : asmB x (R.take 61) ((R.drop 61).take (x.len - 49).toNat) with
      | error e =>
        have hre : reBat R = .error e := by unfold reBat; rw [hp]; simp only; rw [if_neg (by omega), ha]
        have hfs : firstS R = .error e := by unfold firstS; rw [if_neg c1, hp]; simp only; rw [if_neg (by omega), ha]
        have h0 := fs_err hfs
        have HFE := Lib.hid (fin_err HV.out HSC.out (by rw [HR0.out]; exact hfs))
        have hst1 : stopS [] e = 2 := by unfold stopS; rw [if_pos h0]
        have HST := Lib.hid hst1
        have HRE := Lib.hid hre
        have g1e : (e == 0) = false := by rw [beq_eq_false_iff_ne]; exact h0
        have g2e : (e != 0) = true := by simp [bne, g1e]
        clear hfs hst1 c1 hr0 hRl hp hre h0 ha r3 r4 r5 r6 hnn c2
        go_upto_region 4 with (fail)
        rw [HR.out]
        go_wp2_with (first
  | (go_at_call 17; clear o0 of0 o1 of1 o2 of2 o3 of3; clear z0 zf0 z1 zf1 z2 zf2 z3 zf3; (with_reducible refine (ref10_fields_ok R x HP.out HL.out H.out).mono ?_); rintro e_ wn ⟨bl, rfl, h⟩; have p1 := h.rawCell 1; simp at p1; have h := h.drop; have o0 := h.p1.rawCell 0; have of0 := h.p1.rawFree 0; have o1 := h.p1.rawCell 1; have of1 := h.p1.rawFree 1; have o2 := h.p1.rawCell 2; have of2 := h.p1.rawFree 2; have o3 := h.p1.rawCell 3; have of3 := h.p1.rawFree 3; simp at o0 o1 o2 o3; have z0 := h.p2.rawCell 0; have zf0 := h.p2.rawFree 0; have z1 := h.p2.rawCell 1; have zf1 := h.p2.rawFree 1; have z2 := h.p2.rawCell 2; have zf2 := h.p2.rawFree 2; have z3 := h.p2.rawCell 3; have zf3 := h.p2.rawFree 3; simp at z0 z1 z2 z3; replace H := Lib.hid h; clear h)
  | (go_at_call 18; clear o0 of0 o1 of1 o2 of2 o3 of3; clear z0 zf0 z1 zf1 z2 zf2 z3 zf3; (with_reducible refine (ref11_readE R HL6.out e HRE.out H.out).mono ?_); rintro e_ wn ⟨rfl, h⟩; obtain ⟨xb, hxb⟩ : ∃ b, wn.heap.size = b := ⟨_, rfl⟩; have h := h.allocRaw #[.int .i64 0, .int .i64 0, .bool false, .bool false, .bool false, .int .i64 0, .int .i64 0, .int .i64 0, .int .i64 0, .int .i64 0, .int .i64 0, .slice none 0 0, .int .i64 0, .int .i64 e] 56; rw [hxb] at h; have x0 := h.rawCell 0; have x1 := h.rawCell 1; have x2 := h.rawCell 2; have x3 := h.rawCell 3; have x4 := h.rawCell 4; have x5 := h.rawCell 5; have x6 := h.rawCell 6; have x7 := h.rawCell 7; have x8 := h.rawCell 8; have x9 := h.rawCell 9; have x10 := h.rawCell 10; have x11 := h.rawCell 11; have x12 := h.rawCell 12; have x13 := h.rawCell 13; simp at x0 x1 x2 x3 x4 x5 x6 x7 x8 x9 x10 x11 x12 x13; have o0 := h.p2.rawCell 0; have of0 := h.p2.rawFree 0; have o1 := h.p2.rawCell 1; have of1 := h.p2.rawFree 1; have o2 := h.p2.rawCell 2; have of2 := h.p2.rawFree 2; have o3 := h.p2.rawCell 3; have of3 := h.p2.rawFree 3; simp at o0 o1 o2 o3; have z0 := h.p3.rawCell 0; have zf0 := h.p3.rawFree 0; have z1 := h.p3.rawCell 1; have zf1 := h.p3.rawFree 1; have z2 := h.p3.rawCell 2; have zf2 := h.p3.rawFree 2; have z3 := h.p3.rawCell 3; have zf3 := h.p3.rawFree 3; simp at z0 z1 z2 z3; replace H := Lib.hid h; clear h))
        have hz : St W0 _ _ (.raw rb #[.slice q2 acc.length cap2, .int .i64 V, .int .i64 2, .int .i64 e] 30 :: _) := ((((((H.out.p2.rawSet 2 (.int .i64 2)).rawSet 3 (.int .i64 e)).p3.rawSet 0 (.slice q2 acc.length cap2)).rawSet 1 (.int .i64 V)).rawSet 2 (.int .i64 2)).rawSet 3 (.int .i64 e))
        refine bodyPost_ret (rc_cell_only rfl _ _ rb [.slice q2 acc.length cap2, .int .i64 V, .int .i64 2, .int .i64 e] _ rfl (rc_range hz) Tryz.underlying30 rfl (by kernel_rfl)) rfl ?_
        have hf9 := (hz.drop.drop.drop).freezeBats HREC.out
        have hf8 := hf9.know (K' := K.and (Know.bats _ acc)) (fun w F hh => ⟨HKK.out _ _ hh.1, hh.2⟩)
        exact ⟨q2, cap2, acc, V, _, e, by rw [HST.out], HFE.out, HLIT.out, HCN.out, HQ2.out, hf8⟩
      | ok b =>
        obtain ⟨n, hn⟩ : ∃ n, nn = n := ⟨_, rfl⟩
        have hre : reBat R = .ok (b, n) := by unfold reBat; rw [hp]; simp only; rw [if_neg (by omega), ha, hnn, hn]
        have hfs : firstS R = .ok (some (b, n)) := by unfold firstS; rw [if_neg c1, hp]; simp only; rw [if_neg (by omega), ha, hnn, hn]
        obtain ⟨⟨hn61, hnl⟩, hlb⟩ := fs_some hfs
        have HNX := Lib.hid (scan_next HSC.out (by rw [HR0.out]; exact hfs))
        have HRE := Lib.hid hre
        have HLB := Lib.hid (show LiteB 1000000 b from ⟨by have := hlb.1; omega, fun y hy => by have := hlb.2 y hy; omega⟩)
        have hvn : (V : Int) + (n : Int) ≤ 90000 := by omega
        have HVN := Lib.hid (show V + n ≤ A.length by omega)
        have HN61 := Lib.hid hn61
        clear hfs c1 hr0 hRl hp hre ha r3 r4 r5 r6 hnn c2 hlb hn61 hnl hn
        go_upto_region 4 with (fail)
        rw [HR.out]
        go_wp2_with (first
  | (go_at_call 17; clear o0 of0 o1 of1 o2 of2 o3 of3; clear z0 zf0 z1 zf1 z2 zf2 z3 zf3; (with_reducible refine (ref10_fields_ok R x HP.out HL.out H.out).mono ?_); rintro e_ wn ⟨bl, rfl, h⟩; have p1 := h.rawCell 1; simp at p1; have h := h.drop; have o0 := h.p1.rawCell 0; have of0 := h.p1.rawFree 0; have o1 := h.p1.rawCell 1; have of1 := h.p1.rawFree 1; have o2 := h.p1.rawCell 2; have of2 := h.p1.rawFree 2; have o3 := h.p1.rawCell 3; have of3 := h.p1.rawFree 3; simp at o0 o1 o2 o3; have z0 := h.p2.rawCell 0; have zf0 := h.p2.rawFree 0; have z1 := h.p2.rawCell 1; have zf1 := h.p2.rawFree 1; have z2 := h.p2.rawCell 2; have zf2 := h.p2.rawFree 2; have z3 := h.p2.rawCell 3; have zf3 := h.p2.rawFree 3; simp at z0 z1 z2 z3; replace H := Lib.hid h; clear h)
  | (go_at_call 18; clear o0 of0 o1 of1 o2 of2 o3 of3; clear z0 zf0 z1 zf1 z2 zf2 z3 zf3; (with_reducible refine (ref11_readO R HL6.out b n HRE.out H.out).mono ?_); rintro e_ wn ⟨q, l, cap2_, rfl, hlm, h⟩; have HLM := Lib.hid hlm; clear hlm; obtain ⟨xb, hxb⟩ : ∃ b, wn.heap.size = b := ⟨_, rfl⟩; have h := h.allocRaw #[.int .i64 b.base, .int .i64 b.leader, .bool b.app, .bool b.txn, .bool b.ctl, .int .i64 b.last, .int .i64 b.first, .int .i64 b.maxt, .int .i64 b.prod, .int .i64 b.epoch, .int .i64 b.seq, .slice q l.length cap2_, .int .i64 n, .int .i64 0] 56; rw [hxb] at h; have x0 := h.rawCell 0; have x1 := h.rawCell 1; have x2 := h.rawCell 2; have x3 := h.rawCell 3; have x4 := h.rawCell 4; have x5 := h.rawCell 5; have x6 := h.rawCell 6; have x7 := h.rawCell 7; have x8 := h.rawCell 8; have x9 := h.rawCell 9; have x10 := h.rawCell 10; have x11 := h.rawCell 11; have x12 := h.rawCell 12; have x13 := h.rawCell 13; simp at x0 x1 x2 x3 x4 x5 x6 x7 x8 x9 x10 x11 x12 x13; have o0 := h.p2.rawCell 0; have of0 := h.p2.rawFree 0; have o1 := h.p2.rawCell 1; have of1 := h.p2.rawFree 1; have o2 := h.p2.rawCell 2; have of2 := h.p2.rawFree 2; have o3 := h.p2.rawCell 3; have of3 := h.p2.rawFree 3; simp at o0 o1 o2 o3; have z0 := h.p3.rawCell 0; have zf0 := h.p3.rawFree 0; have z1 := h.p3.rawCell 1; have zf1 := h.p3.rawFree 1; have z2 := h.p3.rawCell 2; have zf2 := h.p3.rawFree 2; have z3 := h.p3.rawCell 3; have zf3 := h.p3.rawFree 3; simp at z0 z1 z2 z3; replace H := Lib.hid h; clear h)
  | (at_builtin; clear o0 of0 o1 of1 o2 of2 o3 of3; clear z0 zf0 z1 zf1 z2 zf2 z3 zf3; clear x0 x1 x2 x3 x4 x5 x6 x7 x8 x9 x10 x11 x13; refine wpl_app1_st rfl _ _ 28 rfl 43 Tryz.underlying28 elem_bat _ _ _ rfl H.out.p1 [.int .i64 b.base, .int .i64 b.leader, .bool b.app, .bool b.txn, .bool b.ctl, .int .i64 b.last, .int .i64 b.first, .int .i64 b.maxt, .int .i64 b.prod, .int .i64 b.epoch, .int .i64 b.seq, .slice q l.length cap2_] 43 (by first | rfl | (rw [World.size_alloc]; rfl) | (rw [World.size_alloc, hxb]; rfl)) rfl (by simp [Value.oneCell']) (by have := HAB.out; unfold maxLen; omega) (by have := HAB.out; omega) ?_; intro v' w' h; obtain ⟨qv, cv, hv⟩ := h.rowAny; subst hv; have x12 := h.p1.rawCell 12; simp at x12; have o0 := h.p2.rawCell 0; have of0 := h.p2.rawFree 0; have o1 := h.p2.rawCell 1; have of1 := h.p2.rawFree 1; have o2 := h.p2.rawCell 2; have of2 := h.p2.rawFree 2; have o3 := h.p2.rawCell 3; have of3 := h.p2.rawFree 3; simp at o0 o1 o2 o3; replace H := Lib.hid h; clear h))
        have h7 := ((H.out.p2.rawSet 0 (.slice qv (acc.length + 1) cv)).rawSet 1 (.int .i64 ((V + n : Nat) : Int))).p1.p2.drop
        go_roundw
        case rel =>
         refine ⟨acc ++ [⟨b, l, q, cap2_⟩], K2.and (Know.recs (.slice q l.length cap2_) l), V + n, .slice qv (acc.length + 1) cv, HVN.out, ?_, ?_, ?_, ?_, ?_, ?_⟩
         · exact Lib.hid (by rw [List.map_append]; exact HNX.out)
         · exact Lib.hid (Know.has_trans (Know.has_left (Know.has_refl _)) HKK.out)
         · refine Lib.hid (fun y hy => ?_)
           rcases List.mem_append.1 hy with hy | hy
           · exact Know.has_trans (Know.has_left (Know.has_refl _)) (HREC.out y hy)
           · rw [List.mem_singleton.1 hy]; exact Know.has_right (Know.has_refl _)
         · refine Lib.hid (fun y hy => ?_)
           rcases List.mem_append.1 hy with hy | hy
           · exact HLIT.out y hy
           · rw [List.mem_singleton.1 hy]; exact ⟨HLM.out, HLB.out⟩
         · exact Lib.hid (by rw [List.length_append]; show 61 * (acc.length + 1) ≤ V + n; have := HCNT.out; have := HN61.out; omega)
         · rw [List.length_append, List.flatMap_append]
           exact h7
        case measure =>
         have h8 := valM h7.p1
         rw [HMS.out]
         exact lt_of_eqS (congrArg (fun t => A.length - t) h8) (by show A.length - (V + n) < A.length - V; have := HVN.out; have := HN61.out; omega)
  · obtain rfl : V = A.length := by omega
    have hfs : firstS (A.drop A.length) = .ok none := by rw [List.drop_length]; exact fs_nil
    have HFE := Lib.hid (fin_none HV.out HSC.out hfs)
    have hst1 : stopS (A.drop A.length) 0 = 0 := by rw [List.drop_length]; rfl
    have HST := Lib.hid hst1
    clear hfs hst1 hR hRl
    go_wp2_with fail
    have hz : St W0 _ _ (.raw rb #[.slice q2 acc.length cap2, .int .i64 A.length, .int .i64 0, .int .i64 0] 30 :: _) := ((((H.out.p2.rawSet 0 (.slice q2 acc.length cap2)).rawSet 1 (.int .i64 A.length)).rawSet 2 (.int .i64 0)).rawSet 3 (.int .i64 0))
    refine bodyPost_ret (rc_cell_only rfl _ _ rb [.slice q2 acc.length cap2, .int .i64 A.length, .int .i64 0, .int .i64 0] _ rfl (rc_range hz) Tryz.underlying30 rfl (by kernel_rfl)) rfl ?_
    have hf9 := (hz.drop.p1.drop).freezeBats HREC.out
    have hf8 := hf9.know (K' := K.and (Know.bats _ acc)) (fun w F hh => ⟨HKK.out _ _ hh.1, hh.2⟩)
    exact ⟨q2, cap2, acc, A.length, _, 0, by rw [HST.out], HFE.out, HLIT.out, HCN.out, HQ2.out, hf8⟩
theorem fs_of_re {R : Bs} {b : BatS} {n : Nat} (h : reBat R = .ok (b, n)) : firstS R = .ok (some (b, n)) := by
 obtain ⟨x, hp, rfl, hn, ha⟩ := reBat_ok h
 unfold firstS
 rw [if_neg (by omega), hp]
 simp only
 rw [if_neg (by omega), ha]
theorem fs_part {R M : Bs} {b : BatS} {n : Nat} (h : reBat (R ++ M) = .ok (b, n)) (hl : R.length < n) : firstS R = .ok none := by
 obtain ⟨x, hp, hnn, hn, ha⟩ := reBat_ok h
 unfold firstS
 by_cases c : R.length < 61
 · rw [if_pos c]
 · rw [if_neg c, ← rePre_app R M (by omega), hp]
   simp only
   rw [if_pos (by omega)]
theorem scan_enc (R : Bs) : ∀ (l : List BatR), (∀ x ∈ l, SmallOk x.b) → scanS (encB l ++ R) = (l.map BatR.b ++ (scanS R).1, (scanS R).2)
  | [], _ => rfl
  | x :: t, h => by
    have h1 := fs_of_re ((h x (by simp)).back (encB t ++ R))
    rw [encB_cons, List.append_assoc, scanS_some h1, List.drop_left, scan_enc R t (fun y hy => h y (by simp [hy]))]
    rfl
theorem fin_cut (l : List BatR) (h : ∀ x ∈ l, SmallOk x.b) (k n : Nat) (hk : k ≤ (encB l).length) (hn : n ≤ l.length) (h1 : (encB (l.take n)).length ≤ k) (h2 : ∀ hh : n < l.length, k < (encB (l.take (n + 1))).length) :
  ∃ rest, finS ((encB l).take k) = ((l.take n).map BatR.b, (encB (l.take n)).length, rest, 0) ∧ rest.length = k - (encB (l.take n)).length := by
 have hs := encB_split l n
 have ht : (encB l).take k = encB (l.take n) ++ (encB (l.drop n)).take (k - (encB (l.take n)).length) := by
  rw [hs, List.take_append, List.take_of_length_le h1]
 obtain ⟨R, hR⟩ : ∃ R, (encB (l.drop n)).take (k - (encB (l.take n)).length) = R := ⟨_, rfl⟩
 have hRl : R.length = k - (encB (l.take n)).length := by
  have h3 := congrArg List.length hs
  rw [List.length_append] at h3
  rw [← hR, List.length_take]
  omega
 have hf : firstS R = .ok none := by
  by_cases hh : n < l.length
  · have e1 : encB (l.drop n) = l[n].b.enc ++ encB (l.drop (n + 1)) := by rw [List.drop_eq_getElem_cons hh, encB_cons]
    have e2 := encB_take l n hh
    have h4 := h2 hh
    rw [e2, List.length_append] at h4
    refine fs_part (M := (encB (l.drop n)).drop (k - (encB (l.take n)).length)) (b := l[n].b) (n := l[n].b.enc.length) ?_ (by omega)
    rw [← hR, List.take_append_drop, e1]
    exact (h l[n] (List.getElem_mem hh)).back _
  · have e1 : l.drop n = [] := List.drop_of_length_le (by omega)
    rw [e1] at hR
    have : R = [] := by rw [← hR]; simp [encB]
    rw [this]
    unfold firstS
    rw [if_pos (by decide)]
 refine ⟨R, ?_, hRl⟩
 have hsc := scan_enc R (l.take n) (fun x hx => h x (List.mem_of_mem_take hx))
 unfold finS
 rw [ht, hR, hsc, scanS_none hf]
 simp only
 rw [List.append_nil, List.length_append, if_neg (by simp)]
 congr 2
 omega
theorem nobody_enc : noneB.enc.length = 61 := by kernel_rfl
theorem fin_speak (s : Bs) (hs : noneB.enc = s) : ∃ rest, finS (s ++ s.take 30) = ([noneB], 61, rest, 0) ∧ stopS rest 0 = 1 := by
 have hl : s.length = 61 := by rw [← hs]; exact nobody_enc
 obtain ⟨x, hx⟩ : ∃ x : BatR, x.b = noneB := ⟨⟨noneB, [], none, 0⟩, rfl⟩
 have e2 : encB [x, x] = s ++ s := by rw [encB_cons, encB_one, hx, hs]
 have e1 : encB ([x, x].take 1) = s := by show encB [x] = s; rw [encB_one, hx, hs]
 obtain ⟨rest, h1, h2⟩ := fin_cut [x, x] (by intro y hy; have : y = x := by simpa using hy
                                             subst this; rw [hx]; exact so_none) 91 1 (by rw [e2, List.length_append]; omega) (Nat.le_add_left 1 1) (by rw [e1]; omega) (fun _ => by show 91 < (encB [x, x]).length; rw [e2, List.length_append]; omega)
 rw [e1] at h1 h2
 rw [e2, hl, List.take_append, List.take_of_length_le (by omega), hl] at h1
 refine ⟨rest, ?_, ?_⟩
 · rw [h1]; show ([x.b], 61, rest, 0) = _; rw [hx]
 · unfold stopS
   rw [if_neg (by simp), if_pos (by intro h; rw [h, hl] at h2; simp at h2)]
set_option maxHeartbeats 4000000 in
set_option maxRecDepth 100000 in
theorem speaks23 {W0 w : World} {K : Know} {L : List Res} (h : St W0 w K L) :
  Calls Tryz.prog 5 #[] w fun en w' => en = .returned (.bool true) ∧ ∃ K2 : Know, K2.has K ∧ St W0 w' K2 L := by
 obtain ⟨s, hs⟩ : ∃ s, noneB.enc = s := ⟨_, rfl⟩
 have HS := Lib.hid hs
 have hsl : s.length = 61 := by rw [← hs]; exact nobody_enc
 have c1 : ((s.length : Int) == 61) = true := by rw [hsl]; rfl
 have c2 : ((s.length : Int) != 61) = false := by rw [hsl]; rfl
 have c3 : (30 : Int) ≤ (s.length : Int) := by omega
 have c4 : 30 ≤ s.length := by omega
 obtain ⟨rest, hfs, hst⟩ := fin_speak s hs
 obtain ⟨T, hT⟩ : ∃ T, s ++ s.take 30 = T := ⟨_, rfl⟩
 obtain ⟨pv, hpv⟩ : ∃ pv : Nat, 61 = pv := ⟨_, rfl⟩
 have c5 : ((pv : Int) == 61) = true := by rw [← hpv]; rfl
 rw [hT, hpv] at hfs
 have HF := Lib.hid hfs
 have HP := Lib.hid hst
 have HT := Lib.hid hT
 have HTL := Lib.hid (show T.length ≤ 90000 by rw [← hT, List.length_append, List.length_take]; omega)
 have H := Lib.hid h
 clear h hs hsl hfs hst hT hpv
 go_enter Tryz.func5, Tryz.ntmps5
 go_wp2_with (first
  | (go_at_call 16; (with_reducible refine (encode_none s HS.out H.out).mono ?_); rintro e_ wn ⟨rfl, h⟩; replace H := Lib.hid h; clear h)
  | (go_at_call 15; (with_reducible refine (scan_two s (s.take 30) T HT.out [noneB] pv rest 0 1 HF.out HP.out HTL.out _ (H.out.allocRaw _ _)).mono ?_); rintro e_ wn ⟨qa, capa, la, rfl, hma, hla, hca, hqa, h⟩; have HMa := Lib.hid hma; have HLa := Lib.hid hla; have HCa := Lib.hid hca; have HQa := Lib.hid hqa; clear hma hla hca hqa; obtain ⟨px, hpx⟩ : ∃ b, wn.heap.size = b := ⟨_, rfl⟩; have h := h.allocRaw #[.int .i64 pv, .int .i64 1, .int .i64 0] 36; rw [hpx] at h; have px0 := h.rawCell 0; have px1 := h.rawCell 1; have px2 := h.rawCell 2; simp at px0 px1 px2; have hla1 : ((la.length : Int) == 1) = true := (by have h7 := congrArg List.length HMa.out; rw [List.length_map] at h7; rw [h7]; rfl); replace H := Lib.hid h; clear h))
 go_ret
 exact ⟨rfl, _, Know.has_left (Know.has_refl _), H.out.drop⟩
theorem fin_mono (R c : Bs) : (finS R).1.length ≤ (finS (R ++ c)).1.length := by
 by_cases h : (finS R).2.2.2 = 0
 · rw [fin_good R c h]
   show _ ≤ ((finS R).1 ++ _).length
   rw [List.length_append]
   exact Nat.le_add_right _ _
 · rw [fin_bad R c h]
   exact Nat.le_refl _
theorem law22_cutL (s0 : Bs) (ns : List Int) (cl : List Bs) (hcl : cutS s0 ns = cl) (hs0 : s0.length ≤ 90000) (hns : ∀ x ∈ ns, 0 ≤ x ∧ x < 256) (hnl : ns.length ≤ 1000) (q : Option Addr) (cap : Nat) {W0 w : World} {K : Know} {L : List Res} (hk : K.has (Know.flat RU8 (.slice q ns.length cap) 1 ns)) (h : St W0 w K L) :
  Calls Tryz.prog 7 #[.string (bb s0), .slice q ns.length cap] w fun en w' => ∃ (q2 : Option Addr) (cap2 : Nat), en = .returned (.slice q2 cl.length cap2) ∧ St W0 w' (K.and (Know.strs (.slice q2 cl.length cap2) cl)) L := by
 subst hcl
 exact law22_cut s0 ns hs0 hns hnl q cap hk h
theorem ref23_allS (A : Bs) (hA : A.length ≤ 90000) {W0 w : World} {K : Know} {L : List Res} (h : St W0 w K L) :
  Calls Tryz.prog 8 #[.string (bb A)] w fun en w' => ∃ (q : Option Addr) (cap : Nat) (lr : List BatR) (V : Nat) (rs : Bs) (e st : Int), en = .returned (.agg #[.slice q lr.length cap, .int .i64 V, .int .i64 st, .int .i64 e]) ∧ stopS rs e = st ∧ finS A = (lr.map BatR.b, V, rs, e) ∧ (∀ x ∈ lr, LiteR x) ∧ 61 * lr.length ≤ A.length ∧ (((q = none ∧ cap = 0) ∨ ∃ g, q = some ⟨g, 0, none⟩) ∧ lr.length ≤ cap) ∧ St W0 w' (K.and (Know.bats (.slice q lr.length cap) lr)) L := by
 refine (ref23_all A hA h).mono ?_
 rintro en w' ⟨q, cap, lr, V, rs, e, h0, h1⟩
 exact ⟨q, cap, lr, V, rs, e, _, h0, rfl, h1⟩

set_option maxHeartbeats 8000000 in
set_option maxRecDepth 100000 in
theorem sf_l1 (s : Bs) (ns : List Int) (hns : ∀ x ∈ ns, 0 ≤ x ∧ x < 256) (q : Option Addr) (cap : Nat) (hl : 1500 < s.length) {W0 w : World} {K : Know} (hk : K.has (Know.flat RU8 (.slice q ns.length cap) 1 ns)) (h : St W0 w K []) :
  Calls Tryz.prog 3 #[.string (bb s), .slice q ns.length cap] w fun en w' => en = .returned (.bool true) ∧ Below W0.heap.size W0 w' := by
 have H := Lib.hid h
 have HN := Lib.hid hk
 have HNS := Lib.hid hns
 have c1 : (1500 : Int) < (s.length : Int) := by omega
 clear h hk hns hl
 go_enter Tryz.func3, Tryz.ntmps3
 go_wp2_with (go_at_call 5; (with_reducible refine (speaks23 H.out).mono ?_); rintro e_ wn ⟨rfl, K2, hk2, h⟩; clear hk2; replace H := Lib.hid h; clear h)
 go_ret
 exact ⟨rfl, H.out.below⟩

set_option maxHeartbeats 8000000 in
set_option maxRecDepth 100000 in
theorem sf_l2 (s : Bs) (ns : List Int) (hns : ∀ x ∈ ns, 0 ≤ x ∧ x < 256) (q : Option Addr) (cap : Nat) (hl1 : ¬ 1500 < s.length) (hl : 200 < ns.length) {W0 w : World} {K : Know} (hk : K.has (Know.flat RU8 (.slice q ns.length cap) 1 ns)) (h : St W0 w K []) :
  Calls Tryz.prog 3 #[.string (bb s), .slice q ns.length cap] w fun en w' => en = .returned (.bool true) ∧ Below W0.heap.size W0 w' := by
 have H := Lib.hid h
 have HN := Lib.hid hk
 have HNS := Lib.hid hns
 have c1 : ¬ (1500 : Int) < (s.length : Int) := by omega
 have c2 : (200 : Int) < (ns.length : Int) := by omega
 clear h hk hns hl
 go_enter Tryz.func3, Tryz.ntmps3
 go_wp2_with (go_at_call 5; (with_reducible refine (speaks23 H.out).mono ?_); rintro e_ wn ⟨rfl, K2, hk2, h⟩; clear hk2; replace H := Lib.hid h; clear h)
 go_ret
 exact ⟨rfl, H.out.below⟩

end Go.Proofs.YtngojlinfdokpaaGreat
