/- A text. -/
import Derived.Test.YtnnnglklgofabaaGProduceSame4
import Derived.Test.YtnnnglklgofabaaRec5
import Derived.Test.YtnnnglklgofabaaGProduceSame1
import Derived.Deep.RegionHeld3
import Derived.Test.YtnnnglklgofabaaCtl1
import Derived.Test.YtnnnglklgofabaaGProduceSame3
import Derived.RegionTactic
import Derived.Deep.DeepCutAuto
import Derived.WalkMore
/- A text. -/
namespace Go.Proofs.Ytnnnglklgofabaa
open Go.RowKit

set_option maxHeartbeats 4000000 in
set_option maxRecDepth 100000 in
theorem ref11_sameL            (base1 : Int) (leader1 : Int) (app1 : Bool) (txn1 : Bool) (ctl1 : Bool) (last1 : Int) (first1 : Int) (maxt1 : Int) (prod1 : Int) (epoch1 : Int) (seq1 : Int) (l1 l2 : List (RecS × Value)) (q1 q2 : Option Addr) (cap1 cap2 : Nat) (hn : l1.length ≤ 1000000) (hlen : l1.length = l2.length) (r : Bool) (hr : decide ((⟨base1, leader1, app1, txn1, ctl1, last1, first1, maxt1, prod1, epoch1, seq1, l1.map (·.1)⟩ : BatS) = (⟨base1, leader1, app1, txn1, ctl1, last1, first1, maxt1, prod1, epoch1, seq1, l2.map (·.1)⟩ : BatS)) = r) (hf1 : ∀ x ∈ l1, x.1.hdrs.length ≤ 9223372036854775807) (hf2 : ∀ x ∈ l2, x.1.hdrs.length ≤ 9223372036854775807) {W0 w : World} {K : Know} {L : List Res} (hk1 : K.has (Know.recs (.slice q1 l1.length cap1) l1)) (hk2 : K.has (Know.recs (.slice q2 l2.length cap2) l2)) (h : St W0 w K L) :
  Calls Try.prog 10 #[.agg #[.int .i64 base1, .int .i64 leader1, .bool app1, .bool txn1, .bool ctl1, .int .i64 last1, .int .i64 first1, .int .i64 maxt1, .int .i64 prod1, .int .i64 epoch1, .int .i64 seq1, .slice q1 l1.length cap1], .agg #[.int .i64 base1, .int .i64 leader1, .bool app1, .bool txn1, .bool ctl1, .int .i64 last1, .int .i64 first1, .int .i64 maxt1, .int .i64 prod1, .int .i64 epoch1, .int .i64 seq1, .slice q2 l2.length cap2]] w fun en w' => en = .returned (.bool r) ∧ St W0 w' K L := by
 obtain ⟨hb, hhb⟩ : ∃ b, w.heap.size = b := ⟨_, rfl⟩
 have h1 := (h.allocRaw #[.int .i64 base1, .int .i64 leader1, .bool app1, .bool txn1, .bool ctl1, .int .i64 last1, .int .i64 first1, .int .i64 maxt1, .int .i64 prod1, .int .i64 epoch1, .int .i64 seq1, .slice q1 l1.length cap1] 39).allocRaw #[.int .i64 base1, .int .i64 leader1, .bool app1, .bool txn1, .bool ctl1, .int .i64 last1, .int .i64 first1, .int .i64 maxt1, .int .i64 prod1, .int .i64 epoch1, .int .i64 seq1, .slice q2 l2.length cap2] 39
 rw [World.size_alloc, hhb] at h1
 obtain ⟨hc, hhc⟩ : ∃ b, hb + 1 = b := ⟨_, rfl⟩
 rw [hhc] at h1
 obtain ⟨b0, b1, b2, b3, b4, b5, b6, b7, b8, b9, b10, b11, fb0, fb1, fb2, fb3, fb4, fb5, fb6, fb7, fb8, fb9, fb10, fb11⟩ := raw12 (b := hc) h1
 obtain ⟨a0, a1, a2, a3, a4, a5, a6, a7, a8, a9, a10, a11, fa0, fa1, fa2, fa3, fa4, fa5, fa6, fa7, fa8, fa9, fa10, fa11⟩ := raw12 (b := hb) h1.p1
 have H := Lib.hid h1
 have HK1 := Lib.hid hk1
 have HK2 := Lib.hid hk2
 have hni : (l1.length : Int) ≤ 1000000 := by omega
 have HF1 := Lib.hid hf1
 have HF2 := Lib.hid hf2
 clear h h1 hk1 hk2 hf1 hf2
 have HLEN := Lib.hid hlen
 have HR := Lib.hid hr
 have g1 : ((l1.length : Int) == (l2.length : Int)) = true := by rw [hlen]; exact beq_self_eq_true _
 have g2 : ((l1.length : Int) != (l2.length : Int)) = false := by simp [bne, g1]
 have g3 : (l2.length : Int) = (l1.length : Int) := by omega
 clear hr hlen
 go_enter Try.func10, Try.ntmps10
 go_wp2
 clear g1 g2 g3
 go_loopw [5] (fun iv wr => ∃ k : Nat, k ≤ l1.length ∧ iv = .int .i64 k ∧ Hid ((l1.map (·.1)).take k = (l2.map (·.1)).take k) ∧ St W0 wr K (.raw hc #[.int .i64 base1, .int .i64 leader1, .bool app1, .bool txn1, .bool ctl1, .int .i64 last1, .int .i64 first1, .int .i64 maxt1, .int .i64 prod1, .int .i64 epoch1, .int .i64 seq1, .slice q2 l2.length cap2] 39 :: .raw hb #[.int .i64 base1, .int .i64 leader1, .bool app1, .bool txn1, .bool ctl1, .int .i64 last1, .int .i64 first1, .int .i64 maxt1, .int .i64 prod1, .int .i64 epoch1, .int .i64 seq1, .slice q1 l1.length cap1] 39 :: L)) (fun iv _ => l1.length - (intOf iv).toNat)
 case atStart => exact ⟨0, Nat.zero_le _, rfl, Lib.hid (by simp), H.out⟩
 case round =>
  obtain ⟨k, hkl, rfl, heq, hst⟩ := hrel
  clear H a0 a1 a2 a3 a4 a5 a6 a7 a8 a9 a10 a11 fa0 fa1 fa2 fa3 fa4 fa5 fa6 fa7 fa8 fa9 fa10 fa11 b0 b1 b2 b3 b4 b5 b6 b7 b8 b9 b10 b11 fb0 fb1 fb2 fb3 fb4 fb5 fb6 fb7 fb8 fb9 fb10 fb11
  have H := Lib.hid hst
  clear hst
  obtain ⟨b0, b1, b2, b3, b4, b5, b6, b7, b8, b9, b10, b11, fb0, fb1, fb2, fb3, fb4, fb5, fb6, fb7, fb8, fb9, fb10, fb11⟩ := raw12 (b := hc) H.out
  obtain ⟨a0, a1, a2, a3, a4, a5, a6, a7, a8, a9, a10, a11, fa0, fa1, fa2, fa3, fa4, fa5, fa6, fa7, fa8, fa9, fa10, fa11⟩ := raw12 (b := hb) H.out.p1
  by_cases hlt : k < l1.length
  · have hlt2 : k < l2.length := by have := HLEN.out; omega
    obtain ⟨b1', off1, hqq1⟩ := recs_at HK1.out H.out (by omega)
    subst hqq1
    obtain ⟨⟨x1, v1⟩, hx1⟩ : ∃ x, l1[k] = x := ⟨_, rfl⟩
    have cc1 := recs_cell HK1.out H.out k (by omega) (x1, v1) hx1
    have hmem1 : (x1, v1) ∈ l1 := hx1 ▸ List.getElem_mem _
    have XF1 := Lib.hid (show x1.hdrs.length ≤ 9223372036854775807 from HF1.out (x1, v1) hmem1)
    have XK1 := Lib.hid (show K.has (Know.flat RHdr v1 3 x1.hdrs) from recs_hdrs HK1.out hmem1)
    simp only at cc1
    obtain ⟨c10, c11, c12, c13, c14, c15, c16⟩ := cc1
    rw [← Nat.add_assoc] at c11 c12 c13 c14 c15 c16
    have HX1 := Lib.hid (show l1[k].1 = x1 by rw [hx1])
    have HXX1 := Lib.hid hx1
    clear hmem1 hx1
    obtain ⟨b2', off2, hqq2⟩ := recs_at HK2.out H.out (by omega)
    subst hqq2
    obtain ⟨⟨x2, v2⟩, hx2⟩ : ∃ x, l2[k] = x := ⟨_, rfl⟩
    have cc2 := recs_cell HK2.out H.out k (by omega) (x2, v2) hx2
    have hmem2 : (x2, v2) ∈ l2 := hx2 ▸ List.getElem_mem _
    have XF2 := Lib.hid (show x2.hdrs.length ≤ 9223372036854775807 from HF2.out (x2, v2) hmem2)
    have XK2 := Lib.hid (show K.has (Know.flat RHdr v2 3 x2.hdrs) from recs_hdrs HK2.out hmem2)
    simp only at cc2
    obtain ⟨c20, c21, c22, c23, c24, c25, c26⟩ := cc2
    rw [← Nat.add_assoc] at c21 c22 c23 c24 c25 c26
    have HX2 := Lib.hid (show l2[k].1 = x2 by rw [hx2])
    have HXX2 := Lib.hid hx2
    clear hmem2 hx2
    have hki : (k : Int) < (l1.length : Int) := by omega
    have hki2 : (k : Int) < (l2.length : Int) := by omega
    have hk0 : (0 : Int) ≤ (k : Int) := Int.natCast_nonneg _
    have NX := Lib.hid (show x1 ≠ x2 → l1.map (·.1) ≠ l2.map (·.1) from map_ne_of_get l1 l2 k hlt hlt2 x1 x2 HX1.out HX2.out)
    have NT := Lib.hid (show x1 = x2 → (l1.map (·.1)).take (k + 1) = (l2.map (·.1)).take (k + 1) from fun e => by rw [map_take_succ l1 k hlt x1 HX1.out, map_take_succ l2 k hlt2 x2 HX2.out, heq.out, e])
    have hkeep : ∀ w', St W0 w' K (.raw hc #[.int .i64 base1, .int .i64 leader1, .bool app1, .bool txn1, .bool ctl1, .int .i64 last1, .int .i64 first1, .int .i64 maxt1, .int .i64 prod1, .int .i64 epoch1, .int .i64 seq1, .slice (some ⟨b2', off2, none⟩) l2.length cap2] 39 :: .raw hb #[.int .i64 base1, .int .i64 leader1, .bool app1, .bool txn1, .bool ctl1, .int .i64 last1, .int .i64 first1, .int .i64 maxt1, .int .i64 prod1, .int .i64 epoch1, .int .i64 seq1, .slice (some ⟨b1', off1, none⟩) l1.length cap1] 39 :: L) → ((w'.cell? ⟨hb, 11, none⟩ = some (.slice (some ⟨b1', off1, none⟩) l1.length cap1)) ∧ (w'.cell? ⟨hc, 11, none⟩ = some (.slice (some ⟨b2', off2, none⟩) l2.length cap2)) ∧ (w'.cell? ⟨b1', off1 + k * 7, none⟩ = some (.int .i64 x1.time) ∧ w'.cell? ⟨b1', off1 + k * 7 + 1, none⟩ = some (.int .i64 x1.off) ∧ w'.cell? ⟨b1', off1 + k * 7 + 2, none⟩ = some (.bool x1.key.null) ∧ w'.cell? ⟨b1', off1 + k * 7 + 3, none⟩ = some (.string (bb x1.key.data)) ∧ w'.cell? ⟨b1', off1 + k * 7 + 4, none⟩ = some (.bool x1.val.null) ∧ w'.cell? ⟨b1', off1 + k * 7 + 5, none⟩ = some (.string (bb x1.val.data)) ∧ w'.cell? ⟨b1', off1 + k * 7 + 6, none⟩ = some (v1)) ∧ (w'.cell? ⟨b2', off2 + k * 7, none⟩ = some (.int .i64 x2.time) ∧ w'.cell? ⟨b2', off2 + k * 7 + 1, none⟩ = some (.int .i64 x2.off) ∧ w'.cell? ⟨b2', off2 + k * 7 + 2, none⟩ = some (.bool x2.key.null) ∧ w'.cell? ⟨b2', off2 + k * 7 + 3, none⟩ = some (.string (bb x2.key.data)) ∧ w'.cell? ⟨b2', off2 + k * 7 + 4, none⟩ = some (.bool x2.val.null) ∧ w'.cell? ⟨b2', off2 + k * 7 + 5, none⟩ = some (.string (bb x2.val.data)) ∧ w'.cell? ⟨b2', off2 + k * 7 + 6, none⟩ = some (v2))) := fun w' hs => by
      have r1 := recs_cell HK1.out hs k hlt (x1, v1) HXX1.out
      have r2 := recs_cell HK2.out hs k hlt2 (x2, v2) HXX2.out
      simp only [← Nat.add_assoc] at r1 r2
      exact ⟨hs.p1.rawCell 11, hs.rawCell 11, r1, r2⟩
    have HKP := Lib.hid hkeep
    clear hkeep HX1 HX2 HXX1 HXX2
    clear hlt2
    by_cases hxy : x1 = x2
    · as_aux_lemma =>
      have E1 := Lib.hid (decide_eq_true hxy)
      have NT2 := Lib.hid (NT.out hxy)
      clear hxy NX NT
      go_upto_region 6 with (fail)
      have hs := H.out.drew
      refine wp_region_held_drew (S := fun w' => (w'.cell? ⟨hb, 11, none⟩ = some (.slice (some ⟨b1', off1, none⟩) l1.length cap1)) ∧ (w'.cell? ⟨hc, 11, none⟩ = some (.slice (some ⟨b2', off2, none⟩) l2.length cap2)) ∧ (w'.cell? ⟨b1', off1 + k * 7, none⟩ = some (.int .i64 x1.time) ∧ w'.cell? ⟨b1', off1 + k * 7 + 1, none⟩ = some (.int .i64 x1.off) ∧ w'.cell? ⟨b1', off1 + k * 7 + 2, none⟩ = some (.bool x1.key.null) ∧ w'.cell? ⟨b1', off1 + k * 7 + 3, none⟩ = some (.string (bb x1.key.data)) ∧ w'.cell? ⟨b1', off1 + k * 7 + 4, none⟩ = some (.bool x1.val.null) ∧ w'.cell? ⟨b1', off1 + k * 7 + 5, none⟩ = some (.string (bb x1.val.data)) ∧ w'.cell? ⟨b1', off1 + k * 7 + 6, none⟩ = some (v1)) ∧ (w'.cell? ⟨b2', off2 + k * 7, none⟩ = some (.int .i64 x2.time) ∧ w'.cell? ⟨b2', off2 + k * 7 + 1, none⟩ = some (.int .i64 x2.off) ∧ w'.cell? ⟨b2', off2 + k * 7 + 2, none⟩ = some (.bool x2.key.null) ∧ w'.cell? ⟨b2', off2 + k * 7 + 3, none⟩ = some (.string (bb x2.key.data)) ∧ w'.cell? ⟨b2', off2 + k * 7 + 4, none⟩ = some (.bool x2.val.null) ∧ w'.cell? ⟨b2', off2 + k * 7 + 5, none⟩ = some (.string (bb x2.val.data)) ∧ w'.cell? ⟨b2', off2 + k * 7 + 6, none⟩ = some (v2))) (by kernel_rfl) (HKP.out _ hs) (fun hHeld => ?_)
      refine tQ 0 ⟨some 97, .fieldAddr 39 (.tmp 2) 11, 0, "ref.go:180", #[], none⟩ ?_; simp only [Act.put, sA, sB, sC]
      refine tQ 1 ⟨some 98, .load 37 (.tmp 97), 37, "ref.go:180", #[.mk 0 .data], none⟩ ?_; simp only [Act.put, sA, sB, sC]
      refine tQ 2 ⟨some 99, .move (.tmp 5), 3, "ref.go:180", #[], none⟩ ?_; simp only [Act.put, sA, sB, sC]
      refine tQ 3 ⟨some 100, .indexAddr 37 (.tmp 98) (.tmp 99), 0, "ref.go:180", #[.mk 1 .data, .mk 2 .data], none⟩ ?_; simp only [Act.put, sA, sB, sC]
      refine tQ 4 ⟨some 101, .load 81 (.tmp 100), 81, "ref.go:180", #[.mk 3 .data], none⟩ ?_; simp only [Act.put, sA, sB, sC]
      refine tQ 5 ⟨some 102, .fieldAddr 39 (.tmp 3) 11, 0, "ref.go:180", #[], none⟩ ?_; simp only [Act.put, sA, sB, sC]
      refine tQ 6 ⟨some 103, .load 37 (.tmp 102), 37, "ref.go:180", #[.mk 5 .data], none⟩ ?_; simp only [Act.put, sA, sB, sC]
      refine tQ 7 ⟨some 104, .move (.tmp 5), 3, "ref.go:180", #[], none⟩ ?_; simp only [Act.put, sA, sB, sC]
      refine tQ 8 ⟨some 105, .indexAddr 37 (.tmp 103) (.tmp 104), 0, "ref.go:180", #[.mk 6 .data, .mk 7 .data], none⟩ ?_; simp only [Act.put, sA, sB, sC]
      refine tQ 9 ⟨some 106, .load 81 (.tmp 105), 81, "ref.go:180", #[.mk 8 .data], none⟩ ?_; simp only [Act.put, sA, sB, sC]
      refine wpAnyH_ready (rs := [10]) (by kernel_rfl) (by simp) (AllReadyH.cons (o := ⟨some 107, .call { callee := .value (.func 32), args := #[.tmp 101, .tmp 106], argTypes := #[81, 81] }, 4, "ref.go:180", #[.mk 4 .data, .mk 9 .data], none⟩) rfl (fun KK hK => ?_) AllReadyH.nil)
      · go_simp
        go_at_call 32
        with_reducible refine (ref07_sameV x1 x2 v1 v2 true E1.out XF1.out XF2.out XK1.out XK2.out hs).mono ?_
        rintro e wq ⟨rfl, hs⟩
        refine hK.out _ _ (HKP.out _ hs) (fun hHeld => ?_)
        clear hK KK
        try simp only [Act.put, sA, sB, sC]
        refine tQ 11 ⟨some 108, .unOp UnOp.not 4 (.tmp 107), 4, "ref.go:180", #[.mk 10 .data], none⟩ ?_; simp only [Act.put, sA, sB, sC]
        refine wpAnyH_done (by kernel_rfl) ?_ _
        go_wp2_with fail
        go_roundw
        case rel => exact ⟨k + 1, hlt, by go_num, NT2, hs⟩
        case measure => first | (simp [intOf]; done) | (simp [intOf]; omega)
    · as_aux_lemma =>
      have E1 := Lib.hid (decide_eq_false hxy)
      have HRF := Lib.hid (show r = false from batS_ne (batS_recs _ _ _ _ _ _ _ _ _ _ _ _ _ _ _ _ _ _ _ _ _ _ _ _ (NX.out hxy)) HR.out)
      clear hxy NX NT
      go_upto_region 6 with (fail)
      have hs := H.out.drew
      refine wp_region_held_drew (S := fun w' => (w'.cell? ⟨hb, 11, none⟩ = some (.slice (some ⟨b1', off1, none⟩) l1.length cap1)) ∧ (w'.cell? ⟨hc, 11, none⟩ = some (.slice (some ⟨b2', off2, none⟩) l2.length cap2)) ∧ (w'.cell? ⟨b1', off1 + k * 7, none⟩ = some (.int .i64 x1.time) ∧ w'.cell? ⟨b1', off1 + k * 7 + 1, none⟩ = some (.int .i64 x1.off) ∧ w'.cell? ⟨b1', off1 + k * 7 + 2, none⟩ = some (.bool x1.key.null) ∧ w'.cell? ⟨b1', off1 + k * 7 + 3, none⟩ = some (.string (bb x1.key.data)) ∧ w'.cell? ⟨b1', off1 + k * 7 + 4, none⟩ = some (.bool x1.val.null) ∧ w'.cell? ⟨b1', off1 + k * 7 + 5, none⟩ = some (.string (bb x1.val.data)) ∧ w'.cell? ⟨b1', off1 + k * 7 + 6, none⟩ = some (v1)) ∧ (w'.cell? ⟨b2', off2 + k * 7, none⟩ = some (.int .i64 x2.time) ∧ w'.cell? ⟨b2', off2 + k * 7 + 1, none⟩ = some (.int .i64 x2.off) ∧ w'.cell? ⟨b2', off2 + k * 7 + 2, none⟩ = some (.bool x2.key.null) ∧ w'.cell? ⟨b2', off2 + k * 7 + 3, none⟩ = some (.string (bb x2.key.data)) ∧ w'.cell? ⟨b2', off2 + k * 7 + 4, none⟩ = some (.bool x2.val.null) ∧ w'.cell? ⟨b2', off2 + k * 7 + 5, none⟩ = some (.string (bb x2.val.data)) ∧ w'.cell? ⟨b2', off2 + k * 7 + 6, none⟩ = some (v2))) (by kernel_rfl) (HKP.out _ hs) (fun hHeld => ?_)
      refine tQ 0 ⟨some 97, .fieldAddr 39 (.tmp 2) 11, 0, "ref.go:180", #[], none⟩ ?_; simp only [Act.put, sA, sB, sC]
      refine tQ 1 ⟨some 98, .load 37 (.tmp 97), 37, "ref.go:180", #[.mk 0 .data], none⟩ ?_; simp only [Act.put, sA, sB, sC]
      refine tQ 2 ⟨some 99, .move (.tmp 5), 3, "ref.go:180", #[], none⟩ ?_; simp only [Act.put, sA, sB, sC]
      refine tQ 3 ⟨some 100, .indexAddr 37 (.tmp 98) (.tmp 99), 0, "ref.go:180", #[.mk 1 .data, .mk 2 .data], none⟩ ?_; simp only [Act.put, sA, sB, sC]
      refine tQ 4 ⟨some 101, .load 81 (.tmp 100), 81, "ref.go:180", #[.mk 3 .data], none⟩ ?_; simp only [Act.put, sA, sB, sC]
      refine tQ 5 ⟨some 102, .fieldAddr 39 (.tmp 3) 11, 0, "ref.go:180", #[], none⟩ ?_; simp only [Act.put, sA, sB, sC]
      refine tQ 6 ⟨some 103, .load 37 (.tmp 102), 37, "ref.go:180", #[.mk 5 .data], none⟩ ?_; simp only [Act.put, sA, sB, sC]
      refine tQ 7 ⟨some 104, .move (.tmp 5), 3, "ref.go:180", #[], none⟩ ?_; simp only [Act.put, sA, sB, sC]
      refine tQ 8 ⟨some 105, .indexAddr 37 (.tmp 103) (.tmp 104), 0, "ref.go:180", #[.mk 6 .data, .mk 7 .data], none⟩ ?_; simp only [Act.put, sA, sB, sC]
      refine tQ 9 ⟨some 106, .load 81 (.tmp 105), 81, "ref.go:180", #[.mk 8 .data], none⟩ ?_; simp only [Act.put, sA, sB, sC]
      refine wpAnyH_ready (rs := [10]) (by kernel_rfl) (by simp) (AllReadyH.cons (o := ⟨some 107, .call { callee := .value (.func 32), args := #[.tmp 101, .tmp 106], argTypes := #[81, 81] }, 4, "ref.go:180", #[.mk 4 .data, .mk 9 .data], none⟩) rfl (fun KK hK => ?_) AllReadyH.nil)
      · go_simp
        go_at_call 32
        with_reducible refine (ref07_sameV x1 x2 v1 v2 false E1.out XF1.out XF2.out XK1.out XK2.out hs).mono ?_
        rintro e wq ⟨rfl, hs⟩
        refine hK.out _ _ (HKP.out _ hs) (fun hHeld => ?_)
        clear hK KK
        try simp only [Act.put, sA, sB, sC]
        refine tQ 11 ⟨some 108, .unOp UnOp.not 4 (.tmp 107), 4, "ref.go:180", #[.mk 10 .data], none⟩ ?_; simp only [Act.put, sA, sB, sC]
        refine wpAnyH_done (by kernel_rfl) ?_ _
        go_wp2_with fail
        go_ret
        exact ⟨ret_bool HRF.out.symm, hs.drop.drop⟩
  · obtain rfl : k = l1.length := by omega
    have hall : l1.map (·.1) = l2.map (·.1) := by
      have h := heq.out
      rwa [List.take_of_length_le (by simp), List.take_of_length_le (by have := HLEN.out; simp; omega)] at h
    have HRT := Lib.hid (show r = true by rw [← HR.out, hall]; exact decide_eq_true rfl)
    clear hall
    go_wp2
    go_ret
    exact ⟨ret_bool HRT.out.symm, H.out.drop.drop⟩
set_option maxHeartbeats 4000000 in
set_option maxRecDepth 100000 in
theorem ref11_ne0 (base1 base2 : Int) (leader1 leader2 : Int) (app1 app2 : Bool) (txn1 txn2 : Bool) (ctl1 ctl2 : Bool) (last1 last2 : Int) (first1 first2 : Int) (maxt1 maxt2 : Int) (prod1 prod2 : Int) (epoch1 epoch2 : Int) (seq1 seq2 : Int) (l1 l2 : List (RecS × Value)) (q1 q2 : Option Addr) (cap1 cap2 : Nat) (hne : base1 ≠ base2) {W0 w : World} {K : Know} {L : List Res} (h : St W0 w K L) :
  Calls Try.prog 10 #[.agg #[.int .i64 base1, .int .i64 leader1, .bool app1, .bool txn1, .bool ctl1, .int .i64 last1, .int .i64 first1, .int .i64 maxt1, .int .i64 prod1, .int .i64 epoch1, .int .i64 seq1, .slice q1 l1.length cap1], .agg #[.int .i64 base2, .int .i64 leader2, .bool app2, .bool txn2, .bool ctl2, .int .i64 last2, .int .i64 first2, .int .i64 maxt2, .int .i64 prod2, .int .i64 epoch2, .int .i64 seq2, .slice q2 l2.length cap2]] w fun en w' => en = .returned (.bool false) ∧ St W0 w' K L := by
 obtain ⟨hb, hhb⟩ : ∃ b, w.heap.size = b := ⟨_, rfl⟩
 have h1 := (h.allocRaw #[.int .i64 base1, .int .i64 leader1, .bool app1, .bool txn1, .bool ctl1, .int .i64 last1, .int .i64 first1, .int .i64 maxt1, .int .i64 prod1, .int .i64 epoch1, .int .i64 seq1, .slice q1 l1.length cap1] 39).allocRaw #[.int .i64 base2, .int .i64 leader2, .bool app2, .bool txn2, .bool ctl2, .int .i64 last2, .int .i64 first2, .int .i64 maxt2, .int .i64 prod2, .int .i64 epoch2, .int .i64 seq2, .slice q2 l2.length cap2] 39
 rw [World.size_alloc, hhb] at h1
 obtain ⟨hc, hhc⟩ : ∃ b, hb + 1 = b := ⟨_, rfl⟩
 rw [hhc] at h1
 obtain ⟨b0, b1, b2, b3, b4, b5, b6, b7, b8, b9, b10, b11, fb0, fb1, fb2, fb3, fb4, fb5, fb6, fb7, fb8, fb9, fb10, fb11⟩ := raw12 (b := hc) h1
 obtain ⟨a0, a1, a2, a3, a4, a5, a6, a7, a8, a9, a10, a11, fa0, fa1, fa2, fa3, fa4, fa5, fa6, fa7, fa8, fa9, fa10, fa11⟩ := raw12 (b := hb) h1.p1
 have H := Lib.hid h1
 have g1 : (base1 == base2) = false := by simpa using hne
 have g2 : (base1 != base2) = true := by simp [bne, g1]
 clear h h1 hne fa0 fb0 fa1 fb1 fa2 fb2 fa3 fb3 fa4 fb4 fa5 fb5 fa6 fb6 fa7 fb7 fa8 fb8 fa9 fb9 fa10 fb10 fa11 fb11
 go_enter Try.func10, Try.ntmps10
 go_wp2
 go_ret
 exact ⟨rfl, H.out.drop.drop⟩
set_option maxHeartbeats 4000000 in
set_option maxRecDepth 100000 in
theorem ref11_ne1 (base1 : Int) (leader1 leader2 : Int) (app1 app2 : Bool) (txn1 txn2 : Bool) (ctl1 ctl2 : Bool) (last1 last2 : Int) (first1 first2 : Int) (maxt1 maxt2 : Int) (prod1 prod2 : Int) (epoch1 epoch2 : Int) (seq1 seq2 : Int) (l1 l2 : List (RecS × Value)) (q1 q2 : Option Addr) (cap1 cap2 : Nat) (hne : leader1 ≠ leader2) {W0 w : World} {K : Know} {L : List Res} (h : St W0 w K L) :
  Calls Try.prog 10 #[.agg #[.int .i64 base1, .int .i64 leader1, .bool app1, .bool txn1, .bool ctl1, .int .i64 last1, .int .i64 first1, .int .i64 maxt1, .int .i64 prod1, .int .i64 epoch1, .int .i64 seq1, .slice q1 l1.length cap1], .agg #[.int .i64 base1, .int .i64 leader2, .bool app2, .bool txn2, .bool ctl2, .int .i64 last2, .int .i64 first2, .int .i64 maxt2, .int .i64 prod2, .int .i64 epoch2, .int .i64 seq2, .slice q2 l2.length cap2]] w fun en w' => en = .returned (.bool false) ∧ St W0 w' K L := by
 obtain ⟨hb, hhb⟩ : ∃ b, w.heap.size = b := ⟨_, rfl⟩
 have h1 := (h.allocRaw #[.int .i64 base1, .int .i64 leader1, .bool app1, .bool txn1, .bool ctl1, .int .i64 last1, .int .i64 first1, .int .i64 maxt1, .int .i64 prod1, .int .i64 epoch1, .int .i64 seq1, .slice q1 l1.length cap1] 39).allocRaw #[.int .i64 base1, .int .i64 leader2, .bool app2, .bool txn2, .bool ctl2, .int .i64 last2, .int .i64 first2, .int .i64 maxt2, .int .i64 prod2, .int .i64 epoch2, .int .i64 seq2, .slice q2 l2.length cap2] 39
 rw [World.size_alloc, hhb] at h1
 obtain ⟨hc, hhc⟩ : ∃ b, hb + 1 = b := ⟨_, rfl⟩
 rw [hhc] at h1
 obtain ⟨b0, b1, b2, b3, b4, b5, b6, b7, b8, b9, b10, b11, fb0, fb1, fb2, fb3, fb4, fb5, fb6, fb7, fb8, fb9, fb10, fb11⟩ := raw12 (b := hc) h1
 obtain ⟨a0, a1, a2, a3, a4, a5, a6, a7, a8, a9, a10, a11, fa0, fa1, fa2, fa3, fa4, fa5, fa6, fa7, fa8, fa9, fa10, fa11⟩ := raw12 (b := hb) h1.p1
 have H := Lib.hid h1
 have g1 : (leader1 == leader2) = false := by simpa using hne
 have g2 : (leader1 != leader2) = true := by simp [bne, g1]
 clear h h1 hne fa0 fb0 fa1 fb1 fa2 fb2 fa3 fb3 fa4 fb4 fa5 fb5 fa6 fb6 fa7 fb7 fa8 fb8 fa9 fb9 fa10 fb10 fa11 fb11
 go_enter Try.func10, Try.ntmps10
 go_wp2
 go_ret
 exact ⟨rfl, H.out.drop.drop⟩
set_option maxHeartbeats 4000000 in
set_option maxRecDepth 100000 in
theorem ref11_ne2 (base1 : Int) (leader1 : Int) (app1 app2 : Bool) (txn1 txn2 : Bool) (ctl1 ctl2 : Bool) (last1 last2 : Int) (first1 first2 : Int) (maxt1 maxt2 : Int) (prod1 prod2 : Int) (epoch1 epoch2 : Int) (seq1 seq2 : Int) (l1 l2 : List (RecS × Value)) (q1 q2 : Option Addr) (cap1 cap2 : Nat) (hne : app1 ≠ app2) {W0 w : World} {K : Know} {L : List Res} (h : St W0 w K L) :
  Calls Try.prog 10 #[.agg #[.int .i64 base1, .int .i64 leader1, .bool app1, .bool txn1, .bool ctl1, .int .i64 last1, .int .i64 first1, .int .i64 maxt1, .int .i64 prod1, .int .i64 epoch1, .int .i64 seq1, .slice q1 l1.length cap1], .agg #[.int .i64 base1, .int .i64 leader1, .bool app2, .bool txn2, .bool ctl2, .int .i64 last2, .int .i64 first2, .int .i64 maxt2, .int .i64 prod2, .int .i64 epoch2, .int .i64 seq2, .slice q2 l2.length cap2]] w fun en w' => en = .returned (.bool false) ∧ St W0 w' K L := by
 obtain ⟨hb, hhb⟩ : ∃ b, w.heap.size = b := ⟨_, rfl⟩
 have h1 := (h.allocRaw #[.int .i64 base1, .int .i64 leader1, .bool app1, .bool txn1, .bool ctl1, .int .i64 last1, .int .i64 first1, .int .i64 maxt1, .int .i64 prod1, .int .i64 epoch1, .int .i64 seq1, .slice q1 l1.length cap1] 39).allocRaw #[.int .i64 base1, .int .i64 leader1, .bool app2, .bool txn2, .bool ctl2, .int .i64 last2, .int .i64 first2, .int .i64 maxt2, .int .i64 prod2, .int .i64 epoch2, .int .i64 seq2, .slice q2 l2.length cap2] 39
 rw [World.size_alloc, hhb] at h1
 obtain ⟨hc, hhc⟩ : ∃ b, hb + 1 = b := ⟨_, rfl⟩
 rw [hhc] at h1
 obtain ⟨b0, b1, b2, b3, b4, b5, b6, b7, b8, b9, b10, b11, fb0, fb1, fb2, fb3, fb4, fb5, fb6, fb7, fb8, fb9, fb10, fb11⟩ := raw12 (b := hc) h1
 obtain ⟨a0, a1, a2, a3, a4, a5, a6, a7, a8, a9, a10, a11, fa0, fa1, fa2, fa3, fa4, fa5, fa6, fa7, fa8, fa9, fa10, fa11⟩ := raw12 (b := hb) h1.p1
 have H := Lib.hid h1
 have g1 : (app1 == app2) = false := by simpa using hne
 have g2 : (app1 != app2) = true := by simp [bne, g1]
 clear h h1 hne fa0 fb0 fa1 fb1 fa2 fb2 fa3 fb3 fa4 fb4 fa5 fb5 fa6 fb6 fa7 fb7 fa8 fb8 fa9 fb9 fa10 fb10 fa11 fb11
 go_enter Try.func10, Try.ntmps10
 go_wp2
 go_ret
 exact ⟨rfl, H.out.drop.drop⟩
set_option maxHeartbeats 4000000 in
set_option maxRecDepth 100000 in
theorem ref11_ne3 (base1 : Int) (leader1 : Int) (app1 : Bool) (txn1 txn2 : Bool) (ctl1 ctl2 : Bool) (last1 last2 : Int) (first1 first2 : Int) (maxt1 maxt2 : Int) (prod1 prod2 : Int) (epoch1 epoch2 : Int) (seq1 seq2 : Int) (l1 l2 : List (RecS × Value)) (q1 q2 : Option Addr) (cap1 cap2 : Nat) (hne : txn1 ≠ txn2) {W0 w : World} {K : Know} {L : List Res} (h : St W0 w K L) :
  Calls Try.prog 10 #[.agg #[.int .i64 base1, .int .i64 leader1, .bool app1, .bool txn1, .bool ctl1, .int .i64 last1, .int .i64 first1, .int .i64 maxt1, .int .i64 prod1, .int .i64 epoch1, .int .i64 seq1, .slice q1 l1.length cap1], .agg #[.int .i64 base1, .int .i64 leader1, .bool app1, .bool txn2, .bool ctl2, .int .i64 last2, .int .i64 first2, .int .i64 maxt2, .int .i64 prod2, .int .i64 epoch2, .int .i64 seq2, .slice q2 l2.length cap2]] w fun en w' => en = .returned (.bool false) ∧ St W0 w' K L := by
 obtain ⟨hb, hhb⟩ : ∃ b, w.heap.size = b := ⟨_, rfl⟩
 have h1 := (h.allocRaw #[.int .i64 base1, .int .i64 leader1, .bool app1, .bool txn1, .bool ctl1, .int .i64 last1, .int .i64 first1, .int .i64 maxt1, .int .i64 prod1, .int .i64 epoch1, .int .i64 seq1, .slice q1 l1.length cap1] 39).allocRaw #[.int .i64 base1, .int .i64 leader1, .bool app1, .bool txn2, .bool ctl2, .int .i64 last2, .int .i64 first2, .int .i64 maxt2, .int .i64 prod2, .int .i64 epoch2, .int .i64 seq2, .slice q2 l2.length cap2] 39
 rw [World.size_alloc, hhb] at h1
 obtain ⟨hc, hhc⟩ : ∃ b, hb + 1 = b := ⟨_, rfl⟩
 rw [hhc] at h1
 obtain ⟨b0, b1, b2, b3, b4, b5, b6, b7, b8, b9, b10, b11, fb0, fb1, fb2, fb3, fb4, fb5, fb6, fb7, fb8, fb9, fb10, fb11⟩ := raw12 (b := hc) h1
 obtain ⟨a0, a1, a2, a3, a4, a5, a6, a7, a8, a9, a10, a11, fa0, fa1, fa2, fa3, fa4, fa5, fa6, fa7, fa8, fa9, fa10, fa11⟩ := raw12 (b := hb) h1.p1
 have H := Lib.hid h1
 have g1 : (txn1 == txn2) = false := by simpa using hne
 have g2 : (txn1 != txn2) = true := by simp [bne, g1]
 clear h h1 hne fa0 fb0 fa1 fb1 fa2 fb2 fa3 fb3 fa4 fb4 fa5 fb5 fa6 fb6 fa7 fb7 fa8 fb8 fa9 fb9 fa10 fb10 fa11 fb11
 go_enter Try.func10, Try.ntmps10
 go_wp2
 go_ret
 exact ⟨rfl, H.out.drop.drop⟩
set_option maxHeartbeats 4000000 in
set_option maxRecDepth 100000 in
theorem ref11_ne4 (base1 : Int) (leader1 : Int) (app1 : Bool) (txn1 : Bool) (ctl1 ctl2 : Bool) (last1 last2 : Int) (first1 first2 : Int) (maxt1 maxt2 : Int) (prod1 prod2 : Int) (epoch1 epoch2 : Int) (seq1 seq2 : Int) (l1 l2 : List (RecS × Value)) (q1 q2 : Option Addr) (cap1 cap2 : Nat) (hne : ctl1 ≠ ctl2) {W0 w : World} {K : Know} {L : List Res} (h : St W0 w K L) :
  Calls Try.prog 10 #[.agg #[.int .i64 base1, .int .i64 leader1, .bool app1, .bool txn1, .bool ctl1, .int .i64 last1, .int .i64 first1, .int .i64 maxt1, .int .i64 prod1, .int .i64 epoch1, .int .i64 seq1, .slice q1 l1.length cap1], .agg #[.int .i64 base1, .int .i64 leader1, .bool app1, .bool txn1, .bool ctl2, .int .i64 last2, .int .i64 first2, .int .i64 maxt2, .int .i64 prod2, .int .i64 epoch2, .int .i64 seq2, .slice q2 l2.length cap2]] w fun en w' => en = .returned (.bool false) ∧ St W0 w' K L := by
 obtain ⟨hb, hhb⟩ : ∃ b, w.heap.size = b := ⟨_, rfl⟩
 have h1 := (h.allocRaw #[.int .i64 base1, .int .i64 leader1, .bool app1, .bool txn1, .bool ctl1, .int .i64 last1, .int .i64 first1, .int .i64 maxt1, .int .i64 prod1, .int .i64 epoch1, .int .i64 seq1, .slice q1 l1.length cap1] 39).allocRaw #[.int .i64 base1, .int .i64 leader1, .bool app1, .bool txn1, .bool ctl2, .int .i64 last2, .int .i64 first2, .int .i64 maxt2, .int .i64 prod2, .int .i64 epoch2, .int .i64 seq2, .slice q2 l2.length cap2] 39
 rw [World.size_alloc, hhb] at h1
 obtain ⟨hc, hhc⟩ : ∃ b, hb + 1 = b := ⟨_, rfl⟩
 rw [hhc] at h1
 obtain ⟨b0, b1, b2, b3, b4, b5, b6, b7, b8, b9, b10, b11, fb0, fb1, fb2, fb3, fb4, fb5, fb6, fb7, fb8, fb9, fb10, fb11⟩ := raw12 (b := hc) h1
 obtain ⟨a0, a1, a2, a3, a4, a5, a6, a7, a8, a9, a10, a11, fa0, fa1, fa2, fa3, fa4, fa5, fa6, fa7, fa8, fa9, fa10, fa11⟩ := raw12 (b := hb) h1.p1
 have H := Lib.hid h1
 have g1 : (ctl1 == ctl2) = false := by simpa using hne
 have g2 : (ctl1 != ctl2) = true := by simp [bne, g1]
 clear h h1 hne fa0 fb0 fa1 fb1 fa2 fb2 fa3 fb3 fa4 fb4 fa5 fb5 fa6 fb6 fa7 fb7 fa8 fb8 fa9 fb9 fa10 fb10 fa11 fb11
 go_enter Try.func10, Try.ntmps10
 go_wp2
 go_ret
 exact ⟨rfl, H.out.drop.drop⟩
set_option maxHeartbeats 4000000 in
set_option maxRecDepth 100000 in
theorem ref11_ne5 (base1 : Int) (leader1 : Int) (app1 : Bool) (txn1 : Bool) (ctl1 : Bool) (last1 last2 : Int) (first1 first2 : Int) (maxt1 maxt2 : Int) (prod1 prod2 : Int) (epoch1 epoch2 : Int) (seq1 seq2 : Int) (l1 l2 : List (RecS × Value)) (q1 q2 : Option Addr) (cap1 cap2 : Nat) (hne : last1 ≠ last2) {W0 w : World} {K : Know} {L : List Res} (h : St W0 w K L) :
  Calls Try.prog 10 #[.agg #[.int .i64 base1, .int .i64 leader1, .bool app1, .bool txn1, .bool ctl1, .int .i64 last1, .int .i64 first1, .int .i64 maxt1, .int .i64 prod1, .int .i64 epoch1, .int .i64 seq1, .slice q1 l1.length cap1], .agg #[.int .i64 base1, .int .i64 leader1, .bool app1, .bool txn1, .bool ctl1, .int .i64 last2, .int .i64 first2, .int .i64 maxt2, .int .i64 prod2, .int .i64 epoch2, .int .i64 seq2, .slice q2 l2.length cap2]] w fun en w' => en = .returned (.bool false) ∧ St W0 w' K L := by
 obtain ⟨hb, hhb⟩ : ∃ b, w.heap.size = b := ⟨_, rfl⟩
 have h1 := (h.allocRaw #[.int .i64 base1, .int .i64 leader1, .bool app1, .bool txn1, .bool ctl1, .int .i64 last1, .int .i64 first1, .int .i64 maxt1, .int .i64 prod1, .int .i64 epoch1, .int .i64 seq1, .slice q1 l1.length cap1] 39).allocRaw #[.int .i64 base1, .int .i64 leader1, .bool app1, .bool txn1, .bool ctl1, .int .i64 last2, .int .i64 first2, .int .i64 maxt2, .int .i64 prod2, .int .i64 epoch2, .int .i64 seq2, .slice q2 l2.length cap2] 39
 rw [World.size_alloc, hhb] at h1
 obtain ⟨hc, hhc⟩ : ∃ b, hb + 1 = b := ⟨_, rfl⟩
 rw [hhc] at h1
 obtain ⟨b0, b1, b2, b3, b4, b5, b6, b7, b8, b9, b10, b11, fb0, fb1, fb2, fb3, fb4, fb5, fb6, fb7, fb8, fb9, fb10, fb11⟩ := raw12 (b := hc) h1
 obtain ⟨a0, a1, a2, a3, a4, a5, a6, a7, a8, a9, a10, a11, fa0, fa1, fa2, fa3, fa4, fa5, fa6, fa7, fa8, fa9, fa10, fa11⟩ := raw12 (b := hb) h1.p1
 have H := Lib.hid h1
 have g1 : (last1 == last2) = false := by simpa using hne
 have g2 : (last1 != last2) = true := by simp [bne, g1]
 clear h h1 hne fa0 fb0 fa1 fb1 fa2 fb2 fa3 fb3 fa4 fb4 fa5 fb5 fa6 fb6 fa7 fb7 fa8 fb8 fa9 fb9 fa10 fb10 fa11 fb11
 go_enter Try.func10, Try.ntmps10
 go_wp2
 go_ret
 exact ⟨rfl, H.out.drop.drop⟩
set_option maxHeartbeats 4000000 in
set_option maxRecDepth 100000 in
theorem ref11_ne6 (base1 : Int) (leader1 : Int) (app1 : Bool) (txn1 : Bool) (ctl1 : Bool) (last1 : Int) (first1 first2 : Int) (maxt1 maxt2 : Int) (prod1 prod2 : Int) (epoch1 epoch2 : Int) (seq1 seq2 : Int) (l1 l2 : List (RecS × Value)) (q1 q2 : Option Addr) (cap1 cap2 : Nat) (hne : first1 ≠ first2) {W0 w : World} {K : Know} {L : List Res} (h : St W0 w K L) :
  Calls Try.prog 10 #[.agg #[.int .i64 base1, .int .i64 leader1, .bool app1, .bool txn1, .bool ctl1, .int .i64 last1, .int .i64 first1, .int .i64 maxt1, .int .i64 prod1, .int .i64 epoch1, .int .i64 seq1, .slice q1 l1.length cap1], .agg #[.int .i64 base1, .int .i64 leader1, .bool app1, .bool txn1, .bool ctl1, .int .i64 last1, .int .i64 first2, .int .i64 maxt2, .int .i64 prod2, .int .i64 epoch2, .int .i64 seq2, .slice q2 l2.length cap2]] w fun en w' => en = .returned (.bool false) ∧ St W0 w' K L := by
 obtain ⟨hb, hhb⟩ : ∃ b, w.heap.size = b := ⟨_, rfl⟩
 have h1 := (h.allocRaw #[.int .i64 base1, .int .i64 leader1, .bool app1, .bool txn1, .bool ctl1, .int .i64 last1, .int .i64 first1, .int .i64 maxt1, .int .i64 prod1, .int .i64 epoch1, .int .i64 seq1, .slice q1 l1.length cap1] 39).allocRaw #[.int .i64 base1, .int .i64 leader1, .bool app1, .bool txn1, .bool ctl1, .int .i64 last1, .int .i64 first2, .int .i64 maxt2, .int .i64 prod2, .int .i64 epoch2, .int .i64 seq2, .slice q2 l2.length cap2] 39
 rw [World.size_alloc, hhb] at h1
 obtain ⟨hc, hhc⟩ : ∃ b, hb + 1 = b := ⟨_, rfl⟩
 rw [hhc] at h1
 obtain ⟨b0, b1, b2, b3, b4, b5, b6, b7, b8, b9, b10, b11, fb0, fb1, fb2, fb3, fb4, fb5, fb6, fb7, fb8, fb9, fb10, fb11⟩ := raw12 (b := hc) h1
 obtain ⟨a0, a1, a2, a3, a4, a5, a6, a7, a8, a9, a10, a11, fa0, fa1, fa2, fa3, fa4, fa5, fa6, fa7, fa8, fa9, fa10, fa11⟩ := raw12 (b := hb) h1.p1
 have H := Lib.hid h1
 have g1 : (first1 == first2) = false := by simpa using hne
 have g2 : (first1 != first2) = true := by simp [bne, g1]
 clear h h1 hne fa0 fb0 fa1 fb1 fa2 fb2 fa3 fb3 fa4 fb4 fa5 fb5 fa6 fb6 fa7 fb7 fa8 fb8 fa9 fb9 fa10 fb10 fa11 fb11
 go_enter Try.func10, Try.ntmps10
 go_wp2
 go_ret
 exact ⟨rfl, H.out.drop.drop⟩
set_option maxHeartbeats 4000000 in
set_option maxRecDepth 100000 in
theorem ref11_ne7 (base1 : Int) (leader1 : Int) (app1 : Bool) (txn1 : Bool) (ctl1 : Bool) (last1 : Int) (first1 : Int) (maxt1 maxt2 : Int) (prod1 prod2 : Int) (epoch1 epoch2 : Int) (seq1 seq2 : Int) (l1 l2 : List (RecS × Value)) (q1 q2 : Option Addr) (cap1 cap2 : Nat) (hne : maxt1 ≠ maxt2) {W0 w : World} {K : Know} {L : List Res} (h : St W0 w K L) :
  Calls Try.prog 10 #[.agg #[.int .i64 base1, .int .i64 leader1, .bool app1, .bool txn1, .bool ctl1, .int .i64 last1, .int .i64 first1, .int .i64 maxt1, .int .i64 prod1, .int .i64 epoch1, .int .i64 seq1, .slice q1 l1.length cap1], .agg #[.int .i64 base1, .int .i64 leader1, .bool app1, .bool txn1, .bool ctl1, .int .i64 last1, .int .i64 first1, .int .i64 maxt2, .int .i64 prod2, .int .i64 epoch2, .int .i64 seq2, .slice q2 l2.length cap2]] w fun en w' => en = .returned (.bool false) ∧ St W0 w' K L := by
 obtain ⟨hb, hhb⟩ : ∃ b, w.heap.size = b := ⟨_, rfl⟩
 have h1 := (h.allocRaw #[.int .i64 base1, .int .i64 leader1, .bool app1, .bool txn1, .bool ctl1, .int .i64 last1, .int .i64 first1, .int .i64 maxt1, .int .i64 prod1, .int .i64 epoch1, .int .i64 seq1, .slice q1 l1.length cap1] 39).allocRaw #[.int .i64 base1, .int .i64 leader1, .bool app1, .bool txn1, .bool ctl1, .int .i64 last1, .int .i64 first1, .int .i64 maxt2, .int .i64 prod2, .int .i64 epoch2, .int .i64 seq2, .slice q2 l2.length cap2] 39
 rw [World.size_alloc, hhb] at h1
 obtain ⟨hc, hhc⟩ : ∃ b, hb + 1 = b := ⟨_, rfl⟩
 rw [hhc] at h1
 obtain ⟨b0, b1, b2, b3, b4, b5, b6, b7, b8, b9, b10, b11, fb0, fb1, fb2, fb3, fb4, fb5, fb6, fb7, fb8, fb9, fb10, fb11⟩ := raw12 (b := hc) h1
 obtain ⟨a0, a1, a2, a3, a4, a5, a6, a7, a8, a9, a10, a11, fa0, fa1, fa2, fa3, fa4, fa5, fa6, fa7, fa8, fa9, fa10, fa11⟩ := raw12 (b := hb) h1.p1
 have H := Lib.hid h1
 have g1 : (maxt1 == maxt2) = false := by simpa using hne
 have g2 : (maxt1 != maxt2) = true := by simp [bne, g1]
 clear h h1 hne fa0 fb0 fa1 fb1 fa2 fb2 fa3 fb3 fa4 fb4 fa5 fb5 fa6 fb6 fa7 fb7 fa8 fb8 fa9 fb9 fa10 fb10 fa11 fb11
 go_enter Try.func10, Try.ntmps10
 go_wp2
 go_ret
 exact ⟨rfl, H.out.drop.drop⟩
set_option maxHeartbeats 4000000 in
set_option maxRecDepth 100000 in
theorem ref11_ne8 (base1 : Int) (leader1 : Int) (app1 : Bool) (txn1 : Bool) (ctl1 : Bool) (last1 : Int) (first1 : Int) (maxt1 : Int) (prod1 prod2 : Int) (epoch1 epoch2 : Int) (seq1 seq2 : Int) (l1 l2 : List (RecS × Value)) (q1 q2 : Option Addr) (cap1 cap2 : Nat) (hne : prod1 ≠ prod2) {W0 w : World} {K : Know} {L : List Res} (h : St W0 w K L) :
  Calls Try.prog 10 #[.agg #[.int .i64 base1, .int .i64 leader1, .bool app1, .bool txn1, .bool ctl1, .int .i64 last1, .int .i64 first1, .int .i64 maxt1, .int .i64 prod1, .int .i64 epoch1, .int .i64 seq1, .slice q1 l1.length cap1], .agg #[.int .i64 base1, .int .i64 leader1, .bool app1, .bool txn1, .bool ctl1, .int .i64 last1, .int .i64 first1, .int .i64 maxt1, .int .i64 prod2, .int .i64 epoch2, .int .i64 seq2, .slice q2 l2.length cap2]] w fun en w' => en = .returned (.bool false) ∧ St W0 w' K L := by
 obtain ⟨hb, hhb⟩ : ∃ b, w.heap.size = b := ⟨_, rfl⟩
 have h1 := (h.allocRaw #[.int .i64 base1, .int .i64 leader1, .bool app1, .bool txn1, .bool ctl1, .int .i64 last1, .int .i64 first1, .int .i64 maxt1, .int .i64 prod1, .int .i64 epoch1, .int .i64 seq1, .slice q1 l1.length cap1] 39).allocRaw #[.int .i64 base1, .int .i64 leader1, .bool app1, .bool txn1, .bool ctl1, .int .i64 last1, .int .i64 first1, .int .i64 maxt1, .int .i64 prod2, .int .i64 epoch2, .int .i64 seq2, .slice q2 l2.length cap2] 39
 rw [World.size_alloc, hhb] at h1
 obtain ⟨hc, hhc⟩ : ∃ b, hb + 1 = b := ⟨_, rfl⟩
 rw [hhc] at h1
 obtain ⟨b0, b1, b2, b3, b4, b5, b6, b7, b8, b9, b10, b11, fb0, fb1, fb2, fb3, fb4, fb5, fb6, fb7, fb8, fb9, fb10, fb11⟩ := raw12 (b := hc) h1
 obtain ⟨a0, a1, a2, a3, a4, a5, a6, a7, a8, a9, a10, a11, fa0, fa1, fa2, fa3, fa4, fa5, fa6, fa7, fa8, fa9, fa10, fa11⟩ := raw12 (b := hb) h1.p1
 have H := Lib.hid h1
 have g1 : (prod1 == prod2) = false := by simpa using hne
 have g2 : (prod1 != prod2) = true := by simp [bne, g1]
 clear h h1 hne fa0 fb0 fa1 fb1 fa2 fb2 fa3 fb3 fa4 fb4 fa5 fb5 fa6 fb6 fa7 fb7 fa8 fb8 fa9 fb9 fa10 fb10 fa11 fb11
 go_enter Try.func10, Try.ntmps10
 go_wp2
 go_ret
 exact ⟨rfl, H.out.drop.drop⟩
set_option maxHeartbeats 4000000 in
set_option maxRecDepth 100000 in
theorem ref11_ne9 (base1 : Int) (leader1 : Int) (app1 : Bool) (txn1 : Bool) (ctl1 : Bool) (last1 : Int) (first1 : Int) (maxt1 : Int) (prod1 : Int) (epoch1 epoch2 : Int) (seq1 seq2 : Int) (l1 l2 : List (RecS × Value)) (q1 q2 : Option Addr) (cap1 cap2 : Nat) (hne : epoch1 ≠ epoch2) {W0 w : World} {K : Know} {L : List Res} (h : St W0 w K L) :
  Calls Try.prog 10 #[.agg #[.int .i64 base1, .int .i64 leader1, .bool app1, .bool txn1, .bool ctl1, .int .i64 last1, .int .i64 first1, .int .i64 maxt1, .int .i64 prod1, .int .i64 epoch1, .int .i64 seq1, .slice q1 l1.length cap1], .agg #[.int .i64 base1, .int .i64 leader1, .bool app1, .bool txn1, .bool ctl1, .int .i64 last1, .int .i64 first1, .int .i64 maxt1, .int .i64 prod1, .int .i64 epoch2, .int .i64 seq2, .slice q2 l2.length cap2]] w fun en w' => en = .returned (.bool false) ∧ St W0 w' K L := by
 obtain ⟨hb, hhb⟩ : ∃ b, w.heap.size = b := ⟨_, rfl⟩
 have h1 := (h.allocRaw #[.int .i64 base1, .int .i64 leader1, .bool app1, .bool txn1, .bool ctl1, .int .i64 last1, .int .i64 first1, .int .i64 maxt1, .int .i64 prod1, .int .i64 epoch1, .int .i64 seq1, .slice q1 l1.length cap1] 39).allocRaw #[.int .i64 base1, .int .i64 leader1, .bool app1, .bool txn1, .bool ctl1, .int .i64 last1, .int .i64 first1, .int .i64 maxt1, .int .i64 prod1, .int .i64 epoch2, .int .i64 seq2, .slice q2 l2.length cap2] 39
 rw [World.size_alloc, hhb] at h1
 obtain ⟨hc, hhc⟩ : ∃ b, hb + 1 = b := ⟨_, rfl⟩
 rw [hhc] at h1
 obtain ⟨b0, b1, b2, b3, b4, b5, b6, b7, b8, b9, b10, b11, fb0, fb1, fb2, fb3, fb4, fb5, fb6, fb7, fb8, fb9, fb10, fb11⟩ := raw12 (b := hc) h1
 obtain ⟨a0, a1, a2, a3, a4, a5, a6, a7, a8, a9, a10, a11, fa0, fa1, fa2, fa3, fa4, fa5, fa6, fa7, fa8, fa9, fa10, fa11⟩ := raw12 (b := hb) h1.p1
 have H := Lib.hid h1
 have g1 : (epoch1 == epoch2) = false := by simpa using hne
 have g2 : (epoch1 != epoch2) = true := by simp [bne, g1]
 clear h h1 hne fa0 fb0 fa1 fb1 fa2 fb2 fa3 fb3 fa4 fb4 fa5 fb5 fa6 fb6 fa7 fb7 fa8 fb8 fa9 fb9 fa10 fb10 fa11 fb11
 go_enter Try.func10, Try.ntmps10
 go_wp2
 go_ret
 exact ⟨rfl, H.out.drop.drop⟩
set_option maxHeartbeats 4000000 in
set_option maxRecDepth 100000 in
theorem ref11_ne10 (base1 : Int) (leader1 : Int) (app1 : Bool) (txn1 : Bool) (ctl1 : Bool) (last1 : Int) (first1 : Int) (maxt1 : Int) (prod1 : Int) (epoch1 : Int) (seq1 seq2 : Int) (l1 l2 : List (RecS × Value)) (q1 q2 : Option Addr) (cap1 cap2 : Nat) (hne : seq1 ≠ seq2) {W0 w : World} {K : Know} {L : List Res} (h : St W0 w K L) :
  Calls Try.prog 10 #[.agg #[.int .i64 base1, .int .i64 leader1, .bool app1, .bool txn1, .bool ctl1, .int .i64 last1, .int .i64 first1, .int .i64 maxt1, .int .i64 prod1, .int .i64 epoch1, .int .i64 seq1, .slice q1 l1.length cap1], .agg #[.int .i64 base1, .int .i64 leader1, .bool app1, .bool txn1, .bool ctl1, .int .i64 last1, .int .i64 first1, .int .i64 maxt1, .int .i64 prod1, .int .i64 epoch1, .int .i64 seq2, .slice q2 l2.length cap2]] w fun en w' => en = .returned (.bool false) ∧ St W0 w' K L := by
 obtain ⟨hb, hhb⟩ : ∃ b, w.heap.size = b := ⟨_, rfl⟩
 have h1 := (h.allocRaw #[.int .i64 base1, .int .i64 leader1, .bool app1, .bool txn1, .bool ctl1, .int .i64 last1, .int .i64 first1, .int .i64 maxt1, .int .i64 prod1, .int .i64 epoch1, .int .i64 seq1, .slice q1 l1.length cap1] 39).allocRaw #[.int .i64 base1, .int .i64 leader1, .bool app1, .bool txn1, .bool ctl1, .int .i64 last1, .int .i64 first1, .int .i64 maxt1, .int .i64 prod1, .int .i64 epoch1, .int .i64 seq2, .slice q2 l2.length cap2] 39
 rw [World.size_alloc, hhb] at h1
 obtain ⟨hc, hhc⟩ : ∃ b, hb + 1 = b := ⟨_, rfl⟩
 rw [hhc] at h1
 obtain ⟨b0, b1, b2, b3, b4, b5, b6, b7, b8, b9, b10, b11, fb0, fb1, fb2, fb3, fb4, fb5, fb6, fb7, fb8, fb9, fb10, fb11⟩ := raw12 (b := hc) h1
 obtain ⟨a0, a1, a2, a3, a4, a5, a6, a7, a8, a9, a10, a11, fa0, fa1, fa2, fa3, fa4, fa5, fa6, fa7, fa8, fa9, fa10, fa11⟩ := raw12 (b := hb) h1.p1
 have H := Lib.hid h1
 have g1 : (seq1 == seq2) = false := by simpa using hne
 have g2 : (seq1 != seq2) = true := by simp [bne, g1]
 clear h h1 hne fa0 fb0 fa1 fb1 fa2 fb2 fa3 fb3 fa4 fb4 fa5 fb5 fa6 fb6 fa7 fb7 fa8 fb8 fa9 fb9 fa10 fb10 fa11 fb11
 go_enter Try.func10, Try.ntmps10
 go_wp2
 go_ret
 exact ⟨rfl, H.out.drop.drop⟩
set_option maxHeartbeats 4000000 in
set_option maxRecDepth 100000 in
theorem ref11_ne11 (base1 : Int) (leader1 : Int) (app1 : Bool) (txn1 : Bool) (ctl1 : Bool) (last1 : Int) (first1 : Int) (maxt1 : Int) (prod1 : Int) (epoch1 : Int) (seq1 : Int) (l1 l2 : List (RecS × Value)) (q1 q2 : Option Addr) (cap1 cap2 : Nat) (hne : l1.length ≠ l2.length) {W0 w : World} {K : Know} {L : List Res} (h : St W0 w K L) :
  Calls Try.prog 10 #[.agg #[.int .i64 base1, .int .i64 leader1, .bool app1, .bool txn1, .bool ctl1, .int .i64 last1, .int .i64 first1, .int .i64 maxt1, .int .i64 prod1, .int .i64 epoch1, .int .i64 seq1, .slice q1 l1.length cap1], .agg #[.int .i64 base1, .int .i64 leader1, .bool app1, .bool txn1, .bool ctl1, .int .i64 last1, .int .i64 first1, .int .i64 maxt1, .int .i64 prod1, .int .i64 epoch1, .int .i64 seq1, .slice q2 l2.length cap2]] w fun en w' => en = .returned (.bool false) ∧ St W0 w' K L := by
 obtain ⟨hb, hhb⟩ : ∃ b, w.heap.size = b := ⟨_, rfl⟩
 have h1 := (h.allocRaw #[.int .i64 base1, .int .i64 leader1, .bool app1, .bool txn1, .bool ctl1, .int .i64 last1, .int .i64 first1, .int .i64 maxt1, .int .i64 prod1, .int .i64 epoch1, .int .i64 seq1, .slice q1 l1.length cap1] 39).allocRaw #[.int .i64 base1, .int .i64 leader1, .bool app1, .bool txn1, .bool ctl1, .int .i64 last1, .int .i64 first1, .int .i64 maxt1, .int .i64 prod1, .int .i64 epoch1, .int .i64 seq1, .slice q2 l2.length cap2] 39
 rw [World.size_alloc, hhb] at h1
 obtain ⟨hc, hhc⟩ : ∃ b, hb + 1 = b := ⟨_, rfl⟩
 rw [hhc] at h1
 obtain ⟨b0, b1, b2, b3, b4, b5, b6, b7, b8, b9, b10, b11, fb0, fb1, fb2, fb3, fb4, fb5, fb6, fb7, fb8, fb9, fb10, fb11⟩ := raw12 (b := hc) h1
 obtain ⟨a0, a1, a2, a3, a4, a5, a6, a7, a8, a9, a10, a11, fa0, fa1, fa2, fa3, fa4, fa5, fa6, fa7, fa8, fa9, fa10, fa11⟩ := raw12 (b := hb) h1.p1
 have H := Lib.hid h1
 have g1 : ((l1.length : Int) == (l2.length : Int)) = false := by rw [beq_eq_false_iff_ne]; omega
 have g2 : ((l1.length : Int) != (l2.length : Int)) = true := by simp [bne, g1]
 have g3 : ¬ ((l1.length : Int) = (l2.length : Int)) := by omega
 clear h h1 hne fa0 fb0 fa1 fb1 fa2 fb2 fa3 fb3 fa4 fb4 fa5 fb5 fa6 fb6 fa7 fb7 fa8 fb8 fa9 fb9 fa10 fb10 fa11 fb11
 go_enter Try.func10, Try.ntmps10
 go_wp2
 go_ret
 exact ⟨rfl, H.out.drop.drop⟩
theorem ref11_sameG (base1 : Int) (leader1 : Int) (app1 : Bool) (txn1 : Bool) (ctl1 : Bool) (last1 : Int) (first1 : Int) (maxt1 : Int) (prod1 : Int) (epoch1 : Int) (seq1 : Int) (base2 : Int) (leader2 : Int) (app2 : Bool) (txn2 : Bool) (ctl2 : Bool) (last2 : Int) (first2 : Int) (maxt2 : Int) (prod2 : Int) (epoch2 : Int) (seq2 : Int) (l1 l2 : List (RecS × Value)) (q1 q2 : Option Addr) (cap1 cap2 : Nat) (hn : l1.length ≤ 1000000) (r : Bool) (hr : decide ((⟨base1, leader1, app1, txn1, ctl1, last1, first1, maxt1, prod1, epoch1, seq1, l1.map (·.1)⟩ : BatS) = (⟨base2, leader2, app2, txn2, ctl2, last2, first2, maxt2, prod2, epoch2, seq2, l2.map (·.1)⟩ : BatS)) = r) (hf1 : ∀ x ∈ l1, x.1.hdrs.length ≤ 9223372036854775807) (hf2 : ∀ x ∈ l2, x.1.hdrs.length ≤ 9223372036854775807) {W0 w : World} {K : Know} {L : List Res} (hk1 : K.has (Know.recs (.slice q1 l1.length cap1) l1)) (hk2 : K.has (Know.recs (.slice q2 l2.length cap2) l2)) (h : St W0 w K L) :
   Calls Try.prog 10 #[.agg #[.int .i64 base1, .int .i64 leader1, .bool app1, .bool txn1, .bool ctl1, .int .i64 last1, .int .i64 first1, .int .i64 maxt1, .int .i64 prod1, .int .i64 epoch1, .int .i64 seq1, .slice q1 l1.length cap1], .agg #[.int .i64 base2, .int .i64 leader2, .bool app2, .bool txn2, .bool ctl2, .int .i64 last2, .int .i64 first2, .int .i64 maxt2, .int .i64 prod2, .int .i64 epoch2, .int .i64 seq2, .slice q2 l2.length cap2]] w fun en w' => en = .returned (.bool r) ∧ St W0 w' K L := by
 by_cases h0 : base1 = base2
 rotate_left
 · obtain rfl : r = false := batS_ne (by intro hh; injection hh; contradiction) hr
   exact ref11_ne0 base1 base2 leader1 leader2 app1 app2 txn1 txn2 ctl1 ctl2 last1 last2 first1 first2 maxt1 maxt2 prod1 prod2 epoch1 epoch2 seq1 seq2 l1 l2 q1 q2 cap1 cap2 h0 h
 subst h0
 by_cases h1 : leader1 = leader2
 rotate_left
 · obtain rfl : r = false := batS_ne (by intro hh; injection hh; contradiction) hr
   exact ref11_ne1 base1 leader1 leader2 app1 app2 txn1 txn2 ctl1 ctl2 last1 last2 first1 first2 maxt1 maxt2 prod1 prod2 epoch1 epoch2 seq1 seq2 l1 l2 q1 q2 cap1 cap2 h1 h
 subst h1
 by_cases h2 : app1 = app2
 rotate_left
 · obtain rfl : r = false := batS_ne (by intro hh; injection hh; contradiction) hr
   exact ref11_ne2 base1 leader1 app1 app2 txn1 txn2 ctl1 ctl2 last1 last2 first1 first2 maxt1 maxt2 prod1 prod2 epoch1 epoch2 seq1 seq2 l1 l2 q1 q2 cap1 cap2 h2 h
 subst h2
 by_cases h3 : txn1 = txn2
 rotate_left
 · obtain rfl : r = false := batS_ne (by intro hh; injection hh; contradiction) hr
   exact ref11_ne3 base1 leader1 app1 txn1 txn2 ctl1 ctl2 last1 last2 first1 first2 maxt1 maxt2 prod1 prod2 epoch1 epoch2 seq1 seq2 l1 l2 q1 q2 cap1 cap2 h3 h
 subst h3
 by_cases h4 : ctl1 = ctl2
 rotate_left
 · obtain rfl : r = false := batS_ne (by intro hh; injection hh; contradiction) hr
   exact ref11_ne4 base1 leader1 app1 txn1 ctl1 ctl2 last1 last2 first1 first2 maxt1 maxt2 prod1 prod2 epoch1 epoch2 seq1 seq2 l1 l2 q1 q2 cap1 cap2 h4 h
 subst h4
 by_cases h5 : last1 = last2
 rotate_left
 · obtain rfl : r = false := batS_ne (by intro hh; injection hh; contradiction) hr
   exact ref11_ne5 base1 leader1 app1 txn1 ctl1 last1 last2 first1 first2 maxt1 maxt2 prod1 prod2 epoch1 epoch2 seq1 seq2 l1 l2 q1 q2 cap1 cap2 h5 h
 subst h5
 by_cases h6 : first1 = first2
 rotate_left
 · obtain rfl : r = false := batS_ne (by intro hh; injection hh; contradiction) hr
   exact ref11_ne6 base1 leader1 app1 txn1 ctl1 last1 first1 first2 maxt1 maxt2 prod1 prod2 epoch1 epoch2 seq1 seq2 l1 l2 q1 q2 cap1 cap2 h6 h
 subst h6
 by_cases h7 : maxt1 = maxt2
 rotate_left
 · obtain rfl : r = false := batS_ne (by intro hh; injection hh; contradiction) hr
   exact ref11_ne7 base1 leader1 app1 txn1 ctl1 last1 first1 maxt1 maxt2 prod1 prod2 epoch1 epoch2 seq1 seq2 l1 l2 q1 q2 cap1 cap2 h7 h
 subst h7
 by_cases h8 : prod1 = prod2
 rotate_left
 · obtain rfl : r = false := batS_ne (by intro hh; injection hh; contradiction) hr
   exact ref11_ne8 base1 leader1 app1 txn1 ctl1 last1 first1 maxt1 prod1 prod2 epoch1 epoch2 seq1 seq2 l1 l2 q1 q2 cap1 cap2 h8 h
 subst h8
 by_cases h9 : epoch1 = epoch2
 rotate_left
 · obtain rfl : r = false := batS_ne (by intro hh; injection hh; contradiction) hr
   exact ref11_ne9 base1 leader1 app1 txn1 ctl1 last1 first1 maxt1 prod1 epoch1 epoch2 seq1 seq2 l1 l2 q1 q2 cap1 cap2 h9 h
 subst h9
 by_cases h10 : seq1 = seq2
 rotate_left
 · obtain rfl : r = false := batS_ne (by intro hh; injection hh; contradiction) hr
   exact ref11_ne10 base1 leader1 app1 txn1 ctl1 last1 first1 maxt1 prod1 epoch1 seq1 seq2 l1 l2 q1 q2 cap1 cap2 h10 h
 subst h10
 by_cases h11 : l1.length = l2.length
 rotate_left
 · obtain rfl : r = false := batS_ne (batS_recs _ _ _ _ _ _ _ _ _ _ _ _ _ _ _ _ _ _ _ _ _ _ _ _ (map_len_ne _ _ h11)) hr
   exact ref11_ne11 base1 leader1 app1 txn1 ctl1 last1 first1 maxt1 prod1 epoch1 seq1 l1 l2 q1 q2 cap1 cap2 h11 h
 exact ref11_sameL base1 leader1 app1 txn1 ctl1 last1 first1 maxt1 prod1 epoch1 seq1 l1 l2 q1 q2 cap1 cap2 hn h11 r hr hf1 hf2 hk1 hk2 h
theorem ref11_sameB (x y : BatS) (l1 l2 : List (RecS × Value)) (q1 q2 : Option Addr) (cap1 cap2 : Nat) (hn : l1.length ≤ 1000000) (hx : l1.map (·.1) = x.recs) (hy : l2.map (·.1) = y.recs) (r : Bool) (hr : decide (x = y) = r) (hf1 : ∀ x ∈ l1, x.1.hdrs.length ≤ 9223372036854775807) (hf2 : ∀ x ∈ l2, x.1.hdrs.length ≤ 9223372036854775807) {W0 w : World} {K : Know} {L : List Res} (hk1 : K.has (Know.recs (.slice q1 l1.length cap1) l1)) (hk2 : K.has (Know.recs (.slice q2 l2.length cap2) l2)) (h : St W0 w K L) :
  Calls Try.prog 10 #[.agg #[.int .i64 x.base, .int .i64 x.leader, .bool x.app, .bool x.txn, .bool x.ctl, .int .i64 x.last, .int .i64 x.first, .int .i64 x.maxt, .int .i64 x.prod, .int .i64 x.epoch, .int .i64 x.seq, .slice q1 l1.length cap1], .agg #[.int .i64 y.base, .int .i64 y.leader, .bool y.app, .bool y.txn, .bool y.ctl, .int .i64 y.last, .int .i64 y.first, .int .i64 y.maxt, .int .i64 y.prod, .int .i64 y.epoch, .int .i64 y.seq, .slice q2 l2.length cap2]] w fun en w' => en = .returned (.bool r) ∧ St W0 w' K L :=
 ref11_sameG x.base x.leader x.app x.txn x.ctl x.last x.first x.maxt x.prod x.epoch x.seq y.base y.leader y.app y.txn y.ctl y.last y.first y.maxt y.prod y.epoch y.seq l1 l2 q1 q2 cap1 cap2 hn r (by rw [hx, hy]; exact hr) hf1 hf2 hk1 hk2 h
set_option maxHeartbeats 6000000 in
set_option maxRecDepth 100000 in
theorem ref11_rowsR (l1 l2 : List BatR) (q1 q2 : Option Addr) (cap1 cap2 : Nat) (r : Bool) (hr : decide (l1.map BatR.b = l2.map BatR.b) = r) (hn : l1.length ≤ 4398046511104) (hf1 : ∀ x ∈ l1, EqR x) (hf2 : ∀ x ∈ l2, EqR x) {W0 w : World} {K : Know} {L : List Res} (hk1 : K.has (Know.bats (.slice q1 l1.length cap1) l1)) (hk2 : K.has (Know.bats (.slice q2 l2.length cap2) l2)) (h : St W0 w K L) :
   Calls Try.prog 36 #[.slice q1 l1.length cap1, .slice q2 l2.length cap2] w fun en w' => en = .returned (.bool r) ∧ St W0 w' K L := by
 have H := Lib.hid h
 have HK1 := Lib.hid hk1
 have HK2 := Lib.hid hk2
 have HF1 := Lib.hid hf1
 have HF2 := Lib.hid hf2
 have hni : (l1.length : Int) ≤ 4398046511104 := by omega
 clear h hk1 hk2 hf1 hf2 hn
 by_cases hlen : l1.length = l2.length
 rotate_left
 · have hr2 : r = false := by rw [← hr]; exact decide_eq_false (gmap_len_ne _ _ _ hlen)
   have g1 : ((l1.length : Int) == (l2.length : Int)) = false := by rw [beq_eq_false_iff_ne]; omega
   have g2 : ((l1.length : Int) != (l2.length : Int)) = true := by simp [bne, g1]
   have g3 : ¬ ((l1.length : Int) = (l2.length : Int)) := by omega
   subst hr2
   clear hlen hr
   go_enter Try.func36, Try.ntmps36
   go_wp2
   go_ret
   exact ⟨rfl, H.out⟩
 have HLEN := Lib.hid hlen
 have HR := Lib.hid hr
 have g1 : ((l1.length : Int) == (l2.length : Int)) = true := by rw [hlen]; exact beq_self_eq_true _
 have g2 : ((l1.length : Int) != (l2.length : Int)) = false := by simp [bne, g1]
 clear hr hlen
 go_enter Try.func36, Try.ntmps36
 go_wp2
 clear g1 g2
 go_loopw [5] (fun iv wr => ∃ k : Nat, k ≤ l1.length ∧ iv = .int .i64 k ∧ Hid ((l1.map BatR.b).take k = (l2.map BatR.b).take k) ∧ St W0 wr K L) (fun iv _ => l1.length - (intOf iv).toNat)
 case atStart => exact ⟨0, Nat.zero_le _, rfl, Lib.hid (by simp), H.out⟩
 case round =>
   obtain ⟨k, hkl, rfl, heq, hst⟩ := hrel
   clear H
   have H := Lib.hid hst
   clear hst
   by_cases hlt : k < l1.length
   · have hlt2 : k < l2.length := by have := HLEN.out; omega
     obtain ⟨bk1, off1, hqq1⟩ := bats_at HK1.out H.out (by omega)
     subst hqq1
     obtain ⟨z1, hx1⟩ : ∃ x, l1[k] = x := ⟨_, rfl⟩
     have hmem1 : z1 ∈ l1 := hx1 ▸ List.getElem_mem _
     have XE1 := Lib.hid (HF1.out z1 hmem1)
     have XK1 := Lib.hid (bats_recs HK1.out hmem1)
     have HX1 := Lib.hid (show (l1[k]).b = z1.b by rw [hx1])
     have HXX1 := Lib.hid hx1
     clear hmem1 hx1
     obtain ⟨bk2, off2, hqq2⟩ := bats_at HK2.out H.out (by omega)
     subst hqq2
     obtain ⟨z2, hx2⟩ : ∃ x, l2[k] = x := ⟨_, rfl⟩
     have hmem2 : z2 ∈ l2 := hx2 ▸ List.getElem_mem _
     have XE2 := Lib.hid (HF2.out z2 hmem2)
     have XK2 := Lib.hid (bats_recs HK2.out hmem2)
     have HX2 := Lib.hid (show (l2[k]).b = z2.b by rw [hx2])
     have HXX2 := Lib.hid hx2
     clear hmem2 hx2
     have hkn : (k : Int) < (l1.length : Int) := by omega
     have hkn2 : (k : Int) < (l2.length : Int) := by omega
     have NX := Lib.hid (show z1.b ≠ z2.b → l1.map BatR.b ≠ l2.map BatR.b from gmap_ne_of_get _ l1 l2 k hlt hlt2 _ _ HX1.out HX2.out)
     have NT := Lib.hid (show z1.b = z2.b → (l1.map BatR.b).take (k + 1) = (l2.map BatR.b).take (k + 1) from fun e => by rw [gmap_take_succ _ l1 k hlt _ HX1.out, gmap_take_succ _ l2 k hlt2 _ HX2.out, heq.out, e])
     have HKP := Lib.hid (show ∀ w', St W0 w' K L → (w'.cell? ⟨bk1, off1 + k * 12, none⟩ = some (.int .i64 z1.b.base) ∧ w'.cell? ⟨bk1, off1 + k * 12 + 1, none⟩ = some (.int .i64 z1.b.leader) ∧ w'.cell? ⟨bk1, off1 + k * 12 + 2, none⟩ = some (.bool z1.b.app) ∧ w'.cell? ⟨bk1, off1 + k * 12 + 3, none⟩ = some (.bool z1.b.txn) ∧ w'.cell? ⟨bk1, off1 + k * 12 + 4, none⟩ = some (.bool z1.b.ctl) ∧ w'.cell? ⟨bk1, off1 + k * 12 + 5, none⟩ = some (.int .i64 z1.b.last) ∧ w'.cell? ⟨bk1, off1 + k * 12 + 6, none⟩ = some (.int .i64 z1.b.first) ∧ w'.cell? ⟨bk1, off1 + k * 12 + 7, none⟩ = some (.int .i64 z1.b.maxt) ∧ w'.cell? ⟨bk1, off1 + k * 12 + 8, none⟩ = some (.int .i64 z1.b.prod) ∧ w'.cell? ⟨bk1, off1 + k * 12 + 9, none⟩ = some (.int .i64 z1.b.epoch) ∧ w'.cell? ⟨bk1, off1 + k * 12 + 10, none⟩ = some (.int .i64 z1.b.seq) ∧ w'.cell? ⟨bk1, off1 + k * 12 + 11, none⟩ = some (.slice z1.q z1.l.length z1.cap) ∧ w'.cell? ⟨bk2, off2 + k * 12, none⟩ = some (.int .i64 z2.b.base) ∧ w'.cell? ⟨bk2, off2 + k * 12 + 1, none⟩ = some (.int .i64 z2.b.leader) ∧ w'.cell? ⟨bk2, off2 + k * 12 + 2, none⟩ = some (.bool z2.b.app) ∧ w'.cell? ⟨bk2, off2 + k * 12 + 3, none⟩ = some (.bool z2.b.txn) ∧ w'.cell? ⟨bk2, off2 + k * 12 + 4, none⟩ = some (.bool z2.b.ctl) ∧ w'.cell? ⟨bk2, off2 + k * 12 + 5, none⟩ = some (.int .i64 z2.b.last) ∧ w'.cell? ⟨bk2, off2 + k * 12 + 6, none⟩ = some (.int .i64 z2.b.first) ∧ w'.cell? ⟨bk2, off2 + k * 12 + 7, none⟩ = some (.int .i64 z2.b.maxt) ∧ w'.cell? ⟨bk2, off2 + k * 12 + 8, none⟩ = some (.int .i64 z2.b.prod) ∧ w'.cell? ⟨bk2, off2 + k * 12 + 9, none⟩ = some (.int .i64 z2.b.epoch) ∧ w'.cell? ⟨bk2, off2 + k * 12 + 10, none⟩ = some (.int .i64 z2.b.seq) ∧ w'.cell? ⟨bk2, off2 + k * 12 + 11, none⟩ = some (.slice z2.q z2.l.length z2.cap)) from fun w' hs => by
       obtain ⟨a0, a1, a2, a3, a4, a5, a6, a7, a8, a9, a10, a11⟩ := bats_cell HK1.out hs k hlt _ HXX1.out
       obtain ⟨d0, d1, d2, d3, d4, d5, d6, d7, d8, d9, d10, d11⟩ := bats_cell HK2.out hs k hlt2 _ HXX2.out
       exact ⟨a0, a1, a2, a3, a4, a5, a6, a7, a8, a9, a10, a11, d0, d1, d2, d3, d4, d5, d6, d7, d8, d9, d10, d11⟩)
     clear HX1 HX2 HXX1 HXX2
     by_cases hxy : z1.b = z2.b
     · have E1 := Lib.hid (decide_eq_true hxy)
       have NT2 := Lib.hid (NT.out hxy)
       clear hxy NX NT
       go_wp2
       have hs := H.out.drew
       refine wp_region_held_drew (S := fun w' => w'.cell? ⟨bk1, off1 + k * 12, none⟩ = some (.int .i64 z1.b.base) ∧ w'.cell? ⟨bk1, off1 + k * 12 + 1, none⟩ = some (.int .i64 z1.b.leader) ∧ w'.cell? ⟨bk1, off1 + k * 12 + 2, none⟩ = some (.bool z1.b.app) ∧ w'.cell? ⟨bk1, off1 + k * 12 + 3, none⟩ = some (.bool z1.b.txn) ∧ w'.cell? ⟨bk1, off1 + k * 12 + 4, none⟩ = some (.bool z1.b.ctl) ∧ w'.cell? ⟨bk1, off1 + k * 12 + 5, none⟩ = some (.int .i64 z1.b.last) ∧ w'.cell? ⟨bk1, off1 + k * 12 + 6, none⟩ = some (.int .i64 z1.b.first) ∧ w'.cell? ⟨bk1, off1 + k * 12 + 7, none⟩ = some (.int .i64 z1.b.maxt) ∧ w'.cell? ⟨bk1, off1 + k * 12 + 8, none⟩ = some (.int .i64 z1.b.prod) ∧ w'.cell? ⟨bk1, off1 + k * 12 + 9, none⟩ = some (.int .i64 z1.b.epoch) ∧ w'.cell? ⟨bk1, off1 + k * 12 + 10, none⟩ = some (.int .i64 z1.b.seq) ∧ w'.cell? ⟨bk1, off1 + k * 12 + 11, none⟩ = some (.slice z1.q z1.l.length z1.cap) ∧ w'.cell? ⟨bk2, off2 + k * 12, none⟩ = some (.int .i64 z2.b.base) ∧ w'.cell? ⟨bk2, off2 + k * 12 + 1, none⟩ = some (.int .i64 z2.b.leader) ∧ w'.cell? ⟨bk2, off2 + k * 12 + 2, none⟩ = some (.bool z2.b.app) ∧ w'.cell? ⟨bk2, off2 + k * 12 + 3, none⟩ = some (.bool z2.b.txn) ∧ w'.cell? ⟨bk2, off2 + k * 12 + 4, none⟩ = some (.bool z2.b.ctl) ∧ w'.cell? ⟨bk2, off2 + k * 12 + 5, none⟩ = some (.int .i64 z2.b.last) ∧ w'.cell? ⟨bk2, off2 + k * 12 + 6, none⟩ = some (.int .i64 z2.b.first) ∧ w'.cell? ⟨bk2, off2 + k * 12 + 7, none⟩ = some (.int .i64 z2.b.maxt) ∧ w'.cell? ⟨bk2, off2 + k * 12 + 8, none⟩ = some (.int .i64 z2.b.prod) ∧ w'.cell? ⟨bk2, off2 + k * 12 + 9, none⟩ = some (.int .i64 z2.b.epoch) ∧ w'.cell? ⟨bk2, off2 + k * 12 + 10, none⟩ = some (.int .i64 z2.b.seq) ∧ w'.cell? ⟨bk2, off2 + k * 12 + 11, none⟩ = some (.slice z2.q z2.l.length z2.cap)) (by kernel_rfl) (HKP.out _ hs) (fun hHeld => ?_)
       refine tQ 0 ⟨some 17, .move (.tmp 0), 34, "ref.go:193", #[], none⟩ ?_; simp only [Act.put, sA, sB, sC]
       refine tQ 1 ⟨some 18, .move (.tmp 5), 3, "ref.go:193", #[], none⟩ ?_; simp only [Act.put, sA, sB, sC]
       refine tQ 2 ⟨some 19, .indexAddr 34 (.tmp 17) (.tmp 18), 0, "ref.go:193", #[.mk 0 .data, .mk 1 .data], none⟩ ?_; simp only [Act.put, sA, sB, sC]
       refine tQ 3 ⟨some 20, .load 39 (.tmp 19), 39, "ref.go:193", #[.mk 2 .data], none⟩ ?_; simp only [Act.put, sA, sB, sC]
       refine tQ 4 ⟨some 21, .move (.tmp 1), 34, "ref.go:193", #[], none⟩ ?_; simp only [Act.put, sA, sB, sC]
       refine tQ 5 ⟨some 22, .move (.tmp 5), 3, "ref.go:193", #[], none⟩ ?_; simp only [Act.put, sA, sB, sC]
       refine tQ 6 ⟨some 23, .indexAddr 34 (.tmp 21) (.tmp 22), 0, "ref.go:193", #[.mk 4 .data, .mk 5 .data], none⟩ ?_; simp only [Act.put, sA, sB, sC]
       refine tQ 7 ⟨some 24, .load 39 (.tmp 23), 39, "ref.go:193", #[.mk 6 .data], none⟩ ?_; simp only [Act.put, sA, sB, sC]
       refine wpAnyH_ready (rs := [8]) (by kernel_rfl) (by simp) (AllReadyH.cons (o := ⟨some 25, .call { callee := .value (.func 10), args := #[.tmp 20, .tmp 24], argTypes := #[39, 39] }, 4, "ref.go:193", #[.mk 3 .data, .mk 7 .data], none⟩) rfl (fun KK hK => ?_) AllReadyH.nil)
       · go_simp
         go_at_call 10
         with_reducible refine (ref11_sameB z1.b z2.b z1.l z2.l _ _ _ _ XE1.out.len XE1.out.recs XE2.out.recs _ E1.out XE1.out.hdrs XE2.out.hdrs XK1.out XK2.out hs).mono ?_
         rintro e wq ⟨rfl, hs⟩
         refine hK.out _ _ (HKP.out _ hs) (fun hHeld => ?_)
         clear hK KK
         try simp only [Act.put, sA, sB, sC]
         refine tQ 9 ⟨some 26, .unOp UnOp.not 4 (.tmp 25), 4, "ref.go:193", #[.mk 8 .data], none⟩ ?_; simp only [Act.put, sA, sB, sC]
         refine wpAnyH_done (by kernel_rfl) ?_ _
         clear hHeld
         go_wp2_with fail
         go_roundw
         case rel => exact ⟨k + 1, hlt, by go_num, NT2, hs⟩
         case measure => first | (simp [intOf]; done) | (simp [intOf]; omega)
     · have E1 := Lib.hid (decide_eq_false hxy)
       have HRF := Lib.hid (show r = false by rw [← HR.out]; exact decide_eq_false (NX.out hxy))
       clear hxy NX NT
       go_wp2
       have hs := H.out.drew
       refine wp_region_held_drew (S := fun w' => w'.cell? ⟨bk1, off1 + k * 12, none⟩ = some (.int .i64 z1.b.base) ∧ w'.cell? ⟨bk1, off1 + k * 12 + 1, none⟩ = some (.int .i64 z1.b.leader) ∧ w'.cell? ⟨bk1, off1 + k * 12 + 2, none⟩ = some (.bool z1.b.app) ∧ w'.cell? ⟨bk1, off1 + k * 12 + 3, none⟩ = some (.bool z1.b.txn) ∧ w'.cell? ⟨bk1, off1 + k * 12 + 4, none⟩ = some (.bool z1.b.ctl) ∧ w'.cell? ⟨bk1, off1 + k * 12 + 5, none⟩ = some (.int .i64 z1.b.last) ∧ w'.cell? ⟨bk1, off1 + k * 12 + 6, none⟩ = some (.int .i64 z1.b.first) ∧ w'.cell? ⟨bk1, off1 + k * 12 + 7, none⟩ = some (.int .i64 z1.b.maxt) ∧ w'.cell? ⟨bk1, off1 + k * 12 + 8, none⟩ = some (.int .i64 z1.b.prod) ∧ w'.cell? ⟨bk1, off1 + k * 12 + 9, none⟩ = some (.int .i64 z1.b.epoch) ∧ w'.cell? ⟨bk1, off1 + k * 12 + 10, none⟩ = some (.int .i64 z1.b.seq) ∧ w'.cell? ⟨bk1, off1 + k * 12 + 11, none⟩ = some (.slice z1.q z1.l.length z1.cap) ∧ w'.cell? ⟨bk2, off2 + k * 12, none⟩ = some (.int .i64 z2.b.base) ∧ w'.cell? ⟨bk2, off2 + k * 12 + 1, none⟩ = some (.int .i64 z2.b.leader) ∧ w'.cell? ⟨bk2, off2 + k * 12 + 2, none⟩ = some (.bool z2.b.app) ∧ w'.cell? ⟨bk2, off2 + k * 12 + 3, none⟩ = some (.bool z2.b.txn) ∧ w'.cell? ⟨bk2, off2 + k * 12 + 4, none⟩ = some (.bool z2.b.ctl) ∧ w'.cell? ⟨bk2, off2 + k * 12 + 5, none⟩ = some (.int .i64 z2.b.last) ∧ w'.cell? ⟨bk2, off2 + k * 12 + 6, none⟩ = some (.int .i64 z2.b.first) ∧ w'.cell? ⟨bk2, off2 + k * 12 + 7, none⟩ = some (.int .i64 z2.b.maxt) ∧ w'.cell? ⟨bk2, off2 + k * 12 + 8, none⟩ = some (.int .i64 z2.b.prod) ∧ w'.cell? ⟨bk2, off2 + k * 12 + 9, none⟩ = some (.int .i64 z2.b.epoch) ∧ w'.cell? ⟨bk2, off2 + k * 12 + 10, none⟩ = some (.int .i64 z2.b.seq) ∧ w'.cell? ⟨bk2, off2 + k * 12 + 11, none⟩ = some (.slice z2.q z2.l.length z2.cap)) (by kernel_rfl) (HKP.out _ hs) (fun hHeld => ?_)
       refine tQ 0 ⟨some 17, .move (.tmp 0), 34, "ref.go:193", #[], none⟩ ?_; simp only [Act.put, sA, sB, sC]
       refine tQ 1 ⟨some 18, .move (.tmp 5), 3, "ref.go:193", #[], none⟩ ?_; simp only [Act.put, sA, sB, sC]
       refine tQ 2 ⟨some 19, .indexAddr 34 (.tmp 17) (.tmp 18), 0, "ref.go:193", #[.mk 0 .data, .mk 1 .data], none⟩ ?_; simp only [Act.put, sA, sB, sC]
       refine tQ 3 ⟨some 20, .load 39 (.tmp 19), 39, "ref.go:193", #[.mk 2 .data], none⟩ ?_; simp only [Act.put, sA, sB, sC]
       refine tQ 4 ⟨some 21, .move (.tmp 1), 34, "ref.go:193", #[], none⟩ ?_; simp only [Act.put, sA, sB, sC]
       refine tQ 5 ⟨some 22, .move (.tmp 5), 3, "ref.go:193", #[], none⟩ ?_; simp only [Act.put, sA, sB, sC]
       refine tQ 6 ⟨some 23, .indexAddr 34 (.tmp 21) (.tmp 22), 0, "ref.go:193", #[.mk 4 .data, .mk 5 .data], none⟩ ?_; simp only [Act.put, sA, sB, sC]
       refine tQ 7 ⟨some 24, .load 39 (.tmp 23), 39, "ref.go:193", #[.mk 6 .data], none⟩ ?_; simp only [Act.put, sA, sB, sC]
       refine wpAnyH_ready (rs := [8]) (by kernel_rfl) (by simp) (AllReadyH.cons (o := ⟨some 25, .call { callee := .value (.func 10), args := #[.tmp 20, .tmp 24], argTypes := #[39, 39] }, 4, "ref.go:193", #[.mk 3 .data, .mk 7 .data], none⟩) rfl (fun KK hK => ?_) AllReadyH.nil)
       · go_simp
         go_at_call 10
         with_reducible refine (ref11_sameB z1.b z2.b z1.l z2.l _ _ _ _ XE1.out.len XE1.out.recs XE2.out.recs _ E1.out XE1.out.hdrs XE2.out.hdrs XK1.out XK2.out hs).mono ?_
         rintro e wq ⟨rfl, hs⟩
         refine hK.out _ _ (HKP.out _ hs) (fun hHeld => ?_)
         clear hK KK
         try simp only [Act.put, sA, sB, sC]
         refine tQ 9 ⟨some 26, .unOp UnOp.not 4 (.tmp 25), 4, "ref.go:193", #[.mk 8 .data], none⟩ ?_; simp only [Act.put, sA, sB, sC]
         refine wpAnyH_done (by kernel_rfl) ?_ _
         clear hHeld
         go_wp2_with fail
         go_ret
         exact ⟨ret_bool HRF.out.symm, hs⟩
   · obtain rfl : k = l1.length := by omega
     have hall : l1.map BatR.b = l2.map BatR.b := by
       have h := heq.out
       rwa [List.take_of_length_le (by simp), List.take_of_length_le (by have := HLEN.out; simp; omega)] at h
     have HRT := Lib.hid (show r = true by rw [← HR.out, hall]; exact decide_eq_true rfl)
     clear hall
     go_wp2
     go_ret
     exact ⟨ret_bool HRT.out.symm, H.out⟩

end Go.Proofs.Ytnnnglklgofabaa
