/- A text. -/
import Derived.Test.YtmpehoebgifmnaaGJournalPuts2
import Derived.Test.YtmpehoebgifmnaaGJournalPuts3
import Derived.Test.YtmpehoebgifmnaaGJournalPuts1
import Derived.Test.YtmpehoebgifmnaaGrow
import Derived.Shelf.SlIter.Nil
import Derived.Shelf.SortM.Plain
import Derived.Shelf.SortM.SortNone
import Derived.Ground.GgzProg
import Derived.Ground.SlgmProg
import Derived.Sort.KeysCollected
import Derived.Test.YtmpehoebgifmnaaJn1
import Derived.Test.YtmpehoebgifmnaaRef04
import Derived.Test.YtmpehoebgifmnaaS1
import Derived.Test.YtmpehoebgifmnaaVBack
import Derived.Test.YtmpehoebgifmnaaBlobP
import Derived.Deep.RegionHeld3
import Derived.BigQuiet
import Derived.Test.YtmpehoebgifmnaaSep
import Derived.Deep.MidRow
import Derived.Deep.DeepCutAuto
import Derived.RegionTactic
import Derived.Test.YtmpehoebgifmnaaRef06
/- A text. -/
namespace Go.Proofs.Ytmpehoebgifmnaa
open Go.RowKit

set_option maxHeartbeats 2000000 in
set_option maxRecDepth 100000 in
theorem ref14_encode (p e t s u st : Int) (l : List (TopS × Value)) (q : Option Addr) (cap : Nat) (he : ValS.err ⟨p, e, t, s, l.map (·.1), u, st⟩ = 0) (hR : ValS.R ⟨p, e, t, s, l.map (·.1), u, st⟩) (hf : FewT l) {W0 w : World} {K : Know} {L : List Res} (hk : K.has (Know.tops (.slice q l.length cap) l)) (h : St W0 w K L) :
  Calls Try.prog 20 #[.agg #[.int .i64 p, .int .i64 e, .int .i64 t, .int .i64 s, .slice q l.length cap, .int .i64 u, .int .i64 st]] w fun en w' => en = .returned (.string (bb (ValS.enc ⟨p, e, t, s, l.map (·.1), u, st⟩))) ∧ St W0 w' K L := by
 have HK := Lib.hid hk; have HF := Lib.hid hf; obtain ⟨vb, hvb⟩ : ∃ b, w.heap.size = b := ⟨_, rfl⟩; have h1 := h.allocRaw #[.int .i64 p, .int .i64 e, .int .i64 t, .int .i64 s, .slice q l.length cap, .int .i64 u, .int .i64 st] 37; rw [hvb] at h1; have c0 := (h1).rawCell 0; have c1 := (h1).rawCell 1; have c2 := (h1).rawCell 2; have c3 := (h1).rawCell 3; have c4 := (h1).rawCell 4; have c5 := (h1).rawCell 5; have c6 := (h1).rawCell 6; simp at c0 c1 c2 c3 c4 c5 c6; have H := Lib.hid h1; have hp := ValS.ok_parts _ he; have hft := fit_of_rise l hf hp.2.2.2.2; obtain ⟨r1, r2, r3, r4, r5, r6⟩ := hR; simp only at r1 r2 r3 r4 r5 r6; have HFT := Lib.hid hft; obtain ⟨g0, hg0⟩ : ∃ y, beBytes 0 2 = y := ⟨_, rfl⟩; obtain ⟨g1, hg1⟩ : ∃ y, beBytes p 8 = y := ⟨_, rfl⟩; obtain ⟨g2, hg2⟩ : ∃ y, beBytes e 2 = y := ⟨_, rfl⟩; obtain ⟨g3, hg3⟩ : ∃ y, beBytes t 4 = y := ⟨_, rfl⟩; obtain ⟨g4, hg4⟩ : ∃ y, beBytes s 1 = y := ⟨_, rfl⟩; obtain ⟨g5, hg5⟩ : ∃ y, encTs (l.map (·.1)) = y := ⟨_, rfl⟩; obtain ⟨g6, hg6⟩ : ∃ y, beBytes u 8 = y := ⟨_, rfl⟩; obtain ⟨g7, hg7⟩ : ∃ y, beBytes st 8 = y := ⟨_, rfl⟩; obtain ⟨y1, hy1⟩ : ∃ y, g0 ++ g1 = y := ⟨_, rfl⟩; obtain ⟨y2, hy2⟩ : ∃ y, y1 ++ g2 = y := ⟨_, rfl⟩; obtain ⟨y3, hy3⟩ : ∃ y, y2 ++ g3 = y := ⟨_, rfl⟩; obtain ⟨y4, hy4⟩ : ∃ y, y3 ++ g4 = y := ⟨_, rfl⟩; obtain ⟨y5, hy5⟩ : ∃ y, y4 ++ g5 = y := ⟨_, rfl⟩; obtain ⟨y6, hy6⟩ : ∃ y, y5 ++ g6 = y := ⟨_, rfl⟩; obtain ⟨y7, hy7⟩ : ∃ y, y6 ++ g7 = y := ⟨_, rfl⟩; have hye : y7 = ValS.enc ⟨p, e, t, s, l.map (·.1), u, st⟩ := by rw [← hy7, ← hy6, ← hy5, ← hy4, ← hy3, ← hy2, ← hy1, ← hg0, ← hg1, ← hg2, ← hg3, ← hg4, ← hg5, ← hg6, ← hg7]; rfl
 have hTl : g5.length ≤ 5000000000000 := by rw [← hg5, ← preT_all]; have h1 := preT_le _ hft _ (Nat.le_refl _); have h2 := hft.1; omega
 have hn0 : g0.length = 2 := by rw [← hg0]; exact beBytes_length _ _
 have Z0 := Lib.hid hg0; have N0 := Lib.hid (show -9223372036854775808 ≤ (0 : Int) ∧ (0 : Int) < 9223372036854775808 by decide); have hn1 : g1.length = 8 := by rw [← hg1]; exact beBytes_length _ _
 have Z1 := Lib.hid hg1; have N1 := Lib.hid (show -9223372036854775808 ≤ (p : Int) ∧ (p : Int) < 9223372036854775808 by assumption); have hn2 : g2.length = 2 := by rw [← hg2]; exact beBytes_length _ _
 have Z2 := Lib.hid hg2; have N2 := Lib.hid (show -9223372036854775808 ≤ (e : Int) ∧ (e : Int) < 9223372036854775808 by assumption); have hn3 : g3.length = 4 := by rw [← hg3]; exact beBytes_length _ _
 have Z3 := Lib.hid hg3; have N3 := Lib.hid (show -9223372036854775808 ≤ (t : Int) ∧ (t : Int) < 9223372036854775808 by assumption); have hn4 : g4.length = 1 := by rw [← hg4]; exact beBytes_length _ _
 have Z4 := Lib.hid hg4; have N4 := Lib.hid (show -9223372036854775808 ≤ (s : Int) ∧ (s : Int) < 9223372036854775808 by assumption); have Z5 := Lib.hid hg5; have hn6 : g6.length = 8 := by rw [← hg6]; exact beBytes_length _ _
 have Z6 := Lib.hid hg6; have N6 := Lib.hid (show -9223372036854775808 ≤ (u : Int) ∧ (u : Int) < 9223372036854775808 by assumption); have hn7 : g7.length = 8 := by rw [← hg7]; exact beBytes_length _ _
 have Z7 := Lib.hid hg7; have N7 := Lib.hid (show -9223372036854775808 ≤ (st : Int) ∧ (st : Int) < 9223372036854775808 by assumption); have hl1 := congrArg List.length hy1; rw [List.length_append] at hl1; have hcat1 : bb g0 ++ bb g1 = bb y1 := by rw [← hy1]; exact bb_append _ _
 have hl2 := congrArg List.length hy2; rw [List.length_append] at hl2; have hcat2 : bb y1 ++ bb g2 = bb y2 := by rw [← hy2]; exact bb_append _ _
 have hl3 := congrArg List.length hy3; rw [List.length_append] at hl3; have hcat3 : bb y2 ++ bb g3 = bb y3 := by rw [← hy3]; exact bb_append _ _
 have hl4 := congrArg List.length hy4; rw [List.length_append] at hl4; have hcat4 : bb y3 ++ bb g4 = bb y4 := by rw [← hy4]; exact bb_append _ _
 have hl5 := congrArg List.length hy5; rw [List.length_append] at hl5; have hcat5 : bb y4 ++ bb g5 = bb y5 := by rw [← hy5]; exact bb_append _ _
 have hl6 := congrArg List.length hy6; rw [List.length_append] at hl6; have hcat6 : bb y5 ++ bb g6 = bb y6 := by rw [← hy6]; exact bb_append _ _
 have hl7 := congrArg List.length hy7; rw [List.length_append] at hl7; have hcat7 : bb y6 ++ bb g7 = bb y7 := by rw [← hy7]; exact bb_append _ _
 have hgg : ¬ (9223372036854775807 < g0.length + g1.length) ∧ ¬ (9223372036854775807 < y1.length + g2.length) ∧ ¬ (9223372036854775807 < y2.length + g3.length) ∧ ¬ (9223372036854775807 < y3.length + g4.length) ∧ ¬ (9223372036854775807 < y4.length + g5.length) ∧ ¬ (9223372036854775807 < y5.length + g6.length) ∧ ¬ (9223372036854775807 < y6.length + g7.length) := by omega
 obtain ⟨q1, q2, q3, q4, q5, q6, q7⟩ := hgg; rw [← hye]; have HKP := Lib.hid (show ∀ w', St W0 w' K (.raw vb #[.int .i64 p, .int .i64 e, .int .i64 t, .int .i64 s, .slice q l.length cap, .int .i64 u, .int .i64 st] 37 :: L) → (w'.cell? ⟨vb, 0, none⟩ = some (.int .i64 p) ∧ w'.cell? ⟨vb, 1, none⟩ = some (.int .i64 e) ∧ w'.cell? ⟨vb, 2, none⟩ = some (.int .i64 t) ∧ w'.cell? ⟨vb, 3, none⟩ = some (.int .i64 s) ∧ w'.cell? ⟨vb, 4, none⟩ = some (.slice q l.length cap) ∧ w'.cell? ⟨vb, 5, none⟩ = some (.int .i64 u) ∧ w'.cell? ⟨vb, 6, none⟩ = some (.int .i64 st)) from fun w' hs => ⟨hs.rawCell 0, hs.rawCell 1, hs.rawCell 2, hs.rawCell 3, hs.rawCell 4, hs.rawCell 5, hs.rawCell 6⟩); clear h h1 hk hf he hp hft r1 r2 r3 r4 r5 r6 hTl hye hg0 hn0 hg1 hn1 hg2 hn2 hg3 hn3 hg4 hn4 hg5 hg6 hn6 hg7 hn7 hy1 hl1 hy2 hl2 hy3 hl3 hy4 hl4 hy5 hl5 hy6 hl6 hy7 hl7; go_enter Try.func20, Try.ntmps20; go_wp2; have hs := H.out.drew; refine wp_region_held_drew (S := fun w' => w'.cell? ⟨vb, 0, none⟩ = some (.int .i64 p) ∧ w'.cell? ⟨vb, 1, none⟩ = some (.int .i64 e) ∧ w'.cell? ⟨vb, 2, none⟩ = some (.int .i64 t) ∧ w'.cell? ⟨vb, 3, none⟩ = some (.int .i64 s) ∧ w'.cell? ⟨vb, 4, none⟩ = some (.slice q l.length cap) ∧ w'.cell? ⟨vb, 5, none⟩ = some (.int .i64 u) ∧ w'.cell? ⟨vb, 6, none⟩ = some (.int .i64 st)) (by kernel_rfl) (HKP.out _ hs) (fun hHeld => ?_); refine tQ 1 ⟨some 4, .fieldAddr 37 (.tmp 1) 0, 0, _, _, none⟩ ?_; simp only [Act.put, sA, sB, sC]; refine tQ 2 ⟨some 5, .load 3 (.tmp 4), 3, _, _, none⟩ ?_; simp only [Act.put, sA, sB, sC]; refine tQ 5 ⟨some 8, .fieldAddr 37 (.tmp 1) 1, 0, _, _, none⟩ ?_; simp only [Act.put, sA, sB, sC]; refine tQ 6 ⟨some 9, .load 3 (.tmp 8), 3, _, _, none⟩ ?_; simp only [Act.put, sA, sB, sC]; refine tQ 9 ⟨some 12, .fieldAddr 37 (.tmp 1) 2, 0, _, _, none⟩ ?_; simp only [Act.put, sA, sB, sC]; refine tQ 10 ⟨some 13, .load 3 (.tmp 12), 3, _, _, none⟩ ?_; simp only [Act.put, sA, sB, sC]; refine tQ 13 ⟨some 16, .fieldAddr 37 (.tmp 1) 3, 0, _, _, none⟩ ?_; simp only [Act.put, sA, sB, sC]; refine tQ 14 ⟨some 17, .load 3 (.tmp 16), 3, _, _, none⟩ ?_; simp only [Act.put, sA, sB, sC]; refine tQ 17 ⟨some 20, .fieldAddr 37 (.tmp 1) 4, 0, _, _, none⟩ ?_; simp only [Act.put, sA, sB, sC]; refine tQ 18 ⟨some 21, .load 35 (.tmp 20), 35, _, _, none⟩ ?_; simp only [Act.put, sA, sB, sC]; refine tQ 21 ⟨some 24, .fieldAddr 37 (.tmp 1) 5, 0, _, _, none⟩ ?_; simp only [Act.put, sA, sB, sC]; refine tQ 22 ⟨some 25, .load 3 (.tmp 24), 3, _, _, none⟩ ?_; simp only [Act.put, sA, sB, sC]; refine tQ 25 ⟨some 28, .fieldAddr 37 (.tmp 1) 6, 0, _, _, none⟩ ?_; simp only [Act.put, sA, sB, sC]; refine tQ 26 ⟨some 29, .load 3 (.tmp 28), 3, _, _, none⟩ ?_; simp only [Act.put, sA, sB, sC]; refine wpAnyH_ready (rs := [0]) (by kernel_rfl) (by simp) (AllReadyH.cons (o := ⟨some 3, .call { callee := .value (.func 41), args := #[.const (Value.int IntKind.i64 0), .const (Value.int IntKind.i64 2)], argTypes := #[3, 3] }, 9, _, _, none⟩) rfl (fun KK hK => ?_) AllReadyH.nil); go_simp; go_at_call 41; with_reducible refine (sr_bytesV 0 2 2 rfl (by decide) g0 Z0.out N0.out hs).mono ?_; rintro e wq ⟨rfl, hs⟩; refine hK.out _ _ (HKP.out _ hs) (fun hHeld => ?_); clear hK KK
 try simp only [Act.put, sA, sB, sC]
 refine wpAnyH_ready (rs := [3]) (by kernel_rfl) (by simp) (AllReadyH.cons (o := ⟨some 6, .call { callee := .value (.func 41), args := #[.tmp 5, .const (Value.int IntKind.i64 8)], argTypes := #[3, 3] }, 9, _, _, none⟩) rfl (fun KK hK => ?_) AllReadyH.nil); go_simp; go_at_call 41; with_reducible refine (sr_bytesV p 8 8 rfl (by decide) g1 Z1.out N1.out hs).mono ?_; rintro e wq ⟨rfl, hs⟩; refine hK.out _ _ (HKP.out _ hs) (fun hHeld => ?_); clear hK KK
 try simp only [Act.put, sA, sB, sC]
 refine tQ 4 ⟨some 7, .binOp .add 9 (.tmp 3) (.tmp 6) 9, 9, _, _, none⟩ ?_; simp only [Act.put, sA, sB, sC]; refine wpAnyH_ready (rs := [7]) (by kernel_rfl) (by simp) (AllReadyH.cons (o := ⟨some 10, .call { callee := .value (.func 41), args := #[.tmp 9, .const (Value.int IntKind.i64 2)], argTypes := #[3, 3] }, 9, _, _, none⟩) rfl (fun KK hK => ?_) AllReadyH.nil); go_simp; go_at_call 41; with_reducible refine (sr_bytesV e 2 2 rfl (by decide) g2 Z2.out N2.out hs).mono ?_; rintro e wq ⟨rfl, hs⟩; refine hK.out _ _ (HKP.out _ hs) (fun hHeld => ?_); clear hK KK
 try simp only [Act.put, sA, sB, sC]
 refine tQ 8 ⟨some 11, .binOp .add 9 (.tmp 7) (.tmp 10) 9, 9, _, _, none⟩ ?_; simp only [Act.put, sA, sB, sC]; refine wpAnyH_ready (rs := [11]) (by kernel_rfl) (by simp) (AllReadyH.cons (o := ⟨some 14, .call { callee := .value (.func 41), args := #[.tmp 13, .const (Value.int IntKind.i64 4)], argTypes := #[3, 3] }, 9, _, _, none⟩) rfl (fun KK hK => ?_) AllReadyH.nil); go_simp; go_at_call 41; with_reducible refine (sr_bytesV t 4 4 rfl (by decide) g3 Z3.out N3.out hs).mono ?_; rintro e wq ⟨rfl, hs⟩; refine hK.out _ _ (HKP.out _ hs) (fun hHeld => ?_); clear hK KK
 try simp only [Act.put, sA, sB, sC]
 refine tQ 12 ⟨some 15, .binOp .add 9 (.tmp 11) (.tmp 14) 9, 9, _, _, none⟩ ?_; simp only [Act.put, sA, sB, sC]; refine wpAnyH_ready (rs := [15]) (by kernel_rfl) (by simp) (AllReadyH.cons (o := ⟨some 18, .call { callee := .value (.func 41), args := #[.tmp 17, .const (Value.int IntKind.i64 1)], argTypes := #[3, 3] }, 9, _, _, none⟩) rfl (fun KK hK => ?_) AllReadyH.nil); go_simp; go_at_call 41; with_reducible refine (sr_bytesV s 1 1 rfl (by decide) g4 Z4.out N4.out hs).mono ?_; rintro e wq ⟨rfl, hs⟩; refine hK.out _ _ (HKP.out _ hs) (fun hHeld => ?_); clear hK KK
 try simp only [Act.put, sA, sB, sC]
 refine tQ 16 ⟨some 19, .binOp .add 9 (.tmp 15) (.tmp 18) 9, 9, _, _, none⟩ ?_; simp only [Act.put, sA, sB, sC]; refine wpAnyH_ready (rs := [19]) (by kernel_rfl) (by simp) (AllReadyH.cons (o := ⟨some 22, .call { callee := .value (.func 42), args := #[.tmp 21], argTypes := #[35] }, 9, _, _, none⟩) rfl (fun KK hK => ?_) AllReadyH.nil); go_simp; go_at_call 42; with_reducible refine (ref14_topics l _ _ g5 Z5.out HFT.out HK.out hs).mono ?_; rintro e wq ⟨rfl, hs⟩; refine hK.out _ _ (HKP.out _ hs) (fun hHeld => ?_); clear hK KK
 try simp only [Act.put, sA, sB, sC]
 refine tQ 20 ⟨some 23, .binOp .add 9 (.tmp 19) (.tmp 22) 9, 9, _, _, none⟩ ?_; simp only [Act.put, sA, sB, sC]; refine wpAnyH_ready (rs := [23]) (by kernel_rfl) (by simp) (AllReadyH.cons (o := ⟨some 26, .call { callee := .value (.func 41), args := #[.tmp 25, .const (Value.int IntKind.i64 8)], argTypes := #[3, 3] }, 9, _, _, none⟩) rfl (fun KK hK => ?_) AllReadyH.nil); go_simp; go_at_call 41; with_reducible refine (sr_bytesV u 8 8 rfl (by decide) g6 Z6.out N6.out hs).mono ?_; rintro e wq ⟨rfl, hs⟩; refine hK.out _ _ (HKP.out _ hs) (fun hHeld => ?_); clear hK KK
 try simp only [Act.put, sA, sB, sC]
 refine tQ 24 ⟨some 27, .binOp .add 9 (.tmp 23) (.tmp 26) 9, 9, _, _, none⟩ ?_; simp only [Act.put, sA, sB, sC]; refine wpAnyH_ready (rs := [27]) (by kernel_rfl) (by simp) (AllReadyH.cons (o := ⟨some 30, .call { callee := .value (.func 41), args := #[.tmp 29, .const (Value.int IntKind.i64 8)], argTypes := #[3, 3] }, 9, _, _, none⟩) rfl (fun KK hK => ?_) AllReadyH.nil); go_simp; go_at_call 41; with_reducible refine (sr_bytesV st 8 8 rfl (by decide) g7 Z7.out N7.out hs).mono ?_; rintro e wq ⟨rfl, hs⟩; refine hK.out _ _ (HKP.out _ hs) (fun hHeld => ?_); clear hK KK
 try simp only [Act.put, sA, sB, sC]
 refine tQ 28 ⟨some 31, .binOp .add 9 (.tmp 27) (.tmp 30) 9, 9, _, _, none⟩ ?_; simp only [Act.put, sA, sB, sC]; refine tQ 29 ⟨some 2, .assign (.tmp 31), 9, _, _, none⟩ ?_; simp only [Act.put, sA, sB, sC]; refine wpAnyH_done (by kernel_rfl) ?_ _; go_wp2_with fail; go_ret; exact ⟨rfl, hs.drop⟩
theorem ref14_rise0 (q : Option Addr) (cap : Nat) (r : Bool) (hr : tRise (([] : List (TopS × Value)).map (·.1)) = r) (hf : FewT []) {W0 w : World} {K : Know} {L : List Res} (hk : K.has (Know.tops (.slice q 0 cap) [])) (h : St W0 w K L) :
 Calls Try.prog 40 #[.slice q 0 cap] w fun en w' => en = .returned (.bool r) ∧ St W0 w' K L := ref14_rise [] q cap r hr hf hk h

theorem zq2 {p : Prop} (h : p := by clear hrg; go_enter Try.func19, Try.ntmps19; go_wp2; go_ret; exact ⟨rfl, H.out.drop⟩) : p := h
set_option maxHeartbeats 2000000 in
set_option maxRecDepth 100000 in
theorem rchk_11 (p e t s u st : Int) (l : List (TopS × Value)) (q : Option Addr) (cap : Nat) (hrg : (decide (0 ≤ p) && (decide (0 ≤ e) && (decide (e ≤ 32767) && (decide (0 ≤ t) && (decide (t ≤ 2147483647) && (decide (0 ≤ u) && decide (-1 ≤ st))))))) = false) (hf : FewT l) {W0 w : World} {K : Know} {L : List Res} (hk : K.has (Know.tops (.slice q l.length cap) l)) (h : St W0 w K L) :
   Calls Try.prog 19 #[.agg #[.int .i64 p, .int .i64 e, .int .i64 t, .int .i64 s, .slice q l.length cap, .int .i64 u, .int .i64 st]] w fun en w' => en = .returned (.int .i64 11) ∧ St W0 w' K L := by
 have HK := Lib.hid hk; have HF := Lib.hid hf; obtain ⟨vb, hvb⟩ : ∃ b, w.heap.size = b := ⟨_, rfl⟩; have h1 := h.allocRaw #[.int .i64 p, .int .i64 e, .int .i64 t, .int .i64 s, .slice q l.length cap, .int .i64 u, .int .i64 st] 37; rw [hvb] at h1; have c0 := (h1).rawCell 0; have c1 := (h1).rawCell 1; have c2 := (h1).rawCell 2; have c3 := (h1).rawCell 3; have c4 := (h1).rawCell 4; have c5 := (h1).rawCell 5; have c6 := (h1).rawCell 6; simp at c0 c1 c2 c3 c4 c5 c6; have H := Lib.hid h1; clear h h1 hk hf
 by_cases h0 : 0 ≤ p
 · have k0 : ¬ p < 0 := by omega
   by_cases h1 : 0 ≤ e
   · have k1 : ¬ e < 0 := by omega
     by_cases h2 : e ≤ 32767
     · have k2 : ¬ 32767 < e := by omega
       by_cases h3 : 0 ≤ t
       · have k3 : ¬ t < 0 := by omega
         by_cases h4 : t ≤ 2147483647
         · have k4 : ¬ 2147483647 < t := by omega
           by_cases h5 : 0 ≤ u
           · have k5 : ¬ u < 0 := by omega
             by_cases h6 : -1 ≤ st
             · have k6 : ¬ st < -1 := by omega
               exact absurd hrg (by simp [h0, h1, h2, h3, h4, h5, h6])
             · as_aux_lemma =>
               have k6 : st < -1 := by omega
               exact zq2
           · as_aux_lemma =>
             have k5 : u < 0 := by omega
             exact zq2
         · as_aux_lemma =>
           have k4 : 2147483647 < t := by omega
           exact zq2
       · as_aux_lemma =>
         have k3 : t < 0 := by omega
         exact zq2
     · as_aux_lemma =>
       have k2 : 32767 < e := by omega
       exact zq2
   · as_aux_lemma =>
     have k1 : e < 0 := by omega
     exact zq2
 · as_aux_lemma =>
   have k0 : p < 0 := by omega
   exact zq2

set_option maxHeartbeats 2000000 in
set_option maxRecDepth 100000 in
theorem rchk_12 (p e t s u st : Int) (l : List (TopS × Value)) (q : Option Addr) (cap : Nat) (h0 : 0 ≤ p) (h1 : 0 ≤ e) (h2 : e ≤ 32767) (h3 : 0 ≤ t) (h4 : t ≤ 2147483647) (h5 : 0 ≤ u) (h6 : -1 ≤ st) (hs : s < 0 ∨ 7 ≤ s) (hf : FewT l) {W0 w : World} {K : Know} {L : List Res} (hk : K.has (Know.tops (.slice q l.length cap) l)) (h : St W0 w K L) :
   Calls Try.prog 19 #[.agg #[.int .i64 p, .int .i64 e, .int .i64 t, .int .i64 s, .slice q l.length cap, .int .i64 u, .int .i64 st]] w fun en w' => en = .returned (.int .i64 12) ∧ St W0 w' K L := by
 have HK := Lib.hid hk; have HF := Lib.hid hf; obtain ⟨vb, hvb⟩ : ∃ b, w.heap.size = b := ⟨_, rfl⟩; have h1 := h.allocRaw #[.int .i64 p, .int .i64 e, .int .i64 t, .int .i64 s, .slice q l.length cap, .int .i64 u, .int .i64 st] 37; rw [hvb] at h1; have c0 := (h1).rawCell 0; have c1 := (h1).rawCell 1; have c2 := (h1).rawCell 2; have c3 := (h1).rawCell 3; have c4 := (h1).rawCell 4; have c5 := (h1).rawCell 5; have c6 := (h1).rawCell 6; simp at c0 c1 c2 c3 c4 c5 c6; have H := Lib.hid h1; clear h h1 hk hf; have k0 : ¬ p < 0 := by omega
 have k1 : ¬ e < 0 := by omega
 have k2 : ¬ 32767 < e := by omega
 have k3 : ¬ t < 0 := by omega
 have k4 : ¬ 2147483647 < t := by omega
 have k5 : ¬ u < 0 := by omega
 have k6 : ¬ st < -1 := by omega
 rcases hs with hs | hs
 · as_aux_lemma =>
   go_enter Try.func19, Try.ntmps19; go_wp2; go_ret; exact ⟨rfl, H.out.drop⟩
 · as_aux_lemma =>
   have s1 : ¬ s < 0 := by omega
   have s2 : 6 < s := by omega
   go_enter Try.func19, Try.ntmps19; go_wp2; go_ret; exact ⟨rfl, H.out.drop⟩

set_option maxHeartbeats 2000000 in
set_option maxRecDepth 100000 in
theorem rchk_0f (p e t s u st : Int) (l : List (TopS × Value)) (q : Option Addr) (cap : Nat) (h0 : 0 ≤ p) (h1 : 0 ≤ e) (h2 : e ≤ 32767) (h3 : 0 ≤ t) (h4 : t ≤ 2147483647) (h5 : 0 ≤ u) (h6 : -1 ≤ st) (hs : s = 0) (hem : ¬ l = []) (hf : FewT l) {W0 w : World} {K : Know} {L : List Res} (hk : K.has (Know.tops (.slice q l.length cap) l)) (h : St W0 w K L) :
  Calls Try.prog 19 #[.agg #[.int .i64 p, .int .i64 e, .int .i64 t, .int .i64 s, .slice q l.length cap, .int .i64 u, .int .i64 st]] w fun en w' => en = .returned (.int .i64 10) ∧ St W0 w' K L := by
 have HK := Lib.hid hk; have HF := Lib.hid hf; obtain ⟨vb, hvb⟩ : ∃ b, w.heap.size = b := ⟨_, rfl⟩; have h1 := h.allocRaw #[.int .i64 p, .int .i64 e, .int .i64 t, .int .i64 s, .slice q l.length cap, .int .i64 u, .int .i64 st] 37; rw [hvb] at h1; have c0 := (h1).rawCell 0; have c1 := (h1).rawCell 1; have c2 := (h1).rawCell 2; have c3 := (h1).rawCell 3; have c4 := (h1).rawCell 4; have c5 := (h1).rawCell 5; have c6 := (h1).rawCell 6; simp at c0 c1 c2 c3 c4 c5 c6; have H := Lib.hid h1; clear h h1 hk hf; have k0 : ¬ p < 0 := by omega
 have k1 : ¬ e < 0 := by omega
 have k2 : ¬ 32767 < e := by omega
 have k3 : ¬ t < 0 := by omega
 have k4 : ¬ 2147483647 < t := by omega
 have k5 : ¬ u < 0 := by omega
 have k6 : ¬ st < -1 := by omega
 subst hs; have hl0 : ((l.length : Int) == 0) = false := by rw [beq_eq_false_iff_ne]; intro h; exact hem (List.length_eq_zero_iff.1 (by omega))
 have hl1 : 0 < l.length := List.length_pos_iff.2 hem; have hl2 : decide ((0 : Int) < (l.length : Int)) = true := decide_eq_true (by omega); go_enter Try.func19, Try.ntmps19; go_wp2; go_ret; exact ⟨rfl, H.out.drop⟩

set_option maxHeartbeats 2000000 in
set_option maxRecDepth 100000 in
theorem rchk_0e0 (p e t s u st : Int) (q : Option Addr) (cap : Nat) (h0 : 0 ≤ p) (h1 : 0 ≤ e) (h2 : e ≤ 32767) (h3 : 0 ≤ t) (h4 : t ≤ 2147483647) (h5 : 0 ≤ u) (h6 : -1 ≤ st) (hs : s = 0) (hb : ¬ st = -1) (hf : FewT []) {W0 w : World} {K : Know} {L : List Res} (hk : K.has (Know.tops (.slice q 0 cap) [])) (h : St W0 w K L) :
  Calls Try.prog 19 #[.agg #[.int .i64 p, .int .i64 e, .int .i64 t, .int .i64 s, .slice q 0 cap, .int .i64 u, .int .i64 st]] w fun en w' => en = .returned (.int .i64 10) ∧ St W0 w' K L := by
 have HK := Lib.hid hk; have HF := Lib.hid hf; obtain ⟨vb, hvb⟩ : ∃ b, w.heap.size = b := ⟨_, rfl⟩; have h1 := h.allocRaw #[.int .i64 p, .int .i64 e, .int .i64 t, .int .i64 s, .slice q 0 cap, .int .i64 u, .int .i64 st] 37; rw [hvb] at h1; have c0 := (h1).rawCell 0; have c1 := (h1).rawCell 1; have c2 := (h1).rawCell 2; have c3 := (h1).rawCell 3; have c4 := (h1).rawCell 4; have c5 := (h1).rawCell 5; have c6 := (h1).rawCell 6; simp at c0 c1 c2 c3 c4 c5 c6; have H := Lib.hid h1; clear h h1 hk hf; have k0 : ¬ p < 0 := by omega
 have k1 : ¬ e < 0 := by omega
 have k2 : ¬ 32767 < e := by omega
 have k3 : ¬ t < 0 := by omega
 have k4 : ¬ 2147483647 < t := by omega
 have k5 : ¬ u < 0 := by omega
 have k6 : ¬ st < -1 := by omega
 subst hs; have sb : (st == -1) = false := by rw [beq_eq_false_iff_ne]; exact hb
 have sb2 : (st != -1) = true := by simp [bne, sb]
 go_enter Try.func19, Try.ntmps19; go_wp2; go_ret; exact ⟨rfl, H.out.drop⟩

set_option maxHeartbeats 2000000 in
set_option maxRecDepth 100000 in
theorem rchk_0e1 (p e t s u st : Int) (q : Option Addr) (cap : Nat) (h0 : 0 ≤ p) (h1 : 0 ≤ e) (h2 : e ≤ 32767) (h3 : 0 ≤ t) (h4 : t ≤ 2147483647) (h5 : 0 ≤ u) (h6 : -1 ≤ st) (hs : s = 0) (hb : st = -1) (htr : tRise (([] : List (TopS × Value)).map (·.1)) = true) (hf : FewT []) {W0 w : World} {K : Know} {L : List Res} (hk : K.has (Know.tops (.slice q 0 cap) [])) (h : St W0 w K L) :
  Calls Try.prog 19 #[.agg #[.int .i64 p, .int .i64 e, .int .i64 t, .int .i64 s, .slice q 0 cap, .int .i64 u, .int .i64 st]] w fun en w' => en = .returned (.int .i64 0) ∧ St W0 w' K L := by
 have HK := Lib.hid hk; have HF := Lib.hid hf; obtain ⟨vb, hvb⟩ : ∃ b, w.heap.size = b := ⟨_, rfl⟩; have h1 := h.allocRaw #[.int .i64 p, .int .i64 e, .int .i64 t, .int .i64 s, .slice q 0 cap, .int .i64 u, .int .i64 st] 37; rw [hvb] at h1; have c0 := (h1).rawCell 0; have c1 := (h1).rawCell 1; have c2 := (h1).rawCell 2; have c3 := (h1).rawCell 3; have c4 := (h1).rawCell 4; have c5 := (h1).rawCell 5; have c6 := (h1).rawCell 6; simp at c0 c1 c2 c3 c4 c5 c6; have H := Lib.hid h1; clear h h1 hk hf; have k0 : ¬ p < 0 := by omega
 have k1 : ¬ e < 0 := by omega
 have k2 : ¬ 32767 < e := by omega
 have k3 : ¬ t < 0 := by omega
 have k4 : ¬ 2147483647 < t := by omega
 have k5 : ¬ u < 0 := by omega
 have k6 : ¬ st < -1 := by omega
 have HTR := Lib.hid htr; clear htr; subst hs; subst hb; go_enter Try.func19, Try.ntmps19; go_wp2_with (go_at_call 40; (with_reducible refine (ref14_rise0 _ _ true HTR.out HF.out HK.out H.out).mono ?_); rintro e_ wn ⟨rfl, h⟩; replace H := Lib.hid h; clear h); go_ret; exact ⟨rfl, H.out.drop⟩

set_option maxHeartbeats 2000000 in
set_option maxRecDepth 100000 in
theorem rchk_me (p e t s u st : Int) (q : Option Addr) (cap : Nat) (h0 : 0 ≤ p) (h1 : 0 ≤ e) (h2 : e ≤ 32767) (h3 : 0 ≤ t) (h4 : t ≤ 2147483647) (h5 : 0 ≤ u) (h6 : -1 ≤ st) (hs : 1 ≤ s) (hs2 : s ≤ 3) (hf : FewT []) {W0 w : World} {K : Know} {L : List Res} (hk : K.has (Know.tops (.slice q 0 cap) [])) (h : St W0 w K L) :
  Calls Try.prog 19 #[.agg #[.int .i64 p, .int .i64 e, .int .i64 t, .int .i64 s, .slice q 0 cap, .int .i64 u, .int .i64 st]] w fun en w' => en = .returned (.int .i64 10) ∧ St W0 w' K L := by
 have HK := Lib.hid hk; have HF := Lib.hid hf; obtain ⟨vb, hvb⟩ : ∃ b, w.heap.size = b := ⟨_, rfl⟩; have h1 := h.allocRaw #[.int .i64 p, .int .i64 e, .int .i64 t, .int .i64 s, .slice q 0 cap, .int .i64 u, .int .i64 st] 37; rw [hvb] at h1; have c0 := (h1).rawCell 0; have c1 := (h1).rawCell 1; have c2 := (h1).rawCell 2; have c3 := (h1).rawCell 3; have c4 := (h1).rawCell 4; have c5 := (h1).rawCell 5; have c6 := (h1).rawCell 6; simp at c0 c1 c2 c3 c4 c5 c6; have H := Lib.hid h1; clear h h1 hk hf; have k0 : ¬ p < 0 := by omega
 have k1 : ¬ e < 0 := by omega
 have k2 : ¬ 32767 < e := by omega
 have k3 : ¬ t < 0 := by omega
 have k4 : ¬ 2147483647 < t := by omega
 have k5 : ¬ u < 0 := by omega
 have k6 : ¬ st < -1 := by omega
 have s1 : ¬ s < 0 := by omega
 have s2 : ¬ 6 < s := by omega
 have s3 : 1 ≤ s := by omega
 have s4 : 0 < s := by omega
 have s5 : (s == 0) = false := by rw [beq_eq_false_iff_ne]; omega
 have s6 : s ≤ 3 := by omega
 go_enter Try.func19, Try.ntmps19; go_wp2; go_ret; exact ⟨rfl, H.out.drop⟩

set_option maxHeartbeats 2000000 in
set_option maxRecDepth 100000 in
theorem rchk_mf1 (p e t s u st : Int) (l : List (TopS × Value)) (q : Option Addr) (cap : Nat) (h0 : 0 ≤ p) (h1 : 0 ≤ e) (h2 : e ≤ 32767) (h3 : 0 ≤ t) (h4 : t ≤ 2147483647) (h5 : 0 ≤ u) (h6 : -1 ≤ st) (hs : 1 ≤ s) (hs2 : s ≤ 3) (hem : ¬ l = []) (hb : st = -1) (hf : FewT l) {W0 w : World} {K : Know} {L : List Res} (hk : K.has (Know.tops (.slice q l.length cap) l)) (h : St W0 w K L) :
  Calls Try.prog 19 #[.agg #[.int .i64 p, .int .i64 e, .int .i64 t, .int .i64 s, .slice q l.length cap, .int .i64 u, .int .i64 st]] w fun en w' => en = .returned (.int .i64 10) ∧ St W0 w' K L := by
 have HK := Lib.hid hk; have HF := Lib.hid hf; obtain ⟨vb, hvb⟩ : ∃ b, w.heap.size = b := ⟨_, rfl⟩; have h1 := h.allocRaw #[.int .i64 p, .int .i64 e, .int .i64 t, .int .i64 s, .slice q l.length cap, .int .i64 u, .int .i64 st] 37; rw [hvb] at h1; have c0 := (h1).rawCell 0; have c1 := (h1).rawCell 1; have c2 := (h1).rawCell 2; have c3 := (h1).rawCell 3; have c4 := (h1).rawCell 4; have c5 := (h1).rawCell 5; have c6 := (h1).rawCell 6; simp at c0 c1 c2 c3 c4 c5 c6; have H := Lib.hid h1; clear h h1 hk hf; have k0 : ¬ p < 0 := by omega
 have k1 : ¬ e < 0 := by omega
 have k2 : ¬ 32767 < e := by omega
 have k3 : ¬ t < 0 := by omega
 have k4 : ¬ 2147483647 < t := by omega
 have k5 : ¬ u < 0 := by omega
 have k6 : ¬ st < -1 := by omega
 have s1 : ¬ s < 0 := by omega
 have s2 : ¬ 6 < s := by omega
 have s3 : 1 ≤ s := by omega
 have s4 : 0 < s := by omega
 have s5 : (s == 0) = false := by rw [beq_eq_false_iff_ne]; omega
 have s6 : s ≤ 3 := by omega
 have hl0 : ((l.length : Int) == 0) = false := by rw [beq_eq_false_iff_ne]; intro h; exact hem (List.length_eq_zero_iff.1 (by omega))
 have hl1 : 0 < l.length := List.length_pos_iff.2 hem; have hl2 : decide ((0 : Int) < (l.length : Int)) = true := decide_eq_true (by omega); subst hb; go_enter Try.func19, Try.ntmps19; go_wp2; go_ret; exact ⟨rfl, H.out.drop⟩

set_option maxHeartbeats 2000000 in
set_option maxRecDepth 100000 in
theorem rchk_mft (p e t s u st : Int) (l : List (TopS × Value)) (q : Option Addr) (cap : Nat) (h0 : 0 ≤ p) (h1 : 0 ≤ e) (h2 : e ≤ 32767) (h3 : 0 ≤ t) (h4 : t ≤ 2147483647) (h5 : 0 ≤ u) (h6 : -1 ≤ st) (hs : 1 ≤ s) (hs2 : s ≤ 3) (hem : ¬ l = []) (hb : ¬ st = -1) (htr : tRise (l.map (·.1)) = true) (hf : FewT l) {W0 w : World} {K : Know} {L : List Res} (hk : K.has (Know.tops (.slice q l.length cap) l)) (h : St W0 w K L) :
  Calls Try.prog 19 #[.agg #[.int .i64 p, .int .i64 e, .int .i64 t, .int .i64 s, .slice q l.length cap, .int .i64 u, .int .i64 st]] w fun en w' => en = .returned (.int .i64 0) ∧ St W0 w' K L := by
 have HK := Lib.hid hk; have HF := Lib.hid hf; obtain ⟨vb, hvb⟩ : ∃ b, w.heap.size = b := ⟨_, rfl⟩; have h1 := h.allocRaw #[.int .i64 p, .int .i64 e, .int .i64 t, .int .i64 s, .slice q l.length cap, .int .i64 u, .int .i64 st] 37; rw [hvb] at h1; have c0 := (h1).rawCell 0; have c1 := (h1).rawCell 1; have c2 := (h1).rawCell 2; have c3 := (h1).rawCell 3; have c4 := (h1).rawCell 4; have c5 := (h1).rawCell 5; have c6 := (h1).rawCell 6; simp at c0 c1 c2 c3 c4 c5 c6; have H := Lib.hid h1; clear h h1 hk hf; have k0 : ¬ p < 0 := by omega
 have k1 : ¬ e < 0 := by omega
 have k2 : ¬ 32767 < e := by omega
 have k3 : ¬ t < 0 := by omega
 have k4 : ¬ 2147483647 < t := by omega
 have k5 : ¬ u < 0 := by omega
 have k6 : ¬ st < -1 := by omega
 have HTR := Lib.hid htr; clear htr; have s1 : ¬ s < 0 := by omega
 have s2 : ¬ 6 < s := by omega
 have s3 : 1 ≤ s := by omega
 have s4 : 0 < s := by omega
 have s5 : (s == 0) = false := by rw [beq_eq_false_iff_ne]; omega
 have s6 : s ≤ 3 := by omega
 have hl0 : ((l.length : Int) == 0) = false := by rw [beq_eq_false_iff_ne]; intro h; exact hem (List.length_eq_zero_iff.1 (by omega))
 have hl1 : 0 < l.length := List.length_pos_iff.2 hem; have hl2 : decide ((0 : Int) < (l.length : Int)) = true := decide_eq_true (by omega); have sb : (st == -1) = false := by rw [beq_eq_false_iff_ne]; exact hb
 have sb2 : (st != -1) = true := by simp [bne, sb]
 go_enter Try.func19, Try.ntmps19; go_wp2_with (go_at_call 40; (with_reducible refine (ref14_rise l _ _ true HTR.out HF.out HK.out H.out).mono ?_); rintro e_ wn ⟨rfl, h⟩; replace H := Lib.hid h; clear h); go_ret; exact ⟨rfl, H.out.drop⟩

set_option maxHeartbeats 2000000 in
set_option maxRecDepth 100000 in
theorem rchk_mfb (p e t s u st : Int) (l : List (TopS × Value)) (q : Option Addr) (cap : Nat) (h0 : 0 ≤ p) (h1 : 0 ≤ e) (h2 : e ≤ 32767) (h3 : 0 ≤ t) (h4 : t ≤ 2147483647) (h5 : 0 ≤ u) (h6 : -1 ≤ st) (hs : 1 ≤ s) (hs2 : s ≤ 3) (hem : ¬ l = []) (hb : ¬ st = -1) (htr : tRise (l.map (·.1)) = false) (hf : FewT l) {W0 w : World} {K : Know} {L : List Res} (hk : K.has (Know.tops (.slice q l.length cap) l)) (h : St W0 w K L) :
  Calls Try.prog 19 #[.agg #[.int .i64 p, .int .i64 e, .int .i64 t, .int .i64 s, .slice q l.length cap, .int .i64 u, .int .i64 st]] w fun en w' => en = .returned (.int .i64 13) ∧ St W0 w' K L := by
 have HK := Lib.hid hk; have HF := Lib.hid hf; obtain ⟨vb, hvb⟩ : ∃ b, w.heap.size = b := ⟨_, rfl⟩; have h1 := h.allocRaw #[.int .i64 p, .int .i64 e, .int .i64 t, .int .i64 s, .slice q l.length cap, .int .i64 u, .int .i64 st] 37; rw [hvb] at h1; have c0 := (h1).rawCell 0; have c1 := (h1).rawCell 1; have c2 := (h1).rawCell 2; have c3 := (h1).rawCell 3; have c4 := (h1).rawCell 4; have c5 := (h1).rawCell 5; have c6 := (h1).rawCell 6; simp at c0 c1 c2 c3 c4 c5 c6; have H := Lib.hid h1; clear h h1 hk hf; have k0 : ¬ p < 0 := by omega
 have k1 : ¬ e < 0 := by omega
 have k2 : ¬ 32767 < e := by omega
 have k3 : ¬ t < 0 := by omega
 have k4 : ¬ 2147483647 < t := by omega
 have k5 : ¬ u < 0 := by omega
 have k6 : ¬ st < -1 := by omega
 have HTR := Lib.hid htr; clear htr; have s1 : ¬ s < 0 := by omega
 have s2 : ¬ 6 < s := by omega
 have s3 : 1 ≤ s := by omega
 have s4 : 0 < s := by omega
 have s5 : (s == 0) = false := by rw [beq_eq_false_iff_ne]; omega
 have s6 : s ≤ 3 := by omega
 have hl0 : ((l.length : Int) == 0) = false := by rw [beq_eq_false_iff_ne]; intro h; exact hem (List.length_eq_zero_iff.1 (by omega))
 have hl1 : 0 < l.length := List.length_pos_iff.2 hem; have hl2 : decide ((0 : Int) < (l.length : Int)) = true := decide_eq_true (by omega); have sb : (st == -1) = false := by rw [beq_eq_false_iff_ne]; exact hb
 have sb2 : (st != -1) = true := by simp [bne, sb]
 go_enter Try.func19, Try.ntmps19; go_wp2_with (go_at_call 40; (with_reducible refine (ref14_rise l _ _ false HTR.out HF.out HK.out H.out).mono ?_); rintro e_ wn ⟨rfl, h⟩; replace H := Lib.hid h; clear h); go_ret; exact ⟨rfl, H.out.drop⟩

set_option maxHeartbeats 2000000 in
set_option maxRecDepth 100000 in
theorem rchk_hf (p e t s u st : Int) (l : List (TopS × Value)) (q : Option Addr) (cap : Nat) (h0 : 0 ≤ p) (h1 : 0 ≤ e) (h2 : e ≤ 32767) (h3 : 0 ≤ t) (h4 : t ≤ 2147483647) (h5 : 0 ≤ u) (h6 : -1 ≤ st) (hs : 4 ≤ s) (hs2 : s ≤ 6) (hem : ¬ l = []) (hf : FewT l) {W0 w : World} {K : Know} {L : List Res} (hk : K.has (Know.tops (.slice q l.length cap) l)) (h : St W0 w K L) :
  Calls Try.prog 19 #[.agg #[.int .i64 p, .int .i64 e, .int .i64 t, .int .i64 s, .slice q l.length cap, .int .i64 u, .int .i64 st]] w fun en w' => en = .returned (.int .i64 10) ∧ St W0 w' K L := by
 have HK := Lib.hid hk; have HF := Lib.hid hf; obtain ⟨vb, hvb⟩ : ∃ b, w.heap.size = b := ⟨_, rfl⟩; have h1 := h.allocRaw #[.int .i64 p, .int .i64 e, .int .i64 t, .int .i64 s, .slice q l.length cap, .int .i64 u, .int .i64 st] 37; rw [hvb] at h1; have c0 := (h1).rawCell 0; have c1 := (h1).rawCell 1; have c2 := (h1).rawCell 2; have c3 := (h1).rawCell 3; have c4 := (h1).rawCell 4; have c5 := (h1).rawCell 5; have c6 := (h1).rawCell 6; simp at c0 c1 c2 c3 c4 c5 c6; have H := Lib.hid h1; clear h h1 hk hf; have k0 : ¬ p < 0 := by omega
 have k1 : ¬ e < 0 := by omega
 have k2 : ¬ 32767 < e := by omega
 have k3 : ¬ t < 0 := by omega
 have k4 : ¬ 2147483647 < t := by omega
 have k5 : ¬ u < 0 := by omega
 have k6 : ¬ st < -1 := by omega
 have s1 : ¬ s < 0 := by omega
 have s2 : ¬ 6 < s := by omega
 have s3 : 1 ≤ s := by omega
 have s4 : 0 < s := by omega
 have s5 : (s == 0) = false := by rw [beq_eq_false_iff_ne]; omega
 have s6 : ¬ s ≤ 3 := by omega
 have hl0 : ((l.length : Int) == 0) = false := by rw [beq_eq_false_iff_ne]; intro h; exact hem (List.length_eq_zero_iff.1 (by omega))
 have hl1 : 0 < l.length := List.length_pos_iff.2 hem; have hl2 : decide ((0 : Int) < (l.length : Int)) = true := decide_eq_true (by omega); go_enter Try.func19, Try.ntmps19; go_wp2; go_ret; exact ⟨rfl, H.out.drop⟩

set_option maxHeartbeats 2000000 in
set_option maxRecDepth 100000 in
theorem rchk_he1 (p e t s u st : Int) (q : Option Addr) (cap : Nat) (h0 : 0 ≤ p) (h1 : 0 ≤ e) (h2 : e ≤ 32767) (h3 : 0 ≤ t) (h4 : t ≤ 2147483647) (h5 : 0 ≤ u) (h6 : -1 ≤ st) (hs : 4 ≤ s) (hs2 : s ≤ 6) (hb : st = -1) (hf : FewT []) {W0 w : World} {K : Know} {L : List Res} (hk : K.has (Know.tops (.slice q 0 cap) [])) (h : St W0 w K L) :
  Calls Try.prog 19 #[.agg #[.int .i64 p, .int .i64 e, .int .i64 t, .int .i64 s, .slice q 0 cap, .int .i64 u, .int .i64 st]] w fun en w' => en = .returned (.int .i64 10) ∧ St W0 w' K L := by
 have HK := Lib.hid hk; have HF := Lib.hid hf; obtain ⟨vb, hvb⟩ : ∃ b, w.heap.size = b := ⟨_, rfl⟩; have h1 := h.allocRaw #[.int .i64 p, .int .i64 e, .int .i64 t, .int .i64 s, .slice q 0 cap, .int .i64 u, .int .i64 st] 37; rw [hvb] at h1; have c0 := (h1).rawCell 0; have c1 := (h1).rawCell 1; have c2 := (h1).rawCell 2; have c3 := (h1).rawCell 3; have c4 := (h1).rawCell 4; have c5 := (h1).rawCell 5; have c6 := (h1).rawCell 6; simp at c0 c1 c2 c3 c4 c5 c6; have H := Lib.hid h1; clear h h1 hk hf; have k0 : ¬ p < 0 := by omega
 have k1 : ¬ e < 0 := by omega
 have k2 : ¬ 32767 < e := by omega
 have k3 : ¬ t < 0 := by omega
 have k4 : ¬ 2147483647 < t := by omega
 have k5 : ¬ u < 0 := by omega
 have k6 : ¬ st < -1 := by omega
 have s1 : ¬ s < 0 := by omega
 have s2 : ¬ 6 < s := by omega
 have s3 : 1 ≤ s := by omega
 have s4 : 0 < s := by omega
 have s5 : (s == 0) = false := by rw [beq_eq_false_iff_ne]; omega
 have s6 : ¬ s ≤ 3 := by omega
 subst hb; go_enter Try.func19, Try.ntmps19; go_wp2; go_ret; exact ⟨rfl, H.out.drop⟩

set_option maxHeartbeats 2000000 in
set_option maxRecDepth 100000 in
theorem rchk_he0 (p e t s u st : Int) (q : Option Addr) (cap : Nat) (h0 : 0 ≤ p) (h1 : 0 ≤ e) (h2 : e ≤ 32767) (h3 : 0 ≤ t) (h4 : t ≤ 2147483647) (h5 : 0 ≤ u) (h6 : -1 ≤ st) (hs : 4 ≤ s) (hs2 : s ≤ 6) (hb : ¬ st = -1) (htr : tRise (([] : List (TopS × Value)).map (·.1)) = true) (hf : FewT []) {W0 w : World} {K : Know} {L : List Res} (hk : K.has (Know.tops (.slice q 0 cap) [])) (h : St W0 w K L) :
  Calls Try.prog 19 #[.agg #[.int .i64 p, .int .i64 e, .int .i64 t, .int .i64 s, .slice q 0 cap, .int .i64 u, .int .i64 st]] w fun en w' => en = .returned (.int .i64 0) ∧ St W0 w' K L := by
 have HK := Lib.hid hk; have HF := Lib.hid hf; obtain ⟨vb, hvb⟩ : ∃ b, w.heap.size = b := ⟨_, rfl⟩; have h1 := h.allocRaw #[.int .i64 p, .int .i64 e, .int .i64 t, .int .i64 s, .slice q 0 cap, .int .i64 u, .int .i64 st] 37; rw [hvb] at h1; have c0 := (h1).rawCell 0; have c1 := (h1).rawCell 1; have c2 := (h1).rawCell 2; have c3 := (h1).rawCell 3; have c4 := (h1).rawCell 4; have c5 := (h1).rawCell 5; have c6 := (h1).rawCell 6; simp at c0 c1 c2 c3 c4 c5 c6; have H := Lib.hid h1; clear h h1 hk hf; have k0 : ¬ p < 0 := by omega
 have k1 : ¬ e < 0 := by omega
 have k2 : ¬ 32767 < e := by omega
 have k3 : ¬ t < 0 := by omega
 have k4 : ¬ 2147483647 < t := by omega
 have k5 : ¬ u < 0 := by omega
 have k6 : ¬ st < -1 := by omega
 have HTR := Lib.hid htr; clear htr; have s1 : ¬ s < 0 := by omega
 have s2 : ¬ 6 < s := by omega
 have s3 : 1 ≤ s := by omega
 have s4 : 0 < s := by omega
 have s5 : (s == 0) = false := by rw [beq_eq_false_iff_ne]; omega
 have s6 : ¬ s ≤ 3 := by omega
 have sb : (st == -1) = false := by rw [beq_eq_false_iff_ne]; exact hb
 have sb2 : (st != -1) = true := by simp [bne, sb]
 go_enter Try.func19, Try.ntmps19; go_wp2_with (go_at_call 40; (with_reducible refine (ref14_rise0 _ _ true HTR.out HF.out HK.out H.out).mono ?_); rintro e_ wn ⟨rfl, h⟩; replace H := Lib.hid h; clear h); go_ret; exact ⟨rfl, H.out.drop⟩
theorem idle_m (s : Int) (h1 : 1 ≤ s) (h2 : s ≤ 3) : idle s = false := by
 rcases (by omega : s = 1 ∨ s = 2 ∨ s = 3) with rfl | rfl | rfl <;> rfl
theorem idle_h (s : Int) (h1 : 4 ≤ s) : idle s = true := by
 unfold idle; rw [beq_eq_false_iff_ne.2 (show s ≠ 1 by omega), beq_eq_false_iff_ne.2 (show s ≠ 2 by omega), beq_eq_false_iff_ne.2 (show s ≠ 3 by omega)]
 rfl
theorem ref14_check (v : ValS) (l : List (TopS × Value)) (q : Option Addr) (cap : Nat) (hl : l.map (·.1) = v.tops) (E : Int) (he : v.err = E) (hf : FewT l) {W0 w : World} {K : Know} {L : List Res} (hk : K.has (Know.tops (.slice q l.length cap) l)) (h : St W0 w K L) :
  Calls Try.prog 19 #[.agg #[.int .i64 v.prod, .int .i64 v.epoch, .int .i64 v.timeout, .int .i64 v.state, .slice q l.length cap, .int .i64 v.upd, .int .i64 v.started]] w fun en w' => en = .returned (.int .i64 E) ∧ St W0 w' K L := by
 obtain ⟨p, e, t, s, tops, u, st⟩ := v; simp only at hl ⊢; subst hl; unfold ValS.err ValS.ranged at he; simp only at he
 cases hrg : (decide (0 ≤ p) && (decide (0 ≤ e) && (decide (e ≤ 32767) && (decide (0 ≤ t) && (decide (t ≤ 2147483647) && (decide (0 ≤ u) && decide (-1 ≤ st))))))) with
 | false =>
  rw [if_pos hrg] at he; subst he; exact rchk_11 p e t s u st l q cap hrg hf hk h
 | true =>
  rw [if_neg (by rw [hrg]; decide)] at he; simp only [Bool.and_eq_true, decide_eq_true_eq] at hrg; obtain ⟨h0, h1, h2, h3, h4, h5, h6⟩ := hrg
  by_cases hs : s < 0 ∨ 7 ≤ s
  · rw [if_pos hs] at he; subst he; exact rchk_12 p e t s u st l q cap h0 h1 h2 h3 h4 h5 h6 hs hf hk h
  · rw [if_neg hs] at he; have hemp : (l.map (·.1)).isEmpty = decide (l = []) := by cases l <;> simp
    rw [hemp] at he
    rcases (by omega : s = 0 ∨ (1 ≤ s ∧ s ≤ 3) ∨ (4 ≤ s ∧ s ≤ 6)) with hs0 | ⟨m1, m2⟩ | ⟨m1, m2⟩
    · have hi : idle s = true := by rw [hs0]; rfl
      by_cases hem : l = []
      · rw [decide_eq_true hem] at he
        by_cases hb : st = -1
        · rw [if_neg (by rw [hi, hs0, hb]; decide)] at he; have htr : tRise (l.map (·.1)) = true := by rw [hem]; rfl
          rw [if_neg (by rw [htr]; decide)] at he; subst he; subst hem; exact rchk_0e1 p e t s u st q cap h0 h1 h2 h3 h4 h5 h6 hs0 hb htr hf hk h
        · rw [if_pos (.inr (by rw [hs0, beq_eq_false_iff_ne.2 hb]; rfl))] at he; subst he; subst hem; exact rchk_0e0 p e t s u st q cap h0 h1 h2 h3 h4 h5 h6 hs0 hb hf hk h
      · rw [decide_eq_false hem, if_pos (.inl (by rw [hi]; rfl))] at he; subst he; exact rchk_0f p e t s u st l q cap h0 h1 h2 h3 h4 h5 h6 hs0 hem hf hk h
    · have hi := idle_m s m1 m2; have hz : ¬ s = 0 := by omega
      by_cases hem : l = []
      · rw [decide_eq_true hem, if_pos (.inl (by rw [hi]; rfl))] at he; subst he; subst hem; exact rchk_me p e t s u st q cap h0 h1 h2 h3 h4 h5 h6 m1 m2 hf hk h
      · rw [decide_eq_false hem] at he
        by_cases hb : st = -1
        · rw [if_pos (.inr (by rw [hb, beq_eq_false_iff_ne.2 hz]; rfl))] at he; subst he; exact rchk_mf1 p e t s u st l q cap h0 h1 h2 h3 h4 h5 h6 m1 m2 hem hb hf hk h
        · rw [if_neg (by rw [hi, beq_eq_false_iff_ne.2 hz, beq_eq_false_iff_ne.2 hb]; decide)] at he
          cases htr : tRise (l.map (·.1)) with
          | true =>
           rw [if_neg (by rw [htr]; decide)] at he; subst he; exact rchk_mft p e t s u st l q cap h0 h1 h2 h3 h4 h5 h6 m1 m2 hem hb htr hf hk h
          | false =>
           rw [if_pos htr] at he; subst he; exact rchk_mfb p e t s u st l q cap h0 h1 h2 h3 h4 h5 h6 m1 m2 hem hb htr hf hk h
    · have hi := idle_h s m1; have hz : ¬ s = 0 := by omega
      by_cases hem : l = []
      · rw [decide_eq_true hem] at he
        by_cases hb : st = -1
        · rw [if_pos (.inr (by rw [hb, beq_eq_false_iff_ne.2 hz]; rfl))] at he; subst he; subst hem; exact rchk_he1 p e t s u st q cap h0 h1 h2 h3 h4 h5 h6 m1 m2 hb hf hk h
        · rw [if_neg (by rw [hi, beq_eq_false_iff_ne.2 hz, beq_eq_false_iff_ne.2 hb]; decide)] at he; have htr : tRise (l.map (·.1)) = true := by rw [hem]; rfl
          rw [if_neg (by rw [htr]; decide)] at he; subst he; subst hem; exact rchk_he0 p e t s u st q cap h0 h1 h2 h3 h4 h5 h6 m1 m2 hb htr hf hk h
      · rw [decide_eq_false hem, if_pos (.inl (by rw [hi]; rfl))] at he; subst he; exact rchk_hf p e t s u st l q cap h0 h1 h2 h3 h4 h5 h6 m1 m2 hem hf hk h
theorem val_encode_okS (p e t s u st : Int) (l : List (TopS × Value)) (q : Option Addr) (cap : Nat) (tl : List TopS) (htl : l.map (·.1) = tl) (S : Bs) (hS : ValS.enc ⟨p, e, t, s, tl, u, st⟩ = S) (he : ValS.err ⟨p, e, t, s, tl, u, st⟩ = 0) (hR : ValS.R ⟨p, e, t, s, tl, u, st⟩) (hf : FewT l) {W0 w : World} {K : Know} {L : List Res} (hk : K.has (Know.tops (.slice q l.length cap) l)) (h : St W0 w K L) :
  Calls Try.prog 33 #[.agg #[.int .i64 p, .int .i64 e, .int .i64 t, .int .i64 s, .slice q l.length cap, .int .i64 u, .int .i64 st]] w fun en w' => en = .returned (.tuple #[.string (bb S), .int .i64 0]) ∧ St W0 w' K L := by
 subst hS; subst htl; exact val_encode_ok p e t s u st l q cap he hR hf hk h
theorem val_encode_badS (p e t s u st : Int) (l : List (TopS × Value)) (q : Option Addr) (cap : Nat) (tl : List TopS) (htl : l.map (·.1) = tl) (E : Int) (he : ValS.err ⟨p, e, t, s, tl, u, st⟩ = E) (h0 : E ≠ 0) (hf : FewT l) {W0 w : World} {K : Know} {L : List Res} (hk : K.has (Know.tops (.slice q l.length cap) l)) (h : St W0 w K L) :
  Calls Try.prog 33 #[.agg #[.int .i64 p, .int .i64 e, .int .i64 t, .int .i64 s, .slice q l.length cap, .int .i64 u, .int .i64 st]] w fun en w' => en = .returned (.tuple #[.string ⟨#[]⟩, .int .i64 E]) ∧ St W0 w' K L := by
 subst htl; exact val_encode_bad p e t s u st l q cap E he h0 hf hk h
theorem ref14_encodeS (p e t s u st : Int) (l : List (TopS × Value)) (q : Option Addr) (cap : Nat) (tl : List TopS) (htl : l.map (·.1) = tl) (S : Bs) (hS : ValS.enc ⟨p, e, t, s, tl, u, st⟩ = S) (he : ValS.err ⟨p, e, t, s, tl, u, st⟩ = 0) (hR : ValS.R ⟨p, e, t, s, tl, u, st⟩) (hf : FewT l) {W0 w : World} {K : Know} {L : List Res} (hk : K.has (Know.tops (.slice q l.length cap) l)) (h : St W0 w K L) :
  Calls Try.prog 20 #[.agg #[.int .i64 p, .int .i64 e, .int .i64 t, .int .i64 s, .slice q l.length cap, .int .i64 u, .int .i64 st]] w fun en w' => en = .returned (.string (bb S)) ∧ St W0 w' K L := by
 subst hS; subst htl; exact ref14_encode p e t s u st l q cap he hR hf hk h
theorem ref14_checkS (p e t s u st : Int) (l : List (TopS × Value)) (q : Option Addr) (cap : Nat) (tl : List TopS) (htl : l.map (·.1) = tl) (E : Int) (he : ValS.err ⟨p, e, t, s, tl, u, st⟩ = E) (hf : FewT l) {W0 w : World} {K : Know} {L : List Res} (hk : K.has (Know.tops (.slice q l.length cap) l)) (h : St W0 w K L) :
  Calls Try.prog 19 #[.agg #[.int .i64 p, .int .i64 e, .int .i64 t, .int .i64 s, .slice q l.length cap, .int .i64 u, .int .i64 st]] w fun en w' => en = .returned (.int .i64 E) ∧ St W0 w' K L := by
 subst htl; exact ref14_check ⟨p, e, t, s, l.map (·.1), u, st⟩ l q cap rfl E he hf hk h
theorem jr_bof (s : Bs) {W0 w : World} {K : Know} {L : List Res} (h : St W0 w K L) : Calls Try.prog 34 #[.string (bb s)] w fun en w' => en = .returned (.agg #[.bool false, .string (bb s)]) ∧ St W0 w' K L := blob_of s h
theorem jr_bno {W0 w : World} {K : Know} {L : List Res} (h : St W0 w K L) : Calls Try.prog 35 #[] w fun en w' => en = .returned (.agg #[.bool true, .string (bb [])]) ∧ St W0 w' K L := blob_none h
set_option maxHeartbeats 4000000 in
set_option maxRecDepth 100000 in
theorem jr_put (id key S : Bs) (hke : keyEnc id = (key, 0)) (hil : id.length ≤ 40000) (p e t s u st : Int) (l : List (TopS × Value)) (q : Option Addr) (cap : Nat) (tl : List TopS) (htl : l.map (·.1) = tl) (hS : ValS.enc ⟨p, e, t, s, tl, u, st⟩ = S) (he : ValS.err ⟨p, e, t, s, tl, u, st⟩ = 0) (hR : ValS.R ⟨p, e, t, s, tl, u, st⟩) (hf : FewT l) {W0 w : World} {K : Know} {L : List Res} (hk : K.has (Know.tops (.slice q l.length cap) l)) (h : St W0 w K L) :
  Calls Try.prog 16 #[.string (bb id), .agg #[.int .i64 p, .int .i64 e, .int .i64 t, .int .i64 s, .slice q l.length cap, .int .i64 u, .int .i64 st]] w fun en w' => en = .returned (.tuple #[.agg #[.string (bb key), .bool false, .string (bb S)], .int .i64 0]) ∧ St W0 w' K L := by
 obtain ⟨vb, hvb⟩ : ∃ b, w.heap.size = b := ⟨_, rfl⟩; obtain ⟨rb, hrb⟩ : ∃ b, vb + 1 = b := ⟨_, rfl⟩; have g1 := (h.allocRaw #[.int .i64 p, .int .i64 e, .int .i64 t, .int .i64 s, .slice q l.length cap, .int .i64 u, .int .i64 st] 37).allocRaw #[.string ⟨#[]⟩, .bool false, .string ⟨#[]⟩] 30; simp only [World.size_alloc, hvb, hrb] at g1; have c0 := (g1.p1).rawCell 0; have c1 := (g1.p1).rawCell 1; have c2 := (g1.p1).rawCell 2; have c3 := (g1.p1).rawCell 3; have c4 := (g1.p1).rawCell 4; have c5 := (g1.p1).rawCell 5; have c6 := (g1.p1).rawCell 6; simp at c0 c1 c2 c3 c4 c5 c6; have d0 := (g1).rawCell 0; have d1 := (g1).rawCell 1; have d2 := (g1).rawCell 2; simp at d0 d1 d2; have r0 := (g1).rawFree 0; have r1 := (g1).rawFree 1; have r2 := (g1).rawFree 2; have H := Lib.hid g1; have HKE := Lib.hid hke; have HIL := Lib.hid hil; have HT := Lib.hid htl; have HS := Lib.hid hS; have HE := Lib.hid he; have HR := Lib.hid hR; have HF := Lib.hid hf; have HK := Lib.hid hk; clear h g1 hke hil htl hS he hR hf hk; go_enter Try.func16, Try.ntmps16
 go_wp2_with (first
  | (go_at_call 18; clear c0 c1 c2 c3 c4 c5 c6 d0 d1 d2 r0 r1 r2; (with_reducible refine (key_encode' id key 0 HIL.out HKE.out H.out).mono ?_); rintro e_ wn ⟨rfl, h⟩; have c0 := (h.p1).rawCell 0; have c1 := (h.p1).rawCell 1; have c2 := (h.p1).rawCell 2; have c3 := (h.p1).rawCell 3; have c4 := (h.p1).rawCell 4; have c5 := (h.p1).rawCell 5; have c6 := (h.p1).rawCell 6; simp at c0 c1 c2 c3 c4 c5 c6; have d0 := (h).rawCell 0; have d1 := (h).rawCell 1; have d2 := (h).rawCell 2; simp at d0 d1 d2; have r0 := (h).rawFree 0; have r1 := (h).rawFree 1; have r2 := (h).rawFree 2; replace H := Lib.hid h; clear h)
  | (go_at_call 33; clear c0 c1 c2 c3 c4 c5 c6 d0 d1 d2 r0 r1 r2; (with_reducible refine (val_encode_okS p e t s u st l q cap tl HT.out S HS.out HE.out HR.out HF.out HK.out H.out).mono ?_); rintro e_ wn ⟨rfl, h⟩; have d0 := (h).rawCell 0; have d1 := (h).rawCell 1; have d2 := (h).rawCell 2; simp at d0 d1 d2; have r0 := (h).rawFree 0; have r1 := (h).rawFree 1; have r2 := (h).rawFree 2; replace H := Lib.hid h; clear h)
  | (go_at_call 34; clear d0 d1 d2 r0 r1 r2; (with_reducible refine (jr_bof S H.out).mono ?_); rintro e_ wn ⟨rfl, h⟩; have d0 := (h).rawCell 0; have d1 := (h).rawCell 1; have d2 := (h).rawCell 2; simp at d0 d1 d2; have r0 := (h).rawFree 0; have r1 := (h).rawFree 1; have r2 := (h).rawFree 2; replace H := Lib.hid h; clear h))
 have hz : St W0 _ K (.raw rb #[.string (bb key), .bool false, .string (bb S)] 30 :: _) := ((H.out.rawSet 0 (.string (bb key))).rawSet 1 (.bool false)).rawSet 2 (.string (bb S)); refine bodyPost_ret (rc_cell_tmp rfl _ _ rb [.string (bb key), .bool false, .string (bb S)] _ rfl (rc_range hz) Try.underlying30 rfl (by kernel_rfl)) rfl ?_; exact ⟨rfl, hz.drop.drop⟩
set_option maxHeartbeats 4000000 in
set_option maxRecDepth 100000 in
theorem jr_drop (id key : Bs) (hke : keyEnc id = (key, 0)) (hil : id.length ≤ 40000) {W0 w : World} {K : Know} {L : List Res} (h : St W0 w K L) :
  Calls Try.prog 17 #[.string (bb id)] w fun en w' => en = .returned (.tuple #[.agg #[.string (bb key), .bool true, .string (bb [])], .int .i64 0]) ∧ St W0 w' K L := by
 obtain ⟨rb, hrb⟩ : ∃ b, w.heap.size = b := ⟨_, rfl⟩; have g1 := h.allocRaw #[.string ⟨#[]⟩, .bool false, .string ⟨#[]⟩] 30; rw [hrb] at g1; have d0 := (g1).rawCell 0; have d1 := (g1).rawCell 1; have d2 := (g1).rawCell 2; simp at d0 d1 d2; have r0 := (g1).rawFree 0; have r1 := (g1).rawFree 1; have r2 := (g1).rawFree 2; have H := Lib.hid g1; have HKE := Lib.hid hke; have HIL := Lib.hid hil; clear h g1 hke hil; go_enter Try.func17, Try.ntmps17
 go_wp2_with (first
  | (go_at_call 18; clear d0 d1 d2 r0 r1 r2; (with_reducible refine (key_encode' id key 0 HIL.out HKE.out H.out).mono ?_); rintro e_ wn ⟨rfl, h⟩; have d0 := (h).rawCell 0; have d1 := (h).rawCell 1; have d2 := (h).rawCell 2; simp at d0 d1 d2; have r0 := (h).rawFree 0; have r1 := (h).rawFree 1; have r2 := (h).rawFree 2; replace H := Lib.hid h; clear h)
  | (go_at_call 35; clear d0 d1 d2 r0 r1 r2; (with_reducible refine (jr_bno H.out).mono ?_); rintro e_ wn ⟨rfl, h⟩; have d0 := (h).rawCell 0; have d1 := (h).rawCell 1; have d2 := (h).rawCell 2; simp at d0 d1 d2; have r0 := (h).rawFree 0; have r1 := (h).rawFree 1; have r2 := (h).rawFree 2; replace H := Lib.hid h; clear h))
 have hz : St W0 _ K (.raw rb #[.string (bb key), .bool true, .string (bb [])] 30 :: _) := ((H.out.rawSet 0 (.string (bb key))).rawSet 1 (.bool true)).rawSet 2 (.string (bb [])); refine bodyPost_ret (rc_cell_tmp rfl _ _ rb [.string (bb key), .bool true, .string (bb [])] _ rfl (rc_range hz) Try.underlying30 rfl (by kernel_rfl)) rfl ?_; exact ⟨rfl, hz.drop⟩
structure KnR where
  id : Bs
  p : Int
  e : Int
  t : Int
  s : Int
  u : Int
  st : Int
  tl : List (TopS × Value)
  q : Option Addr
  cap : Nat
end Go.Proofs.Ytmpehoebgifmnaa
namespace Go.Proofs
open Go.RowKit Go.Maps Go.Sort Go.Shelf

def Try.keys45_ren : Go.Shelf.Ren := ⟨fun | 7 => 45 | 10 => 65 | n => n, fun | 23 => 61 | 26 => 9 | 3 => 9 | 28 => 94 | 0 => 0 | 27 => 93 | 33 => 79 | 4 => 4 | n => n, fun | n => n⟩
theorem Try.keys45 : Go.Proofs.SlLaysZ.n7 Try.prog Try.keys45_ren := {
  mixed := by kernel_rfl
  f7 := ⟨Try.f45.name, by decide, Try.func45.trans (congrArg some (by kernel_rfl))⟩
  f10 := ⟨Try.f65.name, by decide, Try.func65.trans (congrArg some (by kernel_rfl))⟩
  t0 := Try.underlying0
  a0 := Try.isAgg0
  z0 := Try.sizeOf0
  v0 := Try.zeroValue0
  t4 := Try.underlying4
  a4 := Try.isAgg4
  z4 := Try.sizeOf4
  v4 := Try.zeroValue4
  t23 := Try.underlying61
  a23 := Try.isAgg61
  z23 := Try.sizeOf61
  v23 := Try.zeroValue61
  t26 := Try.underlying9
  a26 := Try.isAgg9
  z26 := Try.sizeOf9
  v26 := Try.zeroValue9
  t27 := Try.underlying93
  a27 := Try.isAgg93
  z27 := Try.sizeOf93
  v27 := Try.zeroValue93
  t28 := Try.underlying94
  a28 := Try.isAgg94
  z28 := Try.sizeOf94
  v28 := Try.zeroValue94
  t33 := Try.underlying79
  a33 := Try.isAgg79
  z33 := Try.sizeOf79
  v33 := Try.zeroValue79 }
def Try.sorted44_ren : Go.Shelf.Ren := ⟨fun | 6 => 44 | 8 => 63 | 9 => 64 | 11 => 75 | 13 => 77 | 12 => 76 | 23 => 89 | 24 => 90 | 14 => 80 | 15 => 81 | 16 => 82 | 17 => 83 | 18 => 84 | 19 => 85 | 20 => 86 | 21 => 87 | 22 => 88 | 25 => 91 | 26 => 92 | 27 => 93 | 28 => 94 | 29 => 95 | 30 => 96 | 31 => 97 | n => n, fun | 26 => 9 | 28 => 94 | 24 => 58 | 0 => 0 | 3 => 3 | 37 => 100 | 48 => 134 | 50 => 136 | 4 => 4 | 40 => 127 | 39 => 126 | 45 => 131 | 5 => 5 | 9 => 9 | 51 => 137 | 55 => 141 | 57 => 143 | 58 => 144 | 33 => 79 | n => n, fun | n => n⟩
theorem Try.sorted44 : Go.Proofs.SlLaysZ.n6 Try.prog Try.sorted44_ren := {
  mixed := by kernel_rfl
  f6 := ⟨Try.f44.name, by decide, Try.func44.trans (congrArg some (by kernel_rfl))⟩
  f8 := ⟨Try.f63.name, by decide, Try.func63.trans (congrArg some (by kernel_rfl))⟩
  f11 := ⟨Try.f75.name, by decide, Try.func75.trans (congrArg some (by kernel_rfl))⟩
  t0 := Try.underlying0
  a0 := Try.isAgg0
  z0 := Try.sizeOf0
  v0 := Try.zeroValue0
  t24 := Try.underlying58
  a24 := Try.isAgg58
  z24 := Try.sizeOf58
  v24 := Try.zeroValue58
  t26 := Try.underlying9
  a26 := Try.isAgg9
  z26 := Try.sizeOf9
  v26 := Try.zeroValue9
  t28 := Try.underlying94
  a28 := Try.isAgg94
  z28 := Try.sizeOf94
  v28 := Try.zeroValue94
  i26 := by kernel_rfl }
def Try.sort64_ren : Go.Shelf.Ren := ⟨fun | 6 => 64 | 8 => 77 | 9 => 76 | 19 => 89 | 20 => 90 | 21 => 80 | 22 => 81 | 23 => 82 | 24 => 83 | 25 => 84 | 26 => 85 | 27 => 86 | 28 => 87 | 29 => 88 | 36 => 91 | 31 => 92 | 32 => 93 | 37 => 94 | 38 => 95 | 39 => 96 | 41 => 97 | n => n, fun | 27 => 58 | 29 => 9 | 3 => 3 | 32 => 100 | 26 => 58 | 0 => 0 | 44 => 134 | 46 => 136 | 4 => 4 | 36 => 127 | 35 => 126 | 41 => 131 | 5 => 5 | 9 => 9 | 53 => 137 | 57 => 141 | 63 => 143 | 64 => 144 | n => n, fun | n => n⟩
theorem Try.sort64 : Go.Proofs.SlLaysM.n6 Try.prog Try.sort64_ren := {
  mixed := by kernel_rfl
  f6 := ⟨Try.f64.name, by decide, Try.func64.trans (congrArg some (by kernel_rfl))⟩
  f8 := Try.func77.trans (congrArg some (by kernel_rfl))
  f9 := ⟨Try.f76.name, by decide, Try.func76.trans (congrArg some (by kernel_rfl))⟩
  f19 := Try.func89.trans (congrArg some (by kernel_rfl))
  f20 := Try.func90.trans (congrArg some (by kernel_rfl))
  f21 := ⟨Try.f80.name, by decide, Try.func80.trans (congrArg some (by kernel_rfl))⟩
  f22 := ⟨Try.f81.name, by decide, Try.func81.trans (congrArg some (by kernel_rfl))⟩
  f23 := ⟨Try.f82.name, by decide, Try.func82.trans (congrArg some (by kernel_rfl))⟩
  f24 := ⟨Try.f83.name, by decide, Try.func83.trans (congrArg some (by kernel_rfl))⟩
  f25 := ⟨Try.f84.name, by decide, Try.func84.trans (congrArg some (by kernel_rfl))⟩
  f26 := ⟨Try.f85.name, by decide, Try.func85.trans (congrArg some (by kernel_rfl))⟩
  f27 := ⟨Try.f86.name, by decide, Try.func86.trans (congrArg some (by kernel_rfl))⟩
  f28 := ⟨Try.f87.name, by decide, Try.func87.trans (congrArg some (by kernel_rfl))⟩
  f29 := ⟨Try.f88.name, by decide, Try.func88.trans (congrArg some (by kernel_rfl))⟩
  f31 := Try.func92.trans (congrArg some (by kernel_rfl))
  f32 := Try.func93.trans (congrArg some (by kernel_rfl))
  f36 := ⟨Try.f91.name, by decide, Try.func91.trans (congrArg some (by kernel_rfl))⟩
  f37 := ⟨Try.f94.name, by decide, Try.func94.trans (congrArg some (by kernel_rfl))⟩
  f38 := ⟨Try.f95.name, by decide, Try.func95.trans (congrArg some (by kernel_rfl))⟩
  f39 := ⟨Try.f96.name, by decide, Try.func96.trans (congrArg some (by kernel_rfl))⟩
  f41 := ⟨Try.f97.name, by decide, Try.func97.trans (congrArg some (by kernel_rfl))⟩
  t0 := Try.underlying0
  a0 := Try.isAgg0
  z0 := Try.sizeOf0
  v0 := Try.zeroValue0
  t3 := Try.underlying3
  a3 := Try.isAgg3
  z3 := Try.sizeOf3
  v3 := Try.zeroValue3
  t4 := Try.underlying4
  a4 := Try.isAgg4
  z4 := Try.sizeOf4
  v4 := Try.zeroValue4
  t5 := Try.underlying5
  a5 := Try.isAgg5
  z5 := Try.sizeOf5
  v5 := Try.zeroValue5
  t9 := Try.underlying9
  a9 := Try.isAgg9
  z9 := Try.sizeOf9
  v9 := Try.zeroValue9
  t26 := Try.underlying58
  a26 := Try.isAgg58
  z26 := Try.sizeOf58
  v26 := Try.zeroValue58
  t27 := Try.underlying58
  a27 := Try.isAgg58
  z27 := Try.sizeOf58
  v27 := Try.zeroValue58
  t29 := Try.underlying9
  a29 := Try.isAgg9
  z29 := Try.sizeOf9
  v29 := Try.zeroValue9
  t32 := Try.underlying100
  a32 := Try.isAgg100
  z32 := Try.sizeOf100
  v32 := Try.zeroValue100
  t35 := Try.underlying126
  a35 := Try.isAgg126
  z35 := Try.sizeOf126
  v35 := Try.zeroValue126
  t36 := Try.underlying127
  a36 := Try.isAgg127
  z36 := Try.sizeOf127
  v36 := Try.zeroValue127
  t41 := Try.underlying131
  a41 := Try.isAgg131
  z41 := Try.sizeOf131
  v41 := Try.zeroValue131
  t44 := Try.underlying134
  a44 := Try.isAgg134
  z44 := Try.sizeOf134
  v44 := Try.zeroValue134
  t46 := Try.underlying136
  a46 := Try.isAgg136
  z46 := Try.sizeOf136
  v46 := Try.zeroValue136
  t53 := Try.underlying137
  a53 := Try.isAgg137
  z53 := Try.sizeOf137
  v53 := Try.zeroValue137
  t57 := Try.underlying141
  a57 := Try.isAgg141
  z57 := Try.sizeOf141
  v57 := Try.zeroValue141
  t63 := Try.underlying143
  a63 := Try.isAgg143
  z63 := Try.sizeOf143
  v63 := Try.zeroValue143
  t64 := Try.underlying144
  a64 := Try.isAgg144
  z64 := Try.sizeOf144
  v64 := Try.zeroValue144 }

theorem Try.sorts44 (m : Nat) : AnyZ.SortsIn Try.prog Try.sorted44_ren Fence.wide m :=
 ⟨fun blk off cap ss W hH hblk hsz => callsIn_wide.2 (AnyM.slices_Sort_string Try.sort64 blk off cap ss W hH hblk hsz),
  fun p cap W => callsIn_wide.2 (AnyM.slices_Sort_string_none Try.sort64 p cap W)⟩

theorem Try.maps_Keys_45 (mb : Option Nat) (W : World) : CallsIn Fence.wide 5 Try.prog 45 #[.map mb] W fun e w' => e = .returned (.func (.func 65) #[] #[.pointer (some ⟨W.heap.size, 0, none⟩)]) ∧ w' = W.alloc (.cells #[.map mb] 61) :=
 AnyZ.keys_in Try.keys45 Fence.wide 5 trivial rfl mb W

set_option maxHeartbeats 1000000 in
theorem Try.slices_Sorted_keys_44_45 {H : Type} (b nn : Nat) (D0 : DataW H) (R : Value → Option (DataW H × List MemPlace)) (w : World) (hown : w.ownsMap Try.prog 9 R b nn D0) (hmax : Maps.size D0 ≤ maxLen) (hbytes : Maps.size D0 * 16 ≤ 140737488355328) :
    CallsIn Fence.wide 5 Try.prog 44 #[.func (.func 65) #[] #[.pointer (some ⟨w.heap.size, 0, none⟩)]] (w.alloc (.cells #[.map (some b)] 61)) fun e w' => ∃ (v : Value) (ss : List (List UInt8)), e = .returned v ∧ ss.Perm (strKeys D0) ∧
      w'.ownsRow (w.alloc (.cells #[.map (some b)] 61)).heap.size 9 1 v ss.length ((ss.mergeSort (fun x y => decide (x ≤ y))).map encStr) ∧ (v = .slice none 0 0 ↔ ss = []) ∧ Below (w.alloc (.cells #[.map (some b)] 61)).heap.size (w.alloc (.cells #[.map (some b)] 61)) w' := by
  have hbl := hown.lt
  have hseq : SeqGives Fence.wide 2 Try.prog 65 #[.pointer (some ⟨w.heap.size, 0, none⟩)] encStr (fun ss => ss.Perm (strKeys D0)) (Maps.size D0) (w.alloc (.cells #[.map (some b)] 61)) :=
    AnyZ.keys_gives (ρ := Try.keys45_ren) { Try.keys45 with } Fence.wide _ trivial rfl (by omega) w.heap.size b nn D0 _ (by simp) (by simp) (by
      obtain ⟨es, clock, hb, Ft, hs, hD⟩ := hown
      exact ⟨es, clock, (Below.heap_alloc _ _ b hbl).trans hb, Ft, hs, hD⟩)
  exact AnyZ.sorted_in Try.sorted44 Fence.wide 5 trivial trivial trivial trivial rfl (by omega) (Try.sorts44 _) (enters_of Try.func64 (by kernel_rfl) rfl) 65 #[.pointer (some ⟨w.heap.size, 0, none⟩)] trivial (enters_of Try.func65 (by kernel_rfl) rfl) _ _ hmax hbytes _ hseq


end Go.Proofs
namespace Go.Proofs.Ytmpehoebgifmnaa
open Go.RowKit Go.Shelf

theorem jr_keys (mb : Option Nat) (W : World) : Calls Try.prog 45 #[.map mb] W fun e w' => e = .returned (.func (.func 65) #[] #[.pointer (some ⟨W.heap.size, 0, none⟩)]) ∧ w' = W.alloc (.cells #[.map mb] 61) :=
 callsIn_wide.1 (Try.maps_Keys_45 mb W)
theorem zq7 {p : Prop} (h : p := by rintro ⟨p, hp, hx⟩; obtain ⟨v, hv⟩ := hko p hp; obtain ⟨a, _, ha, _⟩ := Maps.keyOf_str (by kernel_rfl) hv; rw [ha] at hx; exact ⟨p, hp, by rw [ha]; simpa [Lit.sameKey, strOf] using hx⟩) : p := h
theorem mem_strKeys {w : World} {b n : Nat} {D : DataW Unit} (h : World.ownsMap w Try.prog 9 (plainElem (H := Unit) Try.prog 9) b n D) (x : Bs) : x ∈ strKeys D ↔ Maps.has D (.string x) = true := by
 obtain ⟨es, rfl, hko⟩ := h.keysOf; rw [Maps.has_eq, List.any_eq_true]
 show x ∈ es.map (fun p => strOf p.1) ↔ _
 rw [List.mem_map]
 constructor
 · exact zq7
 · exact zq7
theorem nodup_strKeys {w : World} {b n : Nat} {D : DataW Unit} (h : World.ownsMap w Try.prog 9 (plainElem (H := Unit) Try.prog 9) b n D) : (strKeys D).Nodup := by
 obtain ⟨es, he, hp⟩ := h.tidy keyedS; obtain ⟨es', he', hko⟩ := h.keysOf; rw [he] at he'; injection he' with he'; subst he'; subst he; refine List.pairwise_map.2 (hp.imp_of_mem fun {p q} hp' hq' hne e => hne ?_); obtain ⟨v, hv⟩ := hko p hp'; obtain ⟨u, hu⟩ := hko q hq'; obtain ⟨a, _, ha, _⟩ := Maps.keyOf_str (by kernel_rfl) hv; obtain ⟨c, _, hc, _⟩ := Maps.keyOf_str (by kernel_rfl) hu; rw [ha, hc] at e ⊢; exact congrArg _ e
structure IdsOf (f : JF) (ids : List Bs) : Prop where
  mem : ∀ x, x ∈ ids ↔ (f x).isSome = true
  nodup : ids.Nodup
  rise : ids.Pairwise (fun x y => x ≤ y)
theorem idsOf_sorted {w : World} {b n : Nat} {D : DataW Unit} {f : JF} (h : World.ownsMap w Try.prog 9 (plainElem (H := Unit) Try.prog 9) b n D) (hf : ∀ id, look D id = f id) {ss : List Bs} (hp : ss.Perm (strKeys D)) : IdsOf f (ss.mergeSort (fun x y => decide (x ≤ y))) := by
 have tr : ∀ a b c : Bs, decide (a ≤ b) = true → decide (b ≤ c) = true → decide (a ≤ c) = true := fun a b c h1 h2 => by simp only [decide_eq_true_eq] at *; exact List.le_trans h1 h2
 have tot : ∀ a b : Bs, (decide (a ≤ b) || decide (b ≤ a)) = true := fun a b => by simp only [Bool.or_eq_true, decide_eq_true_eq]; exact List.le_total a b
 have hq := List.mergeSort_perm ss (fun x y => decide (x ≤ y)); refine ⟨fun x => ?_, ?_, ?_⟩
 · rw [(hq.trans hp).mem_iff, mem_strKeys h, ← hf]; unfold look
   by_cases hh : Maps.has D (.string x) = true
   · rw [if_pos hh]; simp [hh]
   · rw [if_neg hh]; simp [hh]
 · exact (hq.trans hp).nodup_iff.2 (nodup_strKeys h)
 · exact (List.pairwise_mergeSort tr tot ss).imp fun h => by simpa using h
set_option maxHeartbeats 4000000 in
set_option maxRecDepth 100000 in
theorem jr_ids (jb mb n : Nat) (m : Int) (f : JF) (hn : n ≤ 1000000) {W0 w : World} {K : Know} {L : List Res} (h : St W0 w K (.raw jb #[.map (some mb), .int .i64 m] 63 :: .gen (jmap mb n f) :: L)) :
  Calls Try.prog 23 #[.pointer (some ⟨jb, 0, none⟩)] w fun en w' => ∃ (v : Value) (ids : List Bs), en = .returned v ∧ IdsOf f ids ∧ St W0 w' K (.row v 9 1 ids.length (ids.map encStr) :: .raw jb #[.map (some mb), .int .i64 m] 63 :: .gen (jmap mb n f) :: L) := by
 have c0 := h.rawCell 0; simp at c0; obtain ⟨D, h1, h2⟩ := h.p1.jget; have hsz := h1.size_le; have hc := callsIn_wide.1 (Try.slices_Sorted_keys_44_45 mb n D _ w h1 (by unfold maxLen; omega) (by omega)); have H := Lib.hid h; have HC := Lib.hid hc; have H1 := Lib.hid h1; have H2 := Lib.hid h2; clear h h1 h2 hc; go_enter Try.func23, Try.ntmps23
 go_wp2_with (first
  | (go_at_call 45; (with_reducible refine (jr_keys _ _).mono ?_); rintro e_ wn ⟨rfl, rfl⟩)
  | (go_at_call 44; (with_reducible refine (HC.out).mono ?_); rintro e_ wn ⟨v, ss, rfl, hS, hrow, hnil, hb⟩))
 go_ret; have hk : Keeps (fun _ => False) w _ := ⟨hb.os, hb.tape, hb.output, Nat.le_trans (by simp) hb.size, fun k hk _ => (hb.block k (by simp; omega)).trans (Below.heap_alloc _ _ k hk)⟩; have hid := idsOf_sorted H1.out H2.out hS; have hlen : (ss.mergeSort (fun x y => decide (x ≤ y))).length = ss.length := List.length_mergeSort _; refine ⟨v, _, rfl, hid, ?_⟩; rw [hlen]; refine H.out.new (r := .row v 9 1 ss.length ((ss.mergeSort (fun x y => decide (x ≤ y))).map encStr)) (S1 := fun k => v.ownBlock = some k) hk ⟨ownsRow_base_a hrow (Nat.zero_le _), fun k => Iff.rfl⟩ (fun j hj => ?_); have h9 := hrow.lt j hj; exact ⟨Nat.le_trans (by simp) h9.1, h9.2⟩

end Go.Proofs.Ytmpehoebgifmnaa
namespace Go.Proofs.Ytmpehoebgifmnaa
open Go.RowKit

end Go.Proofs.Ytmpehoebgifmnaa
namespace Go.Proofs.Ytmpehoebgifmnaa
open Go.RowKit

end Go.Proofs.Ytmpehoebgifmnaa
namespace Go.Proofs.Ytmpehoebgifmnaa
open Go.RowKit

end Go.Proofs.Ytmpehoebgifmnaa
namespace Go.Proofs.Ytmpehoebgifmnaa
open Go.RowKit

end Go.Proofs.Ytmpehoebgifmnaa
namespace Go.Proofs.Ytmpehoebgifmnaa
open Go.RowKit

end Go.Proofs.Ytmpehoebgifmnaa
namespace Go.Proofs.Ytmpehoebgifmnaa
open Go.RowKit

end Go.Proofs.Ytmpehoebgifmnaa
namespace Go.Proofs.Ytmpehoebgifmnaa
open Go.RowKit

theorem Holds.only {w : World} {r : Res} : ∀ {L : List Res} {S : Nat → Prop}, Holds L w S → r ∈ L → ∃ S', Holds [r] w S' ∧ ∀ k, S' k → S k
  | [], _, _, hm => by cases hm
  | a :: L, S, ⟨S1, S2, h1, h2, h3, h4⟩, hm => by
    cases hm with
    | head => exact ⟨S1, ⟨S1, fun _ => False, h1, fun _ h => h, fun _ _ h => h, fun k => by simp⟩, fun k hk => (h4 k).2 (.inl hk)⟩
    | tail _ hm =>
      obtain ⟨S', g1, g2⟩ := Holds.only h2 hm; exact ⟨S', g1, fun k hk => (h4 k).2 (.inr (g2 k hk))⟩
theorem St.only {W0 w : World} {K : Know} {L : List Res} {r : Res} (h : St W0 w K L) (hm : r ∈ L) : St W0 w K [r] := by
 obtain ⟨a, S, F, b, c, d, e⟩ := h; obtain ⟨S', g1, g2⟩ := b.only hm; exact ⟨a, S', F, g1, fun k hk => c k (g2 k hk), d, fun k hk => ⟨(e k hk).1, fun h => (e k hk).2.1 (g2 k h), (e k hk).2.2⟩⟩

end Go.Proofs.Ytmpehoebgifmnaa
namespace Go.Proofs.Ytmpehoebgifmnaa
open Go.RowKit

end Go.Proofs.Ytmpehoebgifmnaa
namespace Go.Proofs.Ytmpehoebgifmnaa
open Go.RowKit

end Go.Proofs.Ytmpehoebgifmnaa
namespace Go.Proofs.Ytmpehoebgifmnaa
open Go.RowKit

theorem St.there {W0 w : World} {K : Know} {L : List Res} {b : Nat} {c : Array Value} {T : TypeId} (h : St W0 w K (.raw b c T :: L)) : w.there b 0 c.size := fun j hj => by
  rw [Nat.zero_add]; exact ⟨by rw [h.rawCell j, Array.getElem?_eq_getElem hj]; rfl, h.rawFree j⟩
end Go.Proofs.Ytmpehoebgifmnaa
namespace Go.Proofs.Ytmpehoebgifmnaa
open Go.RowKit

end Go.Proofs.Ytmpehoebgifmnaa
namespace Go.Proofs.Ytmpehoebgifmnaa
open Go.RowKit

end Go.Proofs.Ytmpehoebgifmnaa
namespace Go.Proofs.Ytmpehoebgifmnaa
open Go.RowKit

end Go.Proofs.Ytmpehoebgifmnaa
namespace Go.Proofs.Ytmpehoebgifmnaa
open Go.RowKit

end Go.Proofs.Ytmpehoebgifmnaa
namespace Go.Proofs.Ytmpehoebgifmnaa
open Go.RowKit

end Go.Proofs.Ytmpehoebgifmnaa
namespace Go.Proofs.Ytmpehoebgifmnaa
open Go.RowKit

end Go.Proofs.Ytmpehoebgifmnaa
namespace Go.Proofs.Ytmpehoebgifmnaa
open Go.RowKit

end Go.Proofs.Ytmpehoebgifmnaa
namespace Go.Proofs.Ytmpehoebgifmnaa
open Go.RowKit

end Go.Proofs.Ytmpehoebgifmnaa
namespace Go.Proofs.Ytmpehoebgifmnaa
open Go.RowKit

end Go.Proofs.Ytmpehoebgifmnaa
namespace Go.Proofs.Ytmpehoebgifmnaa
open Go.RowKit

theorem Rds.back {α : Type} {f : InS → α × InS} {p : Bs → Except Int (α × Nat)} {d : α} (h : Rds f p d) {i j : InS} {a : α} (hf : f i = (a, j)) (he : j.err = 0) : i.err = 0 := by
 by_cases h0 : i.err = 0
 · exact h0
 · exfalso
   rw [h.stuck i h0] at hf
   cases hf
   exact h0 he
end Go.Proofs.Ytmpehoebgifmnaa
namespace Go.Proofs.Ytmpehoebgifmnaa
open Go.RowKit

set_option maxHeartbeats 1000000 in
set_option maxRecDepth 100000 in
theorem ints_same01 (a b : List Int) (q1 q2 : Option Addr) (cap1 cap2 : Nat) (hl : a.length ≤ 9223372036854775807) (hl2 : b.length ≤ 9223372036854775807) (r : Bool) (hr : decide (a = b) = r) {W0 w : World} {K : Know} {L : List Res} (hka : K.has (Know.flat RI (.slice q1 a.length cap1) 1 a)) (hkb : K.has (Know.flat RI (.slice q2 b.length cap2) 1 b)) (h : St W0 w K L) :
   Calls Try.prog 62 #[.slice q1 a.length cap1, .slice q2 b.length cap2] w fun en w' => en = .returned (.bool r) ∧ St W0 w' K L := by
 have H := Lib.hid h; have HA := Lib.hid hka; have HB := Lib.hid hkb; clear h hka hkb
 by_cases hlen : a.length = b.length
 · have HLEN := Lib.hid hlen; have HR := Lib.hid hr; rw [← hlen]; clear hr hlen; go_enter Try.func62, Try.ntmps62; go_wp2; go_loopw [5] (fun iv wr => ∃ k : Nat, k ≤ a.length ∧ iv = .int .i64 k ∧ Hid (a.take k = b.take k) ∧ St W0 wr K L) (fun iv _ => a.length - (intOf iv).toNat)
   case atStart => exact ⟨0, Nat.zero_le _, rfl, Lib.hid (by simp), H.out⟩
   case round =>
    obtain ⟨k, hk, rfl, HEQ, hst⟩ := hrel; clear H; have H := Lib.hid hst; clear hst
    by_cases hlt : k < a.length
    · have hltb : k < b.length := by have := HLEN.out; omega
      obtain ⟨ba, oa, hqa⟩ := flat_at HA.out H.out (by omega); obtain ⟨bb', ob, hqb⟩ := flat_at HB.out H.out (by omega); subst hqa; subst hqb; have c0 := int_cell HA.out H.out k hlt; have c1 := int_cell HB.out H.out k hltb; have ea : a.take (k + 1) = a.take k ++ [a.getD k 0] := by rw [List.take_succ_eq_append_getElem hlt, List.getD_eq_getElem?_getD, List.getElem?_eq_getElem hlt]; rfl
      have eb : b.take (k + 1) = b.take k ++ [b.getD k 0] := by rw [List.take_succ_eq_append_getElem hltb, List.getD_eq_getElem?_getD, List.getElem?_eq_getElem hltb]; rfl
      have hne : a.getD k 0 ≠ b.getD k 0 → a ≠ b := by rintro h rfl; exact h rfl
      obtain ⟨x, hx⟩ : ∃ x, a.getD k 0 = x := ⟨_, rfl⟩; obtain ⟨y, hy⟩ : ∃ y, b.getD k 0 = y := ⟨_, rfl⟩; rw [hx] at c0 ea hne; rw [hy] at c1 eb hne; have EA := Lib.hid (And.intro ea (And.intro eb hne)); clear ea eb hne hx hy hltb
      by_cases hxy : x = y
      · subst hxy; go_wp2
        go_quiet (fail)
        go_wp2; go_roundw
        case rel => exact ⟨k + 1, hlt, by go_num, Lib.hid (by rw [EA.out.1, EA.out.2.1, HEQ.out]), H.out.drewN _⟩
        case measure => first | (simp [intOf]; done) | (simp [intOf]; omega)
      · have HNE := Lib.hid (EA.out.2.2 hxy); go_wp2
        go_quiet (fail)
        go_wp2; go_ret; exact ⟨ret_bool (by rw [← HR.out]; exact (decide_eq_false HNE.out).symm), H.out.drewN _⟩
    · have hke : k = a.length := by omega
      subst hke; go_wp2; go_ret; refine ⟨ret_bool ?_, H.out⟩; have h := HEQ.out; rw [List.take_of_length_le (by omega), List.take_of_length_le (by have := HLEN.out; omega)] at h; rw [← HR.out]; exact (decide_eq_true h).symm
 · have HR := Lib.hid hr; have hne : ¬ ((a.length : Int) = (b.length : Int)) := by omega
   have HLEN := Lib.hid hlen; clear hr hlen; go_enter Try.func62, Try.ntmps62; go_wp2; go_ret; exact ⟨ret_bool (by rw [← HR.out]; exact (decide_eq_false (by rintro rfl; exact HLEN.out rfl)).symm), H.out⟩

end Go.Proofs.Ytmpehoebgifmnaa
namespace Go.Proofs.Ytmpehoebgifmnaa
open Go.RowKit

end Go.Proofs.Ytmpehoebgifmnaa
