/- A text. -/
import Derived.Test.YtmpehoebgifmnaaGJournalPuts3
import Derived.Test.YtmpehoebgifmnaaGJournalPuts4
import Derived.Deep.RegionHeld3
import Derived.Deep.DeepCutAuto
import Derived.Sort.Walk0
import Derived.RegionTactic
import Derived.WalkMore
import Derived.Test.YtmpehoebgifmnaaArgs
import Derived.SizedLaws
import Derived.Deep.Slices
import Derived.Test.YtmpehoebgifmnaaFld1
import Derived.Test.YtmpehoebgifmnaaGJournalPuts2
/- A text. -/
namespace Go.Proofs.Ytmpehoebgifmnaa
open Go.RowKit

set_option maxHeartbeats 2000000 in
set_option maxRecDepth 100000 in
theorem ref14_sameTopics (l1 l2 : List (TopS × Value)) (q1 q2 : Option Addr) (cap1 cap2 : Nat) (r : Bool) (hr : decide (l1.map (·.1) = l2.map (·.1)) = r) (hf1 : LenT l1) (hf2 : LenT l2) {W0 w : World} {K : Know} {L : List Res} (hk1 : K.has (Know.tops (.slice q1 l1.length cap1) l1)) (hk2 : K.has (Know.tops (.slice q2 l2.length cap2) l2)) (h : St W0 w K L) :
   Calls Try.prog 43 #[.slice q1 l1.length cap1, .slice q2 l2.length cap2] w fun en w' => en = .returned (.bool r) ∧ St W0 w' K L := by
 have H := Lib.hid h; have HK1 := Lib.hid hk1; have HK2 := Lib.hid hk2; have hni : (l1.length : Int) ≤ 140737488355328 := by have := hf1.1; omega
 have HF1 := Lib.hid hf1; have HF2 := Lib.hid hf2; clear h hk1 hk2 hf1 hf2
 by_cases hlen : l1.length = l2.length
 rotate_left
 · as_aux_lemma =>
   have hr2 : r = false := by rw [← hr]; exact decide_eq_false (tmap_len_ne _ _ hlen)
   have g1 : ((l1.length : Int) == (l2.length : Int)) = false := by rw [beq_eq_false_iff_ne]; omega
   have g2 : ((l1.length : Int) != (l2.length : Int)) = true := by simp [bne, g1]
   have g3 : ¬ ((l1.length : Int) = (l2.length : Int)) := by omega
   subst hr2; clear hlen hr; go_enter Try.func43, Try.ntmps43; go_wp2; go_ret; exact ⟨rfl, H.out⟩
 have HLEN := Lib.hid hlen; have HR := Lib.hid hr; have g1 : ((l1.length : Int) == (l2.length : Int)) = true := by rw [hlen]; exact beq_self_eq_true _
 have g2 : ((l1.length : Int) != (l2.length : Int)) = false := by simp [bne, g1]
 have g3 : (l2.length : Int) = (l1.length : Int) := by omega
 clear hr hlen; go_enter Try.func43, Try.ntmps43; go_wp2; clear g1 g2 g3; go_loopw [5] (fun iv wr => ∃ k : Nat, k ≤ l1.length ∧ iv = .int .i64 k ∧ Hid ((l1.map (·.1)).take k = (l2.map (·.1)).take k) ∧ St W0 wr K L) (fun iv _ => l1.length - (intOf iv).toNat)
 case atStart => exact ⟨0, Nat.zero_le _, rfl, Lib.hid (by simp), H.out⟩
 case round =>
   obtain ⟨k, hkl, rfl, heq, hst⟩ := hrel; clear H; have H := Lib.hid hst; clear hst
   by_cases hlt : k < l1.length
   · have hlt2 : k < l2.length := by have := HLEN.out; omega
     obtain ⟨b1', off1, hqq1⟩ := tops_at HK1.out H.out (by omega); subst hqq1; obtain ⟨⟨⟨n1, p1⟩, v1⟩, hx1⟩ : ∃ x, l1[k] = x := ⟨_, rfl⟩; have hmem1 : ((⟨n1, p1⟩ : TopS), v1) ∈ l1 := hx1 ▸ List.getElem_mem _; have XF1 := Lib.hid (show p1.length ≤ 9223372036854775807 from HF1.out.2 _ hmem1); have xk1 : K.has (Know.flat RI v1 1 p1) := tops_parts HK1.out hmem1; obtain ⟨qx1, capx1, hv1⟩ := flat_form xk1 H.out; subst hv1; have XK1 := Lib.hid xk1; have HX1 := Lib.hid (show l1[k].1 = ⟨n1, p1⟩ by rw [hx1]); have HXX1 := Lib.hid hx1; clear hmem1 hx1 xk1; obtain ⟨b2', off2, hqq2⟩ := tops_at HK2.out H.out (by omega); subst hqq2; obtain ⟨⟨⟨n2, p2⟩, v2⟩, hx2⟩ : ∃ x, l2[k] = x := ⟨_, rfl⟩; have hmem2 : ((⟨n2, p2⟩ : TopS), v2) ∈ l2 := hx2 ▸ List.getElem_mem _; have XF2 := Lib.hid (show p2.length ≤ 9223372036854775807 from HF2.out.2 _ hmem2); have xk2 : K.has (Know.flat RI v2 1 p2) := tops_parts HK2.out hmem2; obtain ⟨qx2, capx2, hv2⟩ := flat_form xk2 H.out; subst hv2; have XK2 := Lib.hid xk2; have HX2 := Lib.hid (show l2[k].1 = ⟨n2, p2⟩ by rw [hx2]); have HXX2 := Lib.hid hx2; clear hmem2 hx2 xk2; have HKP := Lib.hid (show ∀ w', St W0 w' K L → (w'.cell? ⟨b1', off1 + k * 2, none⟩ = some (.string (bb n1)) ∧ w'.cell? ⟨b1', off1 + k * 2 + 1, none⟩ = some (.slice qx1 p1.length capx1) ∧ w'.cell? ⟨b2', off2 + k * 2, none⟩ = some (.string (bb n2)) ∧ w'.cell? ⟨b2', off2 + k * 2 + 1, none⟩ = some (.slice qx2 p2.length capx2)) from fun w' hs => ⟨(tops_cell HK1.out hs k hlt _ HXX1.out).1, (tops_cell HK1.out hs k hlt _ HXX1.out).2, (tops_cell HK2.out hs k hlt2 _ HXX2.out).1, (tops_cell HK2.out hs k hlt2 _ HXX2.out).2⟩); have hki : (k : Int) < (l1.length : Int) := by omega
     have hki2 : (k : Int) < (l2.length : Int) := by omega
     have NX := Lib.hid (show (⟨n1, p1⟩ : TopS) ≠ ⟨n2, p2⟩ → l1.map (·.1) ≠ l2.map (·.1) from tmap_ne_of_get l1 l2 k hlt hlt2 _ _ HX1.out HX2.out); have NT := Lib.hid (show (⟨n1, p1⟩ : TopS) = ⟨n2, p2⟩ → (l1.map (·.1)).take (k + 1) = (l2.map (·.1)).take (k + 1) from fun e => by rw [tmap_take_succ l1 k hlt _ HX1.out, tmap_take_succ l2 k hlt2 _ HX2.out, heq.out, e]); clear HX1 HX2 HXX1 HXX2; clear hlt2
     by_cases hn : n1 = n2
     · by_cases hp : p1 = p2
       · as_aux_lemma =>
         have E1 := Lib.hid (decide_eq_true hp); have NT2 := Lib.hid (NT.out (by rw [hn, hp])); have gn : (n1 == n2) = true := by rw [hn]; exact beq_self_eq_true _
         have gn2 : (n1 != n2) = false := by simp [bne, gn]
         clear hn hp NX NT; go_wp2; have hs := H.out.drew; refine wp_region_held_drew (S := fun w' => w'.cell? ⟨b1', off1 + k * 2, none⟩ = some (.string (bb n1)) ∧ w'.cell? ⟨b1', off1 + k * 2 + 1, none⟩ = some (.slice qx1 p1.length capx1) ∧ w'.cell? ⟨b2', off2 + k * 2, none⟩ = some (.string (bb n2)) ∧ w'.cell? ⟨b2', off2 + k * 2 + 1, none⟩ = some (.slice qx2 p2.length capx2)) (by kernel_rfl) (HKP.out _ hs) (fun hHeld => ?_); refine tQ 0 ⟨some 17, .move (.tmp 0), 35, _, _, none⟩ ?_; simp only [Act.put, sA, sB, sC]; refine tQ 1 ⟨some 18, .move (.tmp 5), 3, _, _, none⟩ ?_; simp only [Act.put, sA, sB, sC]; refine tQ 2 ⟨some 19, .indexAddr 35 (.tmp 17) (.tmp 18), 0, _, _, none⟩ ?_; simp only [Act.put, sA, sB, sC]; refine tQ 3 ⟨some 20, .fieldAddr 56 (.tmp 19) 0, 0, _, _, none⟩ ?_; simp only [Act.put, sA, sB, sC]; refine tQ 4 ⟨some 21, .load 9 (.tmp 20), 9, _, _, none⟩ ?_; simp only [Act.put, sA, sB, sC]; refine tQ 5 ⟨some 22, .move (.tmp 1), 35, _, _, none⟩ ?_; simp only [Act.put, sA, sB, sC]; refine tQ 6 ⟨some 23, .move (.tmp 5), 3, _, _, none⟩ ?_; simp only [Act.put, sA, sB, sC]; refine tQ 7 ⟨some 24, .indexAddr 35 (.tmp 22) (.tmp 23), 0, _, _, none⟩ ?_; simp only [Act.put, sA, sB, sC]; refine tQ 8 ⟨some 25, .fieldAddr 56 (.tmp 24) 0, 0, _, _, none⟩ ?_; simp only [Act.put, sA, sB, sC]; refine tQ 9 ⟨some 26, .load 9 (.tmp 25), 9, _, _, none⟩ ?_; simp only [Act.put, sA, sB, sC]; refine tQ 10 ⟨some 27, .binOp .neq 9 (.tmp 21) (.tmp 26) 9, 4, _, _, none⟩ ?_; simp only [Act.put, sA, sB, sC]; refine tQ 11 ⟨some 28, .move (.tmp 27), 4, _, _, none⟩ ?_; simp only [Act.put, sA, sB, sC]; refine tQ 12 ⟨some 29, .move (.tmp 0), 35, _, _, some (11, false)⟩ ?_; simp only [Act.put, sA, sB, sC]; refine tQ 13 ⟨some 30, .move (.tmp 5), 3, _, _, some (11, false)⟩ ?_; simp only [Act.put, sA, sB, sC]; refine tQ 14 ⟨some 31, .indexAddr 35 (.tmp 29) (.tmp 30), 0, _, _, some (11, false)⟩ ?_; simp only [Act.put, sA, sB, sC]; refine tQ 15 ⟨some 32, .fieldAddr 56 (.tmp 31) 1, 0, _, _, some (11, false)⟩ ?_; simp only [Act.put, sA, sB, sC]; refine tQ 16 ⟨some 33, .load 54 (.tmp 32), 54, _, _, some (11, false)⟩ ?_; simp only [Act.put, sA, sB, sC]; refine tQ 17 ⟨some 34, .move (.tmp 1), 35, _, _, some (11, false)⟩ ?_; simp only [Act.put, sA, sB, sC]; refine tQ 18 ⟨some 35, .move (.tmp 5), 3, _, _, some (11, false)⟩ ?_; simp only [Act.put, sA, sB, sC]; refine tQ 19 ⟨some 36, .indexAddr 35 (.tmp 34) (.tmp 35), 0, _, _, some (11, false)⟩ ?_; simp only [Act.put, sA, sB, sC]; refine tQ 20 ⟨some 37, .fieldAddr 56 (.tmp 36) 1, 0, _, _, some (11, false)⟩ ?_; simp only [Act.put, sA, sB, sC]; refine tQ 21 ⟨some 38, .load 54 (.tmp 37), 54, _, _, some (11, false)⟩ ?_; simp only [Act.put, sA, sB, sC]; refine wpAnyH_ready (rs := [22]) (by kernel_rfl) (by simp) (AllReadyH.cons (o := ⟨some 39, .call { callee := .value (.func 62), args := #[.tmp 33, .tmp 38], argTypes := #[54, 54] }, 4, _, _, some (11, false)⟩) rfl (fun KK hK => ?_) AllReadyH.nil); go_simp; go_at_call 62; with_reducible refine (ints_same01 p1 p2 qx1 qx2 capx1 capx2 XF1.out XF2.out true E1.out XK1.out XK2.out hs).mono ?_; rintro e wq ⟨rfl, hs⟩; refine hK.out _ _ (HKP.out _ hs) (fun hHeld => ?_); clear hK KK
         try simp only [Act.put, sA, sB, sC]
         refine tQ 23 ⟨some 40, .unOp UnOp.not 4 (.tmp 39), 4, _, _, some (11, false)⟩ ?_; simp only [Act.put, sA, sB, sC]; refine tQ 24 ⟨some 41, .pick (.tmp 28) (.const (Value.bool true)) (.tmp 40), 4, _, _, none⟩ ?_; simp only [Act.put, sA, sB, sC]; refine wpAnyH_done (by kernel_rfl) ?_ _; go_wp2_with fail; go_roundw
         case rel => exact ⟨k + 1, hlt, by go_num, NT2, hs⟩
         case measure => first | (simp [intOf]; done) | (simp [intOf]; omega)
       · as_aux_lemma =>
         have E1 := Lib.hid (decide_eq_false hp); have HRF := Lib.hid (show r = false by rw [← HR.out]; exact decide_eq_false (NX.out (by intro h; cases h; exact hp rfl))); have gn : (n1 == n2) = true := by rw [hn]; exact beq_self_eq_true _
         have gn2 : (n1 != n2) = false := by simp [bne, gn]
         clear hn hp NX NT; go_wp2; have hs := H.out.drew; refine wp_region_held_drew (S := fun w' => w'.cell? ⟨b1', off1 + k * 2, none⟩ = some (.string (bb n1)) ∧ w'.cell? ⟨b1', off1 + k * 2 + 1, none⟩ = some (.slice qx1 p1.length capx1) ∧ w'.cell? ⟨b2', off2 + k * 2, none⟩ = some (.string (bb n2)) ∧ w'.cell? ⟨b2', off2 + k * 2 + 1, none⟩ = some (.slice qx2 p2.length capx2)) (by kernel_rfl) (HKP.out _ hs) (fun hHeld => ?_); refine tQ 0 ⟨some 17, .move (.tmp 0), 35, _, _, none⟩ ?_; simp only [Act.put, sA, sB, sC]; refine tQ 1 ⟨some 18, .move (.tmp 5), 3, _, _, none⟩ ?_; simp only [Act.put, sA, sB, sC]; refine tQ 2 ⟨some 19, .indexAddr 35 (.tmp 17) (.tmp 18), 0, _, _, none⟩ ?_; simp only [Act.put, sA, sB, sC]; refine tQ 3 ⟨some 20, .fieldAddr 56 (.tmp 19) 0, 0, _, _, none⟩ ?_; simp only [Act.put, sA, sB, sC]; refine tQ 4 ⟨some 21, .load 9 (.tmp 20), 9, _, _, none⟩ ?_; simp only [Act.put, sA, sB, sC]; refine tQ 5 ⟨some 22, .move (.tmp 1), 35, _, _, none⟩ ?_; simp only [Act.put, sA, sB, sC]; refine tQ 6 ⟨some 23, .move (.tmp 5), 3, _, _, none⟩ ?_; simp only [Act.put, sA, sB, sC]; refine tQ 7 ⟨some 24, .indexAddr 35 (.tmp 22) (.tmp 23), 0, _, _, none⟩ ?_; simp only [Act.put, sA, sB, sC]; refine tQ 8 ⟨some 25, .fieldAddr 56 (.tmp 24) 0, 0, _, _, none⟩ ?_; simp only [Act.put, sA, sB, sC]; refine tQ 9 ⟨some 26, .load 9 (.tmp 25), 9, _, _, none⟩ ?_; simp only [Act.put, sA, sB, sC]; refine tQ 10 ⟨some 27, .binOp .neq 9 (.tmp 21) (.tmp 26) 9, 4, _, _, none⟩ ?_; simp only [Act.put, sA, sB, sC]; refine tQ 11 ⟨some 28, .move (.tmp 27), 4, _, _, none⟩ ?_; simp only [Act.put, sA, sB, sC]; refine tQ 12 ⟨some 29, .move (.tmp 0), 35, _, _, some (11, false)⟩ ?_; simp only [Act.put, sA, sB, sC]; refine tQ 13 ⟨some 30, .move (.tmp 5), 3, _, _, some (11, false)⟩ ?_; simp only [Act.put, sA, sB, sC]; refine tQ 14 ⟨some 31, .indexAddr 35 (.tmp 29) (.tmp 30), 0, _, _, some (11, false)⟩ ?_; simp only [Act.put, sA, sB, sC]; refine tQ 15 ⟨some 32, .fieldAddr 56 (.tmp 31) 1, 0, _, _, some (11, false)⟩ ?_; simp only [Act.put, sA, sB, sC]; refine tQ 16 ⟨some 33, .load 54 (.tmp 32), 54, _, _, some (11, false)⟩ ?_; simp only [Act.put, sA, sB, sC]; refine tQ 17 ⟨some 34, .move (.tmp 1), 35, _, _, some (11, false)⟩ ?_; simp only [Act.put, sA, sB, sC]; refine tQ 18 ⟨some 35, .move (.tmp 5), 3, _, _, some (11, false)⟩ ?_; simp only [Act.put, sA, sB, sC]; refine tQ 19 ⟨some 36, .indexAddr 35 (.tmp 34) (.tmp 35), 0, _, _, some (11, false)⟩ ?_; simp only [Act.put, sA, sB, sC]; refine tQ 20 ⟨some 37, .fieldAddr 56 (.tmp 36) 1, 0, _, _, some (11, false)⟩ ?_; simp only [Act.put, sA, sB, sC]; refine tQ 21 ⟨some 38, .load 54 (.tmp 37), 54, _, _, some (11, false)⟩ ?_; simp only [Act.put, sA, sB, sC]; refine wpAnyH_ready (rs := [22]) (by kernel_rfl) (by simp) (AllReadyH.cons (o := ⟨some 39, .call { callee := .value (.func 62), args := #[.tmp 33, .tmp 38], argTypes := #[54, 54] }, 4, _, _, some (11, false)⟩) rfl (fun KK hK => ?_) AllReadyH.nil); go_simp; go_at_call 62; with_reducible refine (ints_same01 p1 p2 qx1 qx2 capx1 capx2 XF1.out XF2.out false E1.out XK1.out XK2.out hs).mono ?_; rintro e wq ⟨rfl, hs⟩; refine hK.out _ _ (HKP.out _ hs) (fun hHeld => ?_); clear hK KK
         try simp only [Act.put, sA, sB, sC]
         refine tQ 23 ⟨some 40, .unOp UnOp.not 4 (.tmp 39), 4, _, _, some (11, false)⟩ ?_; simp only [Act.put, sA, sB, sC]; refine tQ 24 ⟨some 41, .pick (.tmp 28) (.const (Value.bool true)) (.tmp 40), 4, _, _, none⟩ ?_; simp only [Act.put, sA, sB, sC]; refine wpAnyH_done (by kernel_rfl) ?_ _; go_wp2_with fail; go_ret; exact ⟨ret_bool HRF.out.symm, hs⟩
     · as_aux_lemma =>
         have HRF := Lib.hid (show r = false by rw [← HR.out]; exact decide_eq_false (NX.out (by intro h; cases h; exact hn rfl))); have gn : (n1 == n2) = false := by simpa using hn
         have gn2 : (n1 != n2) = true := by simp [bne, gn]
         clear hn NX NT; go_wp2; have hs := H.out.drew; refine wp_region_held_drew (S := fun w' => w'.cell? ⟨b1', off1 + k * 2, none⟩ = some (.string (bb n1)) ∧ w'.cell? ⟨b1', off1 + k * 2 + 1, none⟩ = some (.slice qx1 p1.length capx1) ∧ w'.cell? ⟨b2', off2 + k * 2, none⟩ = some (.string (bb n2)) ∧ w'.cell? ⟨b2', off2 + k * 2 + 1, none⟩ = some (.slice qx2 p2.length capx2)) (by kernel_rfl) (HKP.out _ hs) (fun hHeld => ?_); refine tQ 0 ⟨some 17, .move (.tmp 0), 35, _, _, none⟩ ?_; simp only [Act.put, sA, sB, sC]; refine tQ 1 ⟨some 18, .move (.tmp 5), 3, _, _, none⟩ ?_; simp only [Act.put, sA, sB, sC]; refine tQ 2 ⟨some 19, .indexAddr 35 (.tmp 17) (.tmp 18), 0, _, _, none⟩ ?_; simp only [Act.put, sA, sB, sC]; refine tQ 3 ⟨some 20, .fieldAddr 56 (.tmp 19) 0, 0, _, _, none⟩ ?_; simp only [Act.put, sA, sB, sC]; refine tQ 4 ⟨some 21, .load 9 (.tmp 20), 9, _, _, none⟩ ?_; simp only [Act.put, sA, sB, sC]; refine tQ 5 ⟨some 22, .move (.tmp 1), 35, _, _, none⟩ ?_; simp only [Act.put, sA, sB, sC]; refine tQ 6 ⟨some 23, .move (.tmp 5), 3, _, _, none⟩ ?_; simp only [Act.put, sA, sB, sC]; refine tQ 7 ⟨some 24, .indexAddr 35 (.tmp 22) (.tmp 23), 0, _, _, none⟩ ?_; simp only [Act.put, sA, sB, sC]; refine tQ 8 ⟨some 25, .fieldAddr 56 (.tmp 24) 0, 0, _, _, none⟩ ?_; simp only [Act.put, sA, sB, sC]; refine tQ 9 ⟨some 26, .load 9 (.tmp 25), 9, _, _, none⟩ ?_; simp only [Act.put, sA, sB, sC]; refine tQ 10 ⟨some 27, .binOp .neq 9 (.tmp 21) (.tmp 26) 9, 4, _, _, none⟩ ?_; simp only [Act.put, sA, sB, sC]; refine tQ 11 ⟨some 28, .move (.tmp 27), 4, _, _, none⟩ ?_; simp only [Act.put, sA, sB, sC]; refine wpAnyH_take (i := 12) (oi := ⟨some 29, .move (.tmp 0), 35, _, _, some (11, false)⟩) (v := undef) rfl (by kernel_rfl) (by kernel_rfl) (by kernel_rfl) (fun _ _ _ h => h) (Or.inr ⟨by rfl, rfl⟩) (by assumption) ?_; simp only [Act.put, sA, sB, sC]; refine wpAnyH_take (i := 13) (oi := ⟨some 30, .move (.tmp 5), 3, _, _, some (11, false)⟩) (v := undef) rfl (by kernel_rfl) (by kernel_rfl) (by kernel_rfl) (fun _ _ _ h => h) (Or.inr ⟨by rfl, rfl⟩) (by assumption) ?_; simp only [Act.put, sA, sB, sC]; refine wpAnyH_take (i := 14) (oi := ⟨some 31, .indexAddr 35 (.tmp 29) (.tmp 30), 0, _, _, some (11, false)⟩) (v := undef) rfl (by kernel_rfl) (by kernel_rfl) (by kernel_rfl) (fun _ _ _ h => h) (Or.inr ⟨by rfl, rfl⟩) (by assumption) ?_; simp only [Act.put, sA, sB, sC]; refine wpAnyH_take (i := 15) (oi := ⟨some 32, .fieldAddr 56 (.tmp 31) 1, 0, _, _, some (11, false)⟩) (v := undef) rfl (by kernel_rfl) (by kernel_rfl) (by kernel_rfl) (fun _ _ _ h => h) (Or.inr ⟨by rfl, rfl⟩) (by assumption) ?_; simp only [Act.put, sA, sB, sC]; refine wpAnyH_take (i := 16) (oi := ⟨some 33, .load 54 (.tmp 32), 54, _, _, some (11, false)⟩) (v := undef) rfl (by kernel_rfl) (by kernel_rfl) (by kernel_rfl) (fun _ _ _ h => h) (Or.inr ⟨by rfl, rfl⟩) (by assumption) ?_; simp only [Act.put, sA, sB, sC]; refine wpAnyH_take (i := 17) (oi := ⟨some 34, .move (.tmp 1), 35, _, _, some (11, false)⟩) (v := undef) rfl (by kernel_rfl) (by kernel_rfl) (by kernel_rfl) (fun _ _ _ h => h) (Or.inr ⟨by rfl, rfl⟩) (by assumption) ?_; simp only [Act.put, sA, sB, sC]; refine wpAnyH_take (i := 18) (oi := ⟨some 35, .move (.tmp 5), 3, _, _, some (11, false)⟩) (v := undef) rfl (by kernel_rfl) (by kernel_rfl) (by kernel_rfl) (fun _ _ _ h => h) (Or.inr ⟨by rfl, rfl⟩) (by assumption) ?_; simp only [Act.put, sA, sB, sC]; refine wpAnyH_take (i := 19) (oi := ⟨some 36, .indexAddr 35 (.tmp 34) (.tmp 35), 0, _, _, some (11, false)⟩) (v := undef) rfl (by kernel_rfl) (by kernel_rfl) (by kernel_rfl) (fun _ _ _ h => h) (Or.inr ⟨by rfl, rfl⟩) (by assumption) ?_; simp only [Act.put, sA, sB, sC]; refine wpAnyH_take (i := 20) (oi := ⟨some 37, .fieldAddr 56 (.tmp 36) 1, 0, _, _, some (11, false)⟩) (v := undef) rfl (by kernel_rfl) (by kernel_rfl) (by kernel_rfl) (fun _ _ _ h => h) (Or.inr ⟨by rfl, rfl⟩) (by assumption) ?_; simp only [Act.put, sA, sB, sC]; refine wpAnyH_take (i := 21) (oi := ⟨some 38, .load 54 (.tmp 37), 54, _, _, some (11, false)⟩) (v := undef) rfl (by kernel_rfl) (by kernel_rfl) (by kernel_rfl) (fun _ _ _ h => h) (Or.inr ⟨by rfl, rfl⟩) (by assumption) ?_; simp only [Act.put, sA, sB, sC]; refine wpAnyH_take (i := 22) (oi := ⟨some 39, .call { callee := .value (.func 62), args := #[.tmp 33, .tmp 38], argTypes := #[54, 54] }, 4, _, _, some (11, false)⟩) (v := undef) rfl (by kernel_rfl) (by kernel_rfl) (by kernel_rfl) (fun _ _ _ h => h) (Or.inr ⟨by rfl, rfl⟩) (by assumption) ?_; simp only [Act.put, sA, sB, sC]; refine wpAnyH_take (i := 23) (oi := ⟨some 40, .unOp UnOp.not 4 (.tmp 39), 4, _, _, some (11, false)⟩) (v := undef) rfl (by kernel_rfl) (by kernel_rfl) (by kernel_rfl) (fun _ _ _ h => h) (Or.inr ⟨by rfl, rfl⟩) (by assumption) ?_; simp only [Act.put, sA, sB, sC]; refine tQ 24 ⟨some 41, .pick (.tmp 28) (.const (Value.bool true)) (.tmp 40), 4, _, _, none⟩ ?_; simp only [Act.put, sA, sB, sC]; refine wpAnyH_done (by kernel_rfl) ?_ _; go_wp2_with fail; go_ret; exact ⟨ret_bool HRF.out.symm, hs⟩
   · obtain rfl : k = l1.length := by omega
     have hall : l1.map (·.1) = l2.map (·.1) := by
       have h := heq.out
       rwa [List.take_of_length_le (by simp), List.take_of_length_le (by have := HLEN.out; simp; omega)] at h
     have HRT := Lib.hid (show r = true by rw [← HR.out, hall]; exact decide_eq_true rfl); clear hall; go_wp2; go_ret; exact ⟨ret_bool HRT.out.symm, H.out⟩
set_option maxHeartbeats 2000000 in
set_option maxRecDepth 100000 in
theorem ref14_sameT (p e t s u st : Int) (l1 l2 : List (TopS × Value)) (q1 q2 : Option Addr) (cap1 cap2 : Nat) (hr : l1.map (·.1) = l2.map (·.1)) (hf1 : LenT l1) (hf2 : LenT l2) {W0 w : World} {K : Know} {L : List Res} (hk1 : K.has (Know.tops (.slice q1 l1.length cap1) l1)) (hk2 : K.has (Know.tops (.slice q2 l2.length cap2) l2)) (h : St W0 w K L) :
  Calls Try.prog 22 #[.agg #[.int .i64 p, .int .i64 e, .int .i64 t, .int .i64 s, .slice q1 l1.length cap1, .int .i64 u, .int .i64 st], .agg #[.int .i64 p, .int .i64 e, .int .i64 t, .int .i64 s, .slice q2 l2.length cap2, .int .i64 u, .int .i64 st]] w fun en w' => en = .returned (.bool true) ∧ St W0 w' K L := by
 have h0 := (h.allocRaw #[.int .i64 p, .int .i64 e, .int .i64 t, .int .i64 s, .slice q1 l1.length cap1, .int .i64 u, .int .i64 st] 37).allocRaw #[.int .i64 p, .int .i64 e, .int .i64 t, .int .i64 s, .slice q2 l2.length cap2, .int .i64 u, .int .i64 st] 37; rw [World.size_alloc] at h0; have H := Lib.hid h0; have HR := Lib.hid (decide_eq_true hr); have HF1 := Lib.hid hf1; have HF2 := Lib.hid hf2; have HK1 := Lib.hid hk1; have HK2 := Lib.hid hk2; clear h h0 hr hf1 hf2 hk1 hk2; go_enter Try.func22, Try.ntmps22; go_wp2_with (go_at_call 43; (with_reducible refine (ref14_sameTopics l1 l2 q1 q2 cap1 cap2 true HR.out HF1.out HF2.out HK1.out HK2.out H.out).mono ?_); rintro e_ wn ⟨rfl, h⟩; have c5 := h.rawCell 5; have c6 := h.rawCell 6; have d5 := h.p1.rawCell 5; have d6 := h.p1.rawCell 6; simp at c5 c6 d5 d6; replace H := Lib.hid h; clear h); go_ret; exact ⟨rfl, H.out.drop.drop⟩
structure AllOk (f : JF) (l : List KnR) : Prop where
  nodup : (l.map KnR.id).Nodup
  mem : ∀ x, (f x).isSome = true ↔ x ∈ l.map KnR.id
  val : ∀ x ∈ l, ∃ S, f x.id = some S ∧ S.length ≤ 1000000 ∧ valDec S = (⟨x.p, x.e, x.t, x.s, x.tl.map (·.1), x.u, x.st⟩, 0)
  ids : ∀ x ∈ l, x.id.length ≤ 40000 ∧ ∃ key, keyRd key = (x.id, 0) ∧ key.length ≤ 40100
  few : l.length ≤ 60
theorem AllOk.nil : AllOk (fun _ => none) [] := ⟨List.nodup_nil, fun x => by simp, fun x hx => (by cases hx), fun x hx => (by cases hx), by decide⟩
theorem AllOk.len {f : JF} {l : List KnR} (h : AllOk f l) {ids : List Bs} (hi : IdsOf f ids) : ids.length = l.length := by
 have hp : ids.Perm (l.map KnR.id) := (List.perm_ext_iff_of_nodup hi.nodup h.nodup).2 fun x => (hi.mem x).trans (h.mem x)
 have := hp.length_eq; rw [List.length_map] at this; exact this
theorem AllOk.at {f : JF} {l : List KnR} (h : AllOk f l) {ids : List Bs} (hi : IdsOf f ids) (k : Nat) (hk : k < ids.length) :
  ∃ i, ∃ (hl : i < l.length), l[i].id = ids[k] ∧ ∀ j (hj : j < l.length), j < i → (l[j].id == ids[k]) = false := by
 have h1 : ids[k] ∈ l.map KnR.id := (h.mem _).1 ((hi.mem _).1 (List.getElem_mem hk)); obtain ⟨i, hi2, he⟩ := List.mem_iff_getElem.1 h1; rw [List.length_map] at hi2; rw [List.getElem_map] at he; refine ⟨i, hi2, he, fun j hj hji => ?_⟩; rw [beq_eq_false_iff_ne]; intro h2; have h3 := List.pairwise_iff_getElem.1 h.nodup j i (by rw [List.length_map]; exact hj) (by rw [List.length_map]; exact hi2) hji
 apply h3
 rw [List.getElem_map, List.getElem_map, h2, he]
def k97 : Bs := keyBytes [97]
theorem k97_enc : keyEnc [97] = (k97, 0) := by kernel_rfl
theorem k97_rd : keyRd k97 = ([97], 0) := by kernel_rfl
theorem k97_len : k97.length ≤ 40100 := by decide
theorem put_z (k S : Bs) (hk : k97 = k) (hS : vz37 = S) {W0 w : World} {K : Know} {L : List Res} (h : St W0 w K L) :
  Calls Try.prog 16 #[.string ⟨#[97]⟩, .agg #[.int .i64 0, .int .i64 0, .int .i64 0, .int .i64 0, .slice none 0 0, .int .i64 0, .int .i64 (-1)]] w fun en w' => en = .returned (.tuple #[.agg #[.string (bb k), .bool false, .string (bb S)], .int .i64 0]) ∧ St W0 w' K L := by
 subst hk; subst hS; have h2 : St W0 w (K.and (Know.tops (.slice none 0 0) [])) L := h.know (tops_nil K); refine (jr_put [97] k97 vz37 k97_enc (by decide) 0 0 0 0 0 (-1) [] none 0 [] rfl rfl (by kernel_rfl) (by unfold ValS.R; exact ⟨by decide, by decide, by decide, by decide, by decide, by decide⟩) few_nil (Know.has_right (Know.has_refl _)) h2).mono ?_; rintro e_ wn ⟨rfl, h3⟩; exact ⟨rfl, h3.know (Know.has_left (Know.has_refl _))⟩
theorem drop_z (k : Bs) (hk : k97 = k) {W0 w : World} {K : Know} {L : List Res} (h : St W0 w K L) :
  Calls Try.prog 17 #[.string ⟨#[97]⟩] w fun en w' => en = .returned (.tuple #[.agg #[.string (bb k), .bool true, .string (bb [])], .int .i64 0]) ∧ St W0 w' K L := by
 subst hk; exact jr_drop [97] k97 k97_enc (by decide) h
theorem apply_z1 (jb mb : Nat) (k S : Bs) (hk : k97 = k) (hS : vz37 = S) {W0 w : World} {K : Know} {L : List Res} (h : St W0 w K (.raw jb #[.map (some mb), .int .i64 0] 63 :: .gen (jmap mb 0 (fun _ => none)) :: L)) :
  Calls Try.prog 11 #[.pointer (some ⟨jb, 0, none⟩), .agg #[.string (bb k), .bool false, .string (bb S)]] w fun en w' => en = .returned (.int .i64 0) ∧ St W0 w' K (.raw jb #[.map (some mb), .int .i64 1] 63 :: .gen (jmap mb 1 (jset (fun _ => none) [97] (some S))) :: L) := by
 subst hk; subst hS; exact jr_apply_put jb mb 0 0 _ k97 [97] vz37 0 0 0 0 0 (-1) [] k97_rd vz37_dec k97_len (by decide) (by rw [vz37_len]; decide) (by decide) (by decide) (by decide) h
theorem apply_z2 (jb mb : Nat) (f : JF) (k : Bs) (hk : k97 = k) {W0 w : World} {K : Know} {L : List Res} (h : St W0 w K (.raw jb #[.map (some mb), .int .i64 1] 63 :: .gen (jmap mb 1 f) :: L)) :
  Calls Try.prog 11 #[.pointer (some ⟨jb, 0, none⟩), .agg #[.string (bb k), .bool true, .string (bb [])]] w fun en w' => en = .returned (.int .i64 0) ∧ St W0 w' K (.raw jb #[.map (some mb), .int .i64 2] 63 :: .gen (jmap mb 1 (jset f [97] none)) :: L) := by
 subst hk; exact jr_apply_drop jb mb 1 1 f k97 [97] k97_rd k97_len (by decide) (by decide) (by decide) h
theorem get_z1 (jb mb : Nat) (S : Bs) (hS : vz37 = S) {W0 w : World} {K : Know} {L : List Res} (h : St W0 w K (.raw jb #[.map (some mb), .int .i64 1] 63 :: .gen (jmap mb 1 (jset (fun _ => none) [97] (some S))) :: L)) :
  Calls Try.prog 21 #[.pointer (some ⟨jb, 0, none⟩), .string ⟨#[97]⟩] w fun en w' => ∃ (qt : Option Addr) (capt : Nat) (lr : List (TopS × Value)), en = .returned (.tuple #[.agg #[.int .i64 0, .int .i64 0, .int .i64 0, .int .i64 0, .slice qt lr.length capt, .int .i64 0, .int .i64 (-1)], .bool true]) ∧ St W0 w' K (.raw jb #[.map (some mb), .int .i64 1] 63 :: .gen (jmap mb 1 (jset (fun _ => none) [97] (some S))) :: L) := by
 subst hS; refine (jr_get_some jb mb 1 1 _ [97] vz37 rfl (by decide) vz37_len2 0 0 0 0 0 (-1) [] vz37_dec h).mono ?_; rintro e_ wn ⟨qt, capt, lr, rfl, _, h3⟩; exact ⟨qt, capt, lr, rfl, h3.know (Know.has_left (Know.has_refl _))⟩
theorem get_z2 (jb mb : Nat) (f : JF) {W0 w : World} {K : Know} {L : List Res} (h : St W0 w K (.raw jb #[.map (some mb), .int .i64 2] 63 :: .gen (jmap mb 1 (jset f [97] none)) :: L)) :
  Calls Try.prog 21 #[.pointer (some ⟨jb, 0, none⟩), .string ⟨#[97]⟩] w fun en w' => en = .returned (.tuple #[.agg #[.int .i64 0, .int .i64 0, .int .i64 0, .int .i64 0, .slice none 0 0, .int .i64 0, .int .i64 0], .bool false]) ∧ St W0 w' K (.raw jb #[.map (some mb), .int .i64 2] 63 :: .gen (jmap mb 1 (jset f [97] none)) :: L) :=
 jr_get_none jb mb 1 2 _ [97] (by unfold jset; rw [if_pos rfl]) (by decide) h
set_option maxHeartbeats 4000000 in
set_option maxRecDepth 100000 in
theorem speaks15 {W0 w : World} {K : Know} {L : List Res} (h : St W0 w K L) :
  Calls Try.prog 5 #[] w fun en w' => en = .returned (.bool true) ∧ St W0 w' K L := by
 have H := Lib.hid h; obtain ⟨k, hk⟩ : ∃ k, k97 = k := ⟨_, rfl⟩; obtain ⟨S, hS⟩ : ∃ S, vz37 = S := ⟨_, rfl⟩; have HKK := Lib.hid hk; have HS := Lib.hid hS; clear h hk hS; go_enter Try.func5, Try.ntmps5
 go_wp2_with (first
  | (go_at_call 6; (with_reducible refine (jr_new H.out).mono ?_); rintro e_ wn ⟨jb, mb, rfl, h⟩; replace H := Lib.hid h; clear h)
  | (go_at_call 16; (with_reducible refine (put_z k S HKK.out HS.out H.out).mono ?_); rintro e_ wn ⟨rfl, h⟩; obtain ⟨ab, hab⟩ : ∃ b, wn.heap.size = b := ⟨_, rfl⟩; have h := h.allocRaw #[.string (bb k), .bool false, .string (bb S)] 30; rw [hab] at h; have a0 := (h).rawCell 0; have a1 := (h).rawCell 1; have a2 := (h).rawCell 2; simp at a0 a1 a2; replace H := Lib.hid h; clear h)
  | (go_at_call 17; (try clear a0 a1 a2 b0 b1 b2); (with_reducible refine (drop_z k HKK.out H.out).mono ?_); rintro e_ wn ⟨rfl, h⟩; obtain ⟨bb9, hbb9⟩ : ∃ b, wn.heap.size = b := ⟨_, rfl⟩; have h := h.allocRaw #[.string (bb k), .bool true, .string (bb [])] 30; rw [hbb9] at h; have b0 := (h).rawCell 0; have b1 := (h).rawCell 1; have b2 := (h).rawCell 2; simp at b0 b1 b2; have a0 := (h.p1).rawCell 0; have a1 := (h.p1).rawCell 1; have a2 := (h.p1).rawCell 2; simp at a0 a1 a2; have h := h.p2.p3.p1; replace H := Lib.hid h; clear h)
  | (go_at_call 11; (try clear a0 a1 a2 b0 b1 b2); (with_reducible refine (apply_z1 jb mb k S HKK.out HS.out H.out).mono ?_); rintro e_ wn ⟨rfl, h⟩; have b0 := (h.p2).rawCell 0; have b1 := (h.p2).rawCell 1; have b2 := (h.p2).rawCell 2; simp at b0 b1 b2; have a0 := (h.p3).rawCell 0; have a1 := (h.p3).rawCell 1; have a2 := (h.p3).rawCell 2; simp at a0 a1 a2; replace H := Lib.hid h; clear h)
  | (go_at_call 21; (try clear a0 a1 a2 b0 b1 b2); (with_reducible refine (get_z1 jb mb S HS.out H.out).mono ?_); rintro e_ wn ⟨qt, capt, lr, rfl, h⟩; have h := h.alloc (.cells #[.int .i64 0, .int .i64 0, .int .i64 0, .int .i64 0, .slice qt lr.length capt, .int .i64 0, .int .i64 (-1)] 37 (0, 0)); have b0 := (h.p2).rawCell 0; have b1 := (h.p2).rawCell 1; have b2 := (h.p2).rawCell 2; simp at b0 b1 b2; have a0 := (h.p3).rawCell 0; have a1 := (h.p3).rawCell 1; have a2 := (h.p3).rawCell 2; simp at a0 a1 a2; replace H := Lib.hid h; clear h)
  | (go_at_call 11; (try clear a0 a1 a2 b0 b1 b2); (with_reducible refine (apply_z2 jb mb _ k HKK.out H.out).mono ?_); rintro e_ wn ⟨rfl, h⟩; have b0 := (h.p2).rawCell 0; have b1 := (h.p2).rawCell 1; have b2 := (h.p2).rawCell 2; simp at b0 b1 b2; have a0 := (h.p3).rawCell 0; have a1 := (h.p3).rawCell 1; have a2 := (h.p3).rawCell 2; simp at a0 a1 a2; replace H := Lib.hid h; clear h)
  | (go_at_call 21; (try clear a0 a1 a2 b0 b1 b2); (with_reducible refine (get_z2 jb mb _ H.out).mono ?_); rintro e_ wn ⟨rfl, h⟩; have h := h.alloc (.cells #[.int .i64 0, .int .i64 0, .int .i64 0, .int .i64 0, .slice none 0 0, .int .i64 0, .int .i64 0] 37 (0, 0)); replace H := Lib.hid h; clear h)
  | (go_at_call 12; (with_reducible refine (jr_many jb mb 1 2 _ H.out).mono ?_); rintro e_ wn ⟨rfl, h⟩; replace H := Lib.hid h; clear h))
 go_ret; exact ⟨rfl, H.out.drop.drop.drop.drop⟩
set_option maxHeartbeats 4000000 in
set_option maxRecDepth 100000 in
theorem jr_put_key (id key : Bs) (E : Int) (hke : keyEnc id = (key, E)) (h0 : E ≠ 0) (hil : id.length ≤ 40000) (p e t s u st : Int) (l : List (TopS × Value)) (q : Option Addr) (cap : Nat) {W0 w : World} {K : Know} {L : List Res} (h : St W0 w K L) :
  Calls Try.prog 16 #[.string (bb id), .agg #[.int .i64 p, .int .i64 e, .int .i64 t, .int .i64 s, .slice q l.length cap, .int .i64 u, .int .i64 st]] w fun en w' => en = .returned (.tuple #[.agg #[.string ⟨#[]⟩, .bool false, .string ⟨#[]⟩], .int .i64 E]) ∧ St W0 w' K L := by
 obtain ⟨vb, hvb⟩ : ∃ b, w.heap.size = b := ⟨_, rfl⟩; obtain ⟨rb, hrb⟩ : ∃ b, vb + 1 = b := ⟨_, rfl⟩; have g1 := (h.allocRaw #[.int .i64 p, .int .i64 e, .int .i64 t, .int .i64 s, .slice q l.length cap, .int .i64 u, .int .i64 st] 37).allocRaw #[.string ⟨#[]⟩, .bool false, .string ⟨#[]⟩] 30; simp only [World.size_alloc, hvb, hrb] at g1; have c0 := (g1.p1).rawCell 0; have c1 := (g1.p1).rawCell 1; have c2 := (g1.p1).rawCell 2; have c3 := (g1.p1).rawCell 3; have c4 := (g1.p1).rawCell 4; have c5 := (g1.p1).rawCell 5; have c6 := (g1.p1).rawCell 6; simp at c0 c1 c2 c3 c4 c5 c6; have d0 := (g1).rawCell 0; have d1 := (g1).rawCell 1; have d2 := (g1).rawCell 2; simp at d0 d1 d2; have r0 := (g1).rawFree 0; have r1 := (g1).rawFree 1; have r2 := (g1).rawFree 2; have H := Lib.hid g1; have HKE := Lib.hid hke; have HIL := Lib.hid hil; have e1 : (E == 0) = false := by rw [beq_eq_false_iff_ne]; exact h0
 have e2 : (E != 0) = true := by simp [bne, e1]
 clear h g1 hke hil h0; go_enter Try.func16, Try.ntmps16; go_wp2_with (go_at_call 18; clear c0 c1 c2 c3 c4 c5 c6 d0 d1 d2 r0 r1 r2; (with_reducible refine (key_encode' id key E HIL.out HKE.out H.out).mono ?_); rintro e_ wn ⟨rfl, h⟩; have c0 := (h.p1).rawCell 0; have c1 := (h.p1).rawCell 1; have c2 := (h.p1).rawCell 2; have c3 := (h.p1).rawCell 3; have c4 := (h.p1).rawCell 4; have c5 := (h.p1).rawCell 5; have c6 := (h.p1).rawCell 6; simp at c0 c1 c2 c3 c4 c5 c6; have d0 := (h).rawCell 0; have d1 := (h).rawCell 1; have d2 := (h).rawCell 2; simp at d0 d1 d2; have r0 := (h).rawFree 0; have r1 := (h).rawFree 1; have r2 := (h).rawFree 2; replace H := Lib.hid h; clear h); have hz : St W0 _ K (.raw rb #[.string ⟨#[]⟩, .bool false, .string ⟨#[]⟩] 30 :: _) := ((H.out.rawSet 0 (.string ⟨#[]⟩)).rawSet 1 (.bool false)).rawSet 2 (.string ⟨#[]⟩); refine bodyPost_ret (rc_cell_tmp rfl _ _ rb [.string ⟨#[]⟩, .bool false, .string ⟨#[]⟩] _ rfl (rc_range hz) Try.underlying30 rfl (by kernel_rfl)) rfl ?_; exact ⟨rfl, hz.drop.drop⟩
set_option maxHeartbeats 4000000 in
set_option maxRecDepth 100000 in
theorem jr_put_val (id key : Bs) (E : Int) (hke : keyEnc id = (key, 0)) (hil : id.length ≤ 40000) (p e t s u st : Int) (l : List (TopS × Value)) (q : Option Addr) (cap : Nat) (tl : List TopS) (htl : l.map (·.1) = tl) (he : ValS.err ⟨p, e, t, s, tl, u, st⟩ = E) (h0 : E ≠ 0) (hf : FewT l) {W0 w : World} {K : Know} {L : List Res} (hk : K.has (Know.tops (.slice q l.length cap) l)) (h : St W0 w K L) :
  Calls Try.prog 16 #[.string (bb id), .agg #[.int .i64 p, .int .i64 e, .int .i64 t, .int .i64 s, .slice q l.length cap, .int .i64 u, .int .i64 st]] w fun en w' => en = .returned (.tuple #[.agg #[.string ⟨#[]⟩, .bool false, .string ⟨#[]⟩], .int .i64 E]) ∧ St W0 w' K L := by
 obtain ⟨vb, hvb⟩ : ∃ b, w.heap.size = b := ⟨_, rfl⟩; obtain ⟨rb, hrb⟩ : ∃ b, vb + 1 = b := ⟨_, rfl⟩; have g1 := (h.allocRaw #[.int .i64 p, .int .i64 e, .int .i64 t, .int .i64 s, .slice q l.length cap, .int .i64 u, .int .i64 st] 37).allocRaw #[.string ⟨#[]⟩, .bool false, .string ⟨#[]⟩] 30; simp only [World.size_alloc, hvb, hrb] at g1; have c0 := (g1.p1).rawCell 0; have c1 := (g1.p1).rawCell 1; have c2 := (g1.p1).rawCell 2; have c3 := (g1.p1).rawCell 3; have c4 := (g1.p1).rawCell 4; have c5 := (g1.p1).rawCell 5; have c6 := (g1.p1).rawCell 6; simp at c0 c1 c2 c3 c4 c5 c6; have d0 := (g1).rawCell 0; have d1 := (g1).rawCell 1; have d2 := (g1).rawCell 2; simp at d0 d1 d2; have r0 := (g1).rawFree 0; have r1 := (g1).rawFree 1; have r2 := (g1).rawFree 2; have H := Lib.hid g1; have HKE := Lib.hid hke; have HIL := Lib.hid hil; have HT := Lib.hid htl; have HE := Lib.hid he; have H0 := Lib.hid h0; have HF := Lib.hid hf; have HK := Lib.hid hk; have e1 : (E == 0) = false := by rw [beq_eq_false_iff_ne]; exact h0
 have e2 : (E != 0) = true := by simp [bne, e1]
 clear h g1 hke hil h0 htl he hf hk; go_enter Try.func16, Try.ntmps16
 go_wp2_with (first
  | (go_at_call 18; clear c0 c1 c2 c3 c4 c5 c6 d0 d1 d2 r0 r1 r2; (with_reducible refine (key_encode' id key 0 HIL.out HKE.out H.out).mono ?_); rintro e_ wn ⟨rfl, h⟩; have c0 := (h.p1).rawCell 0; have c1 := (h.p1).rawCell 1; have c2 := (h.p1).rawCell 2; have c3 := (h.p1).rawCell 3; have c4 := (h.p1).rawCell 4; have c5 := (h.p1).rawCell 5; have c6 := (h.p1).rawCell 6; simp at c0 c1 c2 c3 c4 c5 c6; have d0 := (h).rawCell 0; have d1 := (h).rawCell 1; have d2 := (h).rawCell 2; simp at d0 d1 d2; have r0 := (h).rawFree 0; have r1 := (h).rawFree 1; have r2 := (h).rawFree 2; replace H := Lib.hid h; clear h)
  | (go_at_call 33; clear c0 c1 c2 c3 c4 c5 c6 d0 d1 d2 r0 r1 r2; (with_reducible refine (val_encode_badS p e t s u st l q cap tl HT.out E HE.out H0.out HF.out HK.out H.out).mono ?_); rintro e_ wn ⟨rfl, h⟩; have d0 := (h).rawCell 0; have d1 := (h).rawCell 1; have d2 := (h).rawCell 2; simp at d0 d1 d2; have r0 := (h).rawFree 0; have r1 := (h).rawFree 1; have r2 := (h).rawFree 2; replace H := Lib.hid h; clear h))
 have hz : St W0 _ K (.raw rb #[.string ⟨#[]⟩, .bool false, .string ⟨#[]⟩] 30 :: _) := ((H.out.rawSet 0 (.string ⟨#[]⟩)).rawSet 1 (.bool false)).rawSet 2 (.string ⟨#[]⟩); refine bodyPost_ret (rc_cell_tmp rfl _ _ rb [.string ⟨#[]⟩, .bool false, .string ⟨#[]⟩] _ rfl (rc_range hz) Try.underlying30 rfl (by kernel_rfl)) rfl ?_; exact ⟨rfl, hz.drop.drop⟩
set_option maxHeartbeats 4000000 in
set_option maxRecDepth 100000 in
theorem jr_drop_key (id key : Bs) (E : Int) (hke : keyEnc id = (key, E)) (h0 : E ≠ 0) (hil : id.length ≤ 40000) {W0 w : World} {K : Know} {L : List Res} (h : St W0 w K L) :
  Calls Try.prog 17 #[.string (bb id)] w fun en w' => en = .returned (.tuple #[.agg #[.string ⟨#[]⟩, .bool false, .string ⟨#[]⟩], .int .i64 E]) ∧ St W0 w' K L := by
 obtain ⟨rb, hrb⟩ : ∃ b, w.heap.size = b := ⟨_, rfl⟩; have g1 := h.allocRaw #[.string ⟨#[]⟩, .bool false, .string ⟨#[]⟩] 30; rw [hrb] at g1; have d0 := (g1).rawCell 0; have d1 := (g1).rawCell 1; have d2 := (g1).rawCell 2; simp at d0 d1 d2; have r0 := (g1).rawFree 0; have r1 := (g1).rawFree 1; have r2 := (g1).rawFree 2; have H := Lib.hid g1; have HKE := Lib.hid hke; have HIL := Lib.hid hil; have e1 : (E == 0) = false := by rw [beq_eq_false_iff_ne]; exact h0
 have e2 : (E != 0) = true := by simp [bne, e1]
 clear h g1 hke hil h0; go_enter Try.func17, Try.ntmps17; go_wp2_with (go_at_call 18; clear d0 d1 d2 r0 r1 r2; (with_reducible refine (key_encode' id key E HIL.out HKE.out H.out).mono ?_); rintro e_ wn ⟨rfl, h⟩; have d0 := (h).rawCell 0; have d1 := (h).rawCell 1; have d2 := (h).rawCell 2; simp at d0 d1 d2; have r0 := (h).rawFree 0; have r1 := (h).rawFree 1; have r2 := (h).rawFree 2; replace H := Lib.hid h; clear h); have hz : St W0 _ K (.raw rb #[.string ⟨#[]⟩, .bool false, .string ⟨#[]⟩] 30 :: _) := ((H.out.rawSet 0 (.string ⟨#[]⟩)).rawSet 1 (.bool false)).rawSet 2 (.string ⟨#[]⟩); refine bodyPost_ret (rc_cell_tmp rfl _ _ rb [.string ⟨#[]⟩, .bool false, .string ⟨#[]⟩] _ rfl (rc_range hz) Try.underlying30 rfl (by kernel_rfl)) rfl ?_; exact ⟨rfl, hz.drop⟩
theorem unf_lt {w : World} {k : Nat} (h : Unf w k) : k < w.heap.size := by
 obtain ⟨c, T, h⟩ := h; exact heap_lt h
def allG (w : World) : Gen where
  p w' S := (∀ k, S k ↔ k < w.heap.size) ∧ ∀ k, k < w.heap.size → w'.heap[k]? = w.heap[k]?
  keep w1 w2 S h hs hk := ⟨h.1, fun k hl => by
    by_cases h2 : k < w1.heap.size
    · rw [hk k h2 ((h.1 k).2 hl), h.2 k hl]
    · have := h.2 k hl; rw [Array.getElem?_eq_none (by omega)] at this; rw [Array.getElem?_eq_getElem hl] at this
      cases this⟩
def ownK (kn : Know) : Gen where
  p w S := kn.p w S ∧ ∀ k, S k → Unf w k
  keep w w' S h hs hk := ⟨kn.keep w w' S h.1 hs hk, fun k hk2 => (h.2 k hk2).same (hk k (unf_lt (h.2 k hk2)) hk2)⟩
def noHeap (w : World) : World := { w with heap := #[] }
theorem St.alone (w : World) : St (noHeap w) w Know.none [.gen (allG w)] := by
 refine ⟨⟨rfl, rfl, rfl, Nat.zero_le _, fun k hk => absurd hk (Nat.not_lt_zero k)⟩, fun k => k < w.heap.size, fun _ => False, ⟨fun k => k < w.heap.size, fun _ => False, ⟨fun _ => Iff.rfl, fun _ _ => rfl⟩, fun _ h => h, fun _ _ h => h, fun k => ⟨.inl, fun h => h.elim id False.elim⟩⟩, fun k hk => ⟨Nat.zero_le _, hk⟩, trivial, fun k hk => hk.elim⟩
theorem St.owned {W0 w w' : World} {K kn : Know} {L : List Res} (h : St W0 w K L) (h' : St (noHeap w) w' (Know.none.and kn) [.gen (allG w)]) : St W0 w' K (.gen (ownK kn) :: L) := by
 obtain ⟨hb, S, F, ⟨S1, S2, g1, g2, _, g4⟩, gs, ⟨_, gk⟩, ge⟩ := h'; have g1 : (∀ k, S1 k ↔ k < w.heap.size) ∧ ∀ k, k < w.heap.size → w'.heap[k]? = w.heap[k]? := g1
 have hsz : w.heap.size ≤ w'.heap.size := by
  rcases Nat.lt_or_ge w'.heap.size w.heap.size with hl | hl
  · have h1 := g1.2 _ hl; rw [Array.getElem?_eq_none (Nat.le_refl _), Array.getElem?_eq_getElem hl] at h1
    cases h1
  · exact hl
 have hk : Keeps (fun _ => False) w w' := ⟨hb.os, hb.tape, hb.output, hsz, fun k hk _ => g1.2 k hk⟩
 have hF : ∀ k, F k → w.heap.size ≤ k ∧ k < w'.heap.size ∧ Unf w' k := fun k hk => by
  obtain ⟨e1, e2, e3⟩ := ge k hk; refine ⟨?_, e1, e3 (Nat.zero_le _)⟩
  rcases Nat.lt_or_ge k w.heap.size with hl | hl
  · exact absurd ((g4 k).2 (.inl ((g1.1 k).2 hl))) e2
  · exact hl
 exact h.new (r := .gen (ownK kn)) (S1 := F) hk ⟨gk, fun k hk => (hF k hk).2.2⟩ fun j hj => ⟨(hF j hj).1, (hF j hj).2.1⟩

theorem val_decode_own (S : Bs) (hsl : S.length ≤ 1000000) (p e t s u st : Int) (tops : List TopS) (hv : valDec S = (⟨p, e, t, s, tops, u, st⟩, 0)) {W0 w : World} {K : Know} {L : List Res} (h : St W0 w K L) :
  Calls Try.prog 9 #[.string (bb S)] w fun en w' => ∃ (qt : Option Addr) (capt : Nat) (lr : List (TopS × Value)), en = .returned (.tuple #[.agg #[.int .i64 p, .int .i64 e, .int .i64 t, .int .i64 s, .slice qt lr.length capt, .int .i64 u, .int .i64 st], .int .i64 0]) ∧ lr.map (·.1) = tops ∧ St W0 w' K (.gen (ownK (Know.tops (.slice qt lr.length capt) lr)) :: L) := by
 refine (val_decode_okV S hsl p e t s u st tops hv (St.alone w)).mono ?_; rintro e_ wn ⟨qt, capt, lr, rfl, hlr, h'⟩; exact ⟨qt, capt, lr, rfl, hlr, h.owned h'⟩

set_option maxHeartbeats 4000000 in
set_option maxRecDepth 100000 in
theorem jr_get_own (jb mb n : Nat) (m : Int) (f : JF) (id S : Bs) (hf : f id = some S) (hl : id.length ≤ 1000000) (hs : S.length ≤ 1000000) (p e t s u st : Int) (tops : List TopS) (hv : valDec S = (⟨p, e, t, s, tops, u, st⟩, 0)) {W0 w : World} {K : Know} {L : List Res} (h : St W0 w K (.raw jb #[.map (some mb), .int .i64 m] 63 :: .gen (jmap mb n f) :: L)) :
  Calls Try.prog 21 #[.pointer (some ⟨jb, 0, none⟩), .string (bb id)] w fun en w' => ∃ (qt : Option Addr) (capt : Nat) (lr : List (TopS × Value)), en = .returned (.tuple #[.agg #[.int .i64 p, .int .i64 e, .int .i64 t, .int .i64 s, .slice qt lr.length capt, .int .i64 u, .int .i64 st], .bool true]) ∧ lr.map (·.1) = tops ∧ St W0 w' K (.raw jb #[.map (some mb), .int .i64 m] 63 :: .gen (jmap mb n f) :: .gen (ownK (Know.tops (.slice qt lr.length capt) lr)) :: L) := by
 obtain ⟨rb, hrb⟩ : ∃ b, w.heap.size = b := ⟨_, rfl⟩; have g1 := h.allocRaw #[.int .i64 0, .int .i64 0, .int .i64 0, .int .i64 0, .slice none 0 0, .int .i64 0, .int .i64 0] 37; rw [hrb] at g1; have c0 := (g1.p1).rawCell 0; have c1 := (g1.p1).rawCell 1; simp at c0 c1; have d0 := (g1).rawCell 0; have d1 := (g1).rawCell 1; have d2 := (g1).rawCell 2; have d3 := (g1).rawCell 3; have d4 := (g1).rawCell 4; have d5 := (g1).rawCell 5; have d6 := (g1).rawCell 6; simp at d0 d1 d2 d3 d4 d5 d6; have r0 := (g1).rawFree 0; have r1 := (g1).rawFree 1; have r2 := (g1).rawFree 2; have r3 := (g1).rawFree 3; have r4 := (g1).rawFree 4; have r5 := (g1).rawFree 5; have r6 := (g1).rawFree 6; have g2 := g1.p2; have H := Lib.hid g2; have HF := Lib.hid hf; have HV := Lib.hid hv; have HSL := Lib.hid hs; have HL := Lib.hid (show id.length ≤ 9223372036854775807 by omega); have hrun := jlook_some g2 61 mapT id S HL.out hf; clear h hf hl g1 g2 hv hs; go_enter Try.func21, Try.ntmps21; go_wp2_with (go_at_call 9; (try clear c0 c1 d0 r0 d1 r1 d2 r2 d3 r3 d4 r4 d5 r5 d6 r6); (with_reducible refine (val_decode_own S HSL.out p e t s u st tops HV.out H.out).mono ?_); rintro e_ wn ⟨qt, capt, lr, rfl, hlr, h⟩; obtain ⟨vb, hvb⟩ : ∃ b, wn.heap.size = b := ⟨_, rfl⟩; have h := h.allocRaw #[.int .i64 p, .int .i64 e, .int .i64 t, .int .i64 s, .slice qt lr.length capt, .int .i64 u, .int .i64 st] 37; rw [hvb] at h; have c0 := (h).rawCell 0; have c1 := (h).rawCell 1; have c2 := (h).rawCell 2; have c3 := (h).rawCell 3; have c4 := (h).rawCell 4; have c5 := (h).rawCell 5; have c6 := (h).rawCell 6; simp at c0 c1 c2 c3 c4 c5 c6; have q0 := (h).rawFree 0; have q1 := (h).rawFree 1; have q2 := (h).rawFree 2; have q3 := (h).rawFree 3; have q4 := (h).rawFree 4; have q5 := (h).rawFree 5; have q6 := (h).rawFree 6; have d0 := (h.p3).rawCell 0; have d1 := (h.p3).rawCell 1; have d2 := (h.p3).rawCell 2; have d3 := (h.p3).rawCell 3; have d4 := (h.p3).rawCell 4; have d5 := (h.p3).rawCell 5; have d6 := (h.p3).rawCell 6; simp at d0 d1 d2 d3 d4 d5 d6; have r0 := (h.p3).rawFree 0; have r1 := (h.p3).rawFree 1; have r2 := (h.p3).rawFree 2; have r3 := (h.p3).rawFree 3; have r4 := (h.p3).rawFree 4; have r5 := (h.p3).rawFree 5; have r6 := (h.p3).rawFree 6; have HLR := Lib.hid hlr; clear hlr; replace H := Lib.hid h; clear h); have hz : St W0 _ _ (.raw rb #[.int .i64 p, .int .i64 e, .int .i64 t, .int .i64 s, .slice qt lr.length capt, .int .i64 u, .int .i64 st] 37 :: _) := St.sets7 _ _ _ _ _ _ _ (H.out.p3); refine bodyPost_ret (rc_cell_tmp rfl _ _ rb [.int .i64 p, .int .i64 e, .int .i64 t, .int .i64 s, .slice qt lr.length capt, .int .i64 u, .int .i64 st] _ rfl (rc_range hz) Try.underlying37 rfl (by kernel_rfl)) rfl ?_; exact ⟨qt, capt, lr, rfl, HLR.out, hz.drop.drop.p1.p2⟩
theorem Holds.cons2 {w : World} {a b : Res} {L : List Res} {S : Nat → Prop} (h : Holds (a :: L) w S) (hL : ∀ S1, a.holds w S1 → b.holds w S1) : Holds (b :: L) w S := by
 obtain ⟨S1, S2, h1, h2, h3, h4⟩ := h; exact ⟨S1, S2, hL S1 h1, h2, h3, h4⟩

def MutAt (w : World) (S : Nat → Prop) (b off : Nat) (v : Value) (i : Nat) : Prop :=
  (∃ s, w.cell? ⟨b, off + i * 2, none⟩ = some (.string s)) ∧ w.cell? ⟨b, off + i * 2 + 1, none⟩ = some v ∧ ∃ pb po n c, v = .slice (some ⟨pb, po, none⟩) n c ∧ 0 < n ∧ S pb ∧ ∃ z, w.cell? ⟨pb, po, none⟩ = some (.int .i64 z)
def mutG (q : Option Addr) (lr : List (TopS × Value)) : Gen where
  p w S := (∀ k, S k → Unf w k) ∧ (0 < lr.length → ∃ b off, q = some ⟨b, off, none⟩ ∧ S b ∧ ∀ i (h : i < lr.length), MutAt w S b off lr[i].2 i)
  keep w w' S h hs hk := by
    have hb : ∀ k, S k → w'.heap[k]? = w.heap[k]? := fun k hk2 => by
      obtain ⟨c, T, hc⟩ := h.1 k hk2; exact hk k (heap_lt hc) hk2
    refine ⟨fun k hk2 => (h.1 k hk2).same (hb k hk2), fun h0 => ?_⟩; obtain ⟨b, off, hq, hS, hi⟩ := h.2 h0; refine ⟨b, off, hq, hS, fun i hl => ?_⟩; obtain ⟨⟨s, h1⟩, h2, pb, po, n, c, h3, h4, h5, z, h6⟩ := hi i hl; exact ⟨⟨s, (World.cell?_of_block (a := ⟨b, off + i * 2, none⟩) (hb b hS)).trans h1⟩, (World.cell?_of_block (a := ⟨b, off + i * 2 + 1, none⟩) (hb b hS)).trans h2, pb, po, n, c, h3, h4, h5, z, (World.cell?_of_block (a := ⟨pb, po, none⟩) (hb pb h5)).trans h6⟩
theorem St.mutOf {W0 w : World} {K : Know} {L : List Res} {q : Option Addr} {cap : Nat} {lr : List (TopS × Value)} (h : St W0 w K (.gen (ownK (Know.tops (.slice q lr.length cap) lr)) :: L)) (hp : ∀ x ∈ lr, 0 < x.1.parts.length) : St W0 w K (.gen (mutG q lr) :: L) := by
 refine h.map fun S hS => hS.cons2 fun S1 h1 => ?_
 obtain ⟨⟨g1, g2⟩, g3⟩ := h1; refine ⟨g3, fun h0 => ?_⟩; obtain ⟨q2, cap2, hv, hr⟩ := g1; injection hv with hv1 hv2 hv3; obtain ⟨b, off, hq, hb, _, hc⟩ := hr h0; refine ⟨b, off, hv1.trans hq, hb, fun i hi => ?_⟩; obtain ⟨cs, _, hR, hcs⟩ := hc i hi; have hR : cs = [.string (bb lr[i].1.name), lr[i].2] := hR; subst hR; have hx := g2 lr[i] (List.getElem_mem hi); obtain ⟨p2, c2, hv2, hr2⟩ := hx; have h9 := hp lr[i] (List.getElem_mem hi); obtain ⟨pb, po, hpq, hpb, _, hpc⟩ := hr2 h9; obtain ⟨cs2, _, hR2, hcs2⟩ := hpc 0 h9; have hR2 : cs2 = [.int .i64 lr[i].1.parts[0]] := hR2; subst hR2; refine ⟨⟨_, hcs 0 _ rfl⟩, by rw [Nat.add_assoc]; exact hcs 1 _ rfl, pb, po, _, _, by rw [hv2, hpq], h9, hpb, _, hcs2 0 _ rfl⟩

theorem unf_set {w : World} {k b j : Nat} {v : Value} (h : Unf w k) (hb : Unf w b) : Unf (w.setCell ⟨b, j, none⟩ v) k := by
 by_cases e : k = b
 · subst e; obtain ⟨c, T, hc⟩ := h; exact ⟨_, T, heap_setCell_self hc v⟩
 · exact h.same (RowKit.Below.heap_setCell _ _ _ _ e)
theorem MutAt.set {w : World} {S : Nat → Prop} {b off i : Nat} {v u old : Value} {a : Addr} (h : MutAt w S b off v i) (ho : w.cell? a = some old) (hk : (∃ z y, old = .int .i64 z ∧ u = .int .i64 y) ∨ ∃ s y, old = .string s ∧ u = .string y) (hv : ∃ q n c, v = .slice q n c) : MutAt (w.setCell a u) S b off v i := by
 obtain ⟨⟨s, h1⟩, h2, pb, po, n, c, h3, h4, h5, z, h6⟩ := h; refine ⟨?_, ?_, pb, po, n, c, h3, h4, h5, ?_⟩
 · by_cases e : a = ⟨b, off + i * 2, none⟩
   · subst e; rw [ho] at h1; injection h1 with h1; subst h1
     rcases hk with ⟨_, _, hk, _⟩ | ⟨_, y, _, hu⟩
     · cases hk
     · exact ⟨y, by rw [hu]; exact World.cell?_setCell_same _ _ _ ho⟩
   · exact ⟨s, (World.cell?_setCell_other _ _ _ _ e).trans h1⟩
 · by_cases e : a = ⟨b, off + i * 2 + 1, none⟩
   · subst e; rw [ho] at h2; injection h2 with h2; obtain ⟨_, _, _, hv⟩ := hv; subst hv
     rcases hk with ⟨_, _, hk, _⟩ | ⟨_, _, hk, _⟩ <;> rw [h2] at hk <;> cases hk
   · exact (World.cell?_setCell_other _ _ _ _ e).trans h2
 · by_cases e : a = ⟨pb, po, none⟩
   · subst e; rw [ho] at h6; injection h6 with h6; subst h6
     rcases hk with ⟨_, y, _, hu⟩ | ⟨_, _, hk, _⟩
     · exact ⟨y, by rw [hu]; exact World.cell?_setCell_same _ _ _ ho⟩
     · cases hk
   · exact ⟨z, (World.cell?_setCell_other _ _ _ _ e).trans h6⟩
theorem St.mutSet {W0 w : World} {K : Know} {L : List Res} {q : Option Addr} {lr : List (TopS × Value)} (h : St W0 w K (.gen (mutG q lr) :: L)) (b j : Nat) (old u : Value) (hS : ∀ S1, (mutG q lr).p w S1 → S1 b) (ho : w.cell? ⟨b, j, none⟩ = some old) (hk : (∃ z y, old = .int .i64 z ∧ u = .int .i64 y) ∨ ∃ s y, old = .string s ∧ u = .string y) : St W0 (w.setCell ⟨b, j, none⟩ u) K (.gen (mutG q lr) :: L) := by
 refine h.step fun S1 h1 => ⟨S1, ?_, (Keeps.refl _ _).setCell _ _ (.inl (hS S1 h1)), fun k hk2 => ⟨.inl hk2, ?_⟩⟩
 · have hub := h1.1 b (hS S1 h1); refine ⟨fun k hk2 => unf_set (h1.1 k hk2) hub, fun h0 => ?_⟩; obtain ⟨b2, off, hq, hSb, hi⟩ := h1.2 h0; refine ⟨b2, off, hq, hSb, fun i hl => ?_⟩; have hm := hi i hl; obtain ⟨_, _, pb, po, n, c, h3, _⟩ := id hm; exact hm.set ho hk ⟨_, _, _, h3⟩
 · obtain ⟨c, T, hc⟩ := unf_set (j := j) (v := u) (h1.1 k hk2) (h1.1 b (hS S1 h1)); exact heap_lt hc
theorem St.mutGet {W0 w : World} {K : Know} {L : List Res} {q : Option Addr} {lr : List (TopS × Value)} (h : St W0 w K (.gen (mutG q lr) :: L)) (i : Nat) (hi : i < lr.length) :
   ∃ b off s pb po n c z, q = some ⟨b, off, none⟩ ∧ lr[i].2 = .slice (some ⟨pb, po, none⟩) n c ∧ 0 < n ∧ w.cell? ⟨b, off + i * 2, none⟩ = some (.string s) ∧ w.frozen? ⟨b, off + i * 2, none⟩ = false ∧ w.cell? ⟨b, off + i * 2 + 1, none⟩ = some (.slice (some ⟨pb, po, none⟩) n c) ∧ w.cell? ⟨pb, po, none⟩ = some (.int .i64 z) ∧ w.frozen? ⟨pb, po, none⟩ = false ∧
    (∀ y, St W0 (w.setCell ⟨pb, po, none⟩ (.int .i64 y)) K (.gen (mutG q lr) :: L)) ∧ (∀ y, St W0 (w.setCell ⟨b, off + i * 2, none⟩ (.string y)) K (.gen (mutG q lr) :: L)) := by
 obtain ⟨_, S, F, ⟨S1, S2, h1, _⟩, _⟩ := id h; obtain ⟨hu, hx⟩ := h1; obtain ⟨b, off, hq, hSb, hi2⟩ := hx (by omega); obtain ⟨⟨s, g1⟩, g2, pb, po, n, c, g3, g4, g5, z, g6⟩ := hi2 i hi; obtain ⟨cb, Tb, hb⟩ := hu b hSb; obtain ⟨cp, Tp, hpb⟩ := hu pb g5; refine ⟨b, off, s, pb, po, n, c, z, hq, g3, g4, g1, free_at hb _, by rw [← g3]; exact g2, g6, free_at hpb _, fun y => h.mutSet pb po _ _ (fun S9 h9 => ?_) g6 (.inl ⟨z, y, rfl, rfl⟩), fun y => h.mutSet b _ _ _ (fun S9 h9 => ?_) g1 (.inr ⟨s, y, rfl, rfl⟩)⟩
 · obtain ⟨b3, off3, hq3, _, hi3⟩ := h9.2 (by omega); obtain ⟨_, _, pb3, po3, n3, c3, e3, _, e5, _⟩ := hi3 i hi; rw [g3] at e3; injection e3 with e3; injection e3 with e3; injection e3 with e3; subst e3; exact e5
 · obtain ⟨b3, off3, hq3, e5, _⟩ := h9.2 (by omega); rw [hq] at hq3; injection hq3 with hq3; injection hq3 with hq3; subst hq3; exact e5
theorem cells_int : Try.prog.cellsOf 3 = 1 := by kernel_rfl
theorem cells_str : Try.prog.cellsOf 9 = 1 := by kernel_rfl
open Go.ChangeShapes Go.WideShapes Go.ChangeAt Go.Deep

def Light {H : Type} (t : TypeId) (d : DataW H) : Prop := ∀ k ∈ d.weights Try.prog t, k ≤ reachBytes
theorem reach_eq : reachBytes = 140737488351232 := rfl

section
variable {H : Type} {enc : TypeId × Value → H} {w : World} {spare : Nat → Bool} {held : Bool}

theorem light_arg {ts : List TypeId} {ds : List (DataW H)} (h : (DataW.weightsEach Try.prog ts ds).all (· ≤ reachBytes) = true) {j : Nat} {t : TypeId} {d : DataW H} (ht : ts[j]? = some t) (hd : ds[j]? = some d) : Light t d := by
 intro k hk; have := List.all_eq_true.1 h k (DataW.weights_mem_each ht hd k hk)
 simpa using this

theorem opens_field {t : TypeId} {fs : Array Field} {n N : Nat} {cs : List Value} {y : DataW H × List MemPlace} (ht : Try.prog.underlying t = some (.struct fs)) (h : DataW.trod enc Try.prog w 0 spare held n t cs = some y) (hl : Light t y.1) (hN : ∀ x ∈ y.2, x.block < N) :
  cs.length = Try.prog.cellsOf t ∧ ∃ m, ∀ (i : Nat) (f : Field), fs[i]? = some f → ∃ z, DataW.trod enc Try.prog w 0 spare held m f.type ((cs.drop f.offset).take (Try.prog.cellsOf f.type)) = some z ∧ Light f.type z.1 ∧ ∀ x ∈ z.2, x.block < N := by
 obtain ⟨xs, m, _, rfl, hc, hxl, hg⟩ := DataW.trod_struct ht h; refine ⟨hc, m, fun i f hf => ?_⟩; have hi : i < fs.size := (Array.getElem?_eq_some_iff.1 hf).1; have hx : xs[i]? = some (xs[i]'(by omega)) := List.getElem?_eq_getElem (by omega); refine ⟨_, (hg i f hf).trans hx, ?_, fun x hxx => hN x (List.mem_flatMap.2 ⟨_, List.getElem_mem _, hxx⟩)⟩; intro k hk; refine hl k ?_; simp only [DataW.weights, ht]; exact DataW.weights_mem_each (j := i) (by rw [List.getElem?_map, Array.getElem?_toList, hf]; rfl) (by rw [List.getElem?_map, hx]; rfl) k hk

theorem opens_str {t : TypeId} {n : Nat} {cs : List Value} {y : DataW H × List MemPlace} (ht : Try.prog.underlying t = some .string) (h : DataW.trod enc Try.prog w 0 spare held n t cs = some y) (hl : Light t y.1) : ∃ s : Bs, cs = [.string (bb s)] ∧ s.length ≤ 140737488351232 := by
 obtain ⟨s, e, e2, q⟩ := DataW.trod_string ht h; refine ⟨s.data.toList, e, ?_⟩; subst e2; have := hl s.data.toList.length (by simp [DataW.weights]); rw [reach_eq] at this; exact this
theorem opens_i64 {t : TypeId} {n : Nat} {cs : List Value} {y : DataW H × List MemPlace} (ht : Try.prog.underlying t = some (.int .i64)) (h : DataW.trod enc Try.prog w 0 spare held n t cs = some y) : ∃ x : Int, cs = [.int .i64 x] ∧ -9223372036854775808 ≤ x ∧ x < 9223372036854775808 := by
 obtain ⟨x, e, _, q⟩ := DataW.trod_int ht h; exact ⟨x, e, wf_i64 q⟩
theorem weightsAll_mem' {P : Program} {e : TypeId} : ∀ {l : List (DataW H)} {d : DataW H}, d ∈ l → ∀ k ∈ d.weights P e, k ∈ DataW.weightsAll P e l
  | a :: l, d, hd, k, hk => by
    simp only [DataW.weightsAll, List.mem_append]
    rcases List.mem_cons.1 hd with rfl | hd
    · exact .inl hk
    · exact .inr (weightsAll_mem' hd k hk)

theorem opens_rows {α : Type} {R : World → List Value → α → Prop} {t e : TypeId} {sz N : Nat} (ht : Try.prog.underlying t = some (.slice e)) (hC : Try.prog.cellsOf e = sz) (hsz : 0 < sz)
    (hR : ∀ n cs y, DataW.trod enc Try.prog w 0 spare held n e cs = some y → Light e y.1 → (∀ x ∈ y.2, x.block < N) → ∃ x, R w cs x)
    {fuel : Nat} {cs : List Value} {x : DataW H × List MemPlace} (h : DataW.trod enc Try.prog w 0 spare held fuel t cs = some x) (hl : Light t x.1) (hlt : ∀ y ∈ x.2, y.block < N) (hN : N ≤ w.heap.size) :
    ∃ v l, cs = [v] ∧ RowsOf R (· < N) w v sz l ∧ l.length * Try.prog.bytesOf e ≤ 140737488351232 ∧ l.length ≤ maxLen := by
  rcases open_slice ht h with ⟨rfl, rfl⟩ | ⟨a, len, cap, m, n, D, Pl, rfl, hb, hlc, hm, hmm, hx, hi⟩
  · exact ⟨_, [], rfl, ⟨none, 0, rfl, fun h => absurd h (by simp)⟩, by simp, by simp⟩
  · have hlm : len ≤ m := by rw [hmm]; split <;> omega
    have hp2 : x.2 = MemPlace.row a (m * Try.prog.cellsOf e) ++ (List.range m).flatMap Pl := by rw [hx]
    have hx1 : x.1 = .slice ((List.range len).map D) ((List.range (m - len)).map fun j => D (len + j)) := by rw [hx]
    have hsum : len * Try.prog.bytesOf e ≤ 140737488351232 := by
      have := hl (((List.range len).map D).length * Try.prog.bytesOf e + ((List.range (m - len)).map fun j => D (len + j)).length * Try.prog.bytesOf e) (by rw [hx1]; simp [DataW.weights, ht, Nat.add_mul]); rw [reach_eq] at this; simp only [List.length_map, List.length_range] at this
      omega
    have hle : ∀ i, i < len → Light e (D i) := by
      intro i hil k hk; refine hl k ?_; rw [hx1]; simp only [DataW.weights, ht, List.mem_cons, List.mem_append]; exact .inr (.inl (weightsAll_mem' (List.mem_map.2 ⟨i, List.mem_range.2 hil, rfl⟩) k hk))
    have key : ∀ i, i < len → ∃ y : α, ∃ cs', cs'.length = sz ∧ R w cs' y ∧ (∀ f u, cs'[f]? = some u → w.cell? ((a.add (i * sz)).add f) = some u) := by
      intro i hil; obtain ⟨cs', hc, htr⟩ := hi i (by omega); obtain ⟨_, hcl, hat⟩ := World.cells?_some hc; obtain ⟨y, hy⟩ := hR n cs' _ htr (hle i hil) (fun z hz => hlt z (by rw [hp2, List.mem_append]; exact .inr (List.mem_flatMap.2 ⟨i, by simp; omega, hz⟩))); rw [hC] at hcl hat; refine ⟨y, cs', hcl, hy, fun f u hu => ?_⟩; have hf : f < sz := by rw [← hcl]; exact (List.getElem?_eq_some_iff.1 hu).1
      rw [hat f hf, hu]
    obtain ⟨l, hll, hq⟩ := list_of len _ key; refine ⟨_, l, rfl, ⟨some a, cap, by rw [hll], fun h0 => ?_⟩, by rw [hll]; exact hsum, by omega⟩; obtain ⟨cs0, h1, h2, h3⟩ := hq 0 h0
    have hc0 : w.cell? a = some (cs0[0]'(by omega)) := by
      have := h3 0 _ (List.getElem?_eq_getElem (by omega))
      simpa [Addr.add] using this
    have hsp : a.spot = none := by
      cases hs : a.spot with
      | none => rfl
      | some s =>
        unfold World.cell? at hc0
        split at hc0 <;> simp_all
    obtain ⟨ab, ao, asp⟩ := a; simp only at hsp; subst hsp
    have hlt0 : ab < N := hlt (.cell ab ao) (by
      rw [hp2, List.mem_append]
      left
      simp only [MemPlace.row, List.mem_map, List.mem_range]
      exact ⟨0, by rw [hC]; exact Nat.mul_pos (by omega) hsz, by simp⟩)
    refine ⟨ab, ao, rfl, hlt0, Nat.lt_of_lt_of_le hlt0 hN, fun i hi => ?_⟩; obtain ⟨cs', g1, g2, g3⟩ := hq i hi; refine ⟨cs', g1, g2, fun f u hu => ?_⟩; have := g3 f u hu; have e1 : ∀ (o q : Nat), (⟨ab, o, none⟩ : Addr).add q = ⟨ab, o + q, none⟩ := by intro o q; unfold Addr.add; split <;> simp_all
    rw [e1, e1, Nat.add_assoc] at this; exact this
end

theorem RowsOf.part {α : Type} {R : World → List Value → α → Prop} {Q : α → Prop} {D : Nat → Prop} {w : World} {v : Value} {sz : Nat} {l : List α} (h : RowsOf (fun w cs x => R w cs x ∧ Q x) D w v sz l) : RowsOf R D w v sz l ∧ ∀ x ∈ l, Q x := by
 refine ⟨h.mono (fun _ _ h => h) (fun _ _ h => h.1), fun x hx => ?_⟩; obtain ⟨i, hi, rfl⟩ := List.mem_iff_getElem.1 hx; obtain ⟨p, cap, rfl, h⟩ := h; obtain ⟨b, off, rfl, _, _, hc⟩ := h (by omega); obtain ⟨cs, _, h2, _⟩ := hc i hi; exact h2.2

end Go.Proofs.Ytmpehoebgifmnaa
namespace Go.Proofs.Ytmpehoebgifmnaa
open Go.RowKit
open Go.ChangeShapes Go.WideShapes Go.ChangeAt Go.Deep

section
variable {H : Type} {enc : TypeId × Value → H} {w : World} {spare : Nat → Bool} {held : Bool}
theorem ri_opens {N : Nat} : ∀ n cs y, DataW.trod enc Try.prog w 0 spare held n 3 cs = some y → Light 3 y.1 → (∀ x ∈ y.2, x.block < N) → ∃ x : Int, RI cs x ∧ (-9223372036854775808 ≤ x ∧ x < 9223372036854775808) := fun n cs y h _ _ => opens_i64 Try.underlying3 h
end
end Go.Proofs.Ytmpehoebgifmnaa
namespace Go.Proofs.Ytmpehoebgifmnaa
open Go.RowKit

open Go.ChangeShapes Go.WideShapes Go.ChangeAt Go.Deep

theorem cells_tops : Try.prog.cellsOf 35 = 1 := by kernel_rfl
theorem cells_top : Try.prog.cellsOf 56 = 2 := by kernel_rfl
theorem cells_ints : Try.prog.cellsOf 54 = 1 := by kernel_rfl
theorem cells_val : Try.prog.cellsOf 37 = 7 := by kernel_rfl
theorem bytes_int : Try.prog.bytesOf 3 = 8 := by kernel_rfl
def QTop (W : World) (x : TopS × Value) : Prop := RowsOf (fun _ cs x => RI cs x) (· < W.heap.size) W x.2 1 x.1.parts ∧ x.1.name.length ≤ 140737488351232 ∧ x.1.parts.length ≤ 17592186043904 ∧ ∀ n ∈ x.1.parts, -9223372036854775808 ≤ n ∧ n < 9223372036854775808
def FewI (l : List (TopS × Value)) : Prop := l.length ≤ 140737488351232 ∧ ∀ x ∈ l, x.1.name.length ≤ 140737488351232 ∧ x.1.parts.length ≤ 17592186043904 ∧ ∀ n ∈ x.1.parts, -9223372036854775808 ≤ n ∧ n < 9223372036854775808
theorem bytes_top : Try.prog.bytesOf 56 = 40 := by kernel_rfl
theorem QTop.few {W : World} {l : List (TopS × Value)} (hn : l.length * Try.prog.bytesOf 56 ≤ 140737488351232) (h : ∀ x ∈ l, QTop W x) : FewI l := ⟨by rw [bytes_top] at hn; omega, fun x hx => (h x hx).2⟩
theorem QTop.start {W : World} {v : Value} {l : List (TopS × Value)} (hr : RowsOf (fun _ cs x => RTop cs x) (· < W.heap.size) W v 2 l) (h : ∀ x ∈ l, QTop W x) : St W W (Know.tops v l) [] := St.start ⟨hr, fun x hx => (h x hx).1⟩
section
variable {H : Type} {enc : TypeId × Value → H} {w : World} {spare : Nat → Bool} {held : Bool}
set_option maxHeartbeats 1000000 in
set_option maxRecDepth 100000 in
theorem rtop_opens : ∀ n cs y, DataW.trod enc Try.prog w 0 spare held n 56 cs = some y → Light 56 y.1 → (∀ x ∈ y.2, x.block < w.heap.size) → ∃ x : TopS × Value, RTop cs x ∧ QTop w x := by
 intro n cs y hf hl hN; have hNw : w.heap.size ≤ w.heap.size := Nat.le_refl _; obtain ⟨hc, m, hg⟩ := opens_field Try.underlying56 hf hl hN; rw [cells_top] at hc
 match cs, hc with
 | [c0, c1], _ =>
  obtain ⟨z0, g0, l0, n0⟩ := hg 0 _ rfl; have g0 : DataW.trod enc Try.prog w 0 spare held m 9 (List.take (Try.prog.cellsOf 9) (List.drop 0 [c0, c1])) = some z0 := g0; rw [cells_str] at g0; obtain ⟨z1, g1, l1, n1⟩ := hg 1 _ rfl; have g1 : DataW.trod enc Try.prog w 0 spare held m 54 (List.take (Try.prog.cellsOf 54) (List.drop 1 [c0, c1])) = some z1 := g1; rw [cells_ints] at g1; obtain ⟨x0, e0, s0⟩ := opens_str Try.underlying9 g0 l0; obtain ⟨v1, x1, e1, hr, hm, _⟩ := opens_rows (R := fun w cs x => (fun _ cs x => RI cs x) w cs x ∧ (fun x : Int => -9223372036854775808 ≤ x ∧ x < 9223372036854775808) x) (N := w.heap.size) Try.underlying54 cells_int (by decide) ri_opens g1 l1 n1 hNw; obtain ⟨hr1, hq⟩ := hr.part; simp at e0 e1; subst e0 e1; rw [bytes_int] at hm; have hm2 : x1.length ≤ 17592186043904 := by omega
  exact ⟨(⟨x0, x1⟩, _), rfl, hr1, s0, hm2, hq⟩
set_option maxHeartbeats 2000000 in
set_option maxRecDepth 100000 in
theorem val_opens : ∀ n cs y, DataW.trod enc Try.prog w 0 spare held n 37 cs = some y → Light 37 y.1 → (∀ x ∈ y.2, x.block < w.heap.size) →
    ∃ (p e t s u st : Int) (l : List (TopS × Value)) (rv : Value), cs = [.int .i64 p, .int .i64 e, .int .i64 t, .int .i64 s, rv, .int .i64 u, .int .i64 st] ∧
      ValS.R ⟨p, e, t, s, l.map (·.1), u, st⟩ ∧ RowsOf (fun _ cs x => RTop cs x) (· < w.heap.size) w rv 2 l ∧ l.length * Try.prog.bytesOf 56 ≤ 140737488351232 ∧ (∀ x ∈ l, QTop w x) := by
  intro n cs y hf hl hN; obtain ⟨hc, m, hg⟩ := opens_field Try.underlying37 hf hl hN; rw [cells_val] at hc
  match cs, hc with
  | [c0, c1, c2, c3, c4, c5, c6], _ =>
    obtain ⟨z0, g0, l0, n0⟩ := hg 0 _ rfl; have g0 : DataW.trod enc Try.prog w 0 spare held m 3 (List.take (Try.prog.cellsOf 3) (List.drop 0 [c0, c1, c2, c3, c4, c5, c6])) = some z0 := g0; rw [cells_int] at g0; obtain ⟨z1, g1, l1, n1⟩ := hg 1 _ rfl; have g1 : DataW.trod enc Try.prog w 0 spare held m 3 (List.take (Try.prog.cellsOf 3) (List.drop 1 [c0, c1, c2, c3, c4, c5, c6])) = some z1 := g1; rw [cells_int] at g1; obtain ⟨z2, g2, l2, n2⟩ := hg 2 _ rfl; have g2 : DataW.trod enc Try.prog w 0 spare held m 3 (List.take (Try.prog.cellsOf 3) (List.drop 2 [c0, c1, c2, c3, c4, c5, c6])) = some z2 := g2; rw [cells_int] at g2; obtain ⟨z3, g3, l3, n3⟩ := hg 3 _ rfl; have g3 : DataW.trod enc Try.prog w 0 spare held m 3 (List.take (Try.prog.cellsOf 3) (List.drop 3 [c0, c1, c2, c3, c4, c5, c6])) = some z3 := g3; rw [cells_int] at g3; obtain ⟨z4, g4, l4, n4⟩ := hg 4 _ rfl; have g4 : DataW.trod enc Try.prog w 0 spare held m 35 (List.take (Try.prog.cellsOf 35) (List.drop 4 [c0, c1, c2, c3, c4, c5, c6])) = some z4 := g4; rw [cells_tops] at g4; obtain ⟨z5, g5, l5, n5⟩ := hg 5 _ rfl; have g5 : DataW.trod enc Try.prog w 0 spare held m 3 (List.take (Try.prog.cellsOf 3) (List.drop 5 [c0, c1, c2, c3, c4, c5, c6])) = some z5 := g5; rw [cells_int] at g5; obtain ⟨z6, g6, l6, n6⟩ := hg 6 _ rfl; have g6 : DataW.trod enc Try.prog w 0 spare held m 3 (List.take (Try.prog.cellsOf 3) (List.drop 6 [c0, c1, c2, c3, c4, c5, c6])) = some z6 := g6; rw [cells_int] at g6; obtain ⟨x0, e0, r0⟩ := opens_i64 Try.underlying3 g0; obtain ⟨x1, e1, r1⟩ := opens_i64 Try.underlying3 g1; obtain ⟨x2, e2, r2⟩ := opens_i64 Try.underlying3 g2; obtain ⟨x3, e3, r3⟩ := opens_i64 Try.underlying3 g3; obtain ⟨x5, e5, r5⟩ := opens_i64 Try.underlying3 g5; obtain ⟨x6, e6, r6⟩ := opens_i64 Try.underlying3 g6; obtain ⟨v4, x4, e4, hrq, hm4, _⟩ := opens_rows (R := fun w' cs x => (fun _ cs x => RTop cs x) w' cs x ∧ QTop w x) (N := w.heap.size) Try.underlying35 cells_top (by decide) rtop_opens g4 l4 n4 (Nat.le_refl _); obtain ⟨hr, hq⟩ := hrq.part; simp at e0 e1 e2 e3 e4 e5 e6; subst e0 e1 e2 e3 e4 e5 e6; exact ⟨x0, x1, x2, x3, x5, x6, x4, _, rfl, ⟨r0, r1, r2, r3, r5, r6⟩, hr, hm4, hq⟩
set_option maxHeartbeats 2000000 in
set_option maxRecDepth 100000 in
theorem val_open {r : Reach} {b0 : Nat} {v : Value} {d : DataW H} {p : List MemPlace} (hv : Value.okWide Try.prog w r b0 37 v) (h : DataW.Trod enc Try.prog w 0 spare held 37 v d p) (hl : Light 37 d) (hN : ∀ x ∈ p, x.block < w.heap.size) :
  ∃ (p e t s u st : Int) (l : List (TopS × Value)) (q : Option Addr) (cap : Nat), v = .agg #[.int .i64 p, .int .i64 e, .int .i64 t, .int .i64 s, .slice q l.length cap, .int .i64 u, .int .i64 st] ∧
   ValS.R ⟨p, e, t, s, l.map (·.1), u, st⟩ ∧ FewI l ∧ St w w (Know.tops (.slice q l.length cap) l) [] := by
 obtain ⟨cs, rfl, hsz⟩ := okWide_struct Try.underlying37 hv; obtain ⟨fuel, hf⟩ := h; obtain ⟨p, e, t, s, u, st, l, rv, ec, hR, hr, hm, hq⟩ := val_opens _ _ _ hf hl hN; obtain ⟨c⟩ := cs; have ec : c = _ := ec; subst ec; obtain ⟨q, cap, hrv⟩ : ∃ q cap, rv = .slice q l.length cap := by obtain ⟨p, cap, hv, _⟩ := hr; exact ⟨p, cap, hv⟩
 subst hrv; exact ⟨_, _, _, _, _, _, l, q, cap, rfl, hR, QTop.few hm hq, QTop.start hr hq⟩
end

end Go.Proofs.Ytmpehoebgifmnaa
namespace Go.Proofs.Ytmpehoebgifmnaa
open Go.RowKit

set_option maxHeartbeats 4000000 in
set_option maxRecDepth 100000 in
theorem jp_long (id : Bs) (p e t s u st : Int) (l : List (TopS × Value)) (q : Option Addr) (cap : Nat) (hil : 40000 < id.length) {W0 w : World} {K : Know} (hk : K.has (Know.tops (.slice q l.length cap) l)) (h : St W0 w K []) :
  Calls Try.prog 4 #[.string (bb id), .agg #[.int .i64 p, .int .i64 e, .int .i64 t, .int .i64 s, .slice q l.length cap, .int .i64 u, .int .i64 st]] w fun en w' => en = .returned (.bool true) ∧ Below W0.heap.size W0 w' := by
 obtain ⟨vb, hvb⟩ : ∃ b, w.heap.size = b := ⟨_, rfl⟩; have g1 := h.allocRaw #[.int .i64 p, .int .i64 e, .int .i64 t, .int .i64 s, .slice q l.length cap, .int .i64 u, .int .i64 st] 37; rw [hvb] at g1; have c0 := (g1).rawCell 0; have c1 := (g1).rawCell 1; have c2 := (g1).rawCell 2; have c3 := (g1).rawCell 3; have c4 := (g1).rawCell 4; have c5 := (g1).rawCell 5; have c6 := (g1).rawCell 6; simp at c0 c1 c2 c3 c4 c5 c6; have H := Lib.hid g1; have HK := Lib.hid hk; have hi1 : 40000 < (id.length : Int) := by omega
 have hi2 : decide (40000 < (id.length : Int)) = true := decide_eq_true hi1; clear h g1 hk hil; go_enter Try.func4, Try.ntmps4
 go_wp2_with (first
  | (go_at_call 5; (try clear c0 c1 c2 c3 c4 c5 c6); (with_reducible refine (speaks15 H.out).mono ?_); rintro e_ wn ⟨rfl, h⟩; have c0 := (h).rawCell 0; have c1 := (h).rawCell 1; have c2 := (h).rawCell 2; have c3 := (h).rawCell 3; have c4 := (h).rawCell 4; have c5 := (h).rawCell 5; have c6 := (h).rawCell 6; simp at c0 c1 c2 c3 c4 c5 c6; replace H := Lib.hid h; clear h))
 go_ret; exact ⟨rfl, H.out.below⟩

set_option maxHeartbeats 4000000 in
set_option maxRecDepth 100000 in
theorem jp_many (id : Bs) (p e t s u st : Int) (l : List (TopS × Value)) (q : Option Addr) (cap : Nat) (hil : id.length ≤ 40000) (hfi : FewI l) (hw : few (l.map (·.1)) = 0) {W0 w : World} {K : Know} (hk : K.has (Know.tops (.slice q l.length cap) l)) (h : St W0 w K []) :
  Calls Try.prog 4 #[.string (bb id), .agg #[.int .i64 p, .int .i64 e, .int .i64 t, .int .i64 s, .slice q l.length cap, .int .i64 u, .int .i64 st]] w fun en w' => en = .returned (.bool true) ∧ Below W0.heap.size W0 w' := by
 obtain ⟨vb, hvb⟩ : ∃ b, w.heap.size = b := ⟨_, rfl⟩; have g1 := h.allocRaw #[.int .i64 p, .int .i64 e, .int .i64 t, .int .i64 s, .slice q l.length cap, .int .i64 u, .int .i64 st] 37; rw [hvb] at g1; have c0 := (g1).rawCell 0; have c1 := (g1).rawCell 1; have c2 := (g1).rawCell 2; have c3 := (g1).rawCell 3; have c4 := (g1).rawCell 4; have c5 := (g1).rawCell 5; have c6 := (g1).rawCell 6; simp at c0 c1 c2 c3 c4 c5 c6; have H := Lib.hid g1; have HK := Lib.hid hk; have HNL := Lib.hid hfi.1; have HNB := Lib.hid (show ∀ x ∈ l, x.1.name.length ≤ 140737488351232 ∧ x.1.parts.length ≤ 17592186043904 from fun x hx => ⟨(hfi.2 x hx).1, (hfi.2 x hx).2.1⟩); have HFW := Lib.hid hw; have hi1 : ¬ 40000 < (id.length : Int) := by omega
 have hi2 : decide (40000 < (id.length : Int)) = false := decide_eq_false hi1; have HIL := Lib.hid hil; clear h g1 hk hil hfi hw; go_enter Try.func4, Try.ntmps4
 go_wp2_with (first
  | (go_at_call 5; (try clear c0 c1 c2 c3 c4 c5 c6); (with_reducible refine (speaks15 H.out).mono ?_); rintro e_ wn ⟨rfl, h⟩; have c0 := (h).rawCell 0; have c1 := (h).rawCell 1; have c2 := (h).rawCell 2; have c3 := (h).rawCell 3; have c4 := (h).rawCell 4; have c5 := (h).rawCell 5; have c6 := (h).rawCell 6; simp at c0 c1 c2 c3 c4 c5 c6; replace H := Lib.hid h; clear h)
  | (go_at_call 15; (try clear c0 c1 c2 c3 c4 c5 c6); (with_reducible refine (law14_few l q cap HNL.out HNB.out 0 HFW.out HK.out H.out).mono ?_); rintro e_ wn ⟨rfl, h⟩; have c0 := (h).rawCell 0; have c1 := (h).rawCell 1; have c2 := (h).rawCell 2; have c3 := (h).rawCell 3; have c4 := (h).rawCell 4; have c5 := (h).rawCell 5; have c6 := (h).rawCell 6; simp at c0 c1 c2 c3 c4 c5 c6; replace H := Lib.hid h; clear h))
 go_ret; exact ⟨rfl, H.out.below⟩

set_option maxHeartbeats 4000000 in
set_option maxRecDepth 100000 in
theorem jp_key (id : Bs) (p e t s u st : Int) (l : List (TopS × Value)) (q : Option Addr) (cap : Nat) (hil : id.length ≤ 40000) (hfi : FewI l) (hw : few (l.map (·.1)) = 1) (key : Bs) (E : Int) (hke : keyEnc id = (key, E)) (h0 : E ≠ 0) {W0 w : World} {K : Know} (hk : K.has (Know.tops (.slice q l.length cap) l)) (h : St W0 w K []) :
  Calls Try.prog 4 #[.string (bb id), .agg #[.int .i64 p, .int .i64 e, .int .i64 t, .int .i64 s, .slice q l.length cap, .int .i64 u, .int .i64 st]] w fun en w' => en = .returned (.bool true) ∧ Below W0.heap.size W0 w' := by
 obtain ⟨vb, hvb⟩ : ∃ b, w.heap.size = b := ⟨_, rfl⟩; have g1 := h.allocRaw #[.int .i64 p, .int .i64 e, .int .i64 t, .int .i64 s, .slice q l.length cap, .int .i64 u, .int .i64 st] 37; rw [hvb] at g1; have c0 := (g1).rawCell 0; have c1 := (g1).rawCell 1; have c2 := (g1).rawCell 2; have c3 := (g1).rawCell 3; have c4 := (g1).rawCell 4; have c5 := (g1).rawCell 5; have c6 := (g1).rawCell 6; simp at c0 c1 c2 c3 c4 c5 c6; have H := Lib.hid g1; have HK := Lib.hid hk; have HNL := Lib.hid hfi.1; have HNB := Lib.hid (show ∀ x ∈ l, x.1.name.length ≤ 140737488351232 ∧ x.1.parts.length ≤ 17592186043904 from fun x hx => ⟨(hfi.2 x hx).1, (hfi.2 x hx).2.1⟩); have HFW := Lib.hid hw; have hi1 : ¬ 40000 < (id.length : Int) := by omega
 have hi2 : decide (40000 < (id.length : Int)) = false := decide_eq_false hi1; have HIL := Lib.hid hil; have HKE := Lib.hid hke; have H0 := Lib.hid h0; have e1 : (E == 0) = false := by rw [beq_eq_false_iff_ne]; exact h0
 have e2 : (E != 0) = true := by simp [bne, e1]
 have e3 : (E == E) = true := by simp
 have e4 : (E != E) = false := by simp
 clear h g1 hk hil hfi hw hke h0; go_enter Try.func4, Try.ntmps4
 go_wp2_with (first
  | (go_at_call 5; (try clear c0 c1 c2 c3 c4 c5 c6); (with_reducible refine (speaks15 H.out).mono ?_); rintro e_ wn ⟨rfl, h⟩; have c0 := (h).rawCell 0; have c1 := (h).rawCell 1; have c2 := (h).rawCell 2; have c3 := (h).rawCell 3; have c4 := (h).rawCell 4; have c5 := (h).rawCell 5; have c6 := (h).rawCell 6; simp at c0 c1 c2 c3 c4 c5 c6; replace H := Lib.hid h; clear h)
  | (go_at_call 15; (try clear c0 c1 c2 c3 c4 c5 c6); (with_reducible refine (law14_few l q cap HNL.out HNB.out 1 HFW.out HK.out H.out).mono ?_); rintro e_ wn ⟨rfl, h⟩; have c0 := (h).rawCell 0; have c1 := (h).rawCell 1; have c2 := (h).rawCell 2; have c3 := (h).rawCell 3; have c4 := (h).rawCell 4; have c5 := (h).rawCell 5; have c6 := (h).rawCell 6; simp at c0 c1 c2 c3 c4 c5 c6; replace H := Lib.hid h; clear h)
  | (go_at_call 16; (try clear c0 c1 c2 c3 c4 c5 c6); (try clear x0 x1 x2); (try clear y0 y1 y2); (with_reducible refine (jr_put_key id key E HKE.out H0.out HIL.out p e t s u st l q cap H.out).mono ?_); rintro e_ wn ⟨rfl, h⟩; obtain ⟨xb, hxb⟩ : ∃ y, wn.heap.size = y := ⟨_, rfl⟩; have h := h.allocRaw #[.string ⟨#[]⟩, .bool false, .string ⟨#[]⟩] 30; rw [hxb] at h; have x0 := (h).rawCell 0; have x1 := (h).rawCell 1; have x2 := (h).rawCell 2; simp at x0 x1 x2; have c0 := (h.p1).rawCell 0; have c1 := (h.p1).rawCell 1; have c2 := (h.p1).rawCell 2; have c3 := (h.p1).rawCell 3; have c4 := (h.p1).rawCell 4; have c5 := (h.p1).rawCell 5; have c6 := (h.p1).rawCell 6; simp at c0 c1 c2 c3 c4 c5 c6; replace H := Lib.hid h; clear h)
  | (go_at_call 17; (try clear c0 c1 c2 c3 c4 c5 c6); (try clear x0 x1 x2); (try clear y0 y1 y2); (with_reducible refine (jr_drop_key id key E HKE.out H0.out HIL.out H.out).mono ?_); rintro e_ wn ⟨rfl, h⟩; obtain ⟨yb, hyb⟩ : ∃ y, wn.heap.size = y := ⟨_, rfl⟩; have h := h.allocRaw #[.string ⟨#[]⟩, .bool false, .string ⟨#[]⟩] 30; rw [hyb] at h; have y0 := (h).rawCell 0; have y1 := (h).rawCell 1; have y2 := (h).rawCell 2; simp at y0 y1 y2; have x0 := (h.p1).rawCell 0; have x1 := (h.p1).rawCell 1; have x2 := (h.p1).rawCell 2; simp at x0 x1 x2; have c0 := (h.p2).rawCell 0; have c1 := (h.p2).rawCell 1; have c2 := (h.p2).rawCell 2; have c3 := (h.p2).rawCell 3; have c4 := (h.p2).rawCell 4; have c5 := (h.p2).rawCell 5; have c6 := (h.p2).rawCell 6; simp at c0 c1 c2 c3 c4 c5 c6; replace H := Lib.hid h; clear h)
  | (go_at_call 18; (try clear c0 c1 c2 c3 c4 c5 c6); (try clear x0 x1 x2); (try clear y0 y1 y2); (with_reducible refine (key_encode' id key E HIL.out HKE.out H.out).mono ?_); rintro e_ wn ⟨rfl, h⟩; have y0 := (h).rawCell 0; have y1 := (h).rawCell 1; have y2 := (h).rawCell 2; simp at y0 y1 y2; have x0 := (h.p1).rawCell 0; have x1 := (h.p1).rawCell 1; have x2 := (h.p1).rawCell 2; simp at x0 x1 x2; have c0 := (h.p2).rawCell 0; have c1 := (h.p2).rawCell 1; have c2 := (h.p2).rawCell 2; have c3 := (h.p2).rawCell 3; have c4 := (h.p2).rawCell 4; have c5 := (h.p2).rawCell 5; have c6 := (h.p2).rawCell 6; simp at c0 c1 c2 c3 c4 c5 c6; replace H := Lib.hid h; clear h))
 go_ret; exact ⟨rfl, H.out.below⟩

set_option maxHeartbeats 4000000 in
set_option maxRecDepth 100000 in
theorem jp_val (id : Bs) (p e t s u st : Int) (l : List (TopS × Value)) (q : Option Addr) (cap : Nat) (hil : id.length ≤ 40000) (hfi : FewI l) (hw : few (l.map (·.1)) = 1) (key : Bs) (hke : keyEnc id = (key, 0)) (tl : List TopS) (htl : l.map (·.1) = tl) (E : Int) (he : ValS.err ⟨p, e, t, s, tl, u, st⟩ = E) (h0 : E ≠ 0) {W0 w : World} {K : Know} (hk : K.has (Know.tops (.slice q l.length cap) l)) (h : St W0 w K []) :
  Calls Try.prog 4 #[.string (bb id), .agg #[.int .i64 p, .int .i64 e, .int .i64 t, .int .i64 s, .slice q l.length cap, .int .i64 u, .int .i64 st]] w fun en w' => en = .returned (.bool true) ∧ Below W0.heap.size W0 w' := by
 obtain ⟨vb, hvb⟩ : ∃ b, w.heap.size = b := ⟨_, rfl⟩; have g1 := h.allocRaw #[.int .i64 p, .int .i64 e, .int .i64 t, .int .i64 s, .slice q l.length cap, .int .i64 u, .int .i64 st] 37; rw [hvb] at g1; have c0 := (g1).rawCell 0; have c1 := (g1).rawCell 1; have c2 := (g1).rawCell 2; have c3 := (g1).rawCell 3; have c4 := (g1).rawCell 4; have c5 := (g1).rawCell 5; have c6 := (g1).rawCell 6; simp at c0 c1 c2 c3 c4 c5 c6; have H := Lib.hid g1; have HK := Lib.hid hk; have HNL := Lib.hid hfi.1; have HNB := Lib.hid (show ∀ x ∈ l, x.1.name.length ≤ 140737488351232 ∧ x.1.parts.length ≤ 17592186043904 from fun x hx => ⟨(hfi.2 x hx).1, (hfi.2 x hx).2.1⟩); have HFW := Lib.hid hw; have hi1 : ¬ 40000 < (id.length : Int) := by omega
 have hi2 : decide (40000 < (id.length : Int)) = false := decide_eq_false hi1; have HIL := Lib.hid hil; have HKE := Lib.hid hke; have H0 := Lib.hid h0; have e1 : (E == 0) = false := by rw [beq_eq_false_iff_ne]; exact h0
 have e2 : (E != 0) = true := by simp [bne, e1]
 have e3 : (E == E) = true := by simp
 have e4 : (E != E) = false := by simp
 have HF := Lib.hid (few_T (few_one hw)); have HT := Lib.hid htl; have HE := Lib.hid he; clear h g1 hk hil hfi hw hke h0 htl he; go_enter Try.func4, Try.ntmps4
 go_wp2_with (first
  | (go_at_call 5; (try clear c0 c1 c2 c3 c4 c5 c6); (with_reducible refine (speaks15 H.out).mono ?_); rintro e_ wn ⟨rfl, h⟩; have c0 := (h).rawCell 0; have c1 := (h).rawCell 1; have c2 := (h).rawCell 2; have c3 := (h).rawCell 3; have c4 := (h).rawCell 4; have c5 := (h).rawCell 5; have c6 := (h).rawCell 6; simp at c0 c1 c2 c3 c4 c5 c6; replace H := Lib.hid h; clear h)
  | (go_at_call 15; (try clear c0 c1 c2 c3 c4 c5 c6); (with_reducible refine (law14_few l q cap HNL.out HNB.out 1 HFW.out HK.out H.out).mono ?_); rintro e_ wn ⟨rfl, h⟩; have c0 := (h).rawCell 0; have c1 := (h).rawCell 1; have c2 := (h).rawCell 2; have c3 := (h).rawCell 3; have c4 := (h).rawCell 4; have c5 := (h).rawCell 5; have c6 := (h).rawCell 6; simp at c0 c1 c2 c3 c4 c5 c6; replace H := Lib.hid h; clear h)
  | (go_at_call 16; (try clear c0 c1 c2 c3 c4 c5 c6); (try clear x0 x1 x2); (try clear y0 y1 y2); (with_reducible refine (jr_put_val id key E HKE.out HIL.out p e t s u st l q cap tl HT.out HE.out H0.out HF.out HK.out H.out).mono ?_); rintro e_ wn ⟨rfl, h⟩; obtain ⟨xb, hxb⟩ : ∃ y, wn.heap.size = y := ⟨_, rfl⟩; have h := h.allocRaw #[.string ⟨#[]⟩, .bool false, .string ⟨#[]⟩] 30; rw [hxb] at h; have x0 := (h).rawCell 0; have x1 := (h).rawCell 1; have x2 := (h).rawCell 2; simp at x0 x1 x2; have c0 := (h.p1).rawCell 0; have c1 := (h.p1).rawCell 1; have c2 := (h.p1).rawCell 2; have c3 := (h.p1).rawCell 3; have c4 := (h.p1).rawCell 4; have c5 := (h.p1).rawCell 5; have c6 := (h.p1).rawCell 6; simp at c0 c1 c2 c3 c4 c5 c6; replace H := Lib.hid h; clear h)
  | (go_at_call 17; (try clear c0 c1 c2 c3 c4 c5 c6); (try clear x0 x1 x2); (try clear y0 y1 y2); (with_reducible refine (jr_drop id key HKE.out HIL.out H.out).mono ?_); rintro e_ wn ⟨rfl, h⟩; obtain ⟨yb, hyb⟩ : ∃ y, wn.heap.size = y := ⟨_, rfl⟩; have h := h.allocRaw #[.string (bb key), .bool true, .string (bb [])] 30; rw [hyb] at h; have y0 := (h).rawCell 0; have y1 := (h).rawCell 1; have y2 := (h).rawCell 2; simp at y0 y1 y2; have x0 := (h.p1).rawCell 0; have x1 := (h.p1).rawCell 1; have x2 := (h.p1).rawCell 2; simp at x0 x1 x2; have c0 := (h.p2).rawCell 0; have c1 := (h.p2).rawCell 1; have c2 := (h.p2).rawCell 2; have c3 := (h.p2).rawCell 3; have c4 := (h.p2).rawCell 4; have c5 := (h.p2).rawCell 5; have c6 := (h.p2).rawCell 6; simp at c0 c1 c2 c3 c4 c5 c6; replace H := Lib.hid h; clear h)
  | (go_at_call 18; (try clear c0 c1 c2 c3 c4 c5 c6); (try clear x0 x1 x2); (try clear y0 y1 y2); (with_reducible refine (key_encode' id key 0 HIL.out HKE.out H.out).mono ?_); rintro e_ wn ⟨rfl, h⟩; have y0 := (h).rawCell 0; have y1 := (h).rawCell 1; have y2 := (h).rawCell 2; simp at y0 y1 y2; have x0 := (h.p1).rawCell 0; have x1 := (h.p1).rawCell 1; have x2 := (h.p1).rawCell 2; simp at x0 x1 x2; have c0 := (h.p2).rawCell 0; have c1 := (h.p2).rawCell 1; have c2 := (h.p2).rawCell 2; have c3 := (h.p2).rawCell 3; have c4 := (h.p2).rawCell 4; have c5 := (h.p2).rawCell 5; have c6 := (h.p2).rawCell 6; simp at c0 c1 c2 c3 c4 c5 c6; replace H := Lib.hid h; clear h)
  | (go_at_call 19; (try clear c0 c1 c2 c3 c4 c5 c6); (try clear x0 x1 x2); (try clear y0 y1 y2); (with_reducible refine (ref14_checkS p e t s u st l q cap tl HT.out _ HE.out HF.out HK.out H.out).mono ?_); rintro e_ wn ⟨rfl, h⟩; have y0 := (h).rawCell 0; have y1 := (h).rawCell 1; have y2 := (h).rawCell 2; simp at y0 y1 y2; have x0 := (h.p1).rawCell 0; have x1 := (h.p1).rawCell 1; have x2 := (h.p1).rawCell 2; simp at x0 x1 x2; have c0 := (h.p2).rawCell 0; have c1 := (h.p2).rawCell 1; have c2 := (h.p2).rawCell 2; have c3 := (h.p2).rawCell 3; have c4 := (h.p2).rawCell 4; have c5 := (h.p2).rawCell 5; have c6 := (h.p2).rawCell 6; simp at c0 c1 c2 c3 c4 c5 c6; replace H := Lib.hid h; clear h))
 go_ret; exact ⟨rfl, H.out.below⟩

end Go.Proofs.Ytmpehoebgifmnaa
namespace Go.Proofs.Ytmpehoebgifmnaa
open Go.RowKit

theorem jp_apply (jb mb : Nat) (key id S : Bs) (hkr : keyRd key = (id, 0)) (p e t s u st : Int) (tl : List TopS) (hv : valDec S = (⟨p, e, t, s, tl, u, st⟩, 0)) (hk1 : key.length ≤ 40100) (hid : id.length ≤ 1000000) (hd : S.length ≤ 1000000) {W0 w : World} {K : Know} {L : List Res} (h : St W0 w K (.raw jb #[.map (some mb), .int .i64 0] 63 :: .gen (jmap mb 0 (fun _ => none)) :: L)) :
  Calls Try.prog 11 #[.pointer (some ⟨jb, 0, none⟩), .agg #[.string (bb key), .bool false, .string (bb S)]] w fun en w' => en = .returned (.int .i64 0) ∧ St W0 w' K (.raw jb #[.map (some mb), .int .i64 1] 63 :: .gen (jmap mb 1 (jset (fun _ => none) id (some S))) :: L) :=
 jr_apply_put jb mb 0 0 _ key id S p e t s u st tl hkr hv hk1 hid hd (by decide) (by decide) (by decide) h
theorem jset_self (id S : Bs) : (jset (fun _ => none) id (some S)) id = some S := by unfold jset; rw [if_pos rfl]
theorem ids_one {id S : Bs} {ids : List Bs} (h : IdsOf (jset (fun _ => none) id (some S)) ids) : ((ids.length : Int) == 1) = true := by
 have hm : ∀ x, x ∈ ids ↔ x = id := fun x => by
  rw [h.mem]; unfold jset
  by_cases e : x = id
  · rw [if_pos e]; exact ⟨fun _ => e, fun _ => rfl⟩
  · rw [if_neg e]; exact ⟨fun h2 => (by cases h2), fun h2 => absurd h2 e⟩
 have hn := h.nodup
 cases ids with
 | nil => exact absurd ((hm id).2 rfl) (by simp)
 | cons a r =>
  cases r with
  | nil => rfl
  | cons b c =>
   have ha := (hm a).1 (by simp); have hb := (hm b).1 (by simp); rw [ha, hb] at hn; simp at hn
theorem key_lenE {id key : Bs} (h : keyEnc id = (key, 0)) (hl : id.length ≤ 40000) : keyRd key = (id, 0) ∧ key.length ≤ 40100 := by
 unfold keyEnc at h
 cases hr : keyRight id with
 | false => rw [hr] at h; injection h with _ h2; cases h2
 | true =>
  rw [hr] at h; injection h with h1 _; subst h1; refine ⟨keyRd_back id hr, ?_⟩; unfold keyBytes; simp only [List.length_append, beBytes_length]
  omega
theorem parts_pos {tl : List TopS} {lr : List (TopS × Value)} (h : tRise tl = true) (hl : lr.map (·.1) = tl) : ∀ x ∈ lr, 0 < x.1.parts.length := by
 intro x hx; unfold tRise at h; rw [Bool.and_eq_true] at h; have h2 := List.all_eq_true.1 h.1 x.1 (by rw [← hl]; exact List.mem_map_of_mem hx); unfold tOk pRise at h2; simp only [Bool.and_eq_true] at h2; have h3 := h2.2.1
 cases hp : x.1.parts with
 | nil => rw [hp] at h3; cases h3
 | cons a b => simp

end Go.Proofs.Ytmpehoebgifmnaa
