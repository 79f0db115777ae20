/- A text. -/
import Derived.Test.YtmpehoebgifmnaaGJournalPuts1
import Derived.Test.YtmpehoebgifmnaaBlob1
import Derived.Test.YtmpehoebgifmnaaRef04
import Derived.Test.YtmpehoebgifmnaaBlob2
import Derived.Test.YtmpehoebgifmnaaBlobP
import Derived.Test.YtmpehoebgifmnaaRec1
/- A text. -/
namespace Go.Proofs.Ytmpehoebgifmnaa
open Go.RowKit

theorem val_topicsRise0 (q : Option Addr) (cap : Nat) (r : Bool) (hr : tRise (([] : List (TopS × Value)).map (·.1)) = r) (hf : FewT []) {W0 w : World} {K : Know} {L : List Res} (hk : K.has (Know.tops (.slice q 0 cap) [])) (h : St W0 w K L) :
 Calls Try.prog 53 #[.slice q 0 cap] w fun en w' => en = .returned (.bool r) ∧ St W0 w' K L := val_topicsRise [] q cap r hr hf hk h

set_option maxHeartbeats 2000000 in
set_option maxRecDepth 100000 in
theorem val_check_10e (p e t s u st : Int) (q : Option Addr) (cap : Nat) (hrg : (decide (0 ≤ p) && (decide (0 ≤ e) && (decide (e ≤ 32767) && (decide (0 ≤ t) && (decide (t ≤ 2147483647) && (decide (0 ≤ u) && decide (-1 ≤ st))))))) = true) (hs1 : 0 ≤ s) (hs2 : s < 7) (hi : idle s = false)  (hf : FewT []) {W0 w : World} {K : Know} {L : List Res} (hk : K.has (Know.tops (.slice q 0 cap) [])) (h : St W0 w K L) :
    Calls Try.prog 30 #[.agg #[.int .i64 p, .int .i64 e, .int .i64 t, .int .i64 s, .slice q 0 cap, .int .i64 u, .int .i64 st]] w fun en w' => en = .returned (.int .i64 10) ∧ St W0 w' K L := by
  have HK := Lib.hid hk; have HF := Lib.hid hf; obtain ⟨vb, hvb⟩ : ∃ b, w.heap.size = b := ⟨_, rfl⟩; have h1 := h.allocRaw #[.int .i64 p, .int .i64 e, .int .i64 t, .int .i64 s, .slice q 0 cap, .int .i64 u, .int .i64 st] 37; rw [hvb] at h1; have c0 := (h1).rawCell 0; have c1 := (h1).rawCell 1; have c2 := (h1).rawCell 2; have c3 := (h1).rawCell 3; have c4 := (h1).rawCell 4; have c5 := (h1).rawCell 5; have c6 := (h1).rawCell 6; simp at c0 c1 c2 c3 c4 c5 c6; have H := Lib.hid h1; clear h h1 hk hf; have HRG := Lib.hid hrg; have HI := Lib.hid hi; have g1 : ¬ s < 0 := by omega
  have g2 : ¬ 7 ≤ s := by omega
  clear hrg hi

  go_enter Try.func30, Try.ntmps30; go_wp2_with (go_at_call 51; (with_reducible refine (val_ranged _ _ _ _ _ _ _ true HRG.out H.out).mono ?_); rintro e_ wn ⟨rfl, h⟩; have c0 := (h).rawCell 0; have c1 := (h).rawCell 1; have c2 := (h).rawCell 2; have c3 := (h).rawCell 3; have c4 := (h).rawCell 4; have c5 := (h).rawCell 5; have c6 := (h).rawCell 6; simp at c0 c1 c2 c3 c4 c5 c6; replace H := Lib.hid h; clear h); have hs := H.out.drew; have HKP := Lib.hid (show ∀ w', St W0 w' K (.raw vb #[.int .i64 p, .int .i64 e, .int .i64 t, .int .i64 s, .slice q 0 cap, .int .i64 u, .int .i64 st] 37 :: L) → (w'.cell? ⟨vb, 3, none⟩ = some (.int .i64 s) ∧ w'.cell? ⟨vb, 4, none⟩ = some (.slice q 0 cap) ∧ w'.cell? ⟨vb, 6, none⟩ = some (.int .i64 st)) from fun w' hs => ⟨hs.rawCell 3, hs.rawCell 4, hs.rawCell 6⟩); refine wp_region_held_drew (S := fun w' => w'.cell? ⟨vb, 3, none⟩ = some (.int .i64 s) ∧ w'.cell? ⟨vb, 4, none⟩ = some (.slice q 0 cap) ∧ w'.cell? ⟨vb, 6, none⟩ = some (.int .i64 st)) (by kernel_rfl) (HKP.out _ hs) (fun hHeld => ?_); refine tQ 0 ⟨some 14, .fieldAddr 37 (.tmp 1) 3, 0, _, _, none⟩ ?_; simp only [Act.put, sA, sB, sC]; refine tQ 1 ⟨some 15, .load 3 (.tmp 14), 3, _, _, none⟩ ?_; simp only [Act.put, sA, sB, sC]; refine tQ 3 ⟨some 17, .fieldAddr 37 (.tmp 1) 4, 0, _, _, none⟩ ?_; simp only [Act.put, sA, sB, sC]; refine tQ 4 ⟨some 18, .load 35 (.tmp 17), 35, _, _, none⟩ ?_; simp only [Act.put, sA, sB, sC]; refine tQ 5 ⟨some 19, .call { callee := .builtin .len, args := #[.tmp 18], argTypes := #[35] }, 3, _, _, none⟩ ?_; simp only [Act.put, sA, sB, sC]; refine tQ 6 ⟨some 20, .binOp .eql 3 (.tmp 19) (.const (Value.int IntKind.i64 0)) 3, 4, _, _, none⟩ ?_; simp only [Act.put, sA, sB, sC]; refine wpAnyH_ready (rs := [2]) (by kernel_rfl) (by simp) (AllReadyH.cons (o := ⟨some 16, .call { callee := .value (.func 52), args := #[.tmp 15], argTypes := #[3] }, 4, _, _, none⟩) rfl (fun KK hK => ?_) AllReadyH.nil); go_simp; go_at_call 52; with_reducible refine (val_idle _ _ HI.out hs).mono ?_; rintro e wq ⟨rfl, hs⟩; refine hK.out _ _ (HKP.out _ hs) (fun hHeld => ?_); clear hK KK
  try simp only [Act.put, sA, sB, sC]
  refine tQ 7 ⟨some 21, .binOp .neq 4 (.tmp 16) (.tmp 20) 4, 4, _, _, none⟩ ?_; simp only [Act.put, sA, sB, sC]; refine tQ 8 ⟨some 22, .move (.tmp 21), 4, _, _, none⟩ ?_; simp only [Act.put, sA, sB, sC]; refine wpAnyH_take (i := 9) (oi := ⟨some 23, .fieldAddr 37 (.tmp 1) 3, 0, _, _, some (8, false)⟩) (v := undef) rfl (by kernel_rfl) (by kernel_rfl) (by kernel_rfl) (fun _ _ _ h => h) (Or.inr ⟨by rfl, rfl⟩) (by assumption) ?_; simp only [Act.put, sA, sB, sC]; refine wpAnyH_take (i := 10) (oi := ⟨some 24, .load 3 (.tmp 23), 3, _, _, some (8, false)⟩) (v := undef) rfl (by kernel_rfl) (by kernel_rfl) (by kernel_rfl) (fun _ _ _ h => h) (Or.inr ⟨by rfl, rfl⟩) (by assumption) ?_; simp only [Act.put, sA, sB, sC]; refine wpAnyH_take (i := 11) (oi := ⟨some 25, .binOp .eql 3 (.tmp 24) (.const (Value.int IntKind.i64 0)) 3, 4, _, _, some (8, false)⟩) (v := undef) rfl (by kernel_rfl) (by kernel_rfl) (by kernel_rfl) (fun _ _ _ h => h) (Or.inr ⟨by rfl, rfl⟩) (by assumption) ?_; simp only [Act.put, sA, sB, sC]; refine wpAnyH_take (i := 12) (oi := ⟨some 26, .fieldAddr 37 (.tmp 1) 6, 0, _, _, some (8, false)⟩) (v := undef) rfl (by kernel_rfl) (by kernel_rfl) (by kernel_rfl) (fun _ _ _ h => h) (Or.inr ⟨by rfl, rfl⟩) (by assumption) ?_; simp only [Act.put, sA, sB, sC]; refine wpAnyH_take (i := 13) (oi := ⟨some 27, .load 3 (.tmp 26), 3, _, _, some (8, false)⟩) (v := undef) rfl (by kernel_rfl) (by kernel_rfl) (by kernel_rfl) (fun _ _ _ h => h) (Or.inr ⟨by rfl, rfl⟩) (by assumption) ?_; simp only [Act.put, sA, sB, sC]; refine wpAnyH_take (i := 14) (oi := ⟨some 28, .binOp .eql 3 (.tmp 27) (.const (Value.int IntKind.i64 (-1))) 3, 4, _, _, some (8, false)⟩) (v := undef) rfl (by kernel_rfl) (by kernel_rfl) (by kernel_rfl) (fun _ _ _ h => h) (Or.inr ⟨by rfl, rfl⟩) (by assumption) ?_; simp only [Act.put, sA, sB, sC]; refine wpAnyH_take (i := 15) (oi := ⟨some 29, .binOp .neq 4 (.tmp 25) (.tmp 28) 4, 4, _, _, some (8, false)⟩) (v := undef) rfl (by kernel_rfl) (by kernel_rfl) (by kernel_rfl) (fun _ _ _ h => h) (Or.inr ⟨by rfl, rfl⟩) (by assumption) ?_; simp only [Act.put, sA, sB, sC]; refine tQ 16 ⟨some 30, .pick (.tmp 22) (.const (Value.bool true)) (.tmp 29), 4, _, _, none⟩ ?_; simp only [Act.put, sA, sB, sC]; refine wpAnyH_done (by kernel_rfl) ?_ _; go_wp2_with fail; go_ret; exact ⟨rfl, hs.drop⟩

set_option maxHeartbeats 2000000 in
set_option maxRecDepth 100000 in
theorem val_check_10f (p e t s u st : Int) (l : List (TopS × Value)) (q : Option Addr) (cap : Nat) (hrg : (decide (0 ≤ p) && (decide (0 ≤ e) && (decide (e ≤ 32767) && (decide (0 ≤ t) && (decide (t ≤ 2147483647) && (decide (0 ≤ u) && decide (-1 ≤ st))))))) = true) (hs1 : 0 ≤ s) (hs2 : s < 7) (hi : idle s = true) (hem : ¬ l = []) (hf : FewT l) {W0 w : World} {K : Know} {L : List Res} (hk : K.has (Know.tops (.slice q l.length cap) l)) (h : St W0 w K L) :
  Calls Try.prog 30 #[.agg #[.int .i64 p, .int .i64 e, .int .i64 t, .int .i64 s, .slice q l.length cap, .int .i64 u, .int .i64 st]] w fun en w' => en = .returned (.int .i64 10) ∧ St W0 w' K L := by
 have HK := Lib.hid hk; have HF := Lib.hid hf; obtain ⟨vb, hvb⟩ : ∃ b, w.heap.size = b := ⟨_, rfl⟩; have h1 := h.allocRaw #[.int .i64 p, .int .i64 e, .int .i64 t, .int .i64 s, .slice q l.length cap, .int .i64 u, .int .i64 st] 37; rw [hvb] at h1; have c0 := (h1).rawCell 0; have c1 := (h1).rawCell 1; have c2 := (h1).rawCell 2; have c3 := (h1).rawCell 3; have c4 := (h1).rawCell 4; have c5 := (h1).rawCell 5; have c6 := (h1).rawCell 6; simp at c0 c1 c2 c3 c4 c5 c6; have H := Lib.hid h1; clear h h1 hk hf; have HRG := Lib.hid hrg; have HI := Lib.hid hi; have g1 : ¬ s < 0 := by omega
 have g2 : ¬ 7 ≤ s := by omega
 clear hrg hi; have hl0 : ((l.length : Int) == 0) = false := by rw [beq_eq_false_iff_ne]; intro h; exact hem (List.length_eq_zero_iff.1 (by omega))
 go_enter Try.func30, Try.ntmps30; go_wp2_with (go_at_call 51; (with_reducible refine (val_ranged _ _ _ _ _ _ _ true HRG.out H.out).mono ?_); rintro e_ wn ⟨rfl, h⟩; have c0 := (h).rawCell 0; have c1 := (h).rawCell 1; have c2 := (h).rawCell 2; have c3 := (h).rawCell 3; have c4 := (h).rawCell 4; have c5 := (h).rawCell 5; have c6 := (h).rawCell 6; simp at c0 c1 c2 c3 c4 c5 c6; replace H := Lib.hid h; clear h); have hs := H.out.drew; have HKP := Lib.hid (show ∀ w', St W0 w' K (.raw vb #[.int .i64 p, .int .i64 e, .int .i64 t, .int .i64 s, .slice q l.length cap, .int .i64 u, .int .i64 st] 37 :: L) → (w'.cell? ⟨vb, 3, none⟩ = some (.int .i64 s) ∧ w'.cell? ⟨vb, 4, none⟩ = some (.slice q l.length cap) ∧ w'.cell? ⟨vb, 6, none⟩ = some (.int .i64 st)) from fun w' hs => ⟨hs.rawCell 3, hs.rawCell 4, hs.rawCell 6⟩); refine wp_region_held_drew (S := fun w' => w'.cell? ⟨vb, 3, none⟩ = some (.int .i64 s) ∧ w'.cell? ⟨vb, 4, none⟩ = some (.slice q l.length cap) ∧ w'.cell? ⟨vb, 6, none⟩ = some (.int .i64 st)) (by kernel_rfl) (HKP.out _ hs) (fun hHeld => ?_); refine tQ 0 ⟨some 14, .fieldAddr 37 (.tmp 1) 3, 0, _, _, none⟩ ?_; simp only [Act.put, sA, sB, sC]; refine tQ 1 ⟨some 15, .load 3 (.tmp 14), 3, _, _, none⟩ ?_; simp only [Act.put, sA, sB, sC]; refine tQ 3 ⟨some 17, .fieldAddr 37 (.tmp 1) 4, 0, _, _, none⟩ ?_; simp only [Act.put, sA, sB, sC]; refine tQ 4 ⟨some 18, .load 35 (.tmp 17), 35, _, _, none⟩ ?_; simp only [Act.put, sA, sB, sC]; refine tQ 5 ⟨some 19, .call { callee := .builtin .len, args := #[.tmp 18], argTypes := #[35] }, 3, _, _, none⟩ ?_; simp only [Act.put, sA, sB, sC]; refine tQ 6 ⟨some 20, .binOp .eql 3 (.tmp 19) (.const (Value.int IntKind.i64 0)) 3, 4, _, _, none⟩ ?_; simp only [Act.put, sA, sB, sC]; refine wpAnyH_ready (rs := [2]) (by kernel_rfl) (by simp) (AllReadyH.cons (o := ⟨some 16, .call { callee := .value (.func 52), args := #[.tmp 15], argTypes := #[3] }, 4, _, _, none⟩) rfl (fun KK hK => ?_) AllReadyH.nil); go_simp; go_at_call 52; with_reducible refine (val_idle _ _ HI.out hs).mono ?_; rintro e wq ⟨rfl, hs⟩; refine hK.out _ _ (HKP.out _ hs) (fun hHeld => ?_); clear hK KK
 try simp only [Act.put, sA, sB, sC]
 refine tQ 7 ⟨some 21, .binOp .neq 4 (.tmp 16) (.tmp 20) 4, 4, _, _, none⟩ ?_; simp only [Act.put, sA, sB, sC]; refine tQ 8 ⟨some 22, .move (.tmp 21), 4, _, _, none⟩ ?_; simp only [Act.put, sA, sB, sC]; refine wpAnyH_take (i := 9) (oi := ⟨some 23, .fieldAddr 37 (.tmp 1) 3, 0, _, _, some (8, false)⟩) (v := undef) rfl (by kernel_rfl) (by kernel_rfl) (by kernel_rfl) (fun _ _ _ h => h) (Or.inr ⟨by rfl, rfl⟩) (by assumption) ?_; simp only [Act.put, sA, sB, sC]; refine wpAnyH_take (i := 10) (oi := ⟨some 24, .load 3 (.tmp 23), 3, _, _, some (8, false)⟩) (v := undef) rfl (by kernel_rfl) (by kernel_rfl) (by kernel_rfl) (fun _ _ _ h => h) (Or.inr ⟨by rfl, rfl⟩) (by assumption) ?_; simp only [Act.put, sA, sB, sC]; refine wpAnyH_take (i := 11) (oi := ⟨some 25, .binOp .eql 3 (.tmp 24) (.const (Value.int IntKind.i64 0)) 3, 4, _, _, some (8, false)⟩) (v := undef) rfl (by kernel_rfl) (by kernel_rfl) (by kernel_rfl) (fun _ _ _ h => h) (Or.inr ⟨by rfl, rfl⟩) (by assumption) ?_; simp only [Act.put, sA, sB, sC]; refine wpAnyH_take (i := 12) (oi := ⟨some 26, .fieldAddr 37 (.tmp 1) 6, 0, _, _, some (8, false)⟩) (v := undef) rfl (by kernel_rfl) (by kernel_rfl) (by kernel_rfl) (fun _ _ _ h => h) (Or.inr ⟨by rfl, rfl⟩) (by assumption) ?_; simp only [Act.put, sA, sB, sC]; refine wpAnyH_take (i := 13) (oi := ⟨some 27, .load 3 (.tmp 26), 3, _, _, some (8, false)⟩) (v := undef) rfl (by kernel_rfl) (by kernel_rfl) (by kernel_rfl) (fun _ _ _ h => h) (Or.inr ⟨by rfl, rfl⟩) (by assumption) ?_; simp only [Act.put, sA, sB, sC]; refine wpAnyH_take (i := 14) (oi := ⟨some 28, .binOp .eql 3 (.tmp 27) (.const (Value.int IntKind.i64 (-1))) 3, 4, _, _, some (8, false)⟩) (v := undef) rfl (by kernel_rfl) (by kernel_rfl) (by kernel_rfl) (fun _ _ _ h => h) (Or.inr ⟨by rfl, rfl⟩) (by assumption) ?_; simp only [Act.put, sA, sB, sC]; refine wpAnyH_take (i := 15) (oi := ⟨some 29, .binOp .neq 4 (.tmp 25) (.tmp 28) 4, 4, _, _, some (8, false)⟩) (v := undef) rfl (by kernel_rfl) (by kernel_rfl) (by kernel_rfl) (fun _ _ _ h => h) (Or.inr ⟨by rfl, rfl⟩) (by assumption) ?_; simp only [Act.put, sA, sB, sC]; refine tQ 16 ⟨some 30, .pick (.tmp 22) (.const (Value.bool true)) (.tmp 29), 4, _, _, none⟩ ?_; simp only [Act.put, sA, sB, sC]; refine wpAnyH_done (by kernel_rfl) ?_ _; go_wp2_with fail; go_ret; exact ⟨rfl, hs.drop⟩

set_option maxHeartbeats 2000000 in
set_option maxRecDepth 100000 in
theorem val_check_e11t (p e t s u st : Int) (q : Option Addr) (cap : Nat) (hrg : (decide (0 ≤ p) && (decide (0 ≤ e) && (decide (e ≤ 32767) && (decide (0 ≤ t) && (decide (t ≤ 2147483647) && (decide (0 ≤ u) && decide (-1 ≤ st))))))) = true) (hs1 : 0 ≤ s) (hs2 : s < 7) (hi : idle s = true)  (h1 : s = 0) (h2 : st = -1) (htr : tRise (([] : List (TopS × Value)).map (·.1)) = true) (hf : FewT []) {W0 w : World} {K : Know} {L : List Res} (hk : K.has (Know.tops (.slice q 0 cap) [])) (h : St W0 w K L) :
    Calls Try.prog 30 #[.agg #[.int .i64 p, .int .i64 e, .int .i64 t, .int .i64 s, .slice q 0 cap, .int .i64 u, .int .i64 st]] w fun en w' => en = .returned (.int .i64 0) ∧ St W0 w' K L := by
  have HK := Lib.hid hk; have HF := Lib.hid hf; obtain ⟨vb, hvb⟩ : ∃ b, w.heap.size = b := ⟨_, rfl⟩; have h1 := h.allocRaw #[.int .i64 p, .int .i64 e, .int .i64 t, .int .i64 s, .slice q 0 cap, .int .i64 u, .int .i64 st] 37; rw [hvb] at h1; have c0 := (h1).rawCell 0; have c1 := (h1).rawCell 1; have c2 := (h1).rawCell 2; have c3 := (h1).rawCell 3; have c4 := (h1).rawCell 4; have c5 := (h1).rawCell 5; have c6 := (h1).rawCell 6; simp at c0 c1 c2 c3 c4 c5 c6; have H := Lib.hid h1; clear h h1 hk hf; have HTR := Lib.hid htr; clear htr; have HRG := Lib.hid hrg; have HI := Lib.hid hi; have g1 : ¬ s < 0 := by omega
  have g2 : ¬ 7 ≤ s := by omega
  clear hrg hi

  subst h1; subst h2; go_enter Try.func30, Try.ntmps30; go_wp2_with (go_at_call 51; (with_reducible refine (val_ranged _ _ _ _ _ _ _ true HRG.out H.out).mono ?_); rintro e_ wn ⟨rfl, h⟩; have c0 := (h).rawCell 0; have c1 := (h).rawCell 1; have c2 := (h).rawCell 2; have c3 := (h).rawCell 3; have c4 := (h).rawCell 4; have c5 := (h).rawCell 5; have c6 := (h).rawCell 6; simp at c0 c1 c2 c3 c4 c5 c6; replace H := Lib.hid h; clear h); have hs := H.out.drew; have HKP := Lib.hid (show ∀ w', St W0 w' K (.raw vb #[.int .i64 p, .int .i64 e, .int .i64 t, .int .i64 0, .slice q 0 cap, .int .i64 u, .int .i64 (-1)] 37 :: L) → (w'.cell? ⟨vb, 3, none⟩ = some (.int .i64 0) ∧ w'.cell? ⟨vb, 4, none⟩ = some (.slice q 0 cap) ∧ w'.cell? ⟨vb, 6, none⟩ = some (.int .i64 (-1))) from fun w' hs => ⟨hs.rawCell 3, hs.rawCell 4, hs.rawCell 6⟩); refine wp_region_held_drew (S := fun w' => w'.cell? ⟨vb, 3, none⟩ = some (.int .i64 0) ∧ w'.cell? ⟨vb, 4, none⟩ = some (.slice q 0 cap) ∧ w'.cell? ⟨vb, 6, none⟩ = some (.int .i64 (-1))) (by kernel_rfl) (HKP.out _ hs) (fun hHeld => ?_); refine tQ 0 ⟨some 14, .fieldAddr 37 (.tmp 1) 3, 0, _, _, none⟩ ?_; simp only [Act.put, sA, sB, sC]; refine tQ 1 ⟨some 15, .load 3 (.tmp 14), 3, _, _, none⟩ ?_; simp only [Act.put, sA, sB, sC]; refine tQ 3 ⟨some 17, .fieldAddr 37 (.tmp 1) 4, 0, _, _, none⟩ ?_; simp only [Act.put, sA, sB, sC]; refine tQ 4 ⟨some 18, .load 35 (.tmp 17), 35, _, _, none⟩ ?_; simp only [Act.put, sA, sB, sC]; refine tQ 5 ⟨some 19, .call { callee := .builtin .len, args := #[.tmp 18], argTypes := #[35] }, 3, _, _, none⟩ ?_; simp only [Act.put, sA, sB, sC]; refine tQ 6 ⟨some 20, .binOp .eql 3 (.tmp 19) (.const (Value.int IntKind.i64 0)) 3, 4, _, _, none⟩ ?_; simp only [Act.put, sA, sB, sC]; refine wpAnyH_ready (rs := [2]) (by kernel_rfl) (by simp) (AllReadyH.cons (o := ⟨some 16, .call { callee := .value (.func 52), args := #[.tmp 15], argTypes := #[3] }, 4, _, _, none⟩) rfl (fun KK hK => ?_) AllReadyH.nil); go_simp; go_at_call 52; with_reducible refine (val_idle _ _ HI.out hs).mono ?_; rintro e wq ⟨rfl, hs⟩; refine hK.out _ _ (HKP.out _ hs) (fun hHeld => ?_); clear hK KK
  try simp only [Act.put, sA, sB, sC]
  refine tQ 7 ⟨some 21, .binOp .neq 4 (.tmp 16) (.tmp 20) 4, 4, _, _, none⟩ ?_; simp only [Act.put, sA, sB, sC]; refine tQ 8 ⟨some 22, .move (.tmp 21), 4, _, _, none⟩ ?_; simp only [Act.put, sA, sB, sC]; refine tQ 9 ⟨some 23, .fieldAddr 37 (.tmp 1) 3, 0, _, _, some (8, false)⟩ ?_; simp only [Act.put, sA, sB, sC]; refine tQ 10 ⟨some 24, .load 3 (.tmp 23), 3, _, _, some (8, false)⟩ ?_; simp only [Act.put, sA, sB, sC]; refine tQ 11 ⟨some 25, .binOp .eql 3 (.tmp 24) (.const (Value.int IntKind.i64 0)) 3, 4, _, _, some (8, false)⟩ ?_; simp only [Act.put, sA, sB, sC]; refine tQ 12 ⟨some 26, .fieldAddr 37 (.tmp 1) 6, 0, _, _, some (8, false)⟩ ?_; simp only [Act.put, sA, sB, sC]; refine tQ 13 ⟨some 27, .load 3 (.tmp 26), 3, _, _, some (8, false)⟩ ?_; simp only [Act.put, sA, sB, sC]; refine tQ 14 ⟨some 28, .binOp .eql 3 (.tmp 27) (.const (Value.int IntKind.i64 (-1))) 3, 4, _, _, some (8, false)⟩ ?_; simp only [Act.put, sA, sB, sC]; refine tQ 15 ⟨some 29, .binOp .neq 4 (.tmp 25) (.tmp 28) 4, 4, _, _, some (8, false)⟩ ?_; simp only [Act.put, sA, sB, sC]; refine tQ 16 ⟨some 30, .pick (.tmp 22) (.const (Value.bool true)) (.tmp 29), 4, _, _, none⟩ ?_; simp only [Act.put, sA, sB, sC]; refine wpAnyH_done (by kernel_rfl) ?_ _; clear H; have c4 := hs.rawCell 4; simp at c4; have H := Lib.hid hs; clear hs; go_wp2_with (go_at_call 53; (with_reducible refine (val_topicsRise0 _ _ true HTR.out HF.out HK.out H.out).mono ?_); rintro e_ wn ⟨rfl, h⟩; replace H := Lib.hid h; clear h); go_ret; exact ⟨rfl, H.out.drop⟩

set_option maxHeartbeats 2000000 in
set_option maxRecDepth 100000 in
theorem val_check_e10 (p e t s u st : Int) (q : Option Addr) (cap : Nat) (hrg : (decide (0 ≤ p) && (decide (0 ≤ e) && (decide (e ≤ 32767) && (decide (0 ≤ t) && (decide (t ≤ 2147483647) && (decide (0 ≤ u) && decide (-1 ≤ st))))))) = true) (hs1 : 0 ≤ s) (hs2 : s < 7) (hi : idle s = true)  (h1 : s = 0) (h2 : ¬ st = -1) (hf : FewT []) {W0 w : World} {K : Know} {L : List Res} (hk : K.has (Know.tops (.slice q 0 cap) [])) (h : St W0 w K L) :
    Calls Try.prog 30 #[.agg #[.int .i64 p, .int .i64 e, .int .i64 t, .int .i64 s, .slice q 0 cap, .int .i64 u, .int .i64 st]] w fun en w' => en = .returned (.int .i64 10) ∧ St W0 w' K L := by
  have HK := Lib.hid hk; have HF := Lib.hid hf; obtain ⟨vb, hvb⟩ : ∃ b, w.heap.size = b := ⟨_, rfl⟩; have h1 := h.allocRaw #[.int .i64 p, .int .i64 e, .int .i64 t, .int .i64 s, .slice q 0 cap, .int .i64 u, .int .i64 st] 37; rw [hvb] at h1; have c0 := (h1).rawCell 0; have c1 := (h1).rawCell 1; have c2 := (h1).rawCell 2; have c3 := (h1).rawCell 3; have c4 := (h1).rawCell 4; have c5 := (h1).rawCell 5; have c6 := (h1).rawCell 6; simp at c0 c1 c2 c3 c4 c5 c6; have H := Lib.hid h1; clear h h1 hk hf; have HRG := Lib.hid hrg; have HI := Lib.hid hi; have g1 : ¬ s < 0 := by omega
  have g2 : ¬ 7 ≤ s := by omega
  clear hrg hi

  subst h1; have k2 : (st == -1) = false := by rw [beq_eq_false_iff_ne]; exact h2
  go_enter Try.func30, Try.ntmps30; go_wp2_with (go_at_call 51; (with_reducible refine (val_ranged _ _ _ _ _ _ _ true HRG.out H.out).mono ?_); rintro e_ wn ⟨rfl, h⟩; have c0 := (h).rawCell 0; have c1 := (h).rawCell 1; have c2 := (h).rawCell 2; have c3 := (h).rawCell 3; have c4 := (h).rawCell 4; have c5 := (h).rawCell 5; have c6 := (h).rawCell 6; simp at c0 c1 c2 c3 c4 c5 c6; replace H := Lib.hid h; clear h); have hs := H.out.drew; have HKP := Lib.hid (show ∀ w', St W0 w' K (.raw vb #[.int .i64 p, .int .i64 e, .int .i64 t, .int .i64 0, .slice q 0 cap, .int .i64 u, .int .i64 st] 37 :: L) → (w'.cell? ⟨vb, 3, none⟩ = some (.int .i64 0) ∧ w'.cell? ⟨vb, 4, none⟩ = some (.slice q 0 cap) ∧ w'.cell? ⟨vb, 6, none⟩ = some (.int .i64 st)) from fun w' hs => ⟨hs.rawCell 3, hs.rawCell 4, hs.rawCell 6⟩); refine wp_region_held_drew (S := fun w' => w'.cell? ⟨vb, 3, none⟩ = some (.int .i64 0) ∧ w'.cell? ⟨vb, 4, none⟩ = some (.slice q 0 cap) ∧ w'.cell? ⟨vb, 6, none⟩ = some (.int .i64 st)) (by kernel_rfl) (HKP.out _ hs) (fun hHeld => ?_); refine tQ 0 ⟨some 14, .fieldAddr 37 (.tmp 1) 3, 0, _, _, none⟩ ?_; simp only [Act.put, sA, sB, sC]; refine tQ 1 ⟨some 15, .load 3 (.tmp 14), 3, _, _, none⟩ ?_; simp only [Act.put, sA, sB, sC]; refine tQ 3 ⟨some 17, .fieldAddr 37 (.tmp 1) 4, 0, _, _, none⟩ ?_; simp only [Act.put, sA, sB, sC]; refine tQ 4 ⟨some 18, .load 35 (.tmp 17), 35, _, _, none⟩ ?_; simp only [Act.put, sA, sB, sC]; refine tQ 5 ⟨some 19, .call { callee := .builtin .len, args := #[.tmp 18], argTypes := #[35] }, 3, _, _, none⟩ ?_; simp only [Act.put, sA, sB, sC]; refine tQ 6 ⟨some 20, .binOp .eql 3 (.tmp 19) (.const (Value.int IntKind.i64 0)) 3, 4, _, _, none⟩ ?_; simp only [Act.put, sA, sB, sC]; refine wpAnyH_ready (rs := [2]) (by kernel_rfl) (by simp) (AllReadyH.cons (o := ⟨some 16, .call { callee := .value (.func 52), args := #[.tmp 15], argTypes := #[3] }, 4, _, _, none⟩) rfl (fun KK hK => ?_) AllReadyH.nil); go_simp; go_at_call 52; with_reducible refine (val_idle _ _ HI.out hs).mono ?_; rintro e wq ⟨rfl, hs⟩; refine hK.out _ _ (HKP.out _ hs) (fun hHeld => ?_); clear hK KK
  try simp only [Act.put, sA, sB, sC]
  refine tQ 7 ⟨some 21, .binOp .neq 4 (.tmp 16) (.tmp 20) 4, 4, _, _, none⟩ ?_; simp only [Act.put, sA, sB, sC]; refine tQ 8 ⟨some 22, .move (.tmp 21), 4, _, _, none⟩ ?_; simp only [Act.put, sA, sB, sC]; refine tQ 9 ⟨some 23, .fieldAddr 37 (.tmp 1) 3, 0, _, _, some (8, false)⟩ ?_; simp only [Act.put, sA, sB, sC]; refine tQ 10 ⟨some 24, .load 3 (.tmp 23), 3, _, _, some (8, false)⟩ ?_; simp only [Act.put, sA, sB, sC]; refine tQ 11 ⟨some 25, .binOp .eql 3 (.tmp 24) (.const (Value.int IntKind.i64 0)) 3, 4, _, _, some (8, false)⟩ ?_; simp only [Act.put, sA, sB, sC]; refine tQ 12 ⟨some 26, .fieldAddr 37 (.tmp 1) 6, 0, _, _, some (8, false)⟩ ?_; simp only [Act.put, sA, sB, sC]; refine tQ 13 ⟨some 27, .load 3 (.tmp 26), 3, _, _, some (8, false)⟩ ?_; simp only [Act.put, sA, sB, sC]; refine tQ 14 ⟨some 28, .binOp .eql 3 (.tmp 27) (.const (Value.int IntKind.i64 (-1))) 3, 4, _, _, some (8, false)⟩ ?_; simp only [Act.put, sA, sB, sC]; refine tQ 15 ⟨some 29, .binOp .neq 4 (.tmp 25) (.tmp 28) 4, 4, _, _, some (8, false)⟩ ?_; simp only [Act.put, sA, sB, sC]; refine tQ 16 ⟨some 30, .pick (.tmp 22) (.const (Value.bool true)) (.tmp 29), 4, _, _, none⟩ ?_; simp only [Act.put, sA, sB, sC]; refine wpAnyH_done (by kernel_rfl) ?_ _; go_wp2_with fail; go_ret; exact ⟨rfl, hs.drop⟩

set_option maxHeartbeats 2000000 in
set_option maxRecDepth 100000 in
theorem val_check_e01 (p e t s u st : Int) (q : Option Addr) (cap : Nat) (hrg : (decide (0 ≤ p) && (decide (0 ≤ e) && (decide (e ≤ 32767) && (decide (0 ≤ t) && (decide (t ≤ 2147483647) && (decide (0 ≤ u) && decide (-1 ≤ st))))))) = true) (hs1 : 0 ≤ s) (hs2 : s < 7) (hi : idle s = true)  (h1 : ¬ s = 0) (h2 : st = -1) (hf : FewT []) {W0 w : World} {K : Know} {L : List Res} (hk : K.has (Know.tops (.slice q 0 cap) [])) (h : St W0 w K L) :
    Calls Try.prog 30 #[.agg #[.int .i64 p, .int .i64 e, .int .i64 t, .int .i64 s, .slice q 0 cap, .int .i64 u, .int .i64 st]] w fun en w' => en = .returned (.int .i64 10) ∧ St W0 w' K L := by
  have HK := Lib.hid hk; have HF := Lib.hid hf; obtain ⟨vb, hvb⟩ : ∃ b, w.heap.size = b := ⟨_, rfl⟩; have h1 := h.allocRaw #[.int .i64 p, .int .i64 e, .int .i64 t, .int .i64 s, .slice q 0 cap, .int .i64 u, .int .i64 st] 37; rw [hvb] at h1; have c0 := (h1).rawCell 0; have c1 := (h1).rawCell 1; have c2 := (h1).rawCell 2; have c3 := (h1).rawCell 3; have c4 := (h1).rawCell 4; have c5 := (h1).rawCell 5; have c6 := (h1).rawCell 6; simp at c0 c1 c2 c3 c4 c5 c6; have H := Lib.hid h1; clear h h1 hk hf; have HRG := Lib.hid hrg; have HI := Lib.hid hi; have g1 : ¬ s < 0 := by omega
  have g2 : ¬ 7 ≤ s := by omega
  clear hrg hi

  have k1 : (s == 0) = false := by rw [beq_eq_false_iff_ne]; exact h1
  subst h2; go_enter Try.func30, Try.ntmps30; go_wp2_with (go_at_call 51; (with_reducible refine (val_ranged _ _ _ _ _ _ _ true HRG.out H.out).mono ?_); rintro e_ wn ⟨rfl, h⟩; have c0 := (h).rawCell 0; have c1 := (h).rawCell 1; have c2 := (h).rawCell 2; have c3 := (h).rawCell 3; have c4 := (h).rawCell 4; have c5 := (h).rawCell 5; have c6 := (h).rawCell 6; simp at c0 c1 c2 c3 c4 c5 c6; replace H := Lib.hid h; clear h); have hs := H.out.drew; have HKP := Lib.hid (show ∀ w', St W0 w' K (.raw vb #[.int .i64 p, .int .i64 e, .int .i64 t, .int .i64 s, .slice q 0 cap, .int .i64 u, .int .i64 (-1)] 37 :: L) → (w'.cell? ⟨vb, 3, none⟩ = some (.int .i64 s) ∧ w'.cell? ⟨vb, 4, none⟩ = some (.slice q 0 cap) ∧ w'.cell? ⟨vb, 6, none⟩ = some (.int .i64 (-1))) from fun w' hs => ⟨hs.rawCell 3, hs.rawCell 4, hs.rawCell 6⟩); refine wp_region_held_drew (S := fun w' => w'.cell? ⟨vb, 3, none⟩ = some (.int .i64 s) ∧ w'.cell? ⟨vb, 4, none⟩ = some (.slice q 0 cap) ∧ w'.cell? ⟨vb, 6, none⟩ = some (.int .i64 (-1))) (by kernel_rfl) (HKP.out _ hs) (fun hHeld => ?_); refine tQ 0 ⟨some 14, .fieldAddr 37 (.tmp 1) 3, 0, _, _, none⟩ ?_; simp only [Act.put, sA, sB, sC]; refine tQ 1 ⟨some 15, .load 3 (.tmp 14), 3, _, _, none⟩ ?_; simp only [Act.put, sA, sB, sC]; refine tQ 3 ⟨some 17, .fieldAddr 37 (.tmp 1) 4, 0, _, _, none⟩ ?_; simp only [Act.put, sA, sB, sC]; refine tQ 4 ⟨some 18, .load 35 (.tmp 17), 35, _, _, none⟩ ?_; simp only [Act.put, sA, sB, sC]; refine tQ 5 ⟨some 19, .call { callee := .builtin .len, args := #[.tmp 18], argTypes := #[35] }, 3, _, _, none⟩ ?_; simp only [Act.put, sA, sB, sC]; refine tQ 6 ⟨some 20, .binOp .eql 3 (.tmp 19) (.const (Value.int IntKind.i64 0)) 3, 4, _, _, none⟩ ?_; simp only [Act.put, sA, sB, sC]; refine wpAnyH_ready (rs := [2]) (by kernel_rfl) (by simp) (AllReadyH.cons (o := ⟨some 16, .call { callee := .value (.func 52), args := #[.tmp 15], argTypes := #[3] }, 4, _, _, none⟩) rfl (fun KK hK => ?_) AllReadyH.nil); go_simp; go_at_call 52; with_reducible refine (val_idle _ _ HI.out hs).mono ?_; rintro e wq ⟨rfl, hs⟩; refine hK.out _ _ (HKP.out _ hs) (fun hHeld => ?_); clear hK KK
  try simp only [Act.put, sA, sB, sC]
  refine tQ 7 ⟨some 21, .binOp .neq 4 (.tmp 16) (.tmp 20) 4, 4, _, _, none⟩ ?_; simp only [Act.put, sA, sB, sC]; refine tQ 8 ⟨some 22, .move (.tmp 21), 4, _, _, none⟩ ?_; simp only [Act.put, sA, sB, sC]; refine tQ 9 ⟨some 23, .fieldAddr 37 (.tmp 1) 3, 0, _, _, some (8, false)⟩ ?_; simp only [Act.put, sA, sB, sC]; refine tQ 10 ⟨some 24, .load 3 (.tmp 23), 3, _, _, some (8, false)⟩ ?_; simp only [Act.put, sA, sB, sC]; refine tQ 11 ⟨some 25, .binOp .eql 3 (.tmp 24) (.const (Value.int IntKind.i64 0)) 3, 4, _, _, some (8, false)⟩ ?_; simp only [Act.put, sA, sB, sC]; refine tQ 12 ⟨some 26, .fieldAddr 37 (.tmp 1) 6, 0, _, _, some (8, false)⟩ ?_; simp only [Act.put, sA, sB, sC]; refine tQ 13 ⟨some 27, .load 3 (.tmp 26), 3, _, _, some (8, false)⟩ ?_; simp only [Act.put, sA, sB, sC]; refine tQ 14 ⟨some 28, .binOp .eql 3 (.tmp 27) (.const (Value.int IntKind.i64 (-1))) 3, 4, _, _, some (8, false)⟩ ?_; simp only [Act.put, sA, sB, sC]; refine tQ 15 ⟨some 29, .binOp .neq 4 (.tmp 25) (.tmp 28) 4, 4, _, _, some (8, false)⟩ ?_; simp only [Act.put, sA, sB, sC]; refine tQ 16 ⟨some 30, .pick (.tmp 22) (.const (Value.bool true)) (.tmp 29), 4, _, _, none⟩ ?_; simp only [Act.put, sA, sB, sC]; refine wpAnyH_done (by kernel_rfl) ?_ _; go_wp2_with fail; go_ret; exact ⟨rfl, hs.drop⟩

set_option maxHeartbeats 2000000 in
set_option maxRecDepth 100000 in
theorem val_check_e00t (p e t s u st : Int) (q : Option Addr) (cap : Nat) (hrg : (decide (0 ≤ p) && (decide (0 ≤ e) && (decide (e ≤ 32767) && (decide (0 ≤ t) && (decide (t ≤ 2147483647) && (decide (0 ≤ u) && decide (-1 ≤ st))))))) = true) (hs1 : 0 ≤ s) (hs2 : s < 7) (hi : idle s = true)  (h1 : ¬ s = 0) (h2 : ¬ st = -1) (htr : tRise (([] : List (TopS × Value)).map (·.1)) = true) (hf : FewT []) {W0 w : World} {K : Know} {L : List Res} (hk : K.has (Know.tops (.slice q 0 cap) [])) (h : St W0 w K L) :
    Calls Try.prog 30 #[.agg #[.int .i64 p, .int .i64 e, .int .i64 t, .int .i64 s, .slice q 0 cap, .int .i64 u, .int .i64 st]] w fun en w' => en = .returned (.int .i64 0) ∧ St W0 w' K L := by
  have HK := Lib.hid hk; have HF := Lib.hid hf; obtain ⟨vb, hvb⟩ : ∃ b, w.heap.size = b := ⟨_, rfl⟩; have h1 := h.allocRaw #[.int .i64 p, .int .i64 e, .int .i64 t, .int .i64 s, .slice q 0 cap, .int .i64 u, .int .i64 st] 37; rw [hvb] at h1; have c0 := (h1).rawCell 0; have c1 := (h1).rawCell 1; have c2 := (h1).rawCell 2; have c3 := (h1).rawCell 3; have c4 := (h1).rawCell 4; have c5 := (h1).rawCell 5; have c6 := (h1).rawCell 6; simp at c0 c1 c2 c3 c4 c5 c6; have H := Lib.hid h1; clear h h1 hk hf; have HTR := Lib.hid htr; clear htr; have HRG := Lib.hid hrg; have HI := Lib.hid hi; have g1 : ¬ s < 0 := by omega
  have g2 : ¬ 7 ≤ s := by omega
  clear hrg hi

  have k1 : (s == 0) = false := by rw [beq_eq_false_iff_ne]; exact h1
  have k2 : (st == -1) = false := by rw [beq_eq_false_iff_ne]; exact h2
  go_enter Try.func30, Try.ntmps30; go_wp2_with (go_at_call 51; (with_reducible refine (val_ranged _ _ _ _ _ _ _ true HRG.out H.out).mono ?_); rintro e_ wn ⟨rfl, h⟩; have c0 := (h).rawCell 0; have c1 := (h).rawCell 1; have c2 := (h).rawCell 2; have c3 := (h).rawCell 3; have c4 := (h).rawCell 4; have c5 := (h).rawCell 5; have c6 := (h).rawCell 6; simp at c0 c1 c2 c3 c4 c5 c6; replace H := Lib.hid h; clear h); have hs := H.out.drew; have HKP := Lib.hid (show ∀ w', St W0 w' K (.raw vb #[.int .i64 p, .int .i64 e, .int .i64 t, .int .i64 s, .slice q 0 cap, .int .i64 u, .int .i64 st] 37 :: L) → (w'.cell? ⟨vb, 3, none⟩ = some (.int .i64 s) ∧ w'.cell? ⟨vb, 4, none⟩ = some (.slice q 0 cap) ∧ w'.cell? ⟨vb, 6, none⟩ = some (.int .i64 st)) from fun w' hs => ⟨hs.rawCell 3, hs.rawCell 4, hs.rawCell 6⟩); refine wp_region_held_drew (S := fun w' => w'.cell? ⟨vb, 3, none⟩ = some (.int .i64 s) ∧ w'.cell? ⟨vb, 4, none⟩ = some (.slice q 0 cap) ∧ w'.cell? ⟨vb, 6, none⟩ = some (.int .i64 st)) (by kernel_rfl) (HKP.out _ hs) (fun hHeld => ?_); refine tQ 0 ⟨some 14, .fieldAddr 37 (.tmp 1) 3, 0, _, _, none⟩ ?_; simp only [Act.put, sA, sB, sC]; refine tQ 1 ⟨some 15, .load 3 (.tmp 14), 3, _, _, none⟩ ?_; simp only [Act.put, sA, sB, sC]; refine tQ 3 ⟨some 17, .fieldAddr 37 (.tmp 1) 4, 0, _, _, none⟩ ?_; simp only [Act.put, sA, sB, sC]; refine tQ 4 ⟨some 18, .load 35 (.tmp 17), 35, _, _, none⟩ ?_; simp only [Act.put, sA, sB, sC]; refine tQ 5 ⟨some 19, .call { callee := .builtin .len, args := #[.tmp 18], argTypes := #[35] }, 3, _, _, none⟩ ?_; simp only [Act.put, sA, sB, sC]; refine tQ 6 ⟨some 20, .binOp .eql 3 (.tmp 19) (.const (Value.int IntKind.i64 0)) 3, 4, _, _, none⟩ ?_; simp only [Act.put, sA, sB, sC]; refine wpAnyH_ready (rs := [2]) (by kernel_rfl) (by simp) (AllReadyH.cons (o := ⟨some 16, .call { callee := .value (.func 52), args := #[.tmp 15], argTypes := #[3] }, 4, _, _, none⟩) rfl (fun KK hK => ?_) AllReadyH.nil); go_simp; go_at_call 52; with_reducible refine (val_idle _ _ HI.out hs).mono ?_; rintro e wq ⟨rfl, hs⟩; refine hK.out _ _ (HKP.out _ hs) (fun hHeld => ?_); clear hK KK
  try simp only [Act.put, sA, sB, sC]
  refine tQ 7 ⟨some 21, .binOp .neq 4 (.tmp 16) (.tmp 20) 4, 4, _, _, none⟩ ?_; simp only [Act.put, sA, sB, sC]; refine tQ 8 ⟨some 22, .move (.tmp 21), 4, _, _, none⟩ ?_; simp only [Act.put, sA, sB, sC]; refine tQ 9 ⟨some 23, .fieldAddr 37 (.tmp 1) 3, 0, _, _, some (8, false)⟩ ?_; simp only [Act.put, sA, sB, sC]; refine tQ 10 ⟨some 24, .load 3 (.tmp 23), 3, _, _, some (8, false)⟩ ?_; simp only [Act.put, sA, sB, sC]; refine tQ 11 ⟨some 25, .binOp .eql 3 (.tmp 24) (.const (Value.int IntKind.i64 0)) 3, 4, _, _, some (8, false)⟩ ?_; simp only [Act.put, sA, sB, sC]; refine tQ 12 ⟨some 26, .fieldAddr 37 (.tmp 1) 6, 0, _, _, some (8, false)⟩ ?_; simp only [Act.put, sA, sB, sC]; refine tQ 13 ⟨some 27, .load 3 (.tmp 26), 3, _, _, some (8, false)⟩ ?_; simp only [Act.put, sA, sB, sC]; refine tQ 14 ⟨some 28, .binOp .eql 3 (.tmp 27) (.const (Value.int IntKind.i64 (-1))) 3, 4, _, _, some (8, false)⟩ ?_; simp only [Act.put, sA, sB, sC]; refine tQ 15 ⟨some 29, .binOp .neq 4 (.tmp 25) (.tmp 28) 4, 4, _, _, some (8, false)⟩ ?_; simp only [Act.put, sA, sB, sC]; refine tQ 16 ⟨some 30, .pick (.tmp 22) (.const (Value.bool true)) (.tmp 29), 4, _, _, none⟩ ?_; simp only [Act.put, sA, sB, sC]; refine wpAnyH_done (by kernel_rfl) ?_ _; clear H; have c4 := hs.rawCell 4; simp at c4; have H := Lib.hid hs; clear hs; go_wp2_with (go_at_call 53; (with_reducible refine (val_topicsRise0 _ _ true HTR.out HF.out HK.out H.out).mono ?_); rintro e_ wn ⟨rfl, h⟩; replace H := Lib.hid h; clear h); go_ret; exact ⟨rfl, H.out.drop⟩

set_option maxHeartbeats 2000000 in
set_option maxRecDepth 100000 in
theorem val_check_f01 (p e t s u st : Int) (l : List (TopS × Value)) (q : Option Addr) (cap : Nat) (hrg : (decide (0 ≤ p) && (decide (0 ≤ e) && (decide (e ≤ 32767) && (decide (0 ≤ t) && (decide (t ≤ 2147483647) && (decide (0 ≤ u) && decide (-1 ≤ st))))))) = true) (hs1 : 0 ≤ s) (hs2 : s < 7) (hi : idle s = false) (hem : ¬ l = []) (h1 : ¬ s = 0) (h2 : st = -1) (hf : FewT l) {W0 w : World} {K : Know} {L : List Res} (hk : K.has (Know.tops (.slice q l.length cap) l)) (h : St W0 w K L) :
  Calls Try.prog 30 #[.agg #[.int .i64 p, .int .i64 e, .int .i64 t, .int .i64 s, .slice q l.length cap, .int .i64 u, .int .i64 st]] w fun en w' => en = .returned (.int .i64 10) ∧ St W0 w' K L := by
 have HK := Lib.hid hk; have HF := Lib.hid hf; obtain ⟨vb, hvb⟩ : ∃ b, w.heap.size = b := ⟨_, rfl⟩; have h1 := h.allocRaw #[.int .i64 p, .int .i64 e, .int .i64 t, .int .i64 s, .slice q l.length cap, .int .i64 u, .int .i64 st] 37; rw [hvb] at h1; have c0 := (h1).rawCell 0; have c1 := (h1).rawCell 1; have c2 := (h1).rawCell 2; have c3 := (h1).rawCell 3; have c4 := (h1).rawCell 4; have c5 := (h1).rawCell 5; have c6 := (h1).rawCell 6; simp at c0 c1 c2 c3 c4 c5 c6; have H := Lib.hid h1; clear h h1 hk hf; have HRG := Lib.hid hrg; have HI := Lib.hid hi; have g1 : ¬ s < 0 := by omega
 have g2 : ¬ 7 ≤ s := by omega
 clear hrg hi; have hl0 : ((l.length : Int) == 0) = false := by rw [beq_eq_false_iff_ne]; intro h; exact hem (List.length_eq_zero_iff.1 (by omega))
 have k1 : (s == 0) = false := by rw [beq_eq_false_iff_ne]; exact h1
 subst h2; go_enter Try.func30, Try.ntmps30; go_wp2_with (go_at_call 51; (with_reducible refine (val_ranged _ _ _ _ _ _ _ true HRG.out H.out).mono ?_); rintro e_ wn ⟨rfl, h⟩; have c0 := (h).rawCell 0; have c1 := (h).rawCell 1; have c2 := (h).rawCell 2; have c3 := (h).rawCell 3; have c4 := (h).rawCell 4; have c5 := (h).rawCell 5; have c6 := (h).rawCell 6; simp at c0 c1 c2 c3 c4 c5 c6; replace H := Lib.hid h; clear h); have hs := H.out.drew; have HKP := Lib.hid (show ∀ w', St W0 w' K (.raw vb #[.int .i64 p, .int .i64 e, .int .i64 t, .int .i64 s, .slice q l.length cap, .int .i64 u, .int .i64 (-1)] 37 :: L) → (w'.cell? ⟨vb, 3, none⟩ = some (.int .i64 s) ∧ w'.cell? ⟨vb, 4, none⟩ = some (.slice q l.length cap) ∧ w'.cell? ⟨vb, 6, none⟩ = some (.int .i64 (-1))) from fun w' hs => ⟨hs.rawCell 3, hs.rawCell 4, hs.rawCell 6⟩); refine wp_region_held_drew (S := fun w' => w'.cell? ⟨vb, 3, none⟩ = some (.int .i64 s) ∧ w'.cell? ⟨vb, 4, none⟩ = some (.slice q l.length cap) ∧ w'.cell? ⟨vb, 6, none⟩ = some (.int .i64 (-1))) (by kernel_rfl) (HKP.out _ hs) (fun hHeld => ?_); refine tQ 0 ⟨some 14, .fieldAddr 37 (.tmp 1) 3, 0, _, _, none⟩ ?_; simp only [Act.put, sA, sB, sC]; refine tQ 1 ⟨some 15, .load 3 (.tmp 14), 3, _, _, none⟩ ?_; simp only [Act.put, sA, sB, sC]; refine tQ 3 ⟨some 17, .fieldAddr 37 (.tmp 1) 4, 0, _, _, none⟩ ?_; simp only [Act.put, sA, sB, sC]; refine tQ 4 ⟨some 18, .load 35 (.tmp 17), 35, _, _, none⟩ ?_; simp only [Act.put, sA, sB, sC]; refine tQ 5 ⟨some 19, .call { callee := .builtin .len, args := #[.tmp 18], argTypes := #[35] }, 3, _, _, none⟩ ?_; simp only [Act.put, sA, sB, sC]; refine tQ 6 ⟨some 20, .binOp .eql 3 (.tmp 19) (.const (Value.int IntKind.i64 0)) 3, 4, _, _, none⟩ ?_; simp only [Act.put, sA, sB, sC]; refine wpAnyH_ready (rs := [2]) (by kernel_rfl) (by simp) (AllReadyH.cons (o := ⟨some 16, .call { callee := .value (.func 52), args := #[.tmp 15], argTypes := #[3] }, 4, _, _, none⟩) rfl (fun KK hK => ?_) AllReadyH.nil); go_simp; go_at_call 52; with_reducible refine (val_idle _ _ HI.out hs).mono ?_; rintro e wq ⟨rfl, hs⟩; refine hK.out _ _ (HKP.out _ hs) (fun hHeld => ?_); clear hK KK
 try simp only [Act.put, sA, sB, sC]
 refine tQ 7 ⟨some 21, .binOp .neq 4 (.tmp 16) (.tmp 20) 4, 4, _, _, none⟩ ?_; simp only [Act.put, sA, sB, sC]; refine tQ 8 ⟨some 22, .move (.tmp 21), 4, _, _, none⟩ ?_; simp only [Act.put, sA, sB, sC]; refine tQ 9 ⟨some 23, .fieldAddr 37 (.tmp 1) 3, 0, _, _, some (8, false)⟩ ?_; simp only [Act.put, sA, sB, sC]; refine tQ 10 ⟨some 24, .load 3 (.tmp 23), 3, _, _, some (8, false)⟩ ?_; simp only [Act.put, sA, sB, sC]; refine tQ 11 ⟨some 25, .binOp .eql 3 (.tmp 24) (.const (Value.int IntKind.i64 0)) 3, 4, _, _, some (8, false)⟩ ?_; simp only [Act.put, sA, sB, sC]; refine tQ 12 ⟨some 26, .fieldAddr 37 (.tmp 1) 6, 0, _, _, some (8, false)⟩ ?_; simp only [Act.put, sA, sB, sC]; refine tQ 13 ⟨some 27, .load 3 (.tmp 26), 3, _, _, some (8, false)⟩ ?_; simp only [Act.put, sA, sB, sC]; refine tQ 14 ⟨some 28, .binOp .eql 3 (.tmp 27) (.const (Value.int IntKind.i64 (-1))) 3, 4, _, _, some (8, false)⟩ ?_; simp only [Act.put, sA, sB, sC]; refine tQ 15 ⟨some 29, .binOp .neq 4 (.tmp 25) (.tmp 28) 4, 4, _, _, some (8, false)⟩ ?_; simp only [Act.put, sA, sB, sC]; refine tQ 16 ⟨some 30, .pick (.tmp 22) (.const (Value.bool true)) (.tmp 29), 4, _, _, none⟩ ?_; simp only [Act.put, sA, sB, sC]; refine wpAnyH_done (by kernel_rfl) ?_ _; go_wp2_with fail; go_ret; exact ⟨rfl, hs.drop⟩

set_option maxHeartbeats 2000000 in
set_option maxRecDepth 100000 in
theorem val_check_f00t (p e t s u st : Int) (l : List (TopS × Value)) (q : Option Addr) (cap : Nat) (hrg : (decide (0 ≤ p) && (decide (0 ≤ e) && (decide (e ≤ 32767) && (decide (0 ≤ t) && (decide (t ≤ 2147483647) && (decide (0 ≤ u) && decide (-1 ≤ st))))))) = true) (hs1 : 0 ≤ s) (hs2 : s < 7) (hi : idle s = false) (hem : ¬ l = []) (h1 : ¬ s = 0) (h2 : ¬ st = -1) (htr : tRise (l.map (·.1)) = true) (hf : FewT l) {W0 w : World} {K : Know} {L : List Res} (hk : K.has (Know.tops (.slice q l.length cap) l)) (h : St W0 w K L) :
  Calls Try.prog 30 #[.agg #[.int .i64 p, .int .i64 e, .int .i64 t, .int .i64 s, .slice q l.length cap, .int .i64 u, .int .i64 st]] w fun en w' => en = .returned (.int .i64 0) ∧ St W0 w' K L := by
 have HK := Lib.hid hk; have HF := Lib.hid hf; obtain ⟨vb, hvb⟩ : ∃ b, w.heap.size = b := ⟨_, rfl⟩; have h1 := h.allocRaw #[.int .i64 p, .int .i64 e, .int .i64 t, .int .i64 s, .slice q l.length cap, .int .i64 u, .int .i64 st] 37; rw [hvb] at h1; have c0 := (h1).rawCell 0; have c1 := (h1).rawCell 1; have c2 := (h1).rawCell 2; have c3 := (h1).rawCell 3; have c4 := (h1).rawCell 4; have c5 := (h1).rawCell 5; have c6 := (h1).rawCell 6; simp at c0 c1 c2 c3 c4 c5 c6; have H := Lib.hid h1; clear h h1 hk hf; have HTR := Lib.hid htr; clear htr; have HRG := Lib.hid hrg; have HI := Lib.hid hi; have g1 : ¬ s < 0 := by omega
 have g2 : ¬ 7 ≤ s := by omega
 clear hrg hi; have hl0 : ((l.length : Int) == 0) = false := by rw [beq_eq_false_iff_ne]; intro h; exact hem (List.length_eq_zero_iff.1 (by omega))
 have k1 : (s == 0) = false := by rw [beq_eq_false_iff_ne]; exact h1
 have k2 : (st == -1) = false := by rw [beq_eq_false_iff_ne]; exact h2
 go_enter Try.func30, Try.ntmps30; go_wp2_with (go_at_call 51; (with_reducible refine (val_ranged _ _ _ _ _ _ _ true HRG.out H.out).mono ?_); rintro e_ wn ⟨rfl, h⟩; have c0 := (h).rawCell 0; have c1 := (h).rawCell 1; have c2 := (h).rawCell 2; have c3 := (h).rawCell 3; have c4 := (h).rawCell 4; have c5 := (h).rawCell 5; have c6 := (h).rawCell 6; simp at c0 c1 c2 c3 c4 c5 c6; replace H := Lib.hid h; clear h); have hs := H.out.drew; have HKP := Lib.hid (show ∀ w', St W0 w' K (.raw vb #[.int .i64 p, .int .i64 e, .int .i64 t, .int .i64 s, .slice q l.length cap, .int .i64 u, .int .i64 st] 37 :: L) → (w'.cell? ⟨vb, 3, none⟩ = some (.int .i64 s) ∧ w'.cell? ⟨vb, 4, none⟩ = some (.slice q l.length cap) ∧ w'.cell? ⟨vb, 6, none⟩ = some (.int .i64 st)) from fun w' hs => ⟨hs.rawCell 3, hs.rawCell 4, hs.rawCell 6⟩); refine wp_region_held_drew (S := fun w' => w'.cell? ⟨vb, 3, none⟩ = some (.int .i64 s) ∧ w'.cell? ⟨vb, 4, none⟩ = some (.slice q l.length cap) ∧ w'.cell? ⟨vb, 6, none⟩ = some (.int .i64 st)) (by kernel_rfl) (HKP.out _ hs) (fun hHeld => ?_); refine tQ 0 ⟨some 14, .fieldAddr 37 (.tmp 1) 3, 0, _, _, none⟩ ?_; simp only [Act.put, sA, sB, sC]; refine tQ 1 ⟨some 15, .load 3 (.tmp 14), 3, _, _, none⟩ ?_; simp only [Act.put, sA, sB, sC]; refine tQ 3 ⟨some 17, .fieldAddr 37 (.tmp 1) 4, 0, _, _, none⟩ ?_; simp only [Act.put, sA, sB, sC]; refine tQ 4 ⟨some 18, .load 35 (.tmp 17), 35, _, _, none⟩ ?_; simp only [Act.put, sA, sB, sC]; refine tQ 5 ⟨some 19, .call { callee := .builtin .len, args := #[.tmp 18], argTypes := #[35] }, 3, _, _, none⟩ ?_; simp only [Act.put, sA, sB, sC]; refine tQ 6 ⟨some 20, .binOp .eql 3 (.tmp 19) (.const (Value.int IntKind.i64 0)) 3, 4, _, _, none⟩ ?_; simp only [Act.put, sA, sB, sC]; refine wpAnyH_ready (rs := [2]) (by kernel_rfl) (by simp) (AllReadyH.cons (o := ⟨some 16, .call { callee := .value (.func 52), args := #[.tmp 15], argTypes := #[3] }, 4, _, _, none⟩) rfl (fun KK hK => ?_) AllReadyH.nil); go_simp; go_at_call 52; with_reducible refine (val_idle _ _ HI.out hs).mono ?_; rintro e wq ⟨rfl, hs⟩; refine hK.out _ _ (HKP.out _ hs) (fun hHeld => ?_); clear hK KK
 try simp only [Act.put, sA, sB, sC]
 refine tQ 7 ⟨some 21, .binOp .neq 4 (.tmp 16) (.tmp 20) 4, 4, _, _, none⟩ ?_; simp only [Act.put, sA, sB, sC]; refine tQ 8 ⟨some 22, .move (.tmp 21), 4, _, _, none⟩ ?_; simp only [Act.put, sA, sB, sC]; refine tQ 9 ⟨some 23, .fieldAddr 37 (.tmp 1) 3, 0, _, _, some (8, false)⟩ ?_; simp only [Act.put, sA, sB, sC]; refine tQ 10 ⟨some 24, .load 3 (.tmp 23), 3, _, _, some (8, false)⟩ ?_; simp only [Act.put, sA, sB, sC]; refine tQ 11 ⟨some 25, .binOp .eql 3 (.tmp 24) (.const (Value.int IntKind.i64 0)) 3, 4, _, _, some (8, false)⟩ ?_; simp only [Act.put, sA, sB, sC]; refine tQ 12 ⟨some 26, .fieldAddr 37 (.tmp 1) 6, 0, _, _, some (8, false)⟩ ?_; simp only [Act.put, sA, sB, sC]; refine tQ 13 ⟨some 27, .load 3 (.tmp 26), 3, _, _, some (8, false)⟩ ?_; simp only [Act.put, sA, sB, sC]; refine tQ 14 ⟨some 28, .binOp .eql 3 (.tmp 27) (.const (Value.int IntKind.i64 (-1))) 3, 4, _, _, some (8, false)⟩ ?_; simp only [Act.put, sA, sB, sC]; refine tQ 15 ⟨some 29, .binOp .neq 4 (.tmp 25) (.tmp 28) 4, 4, _, _, some (8, false)⟩ ?_; simp only [Act.put, sA, sB, sC]; refine tQ 16 ⟨some 30, .pick (.tmp 22) (.const (Value.bool true)) (.tmp 29), 4, _, _, none⟩ ?_; simp only [Act.put, sA, sB, sC]; refine wpAnyH_done (by kernel_rfl) ?_ _; clear H; have c4 := hs.rawCell 4; simp at c4; have H := Lib.hid hs; clear hs; go_wp2_with (go_at_call 53; (with_reducible refine (val_topicsRise l _ _ true HTR.out HF.out HK.out H.out).mono ?_); rintro e_ wn ⟨rfl, h⟩; replace H := Lib.hid h; clear h); go_ret; exact ⟨rfl, H.out.drop⟩

set_option maxHeartbeats 2000000 in
set_option maxRecDepth 100000 in
theorem val_check_f00b (p e t s u st : Int) (l : List (TopS × Value)) (q : Option Addr) (cap : Nat) (hrg : (decide (0 ≤ p) && (decide (0 ≤ e) && (decide (e ≤ 32767) && (decide (0 ≤ t) && (decide (t ≤ 2147483647) && (decide (0 ≤ u) && decide (-1 ≤ st))))))) = true) (hs1 : 0 ≤ s) (hs2 : s < 7) (hi : idle s = false) (hem : ¬ l = []) (h1 : ¬ s = 0) (h2 : ¬ st = -1) (htr : tRise (l.map (·.1)) = false) (hf : FewT l) {W0 w : World} {K : Know} {L : List Res} (hk : K.has (Know.tops (.slice q l.length cap) l)) (h : St W0 w K L) :
  Calls Try.prog 30 #[.agg #[.int .i64 p, .int .i64 e, .int .i64 t, .int .i64 s, .slice q l.length cap, .int .i64 u, .int .i64 st]] w fun en w' => en = .returned (.int .i64 13) ∧ St W0 w' K L := by
 have HK := Lib.hid hk; have HF := Lib.hid hf; obtain ⟨vb, hvb⟩ : ∃ b, w.heap.size = b := ⟨_, rfl⟩; have h1 := h.allocRaw #[.int .i64 p, .int .i64 e, .int .i64 t, .int .i64 s, .slice q l.length cap, .int .i64 u, .int .i64 st] 37; rw [hvb] at h1; have c0 := (h1).rawCell 0; have c1 := (h1).rawCell 1; have c2 := (h1).rawCell 2; have c3 := (h1).rawCell 3; have c4 := (h1).rawCell 4; have c5 := (h1).rawCell 5; have c6 := (h1).rawCell 6; simp at c0 c1 c2 c3 c4 c5 c6; have H := Lib.hid h1; clear h h1 hk hf; have HTR := Lib.hid htr; clear htr; have HRG := Lib.hid hrg; have HI := Lib.hid hi; have g1 : ¬ s < 0 := by omega
 have g2 : ¬ 7 ≤ s := by omega
 clear hrg hi; have hl0 : ((l.length : Int) == 0) = false := by rw [beq_eq_false_iff_ne]; intro h; exact hem (List.length_eq_zero_iff.1 (by omega))
 have k1 : (s == 0) = false := by rw [beq_eq_false_iff_ne]; exact h1
 have k2 : (st == -1) = false := by rw [beq_eq_false_iff_ne]; exact h2
 go_enter Try.func30, Try.ntmps30; go_wp2_with (go_at_call 51; (with_reducible refine (val_ranged _ _ _ _ _ _ _ true HRG.out H.out).mono ?_); rintro e_ wn ⟨rfl, h⟩; have c0 := (h).rawCell 0; have c1 := (h).rawCell 1; have c2 := (h).rawCell 2; have c3 := (h).rawCell 3; have c4 := (h).rawCell 4; have c5 := (h).rawCell 5; have c6 := (h).rawCell 6; simp at c0 c1 c2 c3 c4 c5 c6; replace H := Lib.hid h; clear h); have hs := H.out.drew; have HKP := Lib.hid (show ∀ w', St W0 w' K (.raw vb #[.int .i64 p, .int .i64 e, .int .i64 t, .int .i64 s, .slice q l.length cap, .int .i64 u, .int .i64 st] 37 :: L) → (w'.cell? ⟨vb, 3, none⟩ = some (.int .i64 s) ∧ w'.cell? ⟨vb, 4, none⟩ = some (.slice q l.length cap) ∧ w'.cell? ⟨vb, 6, none⟩ = some (.int .i64 st)) from fun w' hs => ⟨hs.rawCell 3, hs.rawCell 4, hs.rawCell 6⟩); refine wp_region_held_drew (S := fun w' => w'.cell? ⟨vb, 3, none⟩ = some (.int .i64 s) ∧ w'.cell? ⟨vb, 4, none⟩ = some (.slice q l.length cap) ∧ w'.cell? ⟨vb, 6, none⟩ = some (.int .i64 st)) (by kernel_rfl) (HKP.out _ hs) (fun hHeld => ?_); refine tQ 0 ⟨some 14, .fieldAddr 37 (.tmp 1) 3, 0, _, _, none⟩ ?_; simp only [Act.put, sA, sB, sC]; refine tQ 1 ⟨some 15, .load 3 (.tmp 14), 3, _, _, none⟩ ?_; simp only [Act.put, sA, sB, sC]; refine tQ 3 ⟨some 17, .fieldAddr 37 (.tmp 1) 4, 0, _, _, none⟩ ?_; simp only [Act.put, sA, sB, sC]; refine tQ 4 ⟨some 18, .load 35 (.tmp 17), 35, _, _, none⟩ ?_; simp only [Act.put, sA, sB, sC]; refine tQ 5 ⟨some 19, .call { callee := .builtin .len, args := #[.tmp 18], argTypes := #[35] }, 3, _, _, none⟩ ?_; simp only [Act.put, sA, sB, sC]; refine tQ 6 ⟨some 20, .binOp .eql 3 (.tmp 19) (.const (Value.int IntKind.i64 0)) 3, 4, _, _, none⟩ ?_; simp only [Act.put, sA, sB, sC]; refine wpAnyH_ready (rs := [2]) (by kernel_rfl) (by simp) (AllReadyH.cons (o := ⟨some 16, .call { callee := .value (.func 52), args := #[.tmp 15], argTypes := #[3] }, 4, _, _, none⟩) rfl (fun KK hK => ?_) AllReadyH.nil); go_simp; go_at_call 52; with_reducible refine (val_idle _ _ HI.out hs).mono ?_; rintro e wq ⟨rfl, hs⟩; refine hK.out _ _ (HKP.out _ hs) (fun hHeld => ?_); clear hK KK
 try simp only [Act.put, sA, sB, sC]
 refine tQ 7 ⟨some 21, .binOp .neq 4 (.tmp 16) (.tmp 20) 4, 4, _, _, none⟩ ?_; simp only [Act.put, sA, sB, sC]; refine tQ 8 ⟨some 22, .move (.tmp 21), 4, _, _, none⟩ ?_; simp only [Act.put, sA, sB, sC]; refine tQ 9 ⟨some 23, .fieldAddr 37 (.tmp 1) 3, 0, _, _, some (8, false)⟩ ?_; simp only [Act.put, sA, sB, sC]; refine tQ 10 ⟨some 24, .load 3 (.tmp 23), 3, _, _, some (8, false)⟩ ?_; simp only [Act.put, sA, sB, sC]; refine tQ 11 ⟨some 25, .binOp .eql 3 (.tmp 24) (.const (Value.int IntKind.i64 0)) 3, 4, _, _, some (8, false)⟩ ?_; simp only [Act.put, sA, sB, sC]; refine tQ 12 ⟨some 26, .fieldAddr 37 (.tmp 1) 6, 0, _, _, some (8, false)⟩ ?_; simp only [Act.put, sA, sB, sC]; refine tQ 13 ⟨some 27, .load 3 (.tmp 26), 3, _, _, some (8, false)⟩ ?_; simp only [Act.put, sA, sB, sC]; refine tQ 14 ⟨some 28, .binOp .eql 3 (.tmp 27) (.const (Value.int IntKind.i64 (-1))) 3, 4, _, _, some (8, false)⟩ ?_; simp only [Act.put, sA, sB, sC]; refine tQ 15 ⟨some 29, .binOp .neq 4 (.tmp 25) (.tmp 28) 4, 4, _, _, some (8, false)⟩ ?_; simp only [Act.put, sA, sB, sC]; refine tQ 16 ⟨some 30, .pick (.tmp 22) (.const (Value.bool true)) (.tmp 29), 4, _, _, none⟩ ?_; simp only [Act.put, sA, sB, sC]; refine wpAnyH_done (by kernel_rfl) ?_ _; clear H; have c4 := hs.rawCell 4; simp at c4; have H := Lib.hid hs; clear hs; go_wp2_with (go_at_call 53; (with_reducible refine (val_topicsRise l _ _ false HTR.out HF.out HK.out H.out).mono ?_); rintro e_ wn ⟨rfl, h⟩; replace H := Lib.hid h; clear h); go_ret; exact ⟨rfl, H.out.drop⟩
theorem idle_0 : idle 0 = true := rfl
theorem val_check (v : ValS) (l : List (TopS × Value)) (q : Option Addr) (cap : Nat) (hl : l.map (·.1) = v.tops) (E : Int) (he : v.err = E) (hf : FewT l) {W0 w : World} {K : Know} {L : List Res} (hk : K.has (Know.tops (.slice q l.length cap) l)) (h : St W0 w K L) :
  Calls Try.prog 30 #[.agg #[.int .i64 v.prod, .int .i64 v.epoch, .int .i64 v.timeout, .int .i64 v.state, .slice q l.length cap, .int .i64 v.upd, .int .i64 v.started]] w fun en w' => en = .returned (.int .i64 E) ∧ St W0 w' K L := by
 obtain ⟨p, e, t, s, tops, u, st⟩ := v; simp only at hl ⊢; subst hl; unfold ValS.err ValS.ranged at he; simp only at he
 cases hrg : (decide (0 ≤ p) && (decide (0 ≤ e) && (decide (e ≤ 32767) && (decide (0 ≤ t) && (decide (t ≤ 2147483647) && (decide (0 ≤ u) && decide (-1 ≤ st))))))) with
 | false =>
  rw [if_pos hrg] at he; subst he; exact val_check_11 p e t s u st l q cap hrg hf hk h
 | true =>
  rw [if_neg (by rw [hrg]; decide)] at he
  by_cases hs : s < 0 ∨ 7 ≤ s
  · rw [if_pos hs] at he; subst he; exact val_check_12 p e t s u st l q cap hrg hs hf hk h
  · rw [if_neg hs] at he; have s1 : 0 ≤ s := by omega
    have s2 : s < 7 := by omega
    have hemp : (l.map (·.1)).isEmpty = decide (l = []) := by cases l <;> simp
    rw [hemp] at he
    by_cases hem : l = []
    · rw [decide_eq_true hem] at he
      cases hi : idle s with
      | false =>
       rw [if_pos (.inl (by rw [hi]; rfl))] at he; subst he; subst hem; exact val_check_10e p e t s u st q cap hrg s1 s2 hi hf hk h
      | true =>
       by_cases h1 : s = 0
       · by_cases h2 : st = -1
         · rw [if_neg (by rw [hi, h1, h2]; decide)] at he; have htr : tRise (l.map (·.1)) = true := by rw [hem]; rfl
           rw [if_neg (by rw [htr]; decide)] at he; subst he; subst hem; exact val_check_e11t p e t s u st q cap hrg s1 s2 hi h1 h2 htr hf hk h
         · rw [if_pos (.inr (by rw [h1, beq_eq_false_iff_ne.2 h2]; rfl))] at he; subst he; subst hem; exact val_check_e10 p e t s u st q cap hrg s1 s2 hi h1 h2 hf hk h
       · by_cases h2 : st = -1
         · rw [if_pos (.inr (by rw [h2, beq_eq_false_iff_ne.2 h1]; rfl))] at he; subst he; subst hem; exact val_check_e01 p e t s u st q cap hrg s1 s2 hi h1 h2 hf hk h
         · rw [if_neg (by rw [hi, beq_eq_false_iff_ne.2 h1, beq_eq_false_iff_ne.2 h2]; decide)] at he; have htr : tRise (l.map (·.1)) = true := by rw [hem]; rfl
           rw [if_neg (by rw [htr]; decide)] at he; subst he; subst hem; exact val_check_e00t p e t s u st q cap hrg s1 s2 hi h1 h2 htr hf hk h
    · rw [decide_eq_false hem] at he
      cases hi : idle s with
      | true =>
       rw [if_pos (.inl (by rw [hi]; rfl))] at he; subst he; exact val_check_10f p e t s u st l q cap hrg s1 s2 hi hem hf hk h
      | false =>
       have h1 : ¬ s = 0 := by rintro rfl; rw [idle_0] at hi; cases hi
       by_cases h2 : st = -1
       · rw [if_pos (.inr (by rw [h2, beq_eq_false_iff_ne.2 h1]; rfl))] at he; subst he; exact val_check_f01 p e t s u st l q cap hrg s1 s2 hi hem h1 h2 hf hk h
       · rw [if_neg (by rw [hi, beq_eq_false_iff_ne.2 h1, beq_eq_false_iff_ne.2 h2]; decide)] at he
         cases htr : tRise (l.map (·.1)) with
         | true =>
           rw [if_neg (by rw [htr]; decide)] at he; subst he; exact val_check_f00t p e t s u st l q cap hrg s1 s2 hi hem h1 h2 htr hf hk h
         | false =>
           rw [if_pos htr] at he; subst he; exact val_check_f00b p e t s u st l q cap hrg s1 s2 hi hem h1 h2 htr hf hk h
theorem fits_rng (n size : Int) (h : fits n size) : -9223372036854775808 ≤ n ∧ n < 9223372036854775808 := by
 obtain ⟨h1, h2, h3, h4⟩ := h; unfold half at h3 h4
 rcases (by omega : size.toNat - 1 = 0 ∨ size.toNat - 1 = 1 ∨ size.toNat - 1 = 2 ∨ size.toNat - 1 = 3 ∨ size.toNat - 1 = 4 ∨ size.toNat - 1 = 5 ∨ size.toNat - 1 = 6 ∨ size.toNat - 1 = 7) with h | h | h | h | h | h | h | h <;> rw [h] at h3 h4 <;> omega
theorem so_intV (p : Nat) (e e2 : Bs) (n size : Int) (he : e ++ beBytes n size.toNat = e2) (hf : fits n size) (hl : e.length ≤ 100000000000000) {W0 w : World} {K : Know} {L : List Res} (h : St W0 w K (.out p ⟨e, 0⟩ :: L)) :
  Calls Try.prog 37 #[outPtr p, .int .i64 n, .int .i64 size] w fun en w' => en = .returned (.tuple #[]) ∧ St W0 w' K (.out p ⟨e2, 0⟩ :: L) := by
 have h2 := so_int p ⟨e, 0⟩ n size (fits_rng n size hf) h (by unfold OutS.ok; simp only; omega); have e3 : (⟨e, 0⟩ : OutS).int n size = ⟨e2, 0⟩ := by unfold OutS.int; rw [if_pos hf, ← he]; rfl
 rw [e3] at h2; exact h2
theorem blob_putTextV (p : Nat) (e e2 s : Bs) (he : e ++ encF 2 ⟨false, s⟩ = e2) (hs : s.length ≤ 32767) (hl : e.length ≤ 100000000000000) {W0 w : World} {K : Know} {L : List Res} (h : St W0 w K (.out p ⟨e, 0⟩ :: L)) :
  Calls Try.prog 38 #[outPtr p, .string (bb s)] w fun en w' => en = .returned (.tuple #[]) ∧ St W0 w' K (.out p ⟨e2, 0⟩ :: L) := by
 have h2 := blob_putText p ⟨e, 0⟩ s h (by unfold OutS.ok; simp only; omega); have hf : fits (⟨false, s⟩ : BlobS).len 2 := vfits2 _ (by show -32768 ≤ (s.length : Int) ∧ (s.length : Int) < 32768; omega)
 have e3 : (⟨e, 0⟩ : OutS).putText s = ⟨e2, 0⟩ := by
  show ((⟨e, 0⟩ : OutS).int (⟨false, s⟩ : BlobS).len 2).putData ⟨false, s⟩ = _
  unfold OutS.int; rw [if_pos hf, ← he]
  show (⟨(e ++ beBytes (⟨false, s⟩ : BlobS).len 2) ++ s, 0⟩ : OutS) = _
  rw [List.append_assoc]
  rfl
 rw [e3] at h2; exact h2
theorem sr_bytesV (n size : Int) (k : Nat) (hs : size = k) (hk : k ≤ 8) (r : Bs) (hr : beBytes n k = r) (hn : -9223372036854775808 ≤ n ∧ n < 9223372036854775808) {W0 w : World} {K : Know} {L : List Res} (h : St W0 w K L) :
  Calls Try.prog 41 #[.int .i64 n, .int .i64 size] w fun en w' => en = .returned (.string (bb r)) ∧ St W0 w' K L := by
 subst hr hs; exact sr_bytes n k (by omega) hn h
theorem ref04_fixedV (s r : Bs) (hr : encF 2 ⟨false, s⟩ = r) (hs : s.length ≤ 32767) {W0 w : World} {K : Know} {L : List Res} (h : St W0 w K L) :
  Calls Try.prog 61 #[.agg #[.bool false, .string (bb s)], .int .i64 2] w fun en w' => en = .returned (.string (bb r)) ∧ St W0 w' K L := by
 subst hr; exact ref04_fixed ⟨false, s⟩ 2 (by simp only; omega) (by decide) h
set_option maxHeartbeats 2000000 in
set_option maxRecDepth 100000 in
theorem val_putTopics (po : Nat) (e e2 : Bs) (l : List (TopS × Value)) (q : Option Addr) (cap : Nat) (he : e ++ encTs (l.map (·.1)) = e2) (hel : e.length ≤ 1000000) (hf : FitTs (l.map (·.1))) {W0 w : World} {K : Know} {L : List Res} (hk : K.has (Know.tops (.slice q l.length cap) l)) (h : St W0 w K (.out po ⟨e, 0⟩ :: L)) :
  Calls Try.prog 55 #[outPtr po, .slice q l.length cap] w fun en w' => en = .returned (.tuple #[]) ∧ St W0 w' K (.out po ⟨e2, 0⟩ :: L) := by
 have H := Lib.hid h; have HK := Lib.hid hk; have HE := Lib.hid he; have HEL := Lib.hid hel; have HF := Lib.hid hf; have hni : (l.length : Int) ≤ 1000000 := by have := hf.1; rw [List.length_map] at this; omega
 obtain ⟨A, hA⟩ : ∃ A, e ++ preT (l.map (·.1)) 0 = A := ⟨_, rfl⟩; have HA := Lib.hid (show e ++ beBytes (l.length : Int) (4 : Int).toNat = A by rw [← hA, preT_zero, List.length_map]; rfl); have HFL := Lib.hid (vfits4 (l.length : Int) (by omega)); have HR0 := Lib.hid (show e.length ≤ 100000000000000 by omega); clear h hk he hel hf; go_enter Try.func55, Try.ntmps55; go_wp2_with (go_at_call 37; (with_reducible refine (so_intV po _ _ _ _ HA.out HFL.out HR0.out H.out).mono ?_); rintro e_ wn ⟨rfl, h⟩; replace H := Lib.hid h; clear h); go_loopw [5, 7, 14, 30] (fun _ _ iv _ wr => ∃ k : Nat, k ≤ l.length ∧ iv = .int .i64 k ∧ St W0 wr K (.out po ⟨e ++ preT (l.map (·.1)) k, 0⟩ :: L)) (fun _ _ iv _ _ => l.length - (intOf iv).toNat)
 case atStart => exact ⟨0, Nat.zero_le _, rfl, by rw [hA]; exact H.out⟩
 case round =>
  obtain ⟨k, hkl, rfl, hst⟩ := hrel; clear H hA; have H := Lib.hid hst; clear hst
  by_cases hlt : k < l.length
  · as_aux_lemma =>
    obtain ⟨b, off, hqq⟩ := tops_at HK.out H.out (by omega); subst hqq; obtain ⟨⟨⟨nm, ps⟩, vx⟩, hx⟩ : ∃ x, l[k] = x := ⟨_, rfl⟩; obtain ⟨c0, c1⟩ : wr.cell? ⟨b, off + k * 2, none⟩ = some (.string (bb nm)) ∧ wr.cell? ⟨b, off + k * 2 + 1, none⟩ = some vx := tops_cell HK.out H.out k hlt _ hx; have hmem : ((⟨nm, ps⟩ : TopS), vx) ∈ l := hx ▸ List.getElem_mem hlt; have hxk : K.has (Know.flat RI vx 1 ps) := tops_parts HK.out hmem; obtain ⟨qx, capx, hvx⟩ := flat_form hxk H.out; subst hvx; have HXK := Lib.hid hxk; have hmk : k < (l.map (·.1)).length := by rw [List.length_map]; exact hlt
    have hmg : (l.map (·.1))[k] = ⟨nm, ps⟩ := by rw [List.getElem_map, hx]
    have hfx : (⟨nm, ps⟩ : TopS).Fit := HF.out.2 _ (hmg ▸ List.getElem_mem hmk); have HNM := Lib.hid hfx.1; have HPL := Lib.hid hfx.2.1; have HPS := Lib.hid hfx.2.2; have hkn : (k : Int) < (l.length : Int) := by omega
    have hnl : (nm.length : Int) ≤ 32767 := by have := hfx.1; simp only at this; omega
    have hpl : (ps.length : Int) ≤ 1000000 := by have := hfx.2.1; simp only at this; omega
    have hst1 := preT_step (l.map (·.1)) k hmk _ hmg; have hle1 := preT_le (l.map (·.1)) HF.out (k + 1) hmk; have hln : (l.map (·.1)).length ≤ 1000000 := HF.out.1; simp only at hst1; have hel := HEL.out; obtain ⟨tb, htb⟩ : ∃ b, wr.heap.size = b := ⟨_, rfl⟩; have h := (H.out.allocRaw #[.string (bb nm), .slice qx ps.length capx] 56).p1; rw [htb] at h; have t0 := h.p1.rawCell 0; have t1 := h.p1.rawCell 1; simp at t0 t1; obtain ⟨B0, hB0⟩ : ∃ B, e ++ preT (l.map (·.1)) k = B := ⟨_, rfl⟩; obtain ⟨B1, hB1⟩ : ∃ B, B0 ++ encF 2 ⟨false, nm⟩ = B := ⟨_, rfl⟩; obtain ⟨B2, hB2⟩ : ∃ B, B1 ++ beBytes (ps.length : Int) 4 = B := ⟨_, rfl⟩; have HB3 := Lib.hid (show e ++ preT (l.map (·.1)) (k + 1) = B2 ++ be4s ps by rw [hst1, ← hB2, ← hB1, ← hB0]; simp only [List.append_assoc])
    have hlen : (B2 ++ be4s ps).length ≤ 100000000000000 := by
     rw [← HB3.out, List.length_append]
     omega
    have hl0 : B0.length ≤ 100000000000000 ∧ B1.length ≤ 100000000000000 ∧ B2.length + 4 * ps.length ≤ 100000000000000 := by
     rw [List.length_append, be4s_len] at hlen; rw [← hB2, List.length_append] at hlen ⊢; rw [← hB1, List.length_append] at hlen ⊢
     omega
    rw [hB0] at h; have HB1 := Lib.hid hB1; have HB2 := Lib.hid (show B1 ++ beBytes (ps.length : Int) (4 : Int).toNat = B2 from hB2); have HL0 := Lib.hid hl0; have HFP := Lib.hid (vfits4 (ps.length : Int) (by omega))
    have hp0 : ps = [] ∨ ∃ pb poff, qx = some ⟨pb, poff, none⟩ := by
     by_cases hps : ps = []
     · exact .inl hps
     · exact .inr (flat_at HXK.out H.out (List.length_pos_iff.2 hps))
    have HP0 := Lib.hid hp0; clear H; have H := Lib.hid h; clear h hx hmem hxk hmk hmg hfx hst1 hle1 hln hel hB0 hB1 hB2 hlen hl0 hp0
    go_wp2_with (first
  | (go_at_call 38; (with_reducible refine (blob_putTextV po B0 B1 nm HB1.out HNM.out HL0.out.1 H.out).mono ?_); rintro e_ wn ⟨rfl, h⟩; have t0 := h.p1.rawCell 0; have t1 := h.p1.rawCell 1; simp at t0 t1; replace H := Lib.hid h; clear h)
  | (go_at_call 37; (with_reducible refine (so_intV po B1 B2 _ _ HB2.out HFP.out HL0.out.2.1 H.out).mono ?_); rintro e_ wn ⟨rfl, h⟩; have t0 := h.p1.rawCell 0; have t1 := h.p1.rawCell 1; simp at t0 t1; replace H := Lib.hid h; clear h))
    clear t0 t1; go_loopw [7, 30] (fun _ jv wr => ∃ j : Nat, j ≤ ps.length ∧ jv = .int .i64 j ∧ St W0 wr K (.out po ⟨B2 ++ be4s (ps.take j), 0⟩ :: .raw tb #[.string (bb nm), .slice qx ps.length capx] 56 :: L)) (fun _ jv _ => ps.length - (intOf jv).toNat)
    case atStart => exact ⟨0, Nat.zero_le _, rfl, by rw [List.take_zero]; show St W0 _ K (.out po ⟨B2 ++ [], 0⟩ :: _); rw [List.append_nil]; exact H.out⟩
    case round =>
     obtain ⟨j, hjl, rfl, hst⟩ := hrel; clear H; have H := Lib.hid hst; clear hst
     by_cases hlj : j < ps.length
     · have hps : ¬ ps = [] := by rintro rfl; simp at hlj
       rcases HP0.out with hps2 | ⟨pb, poff, hq⟩
       · exact absurd hps2 hps
       subst hq; have d0 := int_cell HXK.out H.out j hlj; obtain ⟨x, hx⟩ : ∃ x, ps.getD j 0 = x := ⟨_, rfl⟩; rw [hx] at d0; have hxr := HPS.out x (hx ▸ getD_mem ps j hlj); have hst := be4s_step ps j hlj x hx; obtain ⟨C, hC⟩ : ∃ C, B2 ++ be4s (ps.take j) = C := ⟨_, rfl⟩; have h := H.out; rw [hC] at h; have HC2 := Lib.hid (show C ++ beBytes x (4 : Int).toNat = B2 ++ be4s (ps.take (j + 1)) by rw [hst, ← hC, List.append_assoc]; rfl)
       have HCL := Lib.hid (show C.length ≤ 100000000000000 by
        rw [← hC, List.length_append, be4s_len, List.length_take]; have := HL0.out.2.2
        omega)
       have HFX := Lib.hid (vfits4 x hxr); have hji : (j : Int) < (ps.length : Int) := by omega
       clear H; have H := Lib.hid h; clear h hC hst hx hps hxr; go_wp2_with (go_at_call 37; (with_reducible refine (so_intV po C _ x _ HC2.out HFX.out HCL.out H.out).mono ?_); rintro e_ wn ⟨rfl, h⟩; replace H := Lib.hid h; clear h); go_roundw
       case rel => exact ⟨j + 1, hlj, by go_num, H.out⟩
       case measure => first | (simp [intOf]; done) | (simp [intOf]; omega)
     · obtain rfl : j = ps.length := by omega
       have h := H.out; rw [List.take_length, ← HB3.out] at h; clear H; have H := Lib.hid h; clear h; go_wp2; go_roundw
       case rel => exact ⟨k + 1, hlt, by go_num, H.out.p1.drop⟩
       case measure => first | (simp [intOf]; done) | (simp [intOf]; omega)
  · obtain rfl : k = l.length := by omega
    have h := H.out; rw [show preT (l.map (·.1)) l.length = encTs (l.map (·.1)) by rw [← preT_all, List.length_map], HE.out] at h; clear H; have H := Lib.hid h; clear h; go_wp2; go_end0; exact ⟨rfl, H.out⟩
theorem ValS.ok_parts (v : ValS) (h : v.err = 0) : v.ranged = true ∧ (0 ≤ v.state ∧ v.state < 7) ∧ idle v.state = v.tops.isEmpty ∧ (v.state == 0) = (v.started == -1) ∧ tRise v.tops = true := by
 unfold ValS.err at h
 by_cases h1 : v.ranged = false
 · rw [if_pos h1] at h; cases h
 · rw [if_neg h1] at h
   by_cases h2 : v.state < 0 ∨ 7 ≤ v.state
   · rw [if_pos h2] at h; cases h
   · rw [if_neg h2] at h
     by_cases h3 : (idle v.state != v.tops.isEmpty) = true ∨ ((v.state == 0) != (v.started == -1)) = true
     · rw [if_pos h3] at h; cases h
     · rw [if_neg h3] at h
       by_cases h4 : tRise v.tops = false
       · rw [if_pos h4] at h; cases h
       · refine ⟨by cases hh : v.ranged with
           | true => rfl
           | false => exact absurd hh h1, by omega, ?_, ?_, by cases hh : tRise v.tops with
           | true => rfl
           | false => exact absurd hh h4⟩
         · have := fun h => h3 (.inl h)
           simpa using this
         · have := fun h => h3 (.inr h)
           simpa using this
theorem ranged_parts (v : ValS) (h : v.ranged = true) : 0 ≤ v.prod ∧ (0 ≤ v.epoch ∧ v.epoch ≤ 32767) ∧ (0 ≤ v.timeout ∧ v.timeout ≤ 2147483647) ∧ 0 ≤ v.upd ∧ -1 ≤ v.started := by
 unfold ValS.ranged at h; simp only [Bool.and_eq_true, decide_eq_true_eq] at h
 omega
theorem pRise_rng (l : List Int) (h : pRise l = true) : ∀ n ∈ l, 0 ≤ n ∧ n ≤ 2147483647 := by
 intro n hn; obtain ⟨i, hi, rfl⟩ := List.mem_iff_getElem.1 hn; have hne : l ≠ [] := by rintro rfl; simp at hi
 rw [pRise_pk l hne] at h; have h2 := allN_at h i hi; unfold pk at h2; rw [Bool.and_eq_true] at h2; have h3 := of_decide_eq_true h2.1; rw [List.getD_eq_getElem?_getD, List.getElem?_eq_getElem hi] at h3; exact h3
theorem fit_of_rise (l : List (TopS × Value)) (hf : FewT l) (h : tRise (l.map (·.1)) = true) : FitTs (l.map (·.1)) := by
 unfold tRise at h; rw [Bool.and_eq_true] at h; refine ⟨by rw [List.length_map]; exact hf.1, fun t ht => ?_⟩; have h2 := List.all_eq_true.1 h.1 t ht; unfold tOk at h2; simp only [Bool.and_eq_true, decide_eq_true_eq] at h2; obtain ⟨x, hx, rfl⟩ := List.mem_map.1 ht; have h3 := pRise_rng _ h2.2; exact ⟨h2.1.2, (hf.2 x hx).2, fun n hn => by have := h3 n hn; omega⟩
def ValS.R (v : ValS) : Prop := (-9223372036854775808 ≤ v.prod ∧ v.prod < 9223372036854775808) ∧ (-9223372036854775808 ≤ v.epoch ∧ v.epoch < 9223372036854775808) ∧ (-9223372036854775808 ≤ v.timeout ∧ v.timeout < 9223372036854775808) ∧ (-9223372036854775808 ≤ v.state ∧ v.state < 9223372036854775808) ∧ (-9223372036854775808 ≤ v.upd ∧ v.upd < 9223372036854775808) ∧ (-9223372036854775808 ≤ v.started ∧ v.started < 9223372036854775808)
theorem so_textV (p : Nat) (e : Bs) {W0 w : World} {K : Know} {L : List Res} (h : St W0 w K (.out p ⟨e, 0⟩ :: L)) :
 Calls Try.prog 39 #[outPtr p] w fun en w' => en = .returned (.tuple #[.string (bb e), .int .i64 0]) ∧ St W0 w' K (.out p ⟨e, 0⟩ :: L) := so_text p ⟨e, 0⟩ h
theorem val_checkV (p e t s u st : Int) (l : List (TopS × Value)) (q : Option Addr) (cap : Nat) (E : Int) (he : ValS.err ⟨p, e, t, s, l.map (·.1), u, st⟩ = E) (hf : FewT l) {W0 w : World} {K : Know} {L : List Res} (hk : K.has (Know.tops (.slice q l.length cap) l)) (h : St W0 w K L) :
 Calls Try.prog 30 #[.agg #[.int .i64 p, .int .i64 e, .int .i64 t, .int .i64 s, .slice q l.length cap, .int .i64 u, .int .i64 st]] w fun en w' => en = .returned (.int .i64 E) ∧ St W0 w' K L := val_check ⟨p, e, t, s, l.map (·.1), u, st⟩ l q cap rfl E he hf hk h
def ValS.z : ValS := ⟨0, 0, 0, 0, [], 0, 0⟩
def InS.valF (i : InS) : ValS × InS :=
  let a := i.int 8
  let b := a.2.int 2
  let c := b.2.int 4
  let d := c.2.int 1
  let e := d.2.tops
  let f := e.2.int 8
  let g := f.2.int 8
  (⟨a.1, b.1, c.1, d.1, e.1, f.1, g.1⟩, g.2)
theorem valF_eq {i i1 i2 i3 i4 i5 i6 i7 : InS} {p e t s u st : Int} {l : List TopS} (h1 : i.int 8 = (p, i1)) (h2 : i1.int 2 = (e, i2)) (h3 : i2.int 4 = (t, i3)) (h4 : i3.int 1 = (s, i4)) (h5 : i4.tops = (l, i5)) (h6 : i5.int 8 = (u, i6)) (h7 : i6.int 8 = (st, i7)) : i.valF = (⟨p, e, t, s, l, u, st⟩, i7) := by
 unfold InS.valF; simp only [h1, h2, h3, h4, h5, h6, h7]
def decI (s : Bs) : InS := if ((⟨s, 0, 0⟩ : InS).int 2).1 = 0 then ((⟨s, 0, 0⟩ : InS).int 2).2 else ((⟨s, 0, 0⟩ : InS).int 2).2.fail 7
def decE (s : Bs) : Int := (decI s).valF.2.close.err
def valDec (s : Bs) : ValS × Int := if decE s ≠ 0 then (ValS.z, decE s) else if (decI s).valF.1.err ≠ 0 then (ValS.z, (decI s).valF.1.err) else ((decI s).valF.1, 0)
def InS.At (s : Bs) (i : InS) : Prop := i.s = s ∧ i.pos ≤ s.length
theorem At.int {s : Bs} {i : InS} (h : i.At s) (k : Int) : (i.int k).2.At s := by
 obtain ⟨rfl, h⟩ := h; unfold InS.int
 split
 · unfold InS.fail; split
   · exact ⟨rfl, h⟩
   · exact ⟨rfl, h⟩
 · unfold InS.take
   split
   · exact ⟨rfl, h⟩
   · split
     · exact ⟨rfl, h⟩
     · split
       · exact ⟨rfl, h⟩
       · rename_i h1 h2 h3
         refine ⟨rfl, ?_⟩; simp only [InS.left] at h3
         show i.pos + k.toNat ≤ i.s.length
         omega
theorem At.fail {s : Bs} {i : InS} (h : i.At s) (e : Int) : (i.fail e).At s := by
 unfold InS.fail
 split
 · exact ⟨h.1, h.2⟩
 · exact h
theorem intsB_len : ∀ (n : Nat) (s : Bs), (intsB n s).length = n
  | 0, _ => rfl
  | n + 1, s => by show (intsB n (s.drop 4)).length + 1 = _; rw [intsB_len n]
def FewL (l : List TopS) : Prop := l.length ≤ 1000000 ∧ ∀ t ∈ l, t.name.length ≤ 140737488355328 ∧ t.parts.length ≤ 1000000
theorem partsP_few {s : Bs} {l : List Int} {n : Nat} (h : partsP s = .ok (l, n)) (hs : s.length ≤ 1000000) : l.length ≤ 1000000 := by
 unfold partsP at h
 cases h1 : cntP 4 s with
 | error e => rw [h1] at h; cases h
 | ok x =>
  rw [h1] at h
  cases h
  have h2 := (cntP_ok (n := x.1) (k := x.2) (by decide) h1).2.1; rw [intsB_len]
  omega
theorem textP_few {s : Bs} {d : Bs} {n : Nat} (h : textP s = .ok (d, n)) : d.length ≤ s.length := by
 unfold textP at h
 cases h1 : refixed 2 s with
 | error e => rw [h1] at h; cases h
 | ok x =>
  rw [h1] at h; simp only at h
  split at h
  · cases h
  · cases h
    unfold refixed gotS at h1
    split at h1
    · cases h1
    · split at h1
      · cases h1; simp [BlobS.none]
      · split at h1
        · cases h1
        · split at h1
          · cases h1
          · cases h1
            simp only [List.length_take, List.length_drop]
            omega
theorem topN_few : ∀ (n : Nat) (s : Bs) (l : List TopS) (k : Nat), topN n s = .ok (l, k) → s.length ≤ 1000000 → l.length = n ∧ ∀ t ∈ l, t.name.length ≤ 140737488355328 ∧ t.parts.length ≤ 1000000
  | 0, s, l, k, h, _ => by cases h; exact ⟨rfl, fun t ht => by cases ht⟩
  | n + 1, s, l, k, h, hs => by
    unfold topN at h
    cases h1 : topP s with
    | error e => rw [h1] at h; cases h
    | ok x =>
      rw [h1] at h; simp only at h
      cases h2 : topN n (s.drop x.2) with
      | error e => rw [h2] at h; cases h
      | ok y =>
        rw [h2] at h
        cases h
        have ih := topN_few n (s.drop x.2) y.1 y.2 h2 (by rw [List.length_drop]; omega); refine ⟨by rw [List.length_cons, ih.1], fun t ht => ?_⟩
        rcases List.mem_cons.1 ht with rfl | ht
        · unfold topP at h1
          cases h3 : textP s with
          | error e => rw [h3] at h1; cases h1
          | ok a =>
            rw [h3] at h1; simp only at h1
            cases h4 : partsP (s.drop a.2) with
            | error e => rw [h4] at h1; cases h1
            | ok b =>
              rw [h4] at h1
              cases h1
              have h5 := textP_few (d := a.1) (n := a.2) h3; have h6 := partsP_few (l := b.1) (n := b.2) h4 (by rw [List.length_drop]; omega); exact ⟨by simp only; omega, h6⟩
        · exact ih.2 t ht
theorem topsP_few {s : Bs} {l : List TopS} {n : Nat} (h : topsP s = .ok (l, n)) (hs : s.length ≤ 1000000) : FewL l := by
 unfold topsP at h
 cases h1 : cntP 6 s with
 | error e => rw [h1] at h; cases h
 | ok x =>
  rw [h1] at h; simp only at h
  cases h2 : topN x.1 (s.drop 4) with
  | error e => rw [h2] at h; cases h
  | ok y =>
   rw [h2] at h
   cases h
   have h3 := (cntP_ok (n := x.1) (k := x.2) (by decide) h1).2.1; have h4 := topN_few x.1 (s.drop 4) y.1 y.2 h2 (by rw [List.length_drop]; omega); exact ⟨by rw [h4.1]; omega, h4.2⟩
theorem tops_few {s : Bs} {i : InS} (ha : i.At s) (hs : s.length ≤ 1000000) : FewL i.tops.1 := by
 have hn : FewL [] := ⟨by decide, fun t ht => by cases ht⟩; obtain ⟨s', pos, er⟩ := i; obtain ⟨h1, h2⟩ := ha; simp only at h1 h2; subst h1
 by_cases he : er = 0
 · subst he
   cases h3 : topsP (s'.drop pos) with
   | error e =>
    obtain ⟨_, q, _, h4⟩ := rds_tops.err s' pos e h2 h3; rw [h4]; exact hn
   | ok x =>
    obtain ⟨_, h4⟩ := rds_tops.ok s' pos x.1 x.2 h2 h3; rw [h4]; exact topsP_few (l := x.1) (n := x.2) h3 (by rw [List.length_drop]; omega)
 · rw [rds_tops.stuck ⟨s', pos, er⟩ he]; exact hn
theorem decI_at (s : Bs) : (decI s).At s := by
 have h0 : (⟨s, 0, 0⟩ : InS).At s := ⟨rfl, Nat.zero_le _⟩; unfold decI
 split
 · exact At.int h0 2
 · exact At.fail (At.int h0 2) 7
theorem valF_few {s : Bs} {i : InS} (h : i.At s) (hs : s.length ≤ 1000000) : FewL i.valF.1.tops := tops_few (At.int (At.int (At.int (At.int h 8) 2) 4) 1) hs
theorem fewT_of {lr : List (TopS × Value)} (h : FewL (lr.map (·.1))) : FewT lr := ⟨by have := h.1; rw [List.length_map] at this; exact this, fun x hx => h.2 x.1 (List.mem_map_of_mem hx)⟩
theorem close_st {i : InS} (h : i.err ≠ 0) : i.close.err = i.err := by
 unfold InS.close
 split
 · unfold InS.fail; rw [if_neg h]
 · rfl
theorem valF_stuck {i : InS} (h : i.err ≠ 0) : i.valF = (ValS.z, i) := by
 have r8 : i.int 8 = (0, i) := (rds_intN 8 (by decide) (by decide)).stuck i h; have r2 : i.int 2 = (0, i) := (rds_intN 2 (by decide) (by decide)).stuck i h; have r4 : i.int 4 = (0, i) := (rds_intN 4 (by decide) (by decide)).stuck i h; have r1 : i.int 1 = (0, i) := (rds_intN 1 (by decide) (by decide)).stuck i h; have rt : i.tops = ([], i) := rds_tops.stuck i h; exact valF_eq r8 r2 r4 r1 rt r8 r8
theorem decE_zero {s : Bs} (h : decE s = 0) : ((⟨s, 0, 0⟩ : InS).int 2).1 = 0 := by
 by_cases ha : ((⟨s, 0, 0⟩ : InS).int 2).1 = 0
 · exact ha
 · exfalso
   have hj : (decI s).err ≠ 0 := by
    unfold decI; rw [if_neg ha]; unfold InS.fail
    split
    · show (7 : Int) ≠ 0; decide
    · assumption
   unfold decE at h; rw [valF_stuck hj, close_st hj] at h; exact hj h
theorem valDec_ok {s : Bs} {v : ValS} (h : valDec s = (v, 0)) (hz : v ≠ ValS.z ∨ True) : decE s = 0 ∧ (decI s).valF.1 = v ∧ v.err = 0 := by
 unfold valDec at h
 by_cases h1 : decE s ≠ 0
 · rw [if_pos h1] at h; simp only [Prod.mk.injEq] at h; exact absurd h.2 h1
 · rw [if_neg h1] at h
   by_cases h2 : (decI s).valF.1.err ≠ 0
   · rw [if_pos h2] at h; simp only [Prod.mk.injEq] at h; exact absurd h.2 h2
   · rw [if_neg h2] at h; simp only [Prod.mk.injEq] at h; refine ⟨Classical.not_not.1 h1, h.1, ?_⟩; rw [← h.1]; exact Classical.not_not.1 h2
theorem cnt_nat (i : InS) (each : Nat) : (i.count 4 each).1 = ((i.cnt each).1 : Int) ∧ (i.cnt each).1 ≤ 2147483647 := by
 have hr : -2147483648 ≤ (i.int 4).1 ∧ (i.int 4).1 < 2147483648 := by
  have e4 : half (4 : Int).toNat = 2147483648 := by decide
  by_cases hi : i.err = 0
  · obtain ⟨s, pos, er⟩ := i; simp only at hi; subst hi; unfold InS.int; rw [if_neg (by decide)]; simp only; unfold InS.take
    split
    · show -2147483648 ≤ sInt [] ∧ sInt [] < 2147483648; decide
    · split
      · show -2147483648 ≤ sInt [] ∧ sInt [] < 2147483648; decide
      · split
        · show -2147483648 ≤ sInt [] ∧ sInt [] < 2147483648; decide
        · rename_i h1 h2 h3
          have hl : (((s.drop pos)).take (4 : Int).toNat).length = 4 := by
           rw [List.length_take, List.length_drop]; simp only [InS.left] at h3; have : (4 : Int).toNat = 4 := rfl
           omega
          have h6 := sInt_fits _ 4 (by decide) (by decide) hl; have h7 := h6.2.2; have e5 : half ((4 : Nat) : Int).toNat = 2147483648 := by decide
          rw [e5] at h7; exact h7
  · rw [int_stuck i hi]; show (-2147483648 : Int) ≤ 0 ∧ (0 : Int) < 2147483648; decide
 have h0 : 0 ≤ (i.count 4 each).1 ∧ (i.count 4 each).1 < 2147483648 := by
  unfold InS.count; simp only
  split
  · simp
  · split
    · simp
    · omega
 unfold InS.cnt; simp only
 omega
theorem s_cntV (p : Nat) (i j : InS) (each n : Nat) (ei : Int) (he : ei = each) (hx : i.cnt each = (n, j)) {W0 w : World} {K : Know} {L : List Res} (h : St W0 w K (.inp p i :: L)) :
  Calls Try.prog 67 #[inPtr p, .int .i64 4, .int .i64 ei] w fun en w' => en = .returned (.int .i64 n) ∧ St W0 w' K (.inp p j :: L) := by
 subst he; have h2 := s_count p i 4 each h; have h3 := (cnt_nat i each).1; rw [hx] at h3; have h4 : (i.count 4 each).2 = j := by have := congrArg Prod.snd hx; exact this
 rw [h3, h4] at h2; exact h2
theorem s_intV (p : Nat) (i j : InS) (x : Int) (size : Int) (hx : i.int size = (x, j)) {W0 w : World} {K : Know} {L : List Res} (h : St W0 w K (.inp p i :: L)) :
  Calls Try.prog 25 #[inPtr p, .int .i64 size] w fun en w' => en = .returned (.int .i64 x) ∧ St W0 w' K (.inp p j :: L) := by
 have h2 := s_int p i size h; rw [hx] at h2; exact h2
theorem s_errV (p : Nat) (i : InS) (e : Int) (hx : i.err = e) {W0 w : World} {K : Know} {L : List Res} (h : St W0 w K (.inp p i :: L)) :
  Calls Try.prog 69 #[inPtr p] w fun en w' => en = .returned (.int .i64 e) ∧ St W0 w' K (.inp p i :: L) := by
 subst hx; exact s_err p i h
theorem blob_textV (p : Nat) (i j : InS) (s : Bs) (hx : i.text = (s, j)) {W0 w : World} {K : Know} {L : List Res} (h : St W0 w K (.inp p i :: L)) :
  Calls Try.prog 27 #[inPtr p] w fun en w' => en = .returned (.string (bb s)) ∧ St W0 w' K (.inp p j :: L) := by
 have h2 := blob_text p i h; rw [hx] at h2; exact h2
theorem elem_int : ElemT Try.prog 3 (.int .i64 0) 1 8 := elemT_of (by kernel_rfl) rfl (by decide)
theorem elem_top : ElemT Try.prog 56 (.agg #[.string ⟨#[]⟩, .slice none 0 0]) 2 40 := elemT_of (by kernel_rfl) rfl (by decide)
theorem tops_nil (K : Know) : K.has (K.and (Know.tops (.slice none 0 0) [])) := fun _ _ h => ⟨h, ⟨none, 0, rfl, fun h => absurd h (by simp)⟩, fun x hx => by cases hx⟩
set_option maxHeartbeats 1000000 in
set_option maxRecDepth 100000 in
theorem val_parts (p : Nat) (i j : InS) (l : List Int) (hx : i.parts = (l, j)) {W0 w : World} {K : Know} {L : List Res} (h : St W0 w K (.inp p i :: L)) :
  Calls Try.prog 68 #[inPtr p] w fun en w' => ∃ v, en = .returned v ∧ St W0 w' (K.and (Know.flat RI v 1 l)) (.inp p j :: L) := by
 obtain ⟨⟨n, c⟩, hc⟩ : ∃ r, i.cnt 4 = r := ⟨_, rfl⟩; have hnl := (cnt_nat i 4).2; rw [hc] at hnl; have hx2 : InS.partsN n [] c = (l, j) := by rw [← hx]; unfold InS.parts; rw [hc]
 have HC := Lib.hid hc; have HX := Lib.hid hx2; have HNL := Lib.hid hnl; have H := Lib.hid h; have hni : (n : Int) ≤ 2147483647 := by simp only at hnl; omega
 clear h hx hc hx2 hnl; go_enter Try.func68, Try.ntmps68; go_wp2_with (go_at_call 67; (with_reducible refine (s_cntV p i c 4 n 4 rfl HC.out H.out).mono ?_); rintro e_ wn ⟨rfl, h⟩; replace H := Lib.hid h; clear h); go_loopw [3, 6] (fun lv iv wr => ∃ (k : Nat) (i2 : InS) (acc : List Int), k ≤ n ∧ iv = .int .i64 k ∧ Hid (acc.length = k) ∧ Hid (InS.partsN (n - k) acc i2 = (l, j)) ∧ St W0 wr K (.row lv 3 1 acc.length (acc.flatMap fun x => [.int .i64 x]) :: .inp p i2 :: L)) (fun _ iv _ => n - (intOf iv).toNat)
 case atStart => exact ⟨0, c, [], Nat.zero_le _, rfl, Lib.hid rfl, Lib.hid HX.out, H.out.nilRow 3 1⟩
 case round =>
  obtain ⟨k, i2, acc, hk, rfl, HAL, HP, hst⟩ := hrel; clear H; have H := Lib.hid hst; clear hst
  by_cases hlt : k < n
  · obtain ⟨⟨x, i3⟩, hi3⟩ : ∃ r, i2.int 4 = r := ⟨_, rfl⟩; have HI := Lib.hid hi3
    have HP2 := Lib.hid (show InS.partsN (n - (k + 1)) (acc ++ [x]) i3 = (l, j) by
     have h1 := HP.out; rw [show n - k = (n - (k + 1)) + 1 by omega] at h1; have h2 : InS.partsN (n - (k + 1)) (acc ++ [(i2.int 4).1]) (i2.int 4).2 = (l, j) := h1; rw [hi3] at h2
     exact h2)
    have HAB := Lib.hid (show acc.length ≤ 2147483647 by have := HAL.out; have := HNL.out; omega); have hkn : (k : Int) < (n : Int) := by omega
    clear hi3
    go_wp2_with (first
  | (go_at_call 25; (with_reducible refine (s_intV p i2 i3 x 4 HI.out H.out.p1).mono ?_); rintro e_ wn ⟨rfl, h⟩; have h := h.p1; replace H := Lib.hid h; clear h)
  | (at_builtin; refine wpl_app1_st rfl _ _ 54 rfl 3 Try.underlying54 elem_int _ _ _ rfl H.out [.int .i64 x] 3 rfl rfl (by simp [Value.oneCell']) (by have := HAB.out; unfold maxLen; omega) (by have := HAB.out; omega) ?_; intro v' w' h; replace H := Lib.hid h; clear h))
    go_roundw
    case rel => exact ⟨k + 1, i3, acc ++ [x], hlt, by go_num, Lib.hid (by rw [List.length_append, HAL.out]; rfl), HP2, by rw [List.length_append, List.flatMap_append]; exact H.out⟩
    case measure => first | (simp [intOf]; done) | (simp [intOf]; omega)
  · obtain rfl : k = n := by omega
    have hp := HP.out; rw [Nat.sub_self] at hp; have hp : (acc, i2) = (l, j) := hp; simp only [Prod.mk.injEq] at hp; obtain ⟨rfl, rfl⟩ := hp; go_wp2; go_ret; exact ⟨_, rfl, H.out.freezeRow (R := RI) (fun x _ => ⟨rfl, rfl⟩)⟩

set_option maxHeartbeats 2000000 in
set_option maxRecDepth 100000 in
theorem val_topics (p : Nat) (i j : InS) (l : List TopS) (hx : i.tops = (l, j)) {W0 w : World} {K : Know} {L : List Res} (h : St W0 w K (.inp p i :: L)) :
  Calls Try.prog 50 #[inPtr p] w fun en w' => ∃ (v : Value) (lr : List (TopS × Value)), en = .returned v ∧ lr.map (·.1) = l ∧ St W0 w' (K.and (Know.tops v lr)) (.inp p j :: L) := by
 obtain ⟨⟨n, c⟩, hc⟩ : ∃ r, i.cnt 6 = r := ⟨_, rfl⟩; have hnl := (cnt_nat i 6).2; rw [hc] at hnl; have hx2 : InS.topsN n [] c = (l, j) := by rw [← hx]; unfold InS.tops; rw [hc]
 have HC := Lib.hid hc; have HX := Lib.hid hx2; have HNL := Lib.hid hnl; have H := Lib.hid h; have hni : (n : Int) ≤ 2147483647 := by simp only at hnl; omega
 clear h hx hc hx2 hnl; go_enter Try.func50, Try.ntmps50; go_wp2_with (go_at_call 67; (with_reducible refine (s_cntV p i c 6 n 6 rfl HC.out H.out).mono ?_); rintro e_ wn ⟨rfl, h⟩; replace H := Lib.hid h; clear h); go_loopw [3, 4, 7] (fun lv _ iv wr => ∃ (k : Nat) (i2 : InS) (acc : List (TopS × Value)) (K2 : Know), k ≤ n ∧ iv = .int .i64 k ∧ Hid (acc.length = k) ∧ Hid (InS.topsN (n - k) (acc.map (·.1)) i2 = (l, j)) ∧ Hid (K2.has K) ∧ Hid (∀ x ∈ acc, K2.has (Know.flat RI x.2 1 x.1.parts)) ∧ St W0 wr K2 (.row lv 56 2 acc.length (acc.flatMap tcells) :: .inp p i2 :: L)) (fun _ _ iv _ => n - (intOf iv).toNat)
 case atStart => exact ⟨0, c, [], K, Nat.zero_le _, rfl, Lib.hid rfl, Lib.hid HX.out, Lib.hid (Know.has_refl _), Lib.hid (fun x hx => by cases hx), H.out.nilRow 56 2⟩
 case round =>
  obtain ⟨k, i2, acc, K2, hk, rfl, HAL, HP, HKK, HALL, hst⟩ := hrel; clear H; have H := Lib.hid hst; clear hst
  by_cases hlt : k < n
  · obtain ⟨⟨nm, i3⟩, hi3⟩ : ∃ r, i2.text = r := ⟨_, rfl⟩; obtain ⟨⟨ps, i4⟩, hi4⟩ : ∃ r, i3.parts = r := ⟨_, rfl⟩; obtain ⟨er, her⟩ : ∃ er, i4.err = er := ⟨_, rfl⟩; have HT := Lib.hid hi3; have HPS := Lib.hid hi4; have HER := Lib.hid her
    have hstep : (if er = 0 then InS.topsN (n - (k + 1)) (acc.map (·.1) ++ [⟨nm, ps⟩]) i4 else ([], i4)) = (l, j) := by
      have h1 := HP.out; rw [show n - k = (n - (k + 1)) + 1 by omega] at h1; have h2 : (if i2.text.2.parts.2.err = 0 then InS.topsN (n - (k + 1)) (acc.map (·.1) ++ [⟨i2.text.1, i2.text.2.parts.1⟩]) i2.text.2.parts.2 else ([], i2.text.2.parts.2)) = (l, j) := h1; rw [hi3] at h2; simp only at h2; rw [hi4] at h2; simp only at h2; rw [her] at h2; exact h2
    have HAB := Lib.hid (show acc.length ≤ 2147483647 by have := HAL.out; have := HNL.out; omega); have hkn : (k : Int) < (n : Int) := by omega
    clear hi3 hi4 her
    by_cases he0 : er = 0
    · as_aux_lemma =>
      rw [if_pos he0] at hstep; have HP2 := Lib.hid hstep; subst he0; clear hstep
      go_wp2_with (first
  | (go_at_call 27; (with_reducible refine (blob_textV p i2 i3 nm HT.out H.out.p1).mono ?_); rintro e_ wn ⟨rfl, h⟩; replace H := Lib.hid h; clear h)
  | (go_at_call 68; (with_reducible refine (val_parts p i3 i4 ps HPS.out H.out).mono ?_); rintro e_ wn ⟨pv, rfl, h⟩; obtain ⟨qx, capx, hpv⟩ := flat_form (Know.has_right (Know.has_refl _)) h; subst hpv; have h := h.p1; replace H := Lib.hid h; clear h)
  | (at_builtin; refine wpl_app1_st rfl _ _ 35 rfl 56 Try.underlying35 elem_top _ _ _ rfl H.out [.string (bb nm), .slice qx ps.length capx] 56 rfl rfl (by simp [Value.oneCell']) (by have := HAB.out; unfold maxLen; omega) (by have := HAB.out; omega) ?_; intro v' w' h; have h := h.p1; replace H := Lib.hid h; clear h)
  | (go_at_call 69; (with_reducible refine (s_errV p i4 0 HER.out H.out).mono ?_); rintro e_ wn ⟨rfl, h⟩; have h := h.p1; replace H := Lib.hid h; clear h))
      go_roundw
      case rel => exact ⟨k + 1, i4, acc ++ [((⟨nm, ps⟩ : TopS), .slice qx ps.length capx)], K2.and (Know.flat RI (.slice qx ps.length capx) 1 ps), hlt, by go_num, Lib.hid (by rw [List.length_append, HAL.out]; rfl), Lib.hid (by rw [List.map_append]; exact HP2.out), Lib.hid (Know.has_trans (Know.has_left (Know.has_refl _)) HKK.out), Lib.hid (fun x hx => by
       rcases List.mem_append.1 hx with hx | hx
       · exact Know.has_left (HALL.out x hx)
       · rw [List.mem_singleton.1 hx]; exact Know.has_right (Know.has_refl _)), by rw [List.length_append, List.flatMap_append]; exact H.out⟩
      case measure => first | (simp [intOf]; done) | (simp [intOf]; omega)
    · as_aux_lemma =>
      rw [if_neg he0] at hstep; simp only [Prod.mk.injEq] at hstep; obtain ⟨rfl, rfl⟩ := hstep; have gz : (er == 0) = false := by rw [beq_eq_false_iff_ne]; exact he0
      have gz3 : (er != 0) = true := by simp [bne, gz]
      clear he0
      go_wp2_with (first
  | (go_at_call 27; (with_reducible refine (blob_textV p i2 i3 nm HT.out H.out.p1).mono ?_); rintro e_ wn ⟨rfl, h⟩; replace H := Lib.hid h; clear h)
  | (go_at_call 68; (with_reducible refine (val_parts p i3 _ ps HPS.out H.out).mono ?_); rintro e_ wn ⟨pv, rfl, h⟩; obtain ⟨qx, capx, hpv⟩ := flat_form (Know.has_right (Know.has_refl _)) h; subst hpv; have h := h.p1; replace H := Lib.hid h; clear h)
  | (at_builtin; refine wpl_app1_st rfl _ _ 35 rfl 56 Try.underlying35 elem_top _ _ _ rfl H.out [.string (bb nm), .slice qx ps.length capx] 56 rfl rfl (by simp [Value.oneCell']) (by have := HAB.out; unfold maxLen; omega) (by have := HAB.out; omega) ?_; intro v' w' h; have h := h.p1; replace H := Lib.hid h; clear h)
  | (go_at_call 69; (with_reducible refine (s_errV p _ er HER.out H.out).mono ?_); rintro e_ wn ⟨rfl, h⟩; replace H := Lib.hid h; clear h))
      go_ret; exact ⟨_, [], rfl, rfl, (H.out.p1.drop).know (Know.has_trans (Know.has_left HKK.out) (tops_nil K))⟩
  · obtain rfl : k = n := by omega
    have hp := HP.out; rw [Nat.sub_self] at hp; have hp : (acc.map (·.1), i2) = (l, j) := hp; simp only [Prod.mk.injEq] at hp; obtain ⟨rfl, rfl⟩ := hp; go_wp2; go_ret; have hf := H.out.freezeRow (R := RTop) (fun x _ => ⟨rfl, rfl⟩); have hf2 := hf.know (K' := K.and (Know.tops _ acc)) (fun w F hh => ⟨HKK.out _ _ hh.1, hh.2, fun y hy => HALL.out y hy _ _ hh.1⟩)
    first | exact ⟨_, acc, rfl, rfl, hf2⟩ | exact ⟨_, rfl, acc, rfl, hf2⟩
def verRd (k : Nat) (ok : Int → Bool) (e : Int) (s : Bs) : Int × Int :=
  if s.length < 2 then (0, 1) else if sInt (s.take 2) ≠ 0 then (0, 7) else if s.length < 2 + k then (0, 1)
  else if ok (sInt ((s.drop 2).take k)) = false then (0, e) else if 2 + k < s.length then (0, 2) else (sInt ((s.drop 2).take k), 0)
def way (n : Int) : Bool := n == 0 || n == 1
def time0 (n : Int) : Bool := decide (0 ≤ n)
def ctlRead (n1 n2 : Bool) (d1 d2 : Bs) (many o : Int) : Int × Int × Int :=
  if n1 = true ∨ n2 = true ∨ many ≠ 0 ∨ o ≠ 0 then (0, 0, 12)
  else if (verRd 2 way 12 d1).2 ≠ 0 then (0, 0, (verRd 2 way 12 d1).2)
  else if (verRd 4 time0 11 d2).2 ≠ 0 then (0, 0, (verRd 4 time0 11 d2).2)
  else ((verRd 2 way 12 d1).1, (verRd 4 time0 11 d2).1, 0)

end Go.Proofs.Ytmpehoebgifmnaa
