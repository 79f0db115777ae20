/- A text. -/
import Derived.Test.YtnnnglklgofabaaGProduceSame4
import Derived.Test.YtnnnglklgofabaaGProduceSame1
import Derived.Deep.RegionHeld3
import Derived.Deep.DeepCutAuto
import Derived.Test.YtnnnglklgofabaaCtl1
import Derived.Test.YtnnnglklgofabaaGProduceSame3
import Derived.RegionTactic
import Derived.WalkMore
import Derived.Test.YtnnnglklgofabaaGProduceSame2
/- A text. -/
namespace Go.Proofs.Ytnnnglklgofabaa
open Go.RowKit

theorem attrN_inj (a t c a' t' c' : Bool) (h : attrN a t c 3 = attrN a' t' c' 3) : a = a' ∧ t = t' ∧ c = c' := by
 revert h
 cases a <;> cases t <;> cases c <;> cases a' <;> cases t' <;> cases c' <;> decide

set_option maxHeartbeats 4000000 in
set_option maxRecDepth 100000 in
theorem bat_sameF (base1 : Int) (leader1 : Int) (app1 : Bool) (txn1 : Bool) (ctl1 : Bool) (last1 : Int) (first1 : Int) (maxt1 : Int) (prod1 : Int) (epoch1 : Int) (seq1 : Int) (base2 : Int) (leader2 : Int) (app2 : Bool) (txn2 : Bool) (ctl2 : Bool) (last2 : Int) (first2 : Int) (maxt2 : Int) (prod2 : Int) (epoch2 : Int) (seq2 : Int) (l1 l2 : List (RecS × Value)) (q1 q2 : Option Addr) (cap1 cap2 : Nat) (hne : ¬ (base1 = base2 ∧ leader1 = leader2 ∧ attrN app1 txn1 ctl1 3 = attrN app2 txn2 ctl2 3 ∧ last1 = last2 ∧ first1 = first2 ∧ maxt1 = maxt2 ∧ prod1 = prod2 ∧ epoch1 = epoch2 ∧ seq1 = seq2)) {W0 w : World} {K : Know} {L : List Res} (h : St W0 w K L) :
   Calls Try.prog 91 #[.agg #[.int .i64 base1, .int .i64 leader1, .bool app1, .bool txn1, .bool ctl1, .int .i64 last1, .int .i64 first1, .int .i64 maxt1, .int .i64 prod1, .int .i64 epoch1, .int .i64 seq1, .slice q1 l1.length cap1], .agg #[.int .i64 base2, .int .i64 leader2, .bool app2, .bool txn2, .bool ctl2, .int .i64 last2, .int .i64 first2, .int .i64 maxt2, .int .i64 prod2, .int .i64 epoch2, .int .i64 seq2, .slice q2 l2.length cap2]] w fun en w' => en = .returned (.bool false) ∧ St W0 w' K L := by
 obtain ⟨hb, hhb⟩ : ∃ b, w.heap.size = b := ⟨_, rfl⟩
 have h1 := (h.allocRaw #[.int .i64 base1, .int .i64 leader1, .bool app1, .bool txn1, .bool ctl1, .int .i64 last1, .int .i64 first1, .int .i64 maxt1, .int .i64 prod1, .int .i64 epoch1, .int .i64 seq1, .slice q1 l1.length cap1] 39).allocRaw #[.int .i64 base2, .int .i64 leader2, .bool app2, .bool txn2, .bool ctl2, .int .i64 last2, .int .i64 first2, .int .i64 maxt2, .int .i64 prod2, .int .i64 epoch2, .int .i64 seq2, .slice q2 l2.length cap2] 39
 rw [World.size_alloc, hhb] at h1
 obtain ⟨hc, hhc⟩ : ∃ b, hb + 1 = b := ⟨_, rfl⟩
 rw [hhc] at h1
 have H := Lib.hid h1
 have HC := Lib.hid (show ∀ w : World, (if base1 = base2 then (if leader1 = leader2 then (if attrN app1 txn1 ctl1 3 = attrN app2 txn2 ctl2 3 then (if last1 = last2 then (if first1 = first2 then (if maxt1 = maxt2 then (if prod1 = prod2 then (if epoch1 = epoch2 then (if seq1 = seq2 then (Result.ok (Next.value (Value.bool true)) w : Result Next) else Result.ok (Next.value (Value.bool false)) w) else Result.ok (Next.value (Value.bool false)) w) else Result.ok (Next.value (Value.bool false)) w) else Result.ok (Next.value (Value.bool false)) w) else Result.ok (Next.value (Value.bool false)) w) else Result.ok (Next.value (Value.bool false)) w) else Result.ok (Next.value (Value.bool false)) w) else Result.ok (Next.value (Value.bool false)) w) else Result.ok (Next.value (Value.bool false)) w) = Result.ok (Next.value (Value.bool false)) w from fun w => by
   split
   case isFalse => rfl
   split
   case isFalse => rfl
   split
   case isFalse => rfl
   split
   case isFalse => rfl
   split
   case isFalse => rfl
   split
   case isFalse => rfl
   split
   case isFalse => rfl
   split
   case isFalse => rfl
   split
   case isFalse => rfl
   exact absurd ⟨by assumption, by assumption, by assumption, by assumption, by assumption, by assumption, by assumption, by assumption, by assumption⟩ hne)
 clear hne
 have hkeep : ∀ w', St W0 w' K (.raw hc #[.int .i64 base2, .int .i64 leader2, .bool app2, .bool txn2, .bool ctl2, .int .i64 last2, .int .i64 first2, .int .i64 maxt2, .int .i64 prod2, .int .i64 epoch2, .int .i64 seq2, .slice q2 l2.length cap2] 39 :: .raw hb #[.int .i64 base1, .int .i64 leader1, .bool app1, .bool txn1, .bool ctl1, .int .i64 last1, .int .i64 first1, .int .i64 maxt1, .int .i64 prod1, .int .i64 epoch1, .int .i64 seq1, .slice q1 l1.length cap1] 39 :: L) → ((w'.cell? ⟨hb, 0, none⟩ = some (.int .i64 base1) ∧ w'.cell? ⟨hb, 1, none⟩ = some (.int .i64 leader1) ∧ w'.cell? ⟨hb, 2, none⟩ = some (.bool app1) ∧ w'.cell? ⟨hb, 3, none⟩ = some (.bool txn1) ∧ w'.cell? ⟨hb, 4, none⟩ = some (.bool ctl1) ∧ w'.cell? ⟨hb, 5, none⟩ = some (.int .i64 last1) ∧ w'.cell? ⟨hb, 6, none⟩ = some (.int .i64 first1) ∧ w'.cell? ⟨hb, 7, none⟩ = some (.int .i64 maxt1) ∧ w'.cell? ⟨hb, 8, none⟩ = some (.int .i64 prod1) ∧ w'.cell? ⟨hb, 9, none⟩ = some (.int .i64 epoch1) ∧ w'.cell? ⟨hb, 10, none⟩ = some (.int .i64 seq1) ∧ w'.cell? ⟨hb, 11, none⟩ = some (.slice q1 l1.length cap1)) ∧ (w'.cell? ⟨hc, 0, none⟩ = some (.int .i64 base2) ∧ w'.cell? ⟨hc, 1, none⟩ = some (.int .i64 leader2) ∧ w'.cell? ⟨hc, 2, none⟩ = some (.bool app2) ∧ w'.cell? ⟨hc, 3, none⟩ = some (.bool txn2) ∧ w'.cell? ⟨hc, 4, none⟩ = some (.bool ctl2) ∧ w'.cell? ⟨hc, 5, none⟩ = some (.int .i64 last2) ∧ w'.cell? ⟨hc, 6, none⟩ = some (.int .i64 first2) ∧ w'.cell? ⟨hc, 7, none⟩ = some (.int .i64 maxt2) ∧ w'.cell? ⟨hc, 8, none⟩ = some (.int .i64 prod2) ∧ w'.cell? ⟨hc, 9, none⟩ = some (.int .i64 epoch2) ∧ w'.cell? ⟨hc, 10, none⟩ = some (.int .i64 seq2) ∧ w'.cell? ⟨hc, 11, none⟩ = some (.slice q2 l2.length cap2))) := fun w' hs => ⟨⟨hs.p1.rawCell 0, hs.p1.rawCell 1, hs.p1.rawCell 2, hs.p1.rawCell 3, hs.p1.rawCell 4, hs.p1.rawCell 5, hs.p1.rawCell 6, hs.p1.rawCell 7, hs.p1.rawCell 8, hs.p1.rawCell 9, hs.p1.rawCell 10, hs.p1.rawCell 11⟩, ⟨hs.rawCell 0, hs.rawCell 1, hs.rawCell 2, hs.rawCell 3, hs.rawCell 4, hs.rawCell 5, hs.rawCell 6, hs.rawCell 7, hs.rawCell 8, hs.rawCell 9, hs.rawCell 10, hs.rawCell 11⟩⟩
 have HKP := Lib.hid hkeep
 clear h h1 hkeep
 go_enter Try.func91, Try.ntmps91
 go_upto_region 2 with (fail)
 have hs := H.out.drew
 refine wp_region_held_drew (S := fun w' => (w'.cell? ⟨hb, 0, none⟩ = some (.int .i64 base1) ∧ w'.cell? ⟨hb, 1, none⟩ = some (.int .i64 leader1) ∧ w'.cell? ⟨hb, 2, none⟩ = some (.bool app1) ∧ w'.cell? ⟨hb, 3, none⟩ = some (.bool txn1) ∧ w'.cell? ⟨hb, 4, none⟩ = some (.bool ctl1) ∧ w'.cell? ⟨hb, 5, none⟩ = some (.int .i64 last1) ∧ w'.cell? ⟨hb, 6, none⟩ = some (.int .i64 first1) ∧ w'.cell? ⟨hb, 7, none⟩ = some (.int .i64 maxt1) ∧ w'.cell? ⟨hb, 8, none⟩ = some (.int .i64 prod1) ∧ w'.cell? ⟨hb, 9, none⟩ = some (.int .i64 epoch1) ∧ w'.cell? ⟨hb, 10, none⟩ = some (.int .i64 seq1) ∧ w'.cell? ⟨hb, 11, none⟩ = some (.slice q1 l1.length cap1)) ∧ (w'.cell? ⟨hc, 0, none⟩ = some (.int .i64 base2) ∧ w'.cell? ⟨hc, 1, none⟩ = some (.int .i64 leader2) ∧ w'.cell? ⟨hc, 2, none⟩ = some (.bool app2) ∧ w'.cell? ⟨hc, 3, none⟩ = some (.bool txn2) ∧ w'.cell? ⟨hc, 4, none⟩ = some (.bool ctl2) ∧ w'.cell? ⟨hc, 5, none⟩ = some (.int .i64 last2) ∧ w'.cell? ⟨hc, 6, none⟩ = some (.int .i64 first2) ∧ w'.cell? ⟨hc, 7, none⟩ = some (.int .i64 maxt2) ∧ w'.cell? ⟨hc, 8, none⟩ = some (.int .i64 prod2) ∧ w'.cell? ⟨hc, 9, none⟩ = some (.int .i64 epoch2) ∧ w'.cell? ⟨hc, 10, none⟩ = some (.int .i64 seq2) ∧ w'.cell? ⟨hc, 11, none⟩ = some (.slice q2 l2.length cap2))) (by kernel_rfl) (HKP.out _ hs) (fun hHeld => ?_)
 refine tQ 0 ⟨some 6, .move (.tmp 5), 155, "batch.go:144", #[], none⟩ ?_; simp only [Act.put, sA, sB, sC]
 refine tQ 1 ⟨some 7, .load 39 (.tmp 2), 39, "batch.go:144", #[], none⟩ ?_; simp only [Act.put, sA, sB, sC]
 refine tQ 3 ⟨some 9, .move (.tmp 5), 155, "batch.go:144", #[], none⟩ ?_; simp only [Act.put, sA, sB, sC]
 refine tQ 4 ⟨some 10, .load 39 (.tmp 3), 39, "batch.go:144", #[], none⟩ ?_; simp only [Act.put, sA, sB, sC]
 refine wpAnyH_ready (rs := [2]) (by kernel_rfl) (by simp) (AllReadyH.cons (o := ⟨some 8, .call { callee := .value (.tmp 6), args := #[.tmp 7], argTypes := #[39] }, 73, "batch.go:144", #[.mk 0 .data, .mk 1 .data], none⟩) rfl (fun KK hK => ?_) AllReadyH.nil)
 · go_simp
   go_at_call 101
   with_reducible refine (bat_bare base1 leader1 app1 txn1 ctl1 last1 first1 maxt1 prod1 epoch1 seq1 (.slice q1 l1.length cap1) hs).mono ?_
   rintro e wq ⟨rfl, hs⟩
   refine hK.out _ _ (HKP.out _ hs) (fun hHeld => ?_)
   clear hK KK
   try simp only [Act.put, sA, sB, sC]
   refine wpAnyH_ready (rs := [5]) (by kernel_rfl) (by simp) (AllReadyH.cons (o := ⟨some 11, .call { callee := .value (.tmp 9), args := #[.tmp 10], argTypes := #[39] }, 73, "batch.go:144", #[.mk 3 .data, .mk 4 .data, .mk 2 .chain], none⟩) rfl (fun KK hK => ?_) AllReadyH.nil)
   · go_simp
     go_at_call 101
     with_reducible refine (bat_bare base2 leader2 app2 txn2 ctl2 last2 first2 maxt2 prod2 epoch2 seq2 (.slice q2 l2.length cap2) hs).mono ?_
     rintro e wq ⟨rfl, hs⟩
     refine hK.out _ _ (HKP.out _ hs) (fun hHeld => ?_)
     clear hK KK
     try simp only [Act.put, sA, sB, sC]
     refine wpAnyH_ready (rs := [6]) (by kernel_rfl) (by simp) (AllReadyH.cons (o := ⟨some 12, .binOp .eql 73 (.tmp 8) (.tmp 11) 73, 4, "batch.go:144", #[.mk 2 .data, .mk 5 .data], none⟩) rfl (fun KK hK => ?_) AllReadyH.nil)
     · go_simp
       rw [HC.out]
       go_simp
       refine hK.out _ _ (HKP.out _ hs) (fun hHeld => ?_)
       clear hK KK
       try simp only [Act.put, sA, sB, sC]
       refine tQ 7 ⟨some 13, .move (.tmp 12), 4, "batch.go:144", #[.mk 6 .data, .mk 5 .chain], none⟩ ?_; simp only [Act.put, sA, sB, sC]
       refine wpAnyH_take (i := 8) (oi := ⟨some 14, .fieldAddr 39 (.tmp 2) 11, 0, "batch.go:144", #[.mk 7 .guard], some (7, true)⟩) (v := undef) rfl (by kernel_rfl) (by kernel_rfl) (by kernel_rfl) (fun _ _ _ h => h) (Or.inr ⟨by rfl, rfl⟩) (by assumption) ?_
       simp only [Act.put, sA, sB, sC]
       refine wpAnyH_take (i := 9) (oi := ⟨some 15, .load 37 (.tmp 14), 37, "batch.go:144", #[.mk 8 .data, .mk 7 .guard], some (7, true)⟩) (v := undef) rfl (by kernel_rfl) (by kernel_rfl) (by kernel_rfl) (fun _ _ _ h => h) (Or.inr ⟨by rfl, rfl⟩) (by assumption) ?_
       simp only [Act.put, sA, sB, sC]
       refine wpAnyH_take (i := 10) (oi := ⟨some 16, .fieldAddr 39 (.tmp 3) 11, 0, "batch.go:144", #[.mk 7 .guard], some (7, true)⟩) (v := undef) rfl (by kernel_rfl) (by kernel_rfl) (by kernel_rfl) (fun _ _ _ h => h) (Or.inr ⟨by rfl, rfl⟩) (by assumption) ?_
       simp only [Act.put, sA, sB, sC]
       refine wpAnyH_take (i := 11) (oi := ⟨some 17, .load 37 (.tmp 16), 37, "batch.go:144", #[.mk 10 .data, .mk 7 .guard], some (7, true)⟩) (v := undef) rfl (by kernel_rfl) (by kernel_rfl) (by kernel_rfl) (fun _ _ _ h => h) (Or.inr ⟨by rfl, rfl⟩) (by assumption) ?_
       simp only [Act.put, sA, sB, sC]
       refine wpAnyH_take (i := 12) (oi := ⟨some 18, .call { callee := .value (.func 102), args := #[.tmp 15, .tmp 17, .func 103], argTypes := #[37, 37, 78] }, 4, "batch.go:144", #[.mk 9 .data, .mk 11 .data, .mk 7 .chain, .mk 7 .guard], some (7, true)⟩) (v := undef) rfl (by kernel_rfl) (by kernel_rfl) (by kernel_rfl) (fun _ _ _ h => h) (Or.inr ⟨by rfl, rfl⟩) (by assumption) ?_
       simp only [Act.put, sA, sB, sC]
       refine tQ 13 ⟨some 19, .pick (.tmp 13) (.tmp 18) (.const (Value.bool false)), 4, "batch.go:144", #[.mk 7 .data, .mk 12 .data], none⟩ ?_; simp only [Act.put, sA, sB, sC]
       refine tQ 14 ⟨some 4, .assign (.tmp 19), 4, "batch.go:144", #[.mk 13 .data, .mk 12 .chain, .mk 0 .phase, .mk 1 .phase, .mk 2 .phase, .mk 3 .phase, .mk 4 .phase, .mk 5 .phase, .mk 6 .phase, .mk 7 .phase, .mk 8 .phase, .mk 9 .phase, .mk 10 .phase, .mk 11 .phase, .mk 12 .phase, .mk 13 .phase], none⟩ ?_; simp only [Act.put, sA, sB, sC]
       refine wpAnyH_done (by kernel_rfl) ?_ _
       go_wp2_with fail
       go_ret
       exact ⟨rfl, hs.drop.drop⟩

set_option maxHeartbeats 4000000 in
set_option maxRecDepth 100000 in
theorem bat_sameE (base : Int) (leader : Int) (app : Bool) (txn : Bool) (ctl : Bool) (last : Int) (first : Int) (maxt : Int) (prod : Int) (epoch : Int) (seq : Int) (l1 l2 : List (RecS × Value)) (q1 q2 : Option Addr) (cap1 cap2 : Nat) (hn : l1.length ≤ 1000000) (r : Bool) (hr : decide (l1.map (·.1) = l2.map (·.1)) = r) (hf1 : ∀ x ∈ l1, x.1.hdrs.length ≤ 9223372036854775807) (hf2 : ∀ x ∈ l2, x.1.hdrs.length ≤ 9223372036854775807) {W0 w : World} {K : Know} {L : List Res} (hk1 : K.has (Know.recs (.slice q1 l1.length cap1) l1)) (hk2 : K.has (Know.recs (.slice q2 l2.length cap2) l2)) (h : St W0 w K L) :
   Calls Try.prog 91 #[.agg #[.int .i64 base, .int .i64 leader, .bool app, .bool txn, .bool ctl, .int .i64 last, .int .i64 first, .int .i64 maxt, .int .i64 prod, .int .i64 epoch, .int .i64 seq, .slice q1 l1.length cap1], .agg #[.int .i64 base, .int .i64 leader, .bool app, .bool txn, .bool ctl, .int .i64 last, .int .i64 first, .int .i64 maxt, .int .i64 prod, .int .i64 epoch, .int .i64 seq, .slice q2 l2.length cap2]] w fun en w' => en = .returned (.bool r) ∧ St W0 w' K L := by
 obtain ⟨hb, hhb⟩ : ∃ b, w.heap.size = b := ⟨_, rfl⟩
 have h1 := (h.allocRaw #[.int .i64 base, .int .i64 leader, .bool app, .bool txn, .bool ctl, .int .i64 last, .int .i64 first, .int .i64 maxt, .int .i64 prod, .int .i64 epoch, .int .i64 seq, .slice q1 l1.length cap1] 39).allocRaw #[.int .i64 base, .int .i64 leader, .bool app, .bool txn, .bool ctl, .int .i64 last, .int .i64 first, .int .i64 maxt, .int .i64 prod, .int .i64 epoch, .int .i64 seq, .slice q2 l2.length cap2] 39
 rw [World.size_alloc, hhb] at h1
 obtain ⟨hc, hhc⟩ : ∃ b, hb + 1 = b := ⟨_, rfl⟩
 rw [hhc] at h1
 have H := Lib.hid h1
 have HK1 := Lib.hid hk1
 have HK2 := Lib.hid hk2
 have HN := Lib.hid hn
 have HF1 := Lib.hid hf1
 have HF2 := Lib.hid hf2
 have HE := Lib.hid hr
 have hkeep : ∀ w', St W0 w' K (.raw hc #[.int .i64 base, .int .i64 leader, .bool app, .bool txn, .bool ctl, .int .i64 last, .int .i64 first, .int .i64 maxt, .int .i64 prod, .int .i64 epoch, .int .i64 seq, .slice q2 l2.length cap2] 39 :: .raw hb #[.int .i64 base, .int .i64 leader, .bool app, .bool txn, .bool ctl, .int .i64 last, .int .i64 first, .int .i64 maxt, .int .i64 prod, .int .i64 epoch, .int .i64 seq, .slice q1 l1.length cap1] 39 :: L) → ((w'.cell? ⟨hb, 0, none⟩ = some (.int .i64 base) ∧ w'.cell? ⟨hb, 1, none⟩ = some (.int .i64 leader) ∧ w'.cell? ⟨hb, 2, none⟩ = some (.bool app) ∧ w'.cell? ⟨hb, 3, none⟩ = some (.bool txn) ∧ w'.cell? ⟨hb, 4, none⟩ = some (.bool ctl) ∧ w'.cell? ⟨hb, 5, none⟩ = some (.int .i64 last) ∧ w'.cell? ⟨hb, 6, none⟩ = some (.int .i64 first) ∧ w'.cell? ⟨hb, 7, none⟩ = some (.int .i64 maxt) ∧ w'.cell? ⟨hb, 8, none⟩ = some (.int .i64 prod) ∧ w'.cell? ⟨hb, 9, none⟩ = some (.int .i64 epoch) ∧ w'.cell? ⟨hb, 10, none⟩ = some (.int .i64 seq) ∧ w'.cell? ⟨hb, 11, none⟩ = some (.slice q1 l1.length cap1)) ∧ (w'.cell? ⟨hc, 0, none⟩ = some (.int .i64 base) ∧ w'.cell? ⟨hc, 1, none⟩ = some (.int .i64 leader) ∧ w'.cell? ⟨hc, 2, none⟩ = some (.bool app) ∧ w'.cell? ⟨hc, 3, none⟩ = some (.bool txn) ∧ w'.cell? ⟨hc, 4, none⟩ = some (.bool ctl) ∧ w'.cell? ⟨hc, 5, none⟩ = some (.int .i64 last) ∧ w'.cell? ⟨hc, 6, none⟩ = some (.int .i64 first) ∧ w'.cell? ⟨hc, 7, none⟩ = some (.int .i64 maxt) ∧ w'.cell? ⟨hc, 8, none⟩ = some (.int .i64 prod) ∧ w'.cell? ⟨hc, 9, none⟩ = some (.int .i64 epoch) ∧ w'.cell? ⟨hc, 10, none⟩ = some (.int .i64 seq) ∧ w'.cell? ⟨hc, 11, none⟩ = some (.slice q2 l2.length cap2))) := fun w' hs => ⟨⟨hs.p1.rawCell 0, hs.p1.rawCell 1, hs.p1.rawCell 2, hs.p1.rawCell 3, hs.p1.rawCell 4, hs.p1.rawCell 5, hs.p1.rawCell 6, hs.p1.rawCell 7, hs.p1.rawCell 8, hs.p1.rawCell 9, hs.p1.rawCell 10, hs.p1.rawCell 11⟩, ⟨hs.rawCell 0, hs.rawCell 1, hs.rawCell 2, hs.rawCell 3, hs.rawCell 4, hs.rawCell 5, hs.rawCell 6, hs.rawCell 7, hs.rawCell 8, hs.rawCell 9, hs.rawCell 10, hs.rawCell 11⟩⟩
 have HKP := Lib.hid hkeep
 clear h h1 hk1 hk2 hf1 hf2 hr hn hkeep
 go_enter Try.func91, Try.ntmps91
 go_upto_region 2 with (fail)
 have hs := H.out.drew
 refine wp_region_held_drew (S := fun w' => (w'.cell? ⟨hb, 0, none⟩ = some (.int .i64 base) ∧ w'.cell? ⟨hb, 1, none⟩ = some (.int .i64 leader) ∧ w'.cell? ⟨hb, 2, none⟩ = some (.bool app) ∧ w'.cell? ⟨hb, 3, none⟩ = some (.bool txn) ∧ w'.cell? ⟨hb, 4, none⟩ = some (.bool ctl) ∧ w'.cell? ⟨hb, 5, none⟩ = some (.int .i64 last) ∧ w'.cell? ⟨hb, 6, none⟩ = some (.int .i64 first) ∧ w'.cell? ⟨hb, 7, none⟩ = some (.int .i64 maxt) ∧ w'.cell? ⟨hb, 8, none⟩ = some (.int .i64 prod) ∧ w'.cell? ⟨hb, 9, none⟩ = some (.int .i64 epoch) ∧ w'.cell? ⟨hb, 10, none⟩ = some (.int .i64 seq) ∧ w'.cell? ⟨hb, 11, none⟩ = some (.slice q1 l1.length cap1)) ∧ (w'.cell? ⟨hc, 0, none⟩ = some (.int .i64 base) ∧ w'.cell? ⟨hc, 1, none⟩ = some (.int .i64 leader) ∧ w'.cell? ⟨hc, 2, none⟩ = some (.bool app) ∧ w'.cell? ⟨hc, 3, none⟩ = some (.bool txn) ∧ w'.cell? ⟨hc, 4, none⟩ = some (.bool ctl) ∧ w'.cell? ⟨hc, 5, none⟩ = some (.int .i64 last) ∧ w'.cell? ⟨hc, 6, none⟩ = some (.int .i64 first) ∧ w'.cell? ⟨hc, 7, none⟩ = some (.int .i64 maxt) ∧ w'.cell? ⟨hc, 8, none⟩ = some (.int .i64 prod) ∧ w'.cell? ⟨hc, 9, none⟩ = some (.int .i64 epoch) ∧ w'.cell? ⟨hc, 10, none⟩ = some (.int .i64 seq) ∧ w'.cell? ⟨hc, 11, none⟩ = some (.slice q2 l2.length cap2))) (by kernel_rfl) (HKP.out _ hs) (fun hHeld => ?_)
 refine tQ 0 ⟨some 6, .move (.tmp 5), 155, "batch.go:144", #[], none⟩ ?_; simp only [Act.put, sA, sB, sC]
 refine tQ 1 ⟨some 7, .load 39 (.tmp 2), 39, "batch.go:144", #[], none⟩ ?_; simp only [Act.put, sA, sB, sC]
 refine tQ 3 ⟨some 9, .move (.tmp 5), 155, "batch.go:144", #[], none⟩ ?_; simp only [Act.put, sA, sB, sC]
 refine tQ 4 ⟨some 10, .load 39 (.tmp 3), 39, "batch.go:144", #[], none⟩ ?_; simp only [Act.put, sA, sB, sC]
 refine wpAnyH_ready (rs := [2]) (by kernel_rfl) (by simp) (AllReadyH.cons (o := ⟨some 8, .call { callee := .value (.tmp 6), args := #[.tmp 7], argTypes := #[39] }, 73, "batch.go:144", #[.mk 0 .data, .mk 1 .data], none⟩) rfl (fun KK hK => ?_) AllReadyH.nil)
 · go_simp
   go_at_call 101
   with_reducible refine (bat_bare base leader app txn ctl last first maxt prod epoch seq (.slice q1 l1.length cap1) hs).mono ?_
   rintro e wq ⟨rfl, hs⟩
   refine hK.out _ _ (HKP.out _ hs) (fun hHeld => ?_)
   clear hK KK
   try simp only [Act.put, sA, sB, sC]
   refine wpAnyH_ready (rs := [5]) (by kernel_rfl) (by simp) (AllReadyH.cons (o := ⟨some 11, .call { callee := .value (.tmp 9), args := #[.tmp 10], argTypes := #[39] }, 73, "batch.go:144", #[.mk 3 .data, .mk 4 .data, .mk 2 .chain], none⟩) rfl (fun KK hK => ?_) AllReadyH.nil)
   · go_simp
     go_at_call 101
     with_reducible refine (bat_bare base leader app txn ctl last first maxt prod epoch seq (.slice q2 l2.length cap2) hs).mono ?_
     rintro e wq ⟨rfl, hs⟩
     refine hK.out _ _ (HKP.out _ hs) (fun hHeld => ?_)
     clear hK KK
     try simp only [Act.put, sA, sB, sC]
     refine tQ 6 ⟨some 12, .binOp .eql 73 (.tmp 8) (.tmp 11) 73, 4, "batch.go:144", #[.mk 2 .data, .mk 5 .data], none⟩ ?_; simp only [Act.put, sA, sB, sC]
     refine tQ 7 ⟨some 13, .move (.tmp 12), 4, "batch.go:144", #[.mk 6 .data, .mk 5 .chain], none⟩ ?_; simp only [Act.put, sA, sB, sC]
     refine tQ 8 ⟨some 14, .fieldAddr 39 (.tmp 2) 11, 0, "batch.go:144", #[.mk 7 .guard], some (7, true)⟩ ?_; simp only [Act.put, sA, sB, sC]
     refine tQ 9 ⟨some 15, .load 37 (.tmp 14), 37, "batch.go:144", #[.mk 8 .data, .mk 7 .guard], some (7, true)⟩ ?_; simp only [Act.put, sA, sB, sC]
     refine tQ 10 ⟨some 16, .fieldAddr 39 (.tmp 3) 11, 0, "batch.go:144", #[.mk 7 .guard], some (7, true)⟩ ?_; simp only [Act.put, sA, sB, sC]
     refine tQ 11 ⟨some 17, .load 37 (.tmp 16), 37, "batch.go:144", #[.mk 10 .data, .mk 7 .guard], some (7, true)⟩ ?_; simp only [Act.put, sA, sB, sC]
     refine wpAnyH_ready (rs := [12]) (by kernel_rfl) (by simp) (AllReadyH.cons (o := ⟨some 18, .call { callee := .value (.func 102), args := #[.tmp 15, .tmp 17, .func 103], argTypes := #[37, 37, 78] }, 4, "batch.go:144", #[.mk 9 .data, .mk 11 .data, .mk 7 .chain, .mk 7 .guard], some (7, true)⟩) rfl (fun KK hK => ?_) AllReadyH.nil)
     · go_simp
       go_at_call 102
       with_reducible refine (sl_eqf l1 l2 q1 q2 cap1 cap2 HN.out r HE.out HF1.out HF2.out HK1.out HK2.out hs).mono ?_
       rintro e wq ⟨rfl, hs⟩
       refine hK.out _ _ (HKP.out _ hs) (fun hHeld => ?_)
       clear hK KK
       try simp only [Act.put, sA, sB, sC]
       refine tQ 13 ⟨some 19, .pick (.tmp 13) (.tmp 18) (.const (Value.bool false)), 4, "batch.go:144", #[.mk 7 .data, .mk 12 .data], none⟩ ?_; simp only [Act.put, sA, sB, sC]
       refine tQ 14 ⟨some 4, .assign (.tmp 19), 4, "batch.go:144", #[.mk 13 .data, .mk 12 .chain, .mk 0 .phase, .mk 1 .phase, .mk 2 .phase, .mk 3 .phase, .mk 4 .phase, .mk 5 .phase, .mk 6 .phase, .mk 7 .phase, .mk 8 .phase, .mk 9 .phase, .mk 10 .phase, .mk 11 .phase, .mk 12 .phase, .mk 13 .phase], none⟩ ?_; simp only [Act.put, sA, sB, sC]
       refine wpAnyH_done (by kernel_rfl) ?_ _
       go_wp2_with fail
       go_ret
       exact ⟨rfl, hs.drop.drop⟩

theorem bat_sameG (base1 : Int) (leader1 : Int) (app1 : Bool) (txn1 : Bool) (ctl1 : Bool) (last1 : Int) (first1 : Int) (maxt1 : Int) (prod1 : Int) (epoch1 : Int) (seq1 : Int) (base2 : Int) (leader2 : Int) (app2 : Bool) (txn2 : Bool) (ctl2 : Bool) (last2 : Int) (first2 : Int) (maxt2 : Int) (prod2 : Int) (epoch2 : Int) (seq2 : Int) (l1 l2 : List (RecS × Value)) (q1 q2 : Option Addr) (cap1 cap2 : Nat) (hn : l1.length ≤ 1000000) (r : Bool) (hr : decide ((⟨base1, leader1, app1, txn1, ctl1, last1, first1, maxt1, prod1, epoch1, seq1, l1.map (·.1)⟩ : BatS) = (⟨base2, leader2, app2, txn2, ctl2, last2, first2, maxt2, prod2, epoch2, seq2, l2.map (·.1)⟩ : BatS)) = r) (hf1 : ∀ x ∈ l1, x.1.hdrs.length ≤ 9223372036854775807) (hf2 : ∀ x ∈ l2, x.1.hdrs.length ≤ 9223372036854775807) {W0 w : World} {K : Know} {L : List Res} (hk1 : K.has (Know.recs (.slice q1 l1.length cap1) l1)) (hk2 : K.has (Know.recs (.slice q2 l2.length cap2) l2)) (h : St W0 w K L) :
   Calls Try.prog 91 #[.agg #[.int .i64 base1, .int .i64 leader1, .bool app1, .bool txn1, .bool ctl1, .int .i64 last1, .int .i64 first1, .int .i64 maxt1, .int .i64 prod1, .int .i64 epoch1, .int .i64 seq1, .slice q1 l1.length cap1], .agg #[.int .i64 base2, .int .i64 leader2, .bool app2, .bool txn2, .bool ctl2, .int .i64 last2, .int .i64 first2, .int .i64 maxt2, .int .i64 prod2, .int .i64 epoch2, .int .i64 seq2, .slice q2 l2.length cap2]] w fun en w' => en = .returned (.bool r) ∧ St W0 w' K L := by
 by_cases hp : base1 = base2 ∧ leader1 = leader2 ∧ attrN app1 txn1 ctl1 3 = attrN app2 txn2 ctl2 3 ∧ last1 = last2 ∧ first1 = first2 ∧ maxt1 = maxt2 ∧ prod1 = prod2 ∧ epoch1 = epoch2 ∧ seq1 = seq2
 · obtain ⟨rfl, rfl, ha, rfl, rfl, rfl, rfl, rfl, rfl⟩ := hp
   obtain ⟨rfl, rfl, rfl⟩ := attrN_inj _ _ _ _ _ _ ha
   exact bat_sameE base1 leader1 app1 txn1 ctl1 last1 first1 maxt1 prod1 epoch1 seq1 l1 l2 q1 q2 cap1 cap2 hn r (by rw [← hr]; exact decide_eq_decide.mpr ⟨fun e => by rw [e], fun e => by injection e⟩) hf1 hf2 hk1 hk2 h
 · have hr2 : r = false := batS_ne (by intro hh; injection hh; subst_vars; exact hp ⟨rfl, rfl, rfl, rfl, rfl, rfl, rfl, rfl, rfl⟩) hr
   subst hr2
   exact bat_sameF base1 leader1 app1 txn1 ctl1 last1 first1 maxt1 prod1 epoch1 seq1 base2 leader2 app2 txn2 ctl2 last2 first2 maxt2 prod2 epoch2 seq2 l1 l2 q1 q2 cap1 cap2 hp h
theorem bat_sameB (x y : BatS) (l1 l2 : List (RecS × Value)) (q1 q2 : Option Addr) (cap1 cap2 : Nat) (hn : l1.length ≤ 1000000) (hx : l1.map (·.1) = x.recs) (hy : l2.map (·.1) = y.recs) (r : Bool) (hr : decide (x = y) = r) (hf1 : ∀ x ∈ l1, x.1.hdrs.length ≤ 9223372036854775807) (hf2 : ∀ x ∈ l2, x.1.hdrs.length ≤ 9223372036854775807) {W0 w : World} {K : Know} {L : List Res} (hk1 : K.has (Know.recs (.slice q1 l1.length cap1) l1)) (hk2 : K.has (Know.recs (.slice q2 l2.length cap2) l2)) (h : St W0 w K L) :
  Calls Try.prog 91 #[.agg #[.int .i64 x.base, .int .i64 x.leader, .bool x.app, .bool x.txn, .bool x.ctl, .int .i64 x.last, .int .i64 x.first, .int .i64 x.maxt, .int .i64 x.prod, .int .i64 x.epoch, .int .i64 x.seq, .slice q1 l1.length cap1], .agg #[.int .i64 y.base, .int .i64 y.leader, .bool y.app, .bool y.txn, .bool y.ctl, .int .i64 y.last, .int .i64 y.first, .int .i64 y.maxt, .int .i64 y.prod, .int .i64 y.epoch, .int .i64 y.seq, .slice q2 l2.length cap2]] w fun en w' => en = .returned (.bool r) ∧ St W0 w' K L :=
 bat_sameG x.base x.leader x.app x.txn x.ctl x.last x.first x.maxt x.prod x.epoch x.seq y.base y.leader y.app y.txn y.ctl y.last y.first y.maxt y.prod y.epoch y.seq l1 l2 q1 q2 cap1 cap2 hn r (by rw [hx, hy]; exact hr) hf1 hf2 hk1 hk2 h
set_option maxHeartbeats 4000000 in
set_option maxRecDepth 100000 in
theorem bats_eqf (l1 l2 : List BatR) (q1 q2 : Option Addr) (cap1 cap2 : Nat) (r : Bool) (hr : decide (l1.map BatR.b = l2.map BatR.b) = r) (hn : l1.length ≤ 4398046511104) (hf1 : ∀ x ∈ l1, EqR x) (hf2 : ∀ x ∈ l2, EqR x) {W0 w : World} {K : Know} {L : List Res} (hk1 : K.has (Know.bats (.slice q1 l1.length cap1) l1)) (hk2 : K.has (Know.bats (.slice q2 l2.length cap2) l2)) (h : St W0 w K L) :
   Calls Try.prog 90 #[.slice q1 l1.length cap1, .slice q2 l2.length cap2, .func (.func 91) #[] #[]] w fun en w' => en = .returned (.bool r) ∧ St W0 w' K L := by
 have H := Lib.hid h
 have HK1 := Lib.hid hk1
 have HK2 := Lib.hid hk2
 have hni : (l1.length : Int) ≤ 4398046511104 := by omega
 have HF1 := Lib.hid hf1
 have HF2 := Lib.hid hf2
 clear h hk1 hk2 hf1 hf2 hn
 by_cases hlen : l1.length = l2.length
 rotate_left
 · have hr2 : r = false := by rw [← hr]; exact decide_eq_false (gmap_len_ne _ _ _ hlen)
   have g1 : ((l1.length : Int) == (l2.length : Int)) = false := by rw [beq_eq_false_iff_ne]; omega
   have g2 : ((l1.length : Int) != (l2.length : Int)) = true := by simp [bne, g1]
   have g3 : ¬ ((l1.length : Int) = (l2.length : Int)) := by omega
   subst hr2
   clear hlen hr
   go_enter Try.func90, Try.ntmps90
   go_wp2
   go_ret
   exact ⟨rfl, H.out⟩
 have HLEN := Lib.hid hlen
 have HR := Lib.hid hr
 have g1 : ((l1.length : Int) == (l2.length : Int)) = true := by rw [hlen]; exact beq_self_eq_true _
 have g2 : ((l1.length : Int) != (l2.length : Int)) = false := by simp [bne, g1]
 have g3 : (l2.length : Int) = (l1.length : Int) := by omega
 clear hr hlen
 go_enter Try.func90, Try.ntmps90
 go_wp2
 clear g1 g2 g3
 go_loopw [7, 8, 9, 17] (fun _ _ _ iv wr => ∃ k : Nat, k ≤ l1.length ∧ iv = .int .i64 k ∧ Hid ((l1.map BatR.b).take k = (l2.map BatR.b).take k) ∧ St W0 wr K L) (fun _ _ _ iv _ => l1.length - (intOf iv).toNat)
 case atStart => exact ⟨0, Nat.zero_le _, rfl, Lib.hid (by simp), H.out⟩
 case round =>
   obtain ⟨k, hkl, rfl, heq, hst⟩ := hrel
   clear H
   have H := Lib.hid hst
   clear hst
   by_cases hlt : k < l1.length
   · have hlt2 : k < l2.length := by have := HLEN.out; omega
     obtain ⟨b1', off1, hqq1⟩ := bats_at HK1.out H.out (by omega)
     subst hqq1
     obtain ⟨z1, hx1⟩ : ∃ x, l1[k] = x := ⟨_, rfl⟩
     have hmem1 : z1 ∈ l1 := hx1 ▸ List.getElem_mem _
     have XE1 := Lib.hid (HF1.out z1 hmem1)
     have XK1 := Lib.hid (bats_recs HK1.out hmem1)
     have HX1 := Lib.hid (show (l1[k]).b = z1.b by rw [hx1])
     have HXX1 := Lib.hid hx1
     clear hmem1 hx1
     obtain ⟨b2', off2, hqq2⟩ := bats_at HK2.out H.out (by omega)
     subst hqq2
     obtain ⟨z2, hx2⟩ : ∃ x, l2[k] = x := ⟨_, rfl⟩
     have hmem2 : z2 ∈ l2 := hx2 ▸ List.getElem_mem _
     have XE2 := Lib.hid (HF2.out z2 hmem2)
     have XK2 := Lib.hid (bats_recs HK2.out hmem2)
     have HX2 := Lib.hid (show (l2[k]).b = z2.b by rw [hx2])
     have HXX2 := Lib.hid hx2
     clear hmem2 hx2
     obtain ⟨c0, c1, c2, c3, c4, c5, c6, c7, c8, c9, c10, c11⟩ := bats_cell HK1.out H.out k hlt z1 HXX1.out
     obtain ⟨d0, d1, d2, d3, d4, d5, d6, d7, d8, d9, d10, d11⟩ := bats_cell HK2.out (H.out.allocRaw #[.int .i64 z1.b.base, .int .i64 z1.b.leader, .bool z1.b.app, .bool z1.b.txn, .bool z1.b.ctl, .int .i64 z1.b.last, .int .i64 z1.b.first, .int .i64 z1.b.maxt, .int .i64 z1.b.prod, .int .i64 z1.b.epoch, .int .i64 z1.b.seq, .slice z1.q z1.l.length z1.cap] 39) k hlt2 z2 HXX2.out
     have hki : (k : Int) < (l1.length : Int) := by omega
     have hki2 : (k : Int) < (l2.length : Int) := by omega
     have NX := Lib.hid (show z1.b ≠ z2.b → l1.map BatR.b ≠ l2.map BatR.b from gmap_ne_of_get _ l1 l2 k hlt hlt2 _ _ HX1.out HX2.out)
     have NT := Lib.hid (show z1.b = z2.b → (l1.map BatR.b).take (k + 1) = (l2.map BatR.b).take (k + 1) from fun e => by rw [gmap_take_succ _ l1 k hlt _ HX1.out, gmap_take_succ _ l2 k hlt2 _ HX2.out, heq.out, e])
     obtain ⟨wE, hwE⟩ : ∃ b, wr.heap.size = b := ⟨_, rfl⟩
     obtain ⟨wG, hwG⟩ : ∃ b, wE + 1 = b := ⟨_, rfl⟩
     have h := (H.out.allocRaw #[.int .i64 z1.b.base, .int .i64 z1.b.leader, .bool z1.b.app, .bool z1.b.txn, .bool z1.b.ctl, .int .i64 z1.b.last, .int .i64 z1.b.first, .int .i64 z1.b.maxt, .int .i64 z1.b.prod, .int .i64 z1.b.epoch, .int .i64 z1.b.seq, .slice z1.q z1.l.length z1.cap] 39).allocRaw #[.int .i64 z2.b.base, .int .i64 z2.b.leader, .bool z2.b.app, .bool z2.b.txn, .bool z2.b.ctl, .int .i64 z2.b.last, .int .i64 z2.b.first, .int .i64 z2.b.maxt, .int .i64 z2.b.prod, .int .i64 z2.b.epoch, .int .i64 z2.b.seq, .slice z2.q z2.l.length z2.cap] 39
     rw [World.size_alloc, hwE, hwG] at h
     clear H
     have H := Lib.hid h
     clear h HX1 HX2 HXX1 HXX2
     clear hlt2
     obtain ⟨u0, u1, u2, u3, u4, u5, u6, u7, u8, u9, u10, u11, v0, v1, v2, v3, v4, v5, v6, v7, v8, v9, v10, v11⟩ := raw12 (b := wG) (H.out)
     obtain ⟨x0, x1, x2, x3, x4, x5, x6, x7, x8, x9, x10, x11, y0, y1, y2, y3, y4, y5, y6, y7, y8, y9, y10, y11⟩ := raw12 (b := wE) (H.out.p1)
     by_cases hxy : z1.b = z2.b
     · have E1 := Lib.hid (decide_eq_true hxy)
       have NT2 := Lib.hid (NT.out hxy)
       clear hxy NX NT
       go_wp2_with (go_at_call 91; clear x0 x1 x2 x3 x4 x5 x6 x7 x8 x9 x10 x11 y0 y1 y2 y3 y4 y5 y6 y7 y8 y9 y10 y11 u0 u1 u2 u3 u4 u5 u6 u7 u8 u9 u10 u11 v0 v1 v2 v3 v4 v5 v6 v7 v8 v9 v10 v11; (with_reducible refine (bat_sameB z1.b z2.b z1.l z2.l _ _ _ _ XE1.out.len XE1.out.recs XE2.out.recs _ E1.out XE1.out.hdrs XE2.out.hdrs XK1.out XK2.out H.out).mono ?_); rintro e_ wn ⟨rfl, h⟩; replace H := Lib.hid h; clear h)
       go_roundw
       case rel => exact ⟨k + 1, hlt, by go_num, NT2, H.out.drop.drop⟩
       case measure => first | (simp [intOf]; done) | (simp [intOf]; omega)
     · have E1 := Lib.hid (decide_eq_false hxy)
       have HRF := Lib.hid (show r = false by rw [← HR.out]; exact decide_eq_false (NX.out hxy))
       clear hxy NX NT
       go_wp2_with (go_at_call 91; clear x0 x1 x2 x3 x4 x5 x6 x7 x8 x9 x10 x11 y0 y1 y2 y3 y4 y5 y6 y7 y8 y9 y10 y11 u0 u1 u2 u3 u4 u5 u6 u7 u8 u9 u10 u11 v0 v1 v2 v3 v4 v5 v6 v7 v8 v9 v10 v11; (with_reducible refine (bat_sameB z1.b z2.b z1.l z2.l _ _ _ _ XE1.out.len XE1.out.recs XE2.out.recs _ E1.out XE1.out.hdrs XE2.out.hdrs XK1.out XK2.out H.out).mono ?_); rintro e_ wn ⟨rfl, h⟩; replace H := Lib.hid h; clear h)
       go_ret
       exact ⟨ret_bool HRF.out.symm, H.out.drop.drop⟩
   · obtain rfl : k = l1.length := by omega
     have hall : l1.map BatR.b = l2.map BatR.b := by
       have h := heq.out
       rwa [List.take_of_length_le (by simp), List.take_of_length_le (by have := HLEN.out; simp; omega)] at h
     have HRT := Lib.hid (show r = true by rw [← HR.out, hall]; exact decide_eq_true rfl)
     clear hall
     go_wp2
     go_ret
     exact ⟨ret_bool HRT.out.symm, H.out⟩
structure EqP (x : PartR) : Prop where
  len : x.l.length ≤ 4398046511104
  bats : ∀ z ∈ x.l, EqR z
set_option maxHeartbeats 2000000 in
set_option maxRecDepth 100000 in
theorem same_part (z1 z2 : PartR) (r : Bool) (hr : decide (z1.pb = z2.pb) = r) (hx : EqP z1) (hy : EqP z2) {W0 w : World} {K : Know} {L : List Res} (hk1 : K.has (Know.bats (.slice z1.q z1.l.length z1.cap) z1.l)) (hk2 : K.has (Know.bats (.slice z2.q z2.l.length z2.cap) z2.l)) (h : St W0 w K L) :
   Calls Try.prog 65 #[.agg #[.int .i64 z1.idx, .slice z1.q z1.l.length z1.cap], .agg #[.int .i64 z2.idx, .slice z2.q z2.l.length z2.cap]] w fun en w' => en = .returned (.bool r) ∧ St W0 w' K L := by
 have h0 := (h.allocRaw #[.int .i64 z1.idx, .slice z1.q z1.l.length z1.cap] 36).allocRaw #[.int .i64 z2.idx, .slice z2.q z2.l.length z2.cap] 36
 rw [World.size_alloc] at h0
 have H := Lib.hid h0
 have HA := Lib.hid hk1
 have HB := Lib.hid hk2
 have HN := Lib.hid hx.len
 have HF1 := Lib.hid hx.bats
 have HF2 := Lib.hid hy.bats
 clear h h0 hk1 hk2 hx hy
 by_cases hn : z1.idx = z2.idx
 · have HE := Lib.hid (show decide (z1.l.map BatR.b = z2.l.map BatR.b) = r by rw [← hr]; exact decide_eq_decide.mpr ⟨fun h => Prod.ext hn h, fun h => congrArg Prod.snd h⟩)
   have hb : (z1.idx == z2.idx) = true := by rw [hn]; exact beq_self_eq_true _
   clear hr hn
   go_enter Try.func65, Try.ntmps65
   go_wp2_with (go_at_call 90; (with_reducible refine (bats_eqf z1.l z2.l _ _ _ _ _ HE.out HN.out HF1.out HF2.out HA.out HB.out H.out).mono ?_); rintro e_ wn ⟨rfl, h⟩; replace H := Lib.hid h; clear h)
   go_ret
   exact ⟨rfl, H.out.drop.drop⟩
 · have HR := Lib.hid (show r = false by rw [← hr]; exact decide_eq_false (fun h => hn (congrArg Prod.fst h)))
   have hb : (z1.idx == z2.idx) = false := by rw [beq_eq_false_iff_ne]; exact hn
   rw [show r = false from HR.out]
   clear hn hr
   go_enter Try.func65, Try.ntmps65
   go_wp2
   go_ret
   exact ⟨rfl, H.out.drop.drop⟩

set_option maxHeartbeats 4000000 in
set_option maxRecDepth 100000 in
theorem parts_eqf (l1 l2 : List PartR) (q1 q2 : Option Addr) (cap1 cap2 : Nat) (r : Bool) (hr : decide (l1.map PartR.pb = l2.map PartR.pb) = r) (hn : l1.length ≤ 4398046511104) (hf1 : ∀ x ∈ l1, EqP x) (hf2 : ∀ x ∈ l2, EqP x) {W0 w : World} {K : Know} {L : List Res} (hk1 : K.has (Know.pparts (.slice q1 l1.length cap1) l1)) (hk2 : K.has (Know.pparts (.slice q2 l2.length cap2) l2)) (h : St W0 w K L) :
   Calls Try.prog 64 #[.slice q1 l1.length cap1, .slice q2 l2.length cap2, .func (.func 65) #[] #[]] w fun en w' => en = .returned (.bool r) ∧ St W0 w' K L := by
 have H := Lib.hid h
 have HK1 := Lib.hid hk1
 have HK2 := Lib.hid hk2
 have hni : (l1.length : Int) ≤ 4398046511104 := by omega
 have HF1 := Lib.hid hf1
 have HF2 := Lib.hid hf2
 clear h hk1 hk2 hf1 hf2 hn
 by_cases hlen : l1.length = l2.length
 rotate_left
 · have hr2 : r = false := by rw [← hr]; exact decide_eq_false (gmap_len_ne _ _ _ hlen)
   have g1 : ((l1.length : Int) == (l2.length : Int)) = false := by rw [beq_eq_false_iff_ne]; omega
   have g2 : ((l1.length : Int) != (l2.length : Int)) = true := by simp [bne, g1]
   have g3 : ¬ ((l1.length : Int) = (l2.length : Int)) := by omega
   subst hr2
   clear hlen hr
   go_enter Try.func64, Try.ntmps64
   go_wp2
   go_ret
   exact ⟨rfl, H.out⟩
 have HLEN := Lib.hid hlen
 have HR := Lib.hid hr
 have g1 : ((l1.length : Int) == (l2.length : Int)) = true := by rw [hlen]; exact beq_self_eq_true _
 have g2 : ((l1.length : Int) != (l2.length : Int)) = false := by simp [bne, g1]
 have g3 : (l2.length : Int) = (l1.length : Int) := by omega
 clear hr hlen
 go_enter Try.func64, Try.ntmps64
 go_wp2
 clear g1 g2 g3
 go_loopw [7, 8, 9, 17] (fun _ _ _ iv wr => ∃ k : Nat, k ≤ l1.length ∧ iv = .int .i64 k ∧ Hid ((l1.map PartR.pb).take k = (l2.map PartR.pb).take k) ∧ St W0 wr K L) (fun _ _ _ iv _ => l1.length - (intOf iv).toNat)
 case atStart => exact ⟨0, Nat.zero_le _, rfl, Lib.hid (by simp), H.out⟩
 case round =>
   obtain ⟨k, hkl, rfl, heq, hst⟩ := hrel
   clear H
   have H := Lib.hid hst
   clear hst
   by_cases hlt : k < l1.length
   · have hlt2 : k < l2.length := by have := HLEN.out; omega
     obtain ⟨b1', off1, hqq1⟩ := pparts_at HK1.out H.out (by omega)
     subst hqq1
     obtain ⟨z1, hx1⟩ : ∃ x, l1[k] = x := ⟨_, rfl⟩
     have hmem1 : z1 ∈ l1 := hx1 ▸ List.getElem_mem _
     have XE1 := Lib.hid (HF1.out z1 hmem1)
     have XK1 := Lib.hid (pparts_bats HK1.out hmem1)
     have HX1 := Lib.hid (show (l1[k]).pb = z1.pb by rw [hx1])
     have HXX1 := Lib.hid hx1
     clear hmem1 hx1
     obtain ⟨b2', off2, hqq2⟩ := pparts_at HK2.out H.out (by omega)
     subst hqq2
     obtain ⟨z2, hx2⟩ : ∃ x, l2[k] = x := ⟨_, rfl⟩
     have hmem2 : z2 ∈ l2 := hx2 ▸ List.getElem_mem _
     have XE2 := Lib.hid (HF2.out z2 hmem2)
     have XK2 := Lib.hid (pparts_bats HK2.out hmem2)
     have HX2 := Lib.hid (show (l2[k]).pb = z2.pb by rw [hx2])
     have HXX2 := Lib.hid hx2
     clear hmem2 hx2
     obtain ⟨c0, c1⟩ := pparts_cell HK1.out H.out k hlt z1 HXX1.out
     obtain ⟨d0, d1⟩ := pparts_cell HK2.out (H.out.allocRaw #[.int .i64 z1.idx, .slice z1.q z1.l.length z1.cap] 36) k hlt2 z2 HXX2.out
     have hki : (k : Int) < (l1.length : Int) := by omega
     have hki2 : (k : Int) < (l2.length : Int) := by omega
     have NX := Lib.hid (show z1.pb ≠ z2.pb → l1.map PartR.pb ≠ l2.map PartR.pb from gmap_ne_of_get _ l1 l2 k hlt hlt2 _ _ HX1.out HX2.out)
     have NT := Lib.hid (show z1.pb = z2.pb → (l1.map PartR.pb).take (k + 1) = (l2.map PartR.pb).take (k + 1) from fun e => by rw [gmap_take_succ _ l1 k hlt _ HX1.out, gmap_take_succ _ l2 k hlt2 _ HX2.out, heq.out, e])
     obtain ⟨wE, hwE⟩ : ∃ b, wr.heap.size = b := ⟨_, rfl⟩
     obtain ⟨wG, hwG⟩ : ∃ b, wE + 1 = b := ⟨_, rfl⟩
     have h := (H.out.allocRaw #[.int .i64 z1.idx, .slice z1.q z1.l.length z1.cap] 36).allocRaw #[.int .i64 z2.idx, .slice z2.q z2.l.length z2.cap] 36
     rw [World.size_alloc, hwE, hwG] at h
     clear H
     have H := Lib.hid h
     clear h HX1 HX2 HXX1 HXX2
     clear hlt2
     have eb0 := (H.out).rawCell 0; have eb1 := (H.out).rawCell 1; have fb0 := (H.out).rawFree 0; have fb1 := (H.out).rawFree 1; simp at eb0 eb1 fb0 fb1
     have ea0 := (H.out.p1).rawCell 0; have ea1 := (H.out.p1).rawCell 1; have fa0 := (H.out.p1).rawFree 0; have fa1 := (H.out.p1).rawFree 1; simp at ea0 ea1 fa0 fa1
     by_cases hxy : z1.pb = z2.pb
     · have E1 := Lib.hid (decide_eq_true hxy)
       have NT2 := Lib.hid (NT.out hxy)
       clear hxy NX NT
       go_wp2_with (go_at_call 65; (with_reducible refine (same_part z1 z2 _ E1.out XE1.out XE2.out XK1.out XK2.out H.out).mono ?_); rintro e_ wn ⟨rfl, h⟩; replace H := Lib.hid h; clear h)
       go_roundw
       case rel => exact ⟨k + 1, hlt, by go_num, NT2, H.out.drop.drop⟩
       case measure => first | (simp [intOf]; done) | (simp [intOf]; omega)
     · have E1 := Lib.hid (decide_eq_false hxy)
       have HRF := Lib.hid (show r = false by rw [← HR.out]; exact decide_eq_false (NX.out hxy))
       clear hxy NX NT
       go_wp2_with (go_at_call 65; (with_reducible refine (same_part z1 z2 _ E1.out XE1.out XE2.out XK1.out XK2.out H.out).mono ?_); rintro e_ wn ⟨rfl, h⟩; replace H := Lib.hid h; clear h)
       go_ret
       exact ⟨ret_bool HRF.out.symm, H.out.drop.drop⟩
   · obtain rfl : k = l1.length := by omega
     have hall : l1.map PartR.pb = l2.map PartR.pb := by
       have h := heq.out
       rwa [List.take_of_length_le (by simp), List.take_of_length_le (by have := HLEN.out; simp; omega)] at h
     have HRT := Lib.hid (show r = true by rw [← HR.out, hall]; exact decide_eq_true rfl)
     clear hall
     go_wp2
     go_ret
     exact ⟨ret_bool HRT.out.symm, H.out⟩
structure EqT (x : PTop) : Prop where
  len : x.l.length ≤ 4398046511104
  parts : ∀ y ∈ x.l, EqP y
set_option maxHeartbeats 2000000 in
set_option maxRecDepth 100000 in
theorem same_topV (n1 n2 : Bs) (p1 p2 : List PartR) (q1 q2 : Option Addr) (cap1 cap2 : Nat) (r : Bool) (hr : decide ((n1, p1.map PartR.pb) = (n2, p2.map PartR.pb)) = r) (hl : p1.length ≤ 4398046511104) (hx : ∀ y ∈ p1, EqP y) (hy : ∀ y ∈ p2, EqP y) {W0 w : World} {K : Know} {L : List Res} (hk1 : K.has (Know.pparts (.slice q1 p1.length cap1) p1)) (hk2 : K.has (Know.pparts (.slice q2 p2.length cap2) p2)) (h : St W0 w K L) :
   Calls Try.prog 35 #[.agg #[.string (bb n1), .slice q1 p1.length cap1], .agg #[.string (bb n2), .slice q2 p2.length cap2]] w fun en w' => en = .returned (.bool r) ∧ St W0 w' K L := by
 have h0 := (h.allocRaw #[.string (bb n1), .slice q1 p1.length cap1] 33).allocRaw #[.string (bb n2), .slice q2 p2.length cap2] 33
 rw [World.size_alloc] at h0
 have H := Lib.hid h0
 have HA := Lib.hid hk1
 have HB := Lib.hid hk2
 have HN := Lib.hid hl
 have HF1 := Lib.hid hx
 have HF2 := Lib.hid hy
 clear h h0 hk1 hk2 hx hy hl
 by_cases hn : n1 = n2
 · subst hn
   have HE := Lib.hid (show decide (p1.map PartR.pb = p2.map PartR.pb) = r by rw [← hr]; exact decide_eq_decide.mpr ⟨fun h => by rw [h], fun h => congrArg Prod.snd h⟩)
   clear hr
   go_enter Try.func35, Try.ntmps35
   go_wp2_with (go_at_call 64; (with_reducible refine (parts_eqf p1 p2 _ _ _ _ _ HE.out HN.out HF1.out HF2.out HA.out HB.out H.out).mono ?_); rintro e_ wn ⟨rfl, h⟩; replace H := Lib.hid h; clear h)
   go_ret
   exact ⟨rfl, H.out.drop.drop⟩
 · have HR := Lib.hid (show r = false by rw [← hr]; exact decide_eq_false (fun h => hn (congrArg Prod.fst h)))
   have hb : (n1 == n2) = false := by simpa using hn
   rw [show r = false from HR.out]
   clear hn hr
   go_enter Try.func35, Try.ntmps35
   go_wp2
   go_ret
   exact ⟨rfl, H.out.drop.drop⟩
theorem same_top (z1 z2 : PTop) (r : Bool) (hr : decide (z1.pt = z2.pt) = r) (hx : EqT z1) (hy : EqT z2) {W0 w : World} {K : Know} {L : List Res} (hk1 : K.has (Know.pparts (.slice z1.q z1.l.length z1.cap) z1.l)) (hk2 : K.has (Know.pparts (.slice z2.q z2.l.length z2.cap) z2.l)) (h : St W0 w K L) :
  Calls Try.prog 35 #[.agg #[.string (bb z1.name), .slice z1.q z1.l.length z1.cap], .agg #[.string (bb z2.name), .slice z2.q z2.l.length z2.cap]] w fun en w' => en = .returned (.bool r) ∧ St W0 w' K L :=
 same_topV z1.name z2.name z1.l z2.l z1.q z2.q z1.cap z2.cap r hr hx.len hx.parts hy.parts hk1 hk2 h
set_option maxHeartbeats 4000000 in
set_option maxRecDepth 100000 in
theorem tops_eqfP (l1 l2 : List PTop) (q1 q2 : Option Addr) (cap1 cap2 : Nat) (r : Bool) (hr : decide (l1.map PTop.pt = l2.map PTop.pt) = r) (hn : l1.length ≤ 4398046511104) (hf1 : ∀ x ∈ l1, EqT x) (hf2 : ∀ x ∈ l2, EqT x) {W0 w : World} {K : Know} {L : List Res} (hk1 : K.has (Know.ptops (.slice q1 l1.length cap1) l1)) (hk2 : K.has (Know.ptops (.slice q2 l2.length cap2) l2)) (h : St W0 w K L) :
   Calls Try.prog 34 #[.slice q1 l1.length cap1, .slice q2 l2.length cap2, .func (.func 35) #[] #[]] w fun en w' => en = .returned (.bool r) ∧ St W0 w' K L := by
 have H := Lib.hid h
 have HK1 := Lib.hid hk1
 have HK2 := Lib.hid hk2
 have hni : (l1.length : Int) ≤ 4398046511104 := by omega
 have HF1 := Lib.hid hf1
 have HF2 := Lib.hid hf2
 clear h hk1 hk2 hf1 hf2 hn
 by_cases hlen : l1.length = l2.length
 rotate_left
 · have hr2 : r = false := by rw [← hr]; exact decide_eq_false (gmap_len_ne _ _ _ hlen)
   have g1 : ((l1.length : Int) == (l2.length : Int)) = false := by rw [beq_eq_false_iff_ne]; omega
   have g2 : ((l1.length : Int) != (l2.length : Int)) = true := by simp [bne, g1]
   have g3 : ¬ ((l1.length : Int) = (l2.length : Int)) := by omega
   subst hr2
   clear hlen hr
   go_enter Try.func34, Try.ntmps34
   go_wp2
   go_ret
   exact ⟨rfl, H.out⟩
 have HLEN := Lib.hid hlen
 have HR := Lib.hid hr
 have g1 : ((l1.length : Int) == (l2.length : Int)) = true := by rw [hlen]; exact beq_self_eq_true _
 have g2 : ((l1.length : Int) != (l2.length : Int)) = false := by simp [bne, g1]
 have g3 : (l2.length : Int) = (l1.length : Int) := by omega
 clear hr hlen
 go_enter Try.func34, Try.ntmps34
 go_wp2
 clear g1 g2 g3
 go_loopw [7, 8, 9, 17] (fun _ _ _ iv wr => ∃ k : Nat, k ≤ l1.length ∧ iv = .int .i64 k ∧ Hid ((l1.map PTop.pt).take k = (l2.map PTop.pt).take k) ∧ St W0 wr K L) (fun _ _ _ iv _ => l1.length - (intOf iv).toNat)
 case atStart => exact ⟨0, Nat.zero_le _, rfl, Lib.hid (by simp), H.out⟩
 case round =>
   obtain ⟨k, hkl, rfl, heq, hst⟩ := hrel
   clear H
   have H := Lib.hid hst
   clear hst
   by_cases hlt : k < l1.length
   · have hlt2 : k < l2.length := by have := HLEN.out; omega
     obtain ⟨b1', off1, hqq1⟩ := ptops_at HK1.out H.out (by omega)
     subst hqq1
     obtain ⟨z1, hx1⟩ : ∃ x, l1[k] = x := ⟨_, rfl⟩
     have hmem1 : z1 ∈ l1 := hx1 ▸ List.getElem_mem _
     have XE1 := Lib.hid (HF1.out z1 hmem1)
     have XK1 := Lib.hid (ptops_parts HK1.out hmem1)
     have HX1 := Lib.hid (show (l1[k]).pt = z1.pt by rw [hx1])
     have HXX1 := Lib.hid hx1
     clear hmem1 hx1
     obtain ⟨b2', off2, hqq2⟩ := ptops_at HK2.out H.out (by omega)
     subst hqq2
     obtain ⟨z2, hx2⟩ : ∃ x, l2[k] = x := ⟨_, rfl⟩
     have hmem2 : z2 ∈ l2 := hx2 ▸ List.getElem_mem _
     have XE2 := Lib.hid (HF2.out z2 hmem2)
     have XK2 := Lib.hid (ptops_parts HK2.out hmem2)
     have HX2 := Lib.hid (show (l2[k]).pt = z2.pt by rw [hx2])
     have HXX2 := Lib.hid hx2
     clear hmem2 hx2
     obtain ⟨c0, c1⟩ := ptops_cell HK1.out H.out k hlt z1 HXX1.out
     obtain ⟨d0, d1⟩ := ptops_cell HK2.out (H.out.allocRaw #[.string (bb z1.name), .slice z1.q z1.l.length z1.cap] 33) k hlt2 z2 HXX2.out
     have hki : (k : Int) < (l1.length : Int) := by omega
     have hki2 : (k : Int) < (l2.length : Int) := by omega
     have NX := Lib.hid (show z1.pt ≠ z2.pt → l1.map PTop.pt ≠ l2.map PTop.pt from gmap_ne_of_get _ l1 l2 k hlt hlt2 _ _ HX1.out HX2.out)
     have NT := Lib.hid (show z1.pt = z2.pt → (l1.map PTop.pt).take (k + 1) = (l2.map PTop.pt).take (k + 1) from fun e => by rw [gmap_take_succ _ l1 k hlt _ HX1.out, gmap_take_succ _ l2 k hlt2 _ HX2.out, heq.out, e])
     obtain ⟨wE, hwE⟩ : ∃ b, wr.heap.size = b := ⟨_, rfl⟩
     obtain ⟨wG, hwG⟩ : ∃ b, wE + 1 = b := ⟨_, rfl⟩
     have h := (H.out.allocRaw #[.string (bb z1.name), .slice z1.q z1.l.length z1.cap] 33).allocRaw #[.string (bb z2.name), .slice z2.q z2.l.length z2.cap] 33
     rw [World.size_alloc, hwE, hwG] at h
     clear H
     have H := Lib.hid h
     clear h HX1 HX2 HXX1 HXX2
     clear hlt2
     have eb0 := (H.out).rawCell 0; have eb1 := (H.out).rawCell 1; have fb0 := (H.out).rawFree 0; have fb1 := (H.out).rawFree 1; simp at eb0 eb1 fb0 fb1
     have ea0 := (H.out.p1).rawCell 0; have ea1 := (H.out.p1).rawCell 1; have fa0 := (H.out.p1).rawFree 0; have fa1 := (H.out.p1).rawFree 1; simp at ea0 ea1 fa0 fa1
     by_cases hxy : z1.pt = z2.pt
     · have E1 := Lib.hid (decide_eq_true hxy)
       have NT2 := Lib.hid (NT.out hxy)
       clear hxy NX NT
       go_wp2_with (go_at_call 35; (with_reducible refine (same_top z1 z2 _ E1.out XE1.out XE2.out XK1.out XK2.out H.out).mono ?_); rintro e_ wn ⟨rfl, h⟩; replace H := Lib.hid h; clear h)
       go_roundw
       case rel => exact ⟨k + 1, hlt, by go_num, NT2, H.out.drop.drop⟩
       case measure => first | (simp [intOf]; done) | (simp [intOf]; omega)
     · have E1 := Lib.hid (decide_eq_false hxy)
       have HRF := Lib.hid (show r = false by rw [← HR.out]; exact decide_eq_false (NX.out hxy))
       clear hxy NX NT
       go_wp2_with (go_at_call 35; (with_reducible refine (same_top z1 z2 _ E1.out XE1.out XE2.out XK1.out XK2.out H.out).mono ?_); rintro e_ wn ⟨rfl, h⟩; replace H := Lib.hid h; clear h)
       go_ret
       exact ⟨ret_bool HRF.out.symm, H.out.drop.drop⟩
   · obtain rfl : k = l1.length := by omega
     have hall : l1.map PTop.pt = l2.map PTop.pt := by
       have h := heq.out
       rwa [List.take_of_length_le (by simp), List.take_of_length_le (by have := HLEN.out; simp; omega)] at h
     have HRT := Lib.hid (show r = true by rw [← HR.out, hall]; exact decide_eq_true rfl)
     clear hall
     go_wp2
     go_ret
     exact ⟨ret_bool HRT.out.symm, H.out⟩
set_option maxHeartbeats 2000000 in
set_option maxRecDepth 100000 in
theorem preq_same_N1 (dd1 dd2 : Bs) (ac1 ac2 : Int) (tm1 tm2 : Int) (l1 l2 : List PTop) (q1 q2 : Option Addr) (cap1 cap2 : Nat)  {W0 w : World} {K : Know} {L : List Res} (h : St W0 w K L) :
  Calls Try.prog 12 #[.agg #[.bool true, .string (bb dd1), .int .i64 ac1, .int .i64 tm1, .slice q1 l1.length cap1], .agg #[.bool false, .string (bb dd2), .int .i64 ac2, .int .i64 tm2, .slice q2 l2.length cap2]] w fun en w' => en = .returned (.bool false) ∧ St W0 w' K L := by
 obtain ⟨ra, hra⟩ : ∃ b, w.heap.size = b := ⟨_, rfl⟩
 obtain ⟨rb, hrb⟩ : ∃ b, ra + 1 = b := ⟨_, rfl⟩
 have h0 := (h.allocRaw #[.bool true, .string (bb dd1), .int .i64 ac1, .int .i64 tm1, .slice q1 l1.length cap1] 29).allocRaw #[.bool false, .string (bb dd2), .int .i64 ac2, .int .i64 tm2, .slice q2 l2.length cap2] 29
 simp only [World.size_alloc, hra, hrb] at h0
 have y0 := h0.rawCell 0
 have x0 := h0.p1.rawCell 0
 have y1 := h0.rawCell 1
 have x1 := h0.p1.rawCell 1
 have y2 := h0.rawCell 2
 have x2 := h0.p1.rawCell 2
 have y3 := h0.rawCell 3
 have x3 := h0.p1.rawCell 3
 have y4 := h0.rawCell 4
 have x4 := h0.p1.rawCell 4
 simp at x0 y0 x1 y1 x2 y2 x3 y3 x4 y4
 have H := Lib.hid h0
 clear h h0
 go_enter Try.func12, Try.ntmps12
 go_wp2
 go_ret
 exact ⟨rfl, H.out.drop.drop⟩

set_option maxHeartbeats 2000000 in
set_option maxRecDepth 100000 in
theorem preq_same_N2 (dd1 dd2 : Bs) (ac1 ac2 : Int) (tm1 tm2 : Int) (l1 l2 : List PTop) (q1 q2 : Option Addr) (cap1 cap2 : Nat)  {W0 w : World} {K : Know} {L : List Res} (h : St W0 w K L) :
  Calls Try.prog 12 #[.agg #[.bool false, .string (bb dd1), .int .i64 ac1, .int .i64 tm1, .slice q1 l1.length cap1], .agg #[.bool true, .string (bb dd2), .int .i64 ac2, .int .i64 tm2, .slice q2 l2.length cap2]] w fun en w' => en = .returned (.bool false) ∧ St W0 w' K L := by
 obtain ⟨ra, hra⟩ : ∃ b, w.heap.size = b := ⟨_, rfl⟩
 obtain ⟨rb, hrb⟩ : ∃ b, ra + 1 = b := ⟨_, rfl⟩
 have h0 := (h.allocRaw #[.bool false, .string (bb dd1), .int .i64 ac1, .int .i64 tm1, .slice q1 l1.length cap1] 29).allocRaw #[.bool true, .string (bb dd2), .int .i64 ac2, .int .i64 tm2, .slice q2 l2.length cap2] 29
 simp only [World.size_alloc, hra, hrb] at h0
 have y0 := h0.rawCell 0
 have x0 := h0.p1.rawCell 0
 have y1 := h0.rawCell 1
 have x1 := h0.p1.rawCell 1
 have y2 := h0.rawCell 2
 have x2 := h0.p1.rawCell 2
 have y3 := h0.rawCell 3
 have x3 := h0.p1.rawCell 3
 have y4 := h0.rawCell 4
 have x4 := h0.p1.rawCell 4
 simp at x0 y0 x1 y1 x2 y2 x3 y3 x4 y4
 have H := Lib.hid h0
 clear h h0
 go_enter Try.func12, Try.ntmps12
 go_wp2
 go_ret
 exact ⟨rfl, H.out.drop.drop⟩

set_option maxHeartbeats 2000000 in
set_option maxRecDepth 100000 in
theorem preq_same_D (nl : Bool) (dd1 dd2 : Bs) (ac1 ac2 : Int) (tm1 tm2 : Int) (l1 l2 : List PTop) (q1 q2 : Option Addr) (cap1 cap2 : Nat) (hne : dd1 ≠ dd2) {W0 w : World} {K : Know} {L : List Res} (h : St W0 w K L) :
  Calls Try.prog 12 #[.agg #[.bool nl, .string (bb dd1), .int .i64 ac1, .int .i64 tm1, .slice q1 l1.length cap1], .agg #[.bool nl, .string (bb dd2), .int .i64 ac2, .int .i64 tm2, .slice q2 l2.length cap2]] w fun en w' => en = .returned (.bool false) ∧ St W0 w' K L := by
 obtain ⟨ra, hra⟩ : ∃ b, w.heap.size = b := ⟨_, rfl⟩
 obtain ⟨rb, hrb⟩ : ∃ b, ra + 1 = b := ⟨_, rfl⟩
 have h0 := (h.allocRaw #[.bool nl, .string (bb dd1), .int .i64 ac1, .int .i64 tm1, .slice q1 l1.length cap1] 29).allocRaw #[.bool nl, .string (bb dd2), .int .i64 ac2, .int .i64 tm2, .slice q2 l2.length cap2] 29
 simp only [World.size_alloc, hra, hrb] at h0
 have y0 := h0.rawCell 0
 have x0 := h0.p1.rawCell 0
 have y1 := h0.rawCell 1
 have x1 := h0.p1.rawCell 1
 have y2 := h0.rawCell 2
 have x2 := h0.p1.rawCell 2
 have y3 := h0.rawCell 3
 have x3 := h0.p1.rawCell 3
 have y4 := h0.rawCell 4
 have x4 := h0.p1.rawCell 4
 simp at x0 y0 x1 y1 x2 y2 x3 y3 x4 y4
 have H := Lib.hid h0
 clear h h0
 have g1 : (dd1 == dd2) = false := by simpa using hne
 have g2 : (dd1 != dd2) = true := by simpa using hne
 have g3 : ¬ dd1 = dd2 := hne
 clear hne
 go_enter Try.func12, Try.ntmps12
 go_wp2
 go_ret
 exact ⟨rfl, H.out.drop.drop⟩

set_option maxHeartbeats 2000000 in
set_option maxRecDepth 100000 in
theorem preq_same_A (nl : Bool) (dd : Bs) (ac1 ac2 : Int) (tm1 tm2 : Int) (l1 l2 : List PTop) (q1 q2 : Option Addr) (cap1 cap2 : Nat) (hne : ac1 ≠ ac2) {W0 w : World} {K : Know} {L : List Res} (h : St W0 w K L) :
  Calls Try.prog 12 #[.agg #[.bool nl, .string (bb dd), .int .i64 ac1, .int .i64 tm1, .slice q1 l1.length cap1], .agg #[.bool nl, .string (bb dd), .int .i64 ac2, .int .i64 tm2, .slice q2 l2.length cap2]] w fun en w' => en = .returned (.bool false) ∧ St W0 w' K L := by
 obtain ⟨ra, hra⟩ : ∃ b, w.heap.size = b := ⟨_, rfl⟩
 obtain ⟨rb, hrb⟩ : ∃ b, ra + 1 = b := ⟨_, rfl⟩
 have h0 := (h.allocRaw #[.bool nl, .string (bb dd), .int .i64 ac1, .int .i64 tm1, .slice q1 l1.length cap1] 29).allocRaw #[.bool nl, .string (bb dd), .int .i64 ac2, .int .i64 tm2, .slice q2 l2.length cap2] 29
 simp only [World.size_alloc, hra, hrb] at h0
 have y0 := h0.rawCell 0
 have x0 := h0.p1.rawCell 0
 have y1 := h0.rawCell 1
 have x1 := h0.p1.rawCell 1
 have y2 := h0.rawCell 2
 have x2 := h0.p1.rawCell 2
 have y3 := h0.rawCell 3
 have x3 := h0.p1.rawCell 3
 have y4 := h0.rawCell 4
 have x4 := h0.p1.rawCell 4
 simp at x0 y0 x1 y1 x2 y2 x3 y3 x4 y4
 have H := Lib.hid h0
 clear h h0
 have g1 : (ac1 == ac2) = false := by simpa using hne
 have g2 : (ac1 != ac2) = true := by simpa using hne
 have g3 : ¬ ac1 = ac2 := hne
 clear hne
 go_enter Try.func12, Try.ntmps12
 go_wp2
 go_ret
 exact ⟨rfl, H.out.drop.drop⟩

set_option maxHeartbeats 2000000 in
set_option maxRecDepth 100000 in
theorem preq_same_T (nl : Bool) (dd : Bs) (ac : Int) (tm1 tm2 : Int) (l1 l2 : List PTop) (q1 q2 : Option Addr) (cap1 cap2 : Nat) (hne : tm1 ≠ tm2) {W0 w : World} {K : Know} {L : List Res} (h : St W0 w K L) :
  Calls Try.prog 12 #[.agg #[.bool nl, .string (bb dd), .int .i64 ac, .int .i64 tm1, .slice q1 l1.length cap1], .agg #[.bool nl, .string (bb dd), .int .i64 ac, .int .i64 tm2, .slice q2 l2.length cap2]] w fun en w' => en = .returned (.bool false) ∧ St W0 w' K L := by
 obtain ⟨ra, hra⟩ : ∃ b, w.heap.size = b := ⟨_, rfl⟩
 obtain ⟨rb, hrb⟩ : ∃ b, ra + 1 = b := ⟨_, rfl⟩
 have h0 := (h.allocRaw #[.bool nl, .string (bb dd), .int .i64 ac, .int .i64 tm1, .slice q1 l1.length cap1] 29).allocRaw #[.bool nl, .string (bb dd), .int .i64 ac, .int .i64 tm2, .slice q2 l2.length cap2] 29
 simp only [World.size_alloc, hra, hrb] at h0
 have y0 := h0.rawCell 0
 have x0 := h0.p1.rawCell 0
 have y1 := h0.rawCell 1
 have x1 := h0.p1.rawCell 1
 have y2 := h0.rawCell 2
 have x2 := h0.p1.rawCell 2
 have y3 := h0.rawCell 3
 have x3 := h0.p1.rawCell 3
 have y4 := h0.rawCell 4
 have x4 := h0.p1.rawCell 4
 simp at x0 y0 x1 y1 x2 y2 x3 y3 x4 y4
 have H := Lib.hid h0
 clear h h0
 have g1 : (tm1 == tm2) = false := by simpa using hne
 have g2 : (tm1 != tm2) = true := by simpa using hne
 have g3 : ¬ tm1 = tm2 := hne
 clear hne
 go_enter Try.func12, Try.ntmps12
 go_wp2
 go_ret
 exact ⟨rfl, H.out.drop.drop⟩

set_option maxHeartbeats 2000000 in
set_option maxRecDepth 100000 in
theorem preq_same_M (nl : Bool) (dd : Bs) (ac : Int) (tm : Int) (l1 l2 : List PTop) (q1 q2 : Option Addr) (cap1 cap2 : Nat) (r : Bool) (hr : decide (l1.map PTop.pt = l2.map PTop.pt) = r) (hn : l1.length ≤ 4398046511104) (hf1 : ∀ x ∈ l1, EqT x) (hf2 : ∀ x ∈ l2, EqT x) {W0 w : World} {K : Know} {L : List Res} (hk1 : K.has (Know.ptops (.slice q1 l1.length cap1) l1)) (hk2 : K.has (Know.ptops (.slice q2 l2.length cap2) l2)) (h : St W0 w K L) :
  Calls Try.prog 12 #[.agg #[.bool nl, .string (bb dd), .int .i64 ac, .int .i64 tm, .slice q1 l1.length cap1], .agg #[.bool nl, .string (bb dd), .int .i64 ac, .int .i64 tm, .slice q2 l2.length cap2]] w fun en w' => en = .returned (.bool r) ∧ St W0 w' K L := by
 obtain ⟨ra, hra⟩ : ∃ b, w.heap.size = b := ⟨_, rfl⟩
 obtain ⟨rb, hrb⟩ : ∃ b, ra + 1 = b := ⟨_, rfl⟩
 have h0 := (h.allocRaw #[.bool nl, .string (bb dd), .int .i64 ac, .int .i64 tm, .slice q1 l1.length cap1] 29).allocRaw #[.bool nl, .string (bb dd), .int .i64 ac, .int .i64 tm, .slice q2 l2.length cap2] 29
 simp only [World.size_alloc, hra, hrb] at h0
 have y0 := h0.rawCell 0
 have x0 := h0.p1.rawCell 0
 have y1 := h0.rawCell 1
 have x1 := h0.p1.rawCell 1
 have y2 := h0.rawCell 2
 have x2 := h0.p1.rawCell 2
 have y3 := h0.rawCell 3
 have x3 := h0.p1.rawCell 3
 have y4 := h0.rawCell 4
 have x4 := h0.p1.rawCell 4
 simp at x0 y0 x1 y1 x2 y2 x3 y3 x4 y4
 have H := Lib.hid h0
 clear h h0
 have HE := Lib.hid hr
 have HN := Lib.hid hn
 have HF1 := Lib.hid hf1
 have HF2 := Lib.hid hf2
 have HA := Lib.hid hk1
 have HB := Lib.hid hk2
 clear hr hn hf1 hf2 hk1 hk2
 go_enter Try.func12, Try.ntmps12
 go_wp2_with (go_at_call 34; (with_reducible refine (tops_eqfP l1 l2 _ _ _ _ _ HE.out HN.out HF1.out HF2.out HA.out HB.out H.out).mono ?_); rintro e_ wn ⟨rfl, h⟩; replace H := Lib.hid h; clear h)
 go_ret
 exact ⟨rfl, H.out.drop.drop⟩

theorem preq_same (nl1 nl2 : Bool) (dd1 dd2 : Bs) (ac1 ac2 tm1 tm2 : Int) (l1 l2 : List PTop) (q1 q2 : Option Addr) (cap1 cap2 : Nat) (r : Bool) (hr : decide (nl1 = nl2 ∧ dd1 = dd2 ∧ ac1 = ac2 ∧ tm1 = tm2 ∧ l1.map PTop.pt = l2.map PTop.pt) = r) (hn : l1.length ≤ 4398046511104) (hf1 : ∀ x ∈ l1, EqT x) (hf2 : ∀ x ∈ l2, EqT x) {W0 w : World} {K : Know} {L : List Res} (hk1 : K.has (Know.ptops (.slice q1 l1.length cap1) l1)) (hk2 : K.has (Know.ptops (.slice q2 l2.length cap2) l2)) (h : St W0 w K L) :
   Calls Try.prog 12 #[.agg #[.bool nl1, .string (bb dd1), .int .i64 ac1, .int .i64 tm1, .slice q1 l1.length cap1], .agg #[.bool nl2, .string (bb dd2), .int .i64 ac2, .int .i64 tm2, .slice q2 l2.length cap2]] w fun en w' => en = .returned (.bool r) ∧ St W0 w' K L := by
 have hb : ∀ hne : ¬ (nl1 = nl2 ∧ dd1 = dd2 ∧ ac1 = ac2 ∧ tm1 = tm2 ∧ l1.map PTop.pt = l2.map PTop.pt), r = false := fun hne => by rw [← hr]; exact decide_eq_false hne
 by_cases h1 : nl1 = nl2
 rotate_left
 · obtain rfl : r = false := hb (fun e => h1 e.1)
   cases nl1 <;> cases nl2
   · exact absurd rfl h1
   · exact preq_same_N2 dd1 dd2 ac1 ac2 tm1 tm2 l1 l2 q1 q2 cap1 cap2 h
   · exact preq_same_N1 dd1 dd2 ac1 ac2 tm1 tm2 l1 l2 q1 q2 cap1 cap2 h
   · exact absurd rfl h1
 subst h1
 by_cases h2 : dd1 = dd2
 rotate_left
 · obtain rfl : r = false := hb (fun e => h2 e.2.1)
   exact preq_same_D nl1 dd1 dd2 ac1 ac2 tm1 tm2 l1 l2 q1 q2 cap1 cap2 h2 h
 subst h2
 by_cases h3 : ac1 = ac2
 rotate_left
 · obtain rfl : r = false := hb (fun e => h3 e.2.2.1)
   exact preq_same_A nl1 dd1 ac1 ac2 tm1 tm2 l1 l2 q1 q2 cap1 cap2 h3 h
 subst h3
 by_cases h4 : tm1 = tm2
 rotate_left
 · obtain rfl : r = false := hb (fun e => h4 e.2.2.2.1)
   exact preq_same_T nl1 dd1 ac1 tm1 tm2 l1 l2 q1 q2 cap1 cap2 h4 h
 subst h4
 have hr2 : decide (l1.map PTop.pt = l2.map PTop.pt) = r := by
   rw [← hr]
   exact decide_eq_decide.mpr ⟨fun e => ⟨rfl, rfl, rfl, rfl, e⟩, fun e => e.2.2.2.2⟩
 exact preq_same_M nl1 dd1 ac1 tm1 l1 l2 q1 q2 cap1 cap2 r hr2 hn hf1 hf2 hk1 hk2 h
def SmP (y : PartR) : Prop := ∀ z ∈ y.l, smallB (z.l.map (·.1)) = true
def SmT (x : PTop) : Prop := ∀ y ∈ x.l, SmP y
def sizeP : List PartR → Nat
  | [] => 0
  | y :: t => 10 + 100 * y.l.length + sizeP t
def sizeT : List PTop → Nat
  | [] => 0
  | x :: t => x.name.length + 10 + sizeP x.l + sizeT t
theorem sizeP_append (l m : List PartR) : sizeP (l ++ m) = sizeP l + sizeP m := by
 induction l with
 | nil => simp [sizeP]
 | cons x t ih => simp only [List.cons_append, sizeP, ih]; omega
theorem sizeT_append (l m : List PTop) : sizeT (l ++ m) = sizeT l + sizeT m := by
 induction l with
 | nil => simp [sizeT]
 | cons x t ih => simp only [List.cons_append, sizeT, ih]; omega
def AllP (l : List PTop) : Prop := ∀ x ∈ l, x.l.length ≠ 0
def FewI20 (dl : Nat) (l : List PTop) (k : Nat) (z : Int) : Prop :=
  (∀ x ∈ l.take k, SmT x) ∧ (∀ j, j ≤ k → AllP (l.take j) → j = 0 ∨ dl + sizeT (l.take j) ≤ 2000) ∧ (AllP (l.take k) → z = dl + sizeT (l.take k))
def FewJ (dl : Nat) (l : List PTop) (k : Nat) (x : PTop) (j : Nat) (z : Int) : Prop :=
  (∀ y ∈ x.l.take j, SmP y) ∧ (AllP (l.take k) → z = dl + sizeT (l.take k) + x.name.length + 10 + sizeP (x.l.take j) ∧ (j = 0 ∨ z ≤ 2000))
def FewR (dl : Nat) (l : List PTop) (r : Int) : Prop :=
  r = 0 ∨ (r = 1 ∧ (∀ x ∈ l, SmT x) ∧ (∀ j, j ≤ l.length → AllP (l.take j) → j = 0 ∨ dl + sizeT (l.take j) ≤ 2000) ∧ (l = [] → dl ≤ 2000))
theorem FewI20.zero (dl : Nat) (l : List PTop) : FewI20 dl l 0 dl := by
 refine ⟨fun x hx => by simp at hx, fun j hj _ => .inl (by omega), fun _ => by simp [sizeT]⟩
theorem FewI20.bound {dl : Nat} {l : List PTop} {k : Nat} {z : Int} (h : FewI20 dl l k z) (hd : dl ≤ 140737488351232) (ha : AllP (l.take k)) : 0 ≤ z ∧ z ≤ 140737488351232 := by
 have e := h.2.2 ha
 rcases h.2.1 k (Nat.le_refl _) ha with h0 | h0
 · subst h0
   simp [sizeT] at e
   omega
 · omega
theorem FewJ.zero {dl : Nat} {l : List PTop} {k : Nat} {z z2 : Int} (x : PTop) (h : FewI20 dl l k z) (hd : dl ≤ 140737488351232) (hn : x.name.length ≤ 140737488351232) (hw : -9223372036854775808 ≤ z + ((x.name.length : Int) + 10) → z + ((x.name.length : Int) + 10) < 9223372036854775808 → z2 = z + ((x.name.length : Int) + 10)) : FewJ dl l k x 0 z2 := by
 refine ⟨fun y hy => by simp at hy, fun ha => ?_⟩
 obtain ⟨b1, b2⟩ := h.bound hd ha
 have e := h.2.2 ha
 have e2 := hw (by omega) (by omega)
 refine ⟨?_, .inl rfl⟩
 simp [sizeP]
 omega
theorem FewJ.step {dl : Nat} {l : List PTop} {k : Nat} {z0 z z2 : Int} {x : PTop} {j : Nat} (y : PartR) (hI : FewI20 dl l k z0) (h : FewJ dl l k x j z) (hj : j < x.l.length) (hy : x.l[j] = y) (hd : dl ≤ 140737488351232) (hn : x.name.length ≤ 140737488351232) (hb : y.l.length ≤ 1466015503701) (hs : SmP y) (hw : -9223372036854775808 ≤ z + (10 + 100 * (y.l.length : Int)) → z + (10 + 100 * (y.l.length : Int)) < 9223372036854775808 → z2 = z + (10 + 100 * (y.l.length : Int))) (h2 : z2 ≤ 2000) : FewJ dl l k x (j + 1) z2 := by
 have et : x.l.take (j + 1) = x.l.take j ++ [y] := by rw [List.take_succ_eq_append_getElem hj, hy]
 refine ⟨fun v hv => ?_, fun ha => ?_⟩
 · rw [et] at hv
   rcases List.mem_append.1 hv with hv | hv
   · exact h.1 v hv
   · rw [List.mem_singleton.1 hv]; exact hs
 · obtain ⟨e1, e2⟩ := h.2 ha
   obtain ⟨b1, b2⟩ := hI.bound hd ha
   have e3 := hI.2.2 ha
   have hz : 0 ≤ z ∧ z ≤ 300000000000000 := by
    rcases e2 with h0 | h0
    · subst h0
      simp [sizeP] at e1
      omega
    · omega
   have e4 := hw (by omega) (by omega)
   refine ⟨?_, .inr h2⟩
   rw [et, sizeP_append]
   simp only [sizeP]
   omega
theorem FewI20.step {dl : Nat} {l : List PTop} {k : Nat} {z0 z : Int} (x : PTop) (hI : FewI20 dl l k z0) (h : FewJ dl l k x x.l.length z) (hk : k < l.length) (hx : l[k] = x) : FewI20 dl l (k + 1) z := by
 have et : l.take (k + 1) = l.take k ++ [x] := by rw [List.take_succ_eq_append_getElem hk, hx]
 have hs := h.1
 rw [List.take_length] at hs
 have hall : AllP (l.take (k + 1)) → z = dl + sizeT (l.take (k + 1)) ∧ z ≤ 2000 := by
   intro ha
   rw [et] at ha
   have ha1 : AllP (l.take k) := fun v hv => ha v (List.mem_append_left _ hv)
   have ha2 : x.l.length ≠ 0 := ha x (List.mem_append_right _ (List.mem_singleton.2 rfl))
   obtain ⟨e1, e2⟩ := h.2 ha1
   rw [List.take_length] at e1
   refine ⟨?_, by rcases e2 with h0 | h0; exact absurd h0 ha2; exact h0⟩
   rw [et, sizeT_append]
   simp only [sizeT]
   omega
 refine ⟨fun v hv => ?_, fun j hj ha => ?_, fun ha => (hall ha).1⟩
 · rw [et] at hv
   rcases List.mem_append.1 hv with hv | hv
   · exact hI.1 v hv
   · rw [List.mem_singleton.1 hv]; exact hs
 · by_cases hjk : j ≤ k
   · exact hI.2.1 j hjk ha
   · obtain rfl : j = k + 1 := by omega
     obtain ⟨e1, e2⟩ := hall ha
     right; omega
theorem FewI20.done {dl : Nat} {l : List PTop} {z : Int} (h : FewI20 dl l l.length z) (hz : ¬ 2000 < z) : FewR dl l 1 := by
 refine .inr ⟨rfl, by have := h.1; rwa [List.take_length] at this, h.2.1, fun h0 => ?_⟩
 subst h0
 have e := h.2.2 (by intro x hx; simp at hx)
 simp [sizeT] at e
 omega
structure FewPt (y : PartR) : Prop where
  len : y.l.length ≤ 1466015503701
  fit : ∀ z ∈ y.l, z.Fit
structure FewT20 (x : PTop) : Prop where
  name : x.name.length ≤ 140737488351232
  len : x.l.length ≤ 4398046511104
  parts : ∀ y ∈ x.l, FewPt y
theorem EqR.of {z : BatR} (hf : z.Fit) (hs : smallB (z.l.map (·.1)) = true) (hh : ∀ y ∈ z.l, y.1.hdrs.length ≤ 9223372036854775807) : EqR z := ⟨by have := smallB_len hs; omega, hf.2.2, hh⟩
set_option maxHeartbeats 8000000 in
set_option maxRecDepth 100000 in
theorem few20 (nl : Bool) (dd : Bs) (ac tm : Int) (l : List PTop) (q : Option Addr) (cap : Nat) (hdd : dd.length ≤ 140737488351232) (hll : l.length ≤ 3518437208780) (hf : ∀ x ∈ l, FewT20 x) {W0 w : World} {K : Know} {L : List Res} (hk : K.has (Know.ptops (.slice q l.length cap) l)) (h : St W0 w K L) :
  Calls Try.prog 11 #[.agg #[.bool nl, .string (bb dd), .int .i64 ac, .int .i64 tm, .slice q l.length cap]] w fun en w' => ∃ r : Int, en = .returned (.int .i64 r) ∧ FewR dd.length l r ∧ St W0 w' K L := by
 obtain ⟨rq, hrq⟩ : ∃ b, w.heap.size = b := ⟨_, rfl⟩
 have h0 := h.allocRaw #[.bool nl, .string (bb dd), .int .i64 ac, .int .i64 tm, .slice q l.length cap] 29
 rw [hrq] at h0
 have z1 := h0.rawCell 1
 have z4 := h0.rawCell 4
 simp at z1 z4
 have H := Lib.hid h0
 have HKT := Lib.hid hk
 have HF := Lib.hid hf
 have HDD := Lib.hid hdd
 have hni : (l.length : Int) ≤ 3518437208780 := by omega
 clear h h0 hk hf hdd hll
 go_enter Try.func11, Try.ntmps11
 go_wp2
 clear z1 z4
 go_loopw [3, 17] (fun nv iv wr => ∃ (k : Nat) (z : Int), k ≤ l.length ∧ iv = .int .i64 k ∧ nv = .int .i64 z ∧ Hid (FewI20 dd.length l k z) ∧ St W0 wr K (.raw rq #[.bool nl, .string (bb dd), .int .i64 ac, .int .i64 tm, .slice q l.length cap] 29 :: L)) (fun _ iv _ => l.length - (intOf iv).toNat)
 case atStart => exact ⟨0, dd.length, Nat.zero_le _, rfl, rfl, Lib.hid (FewI20.zero _ _), H.out⟩
 case round =>
  obtain ⟨k, z, hkl, rfl, rfl, HI, hst⟩ := hrel
  clear H
  have H := Lib.hid hst
  clear hst
  by_cases hlt : k < l.length
  · obtain ⟨bk, off, hqq⟩ := ptops_at HKT.out H.out (by omega)
    obtain ⟨x, hx⟩ : ∃ x, l[k] = x := ⟨_, rfl⟩
    have hmem : x ∈ l := hx ▸ List.getElem_mem hlt
    have hfx := HF.out x hmem
    have HK' := HKT.out
    rw [hqq] at HK'
    obtain ⟨c0, c1⟩ := ptops_cell HK' H.out k hlt x hx
    have HXK0 := ptops_parts HKT.out hmem
    have hkn : (k : Int) < (l.length : Int) := by omega
    have HX := Lib.hid hx
    obtain ⟨nm, xl, xq, xcap⟩ := x
    simp only at c0 c1 HXK0
    have HXK := Lib.hid HXK0
    have HPF := Lib.hid (show ∀ y ∈ xl, FewPt y from hfx.parts)
    have HNM := Lib.hid (show nm.length ≤ 140737488351232 from hfx.name)
    have hnmi : (nm.length : Int) ≤ 140737488351232 := by have := HNM.out; omega
    have hxl : xl.length ≤ 4398046511104 := hfx.len
    have hxi : (xl.length : Int) ≤ 4398046511104 := by omega
    have HS := Lib.hid (H.out.alloc (.cells #[.string (bb nm), .slice xq xl.length xcap] 33 (0, 0)))
    subst hqq
    clear hx hmem hfx HK' HXK0 hxl
    go_wp2_with fail
    go_loopw [3, 30] (fun nv jv wr => ∃ (j : Nat) (z2 : Int), j ≤ xl.length ∧ jv = .int .i64 j ∧ nv = .int .i64 z2 ∧ Hid (FewJ dd.length l k ⟨nm, xl, xq, xcap⟩ j z2) ∧ St W0 wr K (.raw rq #[.bool nl, .string (bb dd), .int .i64 ac, .int .i64 tm, .slice (some ⟨bk, off, none⟩) l.length cap] 29 :: L)) (fun _ jv _ => xl.length - (intOf jv).toNat)
    case atStart => exact ⟨0, _, Nat.zero_le _, rfl, rfl, Lib.hid (FewJ.zero _ HI.out HDD.out HNM.out (fun g1 g2 => wrap64_in _ g1 g2)), HS.out⟩
    case round =>
      obtain ⟨j, z2, hjl, rfl, rfl, HJ, hst⟩ := hrel
      clear H HS c0 c1
      have H := Lib.hid hst
      clear hst
      by_cases hjt : j < xl.length
      · obtain ⟨pk, poff, hpq⟩ := pparts_at HXK.out H.out (by omega)
        subst hpq
        obtain ⟨y, hy⟩ : ∃ y, xl[j] = y := ⟨_, rfl⟩
        have hmem : y ∈ xl := hy ▸ List.getElem_mem hjt
        have hfy := HPF.out y hmem
        obtain ⟨d0, d1⟩ := pparts_cell HXK.out H.out j hjt y hy
        have HYK0 := pparts_bats HXK.out hmem
        have hjn : (j : Int) < (xl.length : Int) := by omega
        have HY := Lib.hid hy
        obtain ⟨yi, yl, yq, ycap⟩ := y
        simp only at d0 d1 HYK0
        have HYK := Lib.hid HYK0
        have HYF := Lib.hid (show ∀ z ∈ yl, z.Fit from hfy.fit)
        have HYN := Lib.hid (show yl.length ≤ 1466015503701 from hfy.len)
        have hyi : (yl.length : Int) ≤ 1466015503701 := by have := HYN.out; omega
        have HS := Lib.hid (H.out.alloc (.cells #[.int .i64 yi, .slice yq yl.length ycap] 36 (0, 0)))
        clear hy hmem hfy HYK0
        by_cases hbig : 2000 < wrap64 (z2 + (10 + 100 * (yl.length : Int)))
        · go_wp2
          go_ret
          exact ⟨0, rfl, .inl rfl, HS.out.drop⟩
        go_wp2_with fail
        go_loopw [46] (fun mv wr => ∃ (m : Nat), m ≤ yl.length ∧ mv = .int .i64 m ∧ Hid (∀ z ∈ yl.take m, smallB (z.l.map (·.1)) = true) ∧ St W0 wr K (.raw rq #[.bool nl, .string (bb dd), .int .i64 ac, .int .i64 tm, .slice (some ⟨bk, off, none⟩) l.length cap] 29 :: L)) (fun mv _ => yl.length - (intOf mv).toNat)
        case atStart => exact ⟨0, Nat.zero_le _, rfl, Lib.hid (fun z hz => by simp at hz), HS.out⟩
        case round =>
          obtain ⟨m, hml, rfl, HM, hst⟩ := hrel
          clear H HS d0 d1
          have H := Lib.hid hst
          clear hst
          by_cases hmt : m < yl.length
          · obtain ⟨tk, toff, htq⟩ := bats_at HYK.out H.out (by omega)
            subst htq
            obtain ⟨u, hu⟩ : ∃ u, yl[m] = u := ⟨_, rfl⟩
            have hmem : u ∈ yl := hu ▸ List.getElem_mem hmt
            have hfu := HYF.out u hmem
            have hcell0 := bats_cell HYK.out H.out m hmt u hu
            have HZK0 := bats_recs HYK.out hmem
            have hmn : (m : Int) < (yl.length : Int) := by omega
            have HU := Lib.hid hu
            obtain ⟨⟨base, leader, app, txn, ctl, last, first, maxt, prod, epoch, sq, rcs⟩, zl, zq, zcap⟩ := u
            have HFW := Lib.hid (show FitW zl from hfu.2.1)
            have HZK := Lib.hid (show K.has (Know.recs (.slice zq zl.length zcap) zl) from HZK0)
            obtain ⟨c0, c1, c2, c3, c4, c5, c6, c7, c8, c9, c10, c11⟩ := hcell0
            simp only at c0 c1 c2 c3 c4 c5 c6 c7 c8 c9 c10 c11
            have HS := Lib.hid (H.out.alloc (.cells #[.int .i64 base, .int .i64 leader, .bool app, .bool txn, .bool ctl, .int .i64 last, .int .i64 first, .int .i64 maxt, .int .i64 prod, .int .i64 epoch, .int .i64 sq, .slice zq zl.length zcap] 39 (0, 0)))
            cases hs : smallB (zl.map (·.1)) with
            | false =>
             have HSM := Lib.hid hs
             clear hs hu hmem hfu HZK0
             go_wp2_with (go_at_call 33; (try clear u0 u1 u2 u3 u4 u5 u6 u7 u8 u9 u10 u11); (with_reducible refine (l11_small _ _ _ _ _ _ _ _ _ _ _ zl _ _ false HSM.out HFW.out HZK.out HS.out).mono ?_); rintro e_ wn ⟨rfl, h⟩; clear HS; replace H := Lib.hid h; clear h)
             go_ret
             exact ⟨0, rfl, .inl rfl, H.out.drop⟩
            | true =>
             have HSM := Lib.hid hs
             clear hs hu hmem hfu HZK0
             go_wp2_with (go_at_call 33; (try clear u0 u1 u2 u3 u4 u5 u6 u7 u8 u9 u10 u11); (with_reducible refine (l11_small _ _ _ _ _ _ _ _ _ _ _ zl _ _ true HSM.out HFW.out HZK.out HS.out).mono ?_); rintro e_ wn ⟨rfl, h⟩; clear HS; replace H := Lib.hid h; clear h)
             go_roundw
             case rel => exact ⟨m + 1, hmt, by go_num, Lib.hid (fun v hv => by
              rw [List.take_succ_eq_append_getElem hmt, HU.out] at hv
              rcases List.mem_append.1 hv with hv | hv
              · exact HM.out v hv
              · rw [List.mem_singleton.1 hv]; exact HSM.out), H.out⟩
             case measure => first | (simp [intOf]; done) | (simp [intOf]; omega)
          · obtain rfl : m = yl.length := by omega
            have HM2 := HM.out
            rw [List.take_length] at HM2
            have HM3 := Lib.hid HM2
            clear HM2
            go_wp2
            go_roundw
            case rel => exact ⟨j + 1, _, hjt, by go_num, rfl, Lib.hid (FewJ.step ⟨yi, yl, yq, ycap⟩ HI.out HJ.out hjt HY.out HDD.out HNM.out HYN.out HM3.out (fun g1 g2 => wrap64_in _ g1 g2) (by omega)), H.out⟩
            case measure => first | (simp [intOf]; done) | (simp [intOf]; omega)
      · obtain rfl : j = xl.length := by omega
        go_wp2
        go_roundw
        case rel => exact ⟨k + 1, z2, hlt, by go_num, rfl, Lib.hid (FewI20.step _ HI.out HJ.out hlt HX.out), H.out⟩
        case measure => first | (simp [intOf]; done) | (simp [intOf]; omega)
  · obtain rfl : k = l.length := by omega
    by_cases hz : 2000 < z
    · go_wp2
      go_ret
      exact ⟨0, rfl, .inl rfl, H.out.drop⟩
    · go_wp2
      go_ret
      exact ⟨1, rfl, FewI20.done HI.out (by omega), H.out.drop⟩
theorem St.sets5P {W0 w : World} {K : Know} {L : List Res} {b : Nat} {T : TypeId} {a0 a1 a2 a3 a4 : Value} (v0 v1 v2 v3 v4 : Value) (h : St W0 w K (.raw b #[a0, a1, a2, a3, a4] T :: L)) : St W0 (((((w.setCell ⟨b, 0, none⟩ v0).setCell ⟨b, 1, none⟩ v1).setCell ⟨b, 2, none⟩ v2).setCell ⟨b, 3, none⟩ v3).setCell ⟨b, 4, none⟩ v4) K (.raw b #[v0, v1, v2, v3, v4] T :: L) := by
 have h : St W0 _ K (.raw b #[v0, a1, a2, a3, a4] T :: L) := h.rawSet 0 v0
 have h : St W0 _ K (.raw b #[v0, v1, a2, a3, a4] T :: L) := h.rawSet 1 v1
 have h : St W0 _ K (.raw b #[v0, v1, v2, a3, a4] T :: L) := h.rawSet 2 v2
 have h : St W0 _ K (.raw b #[v0, v1, v2, v3, a4] T :: L) := h.rawSet 3 v3
 have h : St W0 _ K (.raw b #[v0, v1, v2, v3, v4] T :: L) := h.rawSet 4 v4
 exact h
theorem St.freezeTopsK {W0 w : World} {K : Know} {L : List Res} {v : Value} {T : TypeId} {l : List PTop} {k : Nat} {xs : List Value} (h : St W0 w K (.row v T 2 k xs :: L)) (hk : k = l.length) (hx : xs = l.flatMap ptcells) (ht : ∀ x ∈ l, K.has (Know.pparts (.slice x.q x.l.length x.cap) x.l)) : St W0 w (K.and (Know.ptops v l)) L := by
 subst hk
 subst hx
 exact h.freezeTopsP ht
def PTop.nl (x : PTop) : Bs × List PartR := (x.name, x.l)
theorem nl_pt {l m : List PTop} (h : l.map PTop.nl = m.map PTop.nl) : l.map PTop.pt = m.map PTop.pt := by
 have e : PTop.pt = (fun p : Bs × List PartR => (p.1, p.2.map PartR.pb)) ∘ PTop.nl := rfl
 rw [e, ← List.map_map, h, List.map_map]
theorem nl_len {l m : List PTop} (h : l.map PTop.nl = m.map PTop.nl) : l.length = m.length := by have := congrArg List.length h; simpa using this
theorem nl_mem {l m : List PTop} (h : l.map PTop.nl = m.map PTop.nl) {x : PTop} (hx : x ∈ l) : ∃ y ∈ m, y.name = x.name ∧ y.l = x.l := by
 have h1 : x.nl ∈ m.map PTop.nl := h ▸ List.mem_map_of_mem hx
 obtain ⟨y, hy, e⟩ := List.mem_map.1 h1
 exact ⟨y, hy, congrArg Prod.fst e, congrArg Prod.snd e⟩
theorem elem_r20p : ElemT Try.prog 88 (.agg #[.int .i64 0, .slice none 0 0]) 2 32 := elemT_of (by kernel_rfl) rfl (by decide)
theorem elem_r20t : ElemT Try.prog 87 (.agg #[.string ⟨#[]⟩, .slice none 0 0]) 2 40 := elemT_of (by kernel_rfl) rfl (by decide)
theorem take_flat {α : Type} (f : α → List Value) (l : List α) (k : Nat) (h : k < l.length) (x : α) (hx : l[k] = x) : (l.take (k + 1)).flatMap f = (l.take k).flatMap f ++ f x := by
 rw [List.take_succ_eq_append_getElem h, hx, List.flatMap_append]
 simp
set_option maxHeartbeats 8000000 in
set_option maxRecDepth 100000 in
theorem of20 (nl : Bool) (dd : Bs) (ac tm : Int) (l : List PTop) (q : Option Addr) (cap : Nat) (hll : l.length ≤ 3518437208780) (hf : ∀ x ∈ l, x.l.length ≤ 4398046511104) {W0 w : World} {K : Know} {L : List Res} (hk : K.has (Know.ptops (.slice q l.length cap) l)) (h : St W0 w K L) :
  Calls Try.prog 14 #[.agg #[.bool nl, .string (bb dd), .int .i64 ac, .int .i64 tm, .slice q l.length cap]] w fun en w' => ∃ (q2 : Option Addr) (cap2 : Nat) (l2 : List PTop) (K2 : Know), en = .returned (.agg #[.bool nl, .string (bb dd), .int .i64 ac, .int .i64 tm, .slice q2 l2.length cap2]) ∧ l2.map PTop.nl = l.map PTop.nl ∧ K2.has K ∧ K2.has (Know.ptops (.slice q2 l2.length cap2) l2) ∧ St W0 w' K2 L := by
 obtain ⟨rq, hrq⟩ : ∃ b, w.heap.size = b := ⟨_, rfl⟩
 obtain ⟨rb, hrb⟩ : ∃ b, rq + 1 = b := ⟨_, rfl⟩
 obtain ⟨xb, hxb⟩ : ∃ b, rb + 1 = b := ⟨_, rfl⟩
 have h0 := ((h.allocRaw #[.bool nl, .string (bb dd), .int .i64 ac, .int .i64 tm, .slice q l.length cap] 29).allocRaw #[.bool false, .string ⟨#[]⟩, .int .i64 0, .int .i64 0, .slice none 0 0] 52).allocRaw #[.bool nl, .string (bb dd), .int .i64 ac, .int .i64 tm, .slice none 0 0] 52
 simp only [World.size_alloc, hrq, hrb, hxb] at h0
 have a0 := h0.p2.rawCell 0
 have a1 := h0.p2.rawCell 1
 have a2 := h0.p2.rawCell 2
 have a3 := h0.p2.rawCell 3
 have a4 := h0.p2.rawCell 4
 simp at a0 a1 a2 a3 a4
 have g0 := ((h.allocRaw #[.bool nl, .string (bb dd), .int .i64 ac, .int .i64 tm, .slice q l.length cap] 29).allocRaw #[.bool false, .string ⟨#[]⟩, .int .i64 0, .int .i64 0, .slice none 0 0] 52)
 simp only [World.size_alloc, hrq, hrb] at g0
 have b0 := g0.p1.rawCell 0
 have b1 := g0.p1.rawCell 1
 have b2 := g0.p1.rawCell 2
 have b3 := g0.p1.rawCell 3
 simp at b0 b1 b2 b3
 have H := Lib.hid h0
 have HKT := Lib.hid hk
 have HF := Lib.hid hf
 have HLN := Lib.hid hll
 have hni : (l.length : Int) ≤ 3518437208780 := by omega
 clear h h0 g0 hk hf hll
 go_enter Try.func14, Try.ntmps14
 go_wp2
 clear a0 a1 a2 a3 a4 b0 b1 b2 b3
 go_loopw [19] (fun iv wr => ∃ (k : Nat) (v : Value) (acc : List PTop) (K2 : Know), k ≤ l.length ∧ iv = .int .i64 k ∧ Hid (k = acc.length) ∧ Hid (acc.map PTop.nl = (l.take k).map PTop.nl) ∧ Hid (K2.has K) ∧ Hid (∀ x ∈ acc, K2.has (Know.pparts (.slice x.q x.l.length x.cap) x.l)) ∧ St W0 wr K2 (.row v 87 2 k (acc.flatMap ptcells) :: .raw xb #[.bool nl, .string (bb dd), .int .i64 ac, .int .i64 tm, v] 52 :: .raw rb #[.bool false, .string ⟨#[]⟩, .int .i64 0, .int .i64 0, .slice none 0 0] 52 :: .raw rq #[.bool nl, .string (bb dd), .int .i64 ac, .int .i64 tm, .slice q l.length cap] 29 :: L)) (fun iv _ => l.length - (intOf iv).toNat)
 case atStart =>
  refine ⟨0, .slice none 0 0, [], K, Nat.zero_le _, rfl, Lib.hid rfl, Lib.hid (by simp), Lib.hid (Know.has_refl _), Lib.hid (fun x hx => by cases hx), ?_⟩
  exact (H.out.nilRow 87 2)
 case round =>
  obtain ⟨k, v, acc, K2, hkl, rfl, HAL, HNL, HKK, HALL, hst⟩ := hrel
  clear H
  have H := Lib.hid hst
  clear hst
  by_cases hlt : k < l.length
  · obtain ⟨bk, off, hqq⟩ := ptops_at (Know.has_trans HKK.out HKT.out) H.out (by omega)
    obtain ⟨x, hx⟩ : ∃ x, l[k] = x := ⟨_, rfl⟩
    have hmem : x ∈ l := hx ▸ List.getElem_mem hlt
    have hfx := HF.out x hmem
    have HK' := (Know.has_trans HKK.out HKT.out)
    rw [hqq] at HK'
    obtain ⟨c0, c1⟩ := ptops_cell HK' H.out k hlt x hx
    have HXK0 := ptops_parts (Know.has_trans HKK.out HKT.out) hmem
    have hkn : (k : Int) < (l.length : Int) := by omega
    have HX := Lib.hid hx
    have HKN := Lib.hid (show k ≤ 3518437208780 by have := HLN.out; omega)
    obtain ⟨nm, xl, xq, xcap⟩ := x
    simp only at c0 c1 HXK0
    have HXK := Lib.hid HXK0
    have hxl : xl.length ≤ 4398046511104 := hfx
    have HXN := Lib.hid hxl
    have hxi : (xl.length : Int) ≤ 4398046511104 := by omega
    subst hqq
    obtain ⟨nb, hnb⟩ : ∃ b, wr.heap.size = b := ⟨_, rfl⟩
    obtain ⟨tb, htb⟩ : ∃ b, nb + 1 = b := ⟨_, rfl⟩
    have h := (H.out.allocRaw #[.string (bb nm), .slice xq xl.length xcap] 33).allocRaw #[.string (bb nm), .slice none 0 0] 87
    simp only [World.size_alloc, hnb, htb] at h
    have h1 := H.out.allocRaw #[.string (bb nm), .slice xq xl.length xcap] 33
    simp only [World.size_alloc, hnb, htb] at h1
    have e0 := h1.rawCell 0
    have e1 := h.p1.rawCell 1
    simp at e0 e1
    clear H
    have H := Lib.hid h
    clear h h1
    clear hx hmem hfx HK' HXK0 hxl
    go_wp2_with fail
    clear e0 e1 c0 c1
    go_loopw [29] (fun jv wr => ∃ (j : Nat) (v2 : Value), j ≤ xl.length ∧ jv = .int .i64 j ∧ St W0 wr K2 (.row v2 88 2 j ((xl.take j).flatMap pcells) :: .raw tb #[.string (bb nm), v2] 87 :: .row v 87 2 k (acc.flatMap ptcells) :: .raw xb #[.bool nl, .string (bb dd), .int .i64 ac, .int .i64 tm, v] 52 :: .raw rb #[.bool false, .string ⟨#[]⟩, .int .i64 0, .int .i64 0, .slice none 0 0] 52 :: .raw rq #[.bool nl, .string (bb dd), .int .i64 ac, .int .i64 tm, .slice (some ⟨bk, off, none⟩) l.length cap] 29 :: L)) (fun jv _ => xl.length - (intOf jv).toNat)
    case atStart => exact ⟨0, .slice none 0 0, Nat.zero_le _, rfl, (H.out.p1.drop.nilRow 88 2)⟩
    case round =>
     obtain ⟨j, v2, hjl, rfl, hst⟩ := hrel
     clear H
     have H := Lib.hid hst
     clear hst
     obtain ⟨qj, cj, hvj⟩ := H.out.rowAny
     subst hvj
     by_cases hjt : j < xl.length
     · obtain ⟨pk, poff, hpq⟩ := pparts_at HXK.out H.out (by omega)
       subst hpq
       obtain ⟨y, hy⟩ : ∃ y, xl[j] = y := ⟨_, rfl⟩
       obtain ⟨d0, d1⟩ := pparts_cell HXK.out H.out j hjt y hy
       have hjn : (j : Int) < (xl.length : Int) := by omega
       have HY := Lib.hid hy
       have HJN := Lib.hid (show j ≤ 4398046511104 by have := HXN.out; omega)
       obtain ⟨yi, yl, yq, ycap⟩ := y
       simp only at d0 d1
       have h := H.out.allocRaw #[.int .i64 yi, .slice yq yl.length ycap] 36
       obtain ⟨ub, hub⟩ : ∃ b, wr.heap.size = b := ⟨_, rfl⟩
       rw [hub] at h
       have f0 := h.rawCell 0
       have f1 := h.rawCell 1
       have f2 := h.p2.rawCell 1
       simp at f0 f1 f2
       clear H
       have H := Lib.hid h
       clear h hy
       go_wp2_with (at_builtin; refine wpl_app1_st rfl _ _ 85 rfl 88 Try.underlying85 elem_r20p _ _ _ rfl H.out.p1 [.int .i64 yi, .slice yq yl.length ycap] 88 (by first | rfl | (rw [World.size_alloc]; rfl) | (rw [World.size_alloc, hub]; rfl)) rfl (by simp [Value.oneCell']) (by have := HJN.out; unfold maxLen; omega) (by have := HJN.out; omega) ?_; intro v' w' h; obtain ⟨qv, cv, hv⟩ := h.rowAny; subst hv; have q1 := h.p2.rawFree 1; have q2 := h.p2.rawCell 1; simp at q2; replace H := Lib.hid h; clear h)
       go_roundw
       case rel =>
        refine ⟨j + 1, .slice qv (j + 1) cv, hjt, by go_num, ?_⟩
        rw [take_flat pcells xl j hjt _ HY.out]
        exact ((H.out.p2.rawSet 1 (.slice qv (j + 1) cv)).p1.p2.drop)
       case measure => first | (simp [intOf]; done) | (simp [intOf]; omega)
     · obtain rfl : j = xl.length := by omega
       have hr := H.out
       rw [List.take_length] at hr
       have hf2 := hr.freezeParts (fun x hx => pparts_bats HXK.out hx)
       obtain ⟨qa, ca, hva⟩ := hf2.p1.rowAny
       subst hva
       have HK3 := Lib.hid (show (K2.and (Know.pparts (.slice qj xl.length cj) xl)).has (Know.pparts (.slice qj xl.length cj) xl) from Know.has_right (Know.has_refl _))
       have e0 := hf2.rawCell 0
       have e1 := hf2.rawCell 1
       have e4 := hf2.p2.rawCell 4
       simp at e0 e1 e4
       have hz := hf2.p1
       clear H
       have H := Lib.hid hz
       clear hr hf2 hz
       go_wp2_with (at_builtin; refine wpl_app1_st rfl _ _ 50 rfl 87 Try.underlying50 elem_r20t _ _ _ rfl H.out [.string (bb nm), .slice qj xl.length cj] 87 (by first | rfl | (rw [World.size_alloc]; rfl) | (rw [World.size_alloc, hub]; rfl)) rfl (by simp [Value.oneCell']) (by have := HKN.out; unfold maxLen; omega) (by have := HKN.out; omega) ?_; intro v' w' h; obtain ⟨qv, cv, hv⟩ := h.rowAny; subst hv; have q1 := h.p2.rawFree 4; have q2 := h.p2.rawCell 4; simp at q2; replace H := Lib.hid h; clear h)
       go_roundw
       case rel =>
        refine ⟨k + 1, .slice qv (k + 1) cv, acc ++ [⟨nm, xl, qj, cj⟩], K2.and (Know.pparts (.slice qj xl.length cj) xl), hlt, by go_num, Lib.hid (by rw [List.length_append, ← HAL.out]; rfl), Lib.hid (by rw [List.take_succ_eq_append_getElem hlt, List.map_append, List.map_append, HNL.out, HX.out]; rfl), Lib.hid (Know.has_trans (Know.has_left (Know.has_refl _)) HKK.out), Lib.hid (fun x hx => by
         rcases List.mem_append.1 hx with hx | hx
         · exact Know.has_left (HALL.out x hx)
         · rw [List.mem_singleton.1 hx]; exact HK3.out), ?_⟩
        rw [List.flatMap_append]
        exact ((H.out.p2.rawSet 4 (.slice qv (k + 1) cv)).p2.drop).p1
       case measure => first | (simp [intOf]; done) | (simp [intOf]; omega)
  · obtain rfl : k = l.length := by omega
    obtain ⟨qv0, cv0, hv0⟩ := H.out.rowAny
    subst hv0
    have y0 := H.out.p1.rawCell 0
    have y1 := H.out.p1.rawCell 1
    have y2 := H.out.p1.rawCell 2
    have y3 := H.out.p1.rawCell 3
    have y4 := H.out.p1.rawCell 4
    have w0 := H.out.p2.rawFree 0
    have w1 := H.out.p2.rawFree 1
    have w2 := H.out.p2.rawFree 2
    have w3 := H.out.p2.rawFree 3
    have w4 := H.out.p2.rawFree 4
    have v0 := H.out.p2.rawCell 0
    have v1 := H.out.p2.rawCell 1
    have v2 := H.out.p2.rawCell 2
    have v3 := H.out.p2.rawCell 3
    have v4 := H.out.p2.rawCell 4
    simp at y0 y1 y2 y3 y4 v0 v1 v2 v3 v4
    go_wp2
    have hz : St W0 _ _ (.raw rb #[.bool nl, .string (bb dd), .int .i64 ac, .int .i64 tm, .slice qv0 l.length cv0] 52 :: _) := St.sets5P _ _ _ _ _ H.out.p2
    refine bodyPost_ret (rc_cell_onlyP rfl _ _ rb [.bool nl, .string (bb dd), .int .i64 ac, .int .i64 tm, .slice qv0 l.length cv0] _ rfl (rc_rangeP hz) Try.underlying52 rfl (by kernel_rfl)) rfl ?_
    have hr := hz.drop
    have hn := HAL.out
    have hf := hr.freezeTopsK hn rfl (fun x hx => HALL.out x hx)
    rw [hn] at hf ⊢
    exact ⟨qv0, cv0, acc, _, rfl, by rw [HNL.out, List.take_length], Know.has_trans (Know.has_left (Know.has_refl _)) HKK.out, Know.has_right (Know.has_refl _), hf.drop.drop⟩

end Go.Proofs.Ytnnnglklgofabaa
