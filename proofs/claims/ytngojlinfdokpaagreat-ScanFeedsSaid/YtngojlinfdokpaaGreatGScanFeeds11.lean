/- A text. -/
import Derived.Test.YtngojlinfdokpaaGreatGScanFeeds10
import Derived.RegionTactic
import Derived.Deep.RegionHeld3
import Derived.Deep.DeepCutAuto
import Derived.WalkMore
/- A text. -/
namespace Go.Proofs.YtngojlinfdokpaaGreat
open Go.RowKit

theorem feed_cut {W0 w : World} {K : Know} {L : List Res} {g cv at_ : Nat} {T : Bs} (hat : at_ ≤ T.length) (h : St W0 w K (.row (.slice (some ⟨g, 0, none⟩) T.length cv) 5 1 T.length (bvals (T.drop at_ ++ T.drop (T.length - at_))) :: L)) : St W0 w K (.row (.slice (some ⟨g, 0, none⟩) (T.length - at_) cv) 5 1 (T.length - at_) (bvals (T.drop at_)) :: L) := by
 have h1 := h.rowCut (m := T.length - at_) (by omega)
 have e : (bvals (T.drop at_ ++ T.drop (T.length - at_))).take (T.length - at_) = bvals (T.drop at_) := by
  rw [bvals_append, List.take_append_of_le_length (by rw [bvals_length, List.length_drop]; exact Nat.le_refl _), List.take_of_length_le (by rw [bvals_length, List.length_drop]; exact Nat.le_refl _)]
 rw [e] at h1
 exact h1

set_option maxHeartbeats 8000000 in
set_option maxRecDepth 100000 in
theorem scan_feed (sb valid : Nat) (rest chunk T : Bs) (hT : rest ++ chunk = T) (v : Value) (hl : T.length ≤ 100000) (hv : valid ≤ 1000000) {W0 w : World} {K : Know} {L : List Res} (h : St W0 w K (.raw sb #[.int .i64 valid, v, .int .i64 0] 52 :: .row v 5 1 rest.length (bvals rest) :: L)) :
   Calls Tryz.prog 10 #[.pointer (some ⟨sb, 0, none⟩), .string (bb chunk)] w fun en w' => ∃ (v' : Value) (q : Option Addr) (cap : Nat) (lr : List BatR), en = .returned (.slice q lr.length cap) ∧ (q = none → cap = 0) ∧ lr.map BatR.b = (scanS T).1 ∧ (∀ x ∈ lr, LiteR x) ∧ 61 * lr.length ≤ T.length ∧ St W0 w' (K.and (Know.bats (.slice q lr.length cap) lr)) (.raw sb #[.int .i64 ((valid + (T.length - (scanS T).2.1.length) : Nat) : Int), v', .int .i64 (scanS T).2.2] 52 :: .row v' 5 1 (if (scanS T).2.2 ≠ 0 then [] else (scanS T).2.1).length (bvals (if (scanS T).2.2 ≠ 0 then [] else (scanS T).2.1)) :: L) := by
 have H := Lib.hid h
 have HT := Lib.hid hT
 have HTL := Lib.hid hl
 have hll : rest.length + chunk.length = T.length := by rw [← hT, List.length_append]
 have c0 := h.rawCell 0
 have c1 := h.rawCell 1
 have c2 := h.rawCell 2
 simp at c0 c1 c2
 clear h hT
 go_enter Tryz.func10, Tryz.ntmps10
 go_wp2
 refine scope_two (FeedJ sb valid chunk T W0 K L) (FeedM T) (fun l a w hh => hh.elim (fun g => .inl g.1) (fun g => .inr g.1)) rfl rfl ?_ ?_ ?_
 · intro pass
   have hrl : (rest.length : Int) ≤ 100000 := by omega
   go_wp2_with (at_builtin; refine wpl_appstr_st rfl _ _ rfl v rest.length rest chunk rfl rfl H.out.p1 rfl (by omega) ?_; intro v' w1 h; rw [HT.out] at h; obtain ⟨pv, cv, hpv⟩ := h.rowAny; subst hpv; have e0 := h.p1.rawCell 0; have e1 := h.p1.rawCell 1; have e2 := h.p1.rawCell 2; have r1 := h.p1.rawFree 1; simp at e0 e1 e2; have h := (show St W0 (w1.setCell ⟨sb, 1, none⟩ (.slice pv T.length cv)) K (.raw sb #[.int .i64 valid, .slice pv T.length cv, .int .i64 0] 52 :: .row (.slice pv T.length cv) 5 1 T.length (bvals T) :: L) from h.p1.rawSet 1 (.slice pv T.length cv)); replace H := Lib.hid h; clear h)
   go_step3
   first | exact pass _ _ (FeedJ.mk0 0 (.slice none 0 0) (.slice pv T.length cv) [] K rfl (Nat.zero_le _) rfl (Know.has_refl _) (fun x hx => by cases hx) (fun x hx => by cases hx) (Nat.le_refl _) (H.out.nilRow 43 12)) | (go_step; first | exact pass _ _ (FeedJ.mk0 0 (.slice none 0 0) (.slice pv T.length cv) [] K rfl (Nat.zero_le _) rfl (Know.has_refl _) (fun x hx => by cases hx) (fun x hx => by cases hx) (Nat.le_refl _) (H.out.nilRow 43 12)) | (go_step; first | exact pass _ _ (FeedJ.mk0 0 (.slice none 0 0) (.slice pv T.length cv) [] K rfl (Nat.zero_le _) rfl (Know.has_refl _) (fun x hx => by cases hx) (fun x hx => by cases hx) (Nat.le_refl _) (H.out.nilRow 43 12)) | (go_step; exact pass _ _ (FeedJ.mk0 0 (.slice none 0 0) (.slice pv T.length cv) [] K rfl (Nat.zero_le _) rfl (Know.has_refl _) (fun x hx => by cases hx) (fun x hx => by cases hx) (Nat.le_refl _) (H.out.nilRow 43 12)))))
 · intro a' w' hJ
   refine FeedJ.elim0 hJ (fun at_ lv v acc K2 u hat hsc hkk hrec hlit hacc hst hmu => ?_)
   · have HMU := Lib.hid hmu
     clear c0 c1 c2 hJ hmu H
     have H := Lib.hid hst
     have e0 := hst.p1.rawCell 0
     have e1 := hst.p1.rawCell 1
     have e2 := hst.p1.rawCell 2
     simp at e0 e1 e2
     rcases hst.p2.rowGet.2 with ⟨hvn, hn0⟩ | ⟨g, cv, cur, hvs, _, _, hcv, _⟩
     · obtain rfl : at_ = 0 := by omega
       subst hvn
       have hT0 : T = [] := List.eq_nil_of_length_eq_zero hn0
       have HS := Lib.hid hsc
       have HKK := Lib.hid hkk
       have HREC := Lib.hid hrec
       have HLIT := Lib.hid hlit
       have HACC := Lib.hid hacc
       have HAT := Lib.hid hat
       have hti : (T.length : Int) ≤ 100000 := by have := HTL.out; omega
       have HRL := Lib.hid (show (T.drop 0).length ≤ 1000000 by rw [List.length_drop]; have := HTL.out; omega)
       have hai : (0 : Int) ≤ (T.length : Int) := by omega
       have HRD := Lib.hid (show Reads (.slice none 0 0) T.length T (T.drop 0) (.slice none 0 0) from .inl ⟨rfl, by rw [hT0]; rfl⟩)
       clear hsc hkk hrec hlit hacc hat hst
       have HF := Lib.hid (show firstS (T.drop 0) = .ok none by unfold firstS; rw [if_pos (by rw [hT0]; decide)])
       have HS1 := Lib.hid (show scanS T = (acc.map BatR.b, T.drop 0, 0) by rw [HS.out, scanS_none HF.out, List.append_nil])
       clear hT0 hn0 hai
       go_wp2_with (go_at_call 20; (with_reducible refine (first_none_any (T.drop 0) _ HRD.out HRL.out HF.out H.out.p2).mono ?_); rintro e_ wn ⟨rfl, h⟩; obtain ⟨tb, htb⟩ : ∃ b, wn.heap.size = b := ⟨_, rfl⟩; have h := h.allocRaw #[.int .i64 0, .int .i64 0, .bool false, .bool false, .bool false, .int .i64 0, .int .i64 0, .int .i64 0, .int .i64 0, .int .i64 0, .int .i64 0, .slice none 0 0] 43; rw [htb] at h; replace H := Lib.hid h; clear h)
       go_step3
       try simp only [Exit.inBlock, Exit.then, Exit.jumps]
       exact ⟨FeedJ.mk1 0 lv _ acc K2 0 rfl HAT.out HS1.out HKK.out HREC.out HLIT.out HACC.out H.out.drop.p2.p2, FeedM_lt1 HMU.out HAT.out⟩
     · subst hvs
       have HS := Lib.hid hsc
       have HKK := Lib.hid hkk
       have HREC := Lib.hid hrec
       have HLIT := Lib.hid hlit
       have HACC := Lib.hid hacc
       have HAT := Lib.hid hat
       have hti : (T.length : Int) ≤ 100000 := by have := HTL.out; omega
       have HRL := Lib.hid (show (T.drop at_).length ≤ 1000000 by rw [List.length_drop]; have := HTL.out; omega)
       have hai : (at_ : Int) ≤ (T.length : Int) := by omega
       have htc : (T.length : Int) ≤ (cv : Int) := by omega
       have hac : (at_ : Int) ≤ (cv : Int) := by omega
       by_cases hca : cv = at_
       · have hR0 : T.drop at_ = [] := List.drop_of_length_le (by omega)
         have HRD := Lib.hid (show Reads (.slice (some ⟨g, 0, none⟩) T.length cv) T.length T (T.drop at_) (.slice (some ⟨g, 0, none⟩) 0 0) from .inr ⟨⟨g, 0, none⟩, 0, by rw [hR0]; rfl, by rw [hR0]; exact Nat.le_refl _, fun W0 w K L hh k hk c' => by
           rw [hR0] at hk ⊢
           obtain rfl : k = 0 := by simpa using hk
           exact conv_zeroN w ⟨g, 0, none⟩ c'⟩)
         have hca2 : T.length = at_ := by omega
         clear hsc hkk hrec hlit hacc hat hst
         have HF := Lib.hid (show firstS (T.drop at_) = .ok none by unfold firstS; rw [if_pos (by rw [hR0]; decide)])
         have HS1 := Lib.hid (show scanS T = (acc.map BatR.b, T.drop at_, 0) by rw [HS.out, scanS_none HF.out, List.append_nil])
         clear hR0
         go_wp2_with (go_at_call 20; (with_reducible refine (first_none_any (T.drop at_) _ HRD.out HRL.out HF.out H.out.p2).mono ?_); rintro e_ wn ⟨rfl, h⟩; obtain ⟨tb, htb⟩ : ∃ b, wn.heap.size = b := ⟨_, rfl⟩; have h := h.allocRaw #[.int .i64 0, .int .i64 0, .bool false, .bool false, .bool false, .int .i64 0, .int .i64 0, .int .i64 0, .int .i64 0, .int .i64 0, .int .i64 0, .slice none 0 0] 43; rw [htb] at h; replace H := Lib.hid h; clear h)
         go_step3
         try simp only [Exit.inBlock, Exit.then, Exit.jumps]
         exact ⟨FeedJ.mk1 at_ lv _ acc K2 0 rfl HAT.out HS1.out HKK.out HREC.out HLIT.out HACC.out H.out.drop.p2.p2, FeedM_lt1 HMU.out HAT.out⟩
       · have HRD := Lib.hid (show Reads (.slice (some ⟨g, 0, none⟩) T.length cv) T.length T (T.drop at_) (.slice (some ⟨g, at_, none⟩) (T.length - at_) (cv - at_)) from .inr ⟨⟨g, at_, none⟩, cv - at_, by rw [List.length_drop], by rw [List.length_drop]; omega, fun W0 w K L hh k hk c' => hh.rowTextAt at_ k c' rfl (by rw [List.length_drop] at hk; omega)⟩)
         clear hsc hkk hrec hlit hacc hst
         cases hf : firstS (T.drop at_) with
         | error e =>
           have HF := Lib.hid hf
           have HS1 := Lib.hid (show scanS T = (acc.map BatR.b, T.drop at_, e) by rw [HS.out, scanS_err HF.out, List.append_nil])
           have h0 := fs_err hf
           have g1e : (e == 0) = false := by rw [beq_eq_false_iff_ne]; exact h0
           have g2e : (e != 0) = true := by simp [bne, g1e]
           clear hf h0 hat
           go_wp2_with (go_at_call 20; (with_reducible refine (first_err_any (T.drop at_) _ HRD.out HRL.out e HF.out H.out.p2).mono ?_); rintro e_ wn ⟨nz, rfl, h⟩; obtain ⟨tb, htb⟩ : ∃ b, wn.heap.size = b := ⟨_, rfl⟩; have h := h.allocRaw #[.int .i64 0, .int .i64 0, .bool false, .bool false, .bool false, .int .i64 0, .int .i64 0, .int .i64 0, .int .i64 0, .int .i64 0, .int .i64 0, .slice none 0 0] 43; rw [htb] at h; replace H := Lib.hid h; clear h)
           go_step3
           try simp only [Exit.inBlock, Exit.then, Exit.jumps]
           exact ⟨FeedJ.mk1 at_ lv _ acc K2 e rfl HAT.out HS1.out HKK.out HREC.out HLIT.out HACC.out H.out.drop.p2.p2, FeedM_lt1 HMU.out HAT.out⟩
         | ok o =>
           cases o with
           | none =>
             clear hat
             have HF := Lib.hid hf
             have HS1 := Lib.hid (show scanS T = (acc.map BatR.b, T.drop at_, 0) by rw [HS.out, scanS_none HF.out, List.append_nil])
             clear hf
             go_wp2_with (go_at_call 20; (with_reducible refine (first_none_any (T.drop at_) _ HRD.out HRL.out HF.out H.out.p2).mono ?_); rintro e_ wn ⟨rfl, h⟩; obtain ⟨tb, htb⟩ : ∃ b, wn.heap.size = b := ⟨_, rfl⟩; have h := h.allocRaw #[.int .i64 0, .int .i64 0, .bool false, .bool false, .bool false, .int .i64 0, .int .i64 0, .int .i64 0, .int .i64 0, .int .i64 0, .int .i64 0, .slice none 0 0] 43; rw [htb] at h; replace H := Lib.hid h; clear h)
             go_step3
             try simp only [Exit.inBlock, Exit.then, Exit.jumps]
             exact ⟨FeedJ.mk1 at_ lv _ acc K2 0 rfl HAT.out HS1.out HKK.out HREC.out HLIT.out HACC.out H.out.drop.p2.p2, FeedM_lt1 HMU.out HAT.out⟩
           | some y =>
             obtain ⟨b, n⟩ := y
             have HF := Lib.hid hf
             obtain ⟨⟨hn1, hn2⟩, hlb⟩ := fs_some hf
             rw [List.length_drop] at hn2 hlb
             obtain ⟨an, han⟩ : ∃ an, at_ + n = an := ⟨_, rfl⟩
             have hwn : IntKind.i64.wrap ((at_ : Int) + (n : Int)) = (an : Int) := by rw [IntKind.wrap_i64]; omega
             have hin : (at_ : Int) + (n : Int) = (an : Int) := by omega
             have HAW := Lib.hid (show -9223372036854775808 ≤ (an : Int) ∧ (an : Int) ≤ 9223372036854775807 by omega)
             have g0n : ((n : Int) == 0) = false := by rw [beq_eq_false_iff_ne]; omega
             have HS0 := Lib.hid (show scanS T = ((acc ++ [(⟨b, [], none, 0⟩ : BatR)]).map BatR.b ++ (scanS (T.drop an)).1, (scanS (T.drop an)).2) by rw [HS.out, scanS_some HF.out, List.drop_drop, han, List.map_append, List.append_assoc]; rfl)
             have HAN := Lib.hid (show an ≤ T.length by omega)
             have HLB := Lib.hid (show LiteB 1000000 b from ⟨by have := hlb.1; have := HTL.out; omega, fun x hx => by have := hlb.2 x hx; have := HTL.out; omega⟩)
             have HA2 := Lib.hid (show 61 * (acc.length + 1) ≤ an by have := HACC.out; omega)
             have HN := Lib.hid (show 0 < n by omega)
             have HNE := Lib.hid han
             have HAB := Lib.hid (show acc.length ≤ 100000 by have := HACC.out; have := HTL.out; omega)
             clear hf hlb hn1 hn2 han hat
             go_wp2_with (first
   | (go_at_call 20; (with_reducible refine (first_some_any (T.drop at_) _ HRD.out HRL.out b n HF.out H.out.p2).mono ?_); rintro e_ wn ⟨q, l, cap2, rfl, hlr, h⟩; obtain ⟨tb, htb⟩ : ∃ b, wn.heap.size = b := ⟨_, rfl⟩; have h := h.allocRaw #[.int .i64 b.base, .int .i64 b.leader, .bool b.app, .bool b.txn, .bool b.ctl, .int .i64 b.last, .int .i64 b.first, .int .i64 b.maxt, .int .i64 b.prod, .int .i64 b.epoch, .int .i64 b.seq, .slice q l.length cap2] 43; rw [htb] at h; have HLR := Lib.hid hlr; clear hlr; obtain ⟨x0, x1, x2, x3, x4, x5, x6, x7, x8, x9, x10, x11, y0, y1, y2, y3, y4, y5, y6, y7, y8, y9, y10, y11⟩ := raw12 (b := tb) (h); replace H := Lib.hid h; clear h)
   | (at_builtin; refine wpl_app1_st rfl _ _ 28 rfl 43 Tryz.underlying28 elem_bat _ _ _ rfl H.out.p2 [.int .i64 b.base, .int .i64 b.leader, .bool b.app, .bool b.txn, .bool b.ctl, .int .i64 b.last, .int .i64 b.first, .int .i64 b.maxt, .int .i64 b.prod, .int .i64 b.epoch, .int .i64 b.seq, .slice q l.length cap2] 43 (by rw [World.size_alloc, htb]; rfl) rfl (by simp [Value.oneCell']) (by have := HAB.out; unfold maxLen; omega) (by have := HAB.out; omega) ?_; intro v' w' h; replace H := Lib.hid h; clear h))
             go_step3
             try simp only [Exit.inBlock, Exit.then, Exit.jumps]
             rw [IntWalk.wrap64_in (an : Int) HAW.out]
             exact ⟨FeedJ.mk0 an _ _ (acc ++ [⟨b, l, q, cap2⟩]) (K2.and (Know.recs (.slice q l.length cap2) l)) rfl HAN.out (by rw [HS0.out, List.map_append, List.map_append]; rfl) (Know.has_trans (Know.has_left (Know.has_refl _)) HKK.out) (fun x hx => by
               rcases List.mem_append.1 hx with hx | hx
               · exact Know.has_left (HREC.out x hx)
               · rw [List.mem_singleton.1 hx]; exact Know.has_right (Know.has_refl _)) (fun x hx => by
               rcases List.mem_append.1 hx with hx | hx
               · exact HLIT.out x hx
               · rw [List.mem_singleton.1 hx]; exact ⟨HLR.out, HLB.out⟩) (by rw [List.length_append]; exact HA2.out) (by rw [List.length_append, List.flatMap_append]; exact H.out.p1.drop.p2.p1), FeedM_lt0 HMU.out HAT.out HN.out (by rw [HNE.out]; rfl)⟩
 · intro a' w' hJ
   refine FeedJ.elim1 hJ (fun at_ lv v acc K2 e u hat hsc hkk hrec hlit hacc hst hmu => ?_)
   · clear c0 c1 c2 hJ hmu H
     have hform : ∃ q cap, lv = .slice q acc.length cap ∧ (q = none → cap = 0) := by
       rcases hst.rowGet.2 with ⟨e1, e2⟩ | ⟨g2, cap2, _, e1, _⟩
       · exact ⟨none, 0, by rw [e1, e2], fun _ => rfl⟩
       · exact ⟨_, cap2, e1, fun hh => by cases hh⟩
     obtain ⟨q, cap, rfl, hqc⟩ := hform
     have HQC := Lib.hid hqc
     have hf := hst.freezeBats hrec
     have hf := hf.know (K' := K.and (Know.bats _ acc)) (fun w F hh => ⟨hkk _ _ hh.1, hh.2⟩)
     clear hqc
     have H := Lib.hid hf
     have e0 := hf.rawCell 0
     have e1 := hf.rawCell 1
     have e2 := hf.rawCell 2
     have q0 := hf.rawFree 0
     have q1 := hf.rawFree 1
     have q2 := hf.rawFree 2
     simp at e0 e1 e2
     have HS1 := Lib.hid hsc
     have HLIT := Lib.hid hlit
     have HACC2 := Lib.hid (show 61 * acc.length ≤ T.length by omega)
     have HAT := Lib.hid hat
     have hti : (T.length : Int) ≤ 100000 := by have := HTL.out; omega
     have hai : (at_ : Int) ≤ (T.length : Int) := by omega
     obtain ⟨vn, hvn⟩ : ∃ vn, valid + at_ = vn := ⟨_, rfl⟩
     have hwv : IntKind.i64.wrap ((valid : Int) + (at_ : Int)) = (vn : Int) := by rw [IntKind.wrap_i64]; omega
     have hvi : (valid : Int) + (at_ : Int) = (vn : Int) := by omega
     have hwz : IntKind.i64.wrap (vn : Int) = (vn : Int) := by rw [IntKind.wrap_i64]; omega
     have HVN := Lib.hid (show valid + (T.length - (T.drop at_).length) = vn by rw [List.length_drop]; omega)
     by_cases he : e = 0
     rotate_left
     · have g1e : (e == 0) = false := by rw [beq_eq_false_iff_ne]; exact he
       have g2e : (e != 0) = true := by simp [bne, g1e]
       have HE := Lib.hid he
       clear hsc hkk hrec hlit hacc hat hst hf he hvn hv hl
       go_wp2_with fail
       simp only [Exit.jumps]
       go_ret
       exact ⟨.slice none 0 0, q, cap, acc, rfl, HQC.out, by rw [HS1.out], HLIT.out, HACC2.out, by
         rw [HS1.out]
         simp only
         rw [HVN.out, if_pos HE.out]
         exact ((((H.out.rawSet 0 (.int .i64 vn)).rawSet 2 (.int .i64 e)).rawSet 1 (.slice none 0 0)).p1.drop.nilRow 5 1).p1⟩
     · subst he
       by_cases ha0 : at_ = 0
       · have ha1 : ¬ 0 < (at_ : Int) := by omega
         have HD0 := Lib.hid (show T.drop at_ = T by rw [ha0, List.drop_zero])
         clear hsc hkk hrec hlit hacc hat hst hf hvn hv hl ha0
         go_wp2_with fail
         simp only [Exit.jumps]
         go_ret
         exact ⟨v, q, cap, acc, rfl, HQC.out, by rw [HS1.out], HLIT.out, HACC2.out, by
           rw [HS1.out]
           simp only
           rw [HVN.out, if_neg (by simp), HD0.out]
           exact (H.out.rawSet 0 (.int .i64 vn)).rawSet 2 (.int .i64 0)⟩
       · have ha1 : 0 < (at_ : Int) := by omega
         rcases hf.p1.rowGet.2 with ⟨_, hn0⟩ | ⟨g, cv, cur, hvs, _, _, hcv, _⟩
         · omega
         subst hvs
         have hac : (at_ : Int) ≤ (cv : Int) := by omega
         have htc : (T.length : Int) ≤ (cv : Int) := by omega
         have hkc : ((T.length - at_ : Nat) : Int) ≤ (cv : Int) := by omega
         by_cases hca : cv = at_
         · obtain rfl : at_ = T.length := by omega
           subst hca
           have HSL := Lib.hid (show 0 = T.length - T.length by omega)
           have HSP := Lib.hid (show T.length < T.length → (some ⟨g, 0, none⟩ : Option Addr) = some ⟨g, T.length, none⟩ from fun hh => absurd hh (by omega))
           clear hsc hkk hrec hlit hacc hat hst hf hvn hv hl ha0
           go_upto_region 15 with (fail)
           have hs := (((H.out.rawSet 0 (.int .i64 vn)).rawSet 2 (.int .i64 0))).drew
           refine wp_region_held_drew (S := fun _ => True) (by kernel_rfl) trivial (fun hHeld => ?_)
           refine tQ 0 ⟨some 67, .move (.tmp 0), 24, "scan.go:56", #[], none⟩ ?_; simp only [Act.put, sA, sB, sC]
           refine tQ 1 ⟨some 68, .move (.tmp 0), 24, "scan.go:56", #[], none⟩ ?_; simp only [Act.put, sA, sB, sC]
           refine tQ 2 ⟨some 69, .nilCheck (.tmp 68), 0, "scan.go:56", #[.mk 1 .data], none⟩ ?_; simp only [Act.put, sA, sB, sC]
           refine tQ 3 ⟨some 70, .fieldAddr 52 (.tmp 69) 1, 0, "scan.go:56", #[.mk 2 .data], none⟩ ?_; simp only [Act.put, sA, sB, sC]
           refine tQ 5 ⟨some 72, .move (.tmp 0), 24, "scan.go:56", #[], none⟩ ?_; simp only [Act.put, sA, sB, sC]
           refine tQ 6 ⟨some 73, .nilCheck (.tmp 72), 0, "scan.go:56", #[.mk 5 .data], none⟩ ?_; simp only [Act.put, sA, sB, sC]
           refine tQ 7 ⟨some 74, .fieldAddr 52 (.tmp 73) 1, 0, "scan.go:56", #[.mk 6 .data], none⟩ ?_; simp only [Act.put, sA, sB, sC]
           refine tQ 9 ⟨some 76, .move (.tmp 0), 24, "scan.go:56", #[], none⟩ ?_; simp only [Act.put, sA, sB, sC]
           refine tQ 10 ⟨some 77, .nilCheck (.tmp 76), 0, "scan.go:56", #[.mk 9 .data], none⟩ ?_; simp only [Act.put, sA, sB, sC]
           refine tQ 11 ⟨some 78, .fieldAddr 52 (.tmp 77) 1, 0, "scan.go:56", #[.mk 10 .data], none⟩ ?_; simp only [Act.put, sA, sB, sC]
           refine tQ 13 ⟨some 80, .move (.tmp 6), 3, "scan.go:56", #[], none⟩ ?_; simp only [Act.put, sA, sB, sC]
           refine wpAnyH_ready (rs := [4, 8, 12]) (by kernel_rfl) (by simp) (AllReadyH.cons (o := ⟨some 71, .load 22 (.tmp 70), 22, "scan.go:56", #[.mk 3 .data], none⟩) rfl (fun KK hK => ?_) (AllReadyH.cons (o := ⟨some 75, .load 22 (.tmp 74), 22, "scan.go:56", #[.mk 7 .data], none⟩) rfl (fun KK hK => ?_) (AllReadyH.cons (o := ⟨some 79, .load 22 (.tmp 78), 22, "scan.go:56", #[.mk 11 .data], none⟩) rfl (fun KK hK => ?_) AllReadyH.nil)))
           · have z1 := hs.rawCell 1
             simp at z1
             go_simp
             refine hK.out _ _ (trivial) (fun hHeld => ?_)
             clear hK KK
             try simp only [Act.put, sA, sB, sC]
             clear z1
             refine wpAnyH_ready (rs := [8, 12]) (by kernel_rfl) (by simp) (AllReadyH.cons (o := ⟨some 75, .load 22 (.tmp 74), 22, "scan.go:56", #[.mk 7 .data], none⟩) rfl (fun KK hK => ?_) (AllReadyH.cons (o := ⟨some 79, .load 22 (.tmp 78), 22, "scan.go:56", #[.mk 11 .data], none⟩) rfl (fun KK hK => ?_) AllReadyH.nil))
             · have z1 := hs.rawCell 1
               simp at z1
               go_simp
               refine hK.out _ _ (trivial) (fun hHeld => ?_)
               clear hK KK
               try simp only [Act.put, sA, sB, sC]
               clear z1
               refine wpAnyH_ready (rs := [12]) (by kernel_rfl) (by simp) (AllReadyH.cons (o := ⟨some 79, .load 22 (.tmp 78), 22, "scan.go:56", #[.mk 11 .data], none⟩) rfl (fun KK hK => ?_) AllReadyH.nil)
               · have z1 := hs.rawCell 1
                 simp at z1
                 go_simp
                 refine hK.out _ _ (trivial) (fun hHeld => ?_)
                 clear hK KK
                 try simp only [Act.put, sA, sB, sC]
                 clear z1
                 refine tQ 14 ⟨some 81, .slice 22 (.tmp 79) (some (.tmp 80)) none none, 22, "scan.go:56", #[.mk 12 .data, .mk 13 .data], none⟩ ?_; simp only [Act.put, sA, sB, sC]
                 refine wpAnyH_ready (rs := [15]) (by kernel_rfl) (by simp) (AllReadyH.cons (o := ⟨some 82, .call { callee := .builtin .copy, args := #[.tmp 75, .tmp 81], argTypes := #[22, 22] }, 3, "scan.go:56", #[.mk 8 .data, .mk 14 .data], none⟩) rfl (fun KK hK => ?_) AllReadyH.nil)
                 · rw [if_pos (by rfl)]
                   refine op_copyrow (.tmp 75) (.tmp 81) rfl g T.length T T.length HAT.out (by rfl) _ _ _ (by rfl) HSL.out HSP.out hs.p1 (fun w' h => ?_)
                   have hs := h
                   clear h
                   refine hK.out _ _ (trivial) (fun hHeld => ?_)
                   clear hK KK
                   try simp only [Act.put, sA, sB, sC]
                   refine tQ 16 ⟨some 83, .slice 22 (.tmp 71) none (some (.tmp 82)) none, 22, "scan.go:56", #[.mk 4 .data, .mk 15 .data], none⟩ ?_; simp only [Act.put, sA, sB, sC]
                   refine tQ 17 ⟨some 84, .nilCheck (.tmp 67), 0, "scan.go:56", #[.mk 0 .data, .mk 0 .phase, .mk 1 .phase, .mk 2 .phase, .mk 3 .phase, .mk 4 .phase, .mk 5 .phase, .mk 6 .phase, .mk 7 .phase, .mk 8 .phase, .mk 9 .phase, .mk 10 .phase, .mk 11 .phase, .mk 12 .phase, .mk 13 .phase, .mk 14 .phase, .mk 15 .phase, .mk 16 .phase], none⟩ ?_; simp only [Act.put, sA, sB, sC]
                   refine tQ 18 ⟨some 85, .fieldAddr 52 (.tmp 84) 1, 0, "scan.go:56", #[.mk 17 .data, .mk 0 .phase, .mk 1 .phase, .mk 2 .phase, .mk 3 .phase, .mk 4 .phase, .mk 5 .phase, .mk 6 .phase, .mk 7 .phase, .mk 8 .phase, .mk 9 .phase, .mk 10 .phase, .mk 11 .phase, .mk 12 .phase, .mk 13 .phase, .mk 14 .phase, .mk 15 .phase, .mk 16 .phase], none⟩ ?_; simp only [Act.put, sA, sB, sC]
                   refine wpAnyH_ready (rs := [19]) (by kernel_rfl) (by simp) (AllReadyH.cons (o := ⟨none, .store 22 (.tmp 85) (.tmp 83), 0, "scan.go:56", #[.mk 18 .data, .mk 16 .data, .mk 15 .chain, .mk 0 .phase, .mk 1 .phase, .mk 2 .phase, .mk 3 .phase, .mk 4 .phase, .mk 5 .phase, .mk 6 .phase, .mk 7 .phase, .mk 8 .phase, .mk 9 .phase, .mk 10 .phase, .mk 11 .phase, .mk 12 .phase, .mk 13 .phase, .mk 14 .phase, .mk 15 .phase, .mk 16 .phase], none⟩) rfl (fun KK hK => ?_) AllReadyH.nil)
                   · have hs := hs.p1
                     have q1 := hs.rawFree 1
                     have z1 := hs.rawCell 1
                     simp at z1
                     rw [if_pos (by rfl)]
                     refine op_skip (w' := w'.setCell ⟨sb, 1, none⟩ (.slice (some ⟨g, 0, none⟩) 0 T.length)) (by go_simp) ?_
                     obtain ⟨wz, ez, hs⟩ := hs.setEx 1 (.slice (some ⟨g, 0, none⟩) 0 T.length)
                     rw [ez]
                     clear ez q1 z1
                     refine hK.out _ _ (trivial) (fun hHeld => ?_)
                     clear hK KK
                     try simp only [Act.put, sA, sB, sC]
                     refine wpAnyH_done (by kernel_rfl) ?_ _
                     clear hHeld
                     go_wp2_with fail
                     simp only [Exit.jumps]
                     go_ret
                     exact ⟨(.slice (some ⟨g, 0, none⟩) 0 T.length), q, cap, acc, rfl, HQC.out, by rw [HS1.out], HLIT.out, HACC2.out, by rw [HS1.out]; simp only; rw [HVN.out, if_neg (by simp), List.length_drop, Nat.sub_self]; have hcut := feed_cut HAT.out hs.p1; rw [Nat.sub_self] at hcut; exact hcut.p1⟩
             · have z1 := hs.rawCell 1
               simp at z1
               go_simp
               refine hK.out _ _ (trivial) (fun hHeld => ?_)
               clear hK KK
               try simp only [Act.put, sA, sB, sC]
               clear z1
               refine tQ 14 ⟨some 81, .slice 22 (.tmp 79) (some (.tmp 80)) none none, 22, "scan.go:56", #[.mk 12 .data, .mk 13 .data], none⟩ ?_; simp only [Act.put, sA, sB, sC]
               refine wpAnyH_ready (rs := [8]) (by kernel_rfl) (by simp) (AllReadyH.cons (o := ⟨some 75, .load 22 (.tmp 74), 22, "scan.go:56", #[.mk 7 .data], none⟩) rfl (fun KK hK => ?_) AllReadyH.nil)
               · have z1 := hs.rawCell 1
                 simp at z1
                 go_simp
                 refine hK.out _ _ (trivial) (fun hHeld => ?_)
                 clear hK KK
                 try simp only [Act.put, sA, sB, sC]
                 clear z1
                 refine wpAnyH_ready (rs := [15]) (by kernel_rfl) (by simp) (AllReadyH.cons (o := ⟨some 82, .call { callee := .builtin .copy, args := #[.tmp 75, .tmp 81], argTypes := #[22, 22] }, 3, "scan.go:56", #[.mk 8 .data, .mk 14 .data], none⟩) rfl (fun KK hK => ?_) AllReadyH.nil)
                 · rw [if_pos (by rfl)]
                   refine op_copyrow (.tmp 75) (.tmp 81) rfl g T.length T T.length HAT.out (by rfl) _ _ _ (by rfl) HSL.out HSP.out hs.p1 (fun w' h => ?_)
                   have hs := h
                   clear h
                   refine hK.out _ _ (trivial) (fun hHeld => ?_)
                   clear hK KK
                   try simp only [Act.put, sA, sB, sC]
                   refine tQ 16 ⟨some 83, .slice 22 (.tmp 71) none (some (.tmp 82)) none, 22, "scan.go:56", #[.mk 4 .data, .mk 15 .data], none⟩ ?_; simp only [Act.put, sA, sB, sC]
                   refine tQ 17 ⟨some 84, .nilCheck (.tmp 67), 0, "scan.go:56", #[.mk 0 .data, .mk 0 .phase, .mk 1 .phase, .mk 2 .phase, .mk 3 .phase, .mk 4 .phase, .mk 5 .phase, .mk 6 .phase, .mk 7 .phase, .mk 8 .phase, .mk 9 .phase, .mk 10 .phase, .mk 11 .phase, .mk 12 .phase, .mk 13 .phase, .mk 14 .phase, .mk 15 .phase, .mk 16 .phase], none⟩ ?_; simp only [Act.put, sA, sB, sC]
                   refine tQ 18 ⟨some 85, .fieldAddr 52 (.tmp 84) 1, 0, "scan.go:56", #[.mk 17 .data, .mk 0 .phase, .mk 1 .phase, .mk 2 .phase, .mk 3 .phase, .mk 4 .phase, .mk 5 .phase, .mk 6 .phase, .mk 7 .phase, .mk 8 .phase, .mk 9 .phase, .mk 10 .phase, .mk 11 .phase, .mk 12 .phase, .mk 13 .phase, .mk 14 .phase, .mk 15 .phase, .mk 16 .phase], none⟩ ?_; simp only [Act.put, sA, sB, sC]
                   refine wpAnyH_ready (rs := [19]) (by kernel_rfl) (by simp) (AllReadyH.cons (o := ⟨none, .store 22 (.tmp 85) (.tmp 83), 0, "scan.go:56", #[.mk 18 .data, .mk 16 .data, .mk 15 .chain, .mk 0 .phase, .mk 1 .phase, .mk 2 .phase, .mk 3 .phase, .mk 4 .phase, .mk 5 .phase, .mk 6 .phase, .mk 7 .phase, .mk 8 .phase, .mk 9 .phase, .mk 10 .phase, .mk 11 .phase, .mk 12 .phase, .mk 13 .phase, .mk 14 .phase, .mk 15 .phase, .mk 16 .phase], none⟩) rfl (fun KK hK => ?_) AllReadyH.nil)
                   · have hs := hs.p1
                     have q1 := hs.rawFree 1
                     have z1 := hs.rawCell 1
                     simp at z1
                     rw [if_pos (by rfl)]
                     refine op_skip (w' := w'.setCell ⟨sb, 1, none⟩ (.slice (some ⟨g, 0, none⟩) 0 T.length)) (by go_simp) ?_
                     obtain ⟨wz, ez, hs⟩ := hs.setEx 1 (.slice (some ⟨g, 0, none⟩) 0 T.length)
                     rw [ez]
                     clear ez q1 z1
                     refine hK.out _ _ (trivial) (fun hHeld => ?_)
                     clear hK KK
                     try simp only [Act.put, sA, sB, sC]
                     refine wpAnyH_done (by kernel_rfl) ?_ _
                     clear hHeld
                     go_wp2_with fail
                     simp only [Exit.jumps]
                     go_ret
                     exact ⟨(.slice (some ⟨g, 0, none⟩) 0 T.length), q, cap, acc, rfl, HQC.out, by rw [HS1.out], HLIT.out, HACC2.out, by rw [HS1.out]; simp only; rw [HVN.out, if_neg (by simp), List.length_drop, Nat.sub_self]; have hcut := feed_cut HAT.out hs.p1; rw [Nat.sub_self] at hcut; exact hcut.p1⟩
           · have z1 := hs.rawCell 1
             simp at z1
             go_simp
             refine hK.out _ _ (trivial) (fun hHeld => ?_)
             clear hK KK
             try simp only [Act.put, sA, sB, sC]
             clear z1
             refine wpAnyH_ready (rs := [4, 12]) (by kernel_rfl) (by simp) (AllReadyH.cons (o := ⟨some 71, .load 22 (.tmp 70), 22, "scan.go:56", #[.mk 3 .data], none⟩) rfl (fun KK hK => ?_) (AllReadyH.cons (o := ⟨some 79, .load 22 (.tmp 78), 22, "scan.go:56", #[.mk 11 .data], none⟩) rfl (fun KK hK => ?_) AllReadyH.nil))
             · have z1 := hs.rawCell 1
               simp at z1
               go_simp
               refine hK.out _ _ (trivial) (fun hHeld => ?_)
               clear hK KK
               try simp only [Act.put, sA, sB, sC]
               clear z1
               refine wpAnyH_ready (rs := [12]) (by kernel_rfl) (by simp) (AllReadyH.cons (o := ⟨some 79, .load 22 (.tmp 78), 22, "scan.go:56", #[.mk 11 .data], none⟩) rfl (fun KK hK => ?_) AllReadyH.nil)
               · have z1 := hs.rawCell 1
                 simp at z1
                 go_simp
                 refine hK.out _ _ (trivial) (fun hHeld => ?_)
                 clear hK KK
                 try simp only [Act.put, sA, sB, sC]
                 clear z1
                 refine tQ 14 ⟨some 81, .slice 22 (.tmp 79) (some (.tmp 80)) none none, 22, "scan.go:56", #[.mk 12 .data, .mk 13 .data], none⟩ ?_; simp only [Act.put, sA, sB, sC]
                 refine wpAnyH_ready (rs := [15]) (by kernel_rfl) (by simp) (AllReadyH.cons (o := ⟨some 82, .call { callee := .builtin .copy, args := #[.tmp 75, .tmp 81], argTypes := #[22, 22] }, 3, "scan.go:56", #[.mk 8 .data, .mk 14 .data], none⟩) rfl (fun KK hK => ?_) AllReadyH.nil)
                 · rw [if_pos (by rfl)]
                   refine op_copyrow (.tmp 75) (.tmp 81) rfl g T.length T T.length HAT.out (by rfl) _ _ _ (by rfl) HSL.out HSP.out hs.p1 (fun w' h => ?_)
                   have hs := h
                   clear h
                   refine hK.out _ _ (trivial) (fun hHeld => ?_)
                   clear hK KK
                   try simp only [Act.put, sA, sB, sC]
                   refine tQ 16 ⟨some 83, .slice 22 (.tmp 71) none (some (.tmp 82)) none, 22, "scan.go:56", #[.mk 4 .data, .mk 15 .data], none⟩ ?_; simp only [Act.put, sA, sB, sC]
                   refine tQ 17 ⟨some 84, .nilCheck (.tmp 67), 0, "scan.go:56", #[.mk 0 .data, .mk 0 .phase, .mk 1 .phase, .mk 2 .phase, .mk 3 .phase, .mk 4 .phase, .mk 5 .phase, .mk 6 .phase, .mk 7 .phase, .mk 8 .phase, .mk 9 .phase, .mk 10 .phase, .mk 11 .phase, .mk 12 .phase, .mk 13 .phase, .mk 14 .phase, .mk 15 .phase, .mk 16 .phase], none⟩ ?_; simp only [Act.put, sA, sB, sC]
                   refine tQ 18 ⟨some 85, .fieldAddr 52 (.tmp 84) 1, 0, "scan.go:56", #[.mk 17 .data, .mk 0 .phase, .mk 1 .phase, .mk 2 .phase, .mk 3 .phase, .mk 4 .phase, .mk 5 .phase, .mk 6 .phase, .mk 7 .phase, .mk 8 .phase, .mk 9 .phase, .mk 10 .phase, .mk 11 .phase, .mk 12 .phase, .mk 13 .phase, .mk 14 .phase, .mk 15 .phase, .mk 16 .phase], none⟩ ?_; simp only [Act.put, sA, sB, sC]
                   refine wpAnyH_ready (rs := [19]) (by kernel_rfl) (by simp) (AllReadyH.cons (o := ⟨none, .store 22 (.tmp 85) (.tmp 83), 0, "scan.go:56", #[.mk 18 .data, .mk 16 .data, .mk 15 .chain, .mk 0 .phase, .mk 1 .phase, .mk 2 .phase, .mk 3 .phase, .mk 4 .phase, .mk 5 .phase, .mk 6 .phase, .mk 7 .phase, .mk 8 .phase, .mk 9 .phase, .mk 10 .phase, .mk 11 .phase, .mk 12 .phase, .mk 13 .phase, .mk 14 .phase, .mk 15 .phase, .mk 16 .phase], none⟩) rfl (fun KK hK => ?_) AllReadyH.nil)
                   · have hs := hs.p1
                     have q1 := hs.rawFree 1
                     have z1 := hs.rawCell 1
                     simp at z1
                     rw [if_pos (by rfl)]
                     refine op_skip (w' := w'.setCell ⟨sb, 1, none⟩ (.slice (some ⟨g, 0, none⟩) 0 T.length)) (by go_simp) ?_
                     obtain ⟨wz, ez, hs⟩ := hs.setEx 1 (.slice (some ⟨g, 0, none⟩) 0 T.length)
                     rw [ez]
                     clear ez q1 z1
                     refine hK.out _ _ (trivial) (fun hHeld => ?_)
                     clear hK KK
                     try simp only [Act.put, sA, sB, sC]
                     refine wpAnyH_done (by kernel_rfl) ?_ _
                     clear hHeld
                     go_wp2_with fail
                     simp only [Exit.jumps]
                     go_ret
                     exact ⟨(.slice (some ⟨g, 0, none⟩) 0 T.length), q, cap, acc, rfl, HQC.out, by rw [HS1.out], HLIT.out, HACC2.out, by rw [HS1.out]; simp only; rw [HVN.out, if_neg (by simp), List.length_drop, Nat.sub_self]; have hcut := feed_cut HAT.out hs.p1; rw [Nat.sub_self] at hcut; exact hcut.p1⟩
             · have z1 := hs.rawCell 1
               simp at z1
               go_simp
               refine hK.out _ _ (trivial) (fun hHeld => ?_)
               clear hK KK
               try simp only [Act.put, sA, sB, sC]
               clear z1
               refine tQ 14 ⟨some 81, .slice 22 (.tmp 79) (some (.tmp 80)) none none, 22, "scan.go:56", #[.mk 12 .data, .mk 13 .data], none⟩ ?_; simp only [Act.put, sA, sB, sC]
               refine wpAnyH_ready (rs := [4, 15]) (by kernel_rfl) (by simp) (AllReadyH.cons (o := ⟨some 71, .load 22 (.tmp 70), 22, "scan.go:56", #[.mk 3 .data], none⟩) rfl (fun KK hK => ?_) (AllReadyH.cons (o := ⟨some 82, .call { callee := .builtin .copy, args := #[.tmp 75, .tmp 81], argTypes := #[22, 22] }, 3, "scan.go:56", #[.mk 8 .data, .mk 14 .data], none⟩) rfl (fun KK hK => ?_) AllReadyH.nil))
               · have z1 := hs.rawCell 1
                 simp at z1
                 go_simp
                 refine hK.out _ _ (trivial) (fun hHeld => ?_)
                 clear hK KK
                 try simp only [Act.put, sA, sB, sC]
                 clear z1
                 refine wpAnyH_ready (rs := [15]) (by kernel_rfl) (by simp) (AllReadyH.cons (o := ⟨some 82, .call { callee := .builtin .copy, args := #[.tmp 75, .tmp 81], argTypes := #[22, 22] }, 3, "scan.go:56", #[.mk 8 .data, .mk 14 .data], none⟩) rfl (fun KK hK => ?_) AllReadyH.nil)
                 · rw [if_pos (by rfl)]
                   refine op_copyrow (.tmp 75) (.tmp 81) rfl g T.length T T.length HAT.out (by rfl) _ _ _ (by rfl) HSL.out HSP.out hs.p1 (fun w' h => ?_)
                   have hs := h
                   clear h
                   refine hK.out _ _ (trivial) (fun hHeld => ?_)
                   clear hK KK
                   try simp only [Act.put, sA, sB, sC]
                   refine tQ 16 ⟨some 83, .slice 22 (.tmp 71) none (some (.tmp 82)) none, 22, "scan.go:56", #[.mk 4 .data, .mk 15 .data], none⟩ ?_; simp only [Act.put, sA, sB, sC]
                   refine tQ 17 ⟨some 84, .nilCheck (.tmp 67), 0, "scan.go:56", #[.mk 0 .data, .mk 0 .phase, .mk 1 .phase, .mk 2 .phase, .mk 3 .phase, .mk 4 .phase, .mk 5 .phase, .mk 6 .phase, .mk 7 .phase, .mk 8 .phase, .mk 9 .phase, .mk 10 .phase, .mk 11 .phase, .mk 12 .phase, .mk 13 .phase, .mk 14 .phase, .mk 15 .phase, .mk 16 .phase], none⟩ ?_; simp only [Act.put, sA, sB, sC]
                   refine tQ 18 ⟨some 85, .fieldAddr 52 (.tmp 84) 1, 0, "scan.go:56", #[.mk 17 .data, .mk 0 .phase, .mk 1 .phase, .mk 2 .phase, .mk 3 .phase, .mk 4 .phase, .mk 5 .phase, .mk 6 .phase, .mk 7 .phase, .mk 8 .phase, .mk 9 .phase, .mk 10 .phase, .mk 11 .phase, .mk 12 .phase, .mk 13 .phase, .mk 14 .phase, .mk 15 .phase, .mk 16 .phase], none⟩ ?_; simp only [Act.put, sA, sB, sC]
                   refine wpAnyH_ready (rs := [19]) (by kernel_rfl) (by simp) (AllReadyH.cons (o := ⟨none, .store 22 (.tmp 85) (.tmp 83), 0, "scan.go:56", #[.mk 18 .data, .mk 16 .data, .mk 15 .chain, .mk 0 .phase, .mk 1 .phase, .mk 2 .phase, .mk 3 .phase, .mk 4 .phase, .mk 5 .phase, .mk 6 .phase, .mk 7 .phase, .mk 8 .phase, .mk 9 .phase, .mk 10 .phase, .mk 11 .phase, .mk 12 .phase, .mk 13 .phase, .mk 14 .phase, .mk 15 .phase, .mk 16 .phase], none⟩) rfl (fun KK hK => ?_) AllReadyH.nil)
                   · have hs := hs.p1
                     have q1 := hs.rawFree 1
                     have z1 := hs.rawCell 1
                     simp at z1
                     rw [if_pos (by rfl)]
                     refine op_skip (w' := w'.setCell ⟨sb, 1, none⟩ (.slice (some ⟨g, 0, none⟩) 0 T.length)) (by go_simp) ?_
                     obtain ⟨wz, ez, hs⟩ := hs.setEx 1 (.slice (some ⟨g, 0, none⟩) 0 T.length)
                     rw [ez]
                     clear ez q1 z1
                     refine hK.out _ _ (trivial) (fun hHeld => ?_)
                     clear hK KK
                     try simp only [Act.put, sA, sB, sC]
                     refine wpAnyH_done (by kernel_rfl) ?_ _
                     clear hHeld
                     go_wp2_with fail
                     simp only [Exit.jumps]
                     go_ret
                     exact ⟨(.slice (some ⟨g, 0, none⟩) 0 T.length), q, cap, acc, rfl, HQC.out, by rw [HS1.out], HLIT.out, HACC2.out, by rw [HS1.out]; simp only; rw [HVN.out, if_neg (by simp), List.length_drop, Nat.sub_self]; have hcut := feed_cut HAT.out hs.p1; rw [Nat.sub_self] at hcut; exact hcut.p1⟩
               · rw [if_pos (by rfl)]
                 refine op_copyrow (.tmp 75) (.tmp 81) rfl g T.length T T.length HAT.out (by rfl) _ _ _ (by rfl) HSL.out HSP.out hs.p1 (fun w' h => ?_)
                 have hs := h
                 clear h
                 refine hK.out _ _ (trivial) (fun hHeld => ?_)
                 clear hK KK
                 try simp only [Act.put, sA, sB, sC]
                 refine wpAnyH_ready (rs := [4]) (by kernel_rfl) (by simp) (AllReadyH.cons (o := ⟨some 71, .load 22 (.tmp 70), 22, "scan.go:56", #[.mk 3 .data], none⟩) rfl (fun KK hK => ?_) AllReadyH.nil)
                 · have z1 := hs.p1.rawCell 1
                   simp at z1
                   go_simp
                   refine hK.out _ _ (trivial) (fun hHeld => ?_)
                   clear hK KK
                   try simp only [Act.put, sA, sB, sC]
                   clear z1
                   refine tQ 16 ⟨some 83, .slice 22 (.tmp 71) none (some (.tmp 82)) none, 22, "scan.go:56", #[.mk 4 .data, .mk 15 .data], none⟩ ?_; simp only [Act.put, sA, sB, sC]
                   refine tQ 17 ⟨some 84, .nilCheck (.tmp 67), 0, "scan.go:56", #[.mk 0 .data, .mk 0 .phase, .mk 1 .phase, .mk 2 .phase, .mk 3 .phase, .mk 4 .phase, .mk 5 .phase, .mk 6 .phase, .mk 7 .phase, .mk 8 .phase, .mk 9 .phase, .mk 10 .phase, .mk 11 .phase, .mk 12 .phase, .mk 13 .phase, .mk 14 .phase, .mk 15 .phase, .mk 16 .phase], none⟩ ?_; simp only [Act.put, sA, sB, sC]
                   refine tQ 18 ⟨some 85, .fieldAddr 52 (.tmp 84) 1, 0, "scan.go:56", #[.mk 17 .data, .mk 0 .phase, .mk 1 .phase, .mk 2 .phase, .mk 3 .phase, .mk 4 .phase, .mk 5 .phase, .mk 6 .phase, .mk 7 .phase, .mk 8 .phase, .mk 9 .phase, .mk 10 .phase, .mk 11 .phase, .mk 12 .phase, .mk 13 .phase, .mk 14 .phase, .mk 15 .phase, .mk 16 .phase], none⟩ ?_; simp only [Act.put, sA, sB, sC]
                   refine wpAnyH_ready (rs := [19]) (by kernel_rfl) (by simp) (AllReadyH.cons (o := ⟨none, .store 22 (.tmp 85) (.tmp 83), 0, "scan.go:56", #[.mk 18 .data, .mk 16 .data, .mk 15 .chain, .mk 0 .phase, .mk 1 .phase, .mk 2 .phase, .mk 3 .phase, .mk 4 .phase, .mk 5 .phase, .mk 6 .phase, .mk 7 .phase, .mk 8 .phase, .mk 9 .phase, .mk 10 .phase, .mk 11 .phase, .mk 12 .phase, .mk 13 .phase, .mk 14 .phase, .mk 15 .phase, .mk 16 .phase], none⟩) rfl (fun KK hK => ?_) AllReadyH.nil)
                   · have hs := hs.p1
                     have q1 := hs.rawFree 1
                     have z1 := hs.rawCell 1
                     simp at z1
                     rw [if_pos (by rfl)]
                     refine op_skip (w' := w'.setCell ⟨sb, 1, none⟩ (.slice (some ⟨g, 0, none⟩) 0 T.length)) (by go_simp) ?_
                     obtain ⟨wz, ez, hs⟩ := hs.setEx 1 (.slice (some ⟨g, 0, none⟩) 0 T.length)
                     rw [ez]
                     clear ez q1 z1
                     refine hK.out _ _ (trivial) (fun hHeld => ?_)
                     clear hK KK
                     try simp only [Act.put, sA, sB, sC]
                     refine wpAnyH_done (by kernel_rfl) ?_ _
                     clear hHeld
                     go_wp2_with fail
                     simp only [Exit.jumps]
                     go_ret
                     exact ⟨(.slice (some ⟨g, 0, none⟩) 0 T.length), q, cap, acc, rfl, HQC.out, by rw [HS1.out], HLIT.out, HACC2.out, by rw [HS1.out]; simp only; rw [HVN.out, if_neg (by simp), List.length_drop, Nat.sub_self]; have hcut := feed_cut HAT.out hs.p1; rw [Nat.sub_self] at hcut; exact hcut.p1⟩
           · have z1 := hs.rawCell 1
             simp at z1
             go_simp
             refine hK.out _ _ (trivial) (fun hHeld => ?_)
             clear hK KK
             try simp only [Act.put, sA, sB, sC]
             clear z1
             refine tQ 14 ⟨some 81, .slice 22 (.tmp 79) (some (.tmp 80)) none none, 22, "scan.go:56", #[.mk 12 .data, .mk 13 .data], none⟩ ?_; simp only [Act.put, sA, sB, sC]
             refine wpAnyH_ready (rs := [4, 8]) (by kernel_rfl) (by simp) (AllReadyH.cons (o := ⟨some 71, .load 22 (.tmp 70), 22, "scan.go:56", #[.mk 3 .data], none⟩) rfl (fun KK hK => ?_) (AllReadyH.cons (o := ⟨some 75, .load 22 (.tmp 74), 22, "scan.go:56", #[.mk 7 .data], none⟩) rfl (fun KK hK => ?_) AllReadyH.nil))
             · have z1 := hs.rawCell 1
               simp at z1
               go_simp
               refine hK.out _ _ (trivial) (fun hHeld => ?_)
               clear hK KK
               try simp only [Act.put, sA, sB, sC]
               clear z1
               refine wpAnyH_ready (rs := [8]) (by kernel_rfl) (by simp) (AllReadyH.cons (o := ⟨some 75, .load 22 (.tmp 74), 22, "scan.go:56", #[.mk 7 .data], none⟩) rfl (fun KK hK => ?_) AllReadyH.nil)
               · have z1 := hs.rawCell 1
                 simp at z1
                 go_simp
                 refine hK.out _ _ (trivial) (fun hHeld => ?_)
                 clear hK KK
                 try simp only [Act.put, sA, sB, sC]
                 clear z1
                 refine wpAnyH_ready (rs := [15]) (by kernel_rfl) (by simp) (AllReadyH.cons (o := ⟨some 82, .call { callee := .builtin .copy, args := #[.tmp 75, .tmp 81], argTypes := #[22, 22] }, 3, "scan.go:56", #[.mk 8 .data, .mk 14 .data], none⟩) rfl (fun KK hK => ?_) AllReadyH.nil)
                 · rw [if_pos (by rfl)]
                   refine op_copyrow (.tmp 75) (.tmp 81) rfl g T.length T T.length HAT.out (by rfl) _ _ _ (by rfl) HSL.out HSP.out hs.p1 (fun w' h => ?_)
                   have hs := h
                   clear h
                   refine hK.out _ _ (trivial) (fun hHeld => ?_)
                   clear hK KK
                   try simp only [Act.put, sA, sB, sC]
                   refine tQ 16 ⟨some 83, .slice 22 (.tmp 71) none (some (.tmp 82)) none, 22, "scan.go:56", #[.mk 4 .data, .mk 15 .data], none⟩ ?_; simp only [Act.put, sA, sB, sC]
                   refine tQ 17 ⟨some 84, .nilCheck (.tmp 67), 0, "scan.go:56", #[.mk 0 .data, .mk 0 .phase, .mk 1 .phase, .mk 2 .phase, .mk 3 .phase, .mk 4 .phase, .mk 5 .phase, .mk 6 .phase, .mk 7 .phase, .mk 8 .phase, .mk 9 .phase, .mk 10 .phase, .mk 11 .phase, .mk 12 .phase, .mk 13 .phase, .mk 14 .phase, .mk 15 .phase, .mk 16 .phase], none⟩ ?_; simp only [Act.put, sA, sB, sC]
                   refine tQ 18 ⟨some 85, .fieldAddr 52 (.tmp 84) 1, 0, "scan.go:56", #[.mk 17 .data, .mk 0 .phase, .mk 1 .phase, .mk 2 .phase, .mk 3 .phase, .mk 4 .phase, .mk 5 .phase, .mk 6 .phase, .mk 7 .phase, .mk 8 .phase, .mk 9 .phase, .mk 10 .phase, .mk 11 .phase, .mk 12 .phase, .mk 13 .phase, .mk 14 .phase, .mk 15 .phase, .mk 16 .phase], none⟩ ?_; simp only [Act.put, sA, sB, sC]
                   refine wpAnyH_ready (rs := [19]) (by kernel_rfl) (by simp) (AllReadyH.cons (o := ⟨none, .store 22 (.tmp 85) (.tmp 83), 0, "scan.go:56", #[.mk 18 .data, .mk 16 .data, .mk 15 .chain, .mk 0 .phase, .mk 1 .phase, .mk 2 .phase, .mk 3 .phase, .mk 4 .phase, .mk 5 .phase, .mk 6 .phase, .mk 7 .phase, .mk 8 .phase, .mk 9 .phase, .mk 10 .phase, .mk 11 .phase, .mk 12 .phase, .mk 13 .phase, .mk 14 .phase, .mk 15 .phase, .mk 16 .phase], none⟩) rfl (fun KK hK => ?_) AllReadyH.nil)
                   · have hs := hs.p1
                     have q1 := hs.rawFree 1
                     have z1 := hs.rawCell 1
                     simp at z1
                     rw [if_pos (by rfl)]
                     refine op_skip (w' := w'.setCell ⟨sb, 1, none⟩ (.slice (some ⟨g, 0, none⟩) 0 T.length)) (by go_simp) ?_
                     obtain ⟨wz, ez, hs⟩ := hs.setEx 1 (.slice (some ⟨g, 0, none⟩) 0 T.length)
                     rw [ez]
                     clear ez q1 z1
                     refine hK.out _ _ (trivial) (fun hHeld => ?_)
                     clear hK KK
                     try simp only [Act.put, sA, sB, sC]
                     refine wpAnyH_done (by kernel_rfl) ?_ _
                     clear hHeld
                     go_wp2_with fail
                     simp only [Exit.jumps]
                     go_ret
                     exact ⟨(.slice (some ⟨g, 0, none⟩) 0 T.length), q, cap, acc, rfl, HQC.out, by rw [HS1.out], HLIT.out, HACC2.out, by rw [HS1.out]; simp only; rw [HVN.out, if_neg (by simp), List.length_drop, Nat.sub_self]; have hcut := feed_cut HAT.out hs.p1; rw [Nat.sub_self] at hcut; exact hcut.p1⟩
             · have z1 := hs.rawCell 1
               simp at z1
               go_simp
               refine hK.out _ _ (trivial) (fun hHeld => ?_)
               clear hK KK
               try simp only [Act.put, sA, sB, sC]
               clear z1
               refine wpAnyH_ready (rs := [4, 15]) (by kernel_rfl) (by simp) (AllReadyH.cons (o := ⟨some 71, .load 22 (.tmp 70), 22, "scan.go:56", #[.mk 3 .data], none⟩) rfl (fun KK hK => ?_) (AllReadyH.cons (o := ⟨some 82, .call { callee := .builtin .copy, args := #[.tmp 75, .tmp 81], argTypes := #[22, 22] }, 3, "scan.go:56", #[.mk 8 .data, .mk 14 .data], none⟩) rfl (fun KK hK => ?_) AllReadyH.nil))
               · have z1 := hs.rawCell 1
                 simp at z1
                 go_simp
                 refine hK.out _ _ (trivial) (fun hHeld => ?_)
                 clear hK KK
                 try simp only [Act.put, sA, sB, sC]
                 clear z1
                 refine wpAnyH_ready (rs := [15]) (by kernel_rfl) (by simp) (AllReadyH.cons (o := ⟨some 82, .call { callee := .builtin .copy, args := #[.tmp 75, .tmp 81], argTypes := #[22, 22] }, 3, "scan.go:56", #[.mk 8 .data, .mk 14 .data], none⟩) rfl (fun KK hK => ?_) AllReadyH.nil)
                 · rw [if_pos (by rfl)]
                   refine op_copyrow (.tmp 75) (.tmp 81) rfl g T.length T T.length HAT.out (by rfl) _ _ _ (by rfl) HSL.out HSP.out hs.p1 (fun w' h => ?_)
                   have hs := h
                   clear h
                   refine hK.out _ _ (trivial) (fun hHeld => ?_)
                   clear hK KK
                   try simp only [Act.put, sA, sB, sC]
                   refine tQ 16 ⟨some 83, .slice 22 (.tmp 71) none (some (.tmp 82)) none, 22, "scan.go:56", #[.mk 4 .data, .mk 15 .data], none⟩ ?_; simp only [Act.put, sA, sB, sC]
                   refine tQ 17 ⟨some 84, .nilCheck (.tmp 67), 0, "scan.go:56", #[.mk 0 .data, .mk 0 .phase, .mk 1 .phase, .mk 2 .phase, .mk 3 .phase, .mk 4 .phase, .mk 5 .phase, .mk 6 .phase, .mk 7 .phase, .mk 8 .phase, .mk 9 .phase, .mk 10 .phase, .mk 11 .phase, .mk 12 .phase, .mk 13 .phase, .mk 14 .phase, .mk 15 .phase, .mk 16 .phase], none⟩ ?_; simp only [Act.put, sA, sB, sC]
                   refine tQ 18 ⟨some 85, .fieldAddr 52 (.tmp 84) 1, 0, "scan.go:56", #[.mk 17 .data, .mk 0 .phase, .mk 1 .phase, .mk 2 .phase, .mk 3 .phase, .mk 4 .phase, .mk 5 .phase, .mk 6 .phase, .mk 7 .phase, .mk 8 .phase, .mk 9 .phase, .mk 10 .phase, .mk 11 .phase, .mk 12 .phase, .mk 13 .phase, .mk 14 .phase, .mk 15 .phase, .mk 16 .phase], none⟩ ?_; simp only [Act.put, sA, sB, sC]
                   refine wpAnyH_ready (rs := [19]) (by kernel_rfl) (by simp) (AllReadyH.cons (o := ⟨none, .store 22 (.tmp 85) (.tmp 83), 0, "scan.go:56", #[.mk 18 .data, .mk 16 .data, .mk 15 .chain, .mk 0 .phase, .mk 1 .phase, .mk 2 .phase, .mk 3 .phase, .mk 4 .phase, .mk 5 .phase, .mk 6 .phase, .mk 7 .phase, .mk 8 .phase, .mk 9 .phase, .mk 10 .phase, .mk 11 .phase, .mk 12 .phase, .mk 13 .phase, .mk 14 .phase, .mk 15 .phase, .mk 16 .phase], none⟩) rfl (fun KK hK => ?_) AllReadyH.nil)
                   · have hs := hs.p1
                     have q1 := hs.rawFree 1
                     have z1 := hs.rawCell 1
                     simp at z1
                     rw [if_pos (by rfl)]
                     refine op_skip (w' := w'.setCell ⟨sb, 1, none⟩ (.slice (some ⟨g, 0, none⟩) 0 T.length)) (by go_simp) ?_
                     obtain ⟨wz, ez, hs⟩ := hs.setEx 1 (.slice (some ⟨g, 0, none⟩) 0 T.length)
                     rw [ez]
                     clear ez q1 z1
                     refine hK.out _ _ (trivial) (fun hHeld => ?_)
                     clear hK KK
                     try simp only [Act.put, sA, sB, sC]
                     refine wpAnyH_done (by kernel_rfl) ?_ _
                     clear hHeld
                     go_wp2_with fail
                     simp only [Exit.jumps]
                     go_ret
                     exact ⟨(.slice (some ⟨g, 0, none⟩) 0 T.length), q, cap, acc, rfl, HQC.out, by rw [HS1.out], HLIT.out, HACC2.out, by rw [HS1.out]; simp only; rw [HVN.out, if_neg (by simp), List.length_drop, Nat.sub_self]; have hcut := feed_cut HAT.out hs.p1; rw [Nat.sub_self] at hcut; exact hcut.p1⟩
               · rw [if_pos (by rfl)]
                 refine op_copyrow (.tmp 75) (.tmp 81) rfl g T.length T T.length HAT.out (by rfl) _ _ _ (by rfl) HSL.out HSP.out hs.p1 (fun w' h => ?_)
                 have hs := h
                 clear h
                 refine hK.out _ _ (trivial) (fun hHeld => ?_)
                 clear hK KK
                 try simp only [Act.put, sA, sB, sC]
                 refine wpAnyH_ready (rs := [4]) (by kernel_rfl) (by simp) (AllReadyH.cons (o := ⟨some 71, .load 22 (.tmp 70), 22, "scan.go:56", #[.mk 3 .data], none⟩) rfl (fun KK hK => ?_) AllReadyH.nil)
                 · have z1 := hs.p1.rawCell 1
                   simp at z1
                   go_simp
                   refine hK.out _ _ (trivial) (fun hHeld => ?_)
                   clear hK KK
                   try simp only [Act.put, sA, sB, sC]
                   clear z1
                   refine tQ 16 ⟨some 83, .slice 22 (.tmp 71) none (some (.tmp 82)) none, 22, "scan.go:56", #[.mk 4 .data, .mk 15 .data], none⟩ ?_; simp only [Act.put, sA, sB, sC]
                   refine tQ 17 ⟨some 84, .nilCheck (.tmp 67), 0, "scan.go:56", #[.mk 0 .data, .mk 0 .phase, .mk 1 .phase, .mk 2 .phase, .mk 3 .phase, .mk 4 .phase, .mk 5 .phase, .mk 6 .phase, .mk 7 .phase, .mk 8 .phase, .mk 9 .phase, .mk 10 .phase, .mk 11 .phase, .mk 12 .phase, .mk 13 .phase, .mk 14 .phase, .mk 15 .phase, .mk 16 .phase], none⟩ ?_; simp only [Act.put, sA, sB, sC]
                   refine tQ 18 ⟨some 85, .fieldAddr 52 (.tmp 84) 1, 0, "scan.go:56", #[.mk 17 .data, .mk 0 .phase, .mk 1 .phase, .mk 2 .phase, .mk 3 .phase, .mk 4 .phase, .mk 5 .phase, .mk 6 .phase, .mk 7 .phase, .mk 8 .phase, .mk 9 .phase, .mk 10 .phase, .mk 11 .phase, .mk 12 .phase, .mk 13 .phase, .mk 14 .phase, .mk 15 .phase, .mk 16 .phase], none⟩ ?_; simp only [Act.put, sA, sB, sC]
                   refine wpAnyH_ready (rs := [19]) (by kernel_rfl) (by simp) (AllReadyH.cons (o := ⟨none, .store 22 (.tmp 85) (.tmp 83), 0, "scan.go:56", #[.mk 18 .data, .mk 16 .data, .mk 15 .chain, .mk 0 .phase, .mk 1 .phase, .mk 2 .phase, .mk 3 .phase, .mk 4 .phase, .mk 5 .phase, .mk 6 .phase, .mk 7 .phase, .mk 8 .phase, .mk 9 .phase, .mk 10 .phase, .mk 11 .phase, .mk 12 .phase, .mk 13 .phase, .mk 14 .phase, .mk 15 .phase, .mk 16 .phase], none⟩) rfl (fun KK hK => ?_) AllReadyH.nil)
                   · have hs := hs.p1
                     have q1 := hs.rawFree 1
                     have z1 := hs.rawCell 1
                     simp at z1
                     rw [if_pos (by rfl)]
                     refine op_skip (w' := w'.setCell ⟨sb, 1, none⟩ (.slice (some ⟨g, 0, none⟩) 0 T.length)) (by go_simp) ?_
                     obtain ⟨wz, ez, hs⟩ := hs.setEx 1 (.slice (some ⟨g, 0, none⟩) 0 T.length)
                     rw [ez]
                     clear ez q1 z1
                     refine hK.out _ _ (trivial) (fun hHeld => ?_)
                     clear hK KK
                     try simp only [Act.put, sA, sB, sC]
                     refine wpAnyH_done (by kernel_rfl) ?_ _
                     clear hHeld
                     go_wp2_with fail
                     simp only [Exit.jumps]
                     go_ret
                     exact ⟨(.slice (some ⟨g, 0, none⟩) 0 T.length), q, cap, acc, rfl, HQC.out, by rw [HS1.out], HLIT.out, HACC2.out, by rw [HS1.out]; simp only; rw [HVN.out, if_neg (by simp), List.length_drop, Nat.sub_self]; have hcut := feed_cut HAT.out hs.p1; rw [Nat.sub_self] at hcut; exact hcut.p1⟩
         · have HSL := Lib.hid (show T.length - at_ = T.length - at_ from rfl)
           have HSP := Lib.hid (show at_ < T.length → (some ⟨g, at_, none⟩ : Option Addr) = some ⟨g, at_, none⟩ from fun _ => rfl)
           have hca0 : ¬ cv - at_ = 0 := by omega
           have hca1 : ¬ cv = at_ := hca
           clear hsc hkk hrec hlit hacc hat hst hf hvn hv hl ha0 hca
           go_upto_region 15 with (fail)
           have hs := (((H.out.rawSet 0 (.int .i64 vn)).rawSet 2 (.int .i64 0))).drew
           refine wp_region_held_drew (S := fun _ => True) (by kernel_rfl) trivial (fun hHeld => ?_)
           refine tQ 0 ⟨some 67, .move (.tmp 0), 24, "scan.go:56", #[], none⟩ ?_; simp only [Act.put, sA, sB, sC]
           refine tQ 1 ⟨some 68, .move (.tmp 0), 24, "scan.go:56", #[], none⟩ ?_; simp only [Act.put, sA, sB, sC]
           refine tQ 2 ⟨some 69, .nilCheck (.tmp 68), 0, "scan.go:56", #[.mk 1 .data], none⟩ ?_; simp only [Act.put, sA, sB, sC]
           refine tQ 3 ⟨some 70, .fieldAddr 52 (.tmp 69) 1, 0, "scan.go:56", #[.mk 2 .data], none⟩ ?_; simp only [Act.put, sA, sB, sC]
           refine tQ 5 ⟨some 72, .move (.tmp 0), 24, "scan.go:56", #[], none⟩ ?_; simp only [Act.put, sA, sB, sC]
           refine tQ 6 ⟨some 73, .nilCheck (.tmp 72), 0, "scan.go:56", #[.mk 5 .data], none⟩ ?_; simp only [Act.put, sA, sB, sC]
           refine tQ 7 ⟨some 74, .fieldAddr 52 (.tmp 73) 1, 0, "scan.go:56", #[.mk 6 .data], none⟩ ?_; simp only [Act.put, sA, sB, sC]
           refine tQ 9 ⟨some 76, .move (.tmp 0), 24, "scan.go:56", #[], none⟩ ?_; simp only [Act.put, sA, sB, sC]
           refine tQ 10 ⟨some 77, .nilCheck (.tmp 76), 0, "scan.go:56", #[.mk 9 .data], none⟩ ?_; simp only [Act.put, sA, sB, sC]
           refine tQ 11 ⟨some 78, .fieldAddr 52 (.tmp 77) 1, 0, "scan.go:56", #[.mk 10 .data], none⟩ ?_; simp only [Act.put, sA, sB, sC]
           refine tQ 13 ⟨some 80, .move (.tmp 6), 3, "scan.go:56", #[], none⟩ ?_; simp only [Act.put, sA, sB, sC]
           refine wpAnyH_ready (rs := [4, 8, 12]) (by kernel_rfl) (by simp) (AllReadyH.cons (o := ⟨some 71, .load 22 (.tmp 70), 22, "scan.go:56", #[.mk 3 .data], none⟩) rfl (fun KK hK => ?_) (AllReadyH.cons (o := ⟨some 75, .load 22 (.tmp 74), 22, "scan.go:56", #[.mk 7 .data], none⟩) rfl (fun KK hK => ?_) (AllReadyH.cons (o := ⟨some 79, .load 22 (.tmp 78), 22, "scan.go:56", #[.mk 11 .data], none⟩) rfl (fun KK hK => ?_) AllReadyH.nil)))
           · have z1 := hs.rawCell 1
             simp at z1
             go_simp
             refine hK.out _ _ (trivial) (fun hHeld => ?_)
             clear hK KK
             try simp only [Act.put, sA, sB, sC]
             clear z1
             refine wpAnyH_ready (rs := [8, 12]) (by kernel_rfl) (by simp) (AllReadyH.cons (o := ⟨some 75, .load 22 (.tmp 74), 22, "scan.go:56", #[.mk 7 .data], none⟩) rfl (fun KK hK => ?_) (AllReadyH.cons (o := ⟨some 79, .load 22 (.tmp 78), 22, "scan.go:56", #[.mk 11 .data], none⟩) rfl (fun KK hK => ?_) AllReadyH.nil))
             · have z1 := hs.rawCell 1
               simp at z1
               go_simp
               refine hK.out _ _ (trivial) (fun hHeld => ?_)
               clear hK KK
               try simp only [Act.put, sA, sB, sC]
               clear z1
               refine wpAnyH_ready (rs := [12]) (by kernel_rfl) (by simp) (AllReadyH.cons (o := ⟨some 79, .load 22 (.tmp 78), 22, "scan.go:56", #[.mk 11 .data], none⟩) rfl (fun KK hK => ?_) AllReadyH.nil)
               · have z1 := hs.rawCell 1
                 simp at z1
                 go_simp
                 refine hK.out _ _ (trivial) (fun hHeld => ?_)
                 clear hK KK
                 try simp only [Act.put, sA, sB, sC]
                 clear z1
                 refine tQ 14 ⟨some 81, .slice 22 (.tmp 79) (some (.tmp 80)) none none, 22, "scan.go:56", #[.mk 12 .data, .mk 13 .data], none⟩ ?_; simp only [Act.put, sA, sB, sC]
                 refine wpAnyH_ready (rs := [15]) (by kernel_rfl) (by simp) (AllReadyH.cons (o := ⟨some 82, .call { callee := .builtin .copy, args := #[.tmp 75, .tmp 81], argTypes := #[22, 22] }, 3, "scan.go:56", #[.mk 8 .data, .mk 14 .data], none⟩) rfl (fun KK hK => ?_) AllReadyH.nil)
                 · rw [if_pos (by rfl)]
                   refine op_copyrow (.tmp 75) (.tmp 81) rfl g cv T at_ HAT.out (by rfl) _ _ _ (by rfl) HSL.out HSP.out hs.p1 (fun w' h => ?_)
                   have hs := h
                   clear h
                   refine hK.out _ _ (trivial) (fun hHeld => ?_)
                   clear hK KK
                   try simp only [Act.put, sA, sB, sC]
                   refine tQ 16 ⟨some 83, .slice 22 (.tmp 71) none (some (.tmp 82)) none, 22, "scan.go:56", #[.mk 4 .data, .mk 15 .data], none⟩ ?_; simp only [Act.put, sA, sB, sC]
                   refine tQ 17 ⟨some 84, .nilCheck (.tmp 67), 0, "scan.go:56", #[.mk 0 .data, .mk 0 .phase, .mk 1 .phase, .mk 2 .phase, .mk 3 .phase, .mk 4 .phase, .mk 5 .phase, .mk 6 .phase, .mk 7 .phase, .mk 8 .phase, .mk 9 .phase, .mk 10 .phase, .mk 11 .phase, .mk 12 .phase, .mk 13 .phase, .mk 14 .phase, .mk 15 .phase, .mk 16 .phase], none⟩ ?_; simp only [Act.put, sA, sB, sC]
                   refine tQ 18 ⟨some 85, .fieldAddr 52 (.tmp 84) 1, 0, "scan.go:56", #[.mk 17 .data, .mk 0 .phase, .mk 1 .phase, .mk 2 .phase, .mk 3 .phase, .mk 4 .phase, .mk 5 .phase, .mk 6 .phase, .mk 7 .phase, .mk 8 .phase, .mk 9 .phase, .mk 10 .phase, .mk 11 .phase, .mk 12 .phase, .mk 13 .phase, .mk 14 .phase, .mk 15 .phase, .mk 16 .phase], none⟩ ?_; simp only [Act.put, sA, sB, sC]
                   refine wpAnyH_ready (rs := [19]) (by kernel_rfl) (by simp) (AllReadyH.cons (o := ⟨none, .store 22 (.tmp 85) (.tmp 83), 0, "scan.go:56", #[.mk 18 .data, .mk 16 .data, .mk 15 .chain, .mk 0 .phase, .mk 1 .phase, .mk 2 .phase, .mk 3 .phase, .mk 4 .phase, .mk 5 .phase, .mk 6 .phase, .mk 7 .phase, .mk 8 .phase, .mk 9 .phase, .mk 10 .phase, .mk 11 .phase, .mk 12 .phase, .mk 13 .phase, .mk 14 .phase, .mk 15 .phase, .mk 16 .phase], none⟩) rfl (fun KK hK => ?_) AllReadyH.nil)
                   · have hs := hs.p1
                     have q1 := hs.rawFree 1
                     have z1 := hs.rawCell 1
                     simp at z1
                     rw [if_pos (by rfl)]
                     refine op_skip (w' := w'.setCell ⟨sb, 1, none⟩ (.slice (some ⟨g, 0, none⟩) (T.length - at_) cv)) (by go_simp) ?_
                     obtain ⟨wz, ez, hs⟩ := hs.setEx 1 (.slice (some ⟨g, 0, none⟩) (T.length - at_) cv)
                     rw [ez]
                     clear ez q1 z1
                     refine hK.out _ _ (trivial) (fun hHeld => ?_)
                     clear hK KK
                     try simp only [Act.put, sA, sB, sC]
                     refine wpAnyH_done (by kernel_rfl) ?_ _
                     clear hHeld
                     go_wp2_with fail
                     simp only [Exit.jumps]
                     go_ret
                     exact ⟨(.slice (some ⟨g, 0, none⟩) (T.length - at_) cv), q, cap, acc, rfl, HQC.out, by rw [HS1.out], HLIT.out, HACC2.out, by rw [HS1.out]; simp only; rw [HVN.out, if_neg (by simp), List.length_drop]; exact (feed_cut HAT.out hs.p1).p1⟩
             · have z1 := hs.rawCell 1
               simp at z1
               go_simp
               refine hK.out _ _ (trivial) (fun hHeld => ?_)
               clear hK KK
               try simp only [Act.put, sA, sB, sC]
               clear z1
               refine tQ 14 ⟨some 81, .slice 22 (.tmp 79) (some (.tmp 80)) none none, 22, "scan.go:56", #[.mk 12 .data, .mk 13 .data], none⟩ ?_; simp only [Act.put, sA, sB, sC]
               refine wpAnyH_ready (rs := [8]) (by kernel_rfl) (by simp) (AllReadyH.cons (o := ⟨some 75, .load 22 (.tmp 74), 22, "scan.go:56", #[.mk 7 .data], none⟩) rfl (fun KK hK => ?_) AllReadyH.nil)
               · have z1 := hs.rawCell 1
                 simp at z1
                 go_simp
                 refine hK.out _ _ (trivial) (fun hHeld => ?_)
                 clear hK KK
                 try simp only [Act.put, sA, sB, sC]
                 clear z1
                 refine wpAnyH_ready (rs := [15]) (by kernel_rfl) (by simp) (AllReadyH.cons (o := ⟨some 82, .call { callee := .builtin .copy, args := #[.tmp 75, .tmp 81], argTypes := #[22, 22] }, 3, "scan.go:56", #[.mk 8 .data, .mk 14 .data], none⟩) rfl (fun KK hK => ?_) AllReadyH.nil)
                 · rw [if_pos (by rfl)]
                   refine op_copyrow (.tmp 75) (.tmp 81) rfl g cv T at_ HAT.out (by rfl) _ _ _ (by rfl) HSL.out HSP.out hs.p1 (fun w' h => ?_)
                   have hs := h
                   clear h
                   refine hK.out _ _ (trivial) (fun hHeld => ?_)
                   clear hK KK
                   try simp only [Act.put, sA, sB, sC]
                   refine tQ 16 ⟨some 83, .slice 22 (.tmp 71) none (some (.tmp 82)) none, 22, "scan.go:56", #[.mk 4 .data, .mk 15 .data], none⟩ ?_; simp only [Act.put, sA, sB, sC]
                   refine tQ 17 ⟨some 84, .nilCheck (.tmp 67), 0, "scan.go:56", #[.mk 0 .data, .mk 0 .phase, .mk 1 .phase, .mk 2 .phase, .mk 3 .phase, .mk 4 .phase, .mk 5 .phase, .mk 6 .phase, .mk 7 .phase, .mk 8 .phase, .mk 9 .phase, .mk 10 .phase, .mk 11 .phase, .mk 12 .phase, .mk 13 .phase, .mk 14 .phase, .mk 15 .phase, .mk 16 .phase], none⟩ ?_; simp only [Act.put, sA, sB, sC]
                   refine tQ 18 ⟨some 85, .fieldAddr 52 (.tmp 84) 1, 0, "scan.go:56", #[.mk 17 .data, .mk 0 .phase, .mk 1 .phase, .mk 2 .phase, .mk 3 .phase, .mk 4 .phase, .mk 5 .phase, .mk 6 .phase, .mk 7 .phase, .mk 8 .phase, .mk 9 .phase, .mk 10 .phase, .mk 11 .phase, .mk 12 .phase, .mk 13 .phase, .mk 14 .phase, .mk 15 .phase, .mk 16 .phase], none⟩ ?_; simp only [Act.put, sA, sB, sC]
                   refine wpAnyH_ready (rs := [19]) (by kernel_rfl) (by simp) (AllReadyH.cons (o := ⟨none, .store 22 (.tmp 85) (.tmp 83), 0, "scan.go:56", #[.mk 18 .data, .mk 16 .data, .mk 15 .chain, .mk 0 .phase, .mk 1 .phase, .mk 2 .phase, .mk 3 .phase, .mk 4 .phase, .mk 5 .phase, .mk 6 .phase, .mk 7 .phase, .mk 8 .phase, .mk 9 .phase, .mk 10 .phase, .mk 11 .phase, .mk 12 .phase, .mk 13 .phase, .mk 14 .phase, .mk 15 .phase, .mk 16 .phase], none⟩) rfl (fun KK hK => ?_) AllReadyH.nil)
                   · have hs := hs.p1
                     have q1 := hs.rawFree 1
                     have z1 := hs.rawCell 1
                     simp at z1
                     rw [if_pos (by rfl)]
                     refine op_skip (w' := w'.setCell ⟨sb, 1, none⟩ (.slice (some ⟨g, 0, none⟩) (T.length - at_) cv)) (by go_simp) ?_
                     obtain ⟨wz, ez, hs⟩ := hs.setEx 1 (.slice (some ⟨g, 0, none⟩) (T.length - at_) cv)
                     rw [ez]
                     clear ez q1 z1
                     refine hK.out _ _ (trivial) (fun hHeld => ?_)
                     clear hK KK
                     try simp only [Act.put, sA, sB, sC]
                     refine wpAnyH_done (by kernel_rfl) ?_ _
                     clear hHeld
                     go_wp2_with fail
                     simp only [Exit.jumps]
                     go_ret
                     exact ⟨(.slice (some ⟨g, 0, none⟩) (T.length - at_) cv), q, cap, acc, rfl, HQC.out, by rw [HS1.out], HLIT.out, HACC2.out, by rw [HS1.out]; simp only; rw [HVN.out, if_neg (by simp), List.length_drop]; exact (feed_cut HAT.out hs.p1).p1⟩
           · have z1 := hs.rawCell 1
             simp at z1
             go_simp
             refine hK.out _ _ (trivial) (fun hHeld => ?_)
             clear hK KK
             try simp only [Act.put, sA, sB, sC]
             clear z1
             refine wpAnyH_ready (rs := [4, 12]) (by kernel_rfl) (by simp) (AllReadyH.cons (o := ⟨some 71, .load 22 (.tmp 70), 22, "scan.go:56", #[.mk 3 .data], none⟩) rfl (fun KK hK => ?_) (AllReadyH.cons (o := ⟨some 79, .load 22 (.tmp 78), 22, "scan.go:56", #[.mk 11 .data], none⟩) rfl (fun KK hK => ?_) AllReadyH.nil))
             · have z1 := hs.rawCell 1
               simp at z1
               go_simp
               refine hK.out _ _ (trivial) (fun hHeld => ?_)
               clear hK KK
               try simp only [Act.put, sA, sB, sC]
               clear z1
               refine wpAnyH_ready (rs := [12]) (by kernel_rfl) (by simp) (AllReadyH.cons (o := ⟨some 79, .load 22 (.tmp 78), 22, "scan.go:56", #[.mk 11 .data], none⟩) rfl (fun KK hK => ?_) AllReadyH.nil)
               · have z1 := hs.rawCell 1
                 simp at z1
                 go_simp
                 refine hK.out _ _ (trivial) (fun hHeld => ?_)
                 clear hK KK
                 try simp only [Act.put, sA, sB, sC]
                 clear z1
                 refine tQ 14 ⟨some 81, .slice 22 (.tmp 79) (some (.tmp 80)) none none, 22, "scan.go:56", #[.mk 12 .data, .mk 13 .data], none⟩ ?_; simp only [Act.put, sA, sB, sC]
                 refine wpAnyH_ready (rs := [15]) (by kernel_rfl) (by simp) (AllReadyH.cons (o := ⟨some 82, .call { callee := .builtin .copy, args := #[.tmp 75, .tmp 81], argTypes := #[22, 22] }, 3, "scan.go:56", #[.mk 8 .data, .mk 14 .data], none⟩) rfl (fun KK hK => ?_) AllReadyH.nil)
                 · rw [if_pos (by rfl)]
                   refine op_copyrow (.tmp 75) (.tmp 81) rfl g cv T at_ HAT.out (by rfl) _ _ _ (by rfl) HSL.out HSP.out hs.p1 (fun w' h => ?_)
                   have hs := h
                   clear h
                   refine hK.out _ _ (trivial) (fun hHeld => ?_)
                   clear hK KK
                   try simp only [Act.put, sA, sB, sC]
                   refine tQ 16 ⟨some 83, .slice 22 (.tmp 71) none (some (.tmp 82)) none, 22, "scan.go:56", #[.mk 4 .data, .mk 15 .data], none⟩ ?_; simp only [Act.put, sA, sB, sC]
                   refine tQ 17 ⟨some 84, .nilCheck (.tmp 67), 0, "scan.go:56", #[.mk 0 .data, .mk 0 .phase, .mk 1 .phase, .mk 2 .phase, .mk 3 .phase, .mk 4 .phase, .mk 5 .phase, .mk 6 .phase, .mk 7 .phase, .mk 8 .phase, .mk 9 .phase, .mk 10 .phase, .mk 11 .phase, .mk 12 .phase, .mk 13 .phase, .mk 14 .phase, .mk 15 .phase, .mk 16 .phase], none⟩ ?_; simp only [Act.put, sA, sB, sC]
                   refine tQ 18 ⟨some 85, .fieldAddr 52 (.tmp 84) 1, 0, "scan.go:56", #[.mk 17 .data, .mk 0 .phase, .mk 1 .phase, .mk 2 .phase, .mk 3 .phase, .mk 4 .phase, .mk 5 .phase, .mk 6 .phase, .mk 7 .phase, .mk 8 .phase, .mk 9 .phase, .mk 10 .phase, .mk 11 .phase, .mk 12 .phase, .mk 13 .phase, .mk 14 .phase, .mk 15 .phase, .mk 16 .phase], none⟩ ?_; simp only [Act.put, sA, sB, sC]
                   refine wpAnyH_ready (rs := [19]) (by kernel_rfl) (by simp) (AllReadyH.cons (o := ⟨none, .store 22 (.tmp 85) (.tmp 83), 0, "scan.go:56", #[.mk 18 .data, .mk 16 .data, .mk 15 .chain, .mk 0 .phase, .mk 1 .phase, .mk 2 .phase, .mk 3 .phase, .mk 4 .phase, .mk 5 .phase, .mk 6 .phase, .mk 7 .phase, .mk 8 .phase, .mk 9 .phase, .mk 10 .phase, .mk 11 .phase, .mk 12 .phase, .mk 13 .phase, .mk 14 .phase, .mk 15 .phase, .mk 16 .phase], none⟩) rfl (fun KK hK => ?_) AllReadyH.nil)
                   · have hs := hs.p1
                     have q1 := hs.rawFree 1
                     have z1 := hs.rawCell 1
                     simp at z1
                     rw [if_pos (by rfl)]
                     refine op_skip (w' := w'.setCell ⟨sb, 1, none⟩ (.slice (some ⟨g, 0, none⟩) (T.length - at_) cv)) (by go_simp) ?_
                     obtain ⟨wz, ez, hs⟩ := hs.setEx 1 (.slice (some ⟨g, 0, none⟩) (T.length - at_) cv)
                     rw [ez]
                     clear ez q1 z1
                     refine hK.out _ _ (trivial) (fun hHeld => ?_)
                     clear hK KK
                     try simp only [Act.put, sA, sB, sC]
                     refine wpAnyH_done (by kernel_rfl) ?_ _
                     clear hHeld
                     go_wp2_with fail
                     simp only [Exit.jumps]
                     go_ret
                     exact ⟨(.slice (some ⟨g, 0, none⟩) (T.length - at_) cv), q, cap, acc, rfl, HQC.out, by rw [HS1.out], HLIT.out, HACC2.out, by rw [HS1.out]; simp only; rw [HVN.out, if_neg (by simp), List.length_drop]; exact (feed_cut HAT.out hs.p1).p1⟩
             · have z1 := hs.rawCell 1
               simp at z1
               go_simp
               refine hK.out _ _ (trivial) (fun hHeld => ?_)
               clear hK KK
               try simp only [Act.put, sA, sB, sC]
               clear z1
               refine tQ 14 ⟨some 81, .slice 22 (.tmp 79) (some (.tmp 80)) none none, 22, "scan.go:56", #[.mk 12 .data, .mk 13 .data], none⟩ ?_; simp only [Act.put, sA, sB, sC]
               refine wpAnyH_ready (rs := [4, 15]) (by kernel_rfl) (by simp) (AllReadyH.cons (o := ⟨some 71, .load 22 (.tmp 70), 22, "scan.go:56", #[.mk 3 .data], none⟩) rfl (fun KK hK => ?_) (AllReadyH.cons (o := ⟨some 82, .call { callee := .builtin .copy, args := #[.tmp 75, .tmp 81], argTypes := #[22, 22] }, 3, "scan.go:56", #[.mk 8 .data, .mk 14 .data], none⟩) rfl (fun KK hK => ?_) AllReadyH.nil))
               · have z1 := hs.rawCell 1
                 simp at z1
                 go_simp
                 refine hK.out _ _ (trivial) (fun hHeld => ?_)
                 clear hK KK
                 try simp only [Act.put, sA, sB, sC]
                 clear z1
                 refine wpAnyH_ready (rs := [15]) (by kernel_rfl) (by simp) (AllReadyH.cons (o := ⟨some 82, .call { callee := .builtin .copy, args := #[.tmp 75, .tmp 81], argTypes := #[22, 22] }, 3, "scan.go:56", #[.mk 8 .data, .mk 14 .data], none⟩) rfl (fun KK hK => ?_) AllReadyH.nil)
                 · rw [if_pos (by rfl)]
                   refine op_copyrow (.tmp 75) (.tmp 81) rfl g cv T at_ HAT.out (by rfl) _ _ _ (by rfl) HSL.out HSP.out hs.p1 (fun w' h => ?_)
                   have hs := h
                   clear h
                   refine hK.out _ _ (trivial) (fun hHeld => ?_)
                   clear hK KK
                   try simp only [Act.put, sA, sB, sC]
                   refine tQ 16 ⟨some 83, .slice 22 (.tmp 71) none (some (.tmp 82)) none, 22, "scan.go:56", #[.mk 4 .data, .mk 15 .data], none⟩ ?_; simp only [Act.put, sA, sB, sC]
                   refine tQ 17 ⟨some 84, .nilCheck (.tmp 67), 0, "scan.go:56", #[.mk 0 .data, .mk 0 .phase, .mk 1 .phase, .mk 2 .phase, .mk 3 .phase, .mk 4 .phase, .mk 5 .phase, .mk 6 .phase, .mk 7 .phase, .mk 8 .phase, .mk 9 .phase, .mk 10 .phase, .mk 11 .phase, .mk 12 .phase, .mk 13 .phase, .mk 14 .phase, .mk 15 .phase, .mk 16 .phase], none⟩ ?_; simp only [Act.put, sA, sB, sC]
                   refine tQ 18 ⟨some 85, .fieldAddr 52 (.tmp 84) 1, 0, "scan.go:56", #[.mk 17 .data, .mk 0 .phase, .mk 1 .phase, .mk 2 .phase, .mk 3 .phase, .mk 4 .phase, .mk 5 .phase, .mk 6 .phase, .mk 7 .phase, .mk 8 .phase, .mk 9 .phase, .mk 10 .phase, .mk 11 .phase, .mk 12 .phase, .mk 13 .phase, .mk 14 .phase, .mk 15 .phase, .mk 16 .phase], none⟩ ?_; simp only [Act.put, sA, sB, sC]
                   refine wpAnyH_ready (rs := [19]) (by kernel_rfl) (by simp) (AllReadyH.cons (o := ⟨none, .store 22 (.tmp 85) (.tmp 83), 0, "scan.go:56", #[.mk 18 .data, .mk 16 .data, .mk 15 .chain, .mk 0 .phase, .mk 1 .phase, .mk 2 .phase, .mk 3 .phase, .mk 4 .phase, .mk 5 .phase, .mk 6 .phase, .mk 7 .phase, .mk 8 .phase, .mk 9 .phase, .mk 10 .phase, .mk 11 .phase, .mk 12 .phase, .mk 13 .phase, .mk 14 .phase, .mk 15 .phase, .mk 16 .phase], none⟩) rfl (fun KK hK => ?_) AllReadyH.nil)
                   · have hs := hs.p1
                     have q1 := hs.rawFree 1
                     have z1 := hs.rawCell 1
                     simp at z1
                     rw [if_pos (by rfl)]
                     refine op_skip (w' := w'.setCell ⟨sb, 1, none⟩ (.slice (some ⟨g, 0, none⟩) (T.length - at_) cv)) (by go_simp) ?_
                     obtain ⟨wz, ez, hs⟩ := hs.setEx 1 (.slice (some ⟨g, 0, none⟩) (T.length - at_) cv)
                     rw [ez]
                     clear ez q1 z1
                     refine hK.out _ _ (trivial) (fun hHeld => ?_)
                     clear hK KK
                     try simp only [Act.put, sA, sB, sC]
                     refine wpAnyH_done (by kernel_rfl) ?_ _
                     clear hHeld
                     go_wp2_with fail
                     simp only [Exit.jumps]
                     go_ret
                     exact ⟨(.slice (some ⟨g, 0, none⟩) (T.length - at_) cv), q, cap, acc, rfl, HQC.out, by rw [HS1.out], HLIT.out, HACC2.out, by rw [HS1.out]; simp only; rw [HVN.out, if_neg (by simp), List.length_drop]; exact (feed_cut HAT.out hs.p1).p1⟩
               · rw [if_pos (by rfl)]
                 refine op_copyrow (.tmp 75) (.tmp 81) rfl g cv T at_ HAT.out (by rfl) _ _ _ (by rfl) HSL.out HSP.out hs.p1 (fun w' h => ?_)
                 have hs := h
                 clear h
                 refine hK.out _ _ (trivial) (fun hHeld => ?_)
                 clear hK KK
                 try simp only [Act.put, sA, sB, sC]
                 refine wpAnyH_ready (rs := [4]) (by kernel_rfl) (by simp) (AllReadyH.cons (o := ⟨some 71, .load 22 (.tmp 70), 22, "scan.go:56", #[.mk 3 .data], none⟩) rfl (fun KK hK => ?_) AllReadyH.nil)
                 · have z1 := hs.p1.rawCell 1
                   simp at z1
                   go_simp
                   refine hK.out _ _ (trivial) (fun hHeld => ?_)
                   clear hK KK
                   try simp only [Act.put, sA, sB, sC]
                   clear z1
                   refine tQ 16 ⟨some 83, .slice 22 (.tmp 71) none (some (.tmp 82)) none, 22, "scan.go:56", #[.mk 4 .data, .mk 15 .data], none⟩ ?_; simp only [Act.put, sA, sB, sC]
                   refine tQ 17 ⟨some 84, .nilCheck (.tmp 67), 0, "scan.go:56", #[.mk 0 .data, .mk 0 .phase, .mk 1 .phase, .mk 2 .phase, .mk 3 .phase, .mk 4 .phase, .mk 5 .phase, .mk 6 .phase, .mk 7 .phase, .mk 8 .phase, .mk 9 .phase, .mk 10 .phase, .mk 11 .phase, .mk 12 .phase, .mk 13 .phase, .mk 14 .phase, .mk 15 .phase, .mk 16 .phase], none⟩ ?_; simp only [Act.put, sA, sB, sC]
                   refine tQ 18 ⟨some 85, .fieldAddr 52 (.tmp 84) 1, 0, "scan.go:56", #[.mk 17 .data, .mk 0 .phase, .mk 1 .phase, .mk 2 .phase, .mk 3 .phase, .mk 4 .phase, .mk 5 .phase, .mk 6 .phase, .mk 7 .phase, .mk 8 .phase, .mk 9 .phase, .mk 10 .phase, .mk 11 .phase, .mk 12 .phase, .mk 13 .phase, .mk 14 .phase, .mk 15 .phase, .mk 16 .phase], none⟩ ?_; simp only [Act.put, sA, sB, sC]
                   refine wpAnyH_ready (rs := [19]) (by kernel_rfl) (by simp) (AllReadyH.cons (o := ⟨none, .store 22 (.tmp 85) (.tmp 83), 0, "scan.go:56", #[.mk 18 .data, .mk 16 .data, .mk 15 .chain, .mk 0 .phase, .mk 1 .phase, .mk 2 .phase, .mk 3 .phase, .mk 4 .phase, .mk 5 .phase, .mk 6 .phase, .mk 7 .phase, .mk 8 .phase, .mk 9 .phase, .mk 10 .phase, .mk 11 .phase, .mk 12 .phase, .mk 13 .phase, .mk 14 .phase, .mk 15 .phase, .mk 16 .phase], none⟩) rfl (fun KK hK => ?_) AllReadyH.nil)
                   · have hs := hs.p1
                     have q1 := hs.rawFree 1
                     have z1 := hs.rawCell 1
                     simp at z1
                     rw [if_pos (by rfl)]
                     refine op_skip (w' := w'.setCell ⟨sb, 1, none⟩ (.slice (some ⟨g, 0, none⟩) (T.length - at_) cv)) (by go_simp) ?_
                     obtain ⟨wz, ez, hs⟩ := hs.setEx 1 (.slice (some ⟨g, 0, none⟩) (T.length - at_) cv)
                     rw [ez]
                     clear ez q1 z1
                     refine hK.out _ _ (trivial) (fun hHeld => ?_)
                     clear hK KK
                     try simp only [Act.put, sA, sB, sC]
                     refine wpAnyH_done (by kernel_rfl) ?_ _
                     clear hHeld
                     go_wp2_with fail
                     simp only [Exit.jumps]
                     go_ret
                     exact ⟨(.slice (some ⟨g, 0, none⟩) (T.length - at_) cv), q, cap, acc, rfl, HQC.out, by rw [HS1.out], HLIT.out, HACC2.out, by rw [HS1.out]; simp only; rw [HVN.out, if_neg (by simp), List.length_drop]; exact (feed_cut HAT.out hs.p1).p1⟩
           · have z1 := hs.rawCell 1
             simp at z1
             go_simp
             refine hK.out _ _ (trivial) (fun hHeld => ?_)
             clear hK KK
             try simp only [Act.put, sA, sB, sC]
             clear z1
             refine tQ 14 ⟨some 81, .slice 22 (.tmp 79) (some (.tmp 80)) none none, 22, "scan.go:56", #[.mk 12 .data, .mk 13 .data], none⟩ ?_; simp only [Act.put, sA, sB, sC]
             refine wpAnyH_ready (rs := [4, 8]) (by kernel_rfl) (by simp) (AllReadyH.cons (o := ⟨some 71, .load 22 (.tmp 70), 22, "scan.go:56", #[.mk 3 .data], none⟩) rfl (fun KK hK => ?_) (AllReadyH.cons (o := ⟨some 75, .load 22 (.tmp 74), 22, "scan.go:56", #[.mk 7 .data], none⟩) rfl (fun KK hK => ?_) AllReadyH.nil))
             · have z1 := hs.rawCell 1
               simp at z1
               go_simp
               refine hK.out _ _ (trivial) (fun hHeld => ?_)
               clear hK KK
               try simp only [Act.put, sA, sB, sC]
               clear z1
               refine wpAnyH_ready (rs := [8]) (by kernel_rfl) (by simp) (AllReadyH.cons (o := ⟨some 75, .load 22 (.tmp 74), 22, "scan.go:56", #[.mk 7 .data], none⟩) rfl (fun KK hK => ?_) AllReadyH.nil)
               · have z1 := hs.rawCell 1
                 simp at z1
                 go_simp
                 refine hK.out _ _ (trivial) (fun hHeld => ?_)
                 clear hK KK
                 try simp only [Act.put, sA, sB, sC]
                 clear z1
                 refine wpAnyH_ready (rs := [15]) (by kernel_rfl) (by simp) (AllReadyH.cons (o := ⟨some 82, .call { callee := .builtin .copy, args := #[.tmp 75, .tmp 81], argTypes := #[22, 22] }, 3, "scan.go:56", #[.mk 8 .data, .mk 14 .data], none⟩) rfl (fun KK hK => ?_) AllReadyH.nil)
                 · rw [if_pos (by rfl)]
                   refine op_copyrow (.tmp 75) (.tmp 81) rfl g cv T at_ HAT.out (by rfl) _ _ _ (by rfl) HSL.out HSP.out hs.p1 (fun w' h => ?_)
                   have hs := h
                   clear h
                   refine hK.out _ _ (trivial) (fun hHeld => ?_)
                   clear hK KK
                   try simp only [Act.put, sA, sB, sC]
                   refine tQ 16 ⟨some 83, .slice 22 (.tmp 71) none (some (.tmp 82)) none, 22, "scan.go:56", #[.mk 4 .data, .mk 15 .data], none⟩ ?_; simp only [Act.put, sA, sB, sC]
                   refine tQ 17 ⟨some 84, .nilCheck (.tmp 67), 0, "scan.go:56", #[.mk 0 .data, .mk 0 .phase, .mk 1 .phase, .mk 2 .phase, .mk 3 .phase, .mk 4 .phase, .mk 5 .phase, .mk 6 .phase, .mk 7 .phase, .mk 8 .phase, .mk 9 .phase, .mk 10 .phase, .mk 11 .phase, .mk 12 .phase, .mk 13 .phase, .mk 14 .phase, .mk 15 .phase, .mk 16 .phase], none⟩ ?_; simp only [Act.put, sA, sB, sC]
                   refine tQ 18 ⟨some 85, .fieldAddr 52 (.tmp 84) 1, 0, "scan.go:56", #[.mk 17 .data, .mk 0 .phase, .mk 1 .phase, .mk 2 .phase, .mk 3 .phase, .mk 4 .phase, .mk 5 .phase, .mk 6 .phase, .mk 7 .phase, .mk 8 .phase, .mk 9 .phase, .mk 10 .phase, .mk 11 .phase, .mk 12 .phase, .mk 13 .phase, .mk 14 .phase, .mk 15 .phase, .mk 16 .phase], none⟩ ?_; simp only [Act.put, sA, sB, sC]
                   refine wpAnyH_ready (rs := [19]) (by kernel_rfl) (by simp) (AllReadyH.cons (o := ⟨none, .store 22 (.tmp 85) (.tmp 83), 0, "scan.go:56", #[.mk 18 .data, .mk 16 .data, .mk 15 .chain, .mk 0 .phase, .mk 1 .phase, .mk 2 .phase, .mk 3 .phase, .mk 4 .phase, .mk 5 .phase, .mk 6 .phase, .mk 7 .phase, .mk 8 .phase, .mk 9 .phase, .mk 10 .phase, .mk 11 .phase, .mk 12 .phase, .mk 13 .phase, .mk 14 .phase, .mk 15 .phase, .mk 16 .phase], none⟩) rfl (fun KK hK => ?_) AllReadyH.nil)
                   · have hs := hs.p1
                     have q1 := hs.rawFree 1
                     have z1 := hs.rawCell 1
                     simp at z1
                     rw [if_pos (by rfl)]
                     refine op_skip (w' := w'.setCell ⟨sb, 1, none⟩ (.slice (some ⟨g, 0, none⟩) (T.length - at_) cv)) (by go_simp) ?_
                     obtain ⟨wz, ez, hs⟩ := hs.setEx 1 (.slice (some ⟨g, 0, none⟩) (T.length - at_) cv)
                     rw [ez]
                     clear ez q1 z1
                     refine hK.out _ _ (trivial) (fun hHeld => ?_)
                     clear hK KK
                     try simp only [Act.put, sA, sB, sC]
                     refine wpAnyH_done (by kernel_rfl) ?_ _
                     clear hHeld
                     go_wp2_with fail
                     simp only [Exit.jumps]
                     go_ret
                     exact ⟨(.slice (some ⟨g, 0, none⟩) (T.length - at_) cv), q, cap, acc, rfl, HQC.out, by rw [HS1.out], HLIT.out, HACC2.out, by rw [HS1.out]; simp only; rw [HVN.out, if_neg (by simp), List.length_drop]; exact (feed_cut HAT.out hs.p1).p1⟩
             · have z1 := hs.rawCell 1
               simp at z1
               go_simp
               refine hK.out _ _ (trivial) (fun hHeld => ?_)
               clear hK KK
               try simp only [Act.put, sA, sB, sC]
               clear z1
               refine wpAnyH_ready (rs := [4, 15]) (by kernel_rfl) (by simp) (AllReadyH.cons (o := ⟨some 71, .load 22 (.tmp 70), 22, "scan.go:56", #[.mk 3 .data], none⟩) rfl (fun KK hK => ?_) (AllReadyH.cons (o := ⟨some 82, .call { callee := .builtin .copy, args := #[.tmp 75, .tmp 81], argTypes := #[22, 22] }, 3, "scan.go:56", #[.mk 8 .data, .mk 14 .data], none⟩) rfl (fun KK hK => ?_) AllReadyH.nil))
               · have z1 := hs.rawCell 1
                 simp at z1
                 go_simp
                 refine hK.out _ _ (trivial) (fun hHeld => ?_)
                 clear hK KK
                 try simp only [Act.put, sA, sB, sC]
                 clear z1
                 refine wpAnyH_ready (rs := [15]) (by kernel_rfl) (by simp) (AllReadyH.cons (o := ⟨some 82, .call { callee := .builtin .copy, args := #[.tmp 75, .tmp 81], argTypes := #[22, 22] }, 3, "scan.go:56", #[.mk 8 .data, .mk 14 .data], none⟩) rfl (fun KK hK => ?_) AllReadyH.nil)
                 · rw [if_pos (by rfl)]
                   refine op_copyrow (.tmp 75) (.tmp 81) rfl g cv T at_ HAT.out (by rfl) _ _ _ (by rfl) HSL.out HSP.out hs.p1 (fun w' h => ?_)
                   have hs := h
                   clear h
                   refine hK.out _ _ (trivial) (fun hHeld => ?_)
                   clear hK KK
                   try simp only [Act.put, sA, sB, sC]
                   refine tQ 16 ⟨some 83, .slice 22 (.tmp 71) none (some (.tmp 82)) none, 22, "scan.go:56", #[.mk 4 .data, .mk 15 .data], none⟩ ?_; simp only [Act.put, sA, sB, sC]
                   refine tQ 17 ⟨some 84, .nilCheck (.tmp 67), 0, "scan.go:56", #[.mk 0 .data, .mk 0 .phase, .mk 1 .phase, .mk 2 .phase, .mk 3 .phase, .mk 4 .phase, .mk 5 .phase, .mk 6 .phase, .mk 7 .phase, .mk 8 .phase, .mk 9 .phase, .mk 10 .phase, .mk 11 .phase, .mk 12 .phase, .mk 13 .phase, .mk 14 .phase, .mk 15 .phase, .mk 16 .phase], none⟩ ?_; simp only [Act.put, sA, sB, sC]
                   refine tQ 18 ⟨some 85, .fieldAddr 52 (.tmp 84) 1, 0, "scan.go:56", #[.mk 17 .data, .mk 0 .phase, .mk 1 .phase, .mk 2 .phase, .mk 3 .phase, .mk 4 .phase, .mk 5 .phase, .mk 6 .phase, .mk 7 .phase, .mk 8 .phase, .mk 9 .phase, .mk 10 .phase, .mk 11 .phase, .mk 12 .phase, .mk 13 .phase, .mk 14 .phase, .mk 15 .phase, .mk 16 .phase], none⟩ ?_; simp only [Act.put, sA, sB, sC]
                   refine wpAnyH_ready (rs := [19]) (by kernel_rfl) (by simp) (AllReadyH.cons (o := ⟨none, .store 22 (.tmp 85) (.tmp 83), 0, "scan.go:56", #[.mk 18 .data, .mk 16 .data, .mk 15 .chain, .mk 0 .phase, .mk 1 .phase, .mk 2 .phase, .mk 3 .phase, .mk 4 .phase, .mk 5 .phase, .mk 6 .phase, .mk 7 .phase, .mk 8 .phase, .mk 9 .phase, .mk 10 .phase, .mk 11 .phase, .mk 12 .phase, .mk 13 .phase, .mk 14 .phase, .mk 15 .phase, .mk 16 .phase], none⟩) rfl (fun KK hK => ?_) AllReadyH.nil)
                   · have hs := hs.p1
                     have q1 := hs.rawFree 1
                     have z1 := hs.rawCell 1
                     simp at z1
                     rw [if_pos (by rfl)]
                     refine op_skip (w' := w'.setCell ⟨sb, 1, none⟩ (.slice (some ⟨g, 0, none⟩) (T.length - at_) cv)) (by go_simp) ?_
                     obtain ⟨wz, ez, hs⟩ := hs.setEx 1 (.slice (some ⟨g, 0, none⟩) (T.length - at_) cv)
                     rw [ez]
                     clear ez q1 z1
                     refine hK.out _ _ (trivial) (fun hHeld => ?_)
                     clear hK KK
                     try simp only [Act.put, sA, sB, sC]
                     refine wpAnyH_done (by kernel_rfl) ?_ _
                     clear hHeld
                     go_wp2_with fail
                     simp only [Exit.jumps]
                     go_ret
                     exact ⟨(.slice (some ⟨g, 0, none⟩) (T.length - at_) cv), q, cap, acc, rfl, HQC.out, by rw [HS1.out], HLIT.out, HACC2.out, by rw [HS1.out]; simp only; rw [HVN.out, if_neg (by simp), List.length_drop]; exact (feed_cut HAT.out hs.p1).p1⟩
               · rw [if_pos (by rfl)]
                 refine op_copyrow (.tmp 75) (.tmp 81) rfl g cv T at_ HAT.out (by rfl) _ _ _ (by rfl) HSL.out HSP.out hs.p1 (fun w' h => ?_)
                 have hs := h
                 clear h
                 refine hK.out _ _ (trivial) (fun hHeld => ?_)
                 clear hK KK
                 try simp only [Act.put, sA, sB, sC]
                 refine wpAnyH_ready (rs := [4]) (by kernel_rfl) (by simp) (AllReadyH.cons (o := ⟨some 71, .load 22 (.tmp 70), 22, "scan.go:56", #[.mk 3 .data], none⟩) rfl (fun KK hK => ?_) AllReadyH.nil)
                 · have z1 := hs.p1.rawCell 1
                   simp at z1
                   go_simp
                   refine hK.out _ _ (trivial) (fun hHeld => ?_)
                   clear hK KK
                   try simp only [Act.put, sA, sB, sC]
                   clear z1
                   refine tQ 16 ⟨some 83, .slice 22 (.tmp 71) none (some (.tmp 82)) none, 22, "scan.go:56", #[.mk 4 .data, .mk 15 .data], none⟩ ?_; simp only [Act.put, sA, sB, sC]
                   refine tQ 17 ⟨some 84, .nilCheck (.tmp 67), 0, "scan.go:56", #[.mk 0 .data, .mk 0 .phase, .mk 1 .phase, .mk 2 .phase, .mk 3 .phase, .mk 4 .phase, .mk 5 .phase, .mk 6 .phase, .mk 7 .phase, .mk 8 .phase, .mk 9 .phase, .mk 10 .phase, .mk 11 .phase, .mk 12 .phase, .mk 13 .phase, .mk 14 .phase, .mk 15 .phase, .mk 16 .phase], none⟩ ?_; simp only [Act.put, sA, sB, sC]
                   refine tQ 18 ⟨some 85, .fieldAddr 52 (.tmp 84) 1, 0, "scan.go:56", #[.mk 17 .data, .mk 0 .phase, .mk 1 .phase, .mk 2 .phase, .mk 3 .phase, .mk 4 .phase, .mk 5 .phase, .mk 6 .phase, .mk 7 .phase, .mk 8 .phase, .mk 9 .phase, .mk 10 .phase, .mk 11 .phase, .mk 12 .phase, .mk 13 .phase, .mk 14 .phase, .mk 15 .phase, .mk 16 .phase], none⟩ ?_; simp only [Act.put, sA, sB, sC]
                   refine wpAnyH_ready (rs := [19]) (by kernel_rfl) (by simp) (AllReadyH.cons (o := ⟨none, .store 22 (.tmp 85) (.tmp 83), 0, "scan.go:56", #[.mk 18 .data, .mk 16 .data, .mk 15 .chain, .mk 0 .phase, .mk 1 .phase, .mk 2 .phase, .mk 3 .phase, .mk 4 .phase, .mk 5 .phase, .mk 6 .phase, .mk 7 .phase, .mk 8 .phase, .mk 9 .phase, .mk 10 .phase, .mk 11 .phase, .mk 12 .phase, .mk 13 .phase, .mk 14 .phase, .mk 15 .phase, .mk 16 .phase], none⟩) rfl (fun KK hK => ?_) AllReadyH.nil)
                   · have hs := hs.p1
                     have q1 := hs.rawFree 1
                     have z1 := hs.rawCell 1
                     simp at z1
                     rw [if_pos (by rfl)]
                     refine op_skip (w' := w'.setCell ⟨sb, 1, none⟩ (.slice (some ⟨g, 0, none⟩) (T.length - at_) cv)) (by go_simp) ?_
                     obtain ⟨wz, ez, hs⟩ := hs.setEx 1 (.slice (some ⟨g, 0, none⟩) (T.length - at_) cv)
                     rw [ez]
                     clear ez q1 z1
                     refine hK.out _ _ (trivial) (fun hHeld => ?_)
                     clear hK KK
                     try simp only [Act.put, sA, sB, sC]
                     refine wpAnyH_done (by kernel_rfl) ?_ _
                     clear hHeld
                     go_wp2_with fail
                     simp only [Exit.jumps]
                     go_ret
                     exact ⟨(.slice (some ⟨g, 0, none⟩) (T.length - at_) cv), q, cap, acc, rfl, HQC.out, by rw [HS1.out], HLIT.out, HACC2.out, by rw [HS1.out]; simp only; rw [HVN.out, if_neg (by simp), List.length_drop]; exact (feed_cut HAT.out hs.p1).p1⟩

end Go.Proofs.YtngojlinfdokpaaGreat
