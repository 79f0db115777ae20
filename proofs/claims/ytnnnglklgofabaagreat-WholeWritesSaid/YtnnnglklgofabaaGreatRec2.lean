/- A text. -/
import Derived.Test.YtnnnglklgofabaaGreatRec1
namespace Go.Proofs.YtnnnglklgofabaaGreat
open Go.RowKit

theorem put_ok (a b : Bs) : (⟨a, 0⟩ : OutS).put b = ⟨a ++ b, 0⟩ := rfl
set_option maxHeartbeats 1000000 in
set_option maxRecDepth 100000 in
theorem rec_putFields (p : Nat) (x : RecS) (v : Value) (hx : x.R) (ho : recOk x = 0) (hs : x.sum ≤ 1000000) {W0 w : World} {K : Know} {L : List Res} (hk : K.has (Know.flat RHdr v 3 x.hdrs)) (h : St W0 w K (.out p ⟨[], 0⟩ :: L)) :
  Calls Tryz.prog 155 #[outPtr p, .agg #[.int .i64 x.time, .int .i64 x.off, .bool x.key.null, .string (bb x.key.data), .bool x.val.null, .string (bb x.val.data), v]] w fun en w' => en = .returned (.tuple #[]) ∧ St W0 w' K (.out p ⟨recF x, 0⟩ :: L) := by
 have H := Lib.hid (h.allocRaw #[.int .i64 x.time, .int .i64 x.off, .bool x.key.null, .string (bb x.key.data), .bool x.val.null, .string (bb x.val.data), v] 119).p1; have HK := Lib.hid hk; obtain ⟨ho, hr⟩ := recOk_zero ho; have hle := recF_le x hx hs; unfold RecS.allRight at hr; rw [Bool.and_eq_true, Bool.and_eq_true] at hr; have hsm := hs; unfold RecS.sum at hsm; have hsl := hsum_le x.hdrs; have HT := Lib.hid hx.1; have HO := Lib.hid hx.2; obtain ⟨s2, h2⟩ : ∃ s, [0] ++ encI x.time = s := ⟨_, rfl⟩; obtain ⟨s3, h3⟩ : ∃ s, s2 ++ encI x.off = s := ⟨_, rfl⟩; obtain ⟨s4, h4⟩ : ∃ s, s3 ++ encV x.key = s := ⟨_, rfl⟩; obtain ⟨s5, h5⟩ : ∃ s, s4 ++ encV x.val = s := ⟨_, rfl⟩; have h6 : s5 ++ encHs x.hdrs = recF x := by rw [← h5, ← h4, ← h3, ← h2]; unfold recF; simp only [List.append_assoc]
 obtain ⟨s6, hs6⟩ : ∃ s, recF x = s := ⟨_, rfl⟩; rw [hs6] at h6 hle ⊢; have l6 := congrArg List.length h6; have l5 := congrArg List.length h5; have l4 := congrArg List.length h4; have l3 := congrArg List.length h3; have l2 := congrArg List.length h2; simp only [List.length_append, List.length_cons, List.length_nil] at l2 l3 l4 l5 l6; have E1 := Lib.hid (show (⟨[], 0⟩ : OutS).put [0] = ⟨[0], 0⟩ from rfl); have E2 := Lib.hid (show (⟨[0], 0⟩ : OutS).putLong x.time = ⟨s2, 0⟩ from by rw [← h2]; rfl); have E3 := Lib.hid (show (⟨s2, 0⟩ : OutS).putInt x.off = ⟨s3, 0⟩ from by rw [putInt_len (by omega) (by omega), put_ok, h3]); have E4 := Lib.hid (show (⟨s3, 0⟩ : OutS).putVaried x.key = ⟨s4, 0⟩ from by rw [putVaried_right hr.1.1 (by omega), put_ok, h4]); have E5 := Lib.hid (show (⟨s4, 0⟩ : OutS).putVaried x.val = ⟨s5, 0⟩ from by rw [putVaried_right hr.1.2 (by omega), put_ok, h5]); have E6 := Lib.hid (show (⟨s5, 0⟩ : OutS).putHdrs x.hdrs = ⟨s6, 0⟩ from by rw [putHdrs_right hr.2 (by omega), put_ok, h6]); have K1 := Lib.hid (show (⟨[0], 0⟩ : OutS).ok 16 by unfold OutS.ok; simp); have K2 := Lib.hid (show (⟨s2, 0⟩ : OutS).ok 16 by unfold OutS.ok; simp only; omega); have K3 := Lib.hid (show (⟨s3, 0⟩ : OutS).ok (x.key.data.length + 16) by unfold OutS.ok; simp only; omega); have K4 := Lib.hid (show (⟨s4, 0⟩ : OutS).ok (x.val.data.length + 16) by unfold OutS.ok; simp only; omega); have K5 := Lib.hid (show (⟨s5, 0⟩ : OutS).ok (hsize x.hdrs + 16) by unfold OutS.ok; simp only; omega); have HLL := Lib.hid (show x.hdrs.length ≤ 140737488355328 by omega); have t1 : True := trivial; have t2 : True := trivial; have t3 : True := trivial; have t4 : True := trivial; have t5 : True := trivial; have t6 : True := trivial; clear h hk hx ho hr hs hle hsm hsl h2 h3 h4 h5 h6 hs6 l2 l3 l4 l5 l6; go_enter Tryz.func155, Tryz.ntmps155
 go_wp2_with (first
  | (go_at_call 67; have _t := t1; clear _t; refine (so_byte _ _ 0 H.out (by unfold OutS.ok; decide)).mono ?_; rw [E1.out]; rintro e wn ⟨rfl, h⟩; replace H := Lib.hid h; clear h t1; obtain ⟨c0, c1, c2, c3, c4, c5, c6, f0, f1, f2, f3, f4, f5, f6⟩ := raw7 (b := w.heap.size) H.out.p1)
  | (go_at_call 175; have _t := t2; clear _t; refine (sv_putLong _ _ _ HT.out H.out K1.out).mono ?_; rw [E2.out]; rintro e wn ⟨rfl, h⟩; replace H := Lib.hid h; clear h t2; obtain ⟨c0, c1, c2, c3, c4, c5, c6, f0, f1, f2, f3, f4, f5, f6⟩ := raw7 (b := w.heap.size) H.out.p1)
  | (go_at_call 176; have _t := t3; clear _t; refine (sv_putInt _ _ _ HO.out H.out K2.out).mono ?_; rw [E3.out]; rintro e wn ⟨rfl, h⟩; replace H := Lib.hid h; clear h t3; obtain ⟨c0, c1, c2, c3, c4, c5, c6, f0, f1, f2, f3, f4, f5, f6⟩ := raw7 (b := w.heap.size) H.out.p1)
  | (go_at_call 177; have _t := t4; clear _t; refine (blob_putVaried _ _ x.key H.out K3.out).mono ?_; rw [E4.out]; rintro e wn ⟨rfl, h⟩; replace H := Lib.hid h; clear h t4; obtain ⟨c0, c1, c2, c3, c4, c5, c6, f0, f1, f2, f3, f4, f5, f6⟩ := raw7 (b := w.heap.size) H.out.p1)
  | (go_at_call 177; have _t := t5; clear _t; refine (blob_putVaried _ _ x.val H.out K4.out).mono ?_; rw [E5.out]; rintro e wn ⟨rfl, h⟩; replace H := Lib.hid h; clear h t5; obtain ⟨c0, c1, c2, c3, c4, c5, c6, f0, f1, f2, f3, f4, f5, f6⟩ := raw7 (b := w.heap.size) H.out.p1)
  | (go_at_call 178; have _t := t6; clear _t; refine (header_write _ _ _ x.hdrs HLL.out HK.out H.out K5.out).mono ?_; rw [E6.out]; rintro e wn ⟨rfl, h⟩; replace H := Lib.hid h; clear h t6; obtain ⟨c0, c1, c2, c3, c4, c5, c6, f0, f1, f2, f3, f4, f5, f6⟩ := raw7 (b := w.heap.size) H.out.p1))
 go_end0; exact ⟨rfl, H.out.p1.drop⟩

theorem rec_rightZ (x : RecS) (v : Value) (he : recOk x = 0) (hl : x.hdrs.length ≤ 1000000) {W0 w : World} {K : Know} {L : List Res} (hk : K.has (Know.flat RHdr v 3 x.hdrs)) (h : St W0 w K L) :
 Calls Tryz.prog 122 #[.agg #[.int .i64 x.time, .int .i64 x.off, .bool x.key.null, .string (bb x.key.data), .bool x.val.null, .string (bb x.val.data), v]] w fun en w' => en = .returned (.int .i64 0) ∧ St W0 w' K L := rec_right x v 0 he hl hk h

set_option maxHeartbeats 1000000 in
set_option maxRecDepth 100000 in
theorem rec_write (p : Nat) (o o' : OutS) (x : RecS) (v : Value) (hx : x.R) (hs : x.sum ≤ 1000000) (hoo : o.putRec x = o') (hro : o.ok 40000000) {W0 w : World} {K : Know} {L : List Res} (hk : K.has (Know.flat RHdr v 3 x.hdrs)) (h : St W0 w K (.out p o :: L)) :
   Calls Tryz.prog 125 #[outPtr p, .agg #[.int .i64 x.time, .int .i64 x.off, .bool x.key.null, .string (bb x.key.data), .bool x.val.null, .string (bb x.val.data), v]] w fun en w' => en = .returned (.tuple #[]) ∧ St W0 w' K (.out p o' :: L) := by
 have H := Lib.hid (h.allocRaw #[.int .i64 x.time, .int .i64 x.off, .bool x.key.null, .string (bb x.key.data), .bool x.val.null, .string (bb x.val.data), v] 119).p1; have HK := Lib.hid hk; have HL := Lib.hid (show x.hdrs.length ≤ 1000000 by have := hsum_le x.hdrs; unfold RecS.sum at hs; omega); unfold OutS.putRec at hoo
 by_cases he : recOk x = 0
 · rw [if_pos he] at hoo; have hle := recF_le x hx hs; have HX := Lib.hid hx; have HE := Lib.hid he; have HS := Lib.hid hs; have ET := Lib.hid (show (⟨recF x, 0⟩ : OutS).text = (recF x, 0) from rfl); have EP := Lib.hid (show o.putName (recF x) = o' by unfold OutS.putName; rw [putVaried_right rfl (by simp only; omega)]; exact hoo); have KO := Lib.hid (show o.ok ((recF x).length + 16) from OutS.ok_mono hro (by omega)); obtain ⟨s, hsd⟩ : ∃ s, recF x = s := ⟨_, rfl⟩; rw [hsd] at ET EP KO; have HSD := Lib.hid hsd; clear h hk he hoo hle hx hs hro hsd; go_enter Tryz.func125, Tryz.ntmps125
   go_wp2_with (first
    | (go_at_call 122; refine (rec_rightZ x v HE.out HL.out HK.out H.out).mono ?_; rintro e wn ⟨rfl, h⟩; replace H := Lib.hid h; have HA := Lib.hid (h.p1.allocOut); clear h; obtain ⟨c0, c1, c2, c3, c4, c5, c6, f0, f1, f2, f3, f4, f5, f6⟩ := raw7 (b := w.heap.size) HA.out.p1)
    | (go_at_call 155; refine (rec_putFields _ x v HX.out HE.out HS.out HK.out HA.out).mono ?_; rw [HSD.out]; rintro e wn ⟨rfl, h⟩; replace H := Lib.hid h; clear h)
    | (go_at_call 9; refine (so_text _ _ H.out).mono ?_; rw [ET.out]; rintro e wn ⟨rfl, h⟩; replace H := Lib.hid h.p2; clear h)
    | (go_at_call 156; refine (blob_putName _ _ s H.out KO.out).mono ?_; rw [EP.out]; rintro e wn ⟨rfl, h⟩; replace H := Lib.hid h; clear h))
   go_end0; exact ⟨rfl, H.out.p2.drop.p1.drop⟩
 · rw [if_neg he] at hoo; obtain ⟨e, hee⟩ : ∃ e, recOk x = e := ⟨_, rfl⟩; rw [hee] at he hoo; have hb : (e != 0) = true := by rw [bne_iff_ne]; exact he
   have HE := Lib.hid hee; have EF := Lib.hid hoo; clear h hk he hoo hx hs hro hee; go_enter Tryz.func125, Tryz.ntmps125
   go_wp2_with (first
    | (go_at_call 122; refine (rec_right x v e HE.out HL.out HK.out H.out).mono ?_; rintro e wn ⟨rfl, h⟩; replace H := Lib.hid h; clear h)
    | (go_at_call 30; refine (so_fail _ _ _ H.out).mono ?_; rw [EF.out]; rintro e wn ⟨rfl, h⟩; replace H := Lib.hid h; clear h))
   refine bodyPost_ret (results_none rfl _ _ _) rfl ⟨rfl, H.out.p1.drop⟩
end Go.Proofs.YtnnnglklgofabaaGreat
