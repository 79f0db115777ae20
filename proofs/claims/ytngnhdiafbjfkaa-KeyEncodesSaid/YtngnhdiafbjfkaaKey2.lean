/- Contracts of package key. -/
import Derived.Test.YtngnhdiafbjfkaaKeyP
namespace Go.Proofs.Ytngnhdiafbjfkaa
open Go.RowKit

set_option maxHeartbeats 1000000 in
set_option maxRecDepth 100000 in
theorem key_right (s : Bs) (hs : s.length ≤ 140737488355328) {W0 w : World} {K : Know} {L : List Res} (h : St W0 w K L) :
    Calls Try.prog 30 #[.string (bb s)] w fun en w' => en = .returned (.bool (keyRight s)) ∧ St W0 w' K L := by
  have H := Lib.hid h
  clear h
  cases s with
  | nil =>
    go_enter Try.func30, Try.ntmps30
    go_wp2
    go_ret
    exact ⟨rfl, H.out⟩
  | cons c t =>
    have HS := Lib.hid hs
    clear hs
    go_enter Try.func30, Try.ntmps30
    go_wp2
    go_ret
    refine ⟨ret_bool ?_, H.out⟩
    unfold keyRight
    rw [Bool.eq_iff_iff]
    simp
    omega

set_option maxHeartbeats 1000000 in
set_option maxRecDepth 100000 in
theorem key_encode (s : Bs) (hs : s.length ≤ 40000) {W0 w : World} {K : Know} {L : List Res} (h : St W0 w K L) :
    Calls Try.prog 29 #[.string (bb s)] w fun en w' => en = .returned (.tuple #[.string (bb (keyEnc s).1), .int .i64 (keyEnc s).2]) ∧ St W0 w' K L := by
  have H := Lib.hid h
  have HS := Lib.hid (show s.length ≤ 140737488355328 by omega)
  have HS2 := Lib.hid hs
  clear h hs
  cases hr : keyRight s
  · have e : keyEnc s = ([], 4) := by unfold keyEnc; rw [hr]; rfl
    rw [e]
    have ER := Lib.hid hr
    clear e hr
    go_enter Try.func29, Try.ntmps29
    go_wp2_with (go_at_call 30; refine (key_right s HS.out (by first | (first | with_reducible exact H.out | with_reducible exact H.out.p1 | with_reducible exact H.out.p2 | with_reducible exact H.out.p3 | with_reducible exact H.out.p4 | with_reducible exact H.out.p5) | ((repeat first | with_reducible refine St.drewN ?_ _ | with_reducible refine St.drew ?_ | with_reducible refine St.alloc ?_ _); first | with_reducible exact H.out | with_reducible exact H.out.p1 | with_reducible exact H.out.p2 | with_reducible exact H.out.p3 | with_reducible exact H.out.p4 | with_reducible exact H.out.p5))).mono ?_; (repeat first | rw [ER.out]); rintro e wn ⟨rfl, h⟩; replace H := Lib.hid h; clear h)
    go_ret2
    exact ⟨rfl, H.out⟩
  · have e : keyEnc s = (keyBytes s, 0) := by unfold keyEnc; rw [hr]; rfl
    rw [e]
    have hle : s.length ≤ 32767 := by unfold keyRight at hr; simp at hr; exact hr.2
    have ER := Lib.hid hr
    have E1 := Lib.hid (show (⟨[], 0⟩ : OutS).int 0 2 = ⟨beBytes 0 2, 0⟩ from by decide +kernel)
    have E2 := Lib.hid (show (⟨beBytes 0 2, 0⟩ : OutS).putText s = ⟨keyBytes s, 0⟩ from by
      unfold OutS.putText OutS.putFixed OutS.int OutS.putData
      rw [if_pos (fits_len2 s hle)]
      show (((⟨beBytes 0 2, 0⟩ : OutS).put _).put s) = _
      rw [OutS.put_put]
      unfold keyBytes
      rw [List.append_assoc]
      rfl)
    have E3 := Lib.hid (show (⟨keyBytes s, 0⟩ : OutS).text = (keyBytes s, 0) from rfl)
    clear e hr hle
    go_enter Try.func29, Try.ntmps29
    go_wp2_with (first
      | (go_at_call 30; refine (key_right s HS.out (by first | (first | with_reducible exact H.out | with_reducible exact H.out.p1 | with_reducible exact H.out.p2 | with_reducible exact H.out.p3 | with_reducible exact H.out.p4 | with_reducible exact H.out.p5) | ((repeat first | with_reducible refine St.drewN ?_ _ | with_reducible refine St.drew ?_ | with_reducible refine St.alloc ?_ _); first | with_reducible exact H.out | with_reducible exact H.out.p1 | with_reducible exact H.out.p2 | with_reducible exact H.out.p3 | with_reducible exact H.out.p4 | with_reducible exact H.out.p5))).mono ?_; (repeat first | rw [ER.out]); rintro e wn ⟨rfl, h⟩; replace H := Lib.hid h; clear h; replace H := Lib.hid H.out.allocOut)
      | (go_at_call 38; refine (so_int _ _ 0 2 (by decide) (by first | (first | with_reducible exact H.out | with_reducible exact H.out.p1 | with_reducible exact H.out.p2 | with_reducible exact H.out.p3 | with_reducible exact H.out.p4 | with_reducible exact H.out.p5) | ((repeat first | with_reducible refine St.drewN ?_ _ | with_reducible refine St.drew ?_ | with_reducible refine St.alloc ?_ _); first | with_reducible exact H.out | with_reducible exact H.out.p1 | with_reducible exact H.out.p2 | with_reducible exact H.out.p3 | with_reducible exact H.out.p4 | with_reducible exact H.out.p5)) (by simp [OutS.ok])).mono ?_; (repeat first | rw [E1.out]); rintro e wn ⟨rfl, h⟩; replace H := Lib.hid h; clear h)
      | (go_at_call 45; refine (blob_putText _ _ s (by first | (first | with_reducible exact H.out | with_reducible exact H.out.p1 | with_reducible exact H.out.p2 | with_reducible exact H.out.p3 | with_reducible exact H.out.p4 | with_reducible exact H.out.p5) | ((repeat first | with_reducible refine St.drewN ?_ _ | with_reducible refine St.drew ?_ | with_reducible refine St.alloc ?_ _); first | with_reducible exact H.out | with_reducible exact H.out.p1 | with_reducible exact H.out.p2 | with_reducible exact H.out.p3 | with_reducible exact H.out.p4 | with_reducible exact H.out.p5)) (by have := HS2.out; simp only [OutS.ok, beBytes_length]; omega)).mono ?_; (repeat first | rw [E2.out]); rintro e wn ⟨rfl, h⟩; replace H := Lib.hid h; clear h)
      | (go_at_call 18; refine (so_text _ _ (by first | (first | with_reducible exact H.out | with_reducible exact H.out.p1 | with_reducible exact H.out.p2 | with_reducible exact H.out.p3 | with_reducible exact H.out.p4 | with_reducible exact H.out.p5) | ((repeat first | with_reducible refine St.drewN ?_ _ | with_reducible refine St.drew ?_ | with_reducible refine St.alloc ?_ _); first | with_reducible exact H.out | with_reducible exact H.out.p1 | with_reducible exact H.out.p2 | with_reducible exact H.out.p3 | with_reducible exact H.out.p4 | with_reducible exact H.out.p5))).mono ?_; (repeat first | rw [E3.out]); rintro e wn ⟨rfl, h⟩; replace H := Lib.hid h; clear h))
    go_ret2
    exact ⟨rfl, H.out.drop⟩

theorem keyDec_tuple (s : Bs) : Value.tuple #[.string (bb (keyDec s).1), .int .i64 (keyDec s).2] = if (keyJ s).close.err = 0 then .tuple #[.string (bb (keyI s).text.1), .int .i64 0] else .tuple #[.string (bb []), .int .i64 (keyJ s).close.err] := by
  unfold keyDec; split <;> rfl
set_option maxHeartbeats 1000000 in
set_option maxRecDepth 100000 in
theorem key_decode (s : Bs) (hs : s.length ≤ 40100) {W0 w : World} {K : Know} {L : List Res} (h : St W0 w K L) :
    Calls Try.prog 31 #[.string (bb s)] w fun en w' => en = .returned (.tuple #[.string (bb (keyDec s).1), .int .i64 (keyDec s).2]) ∧ St W0 w' K L := by
  have H := Lib.hid h
  have HS := Lib.hid (show s.length ≤ 140737488355328 by omega)
  clear h hs
  rw [keyDec_tuple]
  obtain ⟨a, ha⟩ : ∃ a, keyA s = a := ⟨_, rfl⟩
  have hI : keyI s = if a.1 = 0 then a.2 else a.2.fail 7 := by unfold keyI; rw [ha]
  obtain ⟨i, hi⟩ : ∃ i, keyI s = i := ⟨_, rfl⟩
  rw [hi] at hI
  obtain ⟨t, ht⟩ : ∃ t, i.text = t := ⟨_, rfl⟩
  have hJ : keyJ s = if t.1 = [] then t.2.fail 4 else t.2 := by unfold keyJ; rw [hi, ht]
  obtain ⟨j, hj⟩ : ∃ j, keyJ s = j := ⟨_, rfl⟩
  rw [hj] at hJ
  obtain ⟨c, hc⟩ : ∃ c, j.close = c := ⟨_, rfl⟩
  rw [hj, hc, hi, ht]
  have EA := Lib.hid (show (⟨s, 0, 0⟩ : InS).int 2 = a from ha)
  have ET := Lib.hid ht
  have EC := Lib.hid hc
  clear ha hi ht hj hc
  by_cases h1 : a.1 = 0 <;> by_cases h2 : t.1 = [] <;> by_cases h3 : c.err = 0
  all_goals
    first | rw [if_pos h1] at hI | rw [if_neg h1] at hI
    first | rw [if_pos h2] at hJ | rw [if_neg h2] at hJ
    first | rw [if_pos h3] | rw [if_neg h3]
    have b1 : (a.1 != 0) = decide (a.1 ≠ 0) := by by_cases h : a.1 = 0 <;> simp [h]
    have b2 : t.1.isEmpty = decide (t.1 = []) := by cases t.1 <;> simp
    have b3 : (c.err != 0) = decide (c.err ≠ 0) := by by_cases h : c.err = 0 <;> simp [h]
    first | rw [decide_eq_true h1] at b1 | rw [decide_eq_false (not_not_intro h1)] at b1
    first | rw [decide_eq_true h2] at b2 | rw [decide_eq_false h2] at b2
    first | rw [decide_eq_true h3] at b3 | rw [decide_eq_false (not_not_intro h3)] at b3
    have EI := Lib.hid hI.symm
    have EJ := Lib.hid hJ.symm
    clear h1 h2 h3 hI hJ
    go_enter Try.func31, Try.ntmps31
    go_wp2_with (first
      | (go_at_call 21; refine (s_new s HS.out (by first | (first | with_reducible exact H.out | with_reducible exact H.out.p1 | with_reducible exact H.out.p2 | with_reducible exact H.out.p3 | with_reducible exact H.out.p4 | with_reducible exact H.out.p5) | ((repeat first | with_reducible refine St.drewN ?_ _ | with_reducible refine St.drew ?_ | with_reducible refine St.alloc ?_ _); first | with_reducible exact H.out | with_reducible exact H.out.p1 | with_reducible exact H.out.p2 | with_reducible exact H.out.p3 | with_reducible exact H.out.p4 | with_reducible exact H.out.p5))).mono ?_; rintro e wn ⟨bi, rfl, h⟩; replace H := Lib.hid h; clear h)
      | (go_at_call 46; refine (s_int _ _ 2 (by first | (first | with_reducible exact H.out | with_reducible exact H.out.p1 | with_reducible exact H.out.p2 | with_reducible exact H.out.p3 | with_reducible exact H.out.p4 | with_reducible exact H.out.p5) | ((repeat first | with_reducible refine St.drewN ?_ _ | with_reducible refine St.drew ?_ | with_reducible refine St.alloc ?_ _); first | with_reducible exact H.out | with_reducible exact H.out.p1 | with_reducible exact H.out.p2 | with_reducible exact H.out.p3 | with_reducible exact H.out.p4 | with_reducible exact H.out.p5))).mono ?_; (repeat first | rw [EA.out]); rintro e wn ⟨rfl, h⟩; replace H := Lib.hid h; clear h; (try rw [EI.out] at H))
      | (go_at_call 42; refine (s_fail _ _ _ (by first | (first | with_reducible exact H.out | with_reducible exact H.out.p1 | with_reducible exact H.out.p2 | with_reducible exact H.out.p3 | with_reducible exact H.out.p4 | with_reducible exact H.out.p5) | ((repeat first | with_reducible refine St.drewN ?_ _ | with_reducible refine St.drew ?_ | with_reducible refine St.alloc ?_ _); first | with_reducible exact H.out | with_reducible exact H.out.p1 | with_reducible exact H.out.p2 | with_reducible exact H.out.p3 | with_reducible exact H.out.p4 | with_reducible exact H.out.p5))).mono ?_; (repeat first | rw [EI.out] | rw [EJ.out]); rintro e wn ⟨rfl, h⟩; replace H := Lib.hid h; clear h)
      | (go_at_call 47; refine (blob_text _ _ (by first | (first | with_reducible exact H.out | with_reducible exact H.out.p1 | with_reducible exact H.out.p2 | with_reducible exact H.out.p3 | with_reducible exact H.out.p4 | with_reducible exact H.out.p5) | ((repeat first | with_reducible refine St.drewN ?_ _ | with_reducible refine St.drew ?_ | with_reducible refine St.alloc ?_ _); first | with_reducible exact H.out | with_reducible exact H.out.p1 | with_reducible exact H.out.p2 | with_reducible exact H.out.p3 | with_reducible exact H.out.p4 | with_reducible exact H.out.p5))).mono ?_; (repeat first | rw [ET.out]); rintro e wn ⟨rfl, h⟩; replace H := Lib.hid h; clear h; (try rw [EJ.out] at H))
      | (go_at_call 24; refine (s_close _ _ (by first | (first | with_reducible exact H.out | with_reducible exact H.out.p1 | with_reducible exact H.out.p2 | with_reducible exact H.out.p3 | with_reducible exact H.out.p4 | with_reducible exact H.out.p5) | ((repeat first | with_reducible refine St.drewN ?_ _ | with_reducible refine St.drew ?_ | with_reducible refine St.alloc ?_ _); first | with_reducible exact H.out | with_reducible exact H.out.p1 | with_reducible exact H.out.p2 | with_reducible exact H.out.p3 | with_reducible exact H.out.p4 | with_reducible exact H.out.p5))).mono ?_; (repeat first | rw [EC.out]); rintro e wn ⟨rfl, h⟩; replace H := Lib.hid h; clear h))
    go_ret2
    exact ⟨rfl, H.out.drop⟩

end Go.Proofs.Ytngnhdiafbjfkaa
