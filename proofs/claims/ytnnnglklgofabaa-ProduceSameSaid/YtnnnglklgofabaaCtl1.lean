/- A text. -/
import Derived.Test.YtnnnglklgofabaaCtlP
import Derived.Test.YtnnnglklgofabaaBlob1
import Derived.Test.YtnnnglklgofabaaBlob2
namespace Go.Proofs.Ytnnnglklgofabaa
open Go.RowKit

set_option maxHeartbeats 1000000 in
set_option maxRecDepth 100000 in
theorem ctl_known (n : Int) {W0 w : World} {K : Know} {L : List Res} (h : St W0 w K L) :
   Calls Try.prog 94 #[.int .i64 n] w fun en w' => en = .returned (.bool (way n)) ∧ St W0 w' K L := by
 have H := Lib.hid h
 clear h
 by_cases h0 : n = 0
 · subst h0
   go_enter Try.func94, Try.ntmps94
   go_wp2
   go_ret
   exact ⟨rfl, H.out⟩
 have e0 : (n == 0) = false := by simpa using h0
 go_enter Try.func94, Try.ntmps94
 go_wp2
 go_ret
 exact ⟨ret_bool (by unfold way; rw [e0]; rfl), H.out⟩

set_option maxHeartbeats 1000000 in
set_option maxRecDepth 100000 in
theorem ctl_time0 (n : Int) {W0 w : World} {K : Know} {L : List Res} (h : St W0 w K L) :
  Calls Try.prog 95 #[.int .i64 n] w fun en w' => en = .returned (.bool (time0 n)) ∧ St W0 w' K L := by
 have H := Lib.hid h
 clear h
 go_enter Try.func95, Try.ntmps95
 go_wp2
 go_ret
 exact ⟨ret_bool (by unfold time0; rfl), H.out⟩

set_option maxHeartbeats 1000000 in
set_option maxRecDepth 100000 in
theorem ctl_readKind (s : Bs) (r : Int × Int) (hr : verRd 2 way 12 s = r) (hs : s.length ≤ 140737488355328) {W0 w : World} {K : Know} {L : List Res} (h : St W0 w K L) :
  Calls Try.prog 93 #[.string (bb s), .int .i64 2, .func (.func 94) #[] #[], .int .i64 12] w fun en w' => en = .returned (.tuple #[.int .i64 r.1, .int .i64 r.2]) ∧ St W0 w' K L := by
 have hrd : verD 2 way 12 s = r := (verD_eq 2 way 12 (by decide) (by decide) (by decide) s).trans hr
 have H := Lib.hid h
 have HS := Lib.hid hs
 clear h hs hr
 obtain ⟨a, ha⟩ : ∃ a, verA s = a := ⟨_, rfl⟩
 have hI : verI s = if a.1 = 0 then a.2 else a.2.fail 7 := by unfold verI; rw [ha]
 obtain ⟨i, hi⟩ : ∃ i, verI s = i := ⟨_, rfl⟩
 rw [hi] at hI
 obtain ⟨t, ht⟩ : ∃ t, i.int 2 = t := ⟨_, rfl⟩
 have hJ : verJ 2 way 12 s = if way t.1 = true then t.2 else t.2.fail 12 := by unfold verJ; rw [hi]; show (if way (i.int 2).1 = true then (i.int 2).2 else (i.int 2).2.fail 12) = _; rw [ht]
 obtain ⟨j, hj⟩ : ∃ j, verJ 2 way 12 s = j := ⟨_, rfl⟩
 have hD : (if j.close.err = 0 then (t.1, 0) else (0, j.close.err)) = r := by
  rw [← hrd, ← hj, ← ht, ← hi]; rfl
 rw [hj] at hJ
 obtain ⟨c, hc⟩ : ∃ c, j.close = c := ⟨_, rfl⟩
 rw [hc] at hD
 have EA := Lib.hid (show (⟨s, 0, 0⟩ : InS).int 2 = a from ha)
 have ET := Lib.hid ht
 have EC := Lib.hid hc
 obtain ⟨o, ho⟩ : ∃ o, way t.1 = o := ⟨_, rfl⟩
 rw [ho] at hJ
 have EO := Lib.hid ho
 clear ha hi ht hj hc ho hrd
 by_cases h1 : a.1 = 0 <;> cases o <;> by_cases h3 : c.err = 0
 all_goals
  first | rw [if_pos h1] at hI | rw [if_neg h1] at hI
  first | rw [if_pos rfl] at hJ | rw [if_neg (by decide)] at hJ
  first | rw [if_pos h3] at hD | rw [if_neg h3] at hD
  subst hD
  have b1 : (a.1 != 0) = decide (a.1 ≠ 0) := by by_cases h : a.1 = 0 <;> simp [h]
  have b3 : (c.err != 0) = decide (c.err ≠ 0) := by by_cases h : c.err = 0 <;> simp [h]
  first | rw [decide_eq_true h1] at b1 | rw [decide_eq_false (not_not_intro h1)] at b1
  first | rw [decide_eq_true h3] at b3 | rw [decide_eq_false (not_not_intro h3)] at b3
  have EI := Lib.hid hI.symm
  have EJ := Lib.hid hJ.symm
  clear h1 h3 hI hJ
  go_enter Try.func93, Try.ntmps93
  go_wp2_with (first
   | (go_at_call 6; refine (s_new s HS.out stQ).mono ?_; rintro e wn ⟨bi, rfl, h⟩; replace H := Lib.hid h; clear h)
   | (go_at_call 20; refine (s_int _ _ _ stQ).mono ?_; (repeat first | rw [EA.out] | rw [ET.out]); rintro e wn ⟨rfl, h⟩; replace H := Lib.hid h; clear h; (try rw [EI.out] at H); (try rw [EJ.out] at H))
   | (go_at_call 24; refine (s_fail _ _ _ stQ).mono ?_; (repeat first | rw [EI.out] | rw [EJ.out]); rintro e wn ⟨rfl, h⟩; replace H := Lib.hid h; clear h)
   | (go_at_call 94; refine (ctl_known _ H.out).mono ?_; rw [EO.out]; rintro e wn ⟨rfl, h⟩; replace H := Lib.hid h; clear h)
   | (go_at_call 31; refine (s_close _ _ stQ).mono ?_; (repeat first | rw [EC.out]); rintro e wn ⟨rfl, h⟩; replace H := Lib.hid h; clear h))
  go_ret2
  exact ⟨rfl, H.out.drop⟩

set_option maxHeartbeats 1000000 in
set_option maxRecDepth 100000 in
theorem ctl_readTime (s : Bs) (r : Int × Int) (hr : verRd 4 time0 11 s = r) (hs : s.length ≤ 140737488355328) {W0 w : World} {K : Know} {L : List Res} (h : St W0 w K L) :
  Calls Try.prog 93 #[.string (bb s), .int .i64 4, .func (.func 95) #[] #[], .int .i64 11] w fun en w' => en = .returned (.tuple #[.int .i64 r.1, .int .i64 r.2]) ∧ St W0 w' K L := by
 have hrd : verD 4 time0 11 s = r := (verD_eq 4 time0 11 (by decide) (by decide) (by decide) s).trans hr
 have H := Lib.hid h
 have HS := Lib.hid hs
 clear h hs hr
 obtain ⟨a, ha⟩ : ∃ a, verA s = a := ⟨_, rfl⟩
 have hI : verI s = if a.1 = 0 then a.2 else a.2.fail 7 := by unfold verI; rw [ha]
 obtain ⟨i, hi⟩ : ∃ i, verI s = i := ⟨_, rfl⟩
 rw [hi] at hI
 obtain ⟨t, ht⟩ : ∃ t, i.int 4 = t := ⟨_, rfl⟩
 have hJ : verJ 4 time0 11 s = if time0 t.1 = true then t.2 else t.2.fail 11 := by unfold verJ; rw [hi]; show (if time0 (i.int 4).1 = true then (i.int 4).2 else (i.int 4).2.fail 11) = _; rw [ht]
 obtain ⟨j, hj⟩ : ∃ j, verJ 4 time0 11 s = j := ⟨_, rfl⟩
 have hD : (if j.close.err = 0 then (t.1, 0) else (0, j.close.err)) = r := by
  rw [← hrd, ← hj, ← ht, ← hi]; rfl
 rw [hj] at hJ
 obtain ⟨c, hc⟩ : ∃ c, j.close = c := ⟨_, rfl⟩
 rw [hc] at hD
 have EA := Lib.hid (show (⟨s, 0, 0⟩ : InS).int 2 = a from ha)
 have ET := Lib.hid ht
 have EC := Lib.hid hc
 obtain ⟨o, ho⟩ : ∃ o, time0 t.1 = o := ⟨_, rfl⟩
 rw [ho] at hJ
 have EO := Lib.hid ho
 clear ha hi ht hj hc ho hrd
 by_cases h1 : a.1 = 0 <;> cases o <;> by_cases h3 : c.err = 0
 all_goals
  first | rw [if_pos h1] at hI | rw [if_neg h1] at hI
  first | rw [if_pos rfl] at hJ | rw [if_neg (by decide)] at hJ
  first | rw [if_pos h3] at hD | rw [if_neg h3] at hD
  subst hD
  have b1 : (a.1 != 0) = decide (a.1 ≠ 0) := by by_cases h : a.1 = 0 <;> simp [h]
  have b3 : (c.err != 0) = decide (c.err ≠ 0) := by by_cases h : c.err = 0 <;> simp [h]
  first | rw [decide_eq_true h1] at b1 | rw [decide_eq_false (not_not_intro h1)] at b1
  first | rw [decide_eq_true h3] at b3 | rw [decide_eq_false (not_not_intro h3)] at b3
  have EI := Lib.hid hI.symm
  have EJ := Lib.hid hJ.symm
  clear h1 h3 hI hJ
  go_enter Try.func93, Try.ntmps93
  go_wp2_with (first
   | (go_at_call 6; refine (s_new s HS.out stQ).mono ?_; rintro e wn ⟨bi, rfl, h⟩; replace H := Lib.hid h; clear h)
   | (go_at_call 20; refine (s_int _ _ _ stQ).mono ?_; (repeat first | rw [EA.out] | rw [ET.out]); rintro e wn ⟨rfl, h⟩; replace H := Lib.hid h; clear h; (try rw [EI.out] at H); (try rw [EJ.out] at H))
   | (go_at_call 24; refine (s_fail _ _ _ stQ).mono ?_; (repeat first | rw [EI.out] | rw [EJ.out]); rintro e wn ⟨rfl, h⟩; replace H := Lib.hid h; clear h)
   | (go_at_call 95; refine (ctl_time0 _ H.out).mono ?_; rw [EO.out]; rintro e wn ⟨rfl, h⟩; replace H := Lib.hid h; clear h)
   | (go_at_call 31; refine (s_close _ _ stQ).mono ?_; (repeat first | rw [EC.out]); rintro e wn ⟨rfl, h⟩; replace H := Lib.hid h; clear h))
  go_ret2
  exact ⟨rfl, H.out.drop⟩

set_option maxHeartbeats 1000000 in
set_option maxRecDepth 100000 in
theorem ctl_readKey (s : Bs) (r : Int × Int) (hr : verRd 2 way 12 s = r) (hs : s.length ≤ 140737488355328) {W0 w : World} {K : Know} {L : List Res} (h : St W0 w K L) :
  Calls Try.prog 79 #[.string (bb s)] w fun en w' => en = .returned (.tuple #[.int .i64 r.1, .int .i64 r.2]) ∧ St W0 w' K L := by
 have H := Lib.hid h
 have HS := Lib.hid hs
 have HR := Lib.hid hr
 clear h hs hr
 go_enter Try.func79, Try.ntmps79
 go_wp2_with ((go_at_call 93; refine (ctl_readKind s r HR.out HS.out stQ).mono ?_; rintro e wn ⟨rfl, h⟩; replace H := Lib.hid h; clear h))
 go_ret2
 exact ⟨rfl, H.out⟩

set_option maxHeartbeats 1000000 in
set_option maxRecDepth 100000 in
theorem ctl_readValue (s : Bs) (r : Int × Int) (hr : verRd 4 time0 11 s = r) (hs : s.length ≤ 140737488355328) {W0 w : World} {K : Know} {L : List Res} (h : St W0 w K L) :
  Calls Try.prog 80 #[.string (bb s)] w fun en w' => en = .returned (.tuple #[.int .i64 r.1, .int .i64 r.2]) ∧ St W0 w' K L := by
 have H := Lib.hid h
 have HS := Lib.hid hs
 have HR := Lib.hid hr
 clear h hs hr
 go_enter Try.func80, Try.ntmps80
 go_wp2_with ((go_at_call 93; refine (ctl_readTime s r HR.out HS.out stQ).mono ?_; rintro e wn ⟨rfl, h⟩; replace H := Lib.hid h; clear h))
 go_ret2
 exact ⟨rfl, H.out⟩

end Go.Proofs.Ytnnnglklgofabaa
