/- A text. -/
import Derived.Test.YtnnnglklgofabaaGreatCtlP
import Derived.Test.YtnnnglklgofabaaGreatBlob1
import Derived.Test.YtnnnglklgofabaaGreatBlob2
import Derived.Test.YtnnnglklgofabaaGreatRec1
import Derived.Test.YtnnnglklgofabaaGreatRecP
import Derived.Test.YtnnnglklgofabaaGreatRecs
import Derived.Test.YtnnnglklgofabaaGreatSep
import Derived.Test.YtnnnglklgofabaaGreatIntsP
import Derived.IntWalk
import Derived.RegionTactic
import Derived.Deep.DeepCutAuto
import Derived.Deep.RegionHeld3
import Derived.Test.YtnnnglklgofabaaGreatDec1P
import Derived.Test.YtnnnglklgofabaaGreatRec6
import Derived.Test.YtnnnglklgofabaaGreatBase
/- A text. -/
namespace Go.Proofs.YtnnnglklgofabaaGreat
open Go.RowKit

set_option maxHeartbeats 1000000 in
set_option maxRecDepth 100000 in
theorem ctl_known (n : Int) {W0 w : World} {K : Know} {L : List Res} (h : St W0 w K L) :
   Calls Tryz.prog 173 #[.int .i64 n] w fun en w' => en = .returned (.bool (way n)) ∧ St W0 w' K L := by
 have H := Lib.hid h; clear h
 by_cases h0 : n = 0
 · subst h0; go_enter Tryz.func173, Tryz.ntmps173; go_wp2; go_ret; exact ⟨rfl, H.out⟩
 have e0 : (n == 0) = false := by simpa using h0
 go_enter Tryz.func173, Tryz.ntmps173; go_wp2; go_ret; exact ⟨ret_bool (by unfold way; rw [e0]; rfl), H.out⟩

set_option maxHeartbeats 1000000 in
set_option maxRecDepth 100000 in
theorem ctl_time0 (n : Int) {W0 w : World} {K : Know} {L : List Res} (h : St W0 w K L) :
  Calls Tryz.prog 174 #[.int .i64 n] w fun en w' => en = .returned (.bool (time0 n)) ∧ St W0 w' K L := by
 have H := Lib.hid h; clear h; go_enter Tryz.func174, Tryz.ntmps174; go_wp2; go_ret; exact ⟨ret_bool (by unfold time0; rfl), H.out⟩

set_option maxHeartbeats 1000000 in
set_option maxRecDepth 100000 in
theorem ctl_readKind (s : Bs) (r : Int × Int) (hr : verRd 2 way 12 s = r) (hs : s.length ≤ 140737488355328) {W0 w : World} {K : Know} {L : List Res} (h : St W0 w K L) :
  Calls Tryz.prog 172 #[.string (bb s), .int .i64 2, .func (.func 173) #[] #[], .int .i64 12] w fun en w' => en = .returned (.tuple #[.int .i64 r.1, .int .i64 r.2]) ∧ St W0 w' K L := by
 have hrd : verD 2 way 12 s = r := (verD_eq 2 way 12 (by decide) (by decide) (by decide) s).trans hr; have H := Lib.hid h; have HS := Lib.hid hs; clear h hs hr; obtain ⟨a, ha⟩ : ∃ a, verA s = a := ⟨_, rfl⟩; have hI : verI s = if a.1 = 0 then a.2 else a.2.fail 7 := by unfold verI; rw [ha]
 obtain ⟨i, hi⟩ : ∃ i, verI s = i := ⟨_, rfl⟩; rw [hi] at hI; obtain ⟨t, ht⟩ : ∃ t, i.int 2 = t := ⟨_, rfl⟩; have hJ : verJ 2 way 12 s = if way t.1 = true then t.2 else t.2.fail 12 := by unfold verJ; rw [hi]; show (if way (i.int 2).1 = true then (i.int 2).2 else (i.int 2).2.fail 12) = _; rw [ht]
 obtain ⟨j, hj⟩ : ∃ j, verJ 2 way 12 s = j := ⟨_, rfl⟩
 have hD : (if j.close.err = 0 then (t.1, 0) else (0, j.close.err)) = r := by
  rw [← hrd, ← hj, ← ht, ← hi]; rfl
 rw [hj] at hJ; obtain ⟨c, hc⟩ : ∃ c, j.close = c := ⟨_, rfl⟩; rw [hc] at hD; have EA := Lib.hid (show (⟨s, 0, 0⟩ : InS).int 2 = a from ha); have ET := Lib.hid ht; have EC := Lib.hid hc; obtain ⟨o, ho⟩ : ∃ o, way t.1 = o := ⟨_, rfl⟩; rw [ho] at hJ; have EO := Lib.hid ho; clear ha hi ht hj hc ho hrd
 by_cases h1 : a.1 = 0 <;> cases o <;> by_cases h3 : c.err = 0
 all_goals
  first | rw [if_pos h1] at hI | rw [if_neg h1] at hI
  first | rw [if_pos rfl] at hJ | rw [if_neg (by decide)] at hJ
  first | rw [if_pos h3] at hD | rw [if_neg h3] at hD
  subst hD; have b1 : (a.1 != 0) = decide (a.1 ≠ 0) := by by_cases h : a.1 = 0 <;> simp [h]
  have b3 : (c.err != 0) = decide (c.err ≠ 0) := by by_cases h : c.err = 0 <;> simp [h]
  first | rw [decide_eq_true h1] at b1 | rw [decide_eq_false (not_not_intro h1)] at b1
  first | rw [decide_eq_true h3] at b3 | rw [decide_eq_false (not_not_intro h3)] at b3
  have EI := Lib.hid hI.symm; have EJ := Lib.hid hJ.symm; clear h1 h3 hI hJ; go_enter Tryz.func172, Tryz.ntmps172
  go_wp2_with (first
   | (go_at_call 14; refine (s_new s HS.out stQ).mono ?_; rintro e wn ⟨bi, rfl, h⟩; replace H := Lib.hid h; clear h)
   | (go_at_call 44; refine (s_int _ _ _ stQ).mono ?_; (repeat first | rw [EA.out] | rw [ET.out]); rintro e wn ⟨rfl, h⟩; replace H := Lib.hid h; clear h; (try rw [EI.out] at H); (try rw [EJ.out] at H))
   | (go_at_call 47; refine (s_fail _ _ _ stQ).mono ?_; (repeat first | rw [EI.out] | rw [EJ.out]); rintro e wn ⟨rfl, h⟩; replace H := Lib.hid h; clear h)
   | (go_at_call 173; refine (ctl_known _ H.out).mono ?_; rw [EO.out]; rintro e wn ⟨rfl, h⟩; replace H := Lib.hid h; clear h)
   | (go_at_call 18; refine (s_close _ _ stQ).mono ?_; (repeat first | rw [EC.out]); rintro e wn ⟨rfl, h⟩; replace H := Lib.hid h; clear h))
  go_ret2; exact ⟨rfl, H.out.drop⟩

set_option maxHeartbeats 1000000 in
set_option maxRecDepth 100000 in
theorem ctl_readTime (s : Bs) (r : Int × Int) (hr : verRd 4 time0 11 s = r) (hs : s.length ≤ 140737488355328) {W0 w : World} {K : Know} {L : List Res} (h : St W0 w K L) :
  Calls Tryz.prog 172 #[.string (bb s), .int .i64 4, .func (.func 174) #[] #[], .int .i64 11] w fun en w' => en = .returned (.tuple #[.int .i64 r.1, .int .i64 r.2]) ∧ St W0 w' K L := by
 have hrd : verD 4 time0 11 s = r := (verD_eq 4 time0 11 (by decide) (by decide) (by decide) s).trans hr; have H := Lib.hid h; have HS := Lib.hid hs; clear h hs hr; obtain ⟨a, ha⟩ : ∃ a, verA s = a := ⟨_, rfl⟩; have hI : verI s = if a.1 = 0 then a.2 else a.2.fail 7 := by unfold verI; rw [ha]
 obtain ⟨i, hi⟩ : ∃ i, verI s = i := ⟨_, rfl⟩; rw [hi] at hI; obtain ⟨t, ht⟩ : ∃ t, i.int 4 = t := ⟨_, rfl⟩; have hJ : verJ 4 time0 11 s = if time0 t.1 = true then t.2 else t.2.fail 11 := by unfold verJ; rw [hi]; show (if time0 (i.int 4).1 = true then (i.int 4).2 else (i.int 4).2.fail 11) = _; rw [ht]
 obtain ⟨j, hj⟩ : ∃ j, verJ 4 time0 11 s = j := ⟨_, rfl⟩
 have hD : (if j.close.err = 0 then (t.1, 0) else (0, j.close.err)) = r := by
  rw [← hrd, ← hj, ← ht, ← hi]; rfl
 rw [hj] at hJ; obtain ⟨c, hc⟩ : ∃ c, j.close = c := ⟨_, rfl⟩; rw [hc] at hD; have EA := Lib.hid (show (⟨s, 0, 0⟩ : InS).int 2 = a from ha); have ET := Lib.hid ht; have EC := Lib.hid hc; obtain ⟨o, ho⟩ : ∃ o, time0 t.1 = o := ⟨_, rfl⟩; rw [ho] at hJ; have EO := Lib.hid ho; clear ha hi ht hj hc ho hrd
 by_cases h1 : a.1 = 0 <;> cases o <;> by_cases h3 : c.err = 0
 all_goals
  first | rw [if_pos h1] at hI | rw [if_neg h1] at hI
  first | rw [if_pos rfl] at hJ | rw [if_neg (by decide)] at hJ
  first | rw [if_pos h3] at hD | rw [if_neg h3] at hD
  subst hD; have b1 : (a.1 != 0) = decide (a.1 ≠ 0) := by by_cases h : a.1 = 0 <;> simp [h]
  have b3 : (c.err != 0) = decide (c.err ≠ 0) := by by_cases h : c.err = 0 <;> simp [h]
  first | rw [decide_eq_true h1] at b1 | rw [decide_eq_false (not_not_intro h1)] at b1
  first | rw [decide_eq_true h3] at b3 | rw [decide_eq_false (not_not_intro h3)] at b3
  have EI := Lib.hid hI.symm; have EJ := Lib.hid hJ.symm; clear h1 h3 hI hJ; go_enter Tryz.func172, Tryz.ntmps172
  go_wp2_with (first
   | (go_at_call 14; refine (s_new s HS.out stQ).mono ?_; rintro e wn ⟨bi, rfl, h⟩; replace H := Lib.hid h; clear h)
   | (go_at_call 44; refine (s_int _ _ _ stQ).mono ?_; (repeat first | rw [EA.out] | rw [ET.out]); rintro e wn ⟨rfl, h⟩; replace H := Lib.hid h; clear h; (try rw [EI.out] at H); (try rw [EJ.out] at H))
   | (go_at_call 47; refine (s_fail _ _ _ stQ).mono ?_; (repeat first | rw [EI.out] | rw [EJ.out]); rintro e wn ⟨rfl, h⟩; replace H := Lib.hid h; clear h)
   | (go_at_call 174; refine (ctl_time0 _ H.out).mono ?_; rw [EO.out]; rintro e wn ⟨rfl, h⟩; replace H := Lib.hid h; clear h)
   | (go_at_call 18; refine (s_close _ _ stQ).mono ?_; (repeat first | rw [EC.out]); rintro e wn ⟨rfl, h⟩; replace H := Lib.hid h; clear h))
  go_ret2; exact ⟨rfl, H.out.drop⟩

set_option maxHeartbeats 1000000 in
set_option maxRecDepth 100000 in
theorem ctl_readKey (s : Bs) (r : Int × Int) (hr : verRd 2 way 12 s = r) (hs : s.length ≤ 140737488355328) {W0 w : World} {K : Know} {L : List Res} (h : St W0 w K L) :
  Calls Tryz.prog 153 #[.string (bb s)] w fun en w' => en = .returned (.tuple #[.int .i64 r.1, .int .i64 r.2]) ∧ St W0 w' K L := by
 have H := Lib.hid h; have HS := Lib.hid hs; have HR := Lib.hid hr; clear h hs hr; go_enter Tryz.func153, Tryz.ntmps153; go_wp2_with ((go_at_call 172; refine (ctl_readKind s r HR.out HS.out stQ).mono ?_; rintro e wn ⟨rfl, h⟩; replace H := Lib.hid h; clear h)); go_ret2; exact ⟨rfl, H.out⟩

set_option maxHeartbeats 1000000 in
set_option maxRecDepth 100000 in
theorem ctl_readValue (s : Bs) (r : Int × Int) (hr : verRd 4 time0 11 s = r) (hs : s.length ≤ 140737488355328) {W0 w : World} {K : Know} {L : List Res} (h : St W0 w K L) :
  Calls Tryz.prog 154 #[.string (bb s)] w fun en w' => en = .returned (.tuple #[.int .i64 r.1, .int .i64 r.2]) ∧ St W0 w' K L := by
 have H := Lib.hid h; have HS := Lib.hid hs; have HR := Lib.hid hr; clear h hs hr; go_enter Tryz.func154, Tryz.ntmps154; go_wp2_with ((go_at_call 172; refine (ctl_readTime s r HR.out HS.out stQ).mono ?_; rintro e wn ⟨rfl, h⟩; replace H := Lib.hid h; clear h)); go_ret2; exact ⟨rfl, H.out⟩
theorem zq4 {p : Prop} (h : p := by
  go_wp2_with (first
   | (go_at_call 54; (with_reducible refine (sr_int (s.take 2) HT.out H.out).mono ?_); rw [E1.out]; rintro e wn ⟨rfl, h⟩; replace H := Lib.hid h; clear h)
   | (go_at_call 54; (with_reducible refine (sr_int ((s.drop 2).take 2) HT2.out H.out).mono ?_); rw [E2.out]; rintro e wn ⟨rfl, h⟩; replace H := Lib.hid h; clear h))
  go_ret2; exact ⟨rfl, H.out⟩) : p := h
set_option maxHeartbeats 1000000 in
set_option maxRecDepth 100000 in
theorem ref08_readKey (s : Bs) (r : Int × Int) (hr : verRd 2 way 12 s = r) (hs : s.length ≤ 140737488355328) {W0 w : World} {K : Know} {L : List Res} (h : St W0 w K L) :
   Calls Tryz.prog 135 #[.string (bb s)] w fun en w' => en = .returned (.tuple #[.int .i64 r.1, .int .i64 r.2]) ∧ St W0 w' K L := by
 have H := Lib.hid h; have HS := Lib.hid hs; have HT := Lib.hid (show (s.take 2).length ≤ 8 by rw [List.length_take]; omega); have HT2 := Lib.hid (show ((s.drop 2).take 2).length ≤ 8 by rw [List.length_take]; omega); obtain ⟨v1, hv1⟩ : ∃ v, sInt (s.take 2) = v := ⟨_, rfl⟩; obtain ⟨v2, hv2⟩ : ∃ v, sInt ((s.drop 2).take 2) = v := ⟨_, rfl⟩; unfold verRd at hr; rw [hv1, hv2] at hr; have E1 := Lib.hid hv1; have E2 := Lib.hid hv2; clear h hs hv1 hv2
 by_cases c1 : s.length < 2
 · rw [if_pos c1] at hr; subst hr; go_enter Tryz.func135, Tryz.ntmps135
   exact zq4
 rw [if_neg c1] at hr
 by_cases c2 : v1 ≠ 0
 · rw [if_pos c2] at hr; subst hr; have d2 : (v1 != 0) = true := by simpa using c2
   go_enter Tryz.func135, Tryz.ntmps135
   exact zq4
 rw [if_neg c2] at hr; have d2 : (v1 != 0) = false := by simpa using c2
 clear c2
 by_cases c3 : s.length < 2 + 2
 · rw [if_pos c3] at hr; subst hr; have c3' : s.length < 4 := c3; clear c3; go_enter Tryz.func135, Tryz.ntmps135
   exact zq4
 rw [if_neg c3] at hr; have c3' : ¬ s.length < 4 := c3; clear c3
 by_cases c4 : way v2 = false
 · rw [if_pos c4] at hr; subst hr; have n0 : (v2 != 0) = true ∧ (v2 != 1) = true := (by unfold way at c4; simpa using c4); obtain ⟨n0, n1⟩ := n0; clear c4; go_enter Tryz.func135, Tryz.ntmps135
   exact zq4
 rw [if_neg c4] at hr
 by_cases c5 : 2 + 2 < s.length
 · rw [if_pos c5] at hr; subst hr; have c5' : 4 < s.length := c5; clear c5; have hv2 : v2 = 0 ∨ v2 = 1 := (by unfold way at c4; simp at c4; omega); clear c4; rcases hv2 with rfl | rfl
   all_goals
    go_enter Tryz.func135, Tryz.ntmps135
    exact zq4
 rw [if_neg c5] at hr; subst hr; have c5' : ¬ 4 < s.length := c5; clear c5; have hv2 : v2 = 0 ∨ v2 = 1 := (by unfold way at c4; simp at c4; omega); clear c4; rcases hv2 with rfl | rfl
 all_goals
   go_enter Tryz.func135, Tryz.ntmps135
   exact zq4

theorem zq7 {p : Prop} (h : p := by
  go_wp2_with (first
   | (go_at_call 54; (with_reducible refine (sr_int (s.take 2) HT.out H.out).mono ?_); rw [E1.out]; rintro e wn ⟨rfl, h⟩; replace H := Lib.hid h; clear h)
   | (go_at_call 54; (with_reducible refine (sr_int ((s.drop 2).take 4) HT2.out H.out).mono ?_); rw [E2.out]; rintro e wn ⟨rfl, h⟩; replace H := Lib.hid h; clear h))
  go_ret2; exact ⟨rfl, H.out⟩) : p := h
theorem zq14 {p : Prop} (h : p := by
  go_wp2_with (first
   | (go_at_call 54; (with_reducible refine (sr_int (s.take 2) HT.out H.out).mono ?_); rw [E1.out]; rintro e wn ⟨rfl, h⟩; replace H := Lib.hid h; clear h))
  go_ret2; exact ⟨rfl, H.out⟩) : p := h
set_option maxHeartbeats 1000000 in
set_option maxRecDepth 100000 in
theorem ref08_readValue (s : Bs) (r : Int × Int) (hr : verRd 4 time0 11 s = r) (hs : s.length ≤ 140737488355328) {W0 w : World} {K : Know} {L : List Res} (h : St W0 w K L) :
   Calls Tryz.prog 136 #[.string (bb s)] w fun en w' => en = .returned (.tuple #[.int .i64 r.1, .int .i64 r.2]) ∧ St W0 w' K L := by
 have H := Lib.hid h; have HS := Lib.hid hs; have HT := Lib.hid (show (s.take 2).length ≤ 8 by rw [List.length_take]; omega); have HT2 := Lib.hid (show ((s.drop 2).take 4).length ≤ 8 by rw [List.length_take]; omega); obtain ⟨v1, hv1⟩ : ∃ v, sInt (s.take 2) = v := ⟨_, rfl⟩; obtain ⟨v2, hv2⟩ : ∃ v, sInt ((s.drop 2).take 4) = v := ⟨_, rfl⟩; unfold verRd at hr; rw [hv1, hv2] at hr; have E1 := Lib.hid hv1; have E2 := Lib.hid hv2; clear h hs hv1 hv2
 by_cases c1 : s.length < 2
 · rw [if_pos c1] at hr; subst hr; go_enter Tryz.func136, Tryz.ntmps136
   exact zq14
 rw [if_neg c1] at hr
 by_cases c2 : v1 ≠ 0
 · rw [if_pos c2] at hr; subst hr; have d2 : (v1 != 0) = true := by simpa using c2
   go_enter Tryz.func136, Tryz.ntmps136
   exact zq14
 rw [if_neg c2] at hr; have d2 : (v1 != 0) = false := by simpa using c2
 clear c2
 by_cases c3 : s.length < 2 + 4
 · rw [if_pos c3] at hr; subst hr; have c3' : s.length < 6 := c3; clear c3; go_enter Tryz.func136, Tryz.ntmps136
   exact zq14
 rw [if_neg c3] at hr; have c3' : ¬ s.length < 6 := c3; clear c3
 by_cases c4 : time0 v2 = false
 · rw [if_pos c4] at hr; subst hr; have n0 : v2 < 0 := (by unfold time0 at c4; simpa using c4); clear c4; go_enter Tryz.func136, Tryz.ntmps136
   exact zq7
 rw [if_neg c4] at hr
 by_cases c5 : 2 + 4 < s.length
 · rw [if_pos c5] at hr; subst hr; have c5' : 6 < s.length := c5; clear c5; have n0 : ¬ v2 < 0 := (by unfold time0 at c4; simpa using c4); clear c4
   all_goals
    go_enter Tryz.func136, Tryz.ntmps136
    exact zq7
 rw [if_neg c5] at hr; subst hr; have c5' : ¬ 6 < s.length := c5; clear c5; have n0 : ¬ v2 < 0 := (by unfold time0 at c4; simpa using c4); clear c4
 all_goals
   go_enter Tryz.func136, Tryz.ntmps136
   exact zq7
def ctlRead (n1 n2 : Bool) (d1 d2 : Bs) (many o : Int) : Int × Int × Int :=
  if n1 = true ∨ n2 = true ∨ many ≠ 0 ∨ o ≠ 0 then (0, 0, 12)
  else if (verRd 2 way 12 d1).2 ≠ 0 then (0, 0, (verRd 2 way 12 d1).2)
  else if (verRd 4 time0 11 d2).2 ≠ 0 then (0, 0, (verRd 4 time0 11 d2).2)
  else ((verRd 2 way 12 d1).1, (verRd 4 time0 11 d2).1, 0)

set_option maxHeartbeats 1000000 in
set_option maxRecDepth 100000 in
theorem ctl_read (t o : Int) (n1 n2 : Bool) (d1 d2 : Bs) (q : Option Addr) (ln cap : Nat) (r : Int × Int × Int) (hr : ctlRead n1 n2 d1 d2 ln o = r) (hd1 : d1.length ≤ 140737488355328) (hd2 : d2.length ≤ 140737488355328) {W0 w : World} {K : Know} {L : List Res} (h : St W0 w K L) :
   Calls Tryz.prog 123 #[.agg #[.int .i64 t, .int .i64 o, .bool n1, .string (bb d1), .bool n2, .string (bb d2), (.slice q ln cap)]] w fun en w' => en = .returned (.tuple #[.int .i64 r.1, .int .i64 r.2.1, .int .i64 r.2.2]) ∧ St W0 w' K L := by
 have h0 := h.allocRaw #[.int .i64 t, .int .i64 o, .bool n1, .string (bb d1), .bool n2, .string (bb d2), (.slice q ln cap)] 119; obtain ⟨wA, hwA⟩ : ∃ b, w.heap.size = b := ⟨_, rfl⟩; rw [hwA] at h0; have H := Lib.hid h0; have HD1 := Lib.hid hd1; have HD2 := Lib.hid hd2; obtain ⟨ac0, ac1, ac2, ac3, ac4, ac5, ac6, af0, af1, af2, af3, af4, af5, af6⟩ := raw7 (b := wA) (H.out); clear h h0 hd1 hd2; unfold ctlRead at hr
 by_cases g1 : n1 = true
 · rw [if_pos (.inl g1)] at hr; subst hr g1; go_enter Tryz.func123, Tryz.ntmps123; go_wp2; go_ret3; exact ⟨rfl, H.out.drop⟩
 by_cases g2 : n2 = true
 · rw [if_pos (.inr (.inl g2))] at hr; subst hr g2; obtain rfl : n1 = false := by simpa using g1
   clear g1; go_enter Tryz.func123, Tryz.ntmps123; go_wp2; go_ret3; exact ⟨rfl, H.out.drop⟩
 obtain rfl : n1 = false := by simpa using g1
 obtain rfl : n2 = false := by simpa using g2
 clear g1 g2
 by_cases g3 : (ln : Int) ≠ 0
 · rw [if_pos (.inr (.inr (.inl g3)))] at hr; subst hr; have b1 : ((ln : Int) != 0) = true := by simpa using g3
   have b2 : decide (0 < ln) = true := decide_eq_true (by omega); have b3 : decide ((0 : Int) < ln) = true := decide_eq_true (by omega); have b4 : 0 < ln := by omega
   clear g3; go_enter Tryz.func123, Tryz.ntmps123; go_wp2; go_ret3; exact ⟨rfl, H.out.drop⟩
 obtain rfl : ln = 0 := by omega
 clear g3
 by_cases g4 : o ≠ 0
 · rw [if_pos (.inr (.inr (.inr g4)))] at hr; subst hr; have b1 : (o != 0) = true := by simpa using g4
   clear g4; go_enter Tryz.func123, Tryz.ntmps123; go_wp2; go_ret3; exact ⟨rfl, H.out.drop⟩
 obtain rfl : o = 0 := by simpa using g4
 clear g4; rw [if_neg (by simp)] at hr; obtain ⟨a, ha⟩ : ∃ a, verRd 2 way 12 d1 = a := ⟨_, rfl⟩; obtain ⟨b, hb⟩ : ∃ b, verRd 4 time0 11 d2 = b := ⟨_, rfl⟩; rw [ha, hb] at hr; have EA := Lib.hid ha; have EB := Lib.hid hb; clear ha hb
 by_cases g5 : a.2 ≠ 0
 · rw [if_pos g5] at hr; subst hr; have b1 : (a.2 != 0) = true := by simpa using g5
   clear g5; go_enter Tryz.func123, Tryz.ntmps123
   go_wp2_with (first
    | (go_at_call 153; refine (ctl_readKey d1 a EA.out HD1.out H.out).mono ?_; rintro e wn ⟨rfl, h⟩; replace H := Lib.hid h; clear h; obtain ⟨ac0, ac1, ac2, ac3, ac4, ac5, ac6, af0, af1, af2, af3, af4, af5, af6⟩ := raw7 (b := wA) (H.out)))
   go_ret3; exact ⟨rfl, H.out.drop⟩
 rw [if_neg g5] at hr; have b1 : (a.2 != 0) = false := by simpa using g5
 clear g5
 by_cases g6 : b.2 ≠ 0
 · rw [if_pos g6] at hr; subst hr; have b2 : (b.2 != 0) = true := by simpa using g6
   clear g6; go_enter Tryz.func123, Tryz.ntmps123
   go_wp2_with (first
    | (go_at_call 153; refine (ctl_readKey d1 a EA.out HD1.out H.out).mono ?_; rintro e wn ⟨rfl, h⟩; replace H := Lib.hid h; clear h; obtain ⟨ac0, ac1, ac2, ac3, ac4, ac5, ac6, af0, af1, af2, af3, af4, af5, af6⟩ := raw7 (b := wA) (H.out))
    | (go_at_call 154; refine (ctl_readValue d2 b EB.out HD2.out H.out).mono ?_; rintro e wn ⟨rfl, h⟩; replace H := Lib.hid h; clear h; obtain ⟨ac0, ac1, ac2, ac3, ac4, ac5, ac6, af0, af1, af2, af3, af4, af5, af6⟩ := raw7 (b := wA) (H.out)))
   go_ret3; exact ⟨rfl, H.out.drop⟩
 rw [if_neg g6] at hr; subst hr; have b2 : (b.2 != 0) = false := by simpa using g6
 clear g6; go_enter Tryz.func123, Tryz.ntmps123
 go_wp2_with (first
   | (go_at_call 153; refine (ctl_readKey d1 a EA.out HD1.out H.out).mono ?_; rintro e wn ⟨rfl, h⟩; replace H := Lib.hid h; clear h; obtain ⟨ac0, ac1, ac2, ac3, ac4, ac5, ac6, af0, af1, af2, af3, af4, af5, af6⟩ := raw7 (b := wA) (H.out))
   | (go_at_call 154; refine (ctl_readValue d2 b EB.out HD2.out H.out).mono ?_; rintro e wn ⟨rfl, h⟩; replace H := Lib.hid h; clear h; obtain ⟨ac0, ac1, ac2, ac3, ac4, ac5, ac6, af0, af1, af2, af3, af4, af5, af6⟩ := raw7 (b := wA) (H.out)))
 go_ret3; exact ⟨rfl, H.out.drop⟩

set_option maxHeartbeats 1000000 in
set_option maxRecDepth 100000 in
theorem ref08_read (t o : Int) (n1 n2 : Bool) (d1 d2 : Bs) (q : Option Addr) (ln cap : Nat) (r : Int × Int × Int) (hr : ctlRead n1 n2 d1 d2 ln o = r) (hd1 : d1.length ≤ 140737488355328) (hd2 : d2.length ≤ 140737488355328) {W0 w : World} {K : Know} {L : List Res} (h : St W0 w K L) :
   Calls Tryz.prog 103 #[.agg #[.int .i64 t, .int .i64 o, .bool n1, .string (bb d1), .bool n2, .string (bb d2), (.slice q ln cap)]] w fun en w' => en = .returned (.tuple #[.int .i64 r.1, .int .i64 r.2.1, .int .i64 r.2.2]) ∧ St W0 w' K L := by
 have h0 := h.allocRaw #[.int .i64 t, .int .i64 o, .bool n1, .string (bb d1), .bool n2, .string (bb d2), (.slice q ln cap)] 119; obtain ⟨wA, hwA⟩ : ∃ b, w.heap.size = b := ⟨_, rfl⟩; rw [hwA] at h0; have H := Lib.hid h0; have HD1 := Lib.hid hd1; have HD2 := Lib.hid hd2; obtain ⟨ac0, ac1, ac2, ac3, ac4, ac5, ac6, af0, af1, af2, af3, af4, af5, af6⟩ := raw7 (b := wA) (H.out); clear h h0 hd1 hd2; unfold ctlRead at hr
 by_cases g1 : n1 = true
 · rw [if_pos (.inl g1)] at hr; subst hr g1; go_enter Tryz.func103, Tryz.ntmps103; go_wp2; go_ret3; exact ⟨rfl, H.out.drop⟩
 by_cases g2 : n2 = true
 · rw [if_pos (.inr (.inl g2))] at hr; subst hr g2; obtain rfl : n1 = false := by simpa using g1
   clear g1; go_enter Tryz.func103, Tryz.ntmps103; go_wp2; go_ret3; exact ⟨rfl, H.out.drop⟩
 obtain rfl : n1 = false := by simpa using g1
 obtain rfl : n2 = false := by simpa using g2
 clear g1 g2
 by_cases g3 : (ln : Int) ≠ 0
 · rw [if_pos (.inr (.inr (.inl g3)))] at hr; subst hr; have b1 : ((ln : Int) != 0) = true := by simpa using g3
   have b2 : decide (0 < ln) = true := decide_eq_true (by omega); have b3 : decide ((0 : Int) < ln) = true := decide_eq_true (by omega); have b4 : 0 < ln := by omega
   clear g3; go_enter Tryz.func103, Tryz.ntmps103; go_wp2; go_ret3; exact ⟨rfl, H.out.drop⟩
 obtain rfl : ln = 0 := by omega
 clear g3
 by_cases g4 : o ≠ 0
 · rw [if_pos (.inr (.inr (.inr g4)))] at hr; subst hr; have b1 : (o != 0) = true := by simpa using g4
   clear g4; go_enter Tryz.func103, Tryz.ntmps103; go_wp2; go_ret3; exact ⟨rfl, H.out.drop⟩
 obtain rfl : o = 0 := by simpa using g4
 clear g4; rw [if_neg (by simp)] at hr; obtain ⟨a, ha⟩ : ∃ a, verRd 2 way 12 d1 = a := ⟨_, rfl⟩; obtain ⟨b, hb⟩ : ∃ b, verRd 4 time0 11 d2 = b := ⟨_, rfl⟩; rw [ha, hb] at hr; have EA := Lib.hid ha; have EB := Lib.hid hb; clear ha hb
 by_cases g5 : a.2 ≠ 0
 · rw [if_pos g5] at hr; subst hr; have b1 : (a.2 != 0) = true := by simpa using g5
   clear g5; go_enter Tryz.func103, Tryz.ntmps103
   go_wp2_with (first
    | (go_at_call 135; refine (ref08_readKey d1 a EA.out HD1.out H.out).mono ?_; rintro e wn ⟨rfl, h⟩; replace H := Lib.hid h; clear h; obtain ⟨ac0, ac1, ac2, ac3, ac4, ac5, ac6, af0, af1, af2, af3, af4, af5, af6⟩ := raw7 (b := wA) (H.out)))
   go_ret3; exact ⟨rfl, H.out.drop⟩
 rw [if_neg g5] at hr; have b1 : (a.2 != 0) = false := by simpa using g5
 clear g5
 by_cases g6 : b.2 ≠ 0
 · rw [if_pos g6] at hr; subst hr; have b2 : (b.2 != 0) = true := by simpa using g6
   clear g6; go_enter Tryz.func103, Tryz.ntmps103
   go_wp2_with (first
    | (go_at_call 135; refine (ref08_readKey d1 a EA.out HD1.out H.out).mono ?_; rintro e wn ⟨rfl, h⟩; replace H := Lib.hid h; clear h; obtain ⟨ac0, ac1, ac2, ac3, ac4, ac5, ac6, af0, af1, af2, af3, af4, af5, af6⟩ := raw7 (b := wA) (H.out))
    | (go_at_call 136; refine (ref08_readValue d2 b EB.out HD2.out H.out).mono ?_; rintro e wn ⟨rfl, h⟩; replace H := Lib.hid h; clear h; obtain ⟨ac0, ac1, ac2, ac3, ac4, ac5, ac6, af0, af1, af2, af3, af4, af5, af6⟩ := raw7 (b := wA) (H.out)))
   go_ret3; exact ⟨rfl, H.out.drop⟩
 rw [if_neg g6] at hr; subst hr; have b2 : (b.2 != 0) = false := by simpa using g6
 clear g6; go_enter Tryz.func103, Tryz.ntmps103
 go_wp2_with (first
   | (go_at_call 135; refine (ref08_readKey d1 a EA.out HD1.out H.out).mono ?_; rintro e wn ⟨rfl, h⟩; replace H := Lib.hid h; clear h; obtain ⟨ac0, ac1, ac2, ac3, ac4, ac5, ac6, af0, af1, af2, af3, af4, af5, af6⟩ := raw7 (b := wA) (H.out))
   | (go_at_call 136; refine (ref08_readValue d2 b EB.out HD2.out H.out).mono ?_; rintro e wn ⟨rfl, h⟩; replace H := Lib.hid h; clear h; obtain ⟨ac0, ac1, ac2, ac3, ac4, ac5, ac6, af0, af1, af2, af3, af4, af5, af6⟩ := raw7 (b := wA) (H.out)))
 go_ret3; exact ⟨rfl, H.out.drop⟩
structure BatS where
  base : Int
  leader : Int
  app : Bool
  txn : Bool
  ctl : Bool
  last : Int
  first : Int
  maxt : Int
  prod : Int
  epoch : Int
  seq : Int
  recs : List RecS
deriving DecidableEq
def BatS.zero : BatS := ⟨0, 0, false, false, false, 0, 0, 0, 0, 0, 0, []⟩
def Rn (n : Int) : Prop := -9223372036854775808 ≤ n ∧ n < 9223372036854775808
def BatS.R (b : BatS) : Prop := Rn b.base ∧ Rn b.leader ∧ Rn b.last ∧ Rn b.first ∧ Rn b.maxt ∧ Rn b.prod ∧ Rn b.epoch ∧ Rn b.seq
def BatS.placed (b : BatS) : Bool := decide (0 ≤ b.base ∧ (-1 ≤ b.leader ∧ b.leader ≤ 2147483647) ∧ (0 ≤ b.last ∧ b.last ≤ 2147483647) ∧ b.base ≤ 9223372036854775807 - b.last ∧ 0 ≤ b.first ∧ 0 ≤ b.maxt)
def BatS.signed (b : BatS) : Bool :=
  if b.prod = -1 then decide (b.epoch = -1 ∧ b.seq = -1 ∧ b.txn = false)
  else if b.prod < 0 ∨ ¬ (0 ≤ b.epoch ∧ b.epoch ≤ 32767) then false
  else if b.ctl then decide (b.seq = -1)
  else decide (0 ≤ b.seq ∧ b.seq ≤ 2147483647)
def rowsC (first last : Int) : List RecS → Int → Int → Except Int Int
  | [], _, g => .ok g
  | r :: t, ah, g => if r.off ≤ ah ∨ last < r.off then .error 13 else if r.time < -first ∨ 9223372036854775807 - first < r.time then .error 11 else rowsC first last t r.off (max g (first + r.time))
def rowsE (app : Bool) (maxt : Int) (r : Except Int Int) : Int := match r with
  | .error e => e
  | .ok g => if app = false ∧ maxt ≠ g then 11 else 0
def BatS.rows (b : BatS) : Int := rowsE b.app b.maxt (rowsC b.first b.last b.recs (-1) b.first)
def recsC : List RecS → Int
  | [] => 0
  | r :: t => if recOk r = 0 then recsC t else recOk r
def ctlOf (r : RecS) : Int × Int × Int := ctlRead r.key.null r.val.null r.key.data r.val.data r.hdrs.length r.off
def BatS.ends (b : BatS) : Int := match b.recs with | [] => 0 | r :: _ => (ctlOf r).2.2
def batErr (b : BatS) : Int :=
  if b.placed = false then 11
  else if b.ctl = true ∧ b.txn = false then 8
  else if b.signed = false then 11
  else if b.ctl = true ∧ b.recs.length ≠ 1 then 10
  else if recsC b.recs ≠ 0 then recsC b.recs
  else if b.ctl = true ∧ b.ends ≠ 0 then b.ends
  else b.rows
def FitB (l : List (RecS × Value)) : Prop := ∀ x ∈ l, x.1.R ∧ HFit x.1.hdrs ∧ x.1.sum ≤ 1000000
theorem sum_hdrs {x : RecS} (h : x.sum ≤ 1000000) : x.hdrs.length ≤ 1000000 := by have := hsum_le x.hdrs; unfold RecS.sum at h; omega
theorem sum_data {x : RecS} (h : x.sum ≤ 1000000) : x.key.data.length ≤ 140737488355328 ∧ x.val.data.length ≤ 140737488355328 := by unfold RecS.sum at h; omega
theorem drop_recs (l : List (RecS × Value)) (k : Nat) (h : k < l.length) (x : RecS) (hx : l[k].1 = x) : (l.map (·.1)).drop k = x :: (l.map (·.1)).drop (k + 1) := by
 subst hx; rw [List.drop_eq_getElem_cons (by simpa using h), List.getElem_map]
theorem rowsC_cons (first last : Int) (r : RecS) (t : List RecS) (ah g : Int) : rowsC first last (r :: t) ah g = if r.off ≤ ah ∨ last < r.off then .error 13 else if r.time < -first ∨ 9223372036854775807 - first < r.time then .error 11 else rowsC first last t r.off (max g (first + r.time)) := rfl
structure PreS where
  base : Int
  len : Int
  leader : Int
  sum : Int
  attr : Int
  last : Int
  first : Int
  maxt : Int
  prod : Int
  epoch : Int
  seq : Int
  count : Int
deriving DecidableEq
def pv (x : PreS) : Value := .agg #[.int .i64 x.base, .int .i64 x.len, .int .i64 x.leader, .int .i64 x.sum, .int .i64 x.attr, .int .i64 x.last, .int .i64 x.first, .int .i64 x.maxt, .int .i64 x.prod, .int .i64 x.epoch, .int .i64 x.seq, .int .i64 x.count]
def PreS.list (x : PreS) : List Int := [x.base, x.len, x.leader, x.sum, x.attr, x.last, x.first, x.maxt, x.prod, x.epoch, x.seq, x.count]
def PreS.R (x : PreS) : Prop := ∀ n ∈ x.list, -9223372036854775808 ≤ n ∧ n < 9223372036854775808
def PreS.zero : PreS := ⟨0, 0, 0, 0, 0, 0, 0, 0, 0, 0, 0, 0⟩
def sumItem (n : Int) : Int := if n < 0 ∨ 4294967295 < n then 4294967296 else if 2147483647 < n then n - 4294967296 else n
def PreS.items (x : PreS) : List (Int × Nat) := [(x.base, 8), (x.len, 4), (x.leader, 4), (2, 1), (sumItem x.sum, 4), (x.attr, 2), (x.last, 4), (x.first, 8), (x.maxt, 8), (x.prod, 8), (x.epoch, 2), (x.seq, 4), (x.count, 4)]
def preSizes : List Nat := [8, 4, 4, 1, 4, 2, 4, 8, 8, 8, 2, 4, 4]
theorem sumItem_range (n : Int) : -9223372036854775808 ≤ sumItem n ∧ sumItem n < 9223372036854775808 := by
 unfold sumItem; split
 · omega
 · split <;> omega
theorem wrap32_sum (n : Int) (h0 : ¬ n < 0) (h1 : ¬ 4294967295 < n) : wrap32 n = sumItem n := by
 have e : wrap32 n = (n + 2147483648) % 4294967296 - 2147483648 := by unfold wrap32; rfl
 rw [e]; unfold sumItem; rw [if_neg (by omega)]
 split <;> omega
theorem OutS.okI {o : OutS} {a b : Int} {m : Nat} (h : o.ok (m + 8)) : (o.int a b).ok m := OutS.ok_int h (by omega)
theorem OutS.int_bad (o : OutS) (n : Int) (h : n < 0 ∨ 4294967295 < n) : o.int (sumItem n) 4 = o.fail 11 := by
 have e : sumItem n = 4294967296 := if_pos h; rw [e]; unfold OutS.int; rw [if_neg (by decide)]

set_option maxHeartbeats 1000000 in
set_option maxRecDepth 100000 in
theorem prefix_putSum (p : Nat) (o : OutS) (n : Int) (_ : -9223372036854775808 ≤ n ∧ n < 9223372036854775808) {W0 w : World} {K : Know} {L : List Res} (h : St W0 w K (.out p o :: L)) (hr : o.ok 8) :
   Calls Tryz.prog 157 #[outPtr p, .int .i64 n] w fun en w' => en = .returned (.tuple #[]) ∧ St W0 w' K (.out p (o.int (sumItem n) 4) :: L) := by
 have H := Lib.hid h; have HR := Lib.hid hr; clear h hr
 by_cases h0 : n < 0
 · have E := Lib.hid (OutS.int_bad o n (.inl h0)).symm; go_enter Tryz.func157, Tryz.ntmps157; go_wp2_with (go_at_call 30; refine (so_fail _ _ _ stQ).mono ?_; (repeat first | rw [E.out]); rintro e wn ⟨rfl, h⟩; replace H := Lib.hid h; clear h); refine bodyPost_ret (results_none rfl _ _ _) rfl ⟨rfl, H.out⟩
 by_cases h1 : 4294967295 < n
 · have E := Lib.hid (OutS.int_bad o n (.inr h1)).symm; go_enter Tryz.func157, Tryz.ntmps157; go_wp2_with (go_at_call 30; refine (so_fail _ _ _ stQ).mono ?_; (repeat first | rw [E.out]); rintro e wn ⟨rfl, h⟩; replace H := Lib.hid h; clear h); refine bodyPost_ret (results_none rfl _ _ _) rfl ⟨rfl, H.out⟩
 · have HW2 := Lib.hid (wrap32_sum n h0 h1); have HS := Lib.hid (sumItem_range n); have HS2 := Lib.hid (wrap64_in _ HS.out.1 HS.out.2); go_enter Tryz.func157, Tryz.ntmps157; go_wp2_with (go_at_call 32; rw [show wrap64 (wrap32 n) = sumItem n from by rw [HW2.out]; exact HS2.out]; refine (so_int _ _ _ _ HS.out H.out HR.out).mono ?_; rintro e wn ⟨rfl, h⟩; replace H := Lib.hid h; clear h); go_end0; exact ⟨rfl, H.out⟩

set_option maxHeartbeats 1000000 in
set_option maxRecDepth 100000 in
theorem prefix_write (p : Nat) (o : OutS) (x : PreS) (hx : x.R) {W0 w : World} {K : Know} {L : List Res} (h : St W0 w K (.out p o :: L)) (hr : o.ok 200) :
  Calls Tryz.prog 127 #[outPtr p, pv x] w fun en w' => en = .returned (.tuple #[]) ∧ St W0 w' K (.out p (o.ints x.items) :: L) := by
 have H := Lib.hid (h.allocRaw #[.int .i64 x.base, .int .i64 x.len, .int .i64 x.leader, .int .i64 x.sum, .int .i64 x.attr, .int .i64 x.last, .int .i64 x.first, .int .i64 x.maxt, .int .i64 x.prod, .int .i64 x.epoch, .int .i64 x.seq, .int .i64 x.count] 154).p1; have HR := Lib.hid hr; have N0 := Lib.hid (hx x.base (by simp [PreS.list])); have N1 := Lib.hid (hx x.len (by simp [PreS.list])); have N2 := Lib.hid (hx x.leader (by simp [PreS.list])); have N3 := Lib.hid (hx x.sum (by simp [PreS.list])); have N4 := Lib.hid (hx x.attr (by simp [PreS.list])); have N5 := Lib.hid (hx x.last (by simp [PreS.list])); have N6 := Lib.hid (hx x.first (by simp [PreS.list])); have N7 := Lib.hid (hx x.maxt (by simp [PreS.list])); have N8 := Lib.hid (hx x.prod (by simp [PreS.list])); have N9 := Lib.hid (hx x.epoch (by simp [PreS.list])); have N10 := Lib.hid (hx x.seq (by simp [PreS.list])); have N11 := Lib.hid (hx x.count (by simp [PreS.list])); have HS := Lib.hid (sumItem_range x.sum); clear h hr hx; go_enter Tryz.func127, Tryz.ntmps127; unfold pv
 go_wp2_with (first
  | (go_at_call 32; refine (so_int _ _ _ _ (by first | exact N0.out | exact N1.out | exact N2.out | exact N3.out | exact N4.out | exact N5.out | exact N6.out | exact N7.out | exact N8.out | exact N9.out | exact N10.out | exact N11.out | decide) stQ (by repeat (first | exact OutS.ok_mono HR.out (by decide) | with_reducible refine OutS.okI ?_))).mono ?_; rintro e wn ⟨rfl, h⟩; replace H := Lib.hid h; clear h; have c0 := H.out.cellOf (b := w.heap.size) (c := #[.int .i64 x.base, .int .i64 x.len, .int .i64 x.leader, .int .i64 x.sum, .int .i64 x.attr, .int .i64 x.last, .int .i64 x.first, .int .i64 x.maxt, .int .i64 x.prod, .int .i64 x.epoch, .int .i64 x.seq, .int .i64 x.count]) (T := 154) (by simp) 0; have c1 := H.out.cellOf (b := w.heap.size) (c := #[.int .i64 x.base, .int .i64 x.len, .int .i64 x.leader, .int .i64 x.sum, .int .i64 x.attr, .int .i64 x.last, .int .i64 x.first, .int .i64 x.maxt, .int .i64 x.prod, .int .i64 x.epoch, .int .i64 x.seq, .int .i64 x.count]) (T := 154) (by simp) 1; have c2 := H.out.cellOf (b := w.heap.size) (c := #[.int .i64 x.base, .int .i64 x.len, .int .i64 x.leader, .int .i64 x.sum, .int .i64 x.attr, .int .i64 x.last, .int .i64 x.first, .int .i64 x.maxt, .int .i64 x.prod, .int .i64 x.epoch, .int .i64 x.seq, .int .i64 x.count]) (T := 154) (by simp) 2; have c3 := H.out.cellOf (b := w.heap.size) (c := #[.int .i64 x.base, .int .i64 x.len, .int .i64 x.leader, .int .i64 x.sum, .int .i64 x.attr, .int .i64 x.last, .int .i64 x.first, .int .i64 x.maxt, .int .i64 x.prod, .int .i64 x.epoch, .int .i64 x.seq, .int .i64 x.count]) (T := 154) (by simp) 3; have c4 := H.out.cellOf (b := w.heap.size) (c := #[.int .i64 x.base, .int .i64 x.len, .int .i64 x.leader, .int .i64 x.sum, .int .i64 x.attr, .int .i64 x.last, .int .i64 x.first, .int .i64 x.maxt, .int .i64 x.prod, .int .i64 x.epoch, .int .i64 x.seq, .int .i64 x.count]) (T := 154) (by simp) 4; have c5 := H.out.cellOf (b := w.heap.size) (c := #[.int .i64 x.base, .int .i64 x.len, .int .i64 x.leader, .int .i64 x.sum, .int .i64 x.attr, .int .i64 x.last, .int .i64 x.first, .int .i64 x.maxt, .int .i64 x.prod, .int .i64 x.epoch, .int .i64 x.seq, .int .i64 x.count]) (T := 154) (by simp) 5; have c6 := H.out.cellOf (b := w.heap.size) (c := #[.int .i64 x.base, .int .i64 x.len, .int .i64 x.leader, .int .i64 x.sum, .int .i64 x.attr, .int .i64 x.last, .int .i64 x.first, .int .i64 x.maxt, .int .i64 x.prod, .int .i64 x.epoch, .int .i64 x.seq, .int .i64 x.count]) (T := 154) (by simp) 6; have c7 := H.out.cellOf (b := w.heap.size) (c := #[.int .i64 x.base, .int .i64 x.len, .int .i64 x.leader, .int .i64 x.sum, .int .i64 x.attr, .int .i64 x.last, .int .i64 x.first, .int .i64 x.maxt, .int .i64 x.prod, .int .i64 x.epoch, .int .i64 x.seq, .int .i64 x.count]) (T := 154) (by simp) 7; have c8 := H.out.cellOf (b := w.heap.size) (c := #[.int .i64 x.base, .int .i64 x.len, .int .i64 x.leader, .int .i64 x.sum, .int .i64 x.attr, .int .i64 x.last, .int .i64 x.first, .int .i64 x.maxt, .int .i64 x.prod, .int .i64 x.epoch, .int .i64 x.seq, .int .i64 x.count]) (T := 154) (by simp) 8; have c9 := H.out.cellOf (b := w.heap.size) (c := #[.int .i64 x.base, .int .i64 x.len, .int .i64 x.leader, .int .i64 x.sum, .int .i64 x.attr, .int .i64 x.last, .int .i64 x.first, .int .i64 x.maxt, .int .i64 x.prod, .int .i64 x.epoch, .int .i64 x.seq, .int .i64 x.count]) (T := 154) (by simp) 9; have c10 := H.out.cellOf (b := w.heap.size) (c := #[.int .i64 x.base, .int .i64 x.len, .int .i64 x.leader, .int .i64 x.sum, .int .i64 x.attr, .int .i64 x.last, .int .i64 x.first, .int .i64 x.maxt, .int .i64 x.prod, .int .i64 x.epoch, .int .i64 x.seq, .int .i64 x.count]) (T := 154) (by simp) 10; have c11 := H.out.cellOf (b := w.heap.size) (c := #[.int .i64 x.base, .int .i64 x.len, .int .i64 x.leader, .int .i64 x.sum, .int .i64 x.attr, .int .i64 x.last, .int .i64 x.first, .int .i64 x.maxt, .int .i64 x.prod, .int .i64 x.epoch, .int .i64 x.seq, .int .i64 x.count]) (T := 154) (by simp) 11; simp at c0 c1 c2 c3 c4 c5 c6 c7 c8 c9 c10 c11)
  | (go_at_call 157; refine (prefix_putSum _ _ _ (by first | exact N0.out | exact N1.out | exact N2.out | exact N3.out | exact N4.out | exact N5.out | exact N6.out | exact N7.out | exact N8.out | exact N9.out | exact N10.out | exact N11.out | decide) stQ (by repeat (first | exact OutS.ok_mono HR.out (by decide) | with_reducible refine OutS.okI ?_))).mono ?_; rintro e wn ⟨rfl, h⟩; replace H := Lib.hid h; clear h; have c0 := H.out.cellOf (b := w.heap.size) (c := #[.int .i64 x.base, .int .i64 x.len, .int .i64 x.leader, .int .i64 x.sum, .int .i64 x.attr, .int .i64 x.last, .int .i64 x.first, .int .i64 x.maxt, .int .i64 x.prod, .int .i64 x.epoch, .int .i64 x.seq, .int .i64 x.count]) (T := 154) (by simp) 0; have c1 := H.out.cellOf (b := w.heap.size) (c := #[.int .i64 x.base, .int .i64 x.len, .int .i64 x.leader, .int .i64 x.sum, .int .i64 x.attr, .int .i64 x.last, .int .i64 x.first, .int .i64 x.maxt, .int .i64 x.prod, .int .i64 x.epoch, .int .i64 x.seq, .int .i64 x.count]) (T := 154) (by simp) 1; have c2 := H.out.cellOf (b := w.heap.size) (c := #[.int .i64 x.base, .int .i64 x.len, .int .i64 x.leader, .int .i64 x.sum, .int .i64 x.attr, .int .i64 x.last, .int .i64 x.first, .int .i64 x.maxt, .int .i64 x.prod, .int .i64 x.epoch, .int .i64 x.seq, .int .i64 x.count]) (T := 154) (by simp) 2; have c3 := H.out.cellOf (b := w.heap.size) (c := #[.int .i64 x.base, .int .i64 x.len, .int .i64 x.leader, .int .i64 x.sum, .int .i64 x.attr, .int .i64 x.last, .int .i64 x.first, .int .i64 x.maxt, .int .i64 x.prod, .int .i64 x.epoch, .int .i64 x.seq, .int .i64 x.count]) (T := 154) (by simp) 3; have c4 := H.out.cellOf (b := w.heap.size) (c := #[.int .i64 x.base, .int .i64 x.len, .int .i64 x.leader, .int .i64 x.sum, .int .i64 x.attr, .int .i64 x.last, .int .i64 x.first, .int .i64 x.maxt, .int .i64 x.prod, .int .i64 x.epoch, .int .i64 x.seq, .int .i64 x.count]) (T := 154) (by simp) 4; have c5 := H.out.cellOf (b := w.heap.size) (c := #[.int .i64 x.base, .int .i64 x.len, .int .i64 x.leader, .int .i64 x.sum, .int .i64 x.attr, .int .i64 x.last, .int .i64 x.first, .int .i64 x.maxt, .int .i64 x.prod, .int .i64 x.epoch, .int .i64 x.seq, .int .i64 x.count]) (T := 154) (by simp) 5; have c6 := H.out.cellOf (b := w.heap.size) (c := #[.int .i64 x.base, .int .i64 x.len, .int .i64 x.leader, .int .i64 x.sum, .int .i64 x.attr, .int .i64 x.last, .int .i64 x.first, .int .i64 x.maxt, .int .i64 x.prod, .int .i64 x.epoch, .int .i64 x.seq, .int .i64 x.count]) (T := 154) (by simp) 6; have c7 := H.out.cellOf (b := w.heap.size) (c := #[.int .i64 x.base, .int .i64 x.len, .int .i64 x.leader, .int .i64 x.sum, .int .i64 x.attr, .int .i64 x.last, .int .i64 x.first, .int .i64 x.maxt, .int .i64 x.prod, .int .i64 x.epoch, .int .i64 x.seq, .int .i64 x.count]) (T := 154) (by simp) 7; have c8 := H.out.cellOf (b := w.heap.size) (c := #[.int .i64 x.base, .int .i64 x.len, .int .i64 x.leader, .int .i64 x.sum, .int .i64 x.attr, .int .i64 x.last, .int .i64 x.first, .int .i64 x.maxt, .int .i64 x.prod, .int .i64 x.epoch, .int .i64 x.seq, .int .i64 x.count]) (T := 154) (by simp) 8; have c9 := H.out.cellOf (b := w.heap.size) (c := #[.int .i64 x.base, .int .i64 x.len, .int .i64 x.leader, .int .i64 x.sum, .int .i64 x.attr, .int .i64 x.last, .int .i64 x.first, .int .i64 x.maxt, .int .i64 x.prod, .int .i64 x.epoch, .int .i64 x.seq, .int .i64 x.count]) (T := 154) (by simp) 9; have c10 := H.out.cellOf (b := w.heap.size) (c := #[.int .i64 x.base, .int .i64 x.len, .int .i64 x.leader, .int .i64 x.sum, .int .i64 x.attr, .int .i64 x.last, .int .i64 x.first, .int .i64 x.maxt, .int .i64 x.prod, .int .i64 x.epoch, .int .i64 x.seq, .int .i64 x.count]) (T := 154) (by simp) 10; have c11 := H.out.cellOf (b := w.heap.size) (c := #[.int .i64 x.base, .int .i64 x.len, .int .i64 x.leader, .int .i64 x.sum, .int .i64 x.attr, .int .i64 x.last, .int .i64 x.first, .int .i64 x.maxt, .int .i64 x.prod, .int .i64 x.epoch, .int .i64 x.seq, .int .i64 x.count]) (T := 154) (by simp) 11; simp at c0 c1 c2 c3 c4 c5 c6 c7 c8 c9 c10 c11))
 go_end0; exact ⟨rfl, H.out.p1.drop⟩
theorem raw12 {W0 w : World} {K : Know} {L : List Res} {b : Nat} {T : TypeId} {v0 v1 v2 v3 v4 v5 v6 v7 v8 v9 v10 v11 : Value} (h : St W0 w K (.raw b #[v0, v1, v2, v3, v4, v5, v6, v7, v8, v9, v10, v11] T :: L)) :
  w.cell? ⟨b, 0, none⟩ = some v0 ∧ w.cell? ⟨b, 1, none⟩ = some v1 ∧ w.cell? ⟨b, 2, none⟩ = some v2 ∧ w.cell? ⟨b, 3, none⟩ = some v3 ∧ w.cell? ⟨b, 4, none⟩ = some v4 ∧ w.cell? ⟨b, 5, none⟩ = some v5 ∧ w.cell? ⟨b, 6, none⟩ = some v6 ∧ w.cell? ⟨b, 7, none⟩ = some v7 ∧ w.cell? ⟨b, 8, none⟩ = some v8 ∧ w.cell? ⟨b, 9, none⟩ = some v9 ∧ w.cell? ⟨b, 10, none⟩ = some v10 ∧ w.cell? ⟨b, 11, none⟩ = some v11 ∧
  w.frozen? ⟨b, 0, none⟩ = false ∧ w.frozen? ⟨b, 1, none⟩ = false ∧ w.frozen? ⟨b, 2, none⟩ = false ∧ w.frozen? ⟨b, 3, none⟩ = false ∧ w.frozen? ⟨b, 4, none⟩ = false ∧ w.frozen? ⟨b, 5, none⟩ = false ∧ w.frozen? ⟨b, 6, none⟩ = false ∧ w.frozen? ⟨b, 7, none⟩ = false ∧ w.frozen? ⟨b, 8, none⟩ = false ∧ w.frozen? ⟨b, 9, none⟩ = false ∧ w.frozen? ⟨b, 10, none⟩ = false ∧ w.frozen? ⟨b, 11, none⟩ = false :=
 ⟨h.rawCell 0, h.rawCell 1, h.rawCell 2, h.rawCell 3, h.rawCell 4, h.rawCell 5, h.rawCell 6, h.rawCell 7, h.rawCell 8, h.rawCell 9, h.rawCell 10, h.rawCell 11, h.rawFree 0, h.rawFree 1, h.rawFree 2, h.rawFree 3, h.rawFree 4, h.rawFree 5, h.rawFree 6, h.rawFree 7, h.rawFree 8, h.rawFree 9, h.rawFree 10, h.rawFree 11⟩

def preOfL : List Int → PreS × Int
  | [a0, a1, a2, a3, a4, a5, a6, a7, a8, a9, a10, a11, a12] => (⟨a0, a1, a2, a4 % 4294967296, a5, a6, a7, a8, a9, a10, a11, a12⟩, a3)
  | _ => (PreS.zero, 0)
def preChk (x : PreS) (m : Int) (i : InS) : InS :=
  (fun j2 : InS => if x.count < 0 then j2.fail 10 else j2) ((fun j1 : InS => if x.len < 49 then j1.fail 4 else j1) (if m = 2 then i else i.fail 6))
def InS.pre (i : InS) : PreS × InS :=
  (fun j : InS => (if j.err = 0 then (preOfL (InS.ints preSizes i).1).1 else PreS.zero, j)) (preChk (preOfL (InS.ints preSizes i).1).1 (preOfL (InS.ints preSizes i).1).2 (InS.ints preSizes i).2)
set_option maxHeartbeats 1000000 in
set_option maxRecDepth 100000 in
theorem bat_within (n lo hi : Int) (r : Bool) (hr : decide (lo ≤ n ∧ n ≤ hi) = r) {W0 w : World} {K : Know} {L : List Res} (h : St W0 w K L) :
   Calls Tryz.prog 150 #[.int .i64 n, .int .i64 lo, .int .i64 hi] w fun en w' => en = .returned (.bool r) ∧ St W0 w' K L := by
 have H := Lib.hid h; clear h
 by_cases h1 : lo ≤ n
 · have d1 : decide (lo ≤ n) = true := decide_eq_true h1
   by_cases h2 : n ≤ hi
   · have d2 : decide (n ≤ hi) = true := decide_eq_true h2; obtain rfl : true = r := (decide_eq_true ⟨h1, h2⟩).symm.trans hr; clear h1 h2; go_enter Tryz.func150, Tryz.ntmps150; go_wp2; go_ret; exact ⟨rfl, H.out⟩
   · have d2 : decide (n ≤ hi) = false := decide_eq_false h2; obtain rfl : false = r := (decide_eq_false (fun x => h2 x.2)).symm.trans hr; clear h1 h2; go_enter Tryz.func150, Tryz.ntmps150; go_wp2; go_ret; exact ⟨rfl, H.out⟩
 · have d1 : decide (lo ≤ n) = false := decide_eq_false h1; obtain rfl : false = r := (decide_eq_false (fun x => h1 x.1)).symm.trans hr; clear h1; go_enter Tryz.func150, Tryz.ntmps150; go_wp2; go_ret; exact ⟨rfl, H.out⟩

theorem zq1 {p : Prop} (h : p := by
  go_wp2_with (first
  | (go_at_call 150; (with_reducible refine (bat_within leader (-1) 2147483647 _ HW1.out H.out).mono ?_); rintro e_ wn ⟨rfl, h⟩; replace H := Lib.hid h; clear h; obtain ⟨x0, x1, x2, x3, x4, x5, x6, x7, x8, x9, x10, x11, y0, y1, y2, y3, y4, y5, y6, y7, y8, y9, y10, y11⟩ := raw12 (b := hb) (H.out))
  | (go_at_call 150; (with_reducible refine (bat_within last 0 2147483647 _ HW2.out H.out).mono ?_); rintro e_ wn ⟨rfl, h⟩; replace H := Lib.hid h; clear h; obtain ⟨x0, x1, x2, x3, x4, x5, x6, x7, x8, x9, x10, x11, y0, y1, y2, y3, y4, y5, y6, y7, y8, y9, y10, y11⟩ := raw12 (b := hb) (H.out)))
  go_ret; exact ⟨rfl, H.out.drop⟩) : p := h
set_option maxHeartbeats 1000000 in
set_option maxRecDepth 100000 in
theorem bat_placed (base leader : Int) (app txn ctl : Bool) (last first maxt prod epoch sq : Int) (rv : Value) (r : Bool) (hr : decide (0 ≤ base ∧ (-1 ≤ leader ∧ leader ≤ 2147483647) ∧ (0 ≤ last ∧ last ≤ 2147483647) ∧ base ≤ 9223372036854775807 - last ∧ 0 ≤ first ∧ 0 ≤ maxt) = r) {W0 w : World} {K : Know} {L : List Res} (h : St W0 w K L) :
  Calls Tryz.prog 120 #[.agg #[.int .i64 base, .int .i64 leader, .bool app, .bool txn, .bool ctl, .int .i64 last, .int .i64 first, .int .i64 maxt, .int .i64 prod, .int .i64 epoch, .int .i64 sq, rv]] w fun en w' => en = .returned (.bool r) ∧ St W0 w' K L := by
 have h1 := h.allocRaw #[.int .i64 base, .int .i64 leader, .bool app, .bool txn, .bool ctl, .int .i64 last, .int .i64 first, .int .i64 maxt, .int .i64 prod, .int .i64 epoch, .int .i64 sq, rv] 58; obtain ⟨hb, hhb⟩ : ∃ b, w.heap.size = b := ⟨_, rfl⟩; rw [hhb] at h1; obtain ⟨x0, x1, x2, x3, x4, x5, x6, x7, x8, x9, x10, x11, y0, y1, y2, y3, y4, y5, y6, y7, y8, y9, y10, y11⟩ := raw12 (b := hb) (h1); have H := Lib.hid h1; clear h h1
 by_cases c0 : 0 ≤ base
 case neg =>
  obtain rfl : false = r := by rw [← hr]; exact (decide_eq_false (fun x => c0 x.1)).symm
  have d0 : decide (0 ≤ base) = false := decide_eq_false c0; clear c0; go_enter Tryz.func120, Tryz.ntmps120
  exact zq1
 by_cases c1 : -1 ≤ leader ∧ leader ≤ 2147483647
 case neg =>
  obtain rfl : false = r := by rw [← hr]; exact (decide_eq_false (fun x => c1 x.2.1)).symm
  have d0 : decide (0 ≤ base) = true := decide_eq_true c0; have HW1 := Lib.hid (show decide (-1 ≤ leader ∧ leader ≤ 2147483647) = false from decide_eq_false c1); clear c0 c1; go_enter Tryz.func120, Tryz.ntmps120
  exact zq1
 by_cases c2 : 0 ≤ last ∧ last ≤ 2147483647
 case neg =>
  obtain rfl : false = r := by rw [← hr]; exact (decide_eq_false (fun x => c2 x.2.2.1)).symm
  have d0 : decide (0 ≤ base) = true := decide_eq_true c0; have HW1 := Lib.hid (show decide (-1 ≤ leader ∧ leader ≤ 2147483647) = true from decide_eq_true c1); have HW2 := Lib.hid (show decide (0 ≤ last ∧ last ≤ 2147483647) = false from decide_eq_false c2); clear c0 c1 c2; go_enter Tryz.func120, Tryz.ntmps120
  exact zq1
 by_cases c3 : base ≤ 9223372036854775807 - last
 case neg =>
  obtain rfl : false = r := by rw [← hr]; exact (decide_eq_false (fun x => c3 x.2.2.2.1)).symm
  have d0 : decide (0 ≤ base) = true := decide_eq_true c0; have HW1 := Lib.hid (show decide (-1 ≤ leader ∧ leader ≤ 2147483647) = true from decide_eq_true c1); have HW2 := Lib.hid (show decide (0 ≤ last ∧ last ≤ 2147483647) = true from decide_eq_true c2); obtain ⟨ml, hml⟩ : ∃ ml, 9223372036854775807 - last = ml := ⟨_, rfl⟩; have wl : wrap64 (9223372036854775807 - last) = ml := by rw [← hml]; unfold wrap64; omega
  have wl2 : IntKind.i64.wrap (9223372036854775807 - last) = ml := by rw [← hml]; exact IntWalk.i64_in _ (by omega)
  have d3 : decide (base ≤ ml) = false := by rw [← hml]; exact decide_eq_false c3
  clear c0 c1 c2 c3 hml; go_enter Tryz.func120, Tryz.ntmps120
  exact zq1
 by_cases c4 : 0 ≤ first
 case neg =>
  obtain rfl : false = r := by rw [← hr]; exact (decide_eq_false (fun x => c4 x.2.2.2.2.1)).symm
  have d0 : decide (0 ≤ base) = true := decide_eq_true c0; have HW1 := Lib.hid (show decide (-1 ≤ leader ∧ leader ≤ 2147483647) = true from decide_eq_true c1); have HW2 := Lib.hid (show decide (0 ≤ last ∧ last ≤ 2147483647) = true from decide_eq_true c2); obtain ⟨ml, hml⟩ : ∃ ml, 9223372036854775807 - last = ml := ⟨_, rfl⟩; have wl : wrap64 (9223372036854775807 - last) = ml := by rw [← hml]; unfold wrap64; omega
  have wl2 : IntKind.i64.wrap (9223372036854775807 - last) = ml := by rw [← hml]; exact IntWalk.i64_in _ (by omega)
  have d3 : decide (base ≤ ml) = true := by rw [← hml]; exact decide_eq_true c3
  have d4 : decide (0 ≤ first) = false := decide_eq_false c4; clear c0 c1 c2 c3 c4 hml; go_enter Tryz.func120, Tryz.ntmps120
  exact zq1
 by_cases c5 : 0 ≤ maxt
 case neg =>
  obtain rfl : false = r := by rw [← hr]; exact (decide_eq_false (fun x => c5 x.2.2.2.2.2)).symm
  have d0 : decide (0 ≤ base) = true := decide_eq_true c0; have HW1 := Lib.hid (show decide (-1 ≤ leader ∧ leader ≤ 2147483647) = true from decide_eq_true c1); have HW2 := Lib.hid (show decide (0 ≤ last ∧ last ≤ 2147483647) = true from decide_eq_true c2); obtain ⟨ml, hml⟩ : ∃ ml, 9223372036854775807 - last = ml := ⟨_, rfl⟩; have wl : wrap64 (9223372036854775807 - last) = ml := by rw [← hml]; unfold wrap64; omega
  have wl2 : IntKind.i64.wrap (9223372036854775807 - last) = ml := by rw [← hml]; exact IntWalk.i64_in _ (by omega)
  have d3 : decide (base ≤ ml) = true := by rw [← hml]; exact decide_eq_true c3
  have d4 : decide (0 ≤ first) = true := decide_eq_true c4; have d5 : decide (0 ≤ maxt) = false := decide_eq_false c5; clear c0 c1 c2 c3 c4 c5 hml; go_enter Tryz.func120, Tryz.ntmps120
  exact zq1
 obtain rfl : true = r := by rw [← hr]; exact (decide_eq_true ⟨c0, c1, c2, c3, c4, c5⟩).symm
 have d0 : decide (0 ≤ base) = true := decide_eq_true c0; have HW1 := Lib.hid (show decide (-1 ≤ leader ∧ leader ≤ 2147483647) = true from decide_eq_true c1); have HW2 := Lib.hid (show decide (0 ≤ last ∧ last ≤ 2147483647) = true from decide_eq_true c2); obtain ⟨ml, hml⟩ : ∃ ml, 9223372036854775807 - last = ml := ⟨_, rfl⟩; have wl : wrap64 (9223372036854775807 - last) = ml := by rw [← hml]; unfold wrap64; omega
 have wl2 : IntKind.i64.wrap (9223372036854775807 - last) = ml := by rw [← hml]; exact IntWalk.i64_in _ (by omega)
 have d3 : decide (base ≤ ml) = true := by rw [← hml]; exact decide_eq_true c3
 have d4 : decide (0 ≤ first) = true := decide_eq_true c4; have d5 : decide (0 ≤ maxt) = true := decide_eq_true c5; clear c0 c1 c2 c3 c4 c5 hml; go_enter Tryz.func120, Tryz.ntmps120
 go_wp2_with (first
 | (go_at_call 150; (with_reducible refine (bat_within leader (-1) 2147483647 _ HW1.out H.out).mono ?_); rintro e_ wn ⟨rfl, h⟩; replace H := Lib.hid h; clear h; obtain ⟨x0, x1, x2, x3, x4, x5, x6, x7, x8, x9, x10, x11, y0, y1, y2, y3, y4, y5, y6, y7, y8, y9, y10, y11⟩ := raw12 (b := hb) (H.out))
 | (go_at_call 150; (with_reducible refine (bat_within last 0 2147483647 _ HW2.out H.out).mono ?_); rintro e_ wn ⟨rfl, h⟩; replace H := Lib.hid h; clear h; obtain ⟨x0, x1, x2, x3, x4, x5, x6, x7, x8, x9, x10, x11, y0, y1, y2, y3, y4, y5, y6, y7, y8, y9, y10, y11⟩ := raw12 (b := hb) (H.out)))
 go_ret; exact ⟨rfl, H.out.drop⟩

set_option maxHeartbeats 1000000 in
set_option maxRecDepth 100000 in
theorem bat_signed (base leader : Int) (app txn ctl : Bool) (last first maxt prod epoch sq : Int) (rv : Value) (r : Bool) (hr : (if prod = -1 then decide (epoch = -1 ∧ sq = -1 ∧ txn = false) else if prod < 0 ∨ ¬ (0 ≤ epoch ∧ epoch ≤ 32767) then false else if ctl then decide (sq = -1) else decide (0 ≤ sq ∧ sq ≤ 2147483647)) = r) {W0 w : World} {K : Know} {L : List Res} (h : St W0 w K L) :
   Calls Tryz.prog 121 #[.agg #[.int .i64 base, .int .i64 leader, .bool app, .bool txn, .bool ctl, .int .i64 last, .int .i64 first, .int .i64 maxt, .int .i64 prod, .int .i64 epoch, .int .i64 sq, rv]] w fun en w' => en = .returned (.bool r) ∧ St W0 w' K L := by
 have h1 := h.allocRaw #[.int .i64 base, .int .i64 leader, .bool app, .bool txn, .bool ctl, .int .i64 last, .int .i64 first, .int .i64 maxt, .int .i64 prod, .int .i64 epoch, .int .i64 sq, rv] 58; obtain ⟨hb, hhb⟩ : ∃ b, w.heap.size = b := ⟨_, rfl⟩; rw [hhb] at h1; obtain ⟨x0, x1, x2, x3, x4, x5, x6, x7, x8, x9, x10, x11, y0, y1, y2, y3, y4, y5, y6, y7, y8, y9, y10, y11⟩ := raw12 (b := hb) (h1); have H := Lib.hid h1; clear h h1
 by_cases c0 : prod = -1
 · rw [if_pos c0] at hr; have b0 : (prod == -1) = true := by rw [c0]; rfl
   subst c0
   by_cases c1 : epoch = -1
   · subst c1
     by_cases c2 : sq = -1
     · subst c2; obtain rfl : (!txn) = r := by rw [← hr]; cases txn <;> rfl
       clear hr; go_enter Tryz.func121, Tryz.ntmps121; go_wp2; go_ret; exact ⟨rfl, H.out.drop⟩
     · obtain rfl : false = r := by rw [← hr]; exact (decide_eq_false (fun x => c2 x.2.1)).symm
       have b2 : (sq == -1) = false := by rw [beq_eq_false_iff_ne]; exact c2
       clear hr c2; go_enter Tryz.func121, Tryz.ntmps121; go_wp2; go_ret; exact ⟨rfl, H.out.drop⟩
   · obtain rfl : false = r := by rw [← hr]; exact (decide_eq_false (fun x => c1 x.1)).symm
     have b1 : (epoch == -1) = false := by rw [beq_eq_false_iff_ne]; exact c1
     clear hr c1; go_enter Tryz.func121, Tryz.ntmps121; go_wp2; go_ret; exact ⟨rfl, H.out.drop⟩
 · rw [if_neg c0] at hr; have b0 : (prod == -1) = false := by rw [beq_eq_false_iff_ne]; exact c0
   by_cases c1 : prod < 0
   · rw [if_pos (.inl c1)] at hr; subst hr; have d1 : decide (prod < 0) = true := decide_eq_true c1; clear c0 c1; go_enter Tryz.func121, Tryz.ntmps121; go_wp2; go_ret; exact ⟨rfl, H.out.drop⟩
   · have d1 : decide (prod < 0) = false := decide_eq_false c1
     by_cases c2 : 0 ≤ epoch ∧ epoch ≤ 32767
     · rw [if_neg (by rintro (x | x); exact c1 x; exact x c2)] at hr; have HE := Lib.hid (show decide (0 ≤ epoch ∧ epoch ≤ 32767) = true from decide_eq_true c2); clear c0 c1 c2
       cases ctl with
       | true =>
        obtain rfl : (sq == -1) = r := by rw [← hr]; rfl
        clear hr; go_enter Tryz.func121, Tryz.ntmps121; go_wp2_with (first | (go_at_call 150; (with_reducible refine (bat_within epoch 0 32767 _ HE.out H.out).mono ?_); rintro e_ wn ⟨rfl, h⟩; replace H := Lib.hid h; clear h; obtain ⟨x0, x1, x2, x3, x4, x5, x6, x7, x8, x9, x10, x11, y0, y1, y2, y3, y4, y5, y6, y7, y8, y9, y10, y11⟩ := raw12 (b := hb) (H.out)) | fail); go_ret; exact ⟨rfl, H.out.drop⟩
       | false =>
        have HS := Lib.hid (show decide (0 ≤ sq ∧ sq ≤ 2147483647) = r from hr); clear hr; go_enter Tryz.func121, Tryz.ntmps121; go_wp2_with (first | (go_at_call 150; (with_reducible refine (bat_within epoch 0 32767 _ HE.out H.out).mono ?_); rintro e_ wn ⟨rfl, h⟩; replace H := Lib.hid h; clear h; obtain ⟨x0, x1, x2, x3, x4, x5, x6, x7, x8, x9, x10, x11, y0, y1, y2, y3, y4, y5, y6, y7, y8, y9, y10, y11⟩ := raw12 (b := hb) (H.out)) | (go_at_call 150; (with_reducible refine (bat_within sq 0 2147483647 _ HS.out H.out).mono ?_); rintro e_ wn ⟨rfl, h⟩; replace H := Lib.hid h; clear h; obtain ⟨x0, x1, x2, x3, x4, x5, x6, x7, x8, x9, x10, x11, y0, y1, y2, y3, y4, y5, y6, y7, y8, y9, y10, y11⟩ := raw12 (b := hb) (H.out))); go_ret; exact ⟨rfl, H.out.drop⟩
     · rw [if_pos (.inr c2)] at hr; subst hr; have HE := Lib.hid (show decide (0 ≤ epoch ∧ epoch ≤ 32767) = false from decide_eq_false c2); clear c0 c1 c2; go_enter Tryz.func121, Tryz.ntmps121; go_wp2_with (first | (go_at_call 150; (with_reducible refine (bat_within epoch 0 32767 _ HE.out H.out).mono ?_); rintro e_ wn ⟨rfl, h⟩; replace H := Lib.hid h; clear h; obtain ⟨x0, x1, x2, x3, x4, x5, x6, x7, x8, x9, x10, x11, y0, y1, y2, y3, y4, y5, y6, y7, y8, y9, y10, y11⟩ := raw12 (b := hb) (H.out)) | fail); go_ret; exact ⟨rfl, H.out.drop⟩
set_option maxHeartbeats 1000000 in
set_option maxRecDepth 100000 in
theorem bat_checkRows (base leader : Int) (app txn ctl : Bool) (last first maxt prod epoch sq : Int) (l : List (RecS × Value)) (q : Option Addr) (cap : Nat) (e : Int) (he : BatS.rows ⟨base, leader, app, txn, ctl, last, first, maxt, prod, epoch, sq, l.map (·.1)⟩ = e) (hf : 0 ≤ first ∧ first ≤ 9223372036854775807) (hfit : FitB l) (hll : l.length ≤ 1000000) {W0 w : World} {K : Know} {L : List Res} (hk : K.has (Know.recs (.slice q l.length cap) l)) (h : St W0 w K L) :
  Calls Tryz.prog 124 #[.agg #[.int .i64 base, .int .i64 leader, .bool app, .bool txn, .bool ctl, .int .i64 last, .int .i64 first, .int .i64 maxt, .int .i64 prod, .int .i64 epoch, .int .i64 sq, .slice q l.length cap]] w fun en w' => en = .returned (.int .i64 e) ∧ St W0 w' K L := by
 obtain ⟨tot, htot⟩ : ∃ t, rowsC first last (l.map (·.1)) (-1) first = t := ⟨_, rfl⟩; have HE := Lib.hid (show rowsE app maxt tot = e by rw [← he, ← htot]; rfl); have HT := Lib.hid htot; have HK := Lib.hid hk; have HFT := Lib.hid hfit; have HF := Lib.hid hf; obtain ⟨nf, hnf⟩ : ∃ m, -first = m := ⟨_, rfl⟩; obtain ⟨mf, hmf⟩ : ∃ m, 9223372036854775807 - first = m := ⟨_, rfl⟩; have HNF := Lib.hid hnf; have HMF := Lib.hid hmf; have n1 : wrap64 (-first) = nf := by rw [← hnf]; unfold wrap64; omega
 have n2 : IntKind.i64.wrap (-first) = nf := by rw [← hnf]; exact IntWalk.i64_in _ (by omega)
 have m1 : wrap64 (9223372036854775807 - first) = mf := by rw [← hmf]; unfold wrap64; omega
 have m2 : IntKind.i64.wrap (9223372036854775807 - first) = mf := by rw [← hmf]; exact IntWalk.i64_in _ (by omega)
 have h1 := h.allocRaw #[.int .i64 base, .int .i64 leader, .bool app, .bool txn, .bool ctl, .int .i64 last, .int .i64 first, .int .i64 maxt, .int .i64 prod, .int .i64 epoch, .int .i64 sq, .slice q l.length cap] 58; obtain ⟨hb, hhb⟩ : ∃ b, w.heap.size = b := ⟨_, rfl⟩; rw [hhb] at h1; obtain ⟨x0, x1, x2, x3, x4, x5, x6, x7, x8, x9, x10, x11, y0, y1, y2, y3, y4, y5, y6, y7, y8, y9, y10, y11⟩ := raw12 (b := hb) (h1); have H := Lib.hid h1; clear h h1 hk hfit he htot hnf hmf hf; go_enter Tryz.func124, Tryz.ntmps124; go_upto_region 1 with (fail); have hs := H.out.drew; clear H; have H := Lib.hid hs; clear hs
 go_region
 clear x0 y0 x1 y1 x2 y2 x3 y3 x4 y4 x5 y5 x6 y6 x7 y7 x8 y8 x9 y9 x10 y10 x11 y11; obtain ⟨x0, x1, x2, x3, x4, x5, x6, x7, x8, x9, x10, x11, y0, y1, y2, y3, y4, y5, y6, y7, y8, y9, y10, y11⟩ := raw12 (b := hb) (H.out); go_wp2; clear x0 y0 x1 y1 x2 y2 x3 y3 x4 y4 x5 y5 x6 y6 x7 y7 x8 y8 x9 y9 x10 y10 x11 y11; go_loopw [3, 4, 6, 12] (fun av gv _ iv wr => ∃ (k : Nat) (ah g : Int), k ≤ l.length ∧ av = .int .i64 ah ∧ gv = .int .i64 g ∧ iv = .int .i64 k ∧ Hid (rowsC first last ((l.map (·.1)).drop k) ah g = tot) ∧ St W0 wr K (.raw hb #[.int .i64 base, .int .i64 leader, .bool app, .bool txn, .bool ctl, .int .i64 last, .int .i64 first, .int .i64 maxt, .int .i64 prod, .int .i64 epoch, .int .i64 sq, .slice q l.length cap] 58 :: L)) (fun _ _ _ iv _ => l.length - (intOf iv).toNat)
 case atStart => exact ⟨0, -1, first, Nat.zero_le _, rfl, rfl, rfl, HT, H.out⟩
 case round =>
  obtain ⟨k, ah, g, hkl, rfl, rfl, rfl, HC, hst⟩ := hrel; clear H; have H := Lib.hid hst; clear hst
  by_cases hlt : k < l.length
  · have hd := drop_recs l k hlt _ rfl; obtain ⟨b, off, hqq⟩ := recs_at HK.out H.out (by omega); subst hqq; obtain ⟨⟨x, vx⟩, hx⟩ : ∃ x, l[k] = x := ⟨_, rfl⟩; have cc := recs_cell HK.out H.out k hlt (x, vx) hx; have hmem : (x, vx) ∈ l := hx ▸ List.getElem_mem hlt; have xf : x.R ∧ HFit x.hdrs ∧ x.sum ≤ 1000000 := HFT.out (x, vx) hmem; have xk : K.has (Know.flat RHdr vx 3 x.hdrs) := recs_hdrs HK.out hmem; obtain ⟨qx, capx, hvx⟩ := flat_form xk H.out; subst hvx; simp only at cc; obtain ⟨c0, c1, c2, c3, c4, c5, c6⟩ := cc; rw [← Nat.add_assoc] at c1 c2 c3 c4 c5 c6; have hx1 : l[k].1 = x := by rw [hx]
    have XF := Lib.hid xf; have XK := Lib.hid xk; have HX := Lib.hid hx1; clear xf xk hx1 hx hmem; obtain ⟨wE, hwE⟩ : ∃ b, wr.heap.size = b := ⟨_, rfl⟩; have hki : (k : Int) < (l.length : Int) := by omega
    have h := H.out.allocRaw #[.int .i64 x.time, .int .i64 x.off, .bool x.key.null, .string (bb x.key.data), .bool x.val.null, .string (bb x.val.data), .slice qx x.hdrs.length capx] 119; rw [hwE] at h; clear H; have H := Lib.hid h; clear h; rw [HX.out] at hd; have hc := HC.out; rw [hd, rowsC_cons] at hc; obtain ⟨ec0, ec1, ec2, ec3, ec4, ec5, ec6, ef0, ef1, ef2, ef3, ef4, ef5, ef6⟩ := raw7 (b := wE) (H.out); obtain ⟨x0, x1, x2, x3, x4, x5, x6, x7, x8, x9, x10, x11, y0, y1, y2, y3, y4, y5, y6, y7, y8, y9, y10, y11⟩ := raw12 (b := hb) (H.out.p1); clear hd
    by_cases c1 : x.off ≤ ah
    · have d1 : decide (x.off ≤ ah) = true := decide_eq_true c1; rw [if_pos (.inl c1)] at hc; obtain rfl : 13 = e := by have := HE.out; rw [← hc] at this; exact this
      clear c1 hc; go_wp2; go_ret; exact ⟨rfl, H.out.drop.drop⟩
    · have d1 : decide (x.off ≤ ah) = false := decide_eq_false c1
      by_cases c2 : last < x.off
      · have d2 : decide (last < x.off) = true := decide_eq_true c2; rw [if_pos (.inr c2)] at hc; obtain rfl : 13 = e := by have := HE.out; rw [← hc] at this; exact this
        clear c1 c2 hc; go_wp2; go_ret; exact ⟨rfl, H.out.drop.drop⟩
      · have d2 : decide (last < x.off) = false := decide_eq_false c2; rw [if_neg (by rintro (h | h); exact c1 h; exact c2 h)] at hc; clear c1 c2
        by_cases c3 : x.time < -first ∨ 9223372036854775807 - first < x.time
        · rw [if_pos c3] at hc; obtain rfl : 11 = e := by have := HE.out; rw [← hc] at this; exact this
          have HW := Lib.hid (show decide (nf ≤ x.time ∧ x.time ≤ mf) = false by
           rw [← HNF.out, ← HMF.out]
           exact decide_eq_false (by omega))
          clear c3 hc; go_wp2_with (go_at_call 150; (with_reducible refine (bat_within x.time nf mf false HW.out H.out).mono ?_); rintro e_ wn ⟨rfl, h⟩; replace H := Lib.hid h; clear h; obtain ⟨ec0, ec1, ec2, ec3, ec4, ec5, ec6, ef0, ef1, ef2, ef3, ef4, ef5, ef6⟩ := raw7 (b := wE) (H.out); obtain ⟨x0, x1, x2, x3, x4, x5, x6, x7, x8, x9, x10, x11, y0, y1, y2, y3, y4, y5, y6, y7, y8, y9, y10, y11⟩ := raw12 (b := hb) (H.out.p1)); go_ret; exact ⟨rfl, H.out.drop.drop⟩
        · rw [if_neg c3] at hc
          have HW := Lib.hid (show decide (nf ≤ x.time ∧ x.time ≤ mf) = true by
           rw [← HNF.out, ← HMF.out]
           exact decide_eq_true (by omega))
          obtain ⟨ft, hft⟩ : ∃ t, first + x.time = t := ⟨_, rfl⟩; have f1 : wrap64 (first + x.time) = ft := by have := HF.out; rw [← hft]; unfold wrap64; omega
          have f2 : IntKind.i64.wrap (first + x.time) = ft := by have := HF.out; rw [← hft]; exact IntWalk.i64_in _ (by omega)
          rw [hft] at hc; have HC2 := Lib.hid hc; have EM := Lib.hid (show max g ft = (if g < ft then ft else g) by rw [Int.max_def]; split <;> split <;> omega); clear c3 hc hft; go_upto_region 9 with (go_at_call 150; (with_reducible refine (bat_within x.time nf mf true HW.out H.out).mono ?_); rintro e_ wn ⟨rfl, h⟩; replace H := Lib.hid h; clear h; obtain ⟨ec0, ec1, ec2, ec3, ec4, ec5, ec6, ef0, ef1, ef2, ef3, ef4, ef5, ef6⟩ := raw7 (b := wE) (H.out); obtain ⟨x0, x1, x2, x3, x4, x5, x6, x7, x8, x9, x10, x11, y0, y1, y2, y3, y4, y5, y6, y7, y8, y9, y10, y11⟩ := raw12 (b := hb) (H.out.p1)); have hs := H.out.drew; clear H; have H := Lib.hid hs; clear hs x0 y0 x1 y1 x2 y2 x3 y3 x4 y4 x5 y5 x6 y6 x7 y7 x8 y8 x9 y9 x10 y10 x11 y11 ec0 ef0 ec1 ef1 ec2 ef2 ec3 ef3 ec4 ef4 ec5 ef5 ec6 ef6; obtain ⟨ec0, ec1, ec2, ec3, ec4, ec5, ec6, ef0, ef1, ef2, ef3, ef4, ef5, ef6⟩ := raw7 (b := wE) (H.out); obtain ⟨x0, x1, x2, x3, x4, x5, x6, x7, x8, x9, x10, x11, y0, y1, y2, y3, y4, y5, y6, y7, y8, y9, y10, y11⟩ := raw12 (b := hb) (H.out.p1); refine wp_region_held_drew (S := fun w' => w'.cell? ⟨wE, 0, none⟩ = some (.int .i64 x.time) ∧ w'.cell? ⟨wE, 1, none⟩ = some (.int .i64 x.off) ∧ w'.cell? ⟨hb, 6, none⟩ = some (.int .i64 first)) (by kernel_rfl) ⟨ec0, ec1, x6⟩ (fun hHeld => ?_); clear x0 y0 x1 y1 x2 y2 x3 y3 x4 y4 x5 y5 x6 y6 x7 y7 x8 y8 x9 y9 x10 y10 x11 y11 ec0 ef0 ec1 ef1 ec2 ef2 ec3 ef3 ec4 ef4 ec5 ef5 ec6 ef6 c0 c1 c2 c3 c4 c5 c6; refine tQ 0 ⟨some 37, .fieldAddr 119 (.tmp 6) 1, 0, _, _, none⟩ ?_; simp only [Act.put, sA, sB, sC]; refine tQ 1 ⟨some 38, .load 3 (.tmp 37), 3, _, _, none⟩ ?_; simp only [Act.put, sA, sB, sC]; refine tQ 2 ⟨some 39, .move (.tmp 4), 3, _, _, none⟩ ?_; simp only [Act.put, sA, sB, sC]; refine tQ 3 ⟨some 40, .fieldAddr 58 (.tmp 1) 6, 0, _, _, none⟩ ?_; simp only [Act.put, sA, sB, sC]; refine tQ 4 ⟨some 41, .load 3 (.tmp 40), 3, _, _, none⟩ ?_; simp only [Act.put, sA, sB, sC]; refine tQ 5 ⟨some 42, .fieldAddr 119 (.tmp 6) 0, 0, _, _, none⟩ ?_; simp only [Act.put, sA, sB, sC]; refine tQ 6 ⟨some 43, .load 3 (.tmp 42), 3, _, _, none⟩ ?_; simp only [Act.put, sA, sB, sC]; refine tQ 7 ⟨some 44, .binOp .add 3 (.tmp 41) (.tmp 43) 3, 3, _, _, none⟩ ?_; simp only [Act.put, sA, sB, sC]; refine tQ 8 ⟨some 45, .call { callee := .builtin .max, args := #[.tmp 39, .tmp 44], argTypes := #[3, 3] }, 3, _, _, none⟩ ?_; simp only [Act.put, sA, sB, sC]; refine tQ 9 ⟨some 3, .assign (.tmp 38), 3, _, _, none⟩ ?_; simp only [Act.put, sA, sB, sC]; refine tQ 10 ⟨some 4, .assign (.tmp 45), 3, _, _, none⟩ ?_; simp only [Act.put, sA, sB, sC]; refine wpAnyH_done (by kernel_rfl) ?_ _; clear hHeld; go_wp2_with fail; go_roundw
          case rel => exact ⟨k + 1, x.off, _, hlt, rfl, rfl, by go_num, Lib.hid (by rw [← EM.out]; exact HC2.out), H.out.drop⟩
          case measure => first | (simp [intOf]; done) | (simp [intOf]; omega)
  · obtain rfl : l.length = k := by omega
    have hc := HC.out; rw [List.drop_of_length_le (by simp)] at hc; have hc : Except.ok g = tot := hc; have hee := HE.out; rw [← hc] at hee; simp only [rowsE] at hee; obtain ⟨x0, x1, x2, x3, x4, x5, x6, x7, x8, x9, x10, x11, y0, y1, y2, y3, y4, y5, y6, y7, y8, y9, y10, y11⟩ := raw12 (b := hb) (H.out)
    cases app with
    | true =>
      obtain rfl : 0 = e := by rw [← hee]; rfl
      clear hc hee; go_wp2; go_ret; exact ⟨rfl, H.out.drop⟩
    | false =>
      by_cases c1 : maxt = g
      · subst c1; obtain rfl : 0 = e := by rw [← hee]; simp
        clear hc hee; go_wp2; go_ret; exact ⟨rfl, H.out.drop⟩
      · obtain rfl : 11 = e := by rw [← hee]; simp [c1]
        have b1 : (maxt == g) = false := by rw [beq_eq_false_iff_ne]; exact c1
        clear hc hee c1; go_wp2; go_ret; exact ⟨rfl, H.out.drop⟩
theorem zq2 {p : Prop} (h : p := by
  have hd := drop_recs l k hlt _ rfl; obtain ⟨b, off, hqq⟩ := recs_at HK.out H.out (by omega); subst hqq; obtain ⟨⟨x, vx⟩, hx⟩ : ∃ x, l[k] = x := ⟨_, rfl⟩; have cc := recs_cell HK.out H.out k hlt (x, vx) hx; have hmem : (x, vx) ∈ l := hx ▸ List.getElem_mem hlt; have xf : x.R ∧ HFit x.hdrs ∧ x.sum ≤ 1000000 := HFT.out (x, vx) hmem; have xk : K.has (Know.flat RHdr vx 3 x.hdrs) := recs_hdrs HK.out hmem; obtain ⟨qx, capx, hvx⟩ := flat_form xk H.out; subst hvx; simp only at cc; obtain ⟨c0, c1, c2, c3, c4, c5, c6⟩ := cc; rw [← Nat.add_assoc] at c1 c2 c3 c4 c5 c6; have hx1 : l[k].1 = x := by rw [hx]
  have XF := Lib.hid xf; have XK := Lib.hid xk; have HX := Lib.hid hx1; clear xf xk hx1 hx hmem; obtain ⟨wE, hwE⟩ : ∃ b, wr.heap.size = b := ⟨_, rfl⟩; have hki : (k : Int) < (l.length : Int) := by omega
  have h := H.out.allocRaw #[.int .i64 x.time, .int .i64 x.off, .bool x.key.null, .string (bb x.key.data), .bool x.val.null, .string (bb x.val.data), .slice qx x.hdrs.length capx] 119; rw [hwE] at h; clear H; have H := Lib.hid h; clear h; rw [HX.out] at hd; have hc := HC.out; rw [hd] at hc; have hc : (if recOk x = 0 then recsC ((l.map (·.1)).drop (k + 1)) else recOk x) = tot := hc; have XL := Lib.hid (sum_hdrs XF.out.2.2); obtain ⟨ec0, ec1, ec2, ec3, ec4, ec5, ec6, ef0, ef1, ef2, ef3, ef4, ef5, ef6⟩ := raw7 (b := wE) (H.out); obtain ⟨x0, x1, x2, x3, x4, x5, x6, x7, x8, x9, x10, x11, y0, y1, y2, y3, y4, y5, y6, y7, y8, y9, y10, y11⟩ := raw12 (b := hb) (H.out.p1); clear hd
  by_cases c1 : recOk x = 0
  · rw [if_pos c1] at hc; have HC2 := Lib.hid hc; have ER := Lib.hid c1; clear hc c1; go_wp2_with (go_at_call 122; (with_reducible refine (rec_right x (.slice qx x.hdrs.length capx) _ ER.out XL.out XK.out H.out).mono ?_); rintro e_ wn ⟨rfl, h⟩; replace H := Lib.hid h; clear h; obtain ⟨ec0, ec1, ec2, ec3, ec4, ec5, ec6, ef0, ef1, ef2, ef3, ef4, ef5, ef6⟩ := raw7 (b := wE) (H.out); obtain ⟨x0, x1, x2, x3, x4, x5, x6, x7, x8, x9, x10, x11, y0, y1, y2, y3, y4, y5, y6, y7, y8, y9, y10, y11⟩ := raw12 (b := hb) (H.out.p1)); go_roundw
    case rel => exact ⟨k + 1, hlt, by go_num, HC2.out, H.out.drop⟩
    case measure => first | (simp [intOf]; done) | (simp [intOf]; omega)
  · rw [if_neg c1] at hc; have ER := Lib.hid hc; have gz : (tot == 0) = false := by rw [beq_eq_false_iff_ne, ← hc]; exact c1
    obtain rfl : tot = e := HTE.out (by rw [← hc]; exact c1); clear hc c1; go_wp2_with (go_at_call 122; (with_reducible refine (rec_right x (.slice qx x.hdrs.length capx) _ ER.out XL.out XK.out H.out).mono ?_); rintro e_ wn ⟨rfl, h⟩; replace H := Lib.hid h; clear h; obtain ⟨ec0, ec1, ec2, ec3, ec4, ec5, ec6, ef0, ef1, ef2, ef3, ef4, ef5, ef6⟩ := raw7 (b := wE) (H.out); obtain ⟨x0, x1, x2, x3, x4, x5, x6, x7, x8, x9, x10, x11, y0, y1, y2, y3, y4, y5, y6, y7, y8, y9, y10, y11⟩ := raw12 (b := hb) (H.out.p1)); go_ret; exact ⟨rfl, H.out.drop.drop⟩) : p := h
set_option maxHeartbeats 1000000 in
set_option maxRecDepth 100000 in
theorem bat_check (base leader : Int) (app txn ctl : Bool) (last first maxt prod epoch sq : Int) (l : List (RecS × Value)) (q : Option Addr) (cap : Nat) (e : Int) (he : batErr ⟨base, leader, app, txn, ctl, last, first, maxt, prod, epoch, sq, l.map (·.1)⟩ = e) (hmx : first ≤ 9223372036854775807) (hfit : FitB l) (hll : l.length ≤ 1000000) {W0 w : World} {K : Know} {L : List Res} (hk : K.has (Know.recs (.slice q l.length cap) l)) (h : St W0 w K L) :
    Calls Tryz.prog 88 #[.agg #[.int .i64 base, .int .i64 leader, .bool app, .bool txn, .bool ctl, .int .i64 last, .int .i64 first, .int .i64 maxt, .int .i64 prod, .int .i64 epoch, .int .i64 sq, .slice q l.length cap]] w fun en w' => en = .returned (.int .i64 e) ∧ St W0 w' K L := by
  have HK := Lib.hid hk; have HFT := Lib.hid hfit; have HLL := Lib.hid hll; have h1 := h.allocRaw #[.int .i64 base, .int .i64 leader, .bool app, .bool txn, .bool ctl, .int .i64 last, .int .i64 first, .int .i64 maxt, .int .i64 prod, .int .i64 epoch, .int .i64 sq, .slice q l.length cap] 58; obtain ⟨hb, hhb⟩ : ∃ b, w.heap.size = b := ⟨_, rfl⟩; rw [hhb] at h1; obtain ⟨x0, x1, x2, x3, x4, x5, x6, x7, x8, x9, x10, x11, y0, y1, y2, y3, y4, y5, y6, y7, y8, y9, y10, y11⟩ := raw12 (b := hb) (h1); have H := Lib.hid h1; clear h h1 hk hfit; unfold batErr at he; simp only [List.length_map] at he
  by_cases p1 : BatS.placed ⟨base, leader, app, txn, ctl, last, first, maxt, prod, epoch, sq, l.map (·.1)⟩ = false
  · rw [if_pos p1] at he; subst he; have HP := Lib.hid (show decide (0 ≤ base ∧ (-1 ≤ leader ∧ leader ≤ 2147483647) ∧ (0 ≤ last ∧ last ≤ 2147483647) ∧ base ≤ 9223372036854775807 - last ∧ 0 ≤ first ∧ 0 ≤ maxt) = false from p1); clear p1 hmx hll; go_enter Tryz.func88, Tryz.ntmps88; go_wp2_with (go_at_call 120; (with_reducible refine (bat_placed _ _ _ _ _ _ _ _ _ _ _ _ _ HP.out H.out).mono ?_); rintro e_ wn ⟨rfl, h⟩; replace H := Lib.hid h; clear h; obtain ⟨x0, x1, x2, x3, x4, x5, x6, x7, x8, x9, x10, x11, y0, y1, y2, y3, y4, y5, y6, y7, y8, y9, y10, y11⟩ := raw12 (b := hb) (H.out)); go_ret; exact ⟨rfl, H.out.drop⟩
  rw [if_neg p1] at he
  have p2 : BatS.placed ⟨base, leader, app, txn, ctl, last, first, maxt, prod, epoch, sq, l.map (·.1)⟩ = true := by cases hh : BatS.placed ⟨base, leader, app, txn, ctl, last, first, maxt, prod, epoch, sq, l.map (·.1)⟩ with
    | false => exact absurd hh p1
    | true => rfl
  have HP := Lib.hid (show decide (0 ≤ base ∧ (-1 ≤ leader ∧ leader ≤ 2147483647) ∧ (0 ≤ last ∧ last ≤ 2147483647) ∧ base ≤ 9223372036854775807 - last ∧ 0 ≤ first ∧ 0 ≤ maxt) = true from p2); have HFP := Lib.hid (show 0 ≤ first ∧ first ≤ 9223372036854775807 from ⟨(of_decide_eq_true (show decide (0 ≤ base ∧ (-1 ≤ leader ∧ leader ≤ 2147483647) ∧ (0 ≤ last ∧ last ≤ 2147483647) ∧ base ≤ 9223372036854775807 - last ∧ 0 ≤ first ∧ 0 ≤ maxt) = true from p2)).2.2.2.2.1, hmx⟩); clear p1 p2 hmx
  by_cases c1 : ctl = true ∧ txn = false
  · rw [if_pos c1] at he; subst he; obtain ⟨rfl, rfl⟩ := c1; clear hll; go_enter Tryz.func88, Tryz.ntmps88; go_wp2_with (go_at_call 120; (with_reducible refine (bat_placed _ _ _ _ _ _ _ _ _ _ _ _ _ HP.out H.out).mono ?_); rintro e_ wn ⟨rfl, h⟩; replace H := Lib.hid h; clear h; obtain ⟨x0, x1, x2, x3, x4, x5, x6, x7, x8, x9, x10, x11, y0, y1, y2, y3, y4, y5, y6, y7, y8, y9, y10, y11⟩ := raw12 (b := hb) (H.out)); go_ret; exact ⟨rfl, H.out.drop⟩
  rw [if_neg c1] at he
  by_cases s1 : BatS.signed ⟨base, leader, app, txn, ctl, last, first, maxt, prod, epoch, sq, l.map (·.1)⟩ = false
  · rw [if_pos s1] at he; subst he; have HS := Lib.hid (show (if prod = -1 then decide (epoch = -1 ∧ sq = -1 ∧ txn = false) else if prod < 0 ∨ ¬ (0 ≤ epoch ∧ epoch ≤ 32767) then false else if ctl then decide (sq = -1) else decide (0 ≤ sq ∧ sq ≤ 2147483647)) = false from s1); clear s1 hll
    cases ctl with
    | false =>
      go_enter Tryz.func88, Tryz.ntmps88
      go_wp2_with (first
    | (go_at_call 120; (with_reducible refine (bat_placed _ _ _ _ _ _ _ _ _ _ _ _ _ HP.out H.out).mono ?_); rintro e_ wn ⟨rfl, h⟩; replace H := Lib.hid h; clear h; obtain ⟨x0, x1, x2, x3, x4, x5, x6, x7, x8, x9, x10, x11, y0, y1, y2, y3, y4, y5, y6, y7, y8, y9, y10, y11⟩ := raw12 (b := hb) (H.out))
    | (go_at_call 121; (with_reducible refine (bat_signed _ _ _ _ _ _ _ _ _ _ _ _ _ HS.out H.out).mono ?_); rintro e_ wn ⟨rfl, h⟩; replace H := Lib.hid h; clear h; obtain ⟨x0, x1, x2, x3, x4, x5, x6, x7, x8, x9, x10, x11, y0, y1, y2, y3, y4, y5, y6, y7, y8, y9, y10, y11⟩ := raw12 (b := hb) (H.out)))
      go_ret; exact ⟨rfl, H.out.drop⟩
    | true =>
      cases txn with
      | false => exact absurd ⟨rfl, rfl⟩ c1
      | true =>
        clear c1; go_enter Tryz.func88, Tryz.ntmps88
        go_wp2_with (first
    | (go_at_call 120; (with_reducible refine (bat_placed _ _ _ _ _ _ _ _ _ _ _ _ _ HP.out H.out).mono ?_); rintro e_ wn ⟨rfl, h⟩; replace H := Lib.hid h; clear h; obtain ⟨x0, x1, x2, x3, x4, x5, x6, x7, x8, x9, x10, x11, y0, y1, y2, y3, y4, y5, y6, y7, y8, y9, y10, y11⟩ := raw12 (b := hb) (H.out))
    | (go_at_call 121; (with_reducible refine (bat_signed _ _ _ _ _ _ _ _ _ _ _ _ _ HS.out H.out).mono ?_); rintro e_ wn ⟨rfl, h⟩; replace H := Lib.hid h; clear h; obtain ⟨x0, x1, x2, x3, x4, x5, x6, x7, x8, x9, x10, x11, y0, y1, y2, y3, y4, y5, y6, y7, y8, y9, y10, y11⟩ := raw12 (b := hb) (H.out)))
        go_ret; exact ⟨rfl, H.out.drop⟩
  rw [if_neg s1] at he
  have s2 : BatS.signed ⟨base, leader, app, txn, ctl, last, first, maxt, prod, epoch, sq, l.map (·.1)⟩ = true := by cases hh : BatS.signed ⟨base, leader, app, txn, ctl, last, first, maxt, prod, epoch, sq, l.map (·.1)⟩ with
    | false => exact absurd hh s1
    | true => rfl
  have HS := Lib.hid (show (if prod = -1 then decide (epoch = -1 ∧ sq = -1 ∧ txn = false) else if prod < 0 ∨ ¬ (0 ≤ epoch ∧ epoch ≤ 32767) then false else if ctl then decide (sq = -1) else decide (0 ≤ sq ∧ sq ≤ 2147483647)) = true from s2); clear s1 s2
  cases ctl with
  | false =>
    rw [if_neg (fun h => by cases h.1)] at he; obtain ⟨tot, htot⟩ : ∃ t, recsC (l.map (·.1)) = t := ⟨_, rfl⟩; rw [htot] at he; have HTE := Lib.hid (show tot ≠ 0 → tot = e from fun h => by rw [if_pos h] at he; exact he); have HTZ := Lib.hid (show tot = 0 → BatS.rows ⟨base, leader, app, txn, false, last, first, maxt, prod, epoch, sq, l.map (·.1)⟩ = e from fun h => by rw [if_neg (fun x => x h), if_neg (fun h => by cases h.1)] at he; exact he); have HT := Lib.hid htot; clear he htot c1; go_enter Tryz.func88, Tryz.ntmps88
    go_wp2_with (first
        | (go_at_call 120; (with_reducible refine (bat_placed _ _ _ _ _ _ _ _ _ _ _ _ _ HP.out H.out).mono ?_); rintro e_ wn ⟨rfl, h⟩; replace H := Lib.hid h; clear h; obtain ⟨x0, x1, x2, x3, x4, x5, x6, x7, x8, x9, x10, x11, y0, y1, y2, y3, y4, y5, y6, y7, y8, y9, y10, y11⟩ := raw12 (b := hb) (H.out))
        | (go_at_call 121; (with_reducible refine (bat_signed _ _ _ _ _ _ _ _ _ _ _ _ _ HS.out H.out).mono ?_); rintro e_ wn ⟨rfl, h⟩; replace H := Lib.hid h; clear h; obtain ⟨x0, x1, x2, x3, x4, x5, x6, x7, x8, x9, x10, x11, y0, y1, y2, y3, y4, y5, y6, y7, y8, y9, y10, y11⟩ := raw12 (b := hb) (H.out)))
    go_loopw [4, 5, 33] (fun _ _ iv wr => ∃ k : Nat, k ≤ l.length ∧ iv = .int .i64 k ∧ Hid (recsC ((l.map (·.1)).drop k) = tot) ∧ St W0 wr K (.raw hb #[.int .i64 base, .int .i64 leader, .bool app, .bool txn, .bool false, .int .i64 last, .int .i64 first, .int .i64 maxt, .int .i64 prod, .int .i64 epoch, .int .i64 sq, .slice q l.length cap] 58 :: L)) (fun _ _ iv _ => l.length - (intOf iv).toNat)
    case atStart => exact ⟨0, Nat.zero_le _, rfl, HT, H.out⟩
    case round =>
      clear x0 y0 x1 y1 x2 y2 x3 y3 x4 y4 x5 y5 x6 y6 x7 y7 x8 y8 x9 y9 x10 y10 x11 y11; obtain ⟨k, hkl, rfl, HC, hst⟩ := hrel; clear H; have H := Lib.hid hst; clear hst
      by_cases hlt : k < l.length
      · exact zq2
      · obtain rfl : l.length = k := by omega
        have hc := HC.out; rw [List.drop_of_length_le (by simp)] at hc; obtain rfl : 0 = tot := hc; obtain ⟨x0, x1, x2, x3, x4, x5, x6, x7, x8, x9, x10, x11, y0, y1, y2, y3, y4, y5, y6, y7, y8, y9, y10, y11⟩ := raw12 (b := hb) (H.out); have HROW := Lib.hid (HTZ.out rfl); go_wp2_with (go_at_call 124; (with_reducible refine (bat_checkRows _ _ _ _ _ _ _ _ _ _ _ l _ _ _ HROW.out HFP.out HFT.out HLL.out HK.out H.out).mono ?_); rintro e_ wn ⟨rfl, h⟩; replace H := Lib.hid h; clear h); go_ret; exact ⟨rfl, H.out.drop⟩

  | true =>
    cases txn with
    | false => exact absurd ⟨rfl, rfl⟩ c1
    | true =>
      clear c1
      by_cases c2 : l.length = 1
      · rw [if_neg (fun h => h.2 c2)] at he; have HLEN := Lib.hid c2; have bl : ((l.length : Int) == 1) = true := by rw [c2]; rfl
        have bl2 : ((l.length : Int) != 1) = false := by rw [c2]; rfl
        obtain ⟨tot, htot⟩ : ∃ t, recsC (l.map (·.1)) = t := ⟨_, rfl⟩; rw [htot] at he; have HTE := Lib.hid (show tot ≠ 0 → tot = e from fun h => by rw [if_pos h] at he; exact he)
        have HEN := Lib.hid (show ∀ (x : RecS) (h0 : 0 < l.length), (l[0]'h0).1 = x → ((ctlOf x).2.2 ≠ 0 → tot = 0 → (ctlOf x).2.2 = e) ∧ ((ctlOf x).2.2 = 0 → tot = 0 → BatS.rows ⟨base, leader, app, true, true, last, first, maxt, prod, epoch, sq, l.map (·.1)⟩ = e) from fun x h0 hx => by
          have hm : l.map (·.1) = x :: (l.map (·.1)).drop 1 := by have := drop_recs l 0 (by omega) x hx; simpa using this
          have hens : BatS.ends ⟨base, leader, app, true, true, last, first, maxt, prod, epoch, sq, l.map (·.1)⟩ = (ctlOf x).2.2 := by unfold BatS.ends; simp only; rw [hm]
          rw [hens] at he; refine ⟨fun h h2 => ?_, fun h h2 => ?_⟩
          · rw [if_neg (fun y => y h2), if_pos ⟨rfl, h⟩] at he; exact he
          · rw [if_neg (fun y => y h2), if_neg (fun y => y.2 h)] at he; exact he)
        have HT := Lib.hid htot; clear he htot c2; go_enter Tryz.func88, Tryz.ntmps88
        go_wp2_with (first
            | (go_at_call 120; (with_reducible refine (bat_placed _ _ _ _ _ _ _ _ _ _ _ _ _ HP.out H.out).mono ?_); rintro e_ wn ⟨rfl, h⟩; replace H := Lib.hid h; clear h; obtain ⟨x0, x1, x2, x3, x4, x5, x6, x7, x8, x9, x10, x11, y0, y1, y2, y3, y4, y5, y6, y7, y8, y9, y10, y11⟩ := raw12 (b := hb) (H.out))
            | (go_at_call 121; (with_reducible refine (bat_signed _ _ _ _ _ _ _ _ _ _ _ _ _ HS.out H.out).mono ?_); rintro e_ wn ⟨rfl, h⟩; replace H := Lib.hid h; clear h; obtain ⟨x0, x1, x2, x3, x4, x5, x6, x7, x8, x9, x10, x11, y0, y1, y2, y3, y4, y5, y6, y7, y8, y9, y10, y11⟩ := raw12 (b := hb) (H.out)))
        go_loopw [4, 5, 33] (fun _ _ iv wr => ∃ k : Nat, k ≤ l.length ∧ iv = .int .i64 k ∧ Hid (recsC ((l.map (·.1)).drop k) = tot) ∧ St W0 wr K (.raw hb #[.int .i64 base, .int .i64 leader, .bool app, .bool true, .bool true, .int .i64 last, .int .i64 first, .int .i64 maxt, .int .i64 prod, .int .i64 epoch, .int .i64 sq, .slice q l.length cap] 58 :: L)) (fun _ _ iv _ => l.length - (intOf iv).toNat)
        case atStart => exact ⟨0, Nat.zero_le _, rfl, HT, H.out⟩
        case round =>
          clear x0 y0 x1 y1 x2 y2 x3 y3 x4 y4 x5 y5 x6 y6 x7 y7 x8 y8 x9 y9 x10 y10 x11 y11; obtain ⟨k, hkl, rfl, HC, hst⟩ := hrel; clear H; have H := Lib.hid hst; clear hst
          by_cases hlt : k < l.length
          · exact zq2
          · obtain rfl : l.length = k := by omega
            have hc := HC.out; rw [List.drop_of_length_le (by simp)] at hc; obtain rfl : 0 = tot := hc; obtain ⟨x0, x1, x2, x3, x4, x5, x6, x7, x8, x9, x10, x11, y0, y1, y2, y3, y4, y5, y6, y7, y8, y9, y10, y11⟩ := raw12 (b := hb) (H.out); obtain ⟨b, off, hqq⟩ := recs_at HK.out H.out (by rw [HLEN.out]; decide); subst hqq; obtain ⟨⟨x, vx⟩, hx⟩ : ∃ x, l[0]'(by rw [HLEN.out]; decide) = x := ⟨_, rfl⟩; have cc := recs_cell HK.out H.out 0 (by rw [HLEN.out]; decide) (x, vx) hx; have hmem : (x, vx) ∈ l := hx ▸ List.getElem_mem _; have xf : x.R ∧ HFit x.hdrs ∧ x.sum ≤ 1000000 := HFT.out (x, vx) hmem; have xk : K.has (Know.flat RHdr vx 3 x.hdrs) := recs_hdrs HK.out hmem; obtain ⟨qx, capx, hvx⟩ := flat_form xk H.out; subst hvx; simp only [Nat.zero_mul, Nat.zero_add, Nat.add_zero] at cc; obtain ⟨c0, c1, c2, c3, c4, c5, c6⟩ := cc; have XD := Lib.hid (sum_data xf.2.2); have hl0 : (0 : Int) < (l.length : Int) := by have := HLEN.out; omega
            obtain ⟨⟨i1, i2, i3⟩, hi⟩ : ∃ r, ctlOf x = r := ⟨_, rfl⟩; have EC := Lib.hid (show ctlRead x.key.null x.val.null x.key.data x.val.data x.hdrs.length x.off = (i1, i2, i3) from hi); have hen := HEN.out x (by rw [HLEN.out]; decide) (by rw [hx]); rw [hi] at hen; clear hx hmem xf xk hi
            by_cases c9 : i3 = 0
            · subst c9; have HROW := Lib.hid (hen.2 rfl rfl); clear hen
              go_wp2_with (first
            | (go_at_call 123; (with_reducible refine (ctl_read x.time x.off x.key.null x.val.null x.key.data x.val.data qx x.hdrs.length capx (i1, i2, _) EC.out XD.out.1 XD.out.2 H.out).mono ?_); rintro e_ wn ⟨rfl, h⟩; replace H := Lib.hid h; clear h; obtain ⟨x0, x1, x2, x3, x4, x5, x6, x7, x8, x9, x10, x11, y0, y1, y2, y3, y4, y5, y6, y7, y8, y9, y10, y11⟩ := raw12 (b := hb) (H.out))
            | (go_at_call 124; (with_reducible refine (bat_checkRows _ _ _ _ _ _ _ _ _ _ _ l _ _ _ HROW.out HFP.out HFT.out HLL.out HK.out H.out).mono ?_); rintro e_ wn ⟨rfl, h⟩; replace H := Lib.hid h; clear h))
              go_ret; exact ⟨rfl, H.out.drop⟩
            · have gz : (i3 == 0) = false := by rw [beq_eq_false_iff_ne]; exact c9
              obtain rfl : i3 = e := hen.1 c9 rfl; clear hen c9; go_wp2_with (go_at_call 123; (with_reducible refine (ctl_read x.time x.off x.key.null x.val.null x.key.data x.val.data qx x.hdrs.length capx (i1, i2, _) EC.out XD.out.1 XD.out.2 H.out).mono ?_); rintro e_ wn ⟨rfl, h⟩; replace H := Lib.hid h; clear h; obtain ⟨x0, x1, x2, x3, x4, x5, x6, x7, x8, x9, x10, x11, y0, y1, y2, y3, y4, y5, y6, y7, y8, y9, y10, y11⟩ := raw12 (b := hb) (H.out)); go_ret; exact ⟨rfl, H.out.drop⟩

      · rw [if_pos ⟨rfl, c2⟩] at he; subst he; have bl : ((l.length : Int) == 1) = false := by rw [beq_eq_false_iff_ne]; omega
        clear c2 hll; go_enter Tryz.func88, Tryz.ntmps88
        go_wp2_with (first
    | (go_at_call 120; (with_reducible refine (bat_placed _ _ _ _ _ _ _ _ _ _ _ _ _ HP.out H.out).mono ?_); rintro e_ wn ⟨rfl, h⟩; replace H := Lib.hid h; clear h; obtain ⟨x0, x1, x2, x3, x4, x5, x6, x7, x8, x9, x10, x11, y0, y1, y2, y3, y4, y5, y6, y7, y8, y9, y10, y11⟩ := raw12 (b := hb) (H.out))
    | (go_at_call 121; (with_reducible refine (bat_signed _ _ _ _ _ _ _ _ _ _ _ _ _ HS.out H.out).mono ?_); rintro e_ wn ⟨rfl, h⟩; replace H := Lib.hid h; clear h; obtain ⟨x0, x1, x2, x3, x4, x5, x6, x7, x8, x9, x10, x11, y0, y1, y2, y3, y4, y5, y6, y7, y8, y9, y10, y11⟩ := raw12 (b := hb) (H.out)))
        go_ret; exact ⟨rfl, H.out.drop⟩
abbrev W32 := BitVec 32
def cP : W32 := 0x82F63B78#32
def step (r : W32) : W32 := (r >>> 1) ^^^ (if r.getLsbD 0 then cP else 0#32)
def stepN : Nat → W32 → W32
  | 0, r => r
  | n + 1, r => stepN n (step r)

def byteBits (c : UInt8) : List Bool := (List.range 8).map (fun i => c.toNat.testBit i)
def bitsOf (s : Bs) : List Bool := s.flatMap byteBits
def tab (n : Nat) : W32 := stepN 8 (BitVec.ofNat 32 n)
def byteStep (r : W32) (c : UInt8) : W32 := tab (r.toNat % 256 ^^^ c.toNat) ^^^ (r >>> 8)
def crcRaw (r : W32) (s : Bs) : W32 := s.foldl byteStep r
theorem crcRaw_append (r : W32) (a b : Bs) : crcRaw r (a ++ b) = crcRaw (crcRaw r a) b := List.foldl_append
def crcMore (sum : W32) (s : Bs) : W32 := ~~~ (crcRaw (~~~ sum) s)
theorem crcMore_append (sum : W32) (a b : Bs) : crcMore sum (a ++ b) = crcMore (crcMore sum a) b := by
 unfold crcMore; rw [crcRaw_append, BitVec.not_not]
theorem crcMore_nil (sum : W32) : crcMore sum [] = sum := by unfold crcMore crcRaw; simp
end Go.Proofs.YtnnnglklgofabaaGreat
