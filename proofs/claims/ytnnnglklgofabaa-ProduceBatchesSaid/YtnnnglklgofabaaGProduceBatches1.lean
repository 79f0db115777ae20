/- A text. -/
import Derived.Test.YtnnnglklgofabaaBlobP
import Derived.Test.YtnnnglklgofabaaBlob1
import Derived.Test.YtnnnglklgofabaaBlob2
import Derived.Test.YtnnnglklgofabaaRec1
import Derived.Test.YtnnnglklgofabaaRecP
import Derived.Test.YtnnnglklgofabaaRecs
import Derived.Test.YtnnnglklgofabaaSep
import Derived.Test.YtnnnglklgofabaaIntsP
/- A text. -/
namespace Go.Proofs.Ytnnnglklgofabaa
open Go.RowKit

def verRd (k : Nat) (ok : Int → Bool) (e : Int) (s : Bs) : Int × Int :=
  if s.length < 2 then (0, 1) else if sInt (s.take 2) ≠ 0 then (0, 7) else if s.length < 2 + k then (0, 1)
  else if ok (sInt ((s.drop 2).take k)) = false then (0, e) else if 2 + k < s.length then (0, 2) else (sInt ((s.drop 2).take k), 0)
def verA (s : Bs) : Int × InS := (⟨s, 0, 0⟩ : InS).int 2
def verI (s : Bs) : InS := if (verA s).1 = 0 then (verA s).2 else (verA s).2.fail 7
def verJ (k : Nat) (ok : Int → Bool) (e : Int) (s : Bs) : InS := if ok ((verI s).int k).1 = true then ((verI s).int k).2 else ((verI s).int k).2.fail e
def verD (k : Nat) (ok : Int → Bool) (e : Int) (s : Bs) : Int × Int := if (verJ k ok e s).close.err = 0 then (((verI s).int k).1, 0) else (0, (verJ k ok e s).close.err)
theorem close_stuckC {i : InS} (h : i.err ≠ 0) : i.close = i := by
 unfold InS.close
 split
 · exact if_neg h
 · rfl
theorem verD_bad {k : Nat} {ok : Int → Bool} {e x : Int} {s : Bs} (hx : x ≠ 0) (h : (verJ k ok e s).err = x) : verD k ok e s = (0, x) := by
 subst h
 unfold verD
 rw [close_stuckC hx, if_neg hx]
theorem verJ_stuck {k : Nat} {ok : Int → Bool} {e x : Int} {s : Bs} (h1 : 1 ≤ k) (h8 : k ≤ 8) (hx : x ≠ 0) (h : (verI s).err = x) : (verJ k ok e s).err = x := by
 subst h
 have h2 : (verI s).int k = (0, verI s) := (rds_intN k h1 h8).stuck (verI s) hx
 unfold verJ
 rw [h2]
 split
 · rfl
 · rw [show (verI s).fail e = verI s from if_neg hx]
theorem verD_eq (k : Nat) (ok : Int → Bool) (e : Int) (h1 : 1 ≤ k) (h8 : k ≤ 8) (he : e ≠ 0) (s : Bs) : verD k ok e s = verRd k ok e s := by
 have hi := rds_intN 2 (by decide) (by decide)
 have hk := rds_intN k h1 h8
 unfold verRd
 by_cases c1 : s.length < 2
 · rw [if_pos c1]
   obtain ⟨_, q, _, h3⟩ := hi.err s 0 1 (Nat.zero_le _) (by simp [getIntN, c1])
   have h4 : verA s = (0, ⟨s, q, 1⟩) := h3
   refine verD_bad (by decide) (verJ_stuck h1 h8 (by decide) ?_)
   unfold verI
   rw [h4]
   rfl
 rw [if_neg c1]
 obtain ⟨_, h3⟩ := hi.ok s 0 (sInt (s.take 2)) 2 (Nat.zero_le _) (by simp [getIntN, c1])
 have h4 : verA s = (sInt (s.take 2), ⟨s, 2, 0⟩) := h3
 by_cases c2 : sInt (s.take 2) ≠ 0
 · rw [if_pos c2]
   refine verD_bad (by decide) (verJ_stuck h1 h8 (by decide) ?_)
   unfold verI
   rw [h4, if_neg c2]
   rfl
 rw [if_neg c2]
 have hI : verI s = ⟨s, 2, 0⟩ := by unfold verI; rw [h4, if_pos (by simpa using c2)]
 by_cases c3 : s.length < 2 + k
 · rw [if_pos c3]
   obtain ⟨_, q, _, h7⟩ := hk.err s 2 1 (by omega) (by unfold getIntN; rw [if_pos (by rw [List.length_drop]; omega)])
   have h7 : (verI s).int k = (0, ⟨s, q, 1⟩) := by rw [hI]; exact h7
   refine verD_bad (by decide) ?_
   unfold verJ
   rw [h7]
   split
   · rfl
   · rfl
 rw [if_neg c3]
 obtain ⟨_, h7⟩ := hk.ok s 2 (sInt ((s.drop 2).take k)) k (by omega) (by unfold getIntN; rw [if_neg (by rw [List.length_drop]; omega)])
 have h7 : (verI s).int k = (sInt ((s.drop 2).take k), ⟨s, 2 + k, 0⟩) := by rw [hI]; exact h7
 by_cases c4 : ok (sInt ((s.drop 2).take k)) = false
 · rw [if_pos c4]
   refine verD_bad he ?_
   unfold verJ
   rw [h7]
   rw [if_neg (by rw [c4]; decide)]
   rfl
 rw [if_neg c4]
 have hJ : verJ k ok e s = ⟨s, 2 + k, 0⟩ := by unfold verJ; rw [h7, if_pos (by simpa using c4)]
 by_cases c5 : 2 + k < s.length
 · have hc : (⟨s, 2 + k, 0⟩ : InS).close = ⟨s, 2 + k, 2⟩ := by
    unfold InS.close
    rw [if_pos (show 0 < (⟨s, 2 + k, 0⟩ : InS).left by simp only [InS.left]; omega)]
    rfl
   unfold verD
   rw [if_pos c5, hJ, hc, if_neg (by simp only; decide)]
 · have hc : (⟨s, 2 + k, 0⟩ : InS).close = ⟨s, 2 + k, 0⟩ := by
    unfold InS.close
    rw [if_neg (show ¬ 0 < (⟨s, 2 + k, 0⟩ : InS).left by simp only [InS.left]; omega)]
   unfold verD
   rw [if_neg c5, hJ, hc, if_pos rfl, h7]
def way (n : Int) : Bool := n == 0 || n == 1
def time0 (n : Int) : Bool := decide (0 ≤ n)
set_option maxHeartbeats 1000000 in
set_option maxRecDepth 100000 in
theorem ctl_known (n : Int) {W0 w : World} {K : Know} {L : List Res} (h : St W0 w K L) :
   Calls Try.prog 94 #[.int .i64 n] w fun en w' => en = .returned (.bool (way n)) ∧ St W0 w' K L := by
 have H := Lib.hid h
 clear h
 by_cases h0 : n = 0
 · subst h0
   go_enter Try.func94, Try.ntmps94
   go_wp2
   go_ret
   exact ⟨rfl, H.out⟩
 have e0 : (n == 0) = false := by simpa using h0
 go_enter Try.func94, Try.ntmps94
 go_wp2
 go_ret
 exact ⟨ret_bool (by unfold way; rw [e0]; rfl), H.out⟩

set_option maxHeartbeats 1000000 in
set_option maxRecDepth 100000 in
theorem ctl_time0 (n : Int) {W0 w : World} {K : Know} {L : List Res} (h : St W0 w K L) :
  Calls Try.prog 95 #[.int .i64 n] w fun en w' => en = .returned (.bool (time0 n)) ∧ St W0 w' K L := by
 have H := Lib.hid h
 clear h
 go_enter Try.func95, Try.ntmps95
 go_wp2
 go_ret
 exact ⟨ret_bool (by unfold time0; rfl), H.out⟩

set_option maxHeartbeats 1000000 in
set_option maxRecDepth 100000 in
theorem ctl_readKind (s : Bs) (r : Int × Int) (hr : verRd 2 way 12 s = r) (hs : s.length ≤ 140737488355328) {W0 w : World} {K : Know} {L : List Res} (h : St W0 w K L) :
  Calls Try.prog 93 #[.string (bb s), .int .i64 2, .func (.func 94) #[] #[], .int .i64 12] w fun en w' => en = .returned (.tuple #[.int .i64 r.1, .int .i64 r.2]) ∧ St W0 w' K L := by
 have hrd : verD 2 way 12 s = r := (verD_eq 2 way 12 (by decide) (by decide) (by decide) s).trans hr
 have H := Lib.hid h
 have HS := Lib.hid hs
 clear h hs hr
 obtain ⟨a, ha⟩ : ∃ a, verA s = a := ⟨_, rfl⟩
 have hI : verI s = if a.1 = 0 then a.2 else a.2.fail 7 := by unfold verI; rw [ha]
 obtain ⟨i, hi⟩ : ∃ i, verI s = i := ⟨_, rfl⟩
 rw [hi] at hI
 obtain ⟨t, ht⟩ : ∃ t, i.int 2 = t := ⟨_, rfl⟩
 have hJ : verJ 2 way 12 s = if way t.1 = true then t.2 else t.2.fail 12 := by unfold verJ; rw [hi]; show (if way (i.int 2).1 = true then (i.int 2).2 else (i.int 2).2.fail 12) = _; rw [ht]
 obtain ⟨j, hj⟩ : ∃ j, verJ 2 way 12 s = j := ⟨_, rfl⟩
 have hD : (if j.close.err = 0 then (t.1, 0) else (0, j.close.err)) = r := by
  rw [← hrd, ← hj, ← ht, ← hi]; rfl
 rw [hj] at hJ
 obtain ⟨c, hc⟩ : ∃ c, j.close = c := ⟨_, rfl⟩
 rw [hc] at hD
 have EA := Lib.hid (show (⟨s, 0, 0⟩ : InS).int 2 = a from ha)
 have ET := Lib.hid ht
 have EC := Lib.hid hc
 obtain ⟨o, ho⟩ : ∃ o, way t.1 = o := ⟨_, rfl⟩
 rw [ho] at hJ
 have EO := Lib.hid ho
 clear ha hi ht hj hc ho hrd
 by_cases h1 : a.1 = 0 <;> cases o <;> by_cases h3 : c.err = 0
 all_goals
  first | rw [if_pos h1] at hI | rw [if_neg h1] at hI
  first | rw [if_pos rfl] at hJ | rw [if_neg (by decide)] at hJ
  first | rw [if_pos h3] at hD | rw [if_neg h3] at hD
  subst hD
  have b1 : (a.1 != 0) = decide (a.1 ≠ 0) := by by_cases h : a.1 = 0 <;> simp [h]
  have b3 : (c.err != 0) = decide (c.err ≠ 0) := by by_cases h : c.err = 0 <;> simp [h]
  first | rw [decide_eq_true h1] at b1 | rw [decide_eq_false (not_not_intro h1)] at b1
  first | rw [decide_eq_true h3] at b3 | rw [decide_eq_false (not_not_intro h3)] at b3
  have EI := Lib.hid hI.symm
  have EJ := Lib.hid hJ.symm
  clear h1 h3 hI hJ
  go_enter Try.func93, Try.ntmps93
  go_wp2_with (first
   | (go_at_call 6; refine (s_new s HS.out stQ).mono ?_; rintro e wn ⟨bi, rfl, h⟩; replace H := Lib.hid h; clear h)
   | (go_at_call 20; refine (s_int _ _ _ stQ).mono ?_; (repeat first | rw [EA.out] | rw [ET.out]); rintro e wn ⟨rfl, h⟩; replace H := Lib.hid h; clear h; (try rw [EI.out] at H); (try rw [EJ.out] at H))
   | (go_at_call 24; refine (s_fail _ _ _ stQ).mono ?_; (repeat first | rw [EI.out] | rw [EJ.out]); rintro e wn ⟨rfl, h⟩; replace H := Lib.hid h; clear h)
   | (go_at_call 94; refine (ctl_known _ H.out).mono ?_; rw [EO.out]; rintro e wn ⟨rfl, h⟩; replace H := Lib.hid h; clear h)
   | (go_at_call 31; refine (s_close _ _ stQ).mono ?_; (repeat first | rw [EC.out]); rintro e wn ⟨rfl, h⟩; replace H := Lib.hid h; clear h))
  go_ret2
  exact ⟨rfl, H.out.drop⟩

set_option maxHeartbeats 1000000 in
set_option maxRecDepth 100000 in
theorem ctl_readTime (s : Bs) (r : Int × Int) (hr : verRd 4 time0 11 s = r) (hs : s.length ≤ 140737488355328) {W0 w : World} {K : Know} {L : List Res} (h : St W0 w K L) :
  Calls Try.prog 93 #[.string (bb s), .int .i64 4, .func (.func 95) #[] #[], .int .i64 11] w fun en w' => en = .returned (.tuple #[.int .i64 r.1, .int .i64 r.2]) ∧ St W0 w' K L := by
 have hrd : verD 4 time0 11 s = r := (verD_eq 4 time0 11 (by decide) (by decide) (by decide) s).trans hr
 have H := Lib.hid h
 have HS := Lib.hid hs
 clear h hs hr
 obtain ⟨a, ha⟩ : ∃ a, verA s = a := ⟨_, rfl⟩
 have hI : verI s = if a.1 = 0 then a.2 else a.2.fail 7 := by unfold verI; rw [ha]
 obtain ⟨i, hi⟩ : ∃ i, verI s = i := ⟨_, rfl⟩
 rw [hi] at hI
 obtain ⟨t, ht⟩ : ∃ t, i.int 4 = t := ⟨_, rfl⟩
 have hJ : verJ 4 time0 11 s = if time0 t.1 = true then t.2 else t.2.fail 11 := by unfold verJ; rw [hi]; show (if time0 (i.int 4).1 = true then (i.int 4).2 else (i.int 4).2.fail 11) = _; rw [ht]
 obtain ⟨j, hj⟩ : ∃ j, verJ 4 time0 11 s = j := ⟨_, rfl⟩
 have hD : (if j.close.err = 0 then (t.1, 0) else (0, j.close.err)) = r := by
  rw [← hrd, ← hj, ← ht, ← hi]; rfl
 rw [hj] at hJ
 obtain ⟨c, hc⟩ : ∃ c, j.close = c := ⟨_, rfl⟩
 rw [hc] at hD
 have EA := Lib.hid (show (⟨s, 0, 0⟩ : InS).int 2 = a from ha)
 have ET := Lib.hid ht
 have EC := Lib.hid hc
 obtain ⟨o, ho⟩ : ∃ o, time0 t.1 = o := ⟨_, rfl⟩
 rw [ho] at hJ
 have EO := Lib.hid ho
 clear ha hi ht hj hc ho hrd
 by_cases h1 : a.1 = 0 <;> cases o <;> by_cases h3 : c.err = 0
 all_goals
  first | rw [if_pos h1] at hI | rw [if_neg h1] at hI
  first | rw [if_pos rfl] at hJ | rw [if_neg (by decide)] at hJ
  first | rw [if_pos h3] at hD | rw [if_neg h3] at hD
  subst hD
  have b1 : (a.1 != 0) = decide (a.1 ≠ 0) := by by_cases h : a.1 = 0 <;> simp [h]
  have b3 : (c.err != 0) = decide (c.err ≠ 0) := by by_cases h : c.err = 0 <;> simp [h]
  first | rw [decide_eq_true h1] at b1 | rw [decide_eq_false (not_not_intro h1)] at b1
  first | rw [decide_eq_true h3] at b3 | rw [decide_eq_false (not_not_intro h3)] at b3
  have EI := Lib.hid hI.symm
  have EJ := Lib.hid hJ.symm
  clear h1 h3 hI hJ
  go_enter Try.func93, Try.ntmps93
  go_wp2_with (first
   | (go_at_call 6; refine (s_new s HS.out stQ).mono ?_; rintro e wn ⟨bi, rfl, h⟩; replace H := Lib.hid h; clear h)
   | (go_at_call 20; refine (s_int _ _ _ stQ).mono ?_; (repeat first | rw [EA.out] | rw [ET.out]); rintro e wn ⟨rfl, h⟩; replace H := Lib.hid h; clear h; (try rw [EI.out] at H); (try rw [EJ.out] at H))
   | (go_at_call 24; refine (s_fail _ _ _ stQ).mono ?_; (repeat first | rw [EI.out] | rw [EJ.out]); rintro e wn ⟨rfl, h⟩; replace H := Lib.hid h; clear h)
   | (go_at_call 95; refine (ctl_time0 _ H.out).mono ?_; rw [EO.out]; rintro e wn ⟨rfl, h⟩; replace H := Lib.hid h; clear h)
   | (go_at_call 31; refine (s_close _ _ stQ).mono ?_; (repeat first | rw [EC.out]); rintro e wn ⟨rfl, h⟩; replace H := Lib.hid h; clear h))
  go_ret2
  exact ⟨rfl, H.out.drop⟩

set_option maxHeartbeats 1000000 in
set_option maxRecDepth 100000 in
theorem ctl_readKey (s : Bs) (r : Int × Int) (hr : verRd 2 way 12 s = r) (hs : s.length ≤ 140737488355328) {W0 w : World} {K : Know} {L : List Res} (h : St W0 w K L) :
  Calls Try.prog 79 #[.string (bb s)] w fun en w' => en = .returned (.tuple #[.int .i64 r.1, .int .i64 r.2]) ∧ St W0 w' K L := by
 have H := Lib.hid h
 have HS := Lib.hid hs
 have HR := Lib.hid hr
 clear h hs hr
 go_enter Try.func79, Try.ntmps79
 go_wp2_with ((go_at_call 93; refine (ctl_readKind s r HR.out HS.out stQ).mono ?_; rintro e wn ⟨rfl, h⟩; replace H := Lib.hid h; clear h))
 go_ret2
 exact ⟨rfl, H.out⟩

set_option maxHeartbeats 1000000 in
set_option maxRecDepth 100000 in
theorem ctl_readValue (s : Bs) (r : Int × Int) (hr : verRd 4 time0 11 s = r) (hs : s.length ≤ 140737488355328) {W0 w : World} {K : Know} {L : List Res} (h : St W0 w K L) :
  Calls Try.prog 80 #[.string (bb s)] w fun en w' => en = .returned (.tuple #[.int .i64 r.1, .int .i64 r.2]) ∧ St W0 w' K L := by
 have H := Lib.hid h
 have HS := Lib.hid hs
 have HR := Lib.hid hr
 clear h hs hr
 go_enter Try.func80, Try.ntmps80
 go_wp2_with ((go_at_call 93; refine (ctl_readTime s r HR.out HS.out stQ).mono ?_; rintro e wn ⟨rfl, h⟩; replace H := Lib.hid h; clear h))
 go_ret2
 exact ⟨rfl, H.out⟩
def ctlRead (n1 n2 : Bool) (d1 d2 : Bs) (many o : Int) : Int × Int × Int :=
  if n1 = true ∨ n2 = true ∨ many ≠ 0 ∨ o ≠ 0 then (0, 0, 12)
  else if (verRd 2 way 12 d1).2 ≠ 0 then (0, 0, (verRd 2 way 12 d1).2)
  else if (verRd 4 time0 11 d2).2 ≠ 0 then (0, 0, (verRd 4 time0 11 d2).2)
  else ((verRd 2 way 12 d1).1, (verRd 4 time0 11 d2).1, 0)

set_option maxHeartbeats 1000000 in
set_option maxRecDepth 100000 in
theorem ctl_read (t o : Int) (n1 n2 : Bool) (d1 d2 : Bs) (q : Option Addr) (ln cap : Nat) (r : Int × Int × Int) (hr : ctlRead n1 n2 d1 d2 ln o = r) (hd1 : d1.length ≤ 140737488355328) (hd2 : d2.length ≤ 140737488355328) {W0 w : World} {K : Know} {L : List Res} (h : St W0 w K L) :
   Calls Try.prog 54 #[.agg #[.int .i64 t, .int .i64 o, .bool n1, .string (bb d1), .bool n2, .string (bb d2), (.slice q ln cap)]] w fun en w' => en = .returned (.tuple #[.int .i64 r.1, .int .i64 r.2.1, .int .i64 r.2.2]) ∧ St W0 w' K L := by
 have h0 := h.allocRaw #[.int .i64 t, .int .i64 o, .bool n1, .string (bb d1), .bool n2, .string (bb d2), (.slice q ln cap)] 81
 obtain ⟨wA, hwA⟩ : ∃ b, w.heap.size = b := ⟨_, rfl⟩
 rw [hwA] at h0
 have H := Lib.hid h0
 have HD1 := Lib.hid hd1
 have HD2 := Lib.hid hd2
 obtain ⟨ac0, ac1, ac2, ac3, ac4, ac5, ac6, af0, af1, af2, af3, af4, af5, af6⟩ := raw7 (b := wA) (H.out)
 clear h h0 hd1 hd2
 unfold ctlRead at hr
 by_cases g1 : n1 = true
 · rw [if_pos (.inl g1)] at hr
   subst hr g1
   go_enter Try.func54, Try.ntmps54
   go_wp2
   go_ret3
   exact ⟨rfl, H.out.drop⟩
 by_cases g2 : n2 = true
 · rw [if_pos (.inr (.inl g2))] at hr
   subst hr g2
   obtain rfl : n1 = false := by simpa using g1
   clear g1
   go_enter Try.func54, Try.ntmps54
   go_wp2
   go_ret3
   exact ⟨rfl, H.out.drop⟩
 obtain rfl : n1 = false := by simpa using g1
 obtain rfl : n2 = false := by simpa using g2
 clear g1 g2
 by_cases g3 : (ln : Int) ≠ 0
 · rw [if_pos (.inr (.inr (.inl g3)))] at hr
   subst hr
   have b1 : ((ln : Int) != 0) = true := by simpa using g3
   have b2 : decide (0 < ln) = true := decide_eq_true (by omega)
   have b3 : decide ((0 : Int) < ln) = true := decide_eq_true (by omega)
   have b4 : 0 < ln := by omega
   clear g3
   go_enter Try.func54, Try.ntmps54
   go_wp2
   go_ret3
   exact ⟨rfl, H.out.drop⟩
 obtain rfl : ln = 0 := by omega
 clear g3
 by_cases g4 : o ≠ 0
 · rw [if_pos (.inr (.inr (.inr g4)))] at hr
   subst hr
   have b1 : (o != 0) = true := by simpa using g4
   clear g4
   go_enter Try.func54, Try.ntmps54
   go_wp2
   go_ret3
   exact ⟨rfl, H.out.drop⟩
 obtain rfl : o = 0 := by simpa using g4
 clear g4
 rw [if_neg (by simp)] at hr
 obtain ⟨a, ha⟩ : ∃ a, verRd 2 way 12 d1 = a := ⟨_, rfl⟩
 obtain ⟨b, hb⟩ : ∃ b, verRd 4 time0 11 d2 = b := ⟨_, rfl⟩
 rw [ha, hb] at hr
 have EA := Lib.hid ha
 have EB := Lib.hid hb
 clear ha hb
 by_cases g5 : a.2 ≠ 0
 · rw [if_pos g5] at hr
   subst hr
   have b1 : (a.2 != 0) = true := by simpa using g5
   clear g5
   go_enter Try.func54, Try.ntmps54
   go_wp2_with (first
    | (go_at_call 79; refine (ctl_readKey d1 a EA.out HD1.out H.out).mono ?_; rintro e wn ⟨rfl, h⟩; replace H := Lib.hid h; clear h; obtain ⟨ac0, ac1, ac2, ac3, ac4, ac5, ac6, af0, af1, af2, af3, af4, af5, af6⟩ := raw7 (b := wA) (H.out)))
   go_ret3
   exact ⟨rfl, H.out.drop⟩
 rw [if_neg g5] at hr
 have b1 : (a.2 != 0) = false := by simpa using g5
 clear g5
 by_cases g6 : b.2 ≠ 0
 · rw [if_pos g6] at hr
   subst hr
   have b2 : (b.2 != 0) = true := by simpa using g6
   clear g6
   go_enter Try.func54, Try.ntmps54
   go_wp2_with (first
    | (go_at_call 79; refine (ctl_readKey d1 a EA.out HD1.out H.out).mono ?_; rintro e wn ⟨rfl, h⟩; replace H := Lib.hid h; clear h; obtain ⟨ac0, ac1, ac2, ac3, ac4, ac5, ac6, af0, af1, af2, af3, af4, af5, af6⟩ := raw7 (b := wA) (H.out))
    | (go_at_call 80; refine (ctl_readValue d2 b EB.out HD2.out H.out).mono ?_; rintro e wn ⟨rfl, h⟩; replace H := Lib.hid h; clear h; obtain ⟨ac0, ac1, ac2, ac3, ac4, ac5, ac6, af0, af1, af2, af3, af4, af5, af6⟩ := raw7 (b := wA) (H.out)))
   go_ret3
   exact ⟨rfl, H.out.drop⟩
 rw [if_neg g6] at hr
 subst hr
 have b2 : (b.2 != 0) = false := by simpa using g6
 clear g6
 go_enter Try.func54, Try.ntmps54
 go_wp2_with (first
   | (go_at_call 79; refine (ctl_readKey d1 a EA.out HD1.out H.out).mono ?_; rintro e wn ⟨rfl, h⟩; replace H := Lib.hid h; clear h; obtain ⟨ac0, ac1, ac2, ac3, ac4, ac5, ac6, af0, af1, af2, af3, af4, af5, af6⟩ := raw7 (b := wA) (H.out))
   | (go_at_call 80; refine (ctl_readValue d2 b EB.out HD2.out H.out).mono ?_; rintro e wn ⟨rfl, h⟩; replace H := Lib.hid h; clear h; obtain ⟨ac0, ac1, ac2, ac3, ac4, ac5, ac6, af0, af1, af2, af3, af4, af5, af6⟩ := raw7 (b := wA) (H.out)))
 go_ret3
 exact ⟨rfl, H.out.drop⟩
structure BatS where
  base : Int
  leader : Int
  app : Bool
  txn : Bool
  ctl : Bool
  last : Int
  first : Int
  maxt : Int
  prod : Int
  epoch : Int
  seq : Int
  recs : List RecS
deriving DecidableEq
def BatS.zero : BatS := ⟨0, 0, false, false, false, 0, 0, 0, 0, 0, 0, []⟩
def Rn (n : Int) : Prop := -9223372036854775808 ≤ n ∧ n < 9223372036854775808
def BatS.R (b : BatS) : Prop := Rn b.base ∧ Rn b.leader ∧ Rn b.last ∧ Rn b.first ∧ Rn b.maxt ∧ Rn b.prod ∧ Rn b.epoch ∧ Rn b.seq
def BatS.placed (b : BatS) : Bool := decide (0 ≤ b.base ∧ (-1 ≤ b.leader ∧ b.leader ≤ 2147483647) ∧ (0 ≤ b.last ∧ b.last ≤ 2147483647) ∧ b.base ≤ 9223372036854775807 - b.last ∧ 0 ≤ b.first ∧ 0 ≤ b.maxt)
def BatS.signed (b : BatS) : Bool :=
  if b.prod = -1 then decide (b.epoch = -1 ∧ b.seq = -1 ∧ b.txn = false)
  else if b.prod < 0 ∨ ¬ (0 ≤ b.epoch ∧ b.epoch ≤ 32767) then false
  else if b.ctl then decide (b.seq = -1)
  else decide (0 ≤ b.seq ∧ b.seq ≤ 2147483647)
def rowsC (first last : Int) : List RecS → Int → Int → Except Int Int
  | [], _, g => .ok g
  | r :: t, ah, g => if r.off ≤ ah ∨ last < r.off then .error 13 else if r.time < -first ∨ 9223372036854775807 - first < r.time then .error 11 else rowsC first last t r.off (max g (first + r.time))
def rowsE (app : Bool) (maxt : Int) (r : Except Int Int) : Int := match r with
  | .error e => e
  | .ok g => if app = false ∧ maxt ≠ g then 11 else 0
def BatS.rows (b : BatS) : Int := rowsE b.app b.maxt (rowsC b.first b.last b.recs (-1) b.first)
def recsC : List RecS → Int
  | [] => 0
  | r :: t => if recOk r = 0 then recsC t else recOk r
def ctlOf (r : RecS) : Int × Int × Int := ctlRead r.key.null r.val.null r.key.data r.val.data r.hdrs.length r.off
def BatS.ends (b : BatS) : Int := match b.recs with | [] => 0 | r :: _ => (ctlOf r).2.2
def batErr (b : BatS) : Int :=
  if b.placed = false then 11
  else if b.ctl = true ∧ b.txn = false then 8
  else if b.signed = false then 11
  else if b.ctl = true ∧ b.recs.length ≠ 1 then 10
  else if recsC b.recs ≠ 0 then recsC b.recs
  else if b.ctl = true ∧ b.ends ≠ 0 then b.ends
  else b.rows
def FitB (l : List (RecS × Value)) : Prop := ∀ x ∈ l, x.1.R ∧ HFit x.1.hdrs ∧ x.1.sum ≤ 1000000
theorem sum_hdrs {x : RecS} (h : x.sum ≤ 1000000) : x.hdrs.length ≤ 1000000 := by have := hsum_le x.hdrs; unfold RecS.sum at h; omega
theorem sum_data {x : RecS} (h : x.sum ≤ 1000000) : x.key.data.length ≤ 140737488355328 ∧ x.val.data.length ≤ 140737488355328 := by unfold RecS.sum at h; omega
theorem drop_recs (l : List (RecS × Value)) (k : Nat) (h : k < l.length) (x : RecS) (hx : l[k].1 = x) : (l.map (·.1)).drop k = x :: (l.map (·.1)).drop (k + 1) := by
 subst hx
 rw [List.drop_eq_getElem_cons (by simpa using h), List.getElem_map]
theorem rowsC_cons (first last : Int) (r : RecS) (t : List RecS) (ah g : Int) : rowsC first last (r :: t) ah g = if r.off ≤ ah ∨ last < r.off then .error 13 else if r.time < -first ∨ 9223372036854775807 - first < r.time then .error 11 else rowsC first last t r.off (max g (first + r.time)) := rfl
structure PreS where
  base : Int
  len : Int
  leader : Int
  sum : Int
  attr : Int
  last : Int
  first : Int
  maxt : Int
  prod : Int
  epoch : Int
  seq : Int
  count : Int
deriving DecidableEq
def pv (x : PreS) : Value := .agg #[.int .i64 x.base, .int .i64 x.len, .int .i64 x.leader, .int .i64 x.sum, .int .i64 x.attr, .int .i64 x.last, .int .i64 x.first, .int .i64 x.maxt, .int .i64 x.prod, .int .i64 x.epoch, .int .i64 x.seq, .int .i64 x.count]
def PreS.list (x : PreS) : List Int := [x.base, x.len, x.leader, x.sum, x.attr, x.last, x.first, x.maxt, x.prod, x.epoch, x.seq, x.count]
def PreS.R (x : PreS) : Prop := ∀ n ∈ x.list, -9223372036854775808 ≤ n ∧ n < 9223372036854775808
def PreS.zero : PreS := ⟨0, 0, 0, 0, 0, 0, 0, 0, 0, 0, 0, 0⟩
def sumItem (n : Int) : Int := if n < 0 ∨ 4294967295 < n then 4294967296 else if 2147483647 < n then n - 4294967296 else n
def PreS.items (x : PreS) : List (Int × Nat) := [(x.base, 8), (x.len, 4), (x.leader, 4), (2, 1), (sumItem x.sum, 4), (x.attr, 2), (x.last, 4), (x.first, 8), (x.maxt, 8), (x.prod, 8), (x.epoch, 2), (x.seq, 4), (x.count, 4)]
def preSizes : List Nat := [8, 4, 4, 1, 4, 2, 4, 8, 8, 8, 2, 4, 4]
theorem sumItem_range (n : Int) : -9223372036854775808 ≤ sumItem n ∧ sumItem n < 9223372036854775808 := by
 unfold sumItem; split
 · omega
 · split <;> omega
theorem wrap32_sum (n : Int) (h0 : ¬ n < 0) (h1 : ¬ 4294967295 < n) : wrap32 n = sumItem n := by
 have e : wrap32 n = (n + 2147483648) % 4294967296 - 2147483648 := by unfold wrap32; rfl
 rw [e]
 unfold sumItem
 rw [if_neg (by omega)]
 split <;> omega
theorem OutS.okI {o : OutS} {a b : Int} {m : Nat} (h : o.ok (m + 8)) : (o.int a b).ok m := OutS.ok_int h (by omega)
theorem OutS.int_bad (o : OutS) (n : Int) (h : n < 0 ∨ 4294967295 < n) : o.int (sumItem n) 4 = o.fail 11 := by
 have e : sumItem n = 4294967296 := if_pos h
 rw [e]
 unfold OutS.int
 rw [if_neg (by decide)]

set_option maxHeartbeats 1000000 in
set_option maxRecDepth 100000 in
theorem prefix_putSum (p : Nat) (o : OutS) (n : Int) (_ : -9223372036854775808 ≤ n ∧ n < 9223372036854775808) {W0 w : World} {K : Know} {L : List Res} (h : St W0 w K (.out p o :: L)) (hr : o.ok 8) :
   Calls Try.prog 83 #[outPtr p, .int .i64 n] w fun en w' => en = .returned (.tuple #[]) ∧ St W0 w' K (.out p (o.int (sumItem n) 4) :: L) := by
 have H := Lib.hid h
 have HR := Lib.hid hr
 clear h hr
 by_cases h0 : n < 0
 · have E := Lib.hid (OutS.int_bad o n (.inl h0)).symm
   go_enter Try.func83, Try.ntmps83
   go_wp2_with (go_at_call 37; refine (so_fail _ _ _ stQ).mono ?_; (repeat first | rw [E.out]); rintro e wn ⟨rfl, h⟩; replace H := Lib.hid h; clear h)
   refine bodyPost_ret (results_none rfl _ _ _) rfl ⟨rfl, H.out⟩
 by_cases h1 : 4294967295 < n
 · have E := Lib.hid (OutS.int_bad o n (.inr h1)).symm
   go_enter Try.func83, Try.ntmps83
   go_wp2_with (go_at_call 37; refine (so_fail _ _ _ stQ).mono ?_; (repeat first | rw [E.out]); rintro e wn ⟨rfl, h⟩; replace H := Lib.hid h; clear h)
   refine bodyPost_ret (results_none rfl _ _ _) rfl ⟨rfl, H.out⟩
 · have HW2 := Lib.hid (wrap32_sum n h0 h1)
   have HS := Lib.hid (sumItem_range n)
   have HS2 := Lib.hid (wrap64_in _ HS.out.1 HS.out.2)
   go_enter Try.func83, Try.ntmps83
   go_wp2_with (go_at_call 39; rw [show wrap64 (wrap32 n) = sumItem n from by rw [HW2.out]; exact HS2.out]; refine (so_int _ _ _ _ HS.out H.out HR.out).mono ?_; rintro e wn ⟨rfl, h⟩; replace H := Lib.hid h; clear h)
   go_end0
   exact ⟨rfl, H.out⟩

set_option maxHeartbeats 1000000 in
set_option maxRecDepth 100000 in
theorem prefix_write (p : Nat) (o : OutS) (x : PreS) (hx : x.R) {W0 w : World} {K : Know} {L : List Res} (h : St W0 w K (.out p o :: L)) (hr : o.ok 200) :
  Calls Try.prog 58 #[outPtr p, pv x] w fun en w' => en = .returned (.tuple #[]) ∧ St W0 w' K (.out p (o.ints x.items) :: L) := by
 have H := Lib.hid (h.allocRaw #[.int .i64 x.base, .int .i64 x.len, .int .i64 x.leader, .int .i64 x.sum, .int .i64 x.attr, .int .i64 x.last, .int .i64 x.first, .int .i64 x.maxt, .int .i64 x.prod, .int .i64 x.epoch, .int .i64 x.seq, .int .i64 x.count] 73).p1
 have HR := Lib.hid hr
 have N0 := Lib.hid (hx x.base (by simp [PreS.list]))
 have N1 := Lib.hid (hx x.len (by simp [PreS.list]))
 have N2 := Lib.hid (hx x.leader (by simp [PreS.list]))
 have N3 := Lib.hid (hx x.sum (by simp [PreS.list]))
 have N4 := Lib.hid (hx x.attr (by simp [PreS.list]))
 have N5 := Lib.hid (hx x.last (by simp [PreS.list]))
 have N6 := Lib.hid (hx x.first (by simp [PreS.list]))
 have N7 := Lib.hid (hx x.maxt (by simp [PreS.list]))
 have N8 := Lib.hid (hx x.prod (by simp [PreS.list]))
 have N9 := Lib.hid (hx x.epoch (by simp [PreS.list]))
 have N10 := Lib.hid (hx x.seq (by simp [PreS.list]))
 have N11 := Lib.hid (hx x.count (by simp [PreS.list]))
 have HS := Lib.hid (sumItem_range x.sum)
 clear h hr hx
 go_enter Try.func58, Try.ntmps58
 unfold pv
 go_wp2_with (first
  | (go_at_call 39; refine (so_int _ _ _ _ (by first | exact N0.out | exact N1.out | exact N2.out | exact N3.out | exact N4.out | exact N5.out | exact N6.out | exact N7.out | exact N8.out | exact N9.out | exact N10.out | exact N11.out | decide) stQ (by repeat (first | exact OutS.ok_mono HR.out (by decide) | with_reducible refine OutS.okI ?_))).mono ?_; rintro e wn ⟨rfl, h⟩; replace H := Lib.hid h; clear h; have c0 := H.out.cellOf (b := w.heap.size) (c := #[.int .i64 x.base, .int .i64 x.len, .int .i64 x.leader, .int .i64 x.sum, .int .i64 x.attr, .int .i64 x.last, .int .i64 x.first, .int .i64 x.maxt, .int .i64 x.prod, .int .i64 x.epoch, .int .i64 x.seq, .int .i64 x.count]) (T := 73) (by simp) 0; have c1 := H.out.cellOf (b := w.heap.size) (c := #[.int .i64 x.base, .int .i64 x.len, .int .i64 x.leader, .int .i64 x.sum, .int .i64 x.attr, .int .i64 x.last, .int .i64 x.first, .int .i64 x.maxt, .int .i64 x.prod, .int .i64 x.epoch, .int .i64 x.seq, .int .i64 x.count]) (T := 73) (by simp) 1; have c2 := H.out.cellOf (b := w.heap.size) (c := #[.int .i64 x.base, .int .i64 x.len, .int .i64 x.leader, .int .i64 x.sum, .int .i64 x.attr, .int .i64 x.last, .int .i64 x.first, .int .i64 x.maxt, .int .i64 x.prod, .int .i64 x.epoch, .int .i64 x.seq, .int .i64 x.count]) (T := 73) (by simp) 2; have c3 := H.out.cellOf (b := w.heap.size) (c := #[.int .i64 x.base, .int .i64 x.len, .int .i64 x.leader, .int .i64 x.sum, .int .i64 x.attr, .int .i64 x.last, .int .i64 x.first, .int .i64 x.maxt, .int .i64 x.prod, .int .i64 x.epoch, .int .i64 x.seq, .int .i64 x.count]) (T := 73) (by simp) 3; have c4 := H.out.cellOf (b := w.heap.size) (c := #[.int .i64 x.base, .int .i64 x.len, .int .i64 x.leader, .int .i64 x.sum, .int .i64 x.attr, .int .i64 x.last, .int .i64 x.first, .int .i64 x.maxt, .int .i64 x.prod, .int .i64 x.epoch, .int .i64 x.seq, .int .i64 x.count]) (T := 73) (by simp) 4; have c5 := H.out.cellOf (b := w.heap.size) (c := #[.int .i64 x.base, .int .i64 x.len, .int .i64 x.leader, .int .i64 x.sum, .int .i64 x.attr, .int .i64 x.last, .int .i64 x.first, .int .i64 x.maxt, .int .i64 x.prod, .int .i64 x.epoch, .int .i64 x.seq, .int .i64 x.count]) (T := 73) (by simp) 5; have c6 := H.out.cellOf (b := w.heap.size) (c := #[.int .i64 x.base, .int .i64 x.len, .int .i64 x.leader, .int .i64 x.sum, .int .i64 x.attr, .int .i64 x.last, .int .i64 x.first, .int .i64 x.maxt, .int .i64 x.prod, .int .i64 x.epoch, .int .i64 x.seq, .int .i64 x.count]) (T := 73) (by simp) 6; have c7 := H.out.cellOf (b := w.heap.size) (c := #[.int .i64 x.base, .int .i64 x.len, .int .i64 x.leader, .int .i64 x.sum, .int .i64 x.attr, .int .i64 x.last, .int .i64 x.first, .int .i64 x.maxt, .int .i64 x.prod, .int .i64 x.epoch, .int .i64 x.seq, .int .i64 x.count]) (T := 73) (by simp) 7; have c8 := H.out.cellOf (b := w.heap.size) (c := #[.int .i64 x.base, .int .i64 x.len, .int .i64 x.leader, .int .i64 x.sum, .int .i64 x.attr, .int .i64 x.last, .int .i64 x.first, .int .i64 x.maxt, .int .i64 x.prod, .int .i64 x.epoch, .int .i64 x.seq, .int .i64 x.count]) (T := 73) (by simp) 8; have c9 := H.out.cellOf (b := w.heap.size) (c := #[.int .i64 x.base, .int .i64 x.len, .int .i64 x.leader, .int .i64 x.sum, .int .i64 x.attr, .int .i64 x.last, .int .i64 x.first, .int .i64 x.maxt, .int .i64 x.prod, .int .i64 x.epoch, .int .i64 x.seq, .int .i64 x.count]) (T := 73) (by simp) 9; have c10 := H.out.cellOf (b := w.heap.size) (c := #[.int .i64 x.base, .int .i64 x.len, .int .i64 x.leader, .int .i64 x.sum, .int .i64 x.attr, .int .i64 x.last, .int .i64 x.first, .int .i64 x.maxt, .int .i64 x.prod, .int .i64 x.epoch, .int .i64 x.seq, .int .i64 x.count]) (T := 73) (by simp) 10; have c11 := H.out.cellOf (b := w.heap.size) (c := #[.int .i64 x.base, .int .i64 x.len, .int .i64 x.leader, .int .i64 x.sum, .int .i64 x.attr, .int .i64 x.last, .int .i64 x.first, .int .i64 x.maxt, .int .i64 x.prod, .int .i64 x.epoch, .int .i64 x.seq, .int .i64 x.count]) (T := 73) (by simp) 11; simp at c0 c1 c2 c3 c4 c5 c6 c7 c8 c9 c10 c11)
  | (go_at_call 83; refine (prefix_putSum _ _ _ (by first | exact N0.out | exact N1.out | exact N2.out | exact N3.out | exact N4.out | exact N5.out | exact N6.out | exact N7.out | exact N8.out | exact N9.out | exact N10.out | exact N11.out | decide) stQ (by repeat (first | exact OutS.ok_mono HR.out (by decide) | with_reducible refine OutS.okI ?_))).mono ?_; rintro e wn ⟨rfl, h⟩; replace H := Lib.hid h; clear h; have c0 := H.out.cellOf (b := w.heap.size) (c := #[.int .i64 x.base, .int .i64 x.len, .int .i64 x.leader, .int .i64 x.sum, .int .i64 x.attr, .int .i64 x.last, .int .i64 x.first, .int .i64 x.maxt, .int .i64 x.prod, .int .i64 x.epoch, .int .i64 x.seq, .int .i64 x.count]) (T := 73) (by simp) 0; have c1 := H.out.cellOf (b := w.heap.size) (c := #[.int .i64 x.base, .int .i64 x.len, .int .i64 x.leader, .int .i64 x.sum, .int .i64 x.attr, .int .i64 x.last, .int .i64 x.first, .int .i64 x.maxt, .int .i64 x.prod, .int .i64 x.epoch, .int .i64 x.seq, .int .i64 x.count]) (T := 73) (by simp) 1; have c2 := H.out.cellOf (b := w.heap.size) (c := #[.int .i64 x.base, .int .i64 x.len, .int .i64 x.leader, .int .i64 x.sum, .int .i64 x.attr, .int .i64 x.last, .int .i64 x.first, .int .i64 x.maxt, .int .i64 x.prod, .int .i64 x.epoch, .int .i64 x.seq, .int .i64 x.count]) (T := 73) (by simp) 2; have c3 := H.out.cellOf (b := w.heap.size) (c := #[.int .i64 x.base, .int .i64 x.len, .int .i64 x.leader, .int .i64 x.sum, .int .i64 x.attr, .int .i64 x.last, .int .i64 x.first, .int .i64 x.maxt, .int .i64 x.prod, .int .i64 x.epoch, .int .i64 x.seq, .int .i64 x.count]) (T := 73) (by simp) 3; have c4 := H.out.cellOf (b := w.heap.size) (c := #[.int .i64 x.base, .int .i64 x.len, .int .i64 x.leader, .int .i64 x.sum, .int .i64 x.attr, .int .i64 x.last, .int .i64 x.first, .int .i64 x.maxt, .int .i64 x.prod, .int .i64 x.epoch, .int .i64 x.seq, .int .i64 x.count]) (T := 73) (by simp) 4; have c5 := H.out.cellOf (b := w.heap.size) (c := #[.int .i64 x.base, .int .i64 x.len, .int .i64 x.leader, .int .i64 x.sum, .int .i64 x.attr, .int .i64 x.last, .int .i64 x.first, .int .i64 x.maxt, .int .i64 x.prod, .int .i64 x.epoch, .int .i64 x.seq, .int .i64 x.count]) (T := 73) (by simp) 5; have c6 := H.out.cellOf (b := w.heap.size) (c := #[.int .i64 x.base, .int .i64 x.len, .int .i64 x.leader, .int .i64 x.sum, .int .i64 x.attr, .int .i64 x.last, .int .i64 x.first, .int .i64 x.maxt, .int .i64 x.prod, .int .i64 x.epoch, .int .i64 x.seq, .int .i64 x.count]) (T := 73) (by simp) 6; have c7 := H.out.cellOf (b := w.heap.size) (c := #[.int .i64 x.base, .int .i64 x.len, .int .i64 x.leader, .int .i64 x.sum, .int .i64 x.attr, .int .i64 x.last, .int .i64 x.first, .int .i64 x.maxt, .int .i64 x.prod, .int .i64 x.epoch, .int .i64 x.seq, .int .i64 x.count]) (T := 73) (by simp) 7; have c8 := H.out.cellOf (b := w.heap.size) (c := #[.int .i64 x.base, .int .i64 x.len, .int .i64 x.leader, .int .i64 x.sum, .int .i64 x.attr, .int .i64 x.last, .int .i64 x.first, .int .i64 x.maxt, .int .i64 x.prod, .int .i64 x.epoch, .int .i64 x.seq, .int .i64 x.count]) (T := 73) (by simp) 8; have c9 := H.out.cellOf (b := w.heap.size) (c := #[.int .i64 x.base, .int .i64 x.len, .int .i64 x.leader, .int .i64 x.sum, .int .i64 x.attr, .int .i64 x.last, .int .i64 x.first, .int .i64 x.maxt, .int .i64 x.prod, .int .i64 x.epoch, .int .i64 x.seq, .int .i64 x.count]) (T := 73) (by simp) 9; have c10 := H.out.cellOf (b := w.heap.size) (c := #[.int .i64 x.base, .int .i64 x.len, .int .i64 x.leader, .int .i64 x.sum, .int .i64 x.attr, .int .i64 x.last, .int .i64 x.first, .int .i64 x.maxt, .int .i64 x.prod, .int .i64 x.epoch, .int .i64 x.seq, .int .i64 x.count]) (T := 73) (by simp) 10; have c11 := H.out.cellOf (b := w.heap.size) (c := #[.int .i64 x.base, .int .i64 x.len, .int .i64 x.leader, .int .i64 x.sum, .int .i64 x.attr, .int .i64 x.last, .int .i64 x.first, .int .i64 x.maxt, .int .i64 x.prod, .int .i64 x.epoch, .int .i64 x.seq, .int .i64 x.count]) (T := 73) (by simp) 11; simp at c0 c1 c2 c3 c4 c5 c6 c7 c8 c9 c10 c11))
 go_end0
 exact ⟨rfl, H.out.p1.drop⟩
theorem St.set1_Pre2 {W0 w : World} {K : Know} {L : List Res} {r : Res} {b j : Nat} {c : Array Value} {T : TypeId} {v : Value} (h : St W0 w K (r :: .raw b c T :: L)) : St W0 (w.setCell ⟨b, j, none⟩ v) K (r :: .raw b (c.setIfInBounds j v) T :: L) := (h.p1.rawSet j v).p1
theorem and_u32 (n : Int) : bits .and .i64 n 4294967295 = n % 4294967296 := by
 rw [bits_and_i64]
 have e1 : ((4294967295 : Int) % 18446744073709551616).toNat = 2 ^ 32 - 1 := by decide
 rw [e1, Nat.and_two_pow_sub_one_eq_mod]
 have h : (0 : Int) ≤ n % 18446744073709551616 := Int.emod_nonneg _ (by decide)
 rw [IntKind.wrap_i64]
 omega

set_option maxHeartbeats 1000000 in
set_option maxRecDepth 100000 in
theorem prefix_fields (p : Nat) (i i1 i2 i3 i4 i5 i6 i7 i8 i9 i10 i11 i12 i13 : InS) (a0 a1 a2 a3 a4 a5 a6 a7 a8 a9 a10 a11 a12 sm : Int) (e0 : i.int 8 = (a0, i1)) (e1 : i1.int 4 = (a1, i2)) (e2 : i2.int 4 = (a2, i3)) (e3 : i3.int 1 = (a3, i4)) (e4 : i4.int 4 = (a4, i5)) (e5 : i5.int 2 = (a5, i6)) (e6 : i6.int 4 = (a6, i7)) (e7 : i7.int 8 = (a7, i8)) (e8 : i8.int 8 = (a8, i9)) (e9 : i9.int 8 = (a9, i10)) (e10 : i10.int 2 = (a10, i11)) (e11 : i11.int 4 = (a11, i12)) (e12 : i12.int 4 = (a12, i13)) (hsm : bits .and .i64 a4 4294967295 = sm) {W0 w : World} {K : Know} {L : List Res} (h : St W0 w K (.inp p i :: L)) :
  Calls Try.prog 86 #[inPtr p] w fun en w' => en = .returned (.tuple #[.agg #[.int .i64 a0, .int .i64 a1, .int .i64 a2, .int .i64 sm, .int .i64 a5, .int .i64 a6, .int .i64 a7, .int .i64 a8, .int .i64 a9, .int .i64 a10, .int .i64 a11, .int .i64 a12], .int .i64 a3]) ∧ St W0 w' K (.inp p i13 :: L) := by
 have H := Lib.hid (h.allocRaw #[.int .i64 0, .int .i64 0, .int .i64 0, .int .i64 0, .int .i64 0, .int .i64 0, .int .i64 0, .int .i64 0, .int .i64 0, .int .i64 0, .int .i64 0, .int .i64 0] 73).p1
 have E0 := Lib.hid e0
 have tok0 : True := trivial
 have E1 := Lib.hid e1
 have tok1 : True := trivial
 have E2 := Lib.hid e2
 have tok2 : True := trivial
 have E3 := Lib.hid e3
 have tok3 : True := trivial
 have E4 := Lib.hid e4
 have tok4 : True := trivial
 have E5 := Lib.hid e5
 have tok5 : True := trivial
 have E6 := Lib.hid e6
 have tok6 : True := trivial
 have E7 := Lib.hid e7
 have tok7 : True := trivial
 have E8 := Lib.hid e8
 have tok8 : True := trivial
 have E9 := Lib.hid e9
 have tok9 : True := trivial
 have E10 := Lib.hid e10
 have tok10 : True := trivial
 have E11 := Lib.hid e11
 have tok11 : True := trivial
 have E12 := Lib.hid e12
 have tok12 : True := trivial
 clear h e0 e1 e2 e3 e4 e5 e6 e7 e8 e9 e10 e11 e12
 go_enter Try.func86, Try.ntmps86
 go_wp2_with (first
  | (go_at_call 20; have _t := tok0; clear _t; (with_reducible refine (s_int _ i 8 H.out).mono ?_); rw [E0.out]; rintro e wn ⟨rfl, h⟩; replace H := Lib.hid (show St W0 wn K (.inp p i1 :: .raw w.heap.size #[.int .i64 0, .int .i64 0, .int .i64 0, .int .i64 0, .int .i64 0, .int .i64 0, .int .i64 0, .int .i64 0, .int .i64 0, .int .i64 0, .int .i64 0, .int .i64 0] 73 :: L) from h); clear h tok0; have z0 := H.out.p1.rawCell 0; have z1 := H.out.p1.rawFree 0; simp at z0)
  | (go_at_call 20; have _t := tok1; clear _t; (with_reducible refine (s_int _ i1 4 (St.set1_Pre2 H.out)).mono ?_); rw [E1.out]; rintro e wn ⟨rfl, h⟩; replace H := Lib.hid (show St W0 wn K (.inp p i2 :: .raw w.heap.size #[.int .i64 a0, .int .i64 0, .int .i64 0, .int .i64 0, .int .i64 0, .int .i64 0, .int .i64 0, .int .i64 0, .int .i64 0, .int .i64 0, .int .i64 0, .int .i64 0] 73 :: L) from h); clear h tok1; have z0 := H.out.p1.rawCell 1; have z1 := H.out.p1.rawFree 1; simp at z0)
  | (go_at_call 20; have _t := tok2; clear _t; (with_reducible refine (s_int _ i2 4 (St.set1_Pre2 H.out)).mono ?_); rw [E2.out]; rintro e wn ⟨rfl, h⟩; replace H := Lib.hid (show St W0 wn K (.inp p i3 :: .raw w.heap.size #[.int .i64 a0, .int .i64 a1, .int .i64 0, .int .i64 0, .int .i64 0, .int .i64 0, .int .i64 0, .int .i64 0, .int .i64 0, .int .i64 0, .int .i64 0, .int .i64 0] 73 :: L) from h); clear h tok2; have z0 := H.out.p1.rawCell 2; have z1 := H.out.p1.rawFree 2; simp at z0)
  | (go_at_call 20; have _t := tok3; clear _t; (with_reducible refine (s_int _ i3 1 (St.set1_Pre2 H.out)).mono ?_); rw [E3.out]; rintro e wn ⟨rfl, h⟩; replace H := Lib.hid (show St W0 wn K (.inp p i4 :: .raw w.heap.size #[.int .i64 a0, .int .i64 a1, .int .i64 a2, .int .i64 0, .int .i64 0, .int .i64 0, .int .i64 0, .int .i64 0, .int .i64 0, .int .i64 0, .int .i64 0, .int .i64 0] 73 :: L) from h); clear h tok3; have z0 := H.out.p1.rawCell 0; have z1 := H.out.p1.rawFree 0; simp at z0)
  | (go_at_call 20; have _t := tok4; clear _t; (with_reducible refine (s_int _ i4 4 H.out).mono ?_); rw [E4.out]; rintro e wn ⟨rfl, h⟩; replace H := Lib.hid (show St W0 wn K (.inp p i5 :: .raw w.heap.size #[.int .i64 a0, .int .i64 a1, .int .i64 a2, .int .i64 0, .int .i64 0, .int .i64 0, .int .i64 0, .int .i64 0, .int .i64 0, .int .i64 0, .int .i64 0, .int .i64 0] 73 :: L) from h); clear h tok4; have z0 := H.out.p1.rawCell 3; have z1 := H.out.p1.rawFree 3; simp at z0)
  | (go_at_call 20; have _t := tok5; clear _t; (with_reducible refine (s_int _ i5 2 (St.set1_Pre2 H.out)).mono ?_); rw [E5.out]; rintro e wn ⟨rfl, h⟩; replace H := Lib.hid (show St W0 wn K (.inp p i6 :: .raw w.heap.size #[.int .i64 a0, .int .i64 a1, .int .i64 a2, .int .i64 sm, .int .i64 0, .int .i64 0, .int .i64 0, .int .i64 0, .int .i64 0, .int .i64 0, .int .i64 0, .int .i64 0] 73 :: L) from h); clear h tok5; have z0 := H.out.p1.rawCell 4; have z1 := H.out.p1.rawFree 4; simp at z0)
  | (go_at_call 20; have _t := tok6; clear _t; (with_reducible refine (s_int _ i6 4 (St.set1_Pre2 H.out)).mono ?_); rw [E6.out]; rintro e wn ⟨rfl, h⟩; replace H := Lib.hid (show St W0 wn K (.inp p i7 :: .raw w.heap.size #[.int .i64 a0, .int .i64 a1, .int .i64 a2, .int .i64 sm, .int .i64 a5, .int .i64 0, .int .i64 0, .int .i64 0, .int .i64 0, .int .i64 0, .int .i64 0, .int .i64 0] 73 :: L) from h); clear h tok6; have z0 := H.out.p1.rawCell 5; have z1 := H.out.p1.rawFree 5; simp at z0)
  | (go_at_call 20; have _t := tok7; clear _t; (with_reducible refine (s_int _ i7 8 (St.set1_Pre2 H.out)).mono ?_); rw [E7.out]; rintro e wn ⟨rfl, h⟩; replace H := Lib.hid (show St W0 wn K (.inp p i8 :: .raw w.heap.size #[.int .i64 a0, .int .i64 a1, .int .i64 a2, .int .i64 sm, .int .i64 a5, .int .i64 a6, .int .i64 0, .int .i64 0, .int .i64 0, .int .i64 0, .int .i64 0, .int .i64 0] 73 :: L) from h); clear h tok7; have z0 := H.out.p1.rawCell 6; have z1 := H.out.p1.rawFree 6; simp at z0)
  | (go_at_call 20; have _t := tok8; clear _t; (with_reducible refine (s_int _ i8 8 (St.set1_Pre2 H.out)).mono ?_); rw [E8.out]; rintro e wn ⟨rfl, h⟩; replace H := Lib.hid (show St W0 wn K (.inp p i9 :: .raw w.heap.size #[.int .i64 a0, .int .i64 a1, .int .i64 a2, .int .i64 sm, .int .i64 a5, .int .i64 a6, .int .i64 a7, .int .i64 0, .int .i64 0, .int .i64 0, .int .i64 0, .int .i64 0] 73 :: L) from h); clear h tok8; have z0 := H.out.p1.rawCell 7; have z1 := H.out.p1.rawFree 7; simp at z0)
  | (go_at_call 20; have _t := tok9; clear _t; (with_reducible refine (s_int _ i9 8 (St.set1_Pre2 H.out)).mono ?_); rw [E9.out]; rintro e wn ⟨rfl, h⟩; replace H := Lib.hid (show St W0 wn K (.inp p i10 :: .raw w.heap.size #[.int .i64 a0, .int .i64 a1, .int .i64 a2, .int .i64 sm, .int .i64 a5, .int .i64 a6, .int .i64 a7, .int .i64 a8, .int .i64 0, .int .i64 0, .int .i64 0, .int .i64 0] 73 :: L) from h); clear h tok9; have z0 := H.out.p1.rawCell 8; have z1 := H.out.p1.rawFree 8; simp at z0)
  | (go_at_call 20; have _t := tok10; clear _t; (with_reducible refine (s_int _ i10 2 (St.set1_Pre2 H.out)).mono ?_); rw [E10.out]; rintro e wn ⟨rfl, h⟩; replace H := Lib.hid (show St W0 wn K (.inp p i11 :: .raw w.heap.size #[.int .i64 a0, .int .i64 a1, .int .i64 a2, .int .i64 sm, .int .i64 a5, .int .i64 a6, .int .i64 a7, .int .i64 a8, .int .i64 a9, .int .i64 0, .int .i64 0, .int .i64 0] 73 :: L) from h); clear h tok10; have z0 := H.out.p1.rawCell 9; have z1 := H.out.p1.rawFree 9; simp at z0)
  | (go_at_call 20; have _t := tok11; clear _t; (with_reducible refine (s_int _ i11 4 (St.set1_Pre2 H.out)).mono ?_); rw [E11.out]; rintro e wn ⟨rfl, h⟩; replace H := Lib.hid (show St W0 wn K (.inp p i12 :: .raw w.heap.size #[.int .i64 a0, .int .i64 a1, .int .i64 a2, .int .i64 sm, .int .i64 a5, .int .i64 a6, .int .i64 a7, .int .i64 a8, .int .i64 a9, .int .i64 a10, .int .i64 0, .int .i64 0] 73 :: L) from h); clear h tok11; have z0 := H.out.p1.rawCell 10; have z1 := H.out.p1.rawFree 10; simp at z0)
  | (go_at_call 20; have _t := tok12; clear _t; (with_reducible refine (s_int _ i12 4 (St.set1_Pre2 H.out)).mono ?_); rw [E12.out]; rintro e wn ⟨rfl, h⟩; replace H := Lib.hid (show St W0 wn K (.inp p i13 :: .raw w.heap.size #[.int .i64 a0, .int .i64 a1, .int .i64 a2, .int .i64 sm, .int .i64 a5, .int .i64 a6, .int .i64 a7, .int .i64 a8, .int .i64 a9, .int .i64 a10, .int .i64 a11, .int .i64 0] 73 :: L) from h); clear h tok12; have z0 := H.out.p1.rawCell 11; have z1 := H.out.p1.rawFree 11; simp at z0; have HH := Lib.hid H.out.p1; have qf0 := HH.out.freeOf (b := w.heap.size) (c := #[.int .i64 a0, .int .i64 a1, .int .i64 a2, .int .i64 sm, .int .i64 a5, .int .i64 a6, .int .i64 a7, .int .i64 a8, .int .i64 a9, .int .i64 a10, .int .i64 a11, .int .i64 0]) (T := 73) (by simp) 0; have qc0 := HH.out.cellOf (b := w.heap.size) (c := #[.int .i64 a0, .int .i64 a1, .int .i64 a2, .int .i64 sm, .int .i64 a5, .int .i64 a6, .int .i64 a7, .int .i64 a8, .int .i64 a9, .int .i64 a10, .int .i64 a11, .int .i64 0]) (T := 73) (by simp) 0; have qf1 := HH.out.freeOf (b := w.heap.size) (c := #[.int .i64 a0, .int .i64 a1, .int .i64 a2, .int .i64 sm, .int .i64 a5, .int .i64 a6, .int .i64 a7, .int .i64 a8, .int .i64 a9, .int .i64 a10, .int .i64 a11, .int .i64 0]) (T := 73) (by simp) 1; have qc1 := HH.out.cellOf (b := w.heap.size) (c := #[.int .i64 a0, .int .i64 a1, .int .i64 a2, .int .i64 sm, .int .i64 a5, .int .i64 a6, .int .i64 a7, .int .i64 a8, .int .i64 a9, .int .i64 a10, .int .i64 a11, .int .i64 0]) (T := 73) (by simp) 1; have qf2 := HH.out.freeOf (b := w.heap.size) (c := #[.int .i64 a0, .int .i64 a1, .int .i64 a2, .int .i64 sm, .int .i64 a5, .int .i64 a6, .int .i64 a7, .int .i64 a8, .int .i64 a9, .int .i64 a10, .int .i64 a11, .int .i64 0]) (T := 73) (by simp) 2; have qc2 := HH.out.cellOf (b := w.heap.size) (c := #[.int .i64 a0, .int .i64 a1, .int .i64 a2, .int .i64 sm, .int .i64 a5, .int .i64 a6, .int .i64 a7, .int .i64 a8, .int .i64 a9, .int .i64 a10, .int .i64 a11, .int .i64 0]) (T := 73) (by simp) 2; have qf3 := HH.out.freeOf (b := w.heap.size) (c := #[.int .i64 a0, .int .i64 a1, .int .i64 a2, .int .i64 sm, .int .i64 a5, .int .i64 a6, .int .i64 a7, .int .i64 a8, .int .i64 a9, .int .i64 a10, .int .i64 a11, .int .i64 0]) (T := 73) (by simp) 3; have qc3 := HH.out.cellOf (b := w.heap.size) (c := #[.int .i64 a0, .int .i64 a1, .int .i64 a2, .int .i64 sm, .int .i64 a5, .int .i64 a6, .int .i64 a7, .int .i64 a8, .int .i64 a9, .int .i64 a10, .int .i64 a11, .int .i64 0]) (T := 73) (by simp) 3; have qf4 := HH.out.freeOf (b := w.heap.size) (c := #[.int .i64 a0, .int .i64 a1, .int .i64 a2, .int .i64 sm, .int .i64 a5, .int .i64 a6, .int .i64 a7, .int .i64 a8, .int .i64 a9, .int .i64 a10, .int .i64 a11, .int .i64 0]) (T := 73) (by simp) 4; have qc4 := HH.out.cellOf (b := w.heap.size) (c := #[.int .i64 a0, .int .i64 a1, .int .i64 a2, .int .i64 sm, .int .i64 a5, .int .i64 a6, .int .i64 a7, .int .i64 a8, .int .i64 a9, .int .i64 a10, .int .i64 a11, .int .i64 0]) (T := 73) (by simp) 4; have qf5 := HH.out.freeOf (b := w.heap.size) (c := #[.int .i64 a0, .int .i64 a1, .int .i64 a2, .int .i64 sm, .int .i64 a5, .int .i64 a6, .int .i64 a7, .int .i64 a8, .int .i64 a9, .int .i64 a10, .int .i64 a11, .int .i64 0]) (T := 73) (by simp) 5; have qc5 := HH.out.cellOf (b := w.heap.size) (c := #[.int .i64 a0, .int .i64 a1, .int .i64 a2, .int .i64 sm, .int .i64 a5, .int .i64 a6, .int .i64 a7, .int .i64 a8, .int .i64 a9, .int .i64 a10, .int .i64 a11, .int .i64 0]) (T := 73) (by simp) 5; have qf6 := HH.out.freeOf (b := w.heap.size) (c := #[.int .i64 a0, .int .i64 a1, .int .i64 a2, .int .i64 sm, .int .i64 a5, .int .i64 a6, .int .i64 a7, .int .i64 a8, .int .i64 a9, .int .i64 a10, .int .i64 a11, .int .i64 0]) (T := 73) (by simp) 6; have qc6 := HH.out.cellOf (b := w.heap.size) (c := #[.int .i64 a0, .int .i64 a1, .int .i64 a2, .int .i64 sm, .int .i64 a5, .int .i64 a6, .int .i64 a7, .int .i64 a8, .int .i64 a9, .int .i64 a10, .int .i64 a11, .int .i64 0]) (T := 73) (by simp) 6; have qf7 := HH.out.freeOf (b := w.heap.size) (c := #[.int .i64 a0, .int .i64 a1, .int .i64 a2, .int .i64 sm, .int .i64 a5, .int .i64 a6, .int .i64 a7, .int .i64 a8, .int .i64 a9, .int .i64 a10, .int .i64 a11, .int .i64 0]) (T := 73) (by simp) 7; have qc7 := HH.out.cellOf (b := w.heap.size) (c := #[.int .i64 a0, .int .i64 a1, .int .i64 a2, .int .i64 sm, .int .i64 a5, .int .i64 a6, .int .i64 a7, .int .i64 a8, .int .i64 a9, .int .i64 a10, .int .i64 a11, .int .i64 0]) (T := 73) (by simp) 7; have qf8 := HH.out.freeOf (b := w.heap.size) (c := #[.int .i64 a0, .int .i64 a1, .int .i64 a2, .int .i64 sm, .int .i64 a5, .int .i64 a6, .int .i64 a7, .int .i64 a8, .int .i64 a9, .int .i64 a10, .int .i64 a11, .int .i64 0]) (T := 73) (by simp) 8; have qc8 := HH.out.cellOf (b := w.heap.size) (c := #[.int .i64 a0, .int .i64 a1, .int .i64 a2, .int .i64 sm, .int .i64 a5, .int .i64 a6, .int .i64 a7, .int .i64 a8, .int .i64 a9, .int .i64 a10, .int .i64 a11, .int .i64 0]) (T := 73) (by simp) 8; have qf9 := HH.out.freeOf (b := w.heap.size) (c := #[.int .i64 a0, .int .i64 a1, .int .i64 a2, .int .i64 sm, .int .i64 a5, .int .i64 a6, .int .i64 a7, .int .i64 a8, .int .i64 a9, .int .i64 a10, .int .i64 a11, .int .i64 0]) (T := 73) (by simp) 9; have qc9 := HH.out.cellOf (b := w.heap.size) (c := #[.int .i64 a0, .int .i64 a1, .int .i64 a2, .int .i64 sm, .int .i64 a5, .int .i64 a6, .int .i64 a7, .int .i64 a8, .int .i64 a9, .int .i64 a10, .int .i64 a11, .int .i64 0]) (T := 73) (by simp) 9; have qf10 := HH.out.freeOf (b := w.heap.size) (c := #[.int .i64 a0, .int .i64 a1, .int .i64 a2, .int .i64 sm, .int .i64 a5, .int .i64 a6, .int .i64 a7, .int .i64 a8, .int .i64 a9, .int .i64 a10, .int .i64 a11, .int .i64 0]) (T := 73) (by simp) 10; have qc10 := HH.out.cellOf (b := w.heap.size) (c := #[.int .i64 a0, .int .i64 a1, .int .i64 a2, .int .i64 sm, .int .i64 a5, .int .i64 a6, .int .i64 a7, .int .i64 a8, .int .i64 a9, .int .i64 a10, .int .i64 a11, .int .i64 0]) (T := 73) (by simp) 10; have qf11 := HH.out.freeOf (b := w.heap.size) (c := #[.int .i64 a0, .int .i64 a1, .int .i64 a2, .int .i64 sm, .int .i64 a5, .int .i64 a6, .int .i64 a7, .int .i64 a8, .int .i64 a9, .int .i64 a10, .int .i64 a11, .int .i64 0]) (T := 73) (by simp) 11; have qc11 := HH.out.cellOf (b := w.heap.size) (c := #[.int .i64 a0, .int .i64 a1, .int .i64 a2, .int .i64 sm, .int .i64 a5, .int .i64 a6, .int .i64 a7, .int .i64 a8, .int .i64 a9, .int .i64 a10, .int .i64 a11, .int .i64 0]) (T := 73) (by simp) 11; simp at qc0 qc1 qc2 qc3 qc4 qc5 qc6 qc7 qc8 qc9 qc10 qc11))
 refine bodyPost_ret (v := .tuple #[.agg #[.int .i64 a0, .int .i64 a1, .int .i64 a2, .int .i64 sm, .int .i64 a5, .int .i64 a6, .int .i64 a7, .int .i64 a8, .int .i64 a9, .int .i64 a10, .int .i64 a11, .int .i64 a12], .int .i64 a3]) (by simp [results, Try.results86, go_sem, qc0, qc1, qc2, qc3, qc4, qc5, qc6, qc7, qc8, qc9, qc10, qc11]) rfl ⟨rfl, ?_⟩
 exact (((((((((((((H.out.p1.rawSet 11 _).rawSet 0 _).rawSet 1 _).rawSet 2 _).rawSet 3 _).rawSet 4 _).rawSet 5 _).rawSet 6 _).rawSet 7 _).rawSet 8 _).rawSet 9 _).rawSet 10 _).rawSet 11 _).drop

end Go.Proofs.Ytnnnglklgofabaa
