/- A text. -/
import Derived.Test.YtngojlinfdokpaaGreatCtlP
import Derived.Test.YtngojlinfdokpaaGreatBlob1
import Derived.Test.YtngojlinfdokpaaGreatBlob2
namespace Go.Proofs.YtngojlinfdokpaaGreat
open Go.RowKit

set_option maxHeartbeats 1000000 in
set_option maxRecDepth 100000 in
theorem ref08_readKey (s : Bs) (r : Int × Int) (hr : verRd 2 way 12 s = r) (hs : s.length ≤ 140737488355328) {W0 w : World} {K : Know} {L : List Res} (h : St W0 w K L) :
   Calls Tryz.prog 46 #[.string (bb s)] w fun en w' => en = .returned (.tuple #[.int .i64 r.1, .int .i64 r.2]) ∧ St W0 w' K L := by
 have H := Lib.hid h
 have HS := Lib.hid hs
 have HT := Lib.hid (show (s.take 2).length ≤ 8 by rw [List.length_take]; omega)
 have HT2 := Lib.hid (show ((s.drop 2).take 2).length ≤ 8 by rw [List.length_take]; omega)
 obtain ⟨v1, hv1⟩ : ∃ v, sInt (s.take 2) = v := ⟨_, rfl⟩
 obtain ⟨v2, hv2⟩ : ∃ v, sInt ((s.drop 2).take 2) = v := ⟨_, rfl⟩
 unfold verRd at hr
 rw [hv1, hv2] at hr
 have E1 := Lib.hid hv1
 have E2 := Lib.hid hv2
 clear h hs hv1 hv2
 by_cases c1 : s.length < 2
 · rw [if_pos c1] at hr
   subst hr
   go_enter Tryz.func46, Tryz.ntmps46
   go_wp2_with (first
    | (go_at_call 66; (with_reducible refine (sr_int (s.take 2) HT.out H.out).mono ?_); rw [E1.out]; rintro e wn ⟨rfl, h⟩; replace H := Lib.hid h; clear h)
    | (go_at_call 66; (with_reducible refine (sr_int ((s.drop 2).take 2) HT2.out H.out).mono ?_); rw [E2.out]; rintro e wn ⟨rfl, h⟩; replace H := Lib.hid h; clear h))
   go_ret2
   exact ⟨rfl, H.out⟩
 rw [if_neg c1] at hr
 by_cases c2 : v1 ≠ 0
 · rw [if_pos c2] at hr
   subst hr
   have d2 : (v1 != 0) = true := by simpa using c2
   go_enter Tryz.func46, Tryz.ntmps46
   go_wp2_with (first
    | (go_at_call 66; (with_reducible refine (sr_int (s.take 2) HT.out H.out).mono ?_); rw [E1.out]; rintro e wn ⟨rfl, h⟩; replace H := Lib.hid h; clear h)
    | (go_at_call 66; (with_reducible refine (sr_int ((s.drop 2).take 2) HT2.out H.out).mono ?_); rw [E2.out]; rintro e wn ⟨rfl, h⟩; replace H := Lib.hid h; clear h))
   go_ret2
   exact ⟨rfl, H.out⟩
 rw [if_neg c2] at hr
 have d2 : (v1 != 0) = false := by simpa using c2
 clear c2
 by_cases c3 : s.length < 2 + 2
 · rw [if_pos c3] at hr
   subst hr
   have c3' : s.length < 4 := c3
   clear c3
   go_enter Tryz.func46, Tryz.ntmps46
   go_wp2_with (first
    | (go_at_call 66; (with_reducible refine (sr_int (s.take 2) HT.out H.out).mono ?_); rw [E1.out]; rintro e wn ⟨rfl, h⟩; replace H := Lib.hid h; clear h)
    | (go_at_call 66; (with_reducible refine (sr_int ((s.drop 2).take 2) HT2.out H.out).mono ?_); rw [E2.out]; rintro e wn ⟨rfl, h⟩; replace H := Lib.hid h; clear h))
   go_ret2
   exact ⟨rfl, H.out⟩
 rw [if_neg c3] at hr
 have c3' : ¬ s.length < 4 := c3
 clear c3
 by_cases c4 : way v2 = false
 · rw [if_pos c4] at hr
   subst hr
   have n0 : (v2 != 0) = true ∧ (v2 != 1) = true := (by unfold way at c4; simpa using c4); obtain ⟨n0, n1⟩ := n0; clear c4
   go_enter Tryz.func46, Tryz.ntmps46
   go_wp2_with (first
    | (go_at_call 66; (with_reducible refine (sr_int (s.take 2) HT.out H.out).mono ?_); rw [E1.out]; rintro e wn ⟨rfl, h⟩; replace H := Lib.hid h; clear h)
    | (go_at_call 66; (with_reducible refine (sr_int ((s.drop 2).take 2) HT2.out H.out).mono ?_); rw [E2.out]; rintro e wn ⟨rfl, h⟩; replace H := Lib.hid h; clear h))
   go_ret2
   exact ⟨rfl, H.out⟩
 rw [if_neg c4] at hr
 by_cases c5 : 2 + 2 < s.length
 · rw [if_pos c5] at hr
   subst hr
   have c5' : 4 < s.length := c5
   clear c5
   have hv2 : v2 = 0 ∨ v2 = 1 := (by unfold way at c4; simp at c4; omega); clear c4; rcases hv2 with rfl | rfl
   all_goals
    go_enter Tryz.func46, Tryz.ntmps46
    go_wp2_with (first
     | (go_at_call 66; (with_reducible refine (sr_int (s.take 2) HT.out H.out).mono ?_); rw [E1.out]; rintro e wn ⟨rfl, h⟩; replace H := Lib.hid h; clear h)
     | (go_at_call 66; (with_reducible refine (sr_int ((s.drop 2).take 2) HT2.out H.out).mono ?_); rw [E2.out]; rintro e wn ⟨rfl, h⟩; replace H := Lib.hid h; clear h))
    go_ret2
    exact ⟨rfl, H.out⟩
 rw [if_neg c5] at hr
 subst hr
 have c5' : ¬ 4 < s.length := c5
 clear c5
 have hv2 : v2 = 0 ∨ v2 = 1 := (by unfold way at c4; simp at c4; omega); clear c4; rcases hv2 with rfl | rfl
 all_goals
   go_enter Tryz.func46, Tryz.ntmps46
   go_wp2_with (first
    | (go_at_call 66; (with_reducible refine (sr_int (s.take 2) HT.out H.out).mono ?_); rw [E1.out]; rintro e wn ⟨rfl, h⟩; replace H := Lib.hid h; clear h)
    | (go_at_call 66; (with_reducible refine (sr_int ((s.drop 2).take 2) HT2.out H.out).mono ?_); rw [E2.out]; rintro e wn ⟨rfl, h⟩; replace H := Lib.hid h; clear h))
   go_ret2
   exact ⟨rfl, H.out⟩

set_option maxHeartbeats 1000000 in
set_option maxRecDepth 100000 in
theorem ref08_readValue (s : Bs) (r : Int × Int) (hr : verRd 4 time0 11 s = r) (hs : s.length ≤ 140737488355328) {W0 w : World} {K : Know} {L : List Res} (h : St W0 w K L) :
   Calls Tryz.prog 47 #[.string (bb s)] w fun en w' => en = .returned (.tuple #[.int .i64 r.1, .int .i64 r.2]) ∧ St W0 w' K L := by
 have H := Lib.hid h
 have HS := Lib.hid hs
 have HT := Lib.hid (show (s.take 2).length ≤ 8 by rw [List.length_take]; omega)
 have HT2 := Lib.hid (show ((s.drop 2).take 4).length ≤ 8 by rw [List.length_take]; omega)
 obtain ⟨v1, hv1⟩ : ∃ v, sInt (s.take 2) = v := ⟨_, rfl⟩
 obtain ⟨v2, hv2⟩ : ∃ v, sInt ((s.drop 2).take 4) = v := ⟨_, rfl⟩
 unfold verRd at hr
 rw [hv1, hv2] at hr
 have E1 := Lib.hid hv1
 have E2 := Lib.hid hv2
 clear h hs hv1 hv2
 by_cases c1 : s.length < 2
 · rw [if_pos c1] at hr
   subst hr
   go_enter Tryz.func47, Tryz.ntmps47
   go_wp2_with (first
    | (go_at_call 66; (with_reducible refine (sr_int (s.take 2) HT.out H.out).mono ?_); rw [E1.out]; rintro e wn ⟨rfl, h⟩; replace H := Lib.hid h; clear h))
   go_ret2
   exact ⟨rfl, H.out⟩
 rw [if_neg c1] at hr
 by_cases c2 : v1 ≠ 0
 · rw [if_pos c2] at hr
   subst hr
   have d2 : (v1 != 0) = true := by simpa using c2
   go_enter Tryz.func47, Tryz.ntmps47
   go_wp2_with (first
    | (go_at_call 66; (with_reducible refine (sr_int (s.take 2) HT.out H.out).mono ?_); rw [E1.out]; rintro e wn ⟨rfl, h⟩; replace H := Lib.hid h; clear h))
   go_ret2
   exact ⟨rfl, H.out⟩
 rw [if_neg c2] at hr
 have d2 : (v1 != 0) = false := by simpa using c2
 clear c2
 by_cases c3 : s.length < 2 + 4
 · rw [if_pos c3] at hr
   subst hr
   have c3' : s.length < 6 := c3
   clear c3
   go_enter Tryz.func47, Tryz.ntmps47
   go_wp2_with (first
    | (go_at_call 66; (with_reducible refine (sr_int (s.take 2) HT.out H.out).mono ?_); rw [E1.out]; rintro e wn ⟨rfl, h⟩; replace H := Lib.hid h; clear h))
   go_ret2
   exact ⟨rfl, H.out⟩
 rw [if_neg c3] at hr
 have c3' : ¬ s.length < 6 := c3
 clear c3
 by_cases c4 : time0 v2 = false
 · rw [if_pos c4] at hr
   subst hr
   have n0 : v2 < 0 := (by unfold time0 at c4; simpa using c4); clear c4
   go_enter Tryz.func47, Tryz.ntmps47
   go_wp2_with (first
    | (go_at_call 66; (with_reducible refine (sr_int (s.take 2) HT.out H.out).mono ?_); rw [E1.out]; rintro e wn ⟨rfl, h⟩; replace H := Lib.hid h; clear h)
    | (go_at_call 66; (with_reducible refine (sr_int ((s.drop 2).take 4) HT2.out H.out).mono ?_); rw [E2.out]; rintro e wn ⟨rfl, h⟩; replace H := Lib.hid h; clear h))
   go_ret2
   exact ⟨rfl, H.out⟩
 rw [if_neg c4] at hr
 by_cases c5 : 2 + 4 < s.length
 · rw [if_pos c5] at hr
   subst hr
   have c5' : 6 < s.length := c5
   clear c5
   have n0 : ¬ v2 < 0 := (by unfold time0 at c4; simpa using c4); clear c4
   all_goals
    go_enter Tryz.func47, Tryz.ntmps47
    go_wp2_with (first
     | (go_at_call 66; (with_reducible refine (sr_int (s.take 2) HT.out H.out).mono ?_); rw [E1.out]; rintro e wn ⟨rfl, h⟩; replace H := Lib.hid h; clear h)
     | (go_at_call 66; (with_reducible refine (sr_int ((s.drop 2).take 4) HT2.out H.out).mono ?_); rw [E2.out]; rintro e wn ⟨rfl, h⟩; replace H := Lib.hid h; clear h))
    go_ret2
    exact ⟨rfl, H.out⟩
 rw [if_neg c5] at hr
 subst hr
 have c5' : ¬ 6 < s.length := c5
 clear c5
 have n0 : ¬ v2 < 0 := (by unfold time0 at c4; simpa using c4); clear c4
 all_goals
   go_enter Tryz.func47, Tryz.ntmps47
   go_wp2_with (first
    | (go_at_call 66; (with_reducible refine (sr_int (s.take 2) HT.out H.out).mono ?_); rw [E1.out]; rintro e wn ⟨rfl, h⟩; replace H := Lib.hid h; clear h)
    | (go_at_call 66; (with_reducible refine (sr_int ((s.drop 2).take 4) HT2.out H.out).mono ?_); rw [E2.out]; rintro e wn ⟨rfl, h⟩; replace H := Lib.hid h; clear h))
   go_ret2
   exact ⟨rfl, H.out⟩

end Go.Proofs.YtngojlinfdokpaaGreat
