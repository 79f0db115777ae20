/- Layer 8, walked: ControlWrites. -/
import Derived.Test.YtkenneeejdngaaaL08R
namespace Go.Proofs.Ytkenneeejdngaaa
open Go.RowKit

set_option maxHeartbeats 1000000 in
set_option maxRecDepth 100000 in
theorem controlWrites_0neg (m : Int) (hm : -9223372036854775808 ≤ m ∧ m < 9223372036854775808) (ht : m < 0) {W0 w : World} {K : Know} (h : St W0 w K []) :
    Calls Try.prog 11 #[.int .i64 0, .int .i64 m] w fun en w' => en = .returned (.bool true) ∧ Below W0.heap.size W0 w' := by
  have H := Lib.hid h
  have HM := Lib.hid hm
  have HN := Lib.hid (show (-9223372036854775808 : Int) ≤ 0 ∧ (0 : Int) < 9223372036854775808 by decide)
  have EK := Lib.hid (show ctlKey 0 = (verB 0 2, 0) from if_pos (by decide))
  have EV := Lib.hid (show ctlVal m = ([], 11) from if_neg (by omega))
  clear h hm
  go_enter Try.func11, Try.ntmps11
  go_wp2_with (first
    | (go_at_call 46; refine (speaks08 H.out).mono ?_; rintro e wn ⟨rfl, h⟩; replace H := Lib.hid h; clear h)
    | (go_at_call 48; refine (ctl_key 0 (verB 0 2, 0) EK.out HN.out H.out).mono ?_; rintro e wn ⟨rfl, h⟩; replace H := Lib.hid h; clear h)
    | (go_at_call 49; refine (ctl_value m ([], 11) EV.out HM.out H.out).mono ?_; rintro e wn ⟨rfl, h⟩; replace H := Lib.hid h; clear h)
    | (go_at_call 50; refine (ctl_record_time 0 m _ 11 EK.out EV.out (by decide) HN.out HM.out H.out).mono ?_; rintro e wn ⟨rfl, h⟩; obtain ⟨wA, hwA⟩ : ∃ b, wn.heap.size = b := ⟨_, rfl⟩; have h := h.allocRaw #[.int .i64 0, .int .i64 0, .bool false, .string ⟨#[]⟩, .bool false, .string ⟨#[]⟩, .slice none 0 0] 62; rw [hwA] at h; replace H := Lib.hid h; clear h; obtain ⟨ac0, ac1, ac2, ac3, ac4, ac5, ac6, af0, af1, af2, af3, af4, af5, af6⟩ := raw7 (b := wA) (H.out))
    | (go_at_call 51; refine (ref08_key 0 HN.out H.out).mono ?_; rintro e wn ⟨rfl, h⟩; replace H := Lib.hid h; clear h; obtain ⟨ac0, ac1, ac2, ac3, ac4, ac5, ac6, af0, af1, af2, af3, af4, af5, af6⟩ := raw7 (b := wA) (H.out))
    | (go_at_call 41; refine (ref07_same 0 0 0 0 false false false false [] [] [] [] [] [] (.slice none 0 0) (.slice none 0 0) true (decide_eq_true rfl) (by decide) (by decide) (know_nil0 _ _ _) (know_nil0 _ _ _) H.out).mono ?_; rintro e wn ⟨rfl, h⟩; replace H := Lib.hid h; clear h))
  go_ret
  exact ⟨rfl, H.out.below⟩

set_option maxHeartbeats 1000000 in
set_option maxRecDepth 100000 in
theorem controlWrites_0big (m : Int) (hm : -9223372036854775808 ≤ m ∧ m < 9223372036854775808) (ht : 2147483648 ≤ m) {W0 w : World} {K : Know} (h : St W0 w K []) :
    Calls Try.prog 11 #[.int .i64 0, .int .i64 m] w fun en w' => en = .returned (.bool true) ∧ Below W0.heap.size W0 w' := by
  have H := Lib.hid h
  have HM := Lib.hid hm
  have HN := Lib.hid (show (-9223372036854775808 : Int) ≤ 0 ∧ (0 : Int) < 9223372036854775808 by decide)
  have EK := Lib.hid (show ctlKey 0 = (verB 0 2, 0) from if_pos (by decide))
  have EV := Lib.hid (show ctlVal m = ([], 11) from if_neg (by omega))
  have EF := Lib.hid (show decide (fits m 4) = false from decide_eq_false (fun h => by have := (fits4 m).1 h; omega))
  have hge : 0 ≤ m := by omega
  clear h hm
  go_enter Try.func11, Try.ntmps11
  go_wp2_with (first
    | (go_at_call 46; refine (speaks08 H.out).mono ?_; rintro e wn ⟨rfl, h⟩; replace H := Lib.hid h; clear h)
    | (go_at_call 47; refine (sr_fits m 4 HM.out H.out).mono ?_; rw [EF.out]; rintro e wn ⟨rfl, h⟩; replace H := Lib.hid h; clear h)
    | (go_at_call 48; refine (ctl_key 0 (verB 0 2, 0) EK.out HN.out H.out).mono ?_; rintro e wn ⟨rfl, h⟩; replace H := Lib.hid h; clear h)
    | (go_at_call 49; refine (ctl_value m ([], 11) EV.out HM.out H.out).mono ?_; rintro e wn ⟨rfl, h⟩; replace H := Lib.hid h; clear h)
    | (go_at_call 50; refine (ctl_record_time 0 m _ 11 EK.out EV.out (by decide) HN.out HM.out H.out).mono ?_; rintro e wn ⟨rfl, h⟩; obtain ⟨wA, hwA⟩ : ∃ b, wn.heap.size = b := ⟨_, rfl⟩; have h := h.allocRaw #[.int .i64 0, .int .i64 0, .bool false, .string ⟨#[]⟩, .bool false, .string ⟨#[]⟩, .slice none 0 0] 62; rw [hwA] at h; replace H := Lib.hid h; clear h; obtain ⟨ac0, ac1, ac2, ac3, ac4, ac5, ac6, af0, af1, af2, af3, af4, af5, af6⟩ := raw7 (b := wA) (H.out))
    | (go_at_call 51; refine (ref08_key 0 HN.out H.out).mono ?_; rintro e wn ⟨rfl, h⟩; replace H := Lib.hid h; clear h; obtain ⟨ac0, ac1, ac2, ac3, ac4, ac5, ac6, af0, af1, af2, af3, af4, af5, af6⟩ := raw7 (b := wA) (H.out))
    | (go_at_call 41; refine (ref07_same 0 0 0 0 false false false false [] [] [] [] [] [] (.slice none 0 0) (.slice none 0 0) true (decide_eq_true rfl) (by decide) (by decide) (know_nil0 _ _ _) (know_nil0 _ _ _) H.out).mono ?_; rintro e wn ⟨rfl, h⟩; replace H := Lib.hid h; clear h))
  go_ret
  exact ⟨rfl, H.out.below⟩

set_option maxHeartbeats 1000000 in
set_option maxRecDepth 100000 in
theorem controlWrites_0ok (m : Int) (hm : -9223372036854775808 ≤ m ∧ m < 9223372036854775808) (ht : 0 ≤ m) (ht2 : m < 2147483648) {W0 w : World} {K : Know} (h : St W0 w K []) :
    Calls Try.prog 11 #[.int .i64 0, .int .i64 m] w fun en w' => en = .returned (.bool true) ∧ Below W0.heap.size W0 w' := by
  have H := Lib.hid h
  have HM := Lib.hid hm
  have HN := Lib.hid (show (-9223372036854775808 : Int) ≤ 0 ∧ (0 : Int) < 9223372036854775808 by decide)
  have EK := Lib.hid (show ctlKey 0 = (verB 0 2, 0) from if_pos (by decide))
  have EV := Lib.hid (show ctlVal m = (verB m 4, 0) from if_pos ⟨ht, ht2⟩)
  have EF := Lib.hid (show decide (fits m 4) = true from decide_eq_true ((fits4 m).2 (by omega)))
  have G1 := Lib.hid (show (verB 0 2).length ≤ 140737488355328 by rw [verB_len]; omega)
  have G2 := Lib.hid (show (verB m 4).length ≤ 140737488355328 by rw [verB_len]; omega)
  have EQ := Lib.hid (show ctlRead false false (verB 0 2) (verB m 4) (0 : Nat) 0 = (0, m, 0) by
    have r1 := verRd_back 0 2 way 12 (by decide) (by decide) (fits2 0 (by decide)) (by decide)
    have r2 := verRd_back m 4 time0 11 (by decide) (by decide) ((fits4 m).2 (by omega)) (decide_eq_true ht)
    unfold ctlRead
    rw [if_neg (by decide), r1, r2]
    rfl)
  clear h hm
  go_enter Try.func11, Try.ntmps11
  go_wp2_with (first
    | (go_at_call 46; refine (speaks08 H.out).mono ?_; rintro e wn ⟨rfl, h⟩; replace H := Lib.hid h; clear h)
    | (go_at_call 47; refine (sr_fits m 4 HM.out H.out).mono ?_; rw [EF.out]; rintro e wn ⟨rfl, h⟩; replace H := Lib.hid h; clear h)
    | (go_at_call 48; refine (ctl_key 0 (verB 0 2, 0) EK.out HN.out H.out).mono ?_; rintro e wn ⟨rfl, h⟩; replace H := Lib.hid h; clear h)
    | (go_at_call 49; refine (ctl_value m (verB m 4, 0) EV.out HM.out H.out).mono ?_; rintro e wn ⟨rfl, h⟩; replace H := Lib.hid h; clear h)
    | (go_at_call 50; refine (ctl_record_ok 0 m _ _ EK.out EV.out HN.out HM.out H.out).mono ?_; rintro e wn ⟨rfl, h⟩; obtain ⟨wA, hwA⟩ : ∃ b, wn.heap.size = b := ⟨_, rfl⟩; have h := h.allocRaw #[.int .i64 0, .int .i64 0, .bool false, .string (bb (verB 0 2)), .bool false, .string (bb (verB m 4)), .slice none 0 0] 62; rw [hwA] at h; replace H := Lib.hid h; clear h; obtain ⟨ac0, ac1, ac2, ac3, ac4, ac5, ac6, af0, af1, af2, af3, af4, af5, af6⟩ := raw7 (b := wA) (H.out))
    | (go_at_call 51; refine (ref08_key 0 HN.out H.out).mono ?_; rintro e wn ⟨rfl, h⟩; replace H := Lib.hid h; clear h; obtain ⟨ac0, ac1, ac2, ac3, ac4, ac5, ac6, af0, af1, af2, af3, af4, af5, af6⟩ := raw7 (b := wA) (H.out))
    | (go_at_call 52; refine (ref08_value m HM.out H.out).mono ?_; rintro e wn ⟨rfl, h⟩; replace H := Lib.hid h; clear h; obtain ⟨ac0, ac1, ac2, ac3, ac4, ac5, ac6, af0, af1, af2, af3, af4, af5, af6⟩ := raw7 (b := wA) (H.out))
    | (go_at_call 53; refine (ctl_read 0 0 false false (verB 0 2) (verB m 4) none 0 0 (0, m, 0) EQ.out G1.out G2.out H.out).mono ?_; rintro e wn ⟨rfl, h⟩; replace H := Lib.hid h; clear h; obtain ⟨ac0, ac1, ac2, ac3, ac4, ac5, ac6, af0, af1, af2, af3, af4, af5, af6⟩ := raw7 (b := wA) (H.out))
    | (go_at_call 41; refine (ref07_same 0 0 0 0 false false false false (verB 0 2) (verB m 4) (verB 0 2) (verB m 4) [] [] (.slice none 0 0) (.slice none 0 0) true (decide_eq_true rfl) (by decide) (by decide) (know_nil0 _ _ _) (know_nil0 _ _ _) H.out).mono ?_; rintro e wn ⟨rfl, h⟩; replace H := Lib.hid h; clear h))
  go_ret
  exact ⟨rfl, H.out.below⟩

set_option maxHeartbeats 1000000 in
set_option maxRecDepth 100000 in
theorem controlWrites_1neg (m : Int) (hm : -9223372036854775808 ≤ m ∧ m < 9223372036854775808) (ht : m < 0) {W0 w : World} {K : Know} (h : St W0 w K []) :
    Calls Try.prog 11 #[.int .i64 1, .int .i64 m] w fun en w' => en = .returned (.bool true) ∧ Below W0.heap.size W0 w' := by
  have H := Lib.hid h
  have HM := Lib.hid hm
  have HN := Lib.hid (show (-9223372036854775808 : Int) ≤ 1 ∧ (1 : Int) < 9223372036854775808 by decide)
  have EK := Lib.hid (show ctlKey 1 = (verB 1 2, 0) from if_pos (by decide))
  have EV := Lib.hid (show ctlVal m = ([], 11) from if_neg (by omega))
  clear h hm
  go_enter Try.func11, Try.ntmps11
  go_wp2_with (first
    | (go_at_call 46; refine (speaks08 H.out).mono ?_; rintro e wn ⟨rfl, h⟩; replace H := Lib.hid h; clear h)
    | (go_at_call 48; refine (ctl_key 1 (verB 1 2, 0) EK.out HN.out H.out).mono ?_; rintro e wn ⟨rfl, h⟩; replace H := Lib.hid h; clear h)
    | (go_at_call 49; refine (ctl_value m ([], 11) EV.out HM.out H.out).mono ?_; rintro e wn ⟨rfl, h⟩; replace H := Lib.hid h; clear h)
    | (go_at_call 50; refine (ctl_record_time 1 m _ 11 EK.out EV.out (by decide) HN.out HM.out H.out).mono ?_; rintro e wn ⟨rfl, h⟩; obtain ⟨wA, hwA⟩ : ∃ b, wn.heap.size = b := ⟨_, rfl⟩; have h := h.allocRaw #[.int .i64 0, .int .i64 0, .bool false, .string ⟨#[]⟩, .bool false, .string ⟨#[]⟩, .slice none 0 0] 62; rw [hwA] at h; replace H := Lib.hid h; clear h; obtain ⟨ac0, ac1, ac2, ac3, ac4, ac5, ac6, af0, af1, af2, af3, af4, af5, af6⟩ := raw7 (b := wA) (H.out))
    | (go_at_call 51; refine (ref08_key 1 HN.out H.out).mono ?_; rintro e wn ⟨rfl, h⟩; replace H := Lib.hid h; clear h; obtain ⟨ac0, ac1, ac2, ac3, ac4, ac5, ac6, af0, af1, af2, af3, af4, af5, af6⟩ := raw7 (b := wA) (H.out))
    | (go_at_call 41; refine (ref07_same 0 0 0 0 false false false false [] [] [] [] [] [] (.slice none 0 0) (.slice none 0 0) true (decide_eq_true rfl) (by decide) (by decide) (know_nil0 _ _ _) (know_nil0 _ _ _) H.out).mono ?_; rintro e wn ⟨rfl, h⟩; replace H := Lib.hid h; clear h))
  go_ret
  exact ⟨rfl, H.out.below⟩

set_option maxHeartbeats 1000000 in
set_option maxRecDepth 100000 in
theorem controlWrites_1big (m : Int) (hm : -9223372036854775808 ≤ m ∧ m < 9223372036854775808) (ht : 2147483648 ≤ m) {W0 w : World} {K : Know} (h : St W0 w K []) :
    Calls Try.prog 11 #[.int .i64 1, .int .i64 m] w fun en w' => en = .returned (.bool true) ∧ Below W0.heap.size W0 w' := by
  have H := Lib.hid h
  have HM := Lib.hid hm
  have HN := Lib.hid (show (-9223372036854775808 : Int) ≤ 1 ∧ (1 : Int) < 9223372036854775808 by decide)
  have EK := Lib.hid (show ctlKey 1 = (verB 1 2, 0) from if_pos (by decide))
  have EV := Lib.hid (show ctlVal m = ([], 11) from if_neg (by omega))
  have EF := Lib.hid (show decide (fits m 4) = false from decide_eq_false (fun h => by have := (fits4 m).1 h; omega))
  have hge : 0 ≤ m := by omega
  clear h hm
  go_enter Try.func11, Try.ntmps11
  go_wp2_with (first
    | (go_at_call 46; refine (speaks08 H.out).mono ?_; rintro e wn ⟨rfl, h⟩; replace H := Lib.hid h; clear h)
    | (go_at_call 47; refine (sr_fits m 4 HM.out H.out).mono ?_; rw [EF.out]; rintro e wn ⟨rfl, h⟩; replace H := Lib.hid h; clear h)
    | (go_at_call 48; refine (ctl_key 1 (verB 1 2, 0) EK.out HN.out H.out).mono ?_; rintro e wn ⟨rfl, h⟩; replace H := Lib.hid h; clear h)
    | (go_at_call 49; refine (ctl_value m ([], 11) EV.out HM.out H.out).mono ?_; rintro e wn ⟨rfl, h⟩; replace H := Lib.hid h; clear h)
    | (go_at_call 50; refine (ctl_record_time 1 m _ 11 EK.out EV.out (by decide) HN.out HM.out H.out).mono ?_; rintro e wn ⟨rfl, h⟩; obtain ⟨wA, hwA⟩ : ∃ b, wn.heap.size = b := ⟨_, rfl⟩; have h := h.allocRaw #[.int .i64 0, .int .i64 0, .bool false, .string ⟨#[]⟩, .bool false, .string ⟨#[]⟩, .slice none 0 0] 62; rw [hwA] at h; replace H := Lib.hid h; clear h; obtain ⟨ac0, ac1, ac2, ac3, ac4, ac5, ac6, af0, af1, af2, af3, af4, af5, af6⟩ := raw7 (b := wA) (H.out))
    | (go_at_call 51; refine (ref08_key 1 HN.out H.out).mono ?_; rintro e wn ⟨rfl, h⟩; replace H := Lib.hid h; clear h; obtain ⟨ac0, ac1, ac2, ac3, ac4, ac5, ac6, af0, af1, af2, af3, af4, af5, af6⟩ := raw7 (b := wA) (H.out))
    | (go_at_call 41; refine (ref07_same 0 0 0 0 false false false false [] [] [] [] [] [] (.slice none 0 0) (.slice none 0 0) true (decide_eq_true rfl) (by decide) (by decide) (know_nil0 _ _ _) (know_nil0 _ _ _) H.out).mono ?_; rintro e wn ⟨rfl, h⟩; replace H := Lib.hid h; clear h))
  go_ret
  exact ⟨rfl, H.out.below⟩

set_option maxHeartbeats 1000000 in
set_option maxRecDepth 100000 in
theorem controlWrites_1ok (m : Int) (hm : -9223372036854775808 ≤ m ∧ m < 9223372036854775808) (ht : 0 ≤ m) (ht2 : m < 2147483648) {W0 w : World} {K : Know} (h : St W0 w K []) :
    Calls Try.prog 11 #[.int .i64 1, .int .i64 m] w fun en w' => en = .returned (.bool true) ∧ Below W0.heap.size W0 w' := by
  have H := Lib.hid h
  have HM := Lib.hid hm
  have HN := Lib.hid (show (-9223372036854775808 : Int) ≤ 1 ∧ (1 : Int) < 9223372036854775808 by decide)
  have EK := Lib.hid (show ctlKey 1 = (verB 1 2, 0) from if_pos (by decide))
  have EV := Lib.hid (show ctlVal m = (verB m 4, 0) from if_pos ⟨ht, ht2⟩)
  have EF := Lib.hid (show decide (fits m 4) = true from decide_eq_true ((fits4 m).2 (by omega)))
  have G1 := Lib.hid (show (verB 1 2).length ≤ 140737488355328 by rw [verB_len]; omega)
  have G2 := Lib.hid (show (verB m 4).length ≤ 140737488355328 by rw [verB_len]; omega)
  have EQ := Lib.hid (show ctlRead false false (verB 1 2) (verB m 4) (0 : Nat) 0 = (1, m, 0) by
    have r1 := verRd_back 1 2 way 12 (by decide) (by decide) (fits2 1 (by decide)) (by decide)
    have r2 := verRd_back m 4 time0 11 (by decide) (by decide) ((fits4 m).2 (by omega)) (decide_eq_true ht)
    unfold ctlRead
    rw [if_neg (by decide), r1, r2]
    rfl)
  clear h hm
  go_enter Try.func11, Try.ntmps11
  go_wp2_with (first
    | (go_at_call 46; refine (speaks08 H.out).mono ?_; rintro e wn ⟨rfl, h⟩; replace H := Lib.hid h; clear h)
    | (go_at_call 47; refine (sr_fits m 4 HM.out H.out).mono ?_; rw [EF.out]; rintro e wn ⟨rfl, h⟩; replace H := Lib.hid h; clear h)
    | (go_at_call 48; refine (ctl_key 1 (verB 1 2, 0) EK.out HN.out H.out).mono ?_; rintro e wn ⟨rfl, h⟩; replace H := Lib.hid h; clear h)
    | (go_at_call 49; refine (ctl_value m (verB m 4, 0) EV.out HM.out H.out).mono ?_; rintro e wn ⟨rfl, h⟩; replace H := Lib.hid h; clear h)
    | (go_at_call 50; refine (ctl_record_ok 1 m _ _ EK.out EV.out HN.out HM.out H.out).mono ?_; rintro e wn ⟨rfl, h⟩; obtain ⟨wA, hwA⟩ : ∃ b, wn.heap.size = b := ⟨_, rfl⟩; have h := h.allocRaw #[.int .i64 0, .int .i64 0, .bool false, .string (bb (verB 1 2)), .bool false, .string (bb (verB m 4)), .slice none 0 0] 62; rw [hwA] at h; replace H := Lib.hid h; clear h; obtain ⟨ac0, ac1, ac2, ac3, ac4, ac5, ac6, af0, af1, af2, af3, af4, af5, af6⟩ := raw7 (b := wA) (H.out))
    | (go_at_call 51; refine (ref08_key 1 HN.out H.out).mono ?_; rintro e wn ⟨rfl, h⟩; replace H := Lib.hid h; clear h; obtain ⟨ac0, ac1, ac2, ac3, ac4, ac5, ac6, af0, af1, af2, af3, af4, af5, af6⟩ := raw7 (b := wA) (H.out))
    | (go_at_call 52; refine (ref08_value m HM.out H.out).mono ?_; rintro e wn ⟨rfl, h⟩; replace H := Lib.hid h; clear h; obtain ⟨ac0, ac1, ac2, ac3, ac4, ac5, ac6, af0, af1, af2, af3, af4, af5, af6⟩ := raw7 (b := wA) (H.out))
    | (go_at_call 53; refine (ctl_read 0 0 false false (verB 1 2) (verB m 4) none 0 0 (1, m, 0) EQ.out G1.out G2.out H.out).mono ?_; rintro e wn ⟨rfl, h⟩; replace H := Lib.hid h; clear h; obtain ⟨ac0, ac1, ac2, ac3, ac4, ac5, ac6, af0, af1, af2, af3, af4, af5, af6⟩ := raw7 (b := wA) (H.out))
    | (go_at_call 41; refine (ref07_same 0 0 0 0 false false false false (verB 1 2) (verB m 4) (verB 1 2) (verB m 4) [] [] (.slice none 0 0) (.slice none 0 0) true (decide_eq_true rfl) (by decide) (by decide) (know_nil0 _ _ _) (know_nil0 _ _ _) H.out).mono ?_; rintro e wn ⟨rfl, h⟩; replace H := Lib.hid h; clear h))
  go_ret
  exact ⟨rfl, H.out.below⟩

set_option maxHeartbeats 1000000 in
set_option maxRecDepth 100000 in
theorem controlWrites_xneg (n : Int) (hn : -9223372036854775808 ≤ n ∧ n < 9223372036854775808) (hn0 : n ≠ 0) (hn1 : n ≠ 1) (m : Int) (hm : -9223372036854775808 ≤ m ∧ m < 9223372036854775808) (ht : m < 0) {W0 w : World} {K : Know} (h : St W0 w K []) :
    Calls Try.prog 11 #[.int .i64 n, .int .i64 m] w fun en w' => en = .returned (.bool true) ∧ Below W0.heap.size W0 w' := by
  have H := Lib.hid h
  have HM := Lib.hid hm
  have HN := Lib.hid hn
  have EK := Lib.hid (show ctlKey n = ([], 12) from if_neg (by omega))
  have b0 : (n == 0) = false := by simpa using hn0
  have b1 : (n == 1) = false := by simpa using hn1
  have EV := Lib.hid (show ctlVal m = ([], 11) from if_neg (by omega))
  clear h hm hn hn0 hn1
  go_enter Try.func11, Try.ntmps11
  go_wp2_with (first
    | (go_at_call 46; refine (speaks08 H.out).mono ?_; rintro e wn ⟨rfl, h⟩; replace H := Lib.hid h; clear h)
    | (go_at_call 48; refine (ctl_key n ([], 12) EK.out HN.out H.out).mono ?_; rintro e wn ⟨rfl, h⟩; replace H := Lib.hid h; clear h)
    | (go_at_call 49; refine (ctl_value m ([], 11) EV.out HM.out H.out).mono ?_; rintro e wn ⟨rfl, h⟩; replace H := Lib.hid h; clear h)
    | (go_at_call 50; refine (ctl_record_kind n m 12 EK.out (by decide) HN.out HM.out H.out).mono ?_; rintro e wn ⟨rfl, h⟩; obtain ⟨wA, hwA⟩ : ∃ b, wn.heap.size = b := ⟨_, rfl⟩; have h := h.allocRaw #[.int .i64 0, .int .i64 0, .bool false, .string ⟨#[]⟩, .bool false, .string ⟨#[]⟩, .slice none 0 0] 62; rw [hwA] at h; replace H := Lib.hid h; clear h; obtain ⟨ac0, ac1, ac2, ac3, ac4, ac5, ac6, af0, af1, af2, af3, af4, af5, af6⟩ := raw7 (b := wA) (H.out))
    | (go_at_call 41; refine (ref07_same 0 0 0 0 false false false false [] [] [] [] [] [] (.slice none 0 0) (.slice none 0 0) true (decide_eq_true rfl) (by decide) (by decide) (know_nil0 _ _ _) (know_nil0 _ _ _) H.out).mono ?_; rintro e wn ⟨rfl, h⟩; replace H := Lib.hid h; clear h))
  go_ret
  exact ⟨rfl, H.out.below⟩

set_option maxHeartbeats 1000000 in
set_option maxRecDepth 100000 in
theorem controlWrites_xbig (n : Int) (hn : -9223372036854775808 ≤ n ∧ n < 9223372036854775808) (hn0 : n ≠ 0) (hn1 : n ≠ 1) (m : Int) (hm : -9223372036854775808 ≤ m ∧ m < 9223372036854775808) (ht : 2147483648 ≤ m) {W0 w : World} {K : Know} (h : St W0 w K []) :
    Calls Try.prog 11 #[.int .i64 n, .int .i64 m] w fun en w' => en = .returned (.bool true) ∧ Below W0.heap.size W0 w' := by
  have H := Lib.hid h
  have HM := Lib.hid hm
  have HN := Lib.hid hn
  have EK := Lib.hid (show ctlKey n = ([], 12) from if_neg (by omega))
  have b0 : (n == 0) = false := by simpa using hn0
  have b1 : (n == 1) = false := by simpa using hn1
  have EV := Lib.hid (show ctlVal m = ([], 11) from if_neg (by omega))
  have EF := Lib.hid (show decide (fits m 4) = false from decide_eq_false (fun h => by have := (fits4 m).1 h; omega))
  have hge : 0 ≤ m := by omega
  clear h hm hn hn0 hn1
  go_enter Try.func11, Try.ntmps11
  go_wp2_with (first
    | (go_at_call 46; refine (speaks08 H.out).mono ?_; rintro e wn ⟨rfl, h⟩; replace H := Lib.hid h; clear h)
    | (go_at_call 47; refine (sr_fits m 4 HM.out H.out).mono ?_; rw [EF.out]; rintro e wn ⟨rfl, h⟩; replace H := Lib.hid h; clear h)
    | (go_at_call 48; refine (ctl_key n ([], 12) EK.out HN.out H.out).mono ?_; rintro e wn ⟨rfl, h⟩; replace H := Lib.hid h; clear h)
    | (go_at_call 49; refine (ctl_value m ([], 11) EV.out HM.out H.out).mono ?_; rintro e wn ⟨rfl, h⟩; replace H := Lib.hid h; clear h)
    | (go_at_call 50; refine (ctl_record_kind n m 12 EK.out (by decide) HN.out HM.out H.out).mono ?_; rintro e wn ⟨rfl, h⟩; obtain ⟨wA, hwA⟩ : ∃ b, wn.heap.size = b := ⟨_, rfl⟩; have h := h.allocRaw #[.int .i64 0, .int .i64 0, .bool false, .string ⟨#[]⟩, .bool false, .string ⟨#[]⟩, .slice none 0 0] 62; rw [hwA] at h; replace H := Lib.hid h; clear h; obtain ⟨ac0, ac1, ac2, ac3, ac4, ac5, ac6, af0, af1, af2, af3, af4, af5, af6⟩ := raw7 (b := wA) (H.out))
    | (go_at_call 41; refine (ref07_same 0 0 0 0 false false false false [] [] [] [] [] [] (.slice none 0 0) (.slice none 0 0) true (decide_eq_true rfl) (by decide) (by decide) (know_nil0 _ _ _) (know_nil0 _ _ _) H.out).mono ?_; rintro e wn ⟨rfl, h⟩; replace H := Lib.hid h; clear h))
  go_ret
  exact ⟨rfl, H.out.below⟩

set_option maxHeartbeats 1000000 in
set_option maxRecDepth 100000 in
theorem controlWrites_xok (n : Int) (hn : -9223372036854775808 ≤ n ∧ n < 9223372036854775808) (hn0 : n ≠ 0) (hn1 : n ≠ 1) (m : Int) (hm : -9223372036854775808 ≤ m ∧ m < 9223372036854775808) (ht : 0 ≤ m) (ht2 : m < 2147483648) {W0 w : World} {K : Know} (h : St W0 w K []) :
    Calls Try.prog 11 #[.int .i64 n, .int .i64 m] w fun en w' => en = .returned (.bool true) ∧ Below W0.heap.size W0 w' := by
  have H := Lib.hid h
  have HM := Lib.hid hm
  have HN := Lib.hid hn
  have EK := Lib.hid (show ctlKey n = ([], 12) from if_neg (by omega))
  have b0 : (n == 0) = false := by simpa using hn0
  have b1 : (n == 1) = false := by simpa using hn1
  have EV := Lib.hid (show ctlVal m = (verB m 4, 0) from if_pos ⟨ht, ht2⟩)
  have EF := Lib.hid (show decide (fits m 4) = true from decide_eq_true ((fits4 m).2 (by omega)))
  clear h hm hn hn0 hn1
  go_enter Try.func11, Try.ntmps11
  go_wp2_with (first
    | (go_at_call 46; refine (speaks08 H.out).mono ?_; rintro e wn ⟨rfl, h⟩; replace H := Lib.hid h; clear h)
    | (go_at_call 47; refine (sr_fits m 4 HM.out H.out).mono ?_; rw [EF.out]; rintro e wn ⟨rfl, h⟩; replace H := Lib.hid h; clear h)
    | (go_at_call 48; refine (ctl_key n ([], 12) EK.out HN.out H.out).mono ?_; rintro e wn ⟨rfl, h⟩; replace H := Lib.hid h; clear h)
    | (go_at_call 49; refine (ctl_value m (verB m 4, 0) EV.out HM.out H.out).mono ?_; rintro e wn ⟨rfl, h⟩; replace H := Lib.hid h; clear h)
    | (go_at_call 50; refine (ctl_record_kind n m 12 EK.out (by decide) HN.out HM.out H.out).mono ?_; rintro e wn ⟨rfl, h⟩; obtain ⟨wA, hwA⟩ : ∃ b, wn.heap.size = b := ⟨_, rfl⟩; have h := h.allocRaw #[.int .i64 0, .int .i64 0, .bool false, .string ⟨#[]⟩, .bool false, .string ⟨#[]⟩, .slice none 0 0] 62; rw [hwA] at h; replace H := Lib.hid h; clear h; obtain ⟨ac0, ac1, ac2, ac3, ac4, ac5, ac6, af0, af1, af2, af3, af4, af5, af6⟩ := raw7 (b := wA) (H.out))
    | (go_at_call 52; refine (ref08_value m HM.out H.out).mono ?_; rintro e wn ⟨rfl, h⟩; replace H := Lib.hid h; clear h; obtain ⟨ac0, ac1, ac2, ac3, ac4, ac5, ac6, af0, af1, af2, af3, af4, af5, af6⟩ := raw7 (b := wA) (H.out))
    | (go_at_call 41; refine (ref07_same 0 0 0 0 false false false false [] [] [] [] [] [] (.slice none 0 0) (.slice none 0 0) true (decide_eq_true rfl) (by decide) (by decide) (know_nil0 _ _ _) (know_nil0 _ _ _) H.out).mono ?_; rintro e wn ⟨rfl, h⟩; replace H := Lib.hid h; clear h))
  go_ret
  exact ⟨rfl, H.out.below⟩

theorem controlWrites_any (n m : Int) (w : World) (hn : -9223372036854775808 ≤ n ∧ n < 9223372036854775808) (hm : -9223372036854775808 ≤ m ∧ m < 9223372036854775808) :
    Calls Try.prog 11 #[.int .i64 n, .int .i64 m] w fun en w' => en = .returned (.bool true) ∧ Below w.heap.size w w' := by
  have h : St w w Know.none [] := St.start trivial
  have ht : m < 0 ∨ 2147483648 ≤ m ∨ (0 ≤ m ∧ m < 2147483648) := by omega
  by_cases h0 : n = 0
  · subst h0
    rcases ht with ht | ht | ⟨ht, ht2⟩
    · exact controlWrites_0neg m hm ht h
    · exact controlWrites_0big m hm ht h
    · exact controlWrites_0ok m hm ht ht2 h
  by_cases h1 : n = 1
  · subst h1
    rcases ht with ht | ht | ⟨ht, ht2⟩
    · exact controlWrites_1neg m hm ht h
    · exact controlWrites_1big m hm ht h
    · exact controlWrites_1ok m hm ht ht2 h
  · rcases ht with ht | ht | ⟨ht, ht2⟩
    · exact controlWrites_xneg n hn h0 h1 m hm ht h
    · exact controlWrites_xbig n hn h0 h1 m hm ht h
    · exact controlWrites_xok n hn h0 h1 m hm ht ht2 h

end Go.Proofs.Ytkenneeejdngaaa
