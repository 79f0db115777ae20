/- Contracts: control records. -/
import Derived.Test.YtcjgdlfcfcabiaaGreatCtl1
import Derived.Test.YtcjgdlfcfcabiaaGreatCtl2
import Derived.Test.YtcjgdlfcfcabiaaGreatRec1
namespace Go.Proofs.YtcjgdlfcfcabiaaGreat
open Go.RowKit

set_option maxHeartbeats 1000000 in
set_option maxRecDepth 100000 in
theorem ctl_record_kind (n m : Int) (e : Int) (hk : ctlKey n = ([], e)) (he : (e != 0) = true) (hn : -9223372036854775808 ≤ n ∧ n < 9223372036854775808) (hm : -9223372036854775808 ≤ m ∧ m < 9223372036854775808) {W0 w : World} {K : Know} {L : List Res} (h : St W0 w K L) :
    Calls Tryz.prog 47 #[.int .i64 n, .int .i64 m] w fun en w' => en = .returned (.tuple #[.agg #[.int .i64 0, .int .i64 0, .bool false, .string ⟨#[]⟩, .bool false, .string ⟨#[]⟩, .slice none 0 0], .int .i64 e]) ∧ St W0 w' K L := by
  have h0 := h.allocRaw #[.int .i64 0, .int .i64 0, .bool false, .string ⟨#[]⟩, .bool false, .string ⟨#[]⟩, .slice none 0 0] 45
  obtain ⟨wA, hwA⟩ : ∃ b, w.heap.size = b := ⟨_, rfl⟩
  rw [hwA] at h0
  have H := Lib.hid h0
  have HN := Lib.hid hn
  have HM := Lib.hid hm
  have EK := Lib.hid hk
  clear hk
  clear h h0 hn hm
  go_enter Tryz.func47, Tryz.ntmps47
  go_wp2_with (first
    | (go_at_call 79; refine (ctl_key n _ EK.out HN.out H.out).mono ?_; rintro e wn ⟨rfl, h⟩; replace H := Lib.hid h; clear h; obtain ⟨ac0, ac1, ac2, ac3, ac4, ac5, ac6, af0, af1, af2, af3, af4, af5, af6⟩ := raw7 (b := wA) (H.out)))
  refine bodyPost_ret (v := .tuple #[.agg #[.int .i64 0, .int .i64 0, .bool false, .string ⟨#[]⟩, .bool false, .string ⟨#[]⟩, .slice none 0 0], .int .i64 e]) (by simp [results, Tryz.results47, go_sem, ac0, ac1, ac2, ac3, ac4, ac5, ac6]; try rfl) rfl ⟨rfl, (((((((H.out.rawSet 0 _).rawSet 1 _).rawSet 2 _).rawSet 3 _).rawSet 4 _).rawSet 5 _).rawSet 6 _).drop⟩

set_option maxHeartbeats 1000000 in
set_option maxRecDepth 100000 in
theorem ctl_record_time (n m : Int) (s : Bs) (e : Int) (hk : ctlKey n = (s, 0)) (hv : ctlVal m = ([], e)) (he : (e != 0) = true) (hn : -9223372036854775808 ≤ n ∧ n < 9223372036854775808) (hm : -9223372036854775808 ≤ m ∧ m < 9223372036854775808) {W0 w : World} {K : Know} {L : List Res} (h : St W0 w K L) :
    Calls Tryz.prog 47 #[.int .i64 n, .int .i64 m] w fun en w' => en = .returned (.tuple #[.agg #[.int .i64 0, .int .i64 0, .bool false, .string ⟨#[]⟩, .bool false, .string ⟨#[]⟩, .slice none 0 0], .int .i64 e]) ∧ St W0 w' K L := by
  have h0 := h.allocRaw #[.int .i64 0, .int .i64 0, .bool false, .string ⟨#[]⟩, .bool false, .string ⟨#[]⟩, .slice none 0 0] 45
  obtain ⟨wA, hwA⟩ : ∃ b, w.heap.size = b := ⟨_, rfl⟩
  rw [hwA] at h0
  have H := Lib.hid h0
  have HN := Lib.hid hn
  have HM := Lib.hid hm
  have EK := Lib.hid hk
  have EV := Lib.hid hv
  clear hk hv
  clear h h0 hn hm
  go_enter Tryz.func47, Tryz.ntmps47
  go_wp2_with (first
    | (go_at_call 79; refine (ctl_key n _ EK.out HN.out H.out).mono ?_; rintro e wn ⟨rfl, h⟩; replace H := Lib.hid h; clear h; obtain ⟨ac0, ac1, ac2, ac3, ac4, ac5, ac6, af0, af1, af2, af3, af4, af5, af6⟩ := raw7 (b := wA) (H.out))
    | (go_at_call 80; refine (ctl_value m _ EV.out HM.out H.out).mono ?_; rintro e wn ⟨rfl, h⟩; replace H := Lib.hid h; clear h; obtain ⟨ac0, ac1, ac2, ac3, ac4, ac5, ac6, af0, af1, af2, af3, af4, af5, af6⟩ := raw7 (b := wA) (H.out)))
  refine bodyPost_ret (v := .tuple #[.agg #[.int .i64 0, .int .i64 0, .bool false, .string ⟨#[]⟩, .bool false, .string ⟨#[]⟩, .slice none 0 0], .int .i64 e]) (by simp [results, Tryz.results47, go_sem, ac0, ac1, ac2, ac3, ac4, ac5, ac6]; try rfl) rfl ⟨rfl, (((((((H.out.rawSet 0 _).rawSet 1 _).rawSet 2 _).rawSet 3 _).rawSet 4 _).rawSet 5 _).rawSet 6 _).drop⟩

set_option maxHeartbeats 1000000 in
set_option maxRecDepth 100000 in
theorem ctl_record_ok (n m : Int) (s1 s2 : Bs) (hk : ctlKey n = (s1, 0)) (hv : ctlVal m = (s2, 0)) (hn : -9223372036854775808 ≤ n ∧ n < 9223372036854775808) (hm : -9223372036854775808 ≤ m ∧ m < 9223372036854775808) {W0 w : World} {K : Know} {L : List Res} (h : St W0 w K L) :
    Calls Tryz.prog 47 #[.int .i64 n, .int .i64 m] w fun en w' => en = .returned (.tuple #[.agg #[.int .i64 0, .int .i64 0, .bool false, .string (bb s1), .bool false, .string (bb s2), .slice none 0 0], .int .i64 0]) ∧ St W0 w' K L := by
  have h0 := h.allocRaw #[.int .i64 0, .int .i64 0, .bool false, .string ⟨#[]⟩, .bool false, .string ⟨#[]⟩, .slice none 0 0] 45
  obtain ⟨wA, hwA⟩ : ∃ b, w.heap.size = b := ⟨_, rfl⟩
  rw [hwA] at h0
  have H := Lib.hid h0
  have HN := Lib.hid hn
  have HM := Lib.hid hm
  have EK := Lib.hid hk
  have EV := Lib.hid hv
  have t1 : True := trivial
  clear hk hv
  clear h h0 hn hm
  go_enter Tryz.func47, Tryz.ntmps47
  go_wp2_with (first
    | (go_at_call 79; refine (ctl_key n _ EK.out HN.out H.out).mono ?_; rintro e wn ⟨rfl, h⟩; replace H := Lib.hid h; clear h; obtain ⟨ac0, ac1, ac2, ac3, ac4, ac5, ac6, af0, af1, af2, af3, af4, af5, af6⟩ := raw7 (b := wA) (H.out))
    | (go_at_call 80; refine (ctl_value m _ EV.out HM.out H.out).mono ?_; rintro e wn ⟨rfl, h⟩; replace H := Lib.hid h; clear h; obtain ⟨ac0, ac1, ac2, ac3, ac4, ac5, ac6, af0, af1, af2, af3, af4, af5, af6⟩ := raw7 (b := wA) (H.out))
    | (go_at_call 81; have _t := t1; clear _t; refine (blob_of s1 H.out).mono ?_; rintro e wn ⟨rfl, h⟩; replace H := Lib.hid h; clear h t1; have t2 : True := trivial; obtain ⟨ac0, ac1, ac2, ac3, ac4, ac5, ac6, af0, af1, af2, af3, af4, af5, af6⟩ := raw7 (b := wA) (H.out); unfold bv)
    | (go_at_call 81; have _t := t2; clear _t; refine (blob_of s2 H.out).mono ?_; rintro e wn ⟨rfl, h⟩; replace H := Lib.hid h; clear h t2; obtain ⟨ac0, ac1, ac2, ac3, ac4, ac5, ac6, af0, af1, af2, af3, af4, af5, af6⟩ := raw7 (b := wA) (H.out); unfold bv))
  refine bodyPost_ret (v := .tuple #[.agg #[.int .i64 0, .int .i64 0, .bool false, .string (bb s1), .bool false, .string (bb s2), .slice none 0 0], .int .i64 0]) (by simp [results, Tryz.results47, go_sem, ac0, ac1, ac2, ac3, ac4, ac5, ac6]; try rfl) rfl ⟨rfl, (((((((H.out.rawSet 0 _).rawSet 1 _).rawSet 2 _).rawSet 3 _).rawSet 4 _).rawSet 5 _).rawSet 6 _).drop⟩

def ctlRead (n1 n2 : Bool) (d1 d2 : Bs) (many o : Int) : Int × Int × Int :=
  if n1 = true ∨ n2 = true ∨ many ≠ 0 ∨ o ≠ 0 then (0, 0, 12)
  else if (verRd 2 way 12 d1).2 ≠ 0 then (0, 0, (verRd 2 way 12 d1).2)
  else if (verRd 4 time0 11 d2).2 ≠ 0 then (0, 0, (verRd 4 time0 11 d2).2)
  else ((verRd 2 way 12 d1).1, (verRd 4 time0 11 d2).1, 0)

set_option maxHeartbeats 1000000 in
set_option maxRecDepth 100000 in
theorem ctl_read (t o : Int) (n1 n2 : Bool) (d1 d2 : Bs) (q : Option Addr) (ln cap : Nat) (r : Int × Int × Int) (hr : ctlRead n1 n2 d1 d2 ln o = r) (hd1 : d1.length ≤ 140737488355328) (hd2 : d2.length ≤ 140737488355328) {W0 w : World} {K : Know} {L : List Res} (h : St W0 w K L) :
    Calls Tryz.prog 37 #[.agg #[.int .i64 t, .int .i64 o, .bool n1, .string (bb d1), .bool n2, .string (bb d2), (.slice q ln cap)]] w fun en w' => en = .returned (.tuple #[.int .i64 r.1, .int .i64 r.2.1, .int .i64 r.2.2]) ∧ St W0 w' K L := by
  have h0 := h.allocRaw #[.int .i64 t, .int .i64 o, .bool n1, .string (bb d1), .bool n2, .string (bb d2), (.slice q ln cap)] 45
  obtain ⟨wA, hwA⟩ : ∃ b, w.heap.size = b := ⟨_, rfl⟩
  rw [hwA] at h0
  have H := Lib.hid h0
  have HD1 := Lib.hid hd1
  have HD2 := Lib.hid hd2
  obtain ⟨ac0, ac1, ac2, ac3, ac4, ac5, ac6, af0, af1, af2, af3, af4, af5, af6⟩ := raw7 (b := wA) (H.out)
  clear h h0 hd1 hd2
  unfold ctlRead at hr
  by_cases g1 : n1 = true
  · rw [if_pos (.inl g1)] at hr
    subst hr g1
    go_enter Tryz.func37, Tryz.ntmps37
    go_wp2
    go_ret3
    exact ⟨rfl, H.out.drop⟩
  by_cases g2 : n2 = true
  · rw [if_pos (.inr (.inl g2))] at hr
    subst hr g2
    obtain rfl : n1 = false := by simpa using g1
    clear g1
    go_enter Tryz.func37, Tryz.ntmps37
    go_wp2
    go_ret3
    exact ⟨rfl, H.out.drop⟩
  obtain rfl : n1 = false := by simpa using g1
  obtain rfl : n2 = false := by simpa using g2
  clear g1 g2
  by_cases g3 : (ln : Int) ≠ 0
  · rw [if_pos (.inr (.inr (.inl g3)))] at hr
    subst hr
    have b1 : ((ln : Int) != 0) = true := by simpa using g3
    have b2 : decide (0 < ln) = true := decide_eq_true (by omega)
    have b3 : decide ((0 : Int) < ln) = true := decide_eq_true (by omega)
    have b4 : 0 < ln := by omega
    clear g3
    go_enter Tryz.func37, Tryz.ntmps37
    go_wp2
    go_ret3
    exact ⟨rfl, H.out.drop⟩
  obtain rfl : ln = 0 := by omega
  clear g3
  by_cases g4 : o ≠ 0
  · rw [if_pos (.inr (.inr (.inr g4)))] at hr
    subst hr
    have b1 : (o != 0) = true := by simpa using g4
    clear g4
    go_enter Tryz.func37, Tryz.ntmps37
    go_wp2
    go_ret3
    exact ⟨rfl, H.out.drop⟩
  obtain rfl : o = 0 := by simpa using g4
  clear g4
  rw [if_neg (by simp)] at hr
  obtain ⟨a, ha⟩ : ∃ a, verRd 2 way 12 d1 = a := ⟨_, rfl⟩
  obtain ⟨b, hb⟩ : ∃ b, verRd 4 time0 11 d2 = b := ⟨_, rfl⟩
  rw [ha, hb] at hr
  have EA := Lib.hid ha
  have EB := Lib.hid hb
  clear ha hb
  by_cases g5 : a.2 ≠ 0
  · rw [if_pos g5] at hr
    subst hr
    have b1 : (a.2 != 0) = true := by simpa using g5
    clear g5
    go_enter Tryz.func37, Tryz.ntmps37
    go_wp2_with (first
      | (go_at_call 69; refine (ctl_readKey d1 a EA.out HD1.out H.out).mono ?_; rintro e wn ⟨rfl, h⟩; replace H := Lib.hid h; clear h; obtain ⟨ac0, ac1, ac2, ac3, ac4, ac5, ac6, af0, af1, af2, af3, af4, af5, af6⟩ := raw7 (b := wA) (H.out)))
    go_ret3
    exact ⟨rfl, H.out.drop⟩
  rw [if_neg g5] at hr
  have b1 : (a.2 != 0) = false := by simpa using g5
  clear g5
  by_cases g6 : b.2 ≠ 0
  · rw [if_pos g6] at hr
    subst hr
    have b2 : (b.2 != 0) = true := by simpa using g6
    clear g6
    go_enter Tryz.func37, Tryz.ntmps37
    go_wp2_with (first
      | (go_at_call 69; refine (ctl_readKey d1 a EA.out HD1.out H.out).mono ?_; rintro e wn ⟨rfl, h⟩; replace H := Lib.hid h; clear h; obtain ⟨ac0, ac1, ac2, ac3, ac4, ac5, ac6, af0, af1, af2, af3, af4, af5, af6⟩ := raw7 (b := wA) (H.out))
      | (go_at_call 70; refine (ctl_readValue d2 b EB.out HD2.out H.out).mono ?_; rintro e wn ⟨rfl, h⟩; replace H := Lib.hid h; clear h; obtain ⟨ac0, ac1, ac2, ac3, ac4, ac5, ac6, af0, af1, af2, af3, af4, af5, af6⟩ := raw7 (b := wA) (H.out)))
    go_ret3
    exact ⟨rfl, H.out.drop⟩
  rw [if_neg g6] at hr
  subst hr
  have b2 : (b.2 != 0) = false := by simpa using g6
  clear g6
  go_enter Tryz.func37, Tryz.ntmps37
  go_wp2_with (first
    | (go_at_call 69; refine (ctl_readKey d1 a EA.out HD1.out H.out).mono ?_; rintro e wn ⟨rfl, h⟩; replace H := Lib.hid h; clear h; obtain ⟨ac0, ac1, ac2, ac3, ac4, ac5, ac6, af0, af1, af2, af3, af4, af5, af6⟩ := raw7 (b := wA) (H.out))
    | (go_at_call 70; refine (ctl_readValue d2 b EB.out HD2.out H.out).mono ?_; rintro e wn ⟨rfl, h⟩; replace H := Lib.hid h; clear h; obtain ⟨ac0, ac1, ac2, ac3, ac4, ac5, ac6, af0, af1, af2, af3, af4, af5, af6⟩ := raw7 (b := wA) (H.out)))
  go_ret3
  exact ⟨rfl, H.out.drop⟩

set_option maxHeartbeats 1000000 in
set_option maxRecDepth 100000 in
theorem ref08_read (t o : Int) (n1 n2 : Bool) (d1 d2 : Bs) (q : Option Addr) (ln cap : Nat) (r : Int × Int × Int) (hr : ctlRead n1 n2 d1 d2 ln o = r) (hd1 : d1.length ≤ 140737488355328) (hd2 : d2.length ≤ 140737488355328) {W0 w : World} {K : Know} {L : List Res} (h : St W0 w K L) :
    Calls Tryz.prog 32 #[.agg #[.int .i64 t, .int .i64 o, .bool n1, .string (bb d1), .bool n2, .string (bb d2), (.slice q ln cap)]] w fun en w' => en = .returned (.tuple #[.int .i64 r.1, .int .i64 r.2.1, .int .i64 r.2.2]) ∧ St W0 w' K L := by
  have h0 := h.allocRaw #[.int .i64 t, .int .i64 o, .bool n1, .string (bb d1), .bool n2, .string (bb d2), (.slice q ln cap)] 45
  obtain ⟨wA, hwA⟩ : ∃ b, w.heap.size = b := ⟨_, rfl⟩
  rw [hwA] at h0
  have H := Lib.hid h0
  have HD1 := Lib.hid hd1
  have HD2 := Lib.hid hd2
  obtain ⟨ac0, ac1, ac2, ac3, ac4, ac5, ac6, af0, af1, af2, af3, af4, af5, af6⟩ := raw7 (b := wA) (H.out)
  clear h h0 hd1 hd2
  unfold ctlRead at hr
  by_cases g1 : n1 = true
  · rw [if_pos (.inl g1)] at hr
    subst hr g1
    go_enter Tryz.func32, Tryz.ntmps32
    go_wp2
    go_ret3
    exact ⟨rfl, H.out.drop⟩
  by_cases g2 : n2 = true
  · rw [if_pos (.inr (.inl g2))] at hr
    subst hr g2
    obtain rfl : n1 = false := by simpa using g1
    clear g1
    go_enter Tryz.func32, Tryz.ntmps32
    go_wp2
    go_ret3
    exact ⟨rfl, H.out.drop⟩
  obtain rfl : n1 = false := by simpa using g1
  obtain rfl : n2 = false := by simpa using g2
  clear g1 g2
  by_cases g3 : (ln : Int) ≠ 0
  · rw [if_pos (.inr (.inr (.inl g3)))] at hr
    subst hr
    have b1 : ((ln : Int) != 0) = true := by simpa using g3
    have b2 : decide (0 < ln) = true := decide_eq_true (by omega)
    have b3 : decide ((0 : Int) < ln) = true := decide_eq_true (by omega)
    have b4 : 0 < ln := by omega
    clear g3
    go_enter Tryz.func32, Tryz.ntmps32
    go_wp2
    go_ret3
    exact ⟨rfl, H.out.drop⟩
  obtain rfl : ln = 0 := by omega
  clear g3
  by_cases g4 : o ≠ 0
  · rw [if_pos (.inr (.inr (.inr g4)))] at hr
    subst hr
    have b1 : (o != 0) = true := by simpa using g4
    clear g4
    go_enter Tryz.func32, Tryz.ntmps32
    go_wp2
    go_ret3
    exact ⟨rfl, H.out.drop⟩
  obtain rfl : o = 0 := by simpa using g4
  clear g4
  rw [if_neg (by simp)] at hr
  obtain ⟨a, ha⟩ : ∃ a, verRd 2 way 12 d1 = a := ⟨_, rfl⟩
  obtain ⟨b, hb⟩ : ∃ b, verRd 4 time0 11 d2 = b := ⟨_, rfl⟩
  rw [ha, hb] at hr
  have EA := Lib.hid ha
  have EB := Lib.hid hb
  clear ha hb
  by_cases g5 : a.2 ≠ 0
  · rw [if_pos g5] at hr
    subst hr
    have b1 : (a.2 != 0) = true := by simpa using g5
    clear g5
    go_enter Tryz.func32, Tryz.ntmps32
    go_wp2_with (first
      | (go_at_call 63; refine (ref08_readKey d1 a EA.out HD1.out H.out).mono ?_; rintro e wn ⟨rfl, h⟩; replace H := Lib.hid h; clear h; obtain ⟨ac0, ac1, ac2, ac3, ac4, ac5, ac6, af0, af1, af2, af3, af4, af5, af6⟩ := raw7 (b := wA) (H.out)))
    go_ret3
    exact ⟨rfl, H.out.drop⟩
  rw [if_neg g5] at hr
  have b1 : (a.2 != 0) = false := by simpa using g5
  clear g5
  by_cases g6 : b.2 ≠ 0
  · rw [if_pos g6] at hr
    subst hr
    have b2 : (b.2 != 0) = true := by simpa using g6
    clear g6
    go_enter Tryz.func32, Tryz.ntmps32
    go_wp2_with (first
      | (go_at_call 63; refine (ref08_readKey d1 a EA.out HD1.out H.out).mono ?_; rintro e wn ⟨rfl, h⟩; replace H := Lib.hid h; clear h; obtain ⟨ac0, ac1, ac2, ac3, ac4, ac5, ac6, af0, af1, af2, af3, af4, af5, af6⟩ := raw7 (b := wA) (H.out))
      | (go_at_call 64; refine (ref08_readValue d2 b EB.out HD2.out H.out).mono ?_; rintro e wn ⟨rfl, h⟩; replace H := Lib.hid h; clear h; obtain ⟨ac0, ac1, ac2, ac3, ac4, ac5, ac6, af0, af1, af2, af3, af4, af5, af6⟩ := raw7 (b := wA) (H.out)))
    go_ret3
    exact ⟨rfl, H.out.drop⟩
  rw [if_neg g6] at hr
  subst hr
  have b2 : (b.2 != 0) = false := by simpa using g6
  clear g6
  go_enter Tryz.func32, Tryz.ntmps32
  go_wp2_with (first
    | (go_at_call 63; refine (ref08_readKey d1 a EA.out HD1.out H.out).mono ?_; rintro e wn ⟨rfl, h⟩; replace H := Lib.hid h; clear h; obtain ⟨ac0, ac1, ac2, ac3, ac4, ac5, ac6, af0, af1, af2, af3, af4, af5, af6⟩ := raw7 (b := wA) (H.out))
    | (go_at_call 64; refine (ref08_readValue d2 b EB.out HD2.out H.out).mono ?_; rintro e wn ⟨rfl, h⟩; replace H := Lib.hid h; clear h; obtain ⟨ac0, ac1, ac2, ac3, ac4, ac5, ac6, af0, af1, af2, af3, af4, af5, af6⟩ := raw7 (b := wA) (H.out)))
  go_ret3
  exact ⟨rfl, H.out.drop⟩

end Go.Proofs.YtcjgdlfcfcabiaaGreat
