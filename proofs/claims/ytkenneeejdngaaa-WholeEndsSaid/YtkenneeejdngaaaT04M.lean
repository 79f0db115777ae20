/- Through the layers, walked: WholeEnds. -/
import Derived.Test.YtkenneeejdngaaaT04
namespace Go.Proofs.Ytkenneeejdngaaa
open Go.RowKit

set_option maxHeartbeats 1000000 in
set_option maxRecDepth 100000 in
theorem wholeEnds_0 (n m tm : Int) (key : Bs) (hn : -9223372036854775808 ≤ n ∧ n < 9223372036854775808) (hm : -9223372036854775808 ≤ m ∧ m < 9223372036854775808) (ks vs : Bs) (hk : ctlKey n = (ks, 0)) (hv : ctlVal m = (vs, 0)) (ht : -9223372036854775808 ≤ tm ∧ tm < 9223372036854775808) (hkey : key = [0, 0, 0, 0]) {W0 w : World} (h : St W0 w Know.none []) :
    Calls Try.prog 14 #[.agg #[.int .i64 n, .int .i64 m], .int .i64 tm, .string (bb key)] w fun en w' => en = .returned (.bool true) ∧ Below W0.heap.size W0 w' := by
  obtain ⟨wP, hwP⟩ : ∃ b, w.heap.size = b := ⟨_, rfl⟩
  have h0 := h.allocRaw #[.int .i64 n, .int .i64 m] 87
  rw [hwP] at h0
  have pc0 : _ = some (Value.int .i64 n) := h0.rawCell 0
  have pc1 : _ = some (Value.int .i64 m) := h0.rawCell 1
  have H := Lib.hid h0
  have HN := Lib.hid hn
  have HM := Lib.hid hm
  have k1 : True := trivial
  have hl : key.length ≤ 200 := by rw [hkey]; decide
  obtain ⟨hw, hks⟩ := ctlKey_of hk
  obtain ⟨hv0, hvs⟩ := ctlVal_of hv
  have kl : ks.length = 4 := by rw [hks, verB_len]
  have vl : vs.length = 6 := by rw [hvs, verB_len]
  have EK := Lib.hid hk
  have EV := Lib.hid hv
  have hlb : decide ((200 : Int) < (key.length : Int)) = false := decide_eq_false (by omega)
  have x1r : (⟨tm, 0, ⟨false, ks⟩, ⟨false, vs⟩, []⟩ : RecS).R := ⟨ht, by simp only; decide⟩
  have x2r : (⟨tm, 0, ⟨false, ks⟩, ⟨false, vs⟩, [(⟨key, ⟨false, []⟩⟩ : HdrS)]⟩ : RecS).R := ⟨ht, by simp only; decide⟩
  have x1s : (⟨tm, 0, ⟨false, ks⟩, ⟨false, vs⟩, []⟩ : RecS).sum ≤ 3000 := by unfold RecS.sum; simp [hsum]; omega
  have x2s : (⟨tm, 0, ⟨false, ks⟩, ⟨false, vs⟩, [(⟨key, ⟨false, []⟩⟩ : HdrS)]⟩ : RecS).sum ≤ 3000 := by unfold RecS.sum; simp [hsum]; omega
  have x1o : recOk (⟨tm, 0, ⟨false, ks⟩, ⟨false, vs⟩, []⟩ : RecS) = 0 := rfl
  have x2o : recOk (⟨tm, 0, ⟨false, ks⟩, ⟨false, vs⟩, [(⟨key, ⟨false, []⟩⟩ : HdrS)]⟩ : RecS) = 0 := rfl
  obtain ⟨s1, hs1⟩ : ∃ s, encR (⟨tm, 0, ⟨false, ks⟩, ⟨false, vs⟩, []⟩ : RecS) = s := ⟨_, rfl⟩
  obtain ⟨s2, hs2⟩ : ∃ s, encR (⟨tm, 0, ⟨false, ks⟩, ⟨false, vs⟩, [(⟨key, ⟨false, []⟩⟩ : HdrS)]⟩ : RecS) = s := ⟨_, rfl⟩
  have X1R := Lib.hid x1r
  have X2R := Lib.hid x2r
  have X1S := Lib.hid (show (⟨tm, 0, ⟨false, ks⟩, ⟨false, vs⟩, []⟩ : RecS).sum ≤ 1000000 by omega)
  have X2S := Lib.hid (show (⟨tm, 0, ⟨false, ks⟩, ⟨false, vs⟩, [(⟨key, ⟨false, []⟩⟩ : HdrS)]⟩ : RecS).sum ≤ 1000000 by omega)
  have X1O := Lib.hid x1o
  have X2O := Lib.hid x2o
  have X1E := Lib.hid (show encOk (⟨tm, 0, ⟨false, ks⟩, ⟨false, vs⟩, []⟩ : RecS) = s1 by unfold encOk; rw [if_pos x1o, hs1])
  have X2E := Lib.hid (show encOk (⟨tm, 0, ⟨false, ks⟩, ⟨false, vs⟩, [(⟨key, ⟨false, []⟩⟩ : HdrS)]⟩ : RecS) = s2 by unfold encOk; rw [if_pos x2o, hs2])
  have X1D := Lib.hid (hs1 ▸ rec_back (⟨tm, 0, ⟨false, ks⟩, ⟨false, vs⟩, []⟩ : RecS) x1r x1o (by omega))
  have X2D := Lib.hid (hs2 ▸ rec_back (⟨tm, 0, ⟨false, ks⟩, ⟨false, vs⟩, [(⟨key, ⟨false, []⟩⟩ : HdrS)]⟩ : RecS) x2r x2o (by omega))
  have S1L := Lib.hid (show s1.length ≤ 140737488355328 by have := encR_le (⟨tm, 0, ⟨false, ks⟩, ⟨false, vs⟩, []⟩ : RecS) x1r x1s; rw [hs1] at this; omega)
  have S2L := Lib.hid (show s2.length ≤ 140737488355328 by have := encR_le (⟨tm, 0, ⟨false, ks⟩, ⟨false, vs⟩, [(⟨key, ⟨false, []⟩⟩ : HdrS)]⟩ : RecS) x2r x2s; rw [hs2] at this; omega)
  have KL := Lib.hid (show ks.length ≤ 140737488355328 by omega)
  have VL := Lib.hid (show vs.length ≤ 140737488355328 by omega)
  have KY := Lib.hid (show key.length ≤ 140737488355328 by omega)
  have b1 : verRd 2 way 12 ks = (n, 0) := by rw [hks]; exact verRd_back n 2 way 12 (by decide) (by decide) (fits2 n (by omega)) (by unfold way; rcases hw with rfl | rfl <;> rfl)
  have b2 : verRd 4 time0 11 vs = (m, 0) := by rw [hvs]; exact verRd_back m 4 time0 11 (by decide) (by decide) ((fits4 m).2 (by omega)) (decide_eq_true hv0.1)
  have R1 := Lib.hid (show ctlRead false false ks vs (0 : Nat) 0 = (n, m, 0) by unfold ctlRead; rw [if_neg (by decide), b1, b2]; rfl)
  have R2 := Lib.hid (show ctlRead false false ks vs (1 : Nat) 0 = (0, 0, 12) by unfold ctlRead; rw [if_pos (by decide)])
  obtain ⟨r3, hr3⟩ : ∃ r, ctlRead false false key vs (0 : Nat) 0 = r := ⟨_, rfl⟩
  have R3 := Lib.hid hr3
  have hrb : (r3.2.2 == 0) = true := by
    rw [← hr3, hkey]
    have h0 : verRd 2 way 12 [0, 0, 0, 0] = (0, 0) := by decide +kernel
    unfold ctlRead
    rw [if_neg (by decide), h0, b2]
    rfl
  subst hkey
  clear h h0 hn hm hk hv ht hw hks hv0 hvs kl vl x1r x2r x1s x2s x1o x2o hs1 hs2 b1 b2 hr3 hl
  go_enter Try.func14, Try.ntmps14
  go_wp2
  go_quiet (fail)
  go_wp2_with (first
    | (go_at_call 50; have _t := k1; clear _t; refine (ctl_record_ok 1 7 [0, 0, 0, 1] (verB 7 4) (by decide +kernel) (by decide +kernel) (by decide) (by decide) (H.out.drewN _)).mono ?_; rintro e wn ⟨rfl, h⟩; obtain ⟨wQ, hwQ⟩ : ∃ b, wn.heap.size = b := ⟨_, rfl⟩; have h := h.allocRaw #[.int .i64 0, .int .i64 0, .bool false, .string (bb [0, 0, 0, 1]), .bool false, .string (bb (verB 7 4)), .slice none 0 0] 62; rw [hwQ] at h; replace H := Lib.hid h; clear h; clear k1; have k2 : True := trivial; obtain ⟨qc0, qc1, qc2, qc3, qc4, qc5, qc6, qf0, qf1, qf2, qf3, qf4, qf5, qf6⟩ := raw7 (b := wQ) (H.out))
    | (go_at_call 50; have _t := k2; clear _t; refine (ctl_record_ok n m ks vs EK.out EV.out HN.out HM.out H.out).mono ?_; rintro e wn ⟨rfl, h⟩; have h2 := h.allocRaw #[.int .i64 tm, .int .i64 0, .bool false, .string (bb ks), .bool false, .string (bb vs), .slice none 0 0] 62; obtain ⟨wR, hwR⟩ : ∃ b, wn.heap.size = b := ⟨_, rfl⟩; have h := h.allocRaw #[.int .i64 0, .int .i64 0, .bool false, .string (bb ks), .bool false, .string (bb vs), .slice none 0 0] 62; rw [hwR] at h; replace H := Lib.hid h; clear h; clear k2; have k3 : True := trivial; rw [hwR] at h2; clear H; have H := Lib.hid h2; clear h2; obtain ⟨rc0, rc1, rc2, rc3, rc4, rc5, rc6, rf0, rf1, rf2, rf3, rf4, rf5, rf6⟩ := raw7 (b := wR) (H.out))
    | (go_at_call 36; have _t := k3; clear _t; refine (rec_encodeC tm 0 false false ks vs [] (.slice none 0 0) 0 s1 X1R.out X1S.out X1O.out X1E.out (know_nil0 _ _ _) H.out).mono ?_; rintro e wn ⟨rfl, h⟩; replace H := Lib.hid h; clear h; clear k3; have k4 : True := trivial)
    | (go_at_call 39; have _t := k4; clear _t; refine (rec_decodeC s1 tm 0 false false ks vs [] 0 X1D.out.1 X1D.out.2 S1L.out H.out).mono ?_; rintro e wn ⟨v1, rfl, h⟩; obtain ⟨q1, c1, hv1⟩ := flat_form0 (Know.has_right (Know.has_refl _)) h; subst hv1; obtain ⟨wX, hwX⟩ : ∃ b, wn.heap.size = b := ⟨_, rfl⟩; have h := h.allocRaw #[.int .i64 tm, .int .i64 0, .bool false, .string (bb ks), .bool false, .string (bb vs), .slice q1 0 c1] 62; rw [hwX] at h; replace H := Lib.hid h; clear h; clear k4; have k5 : True := trivial; obtain ⟨xc0, xc1, xc2, xc3, xc4, xc5, xc6, xf0, xf1, xf2, xf3, xf4, xf5, xf6⟩ := raw7 (b := wX) (H.out))
    | (go_at_call 53; have _t := k5; clear _t; refine (ctl_read tm 0 false false ks vs q1 0 c1 (n, m, 0) R1.out KL.out VL.out H.out).mono ?_; rintro e wn ⟨rfl, h⟩; replace H := Lib.hid h; clear h; clear k5; have k6 : True := trivial; obtain ⟨xc0, xc1, xc2, xc3, xc4, xc5, xc6, xf0, xf1, xf2, xf3, xf4, xf5, xf6⟩ := raw7 (b := wX) (H.out); have h3 := H.out.hdrRow [0, 0, 0, 0]; obtain ⟨wB, hwB⟩ : ∃ b, wn.heap.size = b := ⟨_, rfl⟩; rw [hwB] at h3; have H3 := Lib.hid h3; clear h3; obtain ⟨yc0, yc1, yc2, yc3, yc4, yc5, yc6, yf0, yf1, yf2, yf3, yf4, yf5, yf6⟩ := raw7 (b := wX) (H3.out))
    | (go_at_call 36; have _t := k6; clear _t; refine (rec_encodeC tm 0 false false ks vs [(⟨[0, 0, 0, 0], ⟨false, []⟩⟩ : HdrS)] (.slice (some ⟨wB, 0, none⟩) 1 1) 0 s2 X2R.out X2S.out X2O.out X2E.out (Know.has_right (Know.has_refl _)) (H3.out.rawSet 6 _)).mono ?_; rintro e wn ⟨rfl, h⟩; replace H := Lib.hid h; clear h; clear k6; have k7 : True := trivial)
    | (go_at_call 39; have _t := k7; clear _t; refine (rec_decodeC s2 tm 0 false false ks vs [(⟨[0, 0, 0, 0], ⟨false, []⟩⟩ : HdrS)] 0 X2D.out.1 X2D.out.2 S2L.out H.out).mono ?_; rintro e wn ⟨v2, rfl, h⟩; obtain ⟨q2, c2, hv2⟩ := flat_form1 (Know.has_right (Know.has_refl _)) h; subst hv2; obtain ⟨wY, hwY⟩ : ∃ b, wn.heap.size = b := ⟨_, rfl⟩; have h := h.allocRaw #[.int .i64 tm, .int .i64 0, .bool false, .string (bb ks), .bool false, .string (bb vs), .slice q2 1 c2] 62; rw [hwY] at h; replace H := Lib.hid h; clear h; clear k7; have k8 : True := trivial; obtain ⟨zc0, zc1, zc2, zc3, zc4, zc5, zc6, zf0, zf1, zf2, zf3, zf4, zf5, zf6⟩ := raw7 (b := wY) (H.out))
    | (go_at_call 53; have _t := k8; clear _t; refine (ctl_read tm 0 false false ks vs q2 1 c2 (0, 0, 12) R2.out KL.out VL.out H.out).mono ?_; rintro e wn ⟨rfl, h⟩; replace H := Lib.hid h; clear h; clear k8; have k9 : True := trivial; obtain ⟨rc0, rc1, rc2, rc3, rc4, rc5, rc6, rf0, rf1, rf2, rf3, rf4, rf5, rf6⟩ := raw7 (b := wR) (H.out.p2))
    | (go_at_call 53; have _t := k9; clear _t; refine (ctl_read tm 0 false false [0, 0, 0, 0] vs none 0 0 r3 R3.out KY.out VL.out (H.out.p2.rawSet 3 _)).mono ?_; rintro e wn ⟨rfl, h⟩; replace H := Lib.hid h; clear h; clear k9; have k10 : True := trivial))
  go_ret
  exact ⟨rfl, H.out.below⟩

set_option maxHeartbeats 1000000 in
set_option maxRecDepth 100000 in
theorem wholeEnds_1 (n m tm : Int) (key : Bs) (hn : -9223372036854775808 ≤ n ∧ n < 9223372036854775808) (hm : -9223372036854775808 ≤ m ∧ m < 9223372036854775808) (ks vs : Bs) (hk : ctlKey n = (ks, 0)) (hv : ctlVal m = (vs, 0)) (ht : -9223372036854775808 ≤ tm ∧ tm < 9223372036854775808) (hkey : key = [0, 0, 0, 1]) {W0 w : World} (h : St W0 w Know.none []) :
    Calls Try.prog 14 #[.agg #[.int .i64 n, .int .i64 m], .int .i64 tm, .string (bb key)] w fun en w' => en = .returned (.bool true) ∧ Below W0.heap.size W0 w' := by
  obtain ⟨wP, hwP⟩ : ∃ b, w.heap.size = b := ⟨_, rfl⟩
  have h0 := h.allocRaw #[.int .i64 n, .int .i64 m] 87
  rw [hwP] at h0
  have pc0 : _ = some (Value.int .i64 n) := h0.rawCell 0
  have pc1 : _ = some (Value.int .i64 m) := h0.rawCell 1
  have H := Lib.hid h0
  have HN := Lib.hid hn
  have HM := Lib.hid hm
  have k1 : True := trivial
  have hl : key.length ≤ 200 := by rw [hkey]; decide
  obtain ⟨hw, hks⟩ := ctlKey_of hk
  obtain ⟨hv0, hvs⟩ := ctlVal_of hv
  have kl : ks.length = 4 := by rw [hks, verB_len]
  have vl : vs.length = 6 := by rw [hvs, verB_len]
  have EK := Lib.hid hk
  have EV := Lib.hid hv
  have hlb : decide ((200 : Int) < (key.length : Int)) = false := decide_eq_false (by omega)
  have x1r : (⟨tm, 0, ⟨false, ks⟩, ⟨false, vs⟩, []⟩ : RecS).R := ⟨ht, by simp only; decide⟩
  have x2r : (⟨tm, 0, ⟨false, ks⟩, ⟨false, vs⟩, [(⟨key, ⟨false, []⟩⟩ : HdrS)]⟩ : RecS).R := ⟨ht, by simp only; decide⟩
  have x1s : (⟨tm, 0, ⟨false, ks⟩, ⟨false, vs⟩, []⟩ : RecS).sum ≤ 3000 := by unfold RecS.sum; simp [hsum]; omega
  have x2s : (⟨tm, 0, ⟨false, ks⟩, ⟨false, vs⟩, [(⟨key, ⟨false, []⟩⟩ : HdrS)]⟩ : RecS).sum ≤ 3000 := by unfold RecS.sum; simp [hsum]; omega
  have x1o : recOk (⟨tm, 0, ⟨false, ks⟩, ⟨false, vs⟩, []⟩ : RecS) = 0 := rfl
  have x2o : recOk (⟨tm, 0, ⟨false, ks⟩, ⟨false, vs⟩, [(⟨key, ⟨false, []⟩⟩ : HdrS)]⟩ : RecS) = 0 := rfl
  obtain ⟨s1, hs1⟩ : ∃ s, encR (⟨tm, 0, ⟨false, ks⟩, ⟨false, vs⟩, []⟩ : RecS) = s := ⟨_, rfl⟩
  obtain ⟨s2, hs2⟩ : ∃ s, encR (⟨tm, 0, ⟨false, ks⟩, ⟨false, vs⟩, [(⟨key, ⟨false, []⟩⟩ : HdrS)]⟩ : RecS) = s := ⟨_, rfl⟩
  have X1R := Lib.hid x1r
  have X2R := Lib.hid x2r
  have X1S := Lib.hid (show (⟨tm, 0, ⟨false, ks⟩, ⟨false, vs⟩, []⟩ : RecS).sum ≤ 1000000 by omega)
  have X2S := Lib.hid (show (⟨tm, 0, ⟨false, ks⟩, ⟨false, vs⟩, [(⟨key, ⟨false, []⟩⟩ : HdrS)]⟩ : RecS).sum ≤ 1000000 by omega)
  have X1O := Lib.hid x1o
  have X2O := Lib.hid x2o
  have X1E := Lib.hid (show encOk (⟨tm, 0, ⟨false, ks⟩, ⟨false, vs⟩, []⟩ : RecS) = s1 by unfold encOk; rw [if_pos x1o, hs1])
  have X2E := Lib.hid (show encOk (⟨tm, 0, ⟨false, ks⟩, ⟨false, vs⟩, [(⟨key, ⟨false, []⟩⟩ : HdrS)]⟩ : RecS) = s2 by unfold encOk; rw [if_pos x2o, hs2])
  have X1D := Lib.hid (hs1 ▸ rec_back (⟨tm, 0, ⟨false, ks⟩, ⟨false, vs⟩, []⟩ : RecS) x1r x1o (by omega))
  have X2D := Lib.hid (hs2 ▸ rec_back (⟨tm, 0, ⟨false, ks⟩, ⟨false, vs⟩, [(⟨key, ⟨false, []⟩⟩ : HdrS)]⟩ : RecS) x2r x2o (by omega))
  have S1L := Lib.hid (show s1.length ≤ 140737488355328 by have := encR_le (⟨tm, 0, ⟨false, ks⟩, ⟨false, vs⟩, []⟩ : RecS) x1r x1s; rw [hs1] at this; omega)
  have S2L := Lib.hid (show s2.length ≤ 140737488355328 by have := encR_le (⟨tm, 0, ⟨false, ks⟩, ⟨false, vs⟩, [(⟨key, ⟨false, []⟩⟩ : HdrS)]⟩ : RecS) x2r x2s; rw [hs2] at this; omega)
  have KL := Lib.hid (show ks.length ≤ 140737488355328 by omega)
  have VL := Lib.hid (show vs.length ≤ 140737488355328 by omega)
  have KY := Lib.hid (show key.length ≤ 140737488355328 by omega)
  have b1 : verRd 2 way 12 ks = (n, 0) := by rw [hks]; exact verRd_back n 2 way 12 (by decide) (by decide) (fits2 n (by omega)) (by unfold way; rcases hw with rfl | rfl <;> rfl)
  have b2 : verRd 4 time0 11 vs = (m, 0) := by rw [hvs]; exact verRd_back m 4 time0 11 (by decide) (by decide) ((fits4 m).2 (by omega)) (decide_eq_true hv0.1)
  have R1 := Lib.hid (show ctlRead false false ks vs (0 : Nat) 0 = (n, m, 0) by unfold ctlRead; rw [if_neg (by decide), b1, b2]; rfl)
  have R2 := Lib.hid (show ctlRead false false ks vs (1 : Nat) 0 = (0, 0, 12) by unfold ctlRead; rw [if_pos (by decide)])
  obtain ⟨r3, hr3⟩ : ∃ r, ctlRead false false key vs (0 : Nat) 0 = r := ⟨_, rfl⟩
  have R3 := Lib.hid hr3
  have hrb : (r3.2.2 == 0) = true := by
    rw [← hr3, hkey]
    have h0 : verRd 2 way 12 [0, 0, 0, 1] = (1, 0) := by decide +kernel
    unfold ctlRead
    rw [if_neg (by decide), h0, b2]
    rfl
  subst hkey
  clear h h0 hn hm hk hv ht hw hks hv0 hvs kl vl x1r x2r x1s x2s x1o x2o hs1 hs2 b1 b2 hr3 hl
  go_enter Try.func14, Try.ntmps14
  go_wp2
  go_quiet (fail)
  go_wp2_with (first
    | (go_at_call 50; have _t := k1; clear _t; refine (ctl_record_ok 1 7 [0, 0, 0, 1] (verB 7 4) (by decide +kernel) (by decide +kernel) (by decide) (by decide) (H.out.drewN _)).mono ?_; rintro e wn ⟨rfl, h⟩; obtain ⟨wQ, hwQ⟩ : ∃ b, wn.heap.size = b := ⟨_, rfl⟩; have h := h.allocRaw #[.int .i64 0, .int .i64 0, .bool false, .string (bb [0, 0, 0, 1]), .bool false, .string (bb (verB 7 4)), .slice none 0 0] 62; rw [hwQ] at h; replace H := Lib.hid h; clear h; clear k1; have k2 : True := trivial; obtain ⟨qc0, qc1, qc2, qc3, qc4, qc5, qc6, qf0, qf1, qf2, qf3, qf4, qf5, qf6⟩ := raw7 (b := wQ) (H.out))
    | (go_at_call 50; have _t := k2; clear _t; refine (ctl_record_ok n m ks vs EK.out EV.out HN.out HM.out H.out).mono ?_; rintro e wn ⟨rfl, h⟩; have h2 := h.allocRaw #[.int .i64 tm, .int .i64 0, .bool false, .string (bb ks), .bool false, .string (bb vs), .slice none 0 0] 62; obtain ⟨wR, hwR⟩ : ∃ b, wn.heap.size = b := ⟨_, rfl⟩; have h := h.allocRaw #[.int .i64 0, .int .i64 0, .bool false, .string (bb ks), .bool false, .string (bb vs), .slice none 0 0] 62; rw [hwR] at h; replace H := Lib.hid h; clear h; clear k2; have k3 : True := trivial; rw [hwR] at h2; clear H; have H := Lib.hid h2; clear h2; obtain ⟨rc0, rc1, rc2, rc3, rc4, rc5, rc6, rf0, rf1, rf2, rf3, rf4, rf5, rf6⟩ := raw7 (b := wR) (H.out))
    | (go_at_call 36; have _t := k3; clear _t; refine (rec_encodeC tm 0 false false ks vs [] (.slice none 0 0) 0 s1 X1R.out X1S.out X1O.out X1E.out (know_nil0 _ _ _) H.out).mono ?_; rintro e wn ⟨rfl, h⟩; replace H := Lib.hid h; clear h; clear k3; have k4 : True := trivial)
    | (go_at_call 39; have _t := k4; clear _t; refine (rec_decodeC s1 tm 0 false false ks vs [] 0 X1D.out.1 X1D.out.2 S1L.out H.out).mono ?_; rintro e wn ⟨v1, rfl, h⟩; obtain ⟨q1, c1, hv1⟩ := flat_form0 (Know.has_right (Know.has_refl _)) h; subst hv1; obtain ⟨wX, hwX⟩ : ∃ b, wn.heap.size = b := ⟨_, rfl⟩; have h := h.allocRaw #[.int .i64 tm, .int .i64 0, .bool false, .string (bb ks), .bool false, .string (bb vs), .slice q1 0 c1] 62; rw [hwX] at h; replace H := Lib.hid h; clear h; clear k4; have k5 : True := trivial; obtain ⟨xc0, xc1, xc2, xc3, xc4, xc5, xc6, xf0, xf1, xf2, xf3, xf4, xf5, xf6⟩ := raw7 (b := wX) (H.out))
    | (go_at_call 53; have _t := k5; clear _t; refine (ctl_read tm 0 false false ks vs q1 0 c1 (n, m, 0) R1.out KL.out VL.out H.out).mono ?_; rintro e wn ⟨rfl, h⟩; replace H := Lib.hid h; clear h; clear k5; have k6 : True := trivial; obtain ⟨xc0, xc1, xc2, xc3, xc4, xc5, xc6, xf0, xf1, xf2, xf3, xf4, xf5, xf6⟩ := raw7 (b := wX) (H.out); have h3 := H.out.hdrRow [0, 0, 0, 1]; obtain ⟨wB, hwB⟩ : ∃ b, wn.heap.size = b := ⟨_, rfl⟩; rw [hwB] at h3; have H3 := Lib.hid h3; clear h3; obtain ⟨yc0, yc1, yc2, yc3, yc4, yc5, yc6, yf0, yf1, yf2, yf3, yf4, yf5, yf6⟩ := raw7 (b := wX) (H3.out))
    | (go_at_call 36; have _t := k6; clear _t; refine (rec_encodeC tm 0 false false ks vs [(⟨[0, 0, 0, 1], ⟨false, []⟩⟩ : HdrS)] (.slice (some ⟨wB, 0, none⟩) 1 1) 0 s2 X2R.out X2S.out X2O.out X2E.out (Know.has_right (Know.has_refl _)) (H3.out.rawSet 6 _)).mono ?_; rintro e wn ⟨rfl, h⟩; replace H := Lib.hid h; clear h; clear k6; have k7 : True := trivial)
    | (go_at_call 39; have _t := k7; clear _t; refine (rec_decodeC s2 tm 0 false false ks vs [(⟨[0, 0, 0, 1], ⟨false, []⟩⟩ : HdrS)] 0 X2D.out.1 X2D.out.2 S2L.out H.out).mono ?_; rintro e wn ⟨v2, rfl, h⟩; obtain ⟨q2, c2, hv2⟩ := flat_form1 (Know.has_right (Know.has_refl _)) h; subst hv2; obtain ⟨wY, hwY⟩ : ∃ b, wn.heap.size = b := ⟨_, rfl⟩; have h := h.allocRaw #[.int .i64 tm, .int .i64 0, .bool false, .string (bb ks), .bool false, .string (bb vs), .slice q2 1 c2] 62; rw [hwY] at h; replace H := Lib.hid h; clear h; clear k7; have k8 : True := trivial; obtain ⟨zc0, zc1, zc2, zc3, zc4, zc5, zc6, zf0, zf1, zf2, zf3, zf4, zf5, zf6⟩ := raw7 (b := wY) (H.out))
    | (go_at_call 53; have _t := k8; clear _t; refine (ctl_read tm 0 false false ks vs q2 1 c2 (0, 0, 12) R2.out KL.out VL.out H.out).mono ?_; rintro e wn ⟨rfl, h⟩; replace H := Lib.hid h; clear h; clear k8; have k9 : True := trivial; obtain ⟨rc0, rc1, rc2, rc3, rc4, rc5, rc6, rf0, rf1, rf2, rf3, rf4, rf5, rf6⟩ := raw7 (b := wR) (H.out.p2))
    | (go_at_call 53; have _t := k9; clear _t; refine (ctl_read tm 0 false false [0, 0, 0, 1] vs none 0 0 r3 R3.out KY.out VL.out (H.out.p2.rawSet 3 _)).mono ?_; rintro e wn ⟨rfl, h⟩; replace H := Lib.hid h; clear h; clear k9; have k10 : True := trivial))
  go_ret
  exact ⟨rfl, H.out.below⟩

set_option maxHeartbeats 1000000 in
set_option maxRecDepth 100000 in
theorem wholeEnds_x (n m tm : Int) (key : Bs) (hn : -9223372036854775808 ≤ n ∧ n < 9223372036854775808) (hm : -9223372036854775808 ≤ m ∧ m < 9223372036854775808) (ks vs : Bs) (hk : ctlKey n = (ks, 0)) (hv : ctlVal m = (vs, 0)) (ht : -9223372036854775808 ≤ tm ∧ tm < 9223372036854775808) (hl : key.length ≤ 200) (hk0 : ¬ key = [0, 0, 0, 0]) (hk1 : ¬ key = [0, 0, 0, 1]) {W0 w : World} (h : St W0 w Know.none []) :
    Calls Try.prog 14 #[.agg #[.int .i64 n, .int .i64 m], .int .i64 tm, .string (bb key)] w fun en w' => en = .returned (.bool true) ∧ Below W0.heap.size W0 w' := by
  obtain ⟨wP, hwP⟩ : ∃ b, w.heap.size = b := ⟨_, rfl⟩
  have h0 := h.allocRaw #[.int .i64 n, .int .i64 m] 87
  rw [hwP] at h0
  have pc0 : _ = some (Value.int .i64 n) := h0.rawCell 0
  have pc1 : _ = some (Value.int .i64 m) := h0.rawCell 1
  have H := Lib.hid h0
  have HN := Lib.hid hn
  have HM := Lib.hid hm
  have k1 : True := trivial
  obtain ⟨hw, hks⟩ := ctlKey_of hk
  obtain ⟨hv0, hvs⟩ := ctlVal_of hv
  have kl : ks.length = 4 := by rw [hks, verB_len]
  have vl : vs.length = 6 := by rw [hvs, verB_len]
  have EK := Lib.hid hk
  have EV := Lib.hid hv
  have hlb : decide ((200 : Int) < (key.length : Int)) = false := decide_eq_false (by omega)
  have x1r : (⟨tm, 0, ⟨false, ks⟩, ⟨false, vs⟩, []⟩ : RecS).R := ⟨ht, by simp only; decide⟩
  have x2r : (⟨tm, 0, ⟨false, ks⟩, ⟨false, vs⟩, [(⟨key, ⟨false, []⟩⟩ : HdrS)]⟩ : RecS).R := ⟨ht, by simp only; decide⟩
  have x1s : (⟨tm, 0, ⟨false, ks⟩, ⟨false, vs⟩, []⟩ : RecS).sum ≤ 3000 := by unfold RecS.sum; simp [hsum]; omega
  have x2s : (⟨tm, 0, ⟨false, ks⟩, ⟨false, vs⟩, [(⟨key, ⟨false, []⟩⟩ : HdrS)]⟩ : RecS).sum ≤ 3000 := by unfold RecS.sum; simp [hsum]; omega
  have x1o : recOk (⟨tm, 0, ⟨false, ks⟩, ⟨false, vs⟩, []⟩ : RecS) = 0 := rfl
  have x2o : recOk (⟨tm, 0, ⟨false, ks⟩, ⟨false, vs⟩, [(⟨key, ⟨false, []⟩⟩ : HdrS)]⟩ : RecS) = 0 := rfl
  obtain ⟨s1, hs1⟩ : ∃ s, encR (⟨tm, 0, ⟨false, ks⟩, ⟨false, vs⟩, []⟩ : RecS) = s := ⟨_, rfl⟩
  obtain ⟨s2, hs2⟩ : ∃ s, encR (⟨tm, 0, ⟨false, ks⟩, ⟨false, vs⟩, [(⟨key, ⟨false, []⟩⟩ : HdrS)]⟩ : RecS) = s := ⟨_, rfl⟩
  have X1R := Lib.hid x1r
  have X2R := Lib.hid x2r
  have X1S := Lib.hid (show (⟨tm, 0, ⟨false, ks⟩, ⟨false, vs⟩, []⟩ : RecS).sum ≤ 1000000 by omega)
  have X2S := Lib.hid (show (⟨tm, 0, ⟨false, ks⟩, ⟨false, vs⟩, [(⟨key, ⟨false, []⟩⟩ : HdrS)]⟩ : RecS).sum ≤ 1000000 by omega)
  have X1O := Lib.hid x1o
  have X2O := Lib.hid x2o
  have X1E := Lib.hid (show encOk (⟨tm, 0, ⟨false, ks⟩, ⟨false, vs⟩, []⟩ : RecS) = s1 by unfold encOk; rw [if_pos x1o, hs1])
  have X2E := Lib.hid (show encOk (⟨tm, 0, ⟨false, ks⟩, ⟨false, vs⟩, [(⟨key, ⟨false, []⟩⟩ : HdrS)]⟩ : RecS) = s2 by unfold encOk; rw [if_pos x2o, hs2])
  have X1D := Lib.hid (hs1 ▸ rec_back (⟨tm, 0, ⟨false, ks⟩, ⟨false, vs⟩, []⟩ : RecS) x1r x1o (by omega))
  have X2D := Lib.hid (hs2 ▸ rec_back (⟨tm, 0, ⟨false, ks⟩, ⟨false, vs⟩, [(⟨key, ⟨false, []⟩⟩ : HdrS)]⟩ : RecS) x2r x2o (by omega))
  have S1L := Lib.hid (show s1.length ≤ 140737488355328 by have := encR_le (⟨tm, 0, ⟨false, ks⟩, ⟨false, vs⟩, []⟩ : RecS) x1r x1s; rw [hs1] at this; omega)
  have S2L := Lib.hid (show s2.length ≤ 140737488355328 by have := encR_le (⟨tm, 0, ⟨false, ks⟩, ⟨false, vs⟩, [(⟨key, ⟨false, []⟩⟩ : HdrS)]⟩ : RecS) x2r x2s; rw [hs2] at this; omega)
  have KL := Lib.hid (show ks.length ≤ 140737488355328 by omega)
  have VL := Lib.hid (show vs.length ≤ 140737488355328 by omega)
  have KY := Lib.hid (show key.length ≤ 140737488355328 by omega)
  have b1 : verRd 2 way 12 ks = (n, 0) := by rw [hks]; exact verRd_back n 2 way 12 (by decide) (by decide) (fits2 n (by omega)) (by unfold way; rcases hw with rfl | rfl <;> rfl)
  have b2 : verRd 4 time0 11 vs = (m, 0) := by rw [hvs]; exact verRd_back m 4 time0 11 (by decide) (by decide) ((fits4 m).2 (by omega)) (decide_eq_true hv0.1)
  have R1 := Lib.hid (show ctlRead false false ks vs (0 : Nat) 0 = (n, m, 0) by unfold ctlRead; rw [if_neg (by decide), b1, b2]; rfl)
  have R2 := Lib.hid (show ctlRead false false ks vs (1 : Nat) 0 = (0, 0, 12) by unfold ctlRead; rw [if_pos (by decide)])
  obtain ⟨r3, hr3⟩ : ∃ r, ctlRead false false key vs (0 : Nat) 0 = r := ⟨_, rfl⟩
  have R3 := Lib.hid hr3
  have hrb : (r3.2.2 == 0) = false := by
    rw [← hr3]
    have h0 : (verRd 2 way 12 key).2 ≠ 0 := fun h0 => by rcases verRd2_ok h0 with h1 | h1; exact hk0 h1; exact hk1 h1
    unfold ctlRead
    rw [if_neg (by decide), if_pos h0]
    simpa using h0
  have hq0 : (key == [0, 0, 0, 0]) = false := by simpa using hk0
  have hq1 : (key == [0, 0, 0, 1]) = false := by simpa using hk1
  clear h h0 hn hm hk hv ht hw hks hv0 hvs kl vl x1r x2r x1s x2s x1o x2o hs1 hs2 b1 b2 hr3 hl
  go_enter Try.func14, Try.ntmps14
  go_wp2
  go_quiet (fail)
  go_wp2_with (first
    | (go_at_call 50; have _t := k1; clear _t; refine (ctl_record_ok 1 7 [0, 0, 0, 1] (verB 7 4) (by decide +kernel) (by decide +kernel) (by decide) (by decide) (H.out.drewN _)).mono ?_; rintro e wn ⟨rfl, h⟩; obtain ⟨wQ, hwQ⟩ : ∃ b, wn.heap.size = b := ⟨_, rfl⟩; have h := h.allocRaw #[.int .i64 0, .int .i64 0, .bool false, .string (bb [0, 0, 0, 1]), .bool false, .string (bb (verB 7 4)), .slice none 0 0] 62; rw [hwQ] at h; replace H := Lib.hid h; clear h; clear k1; have k2 : True := trivial; obtain ⟨qc0, qc1, qc2, qc3, qc4, qc5, qc6, qf0, qf1, qf2, qf3, qf4, qf5, qf6⟩ := raw7 (b := wQ) (H.out))
    | (go_at_call 50; have _t := k2; clear _t; refine (ctl_record_ok n m ks vs EK.out EV.out HN.out HM.out H.out).mono ?_; rintro e wn ⟨rfl, h⟩; have h2 := h.allocRaw #[.int .i64 tm, .int .i64 0, .bool false, .string (bb ks), .bool false, .string (bb vs), .slice none 0 0] 62; obtain ⟨wR, hwR⟩ : ∃ b, wn.heap.size = b := ⟨_, rfl⟩; have h := h.allocRaw #[.int .i64 0, .int .i64 0, .bool false, .string (bb ks), .bool false, .string (bb vs), .slice none 0 0] 62; rw [hwR] at h; replace H := Lib.hid h; clear h; clear k2; have k3 : True := trivial; rw [hwR] at h2; clear H; have H := Lib.hid h2; clear h2; obtain ⟨rc0, rc1, rc2, rc3, rc4, rc5, rc6, rf0, rf1, rf2, rf3, rf4, rf5, rf6⟩ := raw7 (b := wR) (H.out))
    | (go_at_call 36; have _t := k3; clear _t; refine (rec_encodeC tm 0 false false ks vs [] (.slice none 0 0) 0 s1 X1R.out X1S.out X1O.out X1E.out (know_nil0 _ _ _) H.out).mono ?_; rintro e wn ⟨rfl, h⟩; replace H := Lib.hid h; clear h; clear k3; have k4 : True := trivial)
    | (go_at_call 39; have _t := k4; clear _t; refine (rec_decodeC s1 tm 0 false false ks vs [] 0 X1D.out.1 X1D.out.2 S1L.out H.out).mono ?_; rintro e wn ⟨v1, rfl, h⟩; obtain ⟨q1, c1, hv1⟩ := flat_form0 (Know.has_right (Know.has_refl _)) h; subst hv1; obtain ⟨wX, hwX⟩ : ∃ b, wn.heap.size = b := ⟨_, rfl⟩; have h := h.allocRaw #[.int .i64 tm, .int .i64 0, .bool false, .string (bb ks), .bool false, .string (bb vs), .slice q1 0 c1] 62; rw [hwX] at h; replace H := Lib.hid h; clear h; clear k4; have k5 : True := trivial; obtain ⟨xc0, xc1, xc2, xc3, xc4, xc5, xc6, xf0, xf1, xf2, xf3, xf4, xf5, xf6⟩ := raw7 (b := wX) (H.out))
    | (go_at_call 53; have _t := k5; clear _t; refine (ctl_read tm 0 false false ks vs q1 0 c1 (n, m, 0) R1.out KL.out VL.out H.out).mono ?_; rintro e wn ⟨rfl, h⟩; replace H := Lib.hid h; clear h; clear k5; have k6 : True := trivial; obtain ⟨xc0, xc1, xc2, xc3, xc4, xc5, xc6, xf0, xf1, xf2, xf3, xf4, xf5, xf6⟩ := raw7 (b := wX) (H.out); have h3 := H.out.hdrRow key; obtain ⟨wB, hwB⟩ : ∃ b, wn.heap.size = b := ⟨_, rfl⟩; rw [hwB] at h3; have H3 := Lib.hid h3; clear h3; obtain ⟨yc0, yc1, yc2, yc3, yc4, yc5, yc6, yf0, yf1, yf2, yf3, yf4, yf5, yf6⟩ := raw7 (b := wX) (H3.out))
    | (go_at_call 36; have _t := k6; clear _t; refine (rec_encodeC tm 0 false false ks vs [(⟨key, ⟨false, []⟩⟩ : HdrS)] (.slice (some ⟨wB, 0, none⟩) 1 1) 0 s2 X2R.out X2S.out X2O.out X2E.out (Know.has_right (Know.has_refl _)) (H3.out.rawSet 6 _)).mono ?_; rintro e wn ⟨rfl, h⟩; replace H := Lib.hid h; clear h; clear k6; have k7 : True := trivial)
    | (go_at_call 39; have _t := k7; clear _t; refine (rec_decodeC s2 tm 0 false false ks vs [(⟨key, ⟨false, []⟩⟩ : HdrS)] 0 X2D.out.1 X2D.out.2 S2L.out H.out).mono ?_; rintro e wn ⟨v2, rfl, h⟩; obtain ⟨q2, c2, hv2⟩ := flat_form1 (Know.has_right (Know.has_refl _)) h; subst hv2; obtain ⟨wY, hwY⟩ : ∃ b, wn.heap.size = b := ⟨_, rfl⟩; have h := h.allocRaw #[.int .i64 tm, .int .i64 0, .bool false, .string (bb ks), .bool false, .string (bb vs), .slice q2 1 c2] 62; rw [hwY] at h; replace H := Lib.hid h; clear h; clear k7; have k8 : True := trivial; obtain ⟨zc0, zc1, zc2, zc3, zc4, zc5, zc6, zf0, zf1, zf2, zf3, zf4, zf5, zf6⟩ := raw7 (b := wY) (H.out))
    | (go_at_call 53; have _t := k8; clear _t; refine (ctl_read tm 0 false false ks vs q2 1 c2 (0, 0, 12) R2.out KL.out VL.out H.out).mono ?_; rintro e wn ⟨rfl, h⟩; replace H := Lib.hid h; clear h; clear k8; have k9 : True := trivial; obtain ⟨rc0, rc1, rc2, rc3, rc4, rc5, rc6, rf0, rf1, rf2, rf3, rf4, rf5, rf6⟩ := raw7 (b := wR) (H.out.p2))
    | (go_at_call 53; have _t := k9; clear _t; refine (ctl_read tm 0 false false key vs none 0 0 r3 R3.out KY.out VL.out (H.out.p2.rawSet 3 _)).mono ?_; rintro e wn ⟨rfl, h⟩; replace H := Lib.hid h; clear h; clear k9; have k10 : True := trivial))
  go_ret
  exact ⟨rfl, H.out.below⟩

theorem wholeEnds_any (n m tm : Int) (key : Bs) (w : World) (hn : -9223372036854775808 ≤ n ∧ n < 9223372036854775808) (hm : -9223372036854775808 ≤ m ∧ m < 9223372036854775808) (ht : -9223372036854775808 ≤ tm ∧ tm < 9223372036854775808) (_ : key.length ≤ maxLen) :
    Calls Try.prog 14 #[.agg #[.int .i64 n, .int .i64 m], .int .i64 tm, .string (bb key)] w fun en w' => en = .returned (.bool true) ∧ Below w.heap.size w w' := by
  have h : St w w Know.none [] := St.start trivial
  by_cases hw : n = 0 ∨ n = 1
  · have hk : ctlKey n = (verB n 2, 0) := if_pos hw
    by_cases hv : 0 ≤ m ∧ m < 2147483648
    · have hv : ctlVal m = (verB m 4, 0) := if_pos hv
      by_cases hl : 200 < key.length
      · exact wholeEnds_long n m tm key hn hm _ _ hk hv hl h
      by_cases h0 : key = [0, 0, 0, 0]
      · exact wholeEnds_0 n m tm key hn hm _ _ hk hv ht h0 h
      by_cases h1 : key = [0, 0, 0, 1]
      · exact wholeEnds_1 n m tm key hn hm _ _ hk hv ht h1 h
      exact wholeEnds_x n m tm key hn hm _ _ hk hv ht (by omega) h0 h1 h
    · exact wholeEnds_time n m tm key hn hm _ 11 hk (if_neg hv) (by decide) h
  · exact wholeEnds_kind n m tm key hn hm 12 (if_neg hw) (by decide) h

end Go.Proofs.Ytkenneeejdngaaa
