/- A text. -/
import Derived.Test.YtngojlinfdokpaaGreatGScanFeeds5
import Derived.Test.YtngojlinfdokpaaGreatGScanFeeds4
import Derived.Test.YtngojlinfdokpaaGreatGScanFeeds2
import Derived.Test.YtngojlinfdokpaaGreatGScanFeeds3
/- A text. -/
namespace Go.Proofs.YtngojlinfdokpaaGreat
open Go.RowKit

theorem ri_attr {s : Bs} {a : Int} (h0 : getIntN 1 s = .ok (a, 1)) (ha : a ≠ 0) : reInner s = .error 8 := by unfold reInner; rw [h0]; simp only; rw [if_neg ha]
theorem ri_time {s : Bs} {e : Int} (h0 : getIntN 1 s = .ok (0, 1)) (h1 : vgetL (s.drop 1) = .error e) : reInner s = .error e := by unfold reInner; rw [h0]; simp only [if_true]; rw [h1]
theorem ri_off {s : Bs} {e t : Int} {k : Nat} (h0 : getIntN 1 s = .ok (0, 1)) (h1 : vgetL (s.drop 1) = .ok (t, k)) (h2 : vgetI (s.drop (1 + k)) = .error e) : reInner s = .error e := by
 unfold reInner; rw [h0]; simp only [if_true]; rw [h1]; simp only; rw [h2]
theorem ri_neg {s : Bs} {t o : Int} {k m : Nat} (h0 : getIntN 1 s = .ok (0, 1)) (h1 : vgetL (s.drop 1) = .ok (t, k)) (h2 : vgetI (s.drop (1 + k)) = .ok (o, m)) (ho : o < 0) : reInner s = .error 11 := by
 unfold reInner; rw [h0]; simp only [if_true]; rw [h1]; simp only; rw [h2]; simp only; rw [if_pos ho]
theorem ri_rest {s : Bs} {t o : Int} {k m : Nat} (h0 : getIntN 1 s = .ok (0, 1)) (h1 : vgetL (s.drop 1) = .ok (t, k)) (h2 : vgetI (s.drop (1 + k)) = .ok (o, m)) (ho : ¬ o < 0) : reInner s =
    match revaried (s.drop (1 + k + m)) with
          | .error e => .error e
          | .ok kk => match revaried (s.drop (1 + k + m + kk.2)) with
            | .error e => .error e
            | .ok v => match reHdrs (s.drop (1 + k + m + kk.2 + v.2)) with
              | .error e => .error e
              | .ok h => if 1 + k + m + kk.2 + v.2 + h.2 = s.length then .ok ⟨t, o, kk.1, v.1, h.1⟩ else .error 2 := by
  unfold reInner; rw [h0]; simp only [if_true]; rw [h1]; simp only; rw [h2]; simp only; rw [if_neg ho]
  rfl
def Post9 (r : Except Int RecS) (K : Know) (W0 : World) (L : List Res) (en : Ending) (w' : World) : Prop := match r with
  | .ok x => ∃ v, en = .returned (.agg #[.int .i64 x.time, .int .i64 x.off, .bool x.key.null, .string (bb x.key.data), .bool x.val.null, .string (bb x.val.data), v, .int .i64 0, .int .i64 0]) ∧ St W0 w' (K.and (Know.flat RHdr v 3 x.hdrs)) L
  | .error e => en = .returned (.agg #[.int .i64 0, .int .i64 0, .bool false, .string ⟨#[]⟩, .bool false, .string ⟨#[]⟩, .slice none 0 0, .int .i64 0, .int .i64 e]) ∧ St W0 w' K L
theorem vgetF_lt {top most : Nat} {l : Bs} {u k : Nat} (ht : top < 128) (hm : top = 1 ∧ most = 10 ∨ top = 15 ∧ most = 5) (h : vgetF top most 0 0 l = .ok (u, k)) : u < 18446744073709551616 := by
 rcases hm with ⟨rfl, rfl⟩ | ⟨rfl, rfl⟩
 · have h1 : vgetL l = .ok (backN u, k) := by unfold vgetL; rw [h]
   obtain ⟨_, _, _, g4, g5⟩ := vgetL_one h1
   unfold backN at g4 g5
   omega
 · have h1 : vgetI l = .ok (backN u, k) := by unfold vgetI; rw [h]
   obtain ⟨_, _, _, g4, g5⟩ := vgetI_one h1
   unfold backN at g4 g5
   omega
theorem vgetF_nz {top most : Nat} {l : Bs} {e : Int} (h : vgetF top most 0 0 l = .error e) : (e != 0) = true := bne_iff_ne.2 (digs_err top most 0 0 l 0 e (Nat.zero_le _) (by rw [List.drop_zero]; exact h)).1
theorem reHdrs_nz {l : Bs} {e : Int} (h : reHdrs l = .error e) : (e != 0) = true := bne_iff_ne.2 (rds_hdrs.err l 0 e (Nat.zero_le _) (by rw [List.drop_zero]; exact h)).1

theorem ref07_inner (s : Bs) (hs : s.length ≤ 1000000) {W0 w : World} {K : Know} {L : List Res} (h : St W0 w K L) :
  Calls Tryz.prog 69 #[.string (bb s)] w (Post9 (reInner s) K W0 L) := by
 cases s with
 | nil => exact (ref07_inner_none h).mono fun en w' hh => hh
 | cons c t =>
  have hl1 : 0 < (c :: t).length := by simp
  have hlen : (c :: t).length = t.length + 1 := rfl
  have h0 : getIntN 1 (c :: t) = .ok (sByte c, 1) := by
    unfold getIntN
    rw [if_neg (by simp)]
    rfl
  have hlt : t.length ≤ 1000000 := by omega
  by_cases hc : c = 0
  · subst hc
    have h0 : getIntN 1 (0 :: t) = .ok (0, 1) := h0
    obtain ⟨s, hsd⟩ : ∃ s : Bs, s = 0 :: t := ⟨_, rfl⟩
    cases hv1 : vgetF 1 10 0 0 t with
    | error e =>
     have hr := ri_time h0 (show vgetL ((0 :: t : Bs).drop 1) = .error e by unfold vgetL; show (match vgetF 1 10 0 0 t with | .ok x => _ | .error e => _) = _; rw [hv1])
     rw [hr]
     exact ref07_inner_time t e hv1 (vgetF_nz hv1) (by omega) h
    | ok x1 =>
     obtain ⟨u, k⟩ := x1
     have g1 : vgetL ((0 :: t : Bs).drop 1) = .ok (backN u, k) := by unfold vgetL; show (match vgetF 1 10 0 0 t with | .ok x => _ | .error e => _) = _; rw [hv1]
     obtain ⟨_, _, hk0⟩ := putU_of_vget (by decide) hv1
     have hu := vgetF_lt (by decide) (.inl ⟨rfl, rfl⟩) hv1
     have hk : 1 + k ≤ (0 :: t : Bs).length := by simp only [List.length_cons]; omega
     obtain ⟨s2, q2⟩ : ∃ s2, (0 :: t : Bs).drop (1 + k) = s2 := ⟨_, rfl⟩
     cases hv2 : vgetF 15 5 0 0 s2 with
     | error e =>
      rw [ri_off h0 g1 (show vgetI ((0 :: t : Bs).drop (1 + k)) = .error e by rw [q2]; unfold vgetI; rw [hv2])]
      exact ref07_inner_off (0 :: t) t u k hl1 rfl rfl hv1 hu hs s2 hk q2 e hv2 (vgetF_nz hv2) h
     | ok x2 =>
      obtain ⟨v, m⟩ := x2
      have g2 : vgetI ((0 :: t : Bs).drop (1 + k)) = .ok (backN v, m) := by rw [q2]; unfold vgetI; rw [hv2]
      obtain ⟨_, _, hm⟩ := putU_of_vget (by decide) hv2
      have hvv := vgetF_lt (by decide) (.inr ⟨rfl, rfl⟩) hv2
      by_cases ho : backN v < 0
      · rw [ri_neg h0 g1 g2 ho]
        exact ref07_inner_neg (0 :: t) t u k hl1 rfl rfl hv1 hu hs s2 hk q2 v m _ _ hv2 rfl rfl hvv ho h
      rw [ri_rest h0 g1 g2 ho]
      have ho : 0 ≤ backN v := by omega
      obtain ⟨s3, q3⟩ : ∃ s3, s2.drop m = s3 := ⟨_, rfl⟩
      have e3 : (0 :: t : Bs).drop (1 + k + m) = s3 := by rw [← q3, ← q2, List.drop_drop]
      rw [e3]
      cases hg1 : revaried s3 with
      | error e => exact ref07_inner_key (0 :: t) t u k hl1 rfl rfl hv1 hu hs s2 hk q2 v m _ _ hv2 rfl rfl hvv s3 hm q3 ho e hg1 (bne_iff_ne.2 (revaried_nz hg1)) h
      | ok x3 =>
        obtain ⟨kb, ka⟩ := x3
        obtain ⟨_, _, hka, _⟩ := revaried_one hg1
        obtain ⟨s4, q4⟩ : ∃ s4, s3.drop ka = s4 := ⟨_, rfl⟩
        have e4 : (0 :: t : Bs).drop (1 + k + m + ka) = s4 := by rw [← q4, ← e3, List.drop_drop]
        simp only
        rw [e4]
        cases hg2 : revaried s4 with
        | error e => exact ref07_inner_val (0 :: t) t u k hl1 rfl rfl hv1 hu hs s2 hk q2 v m _ _ hv2 rfl rfl hvv s3 hm q3 ho s4 kb ka hka q4 hg1 e hg2 (bne_iff_ne.2 (revaried_nz hg2)) h
        | ok x4 =>
         obtain ⟨vb, va⟩ := x4
         obtain ⟨_, _, hva, _⟩ := revaried_one hg2
         obtain ⟨s5, q5⟩ : ∃ s5, s4.drop va = s5 := ⟨_, rfl⟩
         have e5 : (0 :: t : Bs).drop (1 + k + m + ka + va) = s5 := by rw [← q5, ← e4, List.drop_drop]
         simp only
         rw [e5]
         cases hh : reHdrs s5 with
         | error e => exact ref07_inner_hdr (0 :: t) t u k hl1 rfl rfl hv1 hu hs s2 hk q2 v m _ _ hv2 rfl rfl hvv s3 hm q3 ho s4 kb ka hka q4 hg1 s5 vb va hva q5 hg2 e hh (reHdrs_nz hh) h
         | ok x5 =>
          obtain ⟨l, ha⟩ := x5
          obtain ⟨_, _, hla, _⟩ := reHdrs_one hh
          simp only
          have l2 : s2.length + k + 1 = (0 :: t : Bs).length := by rw [← q2, List.length_drop]; omega
          have l3 : s3.length + m = s2.length := by rw [← q3, List.length_drop]; omega
          have l4 : s4.length + ka = s3.length := by rw [← q4, List.length_drop]; omega
          have l5 : s5.length + va = s4.length := by rw [← q5, List.length_drop]; omega
          by_cases hfin : 1 + k + m + ka + va + ha = (0 :: t : Bs).length
          · rw [if_pos hfin]
            exact ref07_inner_ok (0 :: t) t u k hl1 rfl rfl hv1 hu hs s2 hk q2 v m _ _ hv2 rfl rfl hvv s3 hm q3 ho s4 kb ka hka q4 hg1 s5 vb va hva q5 hg2 l ha hh (by omega) h
          · rw [if_neg hfin]
            exact ref07_inner_long (0 :: t) t u k hl1 rfl rfl hv1 hu hs s2 hk q2 v m _ _ hv2 rfl rfl hvv s3 hm q3 ho s4 kb ka hka q4 hg1 s5 vb va hva q5 hg2 l ha hh (by omega) hla h
  · rw [ri_attr h0 (by
     have hn := c.toNat_lt
     have hc2 : c.toNat ≠ 0 := fun hh => hc (UInt8.toNat_inj.1 hh)
     unfold sByte
     split <;> omega)]
    exact ref07_inner_attr c t hc (by omega) h
theorem ref07_innerO (s : Bs) (x : RecS) (hi : reInner s = .ok x) (hs : s.length ≤ 1000000) {W0 w : World} {K : Know} {L : List Res} (h : St W0 w K L) :
  Calls Tryz.prog 69 #[.string (bb s)] w fun en w' => ∃ v, en = .returned (.agg #[.int .i64 x.time, .int .i64 x.off, .bool x.key.null, .string (bb x.key.data), .bool x.val.null, .string (bb x.val.data), v, .int .i64 0, .int .i64 0]) ∧ St W0 w' (K.and (Know.flat RHdr v 3 x.hdrs)) L :=
 (ref07_inner s hs h).mono fun en w' hh => by unfold Post9 at hh; rw [hi] at hh; exact hh
theorem ref07_innerE (s : Bs) (e : Int) (hi : reInner s = .error e) (hs : s.length ≤ 1000000) {W0 w : World} {K : Know} {L : List Res} (h : St W0 w K L) :
  Calls Tryz.prog 69 #[.string (bb s)] w fun en w' => en = .returned (.agg #[.int .i64 0, .int .i64 0, .bool false, .string ⟨#[]⟩, .bool false, .string ⟨#[]⟩, .slice none 0 0, .int .i64 0, .int .i64 e]) ∧ St W0 w' K L :=
 (ref07_inner s hs h).mono fun en w' hh => by unfold Post9 at hh; rw [hi] at hh; exact hh

set_option maxHeartbeats 1000000 in
set_option maxRecDepth 100000 in
theorem ref07_read_ok (s d : Bs) (m : Nat) (x : RecS) (hr : revaried s = .ok (⟨false, d⟩, m)) (hi : reInner d = .ok x) (hd : d.length ≤ 1000000) (hs : s.length ≤ 140737488355328) {W0 w : World} {K : Know} {L : List Res} (h : St W0 w K L) :
  Calls Tryz.prog 38 #[.string (bb s)] w fun en w' => ∃ v, en = .returned (.agg #[.int .i64 x.time, .int .i64 x.off, .bool x.key.null, .string (bb x.key.data), .bool x.val.null, .string (bb x.val.data), v, .int .i64 m, .int .i64 0]) ∧ St W0 w' (K.and (Know.flat RHdr v 3 x.hdrs)) L := by
 have h0 := h.allocRaw #[.int .i64 0, .int .i64 0, .bool false, .string ⟨#[]⟩, .bool false, .string ⟨#[]⟩, .slice none 0 0, .int .i64 0, .int .i64 0] 89
 obtain ⟨wA, hwA⟩ : ∃ b, w.heap.size = b := ⟨_, rfl⟩
 rw [hwA] at h0
 have H := Lib.hid h0
 have HS := Lib.hid hs
 have HD := Lib.hid hd
 have HI := Lib.hid hi
 have HG := Lib.hid (show gotV (revaried s) = .agg #[.bool false, .string (bb d), .int .i64 m, .int .i64 0] by rw [hr]; rfl)
 clear h h0 hs hr hd hi
 go_enter Tryz.func38, Tryz.ntmps38
 go_wp2_with (first
  | (go_at_call 67; refine (ref04_readVariedT s s _ rfl HS.out HG.out H.out).mono ?_; rintro e wn ⟨rfl, h⟩; obtain ⟨wB, hwB⟩ : ∃ b, wn.heap.size = b := ⟨_, rfl⟩; have h := h.allocRaw #[.bool false, .string (bb d), .int .i64 m, .int .i64 0] 121; rw [hwB] at h; replace H := Lib.hid h; clear h; obtain ⟨q0, q1, q2, q3⟩ := raw_all4r (b := wB) (H.out))
  | (go_at_call 69; refine (ref07_innerO d x HI.out HD.out H.out).mono ?_; rintro e wn ⟨vh, rfl, h⟩; obtain ⟨qh, caph, hvh⟩ := flat_form (Know.has_right (Know.has_refl _)) h; subst hvh; have h2 := h.allocRaw #[.int .i64 x.time, .int .i64 x.off, .bool x.key.null, .string (bb x.key.data), .bool x.val.null, .string (bb x.val.data), (.slice qh x.hdrs.length caph), .int .i64 m, .int .i64 0] 89; obtain ⟨wX, hwX⟩ : ∃ b, wn.heap.size = b := ⟨_, rfl⟩; have h := h.allocRaw #[.int .i64 x.time, .int .i64 x.off, .bool x.key.null, .string (bb x.key.data), .bool x.val.null, .string (bb x.val.data), (.slice qh x.hdrs.length caph), .int .i64 0, .int .i64 0] 89; rw [hwX] at h; replace H := Lib.hid h; clear h; rw [hwX] at h2; have H2 := Lib.hid h2; clear h2; obtain ⟨xc0, xc1, xc2, xc3, xc4, xc5, xc6, xc7, xc8, xf0, xf1, xf2, xf3, xf4, xf5, xf6, xf7, xf8⟩ := raw9 (b := wX) (H.out); obtain ⟨ac0, ac1, ac2, ac3, ac4, ac5, ac6, ac7, ac8, af0, af1, af2, af3, af4, af5, af6, af7, af8⟩ := raw9 (b := wA) (H2.out.p2); obtain ⟨q0, q1, q2, q3⟩ := raw_all4r (b := wB) (H.out.p1); have n1 : ¬ (wX = wA) := H.out.p1.drop.raw_ne; have m1 : ¬ (wA = wX) := fun e => n1 e.symm; have n2 : ¬ (wX = wB) := H.out.raw_ne; have m2 : ¬ (wB = wX) := fun e => n2 e.symm))
 refine bodyPost_ret (v := .agg #[.int .i64 x.time, .int .i64 x.off, .bool x.key.null, .string (bb x.key.data), .bool x.val.null, .string (bb x.val.data), (.slice qh x.hdrs.length caph), .int .i64 m, .int .i64 0]) (by simp [results, Tryz.results38, go_sem, ac0, ac1, ac2, ac3, ac4, ac5, ac6, ac7, ac8]) rfl ⟨.slice qh x.hdrs.length caph, rfl, ((((((((((H2.out.p2).rawSet 0 _).rawSet 1 _).rawSet 2 _).rawSet 3 _).rawSet 4 _).rawSet 5 _).rawSet 6 _).rawSet 7 _).rawSet 8 _).drop.drop.drop⟩

set_option maxHeartbeats 1000000 in
set_option maxRecDepth 100000 in
theorem ref07_read_in (s d : Bs) (m : Nat) (e : Int) (hr : revaried s = .ok (⟨false, d⟩, m)) (hi : reInner d = .error e) (hd : d.length ≤ 1000000) (hs : s.length ≤ 140737488355328) {W0 w : World} {K : Know} {L : List Res} (h : St W0 w K L) :
  Calls Tryz.prog 38 #[.string (bb s)] w fun en w' => en = .returned (.agg #[.int .i64 0, .int .i64 0, .bool false, .string ⟨#[]⟩, .bool false, .string ⟨#[]⟩, .slice none 0 0, .int .i64 m, .int .i64 e]) ∧ St W0 w' K L := by
 have h0 := h.allocRaw #[.int .i64 0, .int .i64 0, .bool false, .string ⟨#[]⟩, .bool false, .string ⟨#[]⟩, .slice none 0 0, .int .i64 0, .int .i64 0] 89
 obtain ⟨wA, hwA⟩ : ∃ b, w.heap.size = b := ⟨_, rfl⟩
 rw [hwA] at h0
 have H := Lib.hid h0
 have HS := Lib.hid hs
 have HD := Lib.hid hd
 have HI := Lib.hid hi
 have HG := Lib.hid (show gotV (revaried s) = .agg #[.bool false, .string (bb d), .int .i64 m, .int .i64 0] by rw [hr]; rfl)
 clear h h0 hs hr hd hi
 go_enter Tryz.func38, Tryz.ntmps38
 go_wp2_with (first
  | (go_at_call 67; refine (ref04_readVariedT s s _ rfl HS.out HG.out H.out).mono ?_; rintro e wn ⟨rfl, h⟩; obtain ⟨wB, hwB⟩ : ∃ b, wn.heap.size = b := ⟨_, rfl⟩; have h := h.allocRaw #[.bool false, .string (bb d), .int .i64 m, .int .i64 0] 121; rw [hwB] at h; replace H := Lib.hid h; clear h; obtain ⟨q0, q1, q2, q3⟩ := raw_all4r (b := wB) (H.out))
  | (go_at_call 69; refine (ref07_innerE d e HI.out HD.out H.out).mono ?_; rintro e wn ⟨rfl, h⟩; have h2 := h.allocRaw #[.int .i64 0, .int .i64 0, .bool false, .string ⟨#[]⟩, .bool false, .string ⟨#[]⟩, .slice none 0 0, .int .i64 m, .int .i64 e] 89; obtain ⟨wX, hwX⟩ : ∃ b, wn.heap.size = b := ⟨_, rfl⟩; have h := h.allocRaw #[.int .i64 0, .int .i64 0, .bool false, .string ⟨#[]⟩, .bool false, .string ⟨#[]⟩, .slice none 0 0, .int .i64 0, .int .i64 e] 89; rw [hwX] at h; replace H := Lib.hid h; clear h; rw [hwX] at h2; have H2 := Lib.hid h2; clear h2; obtain ⟨xc0, xc1, xc2, xc3, xc4, xc5, xc6, xc7, xc8, xf0, xf1, xf2, xf3, xf4, xf5, xf6, xf7, xf8⟩ := raw9 (b := wX) (H.out); obtain ⟨ac0, ac1, ac2, ac3, ac4, ac5, ac6, ac7, ac8, af0, af1, af2, af3, af4, af5, af6, af7, af8⟩ := raw9 (b := wA) (H2.out.p2); obtain ⟨q0, q1, q2, q3⟩ := raw_all4r (b := wB) (H.out.p1); have n1 : ¬ (wX = wA) := H.out.p1.drop.raw_ne; have m1 : ¬ (wA = wX) := fun e => n1 e.symm; have n2 : ¬ (wX = wB) := H.out.raw_ne; have m2 : ¬ (wB = wX) := fun e => n2 e.symm))
 refine bodyPost_ret (v := .agg #[.int .i64 0, .int .i64 0, .bool false, .string ⟨#[]⟩, .bool false, .string ⟨#[]⟩, .slice none 0 0, .int .i64 m, .int .i64 e]) (by simp [results, Tryz.results38, go_sem, ac0, ac1, ac2, ac3, ac4, ac5, ac6, ac7, ac8]) rfl ⟨rfl, ((((((((((H2.out.p2).rawSet 0 _).rawSet 1 _).rawSet 2 _).rawSet 3 _).rawSet 4 _).rawSet 5 _).rawSet 6 _).rawSet 7 _).rawSet 8 _).drop.drop.drop⟩

def PostR (r : Except Int (RecS × Nat)) (K : Know) (W0 : World) (L : List Res) (en : Ending) (w' : World) : Prop := match r with
  | .ok x => ∃ v, en = .returned (.agg #[.int .i64 x.1.time, .int .i64 x.1.off, .bool x.1.key.null, .string (bb x.1.key.data), .bool x.1.val.null, .string (bb x.1.val.data), v, .int .i64 x.2, .int .i64 0]) ∧ St W0 w' (K.and (Know.flat RHdr v 3 x.1.hdrs)) L
  | .error e => ∃ m : Int, en = .returned (.agg #[.int .i64 0, .int .i64 0, .bool false, .string ⟨#[]⟩, .bool false, .string ⟨#[]⟩, .slice none 0 0, .int .i64 m, .int .i64 e]) ∧ St W0 w' K L
theorem ref07_read (s : Bs) (hs : s.length ≤ 1000000) {W0 w : World} {K : Know} {L : List Res} (h : St W0 w K L) :
  Calls Tryz.prog 38 #[.string (bb s)] w (PostR (reRec s) K W0 L) := by
 unfold reRec
 cases hr : revaried s with
 | error e => exact (ref07_read_err s e hr (bne_iff_ne.2 (revaried_nz hr)) (by omega) h).mono fun en w' hh => ⟨0, hh⟩
 | ok x =>
  obtain ⟨⟨n, d⟩, m⟩ := x
  simp only
  obtain ⟨_, _, g3, _, _, g5⟩ := revaried_one hr
  cases n with
  | true => exact (ref07_read_null s d m hr (by omega) h).mono fun en w' hh => ⟨0, hh⟩
  | false =>
   have hd : d.length ≤ 1000000 := by simp at g5; omega
   simp only [Bool.false_eq_true, if_false]
   cases hi : reInner d with
   | error e => exact (ref07_read_in s d m e hr hi hd (by omega) h).mono fun en w' hh => ⟨m, hh⟩
   | ok x => exact (ref07_read_ok s d m x hr hi hd (by omega) h).mono fun en w' hh => hh
theorem glue {l a : Bs} {n m : Nat} (h : a = (l.drop n).take m) : a ++ l.drop (n + m) = l.drop n := by
 rw [h, ← List.drop_drop, List.take_append_drop]
theorem reInner_one {s : Bs} {x : RecS} (h : reInner s = .ok x) : recF x = s ∧ recOk x = 0 ∧ x.R ∧ x.sum ≤ s.length := by
 unfold reInner at h
 cases h0 : getIntN 1 s with
 | error e => rw [h0] at h; cases h
 | ok a =>
  rw [h0] at h
  simp only at h
  by_cases ha : a.1 = 0
  · rw [if_pos ha] at h
    obtain ⟨c, t, rfl⟩ : ∃ c t, s = c :: t := by
     cases s with
     | nil => cases h0
     | cons c t => exact ⟨c, t, rfl⟩
    have hc : c = 0 := by
     have : (.ok (sByte c, 1) : Except Int (Int × Nat)) = .ok a := by rw [← h0]; unfold getIntN; rw [if_neg (by simp)]; rfl
     cases this
     have hn := c.toNat_lt
     have h2 : sByte c = 0 := ha
     unfold sByte at h2
     exact UInt8.toNat_inj.1 (show c.toNat = 0 by split at h2 <;> omega)
    subst hc
    cases h1 : vgetL ((0 :: t : Bs).drop 1) with
    | error e => rw [h1] at h; cases h
    | ok x1 =>
     obtain ⟨tm, k⟩ := x1
     rw [h1] at h
     simp only at h
     cases h2 : vgetI ((0 :: t : Bs).drop (1 + k)) with
     | error e => rw [h2] at h; cases h
     | ok x2 =>
      obtain ⟨o, m⟩ := x2
      rw [h2] at h
      simp only at h
      by_cases ho : o < 0
      · rw [if_pos ho] at h; cases h
      rw [if_neg ho] at h
      cases h3 : revaried ((0 :: t : Bs).drop (1 + k + m)) with
      | error e => rw [h3] at h; cases h
      | ok x3 =>
       obtain ⟨kb, ka⟩ := x3
       rw [h3] at h
       simp only at h
       cases h4 : revaried ((0 :: t : Bs).drop (1 + k + m + ka)) with
       | error e => rw [h4] at h; cases h
       | ok x4 =>
        obtain ⟨vb, va⟩ := x4
        rw [h4] at h
        simp only at h
        cases h5 : reHdrs ((0 :: t : Bs).drop (1 + k + m + ka + va)) with
        | error e => rw [h5] at h; cases h
        | ok x5 =>
         obtain ⟨l, ha5⟩ := x5
         rw [h5] at h
         simp only at h
         by_cases hf : 1 + k + m + ka + va + ha5 = (0 :: t : Bs).length
         · rw [if_pos hf] at h
           cases h
           obtain ⟨g1, _, _, r1, r2⟩ := vgetL_one h1
           obtain ⟨g2, _, _, r3, r4⟩ := vgetI_one h2
           obtain ⟨g3, _, b3, c3, _, d3⟩ := revaried_one h3
           obtain ⟨g4, _, b4, c4, _, d4⟩ := revaried_one h4
           obtain ⟨g5, _, b5, c5, d5⟩ := reHdrs_one h5
           refine ⟨?_, ?_, ⟨⟨r1, r2⟩, by constructor <;> simp only <;> omega⟩, ?_⟩
           · unfold recF
             simp only
             have q5 := glue g5
             rw [List.drop_eq_nil_of_le (by omega), List.append_nil] at q5
             rw [q5, glue g4, glue g3]
             have q2 : encI o ++ (0 :: t : Bs).drop (1 + k + m) = (0 :: t : Bs).drop (1 + k) := glue g2
             have q1 : encI tm ++ (0 :: t : Bs).drop (1 + k) = (0 :: t : Bs).drop 1 := glue g1
             rw [q2, q1]
             rfl
           · unfold recOk RecS.allRight
             simp only
             rw [if_neg (by omega), c3, c4, c5]
             rfl
           · unfold RecS.sum
             simp only
             have e3 : kb.data.length ≤ ka := by split at d3 <;> omega
             have e4 : vb.data.length ≤ va := by split at d4 <;> omega
             omega
         · rw [if_neg hf] at h; cases h
  · rw [if_neg ha] at h; cases h
theorem reRec_one {s : Bs} {x : RecS} {m : Nat} (h : reRec s = .ok (x, m)) : encR x = s.take m ∧ recOk x = 0 ∧ x.R ∧ x.sum ≤ s.length ∧ 0 < m ∧ m ≤ s.length := by
 unfold reRec at h
 cases h1 : revaried s with
 | error e => rw [h1] at h; cases h
 | ok b =>
  obtain ⟨⟨n, d⟩, k⟩ := b
  rw [h1] at h
  simp only at h
  obtain ⟨g1, g2, g3, _, _, g5⟩ := revaried_one h1
  cases n with
  | true => cases h
  | false =>
   simp only [Bool.false_eq_true, if_false] at h
   cases h2 : reInner d with
   | error e => rw [h2] at h; cases h
   | ok y =>
    rw [h2] at h
    cases h
    obtain ⟨k1, k2, k3, k4⟩ := reInner_one h2
    simp at g5
    exact ⟨by unfold encR; rw [k1]; exact g1, k2, k3, by omega, g2, g3⟩
theorem reRec_nz {s : Bs} {e : Int} (h : reRec s = .error e) : e ≠ 0 := (rds_rec.err s 0 e (Nat.zero_le _) (by rw [List.drop_zero]; exact h)).1
theorem ref07_readO (s : Bs) (x : RecS) (m : Nat) (hr : reRec s = .ok (x, m)) (hs : s.length ≤ 1000000) {W0 w : World} {K : Know} {L : List Res} (h : St W0 w K L) :
  Calls Tryz.prog 38 #[.string (bb s)] w fun en w' => ∃ v, en = .returned (.agg #[.int .i64 x.time, .int .i64 x.off, .bool x.key.null, .string (bb x.key.data), .bool x.val.null, .string (bb x.val.data), v, .int .i64 m, .int .i64 0]) ∧ St W0 w' (K.and (Know.flat RHdr v 3 x.hdrs)) L :=
 (ref07_read s hs h).mono fun en w' hh => by unfold PostR at hh; rw [hr] at hh; exact hh
theorem ref07_readE (s : Bs) (e : Int) (hr : reRec s = .error e) (hs : s.length ≤ 1000000) {W0 w : World} {K : Know} {L : List Res} (h : St W0 w K L) :
  Calls Tryz.prog 38 #[.string (bb s)] w fun en w' => ∃ m : Int, en = .returned (.agg #[.int .i64 0, .int .i64 0, .bool false, .string ⟨#[]⟩, .bool false, .string ⟨#[]⟩, .slice none 0 0, .int .i64 m, .int .i64 e]) ∧ St W0 w' K L :=
 (ref07_read s hs h).mono fun en w' hh => by unfold PostR at hh; rw [hr] at hh; exact hh
theorem hsum_fit : ∀ (l : List HdrS) (N : Nat), hsum l ≤ N → ∀ x ∈ l, x.key.length ≤ N ∧ x.val.data.length ≤ N
  | [], _, _, _, h => by cases h
  | y :: t, N, hh, x, hx => by
    simp only [hsum, List.map_cons, List.sum_cons] at hh
    rcases List.mem_cons.1 hx with rfl | hx
    · omega
    · exact hsum_fit t N (by simp only [hsum]; omega) x hx
theorem unp_fit : ∀ (n : Nat) (rows : Bs) (pos : Nat) (rs : List RecS), pos ≤ rows.length → unp n ⟨rows, pos, 0⟩ = .ok rs → rs.length = n ∧ rs.length + pos ≤ rows.length ∧ ∀ x ∈ rs, x.R ∧ recOk x = 0 ∧ x.sum ≤ rows.length
  | 0, rows, pos, rs, hp, h => by
    unfold unp at h
    split at h
    · cases h; exact ⟨rfl, by simpa using hp, fun x hx => by cases hx⟩
    · cases h
  | n + 1, rows, pos, rs, hp, h => by
    have h : (if (⟨rows, pos, 0⟩ : InS).left = 0 then .error 10 else if (⟨rows, pos, 0⟩ : InS).record.2.err = 0 then consE (⟨rows, pos, 0⟩ : InS).record.1 (unp n (⟨rows, pos, 0⟩ : InS).record.2) else .error (⟨rows, pos, 0⟩ : InS).record.2.err) = .ok rs := h
    by_cases c1 : (⟨rows, pos, 0⟩ : InS).left = 0
    · rw [if_pos c1] at h; cases h
    rw [if_neg c1] at h
    cases hr : reRec (rows.drop pos) with
    | error e =>
      obtain ⟨he, q, _, hf⟩ := rds_rec.err rows pos e hp hr
      rw [hf] at h
      simp only at h
      rw [if_neg he] at h
      cases h
    | ok y =>
      obtain ⟨x, m⟩ := y
      obtain ⟨hpm, hf⟩ := rds_rec.ok rows pos x m hp hr
      rw [hf] at h
      simp only [if_true] at h
      cases hu : unp n ⟨rows, pos + m, 0⟩ with
      | error e => rw [hu] at h; cases h
      | ok t =>
        rw [hu] at h
        have h : Except.ok (x :: t) = Except.ok rs := h
        injection h with h
        subst h
        obtain ⟨i1, i2, i3⟩ := unp_fit n rows (pos + m) t hpm hu
        obtain ⟨_, j1, j2, j3, j4, j5⟩ := reRec_one hr
        rw [List.length_drop] at j3 j5
        refine ⟨by simp [i1], by simp only [List.length_cons]; omega, fun y hy => ?_⟩
        rcases List.mem_cons.1 hy with rfl | hy
        · exact ⟨j2, j1, by omega⟩
        · exact i3 y hy
theorem unp_fitB {n : Nat} {rows : Bs} {rs : List RecS} {l : List (RecS × Value)} (hu : unp n ⟨rows, 0, 0⟩ = .ok rs) (hl : l.map (·.1) = rs) (hr : rows.length ≤ 1000000) : FitB l ∧ l.length ≤ 1000000 := by
 obtain ⟨i1, i2, i3⟩ := unp_fit n rows 0 rs (Nat.zero_le _) hu
 constructor
 · intro x hx
   have hm : x.1 ∈ rs := by rw [← hl]; exact List.mem_map.2 ⟨x, hx, rfl⟩
   obtain ⟨a, _, c⟩ := i3 x.1 hm
   refine ⟨a, fun y hy => ?_, by omega⟩
   have h1 : hsum x.1.hdrs ≤ 1000000 := by unfold RecS.sum at c; omega
   have := hsum_fit x.1.hdrs 1000000 h1 y hy
   omega
 · have : l.length = rs.length := by rw [← hl, List.length_map]
   omega
def asmB (x : PreS) (said rows : Bs) : Except Int BatS :=
  if ((crcMore 0#32 (said.drop 21 ++ rows)).toNat : Int) ≠ x.sum then .error 5
  else if chk x.attr ≠ 0 then .error (chk x.attr)
  else match unp x.count.toNat ⟨rows, 0, 0⟩ with
    | .error e => .error e
    | .ok rs => if batErr ⟨x.base, x.leader, bitAt x.attr 3, bitAt x.attr 4, bitAt x.attr 5, x.last, x.first, x.maxt, x.prod, x.epoch, x.seq, rs⟩ = 0 then .ok ⟨x.base, x.leader, bitAt x.attr 3, bitAt x.attr 4, bitAt x.attr 5, x.last, x.first, x.maxt, x.prod, x.epoch, x.seq, rs⟩ else .error (batErr ⟨x.base, x.leader, bitAt x.attr 3, bitAt x.attr 4, bitAt x.attr 5, x.last, x.first, x.maxt, x.prod, x.epoch, x.seq, rs⟩)
theorem attr_readE (n : Int) {W0 w : World} {K : Know} {L : List Res} (h : St W0 w K L) :
 Calls Tryz.prog 98 #[.int .i64 n] w fun en w' => en = .returned (.tuple #[.bool (bitAt n 3), .bool (bitAt n 4), .bool (bitAt n 5)]) ∧ St W0 w' K L := (attr_read n w).mono fun _ _ hh => ⟨hh.1, hh.2 ▸ h⟩
theorem attr_checkE (n e : Int) (he : chk n = e) (hn : R64 n) {W0 w : World} {K : Know} {L : List Res} (h : St W0 w K L) :
 Calls Tryz.prog 96 #[.int .i64 n] w fun en w' => en = .returned (.int .i64 e) ∧ St W0 w' K L := (attr_check n hn w).mono fun _ _ hh => ⟨he ▸ hh.1, hh.2 ▸ h⟩
theorem s_takeE (b : Nat) (i j : InS) (n : Int) (s : Bs) (hx : i.take n = (s, j)) {W0 w : World} {K : Know} {L : List Res} (h : St W0 w K (.inp b i :: L)) :
  Calls Tryz.prog 72 #[inPtr b, .int .i64 n] w fun en w' => en = .returned (.string (bb s)) ∧ St W0 w' K (.inp b j :: L) := by
 have := s_take b i n h; rw [hx] at this; exact this
theorem s_failE (b : Nat) (i j : InS) (e : Int) (hx : i.fail e = j) {W0 w : World} {K : Know} {L : List Res} (h : St W0 w K (.inp b i :: L)) :
  Calls Tryz.prog 73 #[inPtr b, .int .i64 e] w fun en w' => en = .returned (.tuple #[]) ∧ St W0 w' K (.inp b j :: L) := by
 subst hx; exact s_fail b i e h
theorem unp_ne : ∀ (n : Nat) (i : InS) (e : Int), unp n i = .error e → e ≠ 0
  | 0, i, e, h => by
    unfold unp at h
    split at h
    · cases h
    · cases h; decide
  | n + 1, i, e, h => by
    have h : (if i.left = 0 then .error 10 else if i.record.2.err = 0 then consE i.record.1 (unp n i.record.2) else .error i.record.2.err) = .error e := h
    by_cases c1 : i.left = 0
    · rw [if_pos c1] at h; cases h; decide
    rw [if_neg c1] at h
    by_cases c2 : i.record.2.err = 0
    · rw [if_pos c2] at h
      cases hu : unp n i.record.2 with
      | ok t => rw [hu] at h; cases h
      | error f =>
        rw [hu] at h
        have h : Except.error f = Except.error e := h
        injection h with h
        subst h
        exact unp_ne n _ _ hu
    · rw [if_neg c2] at h
      injection h with h
      exact h ▸ c2
theorem asmB_ne {x : PreS} {said rows : Bs} {e : Int} (h : asmB x said rows = .error e) : e ≠ 0 := by
 unfold asmB at h
 split at h
 · cases h; decide
 split at h
 · cases h; assumption
 split at h
 · rename_i f hu
   cases h
   exact unp_ne _ _ _ hu
 · split at h
   · cases h
   · cases h; assumption
theorem asmB_ok {x : PreS} {said rows : Bs} {b : BatS} (h : asmB x said rows = .ok b) : ((crcMore 0#32 (said.drop 21 ++ rows)).toNat : Int) = x.sum ∧ chk x.attr = 0 ∧ ∃ rs, unp x.count.toNat ⟨rows, 0, 0⟩ = .ok rs ∧ batErr (⟨x.base, x.leader, bitAt x.attr 3, bitAt x.attr 4, bitAt x.attr 5, x.last, x.first, x.maxt, x.prod, x.epoch, x.seq, rs⟩ : BatS) = 0 ∧ b = (⟨x.base, x.leader, bitAt x.attr 3, bitAt x.attr 4, bitAt x.attr 5, x.last, x.first, x.maxt, x.prod, x.epoch, x.seq, rs⟩ : BatS) := by
 unfold asmB at h
 split at h
 · cases h
 rename_i h1
 split at h
 · cases h
 rename_i h2
 have h1 : ((crcMore 0#32 (said.drop 21 ++ rows)).toNat : Int) = x.sum := by
   by_cases hh : ((crcMore 0#32 (said.drop 21 ++ rows)).toNat : Int) = x.sum
   · exact hh
   · exact absurd hh h1
 have h2 : chk x.attr = 0 := by
   by_cases hh : chk x.attr = 0
   · exact hh
   · exact absurd hh h2
 split at h
 · cases h
 · rename_i rs hu
   split at h
   · rename_i hb
     cases h
     exact ⟨h1, h2, rs, hu, hb, rfl⟩
   · cases h
set_option maxHeartbeats 1000000 in
set_option maxRecDepth 100000 in
theorem ref10_at (s : Bs) (p k : Int) (a b : Nat) (hp : p = a) (hk : k = b) (hb : b ≤ 8) (hs : a + b ≤ s.length) (hl : s.length ≤ 140737488355328) {W0 w : World} {K : Know} {L : List Res} (h : St W0 w K L) :
  Calls Tryz.prog 35 #[.string (bb s), .int .i64 p, .int .i64 k] w fun en w' => en = .returned (.int .i64 (sInt ((s.drop a).take b))) ∧ St W0 w' K L := by
 subst hp; subst hk
 have H := Lib.hid h
 have hx : ((s.drop a).take b).length ≤ 8 := by rw [List.length_take]; omega
 have HX := Lib.hid hx
 clear h hx
 go_enter Tryz.func35, Tryz.ntmps35
 go_wp2_with (go_at_call 66; refine (sr_int _ HX.out stQ).mono ?_; rintro e wn ⟨rfl, h⟩; replace H := Lib.hid h; clear h)
 go_ret
 exact ⟨rfl, H.out⟩

set_option maxHeartbeats 1000000 in
set_option maxRecDepth 100000 in
theorem ref10_fields_m0 (s : Bs) (a0 a1 a2 a3 a4 a5 a6 a7 a8 a9 a10 a11 a12 : Int) (e0 : sInt ((s.drop 0).take 8) = a0) (e1 : sInt ((s.drop 8).take 4) = a1) (e2 : sInt ((s.drop 12).take 4) = a2) (e3 : sInt ((s.drop 16).take 1) = a3) (e4 : sInt ((s.drop 17).take 4) = a4) (e5 : sInt ((s.drop 21).take 2) = a5) (e6 : sInt ((s.drop 23).take 4) = a6) (e7 : sInt ((s.drop 27).take 8) = a7) (e8 : sInt ((s.drop 35).take 8) = a8) (e9 : sInt ((s.drop 43).take 8) = a9) (e10 : sInt ((s.drop 51).take 2) = a10) (e11 : sInt ((s.drop 53).take 4) = a11) (e12 : sInt ((s.drop 57).take 4) = a12) (hl61 : 61 ≤ s.length) (hlen : s.length ≤ 140737488355328) (hr4 : -2147483648 ≤ a4) (h4 : ¬ a4 < 0) (hm : (a3 != 2) = true) {W0 w : World} {K : Know} {L : List Res} (h : St W0 w K L) :
  Calls Tryz.prog 17 #[.string (bb s)] w fun en w' => en = .returned (.tuple #[.slice none 0 0, .int .i64 6]) ∧ St W0 w' K L := by
 have H := Lib.hid h
 have HL := Lib.hid hlen
 have hd : decide ((s.length : Int) < 61) = false := decide_eq_false (by omega)
 have E0 := Lib.hid e0
 have HSL0 := Lib.hid (show 0 + 8 ≤ s.length by omega)
 have E1 := Lib.hid e1
 have HSL1 := Lib.hid (show 8 + 4 ≤ s.length by omega)
 have E2 := Lib.hid e2
 have HSL2 := Lib.hid (show 12 + 4 ≤ s.length by omega)
 have E3 := Lib.hid e3
 have HSL3 := Lib.hid (show 16 + 1 ≤ s.length by omega)
 have E4 := Lib.hid e4
 have HSL4 := Lib.hid (show 17 + 4 ≤ s.length by omega)
 have E5 := Lib.hid e5
 have HSL5 := Lib.hid (show 21 + 2 ≤ s.length by omega)
 have E6 := Lib.hid e6
 have HSL6 := Lib.hid (show 23 + 4 ≤ s.length by omega)
 have E7 := Lib.hid e7
 have HSL7 := Lib.hid (show 27 + 8 ≤ s.length by omega)
 have E8 := Lib.hid e8
 have HSL8 := Lib.hid (show 35 + 8 ≤ s.length by omega)
 have E9 := Lib.hid e9
 have HSL9 := Lib.hid (show 43 + 8 ≤ s.length by omega)
 have E10 := Lib.hid e10
 have HSL10 := Lib.hid (show 51 + 2 ≤ s.length by omega)
 have E11 := Lib.hid e11
 have HSL11 := Lib.hid (show 53 + 4 ≤ s.length by omega)
 have E12 := Lib.hid e12
 have HSL12 := Lib.hid (show 57 + 4 ≤ s.length by omega)
 clear h hlen hl61 e0 e1 e2 e3 e4 e5 e6 e7 e8 e9 e10 e11 e12
 go_enter Tryz.func17, Tryz.ntmps17
 go_wp2_with (first
  | (go_at_call 35; (with_reducible refine (ref10_at _ _ _ 0 8 (by decide) (by decide) (by decide) HSL0.out HL.out stQ).mono ?_); (repeat first | rw [E0.out]); rintro e wn ⟨rfl, h⟩; replace H := Lib.hid h; clear h)
  | (go_at_call 35; (with_reducible refine (ref10_at _ _ _ 8 4 (by decide) (by decide) (by decide) HSL1.out HL.out stQ).mono ?_); (repeat first | rw [E1.out]); rintro e wn ⟨rfl, h⟩; replace H := Lib.hid h; clear h)
  | (go_at_call 35; (with_reducible refine (ref10_at _ _ _ 12 4 (by decide) (by decide) (by decide) HSL2.out HL.out stQ).mono ?_); (repeat first | rw [E2.out]); rintro e wn ⟨rfl, h⟩; replace H := Lib.hid h; clear h)
  | (go_at_call 35; (with_reducible refine (ref10_at _ _ _ 16 1 (by decide) (by decide) (by decide) HSL3.out HL.out (H.out.allocRaw #[.int .i64 a0, .int .i64 a1, .int .i64 a2, .int .i64 a4, .int .i64 a5, .int .i64 a6, .int .i64 a7, .int .i64 a8, .int .i64 a9, .int .i64 a10, .int .i64 a11, .int .i64 a12] 3)).mono ?_); (repeat first | rw [E3.out]); rintro e wn ⟨rfl, h⟩; replace H := Lib.hid h; clear h; have y1 := H.out.rawCell 1; have y11 := H.out.rawCell 11; simp at y1 y11)
  | (go_at_call 35; (with_reducible refine (ref10_at _ _ _ 17 4 (by decide) (by decide) (by decide) HSL4.out HL.out stQ).mono ?_); (repeat first | rw [E4.out]); rintro e wn ⟨rfl, h⟩; replace H := Lib.hid h; clear h)
  | (go_at_call 35; (with_reducible refine (ref10_at _ _ _ 21 2 (by decide) (by decide) (by decide) HSL5.out HL.out stQ).mono ?_); (repeat first | rw [E5.out]); rintro e wn ⟨rfl, h⟩; replace H := Lib.hid h; clear h)
  | (go_at_call 35; (with_reducible refine (ref10_at _ _ _ 23 4 (by decide) (by decide) (by decide) HSL6.out HL.out stQ).mono ?_); (repeat first | rw [E6.out]); rintro e wn ⟨rfl, h⟩; replace H := Lib.hid h; clear h)
  | (go_at_call 35; (with_reducible refine (ref10_at _ _ _ 27 8 (by decide) (by decide) (by decide) HSL7.out HL.out stQ).mono ?_); (repeat first | rw [E7.out]); rintro e wn ⟨rfl, h⟩; replace H := Lib.hid h; clear h)
  | (go_at_call 35; (with_reducible refine (ref10_at _ _ _ 35 8 (by decide) (by decide) (by decide) HSL8.out HL.out stQ).mono ?_); (repeat first | rw [E8.out]); rintro e wn ⟨rfl, h⟩; replace H := Lib.hid h; clear h)
  | (go_at_call 35; (with_reducible refine (ref10_at _ _ _ 43 8 (by decide) (by decide) (by decide) HSL9.out HL.out stQ).mono ?_); (repeat first | rw [E9.out]); rintro e wn ⟨rfl, h⟩; replace H := Lib.hid h; clear h)
  | (go_at_call 35; (with_reducible refine (ref10_at _ _ _ 51 2 (by decide) (by decide) (by decide) HSL10.out HL.out stQ).mono ?_); (repeat first | rw [E10.out]); rintro e wn ⟨rfl, h⟩; replace H := Lib.hid h; clear h)
  | (go_at_call 35; (with_reducible refine (ref10_at _ _ _ 53 4 (by decide) (by decide) (by decide) HSL11.out HL.out stQ).mono ?_); (repeat first | rw [E11.out]); rintro e wn ⟨rfl, h⟩; replace H := Lib.hid h; clear h)
  | (go_at_call 35; (with_reducible refine (ref10_at _ _ _ 57 4 (by decide) (by decide) (by decide) HSL12.out HL.out stQ).mono ?_); (repeat first | rw [E12.out]); rintro e wn ⟨rfl, h⟩; replace H := Lib.hid h; clear h))
 go_ret2
 exact ⟨rfl, H.out.drop⟩

set_option maxHeartbeats 1000000 in
set_option maxRecDepth 100000 in
theorem ref10_fields_l0 (s : Bs) (a0 a1 a2 a3 a4 a5 a6 a7 a8 a9 a10 a11 a12 : Int) (e0 : sInt ((s.drop 0).take 8) = a0) (e1 : sInt ((s.drop 8).take 4) = a1) (e2 : sInt ((s.drop 12).take 4) = a2) (e3 : sInt ((s.drop 16).take 1) = a3) (e4 : sInt ((s.drop 17).take 4) = a4) (e5 : sInt ((s.drop 21).take 2) = a5) (e6 : sInt ((s.drop 23).take 4) = a6) (e7 : sInt ((s.drop 27).take 8) = a7) (e8 : sInt ((s.drop 35).take 8) = a8) (e9 : sInt ((s.drop 43).take 8) = a9) (e10 : sInt ((s.drop 51).take 2) = a10) (e11 : sInt ((s.drop 53).take 4) = a11) (e12 : sInt ((s.drop 57).take 4) = a12) (hl61 : 61 ≤ s.length) (hlen : s.length ≤ 140737488355328) (hr4 : -2147483648 ≤ a4) (h4 : ¬ a4 < 0) (hm : (a3 != 2) = false) (hl : a1 < 49) {W0 w : World} {K : Know} {L : List Res} (h : St W0 w K L) :
  Calls Tryz.prog 17 #[.string (bb s)] w fun en w' => en = .returned (.tuple #[.slice none 0 0, .int .i64 4]) ∧ St W0 w' K L := by
 have H := Lib.hid h
 have HL := Lib.hid hlen
 have hd : decide ((s.length : Int) < 61) = false := decide_eq_false (by omega)
 have E0 := Lib.hid e0
 have HSL0 := Lib.hid (show 0 + 8 ≤ s.length by omega)
 have E1 := Lib.hid e1
 have HSL1 := Lib.hid (show 8 + 4 ≤ s.length by omega)
 have E2 := Lib.hid e2
 have HSL2 := Lib.hid (show 12 + 4 ≤ s.length by omega)
 have E3 := Lib.hid e3
 have HSL3 := Lib.hid (show 16 + 1 ≤ s.length by omega)
 have E4 := Lib.hid e4
 have HSL4 := Lib.hid (show 17 + 4 ≤ s.length by omega)
 have E5 := Lib.hid e5
 have HSL5 := Lib.hid (show 21 + 2 ≤ s.length by omega)
 have E6 := Lib.hid e6
 have HSL6 := Lib.hid (show 23 + 4 ≤ s.length by omega)
 have E7 := Lib.hid e7
 have HSL7 := Lib.hid (show 27 + 8 ≤ s.length by omega)
 have E8 := Lib.hid e8
 have HSL8 := Lib.hid (show 35 + 8 ≤ s.length by omega)
 have E9 := Lib.hid e9
 have HSL9 := Lib.hid (show 43 + 8 ≤ s.length by omega)
 have E10 := Lib.hid e10
 have HSL10 := Lib.hid (show 51 + 2 ≤ s.length by omega)
 have E11 := Lib.hid e11
 have HSL11 := Lib.hid (show 53 + 4 ≤ s.length by omega)
 have E12 := Lib.hid e12
 have HSL12 := Lib.hid (show 57 + 4 ≤ s.length by omega)
 clear h hlen hl61 e0 e1 e2 e3 e4 e5 e6 e7 e8 e9 e10 e11 e12
 go_enter Tryz.func17, Tryz.ntmps17
 go_wp2_with (first
  | (go_at_call 35; (with_reducible refine (ref10_at _ _ _ 0 8 (by decide) (by decide) (by decide) HSL0.out HL.out stQ).mono ?_); (repeat first | rw [E0.out]); rintro e wn ⟨rfl, h⟩; replace H := Lib.hid h; clear h)
  | (go_at_call 35; (with_reducible refine (ref10_at _ _ _ 8 4 (by decide) (by decide) (by decide) HSL1.out HL.out stQ).mono ?_); (repeat first | rw [E1.out]); rintro e wn ⟨rfl, h⟩; replace H := Lib.hid h; clear h)
  | (go_at_call 35; (with_reducible refine (ref10_at _ _ _ 12 4 (by decide) (by decide) (by decide) HSL2.out HL.out stQ).mono ?_); (repeat first | rw [E2.out]); rintro e wn ⟨rfl, h⟩; replace H := Lib.hid h; clear h)
  | (go_at_call 35; (with_reducible refine (ref10_at _ _ _ 16 1 (by decide) (by decide) (by decide) HSL3.out HL.out (H.out.allocRaw #[.int .i64 a0, .int .i64 a1, .int .i64 a2, .int .i64 a4, .int .i64 a5, .int .i64 a6, .int .i64 a7, .int .i64 a8, .int .i64 a9, .int .i64 a10, .int .i64 a11, .int .i64 a12] 3)).mono ?_); (repeat first | rw [E3.out]); rintro e wn ⟨rfl, h⟩; replace H := Lib.hid h; clear h; have y1 := H.out.rawCell 1; have y11 := H.out.rawCell 11; simp at y1 y11)
  | (go_at_call 35; (with_reducible refine (ref10_at _ _ _ 17 4 (by decide) (by decide) (by decide) HSL4.out HL.out stQ).mono ?_); (repeat first | rw [E4.out]); rintro e wn ⟨rfl, h⟩; replace H := Lib.hid h; clear h)
  | (go_at_call 35; (with_reducible refine (ref10_at _ _ _ 21 2 (by decide) (by decide) (by decide) HSL5.out HL.out stQ).mono ?_); (repeat first | rw [E5.out]); rintro e wn ⟨rfl, h⟩; replace H := Lib.hid h; clear h)
  | (go_at_call 35; (with_reducible refine (ref10_at _ _ _ 23 4 (by decide) (by decide) (by decide) HSL6.out HL.out stQ).mono ?_); (repeat first | rw [E6.out]); rintro e wn ⟨rfl, h⟩; replace H := Lib.hid h; clear h)
  | (go_at_call 35; (with_reducible refine (ref10_at _ _ _ 27 8 (by decide) (by decide) (by decide) HSL7.out HL.out stQ).mono ?_); (repeat first | rw [E7.out]); rintro e wn ⟨rfl, h⟩; replace H := Lib.hid h; clear h)
  | (go_at_call 35; (with_reducible refine (ref10_at _ _ _ 35 8 (by decide) (by decide) (by decide) HSL8.out HL.out stQ).mono ?_); (repeat first | rw [E8.out]); rintro e wn ⟨rfl, h⟩; replace H := Lib.hid h; clear h)
  | (go_at_call 35; (with_reducible refine (ref10_at _ _ _ 43 8 (by decide) (by decide) (by decide) HSL9.out HL.out stQ).mono ?_); (repeat first | rw [E9.out]); rintro e wn ⟨rfl, h⟩; replace H := Lib.hid h; clear h)
  | (go_at_call 35; (with_reducible refine (ref10_at _ _ _ 51 2 (by decide) (by decide) (by decide) HSL10.out HL.out stQ).mono ?_); (repeat first | rw [E10.out]); rintro e wn ⟨rfl, h⟩; replace H := Lib.hid h; clear h)
  | (go_at_call 35; (with_reducible refine (ref10_at _ _ _ 53 4 (by decide) (by decide) (by decide) HSL11.out HL.out stQ).mono ?_); (repeat first | rw [E11.out]); rintro e wn ⟨rfl, h⟩; replace H := Lib.hid h; clear h)
  | (go_at_call 35; (with_reducible refine (ref10_at _ _ _ 57 4 (by decide) (by decide) (by decide) HSL12.out HL.out stQ).mono ?_); (repeat first | rw [E12.out]); rintro e wn ⟨rfl, h⟩; replace H := Lib.hid h; clear h))
 go_ret2
 exact ⟨rfl, H.out.drop⟩

set_option maxHeartbeats 1000000 in
set_option maxRecDepth 100000 in
theorem ref10_fields_c0 (s : Bs) (a0 a1 a2 a3 a4 a5 a6 a7 a8 a9 a10 a11 a12 : Int) (e0 : sInt ((s.drop 0).take 8) = a0) (e1 : sInt ((s.drop 8).take 4) = a1) (e2 : sInt ((s.drop 12).take 4) = a2) (e3 : sInt ((s.drop 16).take 1) = a3) (e4 : sInt ((s.drop 17).take 4) = a4) (e5 : sInt ((s.drop 21).take 2) = a5) (e6 : sInt ((s.drop 23).take 4) = a6) (e7 : sInt ((s.drop 27).take 8) = a7) (e8 : sInt ((s.drop 35).take 8) = a8) (e9 : sInt ((s.drop 43).take 8) = a9) (e10 : sInt ((s.drop 51).take 2) = a10) (e11 : sInt ((s.drop 53).take 4) = a11) (e12 : sInt ((s.drop 57).take 4) = a12) (hl61 : 61 ≤ s.length) (hlen : s.length ≤ 140737488355328) (hr4 : -2147483648 ≤ a4) (h4 : ¬ a4 < 0) (hm : (a3 != 2) = false) (hl : ¬ a1 < 49) (hc : a12 < 0) {W0 w : World} {K : Know} {L : List Res} (h : St W0 w K L) :
  Calls Tryz.prog 17 #[.string (bb s)] w fun en w' => en = .returned (.tuple #[.slice none 0 0, .int .i64 10]) ∧ St W0 w' K L := by
 have H := Lib.hid h
 have HL := Lib.hid hlen
 have hd : decide ((s.length : Int) < 61) = false := decide_eq_false (by omega)
 have E0 := Lib.hid e0
 have HSL0 := Lib.hid (show 0 + 8 ≤ s.length by omega)
 have E1 := Lib.hid e1
 have HSL1 := Lib.hid (show 8 + 4 ≤ s.length by omega)
 have E2 := Lib.hid e2
 have HSL2 := Lib.hid (show 12 + 4 ≤ s.length by omega)
 have E3 := Lib.hid e3
 have HSL3 := Lib.hid (show 16 + 1 ≤ s.length by omega)
 have E4 := Lib.hid e4
 have HSL4 := Lib.hid (show 17 + 4 ≤ s.length by omega)
 have E5 := Lib.hid e5
 have HSL5 := Lib.hid (show 21 + 2 ≤ s.length by omega)
 have E6 := Lib.hid e6
 have HSL6 := Lib.hid (show 23 + 4 ≤ s.length by omega)
 have E7 := Lib.hid e7
 have HSL7 := Lib.hid (show 27 + 8 ≤ s.length by omega)
 have E8 := Lib.hid e8
 have HSL8 := Lib.hid (show 35 + 8 ≤ s.length by omega)
 have E9 := Lib.hid e9
 have HSL9 := Lib.hid (show 43 + 8 ≤ s.length by omega)
 have E10 := Lib.hid e10
 have HSL10 := Lib.hid (show 51 + 2 ≤ s.length by omega)
 have E11 := Lib.hid e11
 have HSL11 := Lib.hid (show 53 + 4 ≤ s.length by omega)
 have E12 := Lib.hid e12
 have HSL12 := Lib.hid (show 57 + 4 ≤ s.length by omega)
 clear h hlen hl61 e0 e1 e2 e3 e4 e5 e6 e7 e8 e9 e10 e11 e12
 go_enter Tryz.func17, Tryz.ntmps17
 go_wp2_with (first
  | (go_at_call 35; (with_reducible refine (ref10_at _ _ _ 0 8 (by decide) (by decide) (by decide) HSL0.out HL.out stQ).mono ?_); (repeat first | rw [E0.out]); rintro e wn ⟨rfl, h⟩; replace H := Lib.hid h; clear h)
  | (go_at_call 35; (with_reducible refine (ref10_at _ _ _ 8 4 (by decide) (by decide) (by decide) HSL1.out HL.out stQ).mono ?_); (repeat first | rw [E1.out]); rintro e wn ⟨rfl, h⟩; replace H := Lib.hid h; clear h)
  | (go_at_call 35; (with_reducible refine (ref10_at _ _ _ 12 4 (by decide) (by decide) (by decide) HSL2.out HL.out stQ).mono ?_); (repeat first | rw [E2.out]); rintro e wn ⟨rfl, h⟩; replace H := Lib.hid h; clear h)
  | (go_at_call 35; (with_reducible refine (ref10_at _ _ _ 16 1 (by decide) (by decide) (by decide) HSL3.out HL.out (H.out.allocRaw #[.int .i64 a0, .int .i64 a1, .int .i64 a2, .int .i64 a4, .int .i64 a5, .int .i64 a6, .int .i64 a7, .int .i64 a8, .int .i64 a9, .int .i64 a10, .int .i64 a11, .int .i64 a12] 3)).mono ?_); (repeat first | rw [E3.out]); rintro e wn ⟨rfl, h⟩; replace H := Lib.hid h; clear h; have y1 := H.out.rawCell 1; have y11 := H.out.rawCell 11; simp at y1 y11)
  | (go_at_call 35; (with_reducible refine (ref10_at _ _ _ 17 4 (by decide) (by decide) (by decide) HSL4.out HL.out stQ).mono ?_); (repeat first | rw [E4.out]); rintro e wn ⟨rfl, h⟩; replace H := Lib.hid h; clear h)
  | (go_at_call 35; (with_reducible refine (ref10_at _ _ _ 21 2 (by decide) (by decide) (by decide) HSL5.out HL.out stQ).mono ?_); (repeat first | rw [E5.out]); rintro e wn ⟨rfl, h⟩; replace H := Lib.hid h; clear h)
  | (go_at_call 35; (with_reducible refine (ref10_at _ _ _ 23 4 (by decide) (by decide) (by decide) HSL6.out HL.out stQ).mono ?_); (repeat first | rw [E6.out]); rintro e wn ⟨rfl, h⟩; replace H := Lib.hid h; clear h)
  | (go_at_call 35; (with_reducible refine (ref10_at _ _ _ 27 8 (by decide) (by decide) (by decide) HSL7.out HL.out stQ).mono ?_); (repeat first | rw [E7.out]); rintro e wn ⟨rfl, h⟩; replace H := Lib.hid h; clear h)
  | (go_at_call 35; (with_reducible refine (ref10_at _ _ _ 35 8 (by decide) (by decide) (by decide) HSL8.out HL.out stQ).mono ?_); (repeat first | rw [E8.out]); rintro e wn ⟨rfl, h⟩; replace H := Lib.hid h; clear h)
  | (go_at_call 35; (with_reducible refine (ref10_at _ _ _ 43 8 (by decide) (by decide) (by decide) HSL9.out HL.out stQ).mono ?_); (repeat first | rw [E9.out]); rintro e wn ⟨rfl, h⟩; replace H := Lib.hid h; clear h)
  | (go_at_call 35; (with_reducible refine (ref10_at _ _ _ 51 2 (by decide) (by decide) (by decide) HSL10.out HL.out stQ).mono ?_); (repeat first | rw [E10.out]); rintro e wn ⟨rfl, h⟩; replace H := Lib.hid h; clear h)
  | (go_at_call 35; (with_reducible refine (ref10_at _ _ _ 53 4 (by decide) (by decide) (by decide) HSL11.out HL.out stQ).mono ?_); (repeat first | rw [E11.out]); rintro e wn ⟨rfl, h⟩; replace H := Lib.hid h; clear h)
  | (go_at_call 35; (with_reducible refine (ref10_at _ _ _ 57 4 (by decide) (by decide) (by decide) HSL12.out HL.out stQ).mono ?_); (repeat first | rw [E12.out]); rintro e wn ⟨rfl, h⟩; replace H := Lib.hid h; clear h))
 go_ret2
 exact ⟨rfl, H.out.drop⟩

set_option maxHeartbeats 1000000 in
set_option maxRecDepth 100000 in
theorem ref10_fields_ok0 (s : Bs) (a0 a1 a2 a3 a4 a5 a6 a7 a8 a9 a10 a11 a12 : Int) (e0 : sInt ((s.drop 0).take 8) = a0) (e1 : sInt ((s.drop 8).take 4) = a1) (e2 : sInt ((s.drop 12).take 4) = a2) (e3 : sInt ((s.drop 16).take 1) = a3) (e4 : sInt ((s.drop 17).take 4) = a4) (e5 : sInt ((s.drop 21).take 2) = a5) (e6 : sInt ((s.drop 23).take 4) = a6) (e7 : sInt ((s.drop 27).take 8) = a7) (e8 : sInt ((s.drop 35).take 8) = a8) (e9 : sInt ((s.drop 43).take 8) = a9) (e10 : sInt ((s.drop 51).take 2) = a10) (e11 : sInt ((s.drop 53).take 4) = a11) (e12 : sInt ((s.drop 57).take 4) = a12) (hl61 : 61 ≤ s.length) (hlen : s.length ≤ 140737488355328) (hr4 : -2147483648 ≤ a4) (h4 : ¬ a4 < 0) (hm : (a3 != 2) = false) (hl : ¬ a1 < 49) (hc : ¬ a12 < 0) {W0 w : World} {K : Know} {L : List Res} (h : St W0 w K L) :
  Calls Tryz.prog 17 #[.string (bb s)] w fun en w' => ∃ bl, en = .returned (.tuple #[.slice (some ⟨bl, 0, none⟩) 12 12, .int .i64 0]) ∧ St W0 w' K (.raw bl #[.int .i64 a0, .int .i64 a1, .int .i64 a2, .int .i64 a4, .int .i64 a5, .int .i64 a6, .int .i64 a7, .int .i64 a8, .int .i64 a9, .int .i64 a10, .int .i64 a11, .int .i64 a12] 3 :: L) := by
 have H := Lib.hid h
 have HL := Lib.hid hlen
 have hd : decide ((s.length : Int) < 61) = false := decide_eq_false (by omega)
 have E0 := Lib.hid e0
 have HSL0 := Lib.hid (show 0 + 8 ≤ s.length by omega)
 have E1 := Lib.hid e1
 have HSL1 := Lib.hid (show 8 + 4 ≤ s.length by omega)
 have E2 := Lib.hid e2
 have HSL2 := Lib.hid (show 12 + 4 ≤ s.length by omega)
 have E3 := Lib.hid e3
 have HSL3 := Lib.hid (show 16 + 1 ≤ s.length by omega)
 have E4 := Lib.hid e4
 have HSL4 := Lib.hid (show 17 + 4 ≤ s.length by omega)
 have E5 := Lib.hid e5
 have HSL5 := Lib.hid (show 21 + 2 ≤ s.length by omega)
 have E6 := Lib.hid e6
 have HSL6 := Lib.hid (show 23 + 4 ≤ s.length by omega)
 have E7 := Lib.hid e7
 have HSL7 := Lib.hid (show 27 + 8 ≤ s.length by omega)
 have E8 := Lib.hid e8
 have HSL8 := Lib.hid (show 35 + 8 ≤ s.length by omega)
 have E9 := Lib.hid e9
 have HSL9 := Lib.hid (show 43 + 8 ≤ s.length by omega)
 have E10 := Lib.hid e10
 have HSL10 := Lib.hid (show 51 + 2 ≤ s.length by omega)
 have E11 := Lib.hid e11
 have HSL11 := Lib.hid (show 53 + 4 ≤ s.length by omega)
 have E12 := Lib.hid e12
 have HSL12 := Lib.hid (show 57 + 4 ≤ s.length by omega)
 clear h hlen hl61 e0 e1 e2 e3 e4 e5 e6 e7 e8 e9 e10 e11 e12
 go_enter Tryz.func17, Tryz.ntmps17
 go_wp2_with (first
  | (go_at_call 35; (with_reducible refine (ref10_at _ _ _ 0 8 (by decide) (by decide) (by decide) HSL0.out HL.out stQ).mono ?_); (repeat first | rw [E0.out]); rintro e wn ⟨rfl, h⟩; replace H := Lib.hid h; clear h)
  | (go_at_call 35; (with_reducible refine (ref10_at _ _ _ 8 4 (by decide) (by decide) (by decide) HSL1.out HL.out stQ).mono ?_); (repeat first | rw [E1.out]); rintro e wn ⟨rfl, h⟩; replace H := Lib.hid h; clear h)
  | (go_at_call 35; (with_reducible refine (ref10_at _ _ _ 12 4 (by decide) (by decide) (by decide) HSL2.out HL.out stQ).mono ?_); (repeat first | rw [E2.out]); rintro e wn ⟨rfl, h⟩; replace H := Lib.hid h; clear h)
  | (go_at_call 35; (with_reducible refine (ref10_at _ _ _ 16 1 (by decide) (by decide) (by decide) HSL3.out HL.out (H.out.allocRaw #[.int .i64 a0, .int .i64 a1, .int .i64 a2, .int .i64 a4, .int .i64 a5, .int .i64 a6, .int .i64 a7, .int .i64 a8, .int .i64 a9, .int .i64 a10, .int .i64 a11, .int .i64 a12] 3)).mono ?_); (repeat first | rw [E3.out]); rintro e wn ⟨rfl, h⟩; replace H := Lib.hid h; clear h; have y1 := H.out.rawCell 1; have y11 := H.out.rawCell 11; simp at y1 y11)
  | (go_at_call 35; (with_reducible refine (ref10_at _ _ _ 17 4 (by decide) (by decide) (by decide) HSL4.out HL.out stQ).mono ?_); (repeat first | rw [E4.out]); rintro e wn ⟨rfl, h⟩; replace H := Lib.hid h; clear h)
  | (go_at_call 35; (with_reducible refine (ref10_at _ _ _ 21 2 (by decide) (by decide) (by decide) HSL5.out HL.out stQ).mono ?_); (repeat first | rw [E5.out]); rintro e wn ⟨rfl, h⟩; replace H := Lib.hid h; clear h)
  | (go_at_call 35; (with_reducible refine (ref10_at _ _ _ 23 4 (by decide) (by decide) (by decide) HSL6.out HL.out stQ).mono ?_); (repeat first | rw [E6.out]); rintro e wn ⟨rfl, h⟩; replace H := Lib.hid h; clear h)
  | (go_at_call 35; (with_reducible refine (ref10_at _ _ _ 27 8 (by decide) (by decide) (by decide) HSL7.out HL.out stQ).mono ?_); (repeat first | rw [E7.out]); rintro e wn ⟨rfl, h⟩; replace H := Lib.hid h; clear h)
  | (go_at_call 35; (with_reducible refine (ref10_at _ _ _ 35 8 (by decide) (by decide) (by decide) HSL8.out HL.out stQ).mono ?_); (repeat first | rw [E8.out]); rintro e wn ⟨rfl, h⟩; replace H := Lib.hid h; clear h)
  | (go_at_call 35; (with_reducible refine (ref10_at _ _ _ 43 8 (by decide) (by decide) (by decide) HSL9.out HL.out stQ).mono ?_); (repeat first | rw [E9.out]); rintro e wn ⟨rfl, h⟩; replace H := Lib.hid h; clear h)
  | (go_at_call 35; (with_reducible refine (ref10_at _ _ _ 51 2 (by decide) (by decide) (by decide) HSL10.out HL.out stQ).mono ?_); (repeat first | rw [E10.out]); rintro e wn ⟨rfl, h⟩; replace H := Lib.hid h; clear h)
  | (go_at_call 35; (with_reducible refine (ref10_at _ _ _ 53 4 (by decide) (by decide) (by decide) HSL11.out HL.out stQ).mono ?_); (repeat first | rw [E11.out]); rintro e wn ⟨rfl, h⟩; replace H := Lib.hid h; clear h)
  | (go_at_call 35; (with_reducible refine (ref10_at _ _ _ 57 4 (by decide) (by decide) (by decide) HSL12.out HL.out stQ).mono ?_); (repeat first | rw [E12.out]); rintro e wn ⟨rfl, h⟩; replace H := Lib.hid h; clear h))
 go_ret2
 exact ⟨_, rfl, H.out⟩

set_option maxHeartbeats 1000000 in
set_option maxRecDepth 100000 in
theorem ref10_fields_m1 (s : Bs) (a0 a1 a2 a3 a4 a5 a6 a7 a8 a9 a10 a11 a12 : Int) (e0 : sInt ((s.drop 0).take 8) = a0) (e1 : sInt ((s.drop 8).take 4) = a1) (e2 : sInt ((s.drop 12).take 4) = a2) (e3 : sInt ((s.drop 16).take 1) = a3) (e4 : sInt ((s.drop 17).take 4) = a4) (e5 : sInt ((s.drop 21).take 2) = a5) (e6 : sInt ((s.drop 23).take 4) = a6) (e7 : sInt ((s.drop 27).take 8) = a7) (e8 : sInt ((s.drop 35).take 8) = a8) (e9 : sInt ((s.drop 43).take 8) = a9) (e10 : sInt ((s.drop 51).take 2) = a10) (e11 : sInt ((s.drop 53).take 4) = a11) (e12 : sInt ((s.drop 57).take 4) = a12) (hl61 : 61 ≤ s.length) (hlen : s.length ≤ 140737488355328) (hr4 : -2147483648 ≤ a4) (h4 : a4 < 0) (hm : (a3 != 2) = true) {W0 w : World} {K : Know} {L : List Res} (h : St W0 w K L) :
  Calls Tryz.prog 17 #[.string (bb s)] w fun en w' => en = .returned (.tuple #[.slice none 0 0, .int .i64 6]) ∧ St W0 w' K L := by
 have H := Lib.hid h
 have HL := Lib.hid hlen
 have hd : decide ((s.length : Int) < 61) = false := decide_eq_false (by omega)
 have E0 := Lib.hid e0
 have HSL0 := Lib.hid (show 0 + 8 ≤ s.length by omega)
 have E1 := Lib.hid e1
 have HSL1 := Lib.hid (show 8 + 4 ≤ s.length by omega)
 have E2 := Lib.hid e2
 have HSL2 := Lib.hid (show 12 + 4 ≤ s.length by omega)
 have E3 := Lib.hid e3
 have HSL3 := Lib.hid (show 16 + 1 ≤ s.length by omega)
 have E4 := Lib.hid e4
 have HSL4 := Lib.hid (show 17 + 4 ≤ s.length by omega)
 have E5 := Lib.hid e5
 have HSL5 := Lib.hid (show 21 + 2 ≤ s.length by omega)
 have E6 := Lib.hid e6
 have HSL6 := Lib.hid (show 23 + 4 ≤ s.length by omega)
 have E7 := Lib.hid e7
 have HSL7 := Lib.hid (show 27 + 8 ≤ s.length by omega)
 have E8 := Lib.hid e8
 have HSL8 := Lib.hid (show 35 + 8 ≤ s.length by omega)
 have E9 := Lib.hid e9
 have HSL9 := Lib.hid (show 43 + 8 ≤ s.length by omega)
 have E10 := Lib.hid e10
 have HSL10 := Lib.hid (show 51 + 2 ≤ s.length by omega)
 have E11 := Lib.hid e11
 have HSL11 := Lib.hid (show 53 + 4 ≤ s.length by omega)
 have E12 := Lib.hid e12
 have HSL12 := Lib.hid (show 57 + 4 ≤ s.length by omega)
 clear h hlen hl61 e0 e1 e2 e3 e4 e5 e6 e7 e8 e9 e10 e11 e12
 go_enter Tryz.func17, Tryz.ntmps17
 go_wp2_with (first
  | (go_at_call 35; (with_reducible refine (ref10_at _ _ _ 0 8 (by decide) (by decide) (by decide) HSL0.out HL.out stQ).mono ?_); (repeat first | rw [E0.out]); rintro e wn ⟨rfl, h⟩; replace H := Lib.hid h; clear h)
  | (go_at_call 35; (with_reducible refine (ref10_at _ _ _ 8 4 (by decide) (by decide) (by decide) HSL1.out HL.out stQ).mono ?_); (repeat first | rw [E1.out]); rintro e wn ⟨rfl, h⟩; replace H := Lib.hid h; clear h)
  | (go_at_call 35; (with_reducible refine (ref10_at _ _ _ 12 4 (by decide) (by decide) (by decide) HSL2.out HL.out stQ).mono ?_); (repeat first | rw [E2.out]); rintro e wn ⟨rfl, h⟩; replace H := Lib.hid h; clear h)
  | (go_at_call 35; (with_reducible refine (ref10_at _ _ _ 16 1 (by decide) (by decide) (by decide) HSL3.out HL.out (H.out.allocRaw #[.int .i64 a0, .int .i64 a1, .int .i64 a2, .int .i64 (a4 + 4294967296), .int .i64 a5, .int .i64 a6, .int .i64 a7, .int .i64 a8, .int .i64 a9, .int .i64 a10, .int .i64 a11, .int .i64 a12] 3)).mono ?_); (repeat first | rw [E3.out]); rintro e wn ⟨rfl, h⟩; replace H := Lib.hid h; clear h; have y1 := H.out.rawCell 1; have y11 := H.out.rawCell 11; simp at y1 y11)
  | (go_at_call 35; (with_reducible refine (ref10_at _ _ _ 17 4 (by decide) (by decide) (by decide) HSL4.out HL.out stQ).mono ?_); (repeat first | rw [E4.out]); rintro e wn ⟨rfl, h⟩; replace H := Lib.hid h; clear h)
  | (go_at_call 35; (with_reducible refine (ref10_at _ _ _ 21 2 (by decide) (by decide) (by decide) HSL5.out HL.out stQ).mono ?_); (repeat first | rw [E5.out]); rintro e wn ⟨rfl, h⟩; replace H := Lib.hid h; clear h)
  | (go_at_call 35; (with_reducible refine (ref10_at _ _ _ 23 4 (by decide) (by decide) (by decide) HSL6.out HL.out stQ).mono ?_); (repeat first | rw [E6.out]); rintro e wn ⟨rfl, h⟩; replace H := Lib.hid h; clear h)
  | (go_at_call 35; (with_reducible refine (ref10_at _ _ _ 27 8 (by decide) (by decide) (by decide) HSL7.out HL.out stQ).mono ?_); (repeat first | rw [E7.out]); rintro e wn ⟨rfl, h⟩; replace H := Lib.hid h; clear h)
  | (go_at_call 35; (with_reducible refine (ref10_at _ _ _ 35 8 (by decide) (by decide) (by decide) HSL8.out HL.out stQ).mono ?_); (repeat first | rw [E8.out]); rintro e wn ⟨rfl, h⟩; replace H := Lib.hid h; clear h)
  | (go_at_call 35; (with_reducible refine (ref10_at _ _ _ 43 8 (by decide) (by decide) (by decide) HSL9.out HL.out stQ).mono ?_); (repeat first | rw [E9.out]); rintro e wn ⟨rfl, h⟩; replace H := Lib.hid h; clear h)
  | (go_at_call 35; (with_reducible refine (ref10_at _ _ _ 51 2 (by decide) (by decide) (by decide) HSL10.out HL.out stQ).mono ?_); (repeat first | rw [E10.out]); rintro e wn ⟨rfl, h⟩; replace H := Lib.hid h; clear h)
  | (go_at_call 35; (with_reducible refine (ref10_at _ _ _ 53 4 (by decide) (by decide) (by decide) HSL11.out HL.out stQ).mono ?_); (repeat first | rw [E11.out]); rintro e wn ⟨rfl, h⟩; replace H := Lib.hid h; clear h)
  | (go_at_call 35; (with_reducible refine (ref10_at _ _ _ 57 4 (by decide) (by decide) (by decide) HSL12.out HL.out stQ).mono ?_); (repeat first | rw [E12.out]); rintro e wn ⟨rfl, h⟩; replace H := Lib.hid h; clear h))
 go_ret2
 exact ⟨rfl, H.out.drop⟩

set_option maxHeartbeats 1000000 in
set_option maxRecDepth 100000 in
theorem ref10_fields_l1 (s : Bs) (a0 a1 a2 a3 a4 a5 a6 a7 a8 a9 a10 a11 a12 : Int) (e0 : sInt ((s.drop 0).take 8) = a0) (e1 : sInt ((s.drop 8).take 4) = a1) (e2 : sInt ((s.drop 12).take 4) = a2) (e3 : sInt ((s.drop 16).take 1) = a3) (e4 : sInt ((s.drop 17).take 4) = a4) (e5 : sInt ((s.drop 21).take 2) = a5) (e6 : sInt ((s.drop 23).take 4) = a6) (e7 : sInt ((s.drop 27).take 8) = a7) (e8 : sInt ((s.drop 35).take 8) = a8) (e9 : sInt ((s.drop 43).take 8) = a9) (e10 : sInt ((s.drop 51).take 2) = a10) (e11 : sInt ((s.drop 53).take 4) = a11) (e12 : sInt ((s.drop 57).take 4) = a12) (hl61 : 61 ≤ s.length) (hlen : s.length ≤ 140737488355328) (hr4 : -2147483648 ≤ a4) (h4 : a4 < 0) (hm : (a3 != 2) = false) (hl : a1 < 49) {W0 w : World} {K : Know} {L : List Res} (h : St W0 w K L) :
  Calls Tryz.prog 17 #[.string (bb s)] w fun en w' => en = .returned (.tuple #[.slice none 0 0, .int .i64 4]) ∧ St W0 w' K L := by
 have H := Lib.hid h
 have HL := Lib.hid hlen
 have hd : decide ((s.length : Int) < 61) = false := decide_eq_false (by omega)
 have E0 := Lib.hid e0
 have HSL0 := Lib.hid (show 0 + 8 ≤ s.length by omega)
 have E1 := Lib.hid e1
 have HSL1 := Lib.hid (show 8 + 4 ≤ s.length by omega)
 have E2 := Lib.hid e2
 have HSL2 := Lib.hid (show 12 + 4 ≤ s.length by omega)
 have E3 := Lib.hid e3
 have HSL3 := Lib.hid (show 16 + 1 ≤ s.length by omega)
 have E4 := Lib.hid e4
 have HSL4 := Lib.hid (show 17 + 4 ≤ s.length by omega)
 have E5 := Lib.hid e5
 have HSL5 := Lib.hid (show 21 + 2 ≤ s.length by omega)
 have E6 := Lib.hid e6
 have HSL6 := Lib.hid (show 23 + 4 ≤ s.length by omega)
 have E7 := Lib.hid e7
 have HSL7 := Lib.hid (show 27 + 8 ≤ s.length by omega)
 have E8 := Lib.hid e8
 have HSL8 := Lib.hid (show 35 + 8 ≤ s.length by omega)
 have E9 := Lib.hid e9
 have HSL9 := Lib.hid (show 43 + 8 ≤ s.length by omega)
 have E10 := Lib.hid e10
 have HSL10 := Lib.hid (show 51 + 2 ≤ s.length by omega)
 have E11 := Lib.hid e11
 have HSL11 := Lib.hid (show 53 + 4 ≤ s.length by omega)
 have E12 := Lib.hid e12
 have HSL12 := Lib.hid (show 57 + 4 ≤ s.length by omega)
 clear h hlen hl61 e0 e1 e2 e3 e4 e5 e6 e7 e8 e9 e10 e11 e12
 go_enter Tryz.func17, Tryz.ntmps17
 go_wp2_with (first
  | (go_at_call 35; (with_reducible refine (ref10_at _ _ _ 0 8 (by decide) (by decide) (by decide) HSL0.out HL.out stQ).mono ?_); (repeat first | rw [E0.out]); rintro e wn ⟨rfl, h⟩; replace H := Lib.hid h; clear h)
  | (go_at_call 35; (with_reducible refine (ref10_at _ _ _ 8 4 (by decide) (by decide) (by decide) HSL1.out HL.out stQ).mono ?_); (repeat first | rw [E1.out]); rintro e wn ⟨rfl, h⟩; replace H := Lib.hid h; clear h)
  | (go_at_call 35; (with_reducible refine (ref10_at _ _ _ 12 4 (by decide) (by decide) (by decide) HSL2.out HL.out stQ).mono ?_); (repeat first | rw [E2.out]); rintro e wn ⟨rfl, h⟩; replace H := Lib.hid h; clear h)
  | (go_at_call 35; (with_reducible refine (ref10_at _ _ _ 16 1 (by decide) (by decide) (by decide) HSL3.out HL.out (H.out.allocRaw #[.int .i64 a0, .int .i64 a1, .int .i64 a2, .int .i64 (a4 + 4294967296), .int .i64 a5, .int .i64 a6, .int .i64 a7, .int .i64 a8, .int .i64 a9, .int .i64 a10, .int .i64 a11, .int .i64 a12] 3)).mono ?_); (repeat first | rw [E3.out]); rintro e wn ⟨rfl, h⟩; replace H := Lib.hid h; clear h; have y1 := H.out.rawCell 1; have y11 := H.out.rawCell 11; simp at y1 y11)
  | (go_at_call 35; (with_reducible refine (ref10_at _ _ _ 17 4 (by decide) (by decide) (by decide) HSL4.out HL.out stQ).mono ?_); (repeat first | rw [E4.out]); rintro e wn ⟨rfl, h⟩; replace H := Lib.hid h; clear h)
  | (go_at_call 35; (with_reducible refine (ref10_at _ _ _ 21 2 (by decide) (by decide) (by decide) HSL5.out HL.out stQ).mono ?_); (repeat first | rw [E5.out]); rintro e wn ⟨rfl, h⟩; replace H := Lib.hid h; clear h)
  | (go_at_call 35; (with_reducible refine (ref10_at _ _ _ 23 4 (by decide) (by decide) (by decide) HSL6.out HL.out stQ).mono ?_); (repeat first | rw [E6.out]); rintro e wn ⟨rfl, h⟩; replace H := Lib.hid h; clear h)
  | (go_at_call 35; (with_reducible refine (ref10_at _ _ _ 27 8 (by decide) (by decide) (by decide) HSL7.out HL.out stQ).mono ?_); (repeat first | rw [E7.out]); rintro e wn ⟨rfl, h⟩; replace H := Lib.hid h; clear h)
  | (go_at_call 35; (with_reducible refine (ref10_at _ _ _ 35 8 (by decide) (by decide) (by decide) HSL8.out HL.out stQ).mono ?_); (repeat first | rw [E8.out]); rintro e wn ⟨rfl, h⟩; replace H := Lib.hid h; clear h)
  | (go_at_call 35; (with_reducible refine (ref10_at _ _ _ 43 8 (by decide) (by decide) (by decide) HSL9.out HL.out stQ).mono ?_); (repeat first | rw [E9.out]); rintro e wn ⟨rfl, h⟩; replace H := Lib.hid h; clear h)
  | (go_at_call 35; (with_reducible refine (ref10_at _ _ _ 51 2 (by decide) (by decide) (by decide) HSL10.out HL.out stQ).mono ?_); (repeat first | rw [E10.out]); rintro e wn ⟨rfl, h⟩; replace H := Lib.hid h; clear h)
  | (go_at_call 35; (with_reducible refine (ref10_at _ _ _ 53 4 (by decide) (by decide) (by decide) HSL11.out HL.out stQ).mono ?_); (repeat first | rw [E11.out]); rintro e wn ⟨rfl, h⟩; replace H := Lib.hid h; clear h)
  | (go_at_call 35; (with_reducible refine (ref10_at _ _ _ 57 4 (by decide) (by decide) (by decide) HSL12.out HL.out stQ).mono ?_); (repeat first | rw [E12.out]); rintro e wn ⟨rfl, h⟩; replace H := Lib.hid h; clear h))
 go_ret2
 exact ⟨rfl, H.out.drop⟩

set_option maxHeartbeats 1000000 in
set_option maxRecDepth 100000 in
theorem ref10_fields_c1 (s : Bs) (a0 a1 a2 a3 a4 a5 a6 a7 a8 a9 a10 a11 a12 : Int) (e0 : sInt ((s.drop 0).take 8) = a0) (e1 : sInt ((s.drop 8).take 4) = a1) (e2 : sInt ((s.drop 12).take 4) = a2) (e3 : sInt ((s.drop 16).take 1) = a3) (e4 : sInt ((s.drop 17).take 4) = a4) (e5 : sInt ((s.drop 21).take 2) = a5) (e6 : sInt ((s.drop 23).take 4) = a6) (e7 : sInt ((s.drop 27).take 8) = a7) (e8 : sInt ((s.drop 35).take 8) = a8) (e9 : sInt ((s.drop 43).take 8) = a9) (e10 : sInt ((s.drop 51).take 2) = a10) (e11 : sInt ((s.drop 53).take 4) = a11) (e12 : sInt ((s.drop 57).take 4) = a12) (hl61 : 61 ≤ s.length) (hlen : s.length ≤ 140737488355328) (hr4 : -2147483648 ≤ a4) (h4 : a4 < 0) (hm : (a3 != 2) = false) (hl : ¬ a1 < 49) (hc : a12 < 0) {W0 w : World} {K : Know} {L : List Res} (h : St W0 w K L) :
  Calls Tryz.prog 17 #[.string (bb s)] w fun en w' => en = .returned (.tuple #[.slice none 0 0, .int .i64 10]) ∧ St W0 w' K L := by
 have H := Lib.hid h
 have HL := Lib.hid hlen
 have hd : decide ((s.length : Int) < 61) = false := decide_eq_false (by omega)
 have E0 := Lib.hid e0
 have HSL0 := Lib.hid (show 0 + 8 ≤ s.length by omega)
 have E1 := Lib.hid e1
 have HSL1 := Lib.hid (show 8 + 4 ≤ s.length by omega)
 have E2 := Lib.hid e2
 have HSL2 := Lib.hid (show 12 + 4 ≤ s.length by omega)
 have E3 := Lib.hid e3
 have HSL3 := Lib.hid (show 16 + 1 ≤ s.length by omega)
 have E4 := Lib.hid e4
 have HSL4 := Lib.hid (show 17 + 4 ≤ s.length by omega)
 have E5 := Lib.hid e5
 have HSL5 := Lib.hid (show 21 + 2 ≤ s.length by omega)
 have E6 := Lib.hid e6
 have HSL6 := Lib.hid (show 23 + 4 ≤ s.length by omega)
 have E7 := Lib.hid e7
 have HSL7 := Lib.hid (show 27 + 8 ≤ s.length by omega)
 have E8 := Lib.hid e8
 have HSL8 := Lib.hid (show 35 + 8 ≤ s.length by omega)
 have E9 := Lib.hid e9
 have HSL9 := Lib.hid (show 43 + 8 ≤ s.length by omega)
 have E10 := Lib.hid e10
 have HSL10 := Lib.hid (show 51 + 2 ≤ s.length by omega)
 have E11 := Lib.hid e11
 have HSL11 := Lib.hid (show 53 + 4 ≤ s.length by omega)
 have E12 := Lib.hid e12
 have HSL12 := Lib.hid (show 57 + 4 ≤ s.length by omega)
 clear h hlen hl61 e0 e1 e2 e3 e4 e5 e6 e7 e8 e9 e10 e11 e12
 go_enter Tryz.func17, Tryz.ntmps17
 go_wp2_with (first
  | (go_at_call 35; (with_reducible refine (ref10_at _ _ _ 0 8 (by decide) (by decide) (by decide) HSL0.out HL.out stQ).mono ?_); (repeat first | rw [E0.out]); rintro e wn ⟨rfl, h⟩; replace H := Lib.hid h; clear h)
  | (go_at_call 35; (with_reducible refine (ref10_at _ _ _ 8 4 (by decide) (by decide) (by decide) HSL1.out HL.out stQ).mono ?_); (repeat first | rw [E1.out]); rintro e wn ⟨rfl, h⟩; replace H := Lib.hid h; clear h)
  | (go_at_call 35; (with_reducible refine (ref10_at _ _ _ 12 4 (by decide) (by decide) (by decide) HSL2.out HL.out stQ).mono ?_); (repeat first | rw [E2.out]); rintro e wn ⟨rfl, h⟩; replace H := Lib.hid h; clear h)
  | (go_at_call 35; (with_reducible refine (ref10_at _ _ _ 16 1 (by decide) (by decide) (by decide) HSL3.out HL.out (H.out.allocRaw #[.int .i64 a0, .int .i64 a1, .int .i64 a2, .int .i64 (a4 + 4294967296), .int .i64 a5, .int .i64 a6, .int .i64 a7, .int .i64 a8, .int .i64 a9, .int .i64 a10, .int .i64 a11, .int .i64 a12] 3)).mono ?_); (repeat first | rw [E3.out]); rintro e wn ⟨rfl, h⟩; replace H := Lib.hid h; clear h; have y1 := H.out.rawCell 1; have y11 := H.out.rawCell 11; simp at y1 y11)
  | (go_at_call 35; (with_reducible refine (ref10_at _ _ _ 17 4 (by decide) (by decide) (by decide) HSL4.out HL.out stQ).mono ?_); (repeat first | rw [E4.out]); rintro e wn ⟨rfl, h⟩; replace H := Lib.hid h; clear h)
  | (go_at_call 35; (with_reducible refine (ref10_at _ _ _ 21 2 (by decide) (by decide) (by decide) HSL5.out HL.out stQ).mono ?_); (repeat first | rw [E5.out]); rintro e wn ⟨rfl, h⟩; replace H := Lib.hid h; clear h)
  | (go_at_call 35; (with_reducible refine (ref10_at _ _ _ 23 4 (by decide) (by decide) (by decide) HSL6.out HL.out stQ).mono ?_); (repeat first | rw [E6.out]); rintro e wn ⟨rfl, h⟩; replace H := Lib.hid h; clear h)
  | (go_at_call 35; (with_reducible refine (ref10_at _ _ _ 27 8 (by decide) (by decide) (by decide) HSL7.out HL.out stQ).mono ?_); (repeat first | rw [E7.out]); rintro e wn ⟨rfl, h⟩; replace H := Lib.hid h; clear h)
  | (go_at_call 35; (with_reducible refine (ref10_at _ _ _ 35 8 (by decide) (by decide) (by decide) HSL8.out HL.out stQ).mono ?_); (repeat first | rw [E8.out]); rintro e wn ⟨rfl, h⟩; replace H := Lib.hid h; clear h)
  | (go_at_call 35; (with_reducible refine (ref10_at _ _ _ 43 8 (by decide) (by decide) (by decide) HSL9.out HL.out stQ).mono ?_); (repeat first | rw [E9.out]); rintro e wn ⟨rfl, h⟩; replace H := Lib.hid h; clear h)
  | (go_at_call 35; (with_reducible refine (ref10_at _ _ _ 51 2 (by decide) (by decide) (by decide) HSL10.out HL.out stQ).mono ?_); (repeat first | rw [E10.out]); rintro e wn ⟨rfl, h⟩; replace H := Lib.hid h; clear h)
  | (go_at_call 35; (with_reducible refine (ref10_at _ _ _ 53 4 (by decide) (by decide) (by decide) HSL11.out HL.out stQ).mono ?_); (repeat first | rw [E11.out]); rintro e wn ⟨rfl, h⟩; replace H := Lib.hid h; clear h)
  | (go_at_call 35; (with_reducible refine (ref10_at _ _ _ 57 4 (by decide) (by decide) (by decide) HSL12.out HL.out stQ).mono ?_); (repeat first | rw [E12.out]); rintro e wn ⟨rfl, h⟩; replace H := Lib.hid h; clear h))
 go_ret2
 exact ⟨rfl, H.out.drop⟩

set_option maxHeartbeats 1000000 in
set_option maxRecDepth 100000 in
theorem ref10_fields_ok1 (s : Bs) (a0 a1 a2 a3 a4 a5 a6 a7 a8 a9 a10 a11 a12 : Int) (e0 : sInt ((s.drop 0).take 8) = a0) (e1 : sInt ((s.drop 8).take 4) = a1) (e2 : sInt ((s.drop 12).take 4) = a2) (e3 : sInt ((s.drop 16).take 1) = a3) (e4 : sInt ((s.drop 17).take 4) = a4) (e5 : sInt ((s.drop 21).take 2) = a5) (e6 : sInt ((s.drop 23).take 4) = a6) (e7 : sInt ((s.drop 27).take 8) = a7) (e8 : sInt ((s.drop 35).take 8) = a8) (e9 : sInt ((s.drop 43).take 8) = a9) (e10 : sInt ((s.drop 51).take 2) = a10) (e11 : sInt ((s.drop 53).take 4) = a11) (e12 : sInt ((s.drop 57).take 4) = a12) (hl61 : 61 ≤ s.length) (hlen : s.length ≤ 140737488355328) (hr4 : -2147483648 ≤ a4) (h4 : a4 < 0) (hm : (a3 != 2) = false) (hl : ¬ a1 < 49) (hc : ¬ a12 < 0) {W0 w : World} {K : Know} {L : List Res} (h : St W0 w K L) :
  Calls Tryz.prog 17 #[.string (bb s)] w fun en w' => ∃ bl, en = .returned (.tuple #[.slice (some ⟨bl, 0, none⟩) 12 12, .int .i64 0]) ∧ St W0 w' K (.raw bl #[.int .i64 a0, .int .i64 a1, .int .i64 a2, .int .i64 (a4 + 4294967296), .int .i64 a5, .int .i64 a6, .int .i64 a7, .int .i64 a8, .int .i64 a9, .int .i64 a10, .int .i64 a11, .int .i64 a12] 3 :: L) := by
 have H := Lib.hid h
 have HL := Lib.hid hlen
 have hd : decide ((s.length : Int) < 61) = false := decide_eq_false (by omega)
 have E0 := Lib.hid e0
 have HSL0 := Lib.hid (show 0 + 8 ≤ s.length by omega)
 have E1 := Lib.hid e1
 have HSL1 := Lib.hid (show 8 + 4 ≤ s.length by omega)
 have E2 := Lib.hid e2
 have HSL2 := Lib.hid (show 12 + 4 ≤ s.length by omega)
 have E3 := Lib.hid e3
 have HSL3 := Lib.hid (show 16 + 1 ≤ s.length by omega)
 have E4 := Lib.hid e4
 have HSL4 := Lib.hid (show 17 + 4 ≤ s.length by omega)
 have E5 := Lib.hid e5
 have HSL5 := Lib.hid (show 21 + 2 ≤ s.length by omega)
 have E6 := Lib.hid e6
 have HSL6 := Lib.hid (show 23 + 4 ≤ s.length by omega)
 have E7 := Lib.hid e7
 have HSL7 := Lib.hid (show 27 + 8 ≤ s.length by omega)
 have E8 := Lib.hid e8
 have HSL8 := Lib.hid (show 35 + 8 ≤ s.length by omega)
 have E9 := Lib.hid e9
 have HSL9 := Lib.hid (show 43 + 8 ≤ s.length by omega)
 have E10 := Lib.hid e10
 have HSL10 := Lib.hid (show 51 + 2 ≤ s.length by omega)
 have E11 := Lib.hid e11
 have HSL11 := Lib.hid (show 53 + 4 ≤ s.length by omega)
 have E12 := Lib.hid e12
 have HSL12 := Lib.hid (show 57 + 4 ≤ s.length by omega)
 clear h hlen hl61 e0 e1 e2 e3 e4 e5 e6 e7 e8 e9 e10 e11 e12
 go_enter Tryz.func17, Tryz.ntmps17
 go_wp2_with (first
  | (go_at_call 35; (with_reducible refine (ref10_at _ _ _ 0 8 (by decide) (by decide) (by decide) HSL0.out HL.out stQ).mono ?_); (repeat first | rw [E0.out]); rintro e wn ⟨rfl, h⟩; replace H := Lib.hid h; clear h)
  | (go_at_call 35; (with_reducible refine (ref10_at _ _ _ 8 4 (by decide) (by decide) (by decide) HSL1.out HL.out stQ).mono ?_); (repeat first | rw [E1.out]); rintro e wn ⟨rfl, h⟩; replace H := Lib.hid h; clear h)
  | (go_at_call 35; (with_reducible refine (ref10_at _ _ _ 12 4 (by decide) (by decide) (by decide) HSL2.out HL.out stQ).mono ?_); (repeat first | rw [E2.out]); rintro e wn ⟨rfl, h⟩; replace H := Lib.hid h; clear h)
  | (go_at_call 35; (with_reducible refine (ref10_at _ _ _ 16 1 (by decide) (by decide) (by decide) HSL3.out HL.out (H.out.allocRaw #[.int .i64 a0, .int .i64 a1, .int .i64 a2, .int .i64 (a4 + 4294967296), .int .i64 a5, .int .i64 a6, .int .i64 a7, .int .i64 a8, .int .i64 a9, .int .i64 a10, .int .i64 a11, .int .i64 a12] 3)).mono ?_); (repeat first | rw [E3.out]); rintro e wn ⟨rfl, h⟩; replace H := Lib.hid h; clear h; have y1 := H.out.rawCell 1; have y11 := H.out.rawCell 11; simp at y1 y11)
  | (go_at_call 35; (with_reducible refine (ref10_at _ _ _ 17 4 (by decide) (by decide) (by decide) HSL4.out HL.out stQ).mono ?_); (repeat first | rw [E4.out]); rintro e wn ⟨rfl, h⟩; replace H := Lib.hid h; clear h)
  | (go_at_call 35; (with_reducible refine (ref10_at _ _ _ 21 2 (by decide) (by decide) (by decide) HSL5.out HL.out stQ).mono ?_); (repeat first | rw [E5.out]); rintro e wn ⟨rfl, h⟩; replace H := Lib.hid h; clear h)
  | (go_at_call 35; (with_reducible refine (ref10_at _ _ _ 23 4 (by decide) (by decide) (by decide) HSL6.out HL.out stQ).mono ?_); (repeat first | rw [E6.out]); rintro e wn ⟨rfl, h⟩; replace H := Lib.hid h; clear h)
  | (go_at_call 35; (with_reducible refine (ref10_at _ _ _ 27 8 (by decide) (by decide) (by decide) HSL7.out HL.out stQ).mono ?_); (repeat first | rw [E7.out]); rintro e wn ⟨rfl, h⟩; replace H := Lib.hid h; clear h)
  | (go_at_call 35; (with_reducible refine (ref10_at _ _ _ 35 8 (by decide) (by decide) (by decide) HSL8.out HL.out stQ).mono ?_); (repeat first | rw [E8.out]); rintro e wn ⟨rfl, h⟩; replace H := Lib.hid h; clear h)
  | (go_at_call 35; (with_reducible refine (ref10_at _ _ _ 43 8 (by decide) (by decide) (by decide) HSL9.out HL.out stQ).mono ?_); (repeat first | rw [E9.out]); rintro e wn ⟨rfl, h⟩; replace H := Lib.hid h; clear h)
  | (go_at_call 35; (with_reducible refine (ref10_at _ _ _ 51 2 (by decide) (by decide) (by decide) HSL10.out HL.out stQ).mono ?_); (repeat first | rw [E10.out]); rintro e wn ⟨rfl, h⟩; replace H := Lib.hid h; clear h)
  | (go_at_call 35; (with_reducible refine (ref10_at _ _ _ 53 4 (by decide) (by decide) (by decide) HSL11.out HL.out stQ).mono ?_); (repeat first | rw [E11.out]); rintro e wn ⟨rfl, h⟩; replace H := Lib.hid h; clear h)
  | (go_at_call 35; (with_reducible refine (ref10_at _ _ _ 57 4 (by decide) (by decide) (by decide) HSL12.out HL.out stQ).mono ?_); (repeat first | rw [E12.out]); rintro e wn ⟨rfl, h⟩; replace H := Lib.hid h; clear h))
 go_ret2
 exact ⟨_, rfl, H.out⟩
theorem encInts_append (a b : List (Int × Nat)) : encInts (a ++ b) = encInts a ++ encInts b := List.flatMap_append
theorem FitsAll.nil : FitsAll [] := fun _ hx => by cases hx
theorem FitsAll.append {a b : List (Int × Nat)} (h : FitsAll a) (k : FitsAll b) : FitsAll (a ++ b) := fun x hx => (List.mem_append.1 hx).elim (h x) (k x)
theorem FitsAll.one {n : Int} {z : Nat} (h : fits n z) : FitsAll [(n, z)] := fun x hx => by simp at hx; subst hx; exact h
theorem sumItem_fits (n : Int) (h0 : ¬ n < 0) (h1 : ¬ 4294967295 < n) : fits (sumItem n) 4 := by
 have e4 : half 4 = 2147483648 := by decide
 unfold fits sumItem
 rw [if_neg (by omega)]
 refine ⟨by decide, by decide, ?_⟩
 have : (4 : Int).toNat = 4 := rfl
 rw [this, e4]
 split <;> omega
theorem sumItem_bad (n : Int) (h : n < 0 ∨ 4294967295 < n) : ¬ fits (sumItem n) 4 := by
 have e : sumItem n = 4294967296 := if_pos h
 rw [e]
 decide
def preX (s : Bs) : PreS × Int := preOfL (intsOf preSizes s)
def rePre (s : Bs) : Except Int PreS := if s.length < 61 then .error 1 else if (preX s).2 = 2 then (if (preX s).1.len < 49 then .error 4 else if (preX s).1.count < 0 then .error 10 else .ok (preX s).1) else .error 6
theorem InS.fail_stuck_Pre6 {i : InS} (h : i.err ≠ 0) (e : Int) : i.fail e = i := if_neg h
theorem InS.fail_ok0 (s : Bs) (p : Nat) (e : Int) : (⟨s, p, 0⟩ : InS).fail e = ⟨s, p, e⟩ := rfl
theorem preChk_stuck (x : PreS) (m : Int) {i : InS} (h : i.err ≠ 0) : preChk x m i = i := by
 unfold preChk
 simp only [InS.fail_stuck_Pre6 h, ite_self]
theorem pre_okA (s : Bs) (pos : Nat) (hp : pos + 61 ≤ s.length) : (⟨s, pos, 0⟩ : InS).pre = match rePre (s.drop pos) with | .ok x => (x, ⟨s, pos + 61, 0⟩) | .error e => (PreS.zero, ⟨s, pos + 61, e⟩) := by
 have h1 := ints_ok preSizes s pos (by decide) hp
 have h2 : preSizes.sum = 61 := rfl
 rw [h2] at h1
 unfold InS.pre
 rw [h1]
 unfold rePre preX
 rw [if_neg (by rw [List.length_drop]; omega)]
 obtain ⟨x, m⟩ := preOfL (intsOf preSizes (s.drop pos))
 simp only [preChk]
 by_cases hm : m = 2
 · rw [if_pos hm, if_pos hm]
   by_cases hl : x.len < 49
   · rw [if_pos hl, if_pos hl, InS.fail_ok0, InS.fail_stuck_Pre6 (show (4 : Int) ≠ 0 by decide), ite_self, if_neg (show ¬ (4 : Int) = 0 by decide)]
   · rw [if_neg hl, if_neg hl]
     by_cases hc : x.count < 0
     · rw [if_pos hc, if_pos hc, InS.fail_ok0, if_neg (show ¬ (10 : Int) = 0 by decide)]
     · rw [if_neg hc, if_neg hc, if_pos rfl]
 · have hs : ∀ e : Int, (⟨s, pos + 61, 6⟩ : InS).fail e = ⟨s, pos + 61, 6⟩ := fun e => InS.fail_stuck_Pre6 (show (6 : Int) ≠ 0 by decide) e
   rw [if_neg hm, if_neg hm, InS.fail_ok0]
   simp only [hs, ite_self]
   rw [if_neg (show ¬ (6 : Int) = 0 by decide)]
theorem pre_shortA (s : Bs) (pos : Nat) (hp : pos ≤ s.length) (hs : s.length < pos + 61) : ∃ q, q ≤ s.length ∧ (⟨s, pos, 0⟩ : InS).pre = (PreS.zero, ⟨s, q, 1⟩) := by
 obtain ⟨q, h1, h2⟩ := ints_short preSizes s pos (by decide) hp hs
 refine ⟨q, h1, ?_⟩
 unfold InS.pre
 rw [h2, preChk_stuck _ _ (show (1 : Int) ≠ 0 by decide)]
 simp only
 rw [if_neg (by decide)]
theorem rePre_short {s : Bs} (h : s.length < 61) : rePre s = .error 1 := if_pos h
theorem intsOf_take : ∀ (l : List Nat) (s : Bs) (n : Nat), l.sum ≤ n → intsOf l (s.take n) = intsOf l s
  | [], _, _, _ => rfl
  | k :: t, s, n, h => by
    rw [List.sum_cons] at h
    unfold intsOf
    rw [List.take_take, Nat.min_eq_left (by omega), List.drop_take, intsOf_take t (s.drop k) (n - k) (by omega)]
theorem rePre_take (s : Bs) (h : 61 ≤ s.length) : rePre (s.take 61) = rePre s := by
 unfold rePre preX
 rw [intsOf_take preSizes s 61 (by decide), List.length_take, Nat.min_eq_left h, if_neg (show ¬ 61 < 61 by decide), if_neg (show ¬ s.length < 61 by omega)]
theorem sInt_range4 (s : Bs) (h : s.length ≤ 4) : -2147483648 ≤ sInt s ∧ sInt s < 2147483648 := by
 rcases (by omega : s.length = 0 ∨ (1 ≤ s.length ∧ s.length ≤ 4)) with h0 | h0
 · have : s = [] := List.length_eq_zero_iff.1 h0
   subst this
   decide
 · have h1 := (sInt_fits s s.length h0.1 (by omega) rfl).2.2
   rw [Int.toNat_natCast] at h1
   have h2 : half s.length ≤ 2147483648 := by
    rcases (by omega : s.length = 1 ∨ s.length = 2 ∨ s.length = 3 ∨ s.length = 4) with h | h | h | h <;> rw [h] <;> decide
   omega
theorem preX_eq (s : Bs) : preX s = (⟨sInt (s.take 8), sInt ((s.drop 8).take 4), sInt ((s.drop 12).take 4), sInt ((s.drop 17).take 4) % 4294967296, sInt ((s.drop 21).take 2), sInt ((s.drop 23).take 4), sInt ((s.drop 27).take 8), sInt ((s.drop 35).take 8), sInt ((s.drop 43).take 8), sInt ((s.drop 51).take 2), sInt ((s.drop 53).take 4), sInt ((s.drop 57).take 4)⟩, sInt ((s.drop 16).take 1)) := by
 unfold preX preSizes
 simp only [intsOf, List.drop_drop, Nat.reduceAdd]
 rfl
theorem preX_len (s : Bs) : -2147483648 ≤ (preX s).1.len ∧ (preX s).1.len < 2147483648 := by
 rw [preX_eq]
 exact sInt_range4 _ (by rw [List.length_take]; omega)
def peekS (s : Bs) : Int × Int := if s.length < 61 then (0, 0) else match rePre s with | .ok x => (x.len + 12, 0) | .error e => (0, e)
theorem rePre_ok {s : Bs} {x : PreS} (h : rePre s = .ok x) : 61 ≤ s.length ∧ (preX s).1 = x ∧ (preX s).2 = 2 ∧ 49 ≤ x.len ∧ 0 ≤ x.count := by
 unfold rePre at h
 split at h
 · cases h
 split at h
 · split at h
   · cases h
   · split at h
     · cases h
     · cases h
       exact ⟨by omega, rfl, by assumption, by omega, by omega⟩
 · cases h
theorem rePre_err {s : Bs} {e : Int} (h : rePre s = .error e) : e ≠ 0 := by
 unfold rePre at h
 split at h
 · cases h; decide
 split at h
 · split at h
   · cases h; decide
   · split at h
     · cases h; decide
     · cases h
 · cases h; decide

theorem prefix_readQ (p : Nat) (i j : InS) (x : PreS) (hx : i.pre = (x, j)) {W0 w : World} {K : Know} {L : List Res} (h : St W0 w K (.inp p i :: L)) :
  Calls Tryz.prog 71 #[inPtr p] w fun en w' => en = .returned (.agg #[.int .i64 x.base, .int .i64 x.len, .int .i64 x.leader, .int .i64 x.sum, .int .i64 x.attr, .int .i64 x.last, .int .i64 x.first, .int .i64 x.maxt, .int .i64 x.prod, .int .i64 x.epoch, .int .i64 x.seq, .int .i64 x.count]) ∧ St W0 w' K (.inp p j :: L) := by
 have := prefix_read p i h; rw [hx] at this; exact this

set_option maxHeartbeats 1000000 in
set_option maxRecDepth 100000 in
theorem prefix_peek_short (s : Bs) (hs : s.length < 61) {W0 w : World} {K : Know} {L : List Res} (h : St W0 w K L) :
  Calls Tryz.prog 40 #[.string (bb s)] w fun en w' => en = .returned (.tuple #[.int .i64 0, .int .i64 0]) ∧ St W0 w' K L := by
 have hd : decide ((s.length : Int) < 61) = true := decide_eq_true (by omega)
 have H := Lib.hid h
 clear h hs
 go_enter Tryz.func40, Tryz.ntmps40
 go_wp2
 go_ret2
 exact ⟨rfl, H.out⟩

set_option maxHeartbeats 1000000 in
set_option maxRecDepth 100000 in
theorem prefix_peek_ok (s : Bs) (x : PreS) (j : InS) (h61 : 61 ≤ s.length) (hl : s.length ≤ 140737488355328) (hp : (⟨s.take 61, 0, 0⟩ : InS).pre = (x, j)) (hj : j.err = 0) (hx : -2147483648 ≤ x.len ∧ x.len < 2147483648) {W0 w : World} {K : Know} {L : List Res} (h : St W0 w K L) :
  Calls Tryz.prog 40 #[.string (bb s)] w fun en w' => en = .returned (.tuple #[.int .i64 (x.len + 12), .int .i64 0]) ∧ St W0 w' K L := by
 have hd : decide ((s.length : Int) < 61) = false := decide_eq_false (by omega)
 have H := Lib.hid h
 have HP := Lib.hid hp
 have HJ := Lib.hid hj
 have HL := Lib.hid (show (s.take 61).length ≤ 140737488355328 by rw [List.length_take]; omega)
 obtain ⟨b1, b2⟩ := hx
 clear h hp hj hl 
 go_enter Tryz.func40, Tryz.ntmps40
 go_wp2_with (first
  | (go_at_call 41; refine (s_new _ HL.out H.out).mono ?_; rintro e wn ⟨bi, rfl, h⟩; replace H := Lib.hid h; clear h)
  | (go_at_call 71; (with_reducible refine (prefix_readQ _ _ j x HP.out H.out).mono ?_); rintro e wn ⟨rfl, h⟩; replace H := Lib.hid h; clear h; replace H := Lib.hid (H.out.allocRaw #[.int .i64 x.base, .int .i64 x.len, .int .i64 x.leader, .int .i64 x.sum, .int .i64 x.attr, .int .i64 x.last, .int .i64 x.first, .int .i64 x.maxt, .int .i64 x.prod, .int .i64 x.epoch, .int .i64 x.seq, .int .i64 x.count] 81).p1)
  | (go_at_call 43; (with_reducible refine (s_err _ _ H.out).mono ?_); (repeat first | rw [HJ.out]); rintro e wn ⟨rfl, h⟩; replace H := Lib.hid h; clear h; have y1 := H.out.p1.rawCell 1; simp at y1))
 go_ret2
 exact ⟨rfl, H.out.drop.drop⟩

set_option maxHeartbeats 1000000 in
set_option maxRecDepth 100000 in
theorem prefix_peek_bad (s : Bs) (x : PreS) (j : InS) (h61 : 61 ≤ s.length) (hl : s.length ≤ 140737488355328) (hp : (⟨s.take 61, 0, 0⟩ : InS).pre = (x, j)) (e : Int) (hj : j.err = e) (he : e ≠ 0) {W0 w : World} {K : Know} {L : List Res} (h : St W0 w K L) :
  Calls Tryz.prog 40 #[.string (bb s)] w fun en w' => en = .returned (.tuple #[.int .i64 0, .int .i64 e]) ∧ St W0 w' K L := by
 have hd : decide ((s.length : Int) < 61) = false := decide_eq_false (by omega)
 have H := Lib.hid h
 have HP := Lib.hid hp
 have HJ := Lib.hid hj
 have HL := Lib.hid (show (s.take 61).length ≤ 140737488355328 by rw [List.length_take]; omega)
 have heb : (e != 0) = true := by rw [bne_iff_ne]; exact he
 clear h hp hj hl he
 go_enter Tryz.func40, Tryz.ntmps40
 go_wp2_with (first
  | (go_at_call 41; refine (s_new _ HL.out H.out).mono ?_; rintro e wn ⟨bi, rfl, h⟩; replace H := Lib.hid h; clear h)
  | (go_at_call 71; (with_reducible refine (prefix_readQ _ _ j x HP.out H.out).mono ?_); rintro e wn ⟨rfl, h⟩; replace H := Lib.hid h; clear h; replace H := Lib.hid (H.out.allocRaw #[.int .i64 x.base, .int .i64 x.len, .int .i64 x.leader, .int .i64 x.sum, .int .i64 x.attr, .int .i64 x.last, .int .i64 x.first, .int .i64 x.maxt, .int .i64 x.prod, .int .i64 x.epoch, .int .i64 x.seq, .int .i64 x.count] 81).p1)
  | (go_at_call 43; (with_reducible refine (s_err _ _ H.out).mono ?_); (repeat first | rw [HJ.out]); rintro e wn ⟨rfl, h⟩; replace H := Lib.hid h; clear h; have y1 := H.out.p1.rawCell 1; simp at y1))
 go_ret2
 exact ⟨rfl, H.out.drop.drop⟩

theorem prefix_peek (s : Bs) (n e : Int) (hp : peekS s = (n, e)) (hl : s.length ≤ 140737488355328) {W0 w : World} {K : Know} {L : List Res} (h : St W0 w K L) :
   Calls Tryz.prog 40 #[.string (bb s)] w fun en w' => en = .returned (.tuple #[.int .i64 n, .int .i64 e]) ∧ St W0 w' K L := by
 unfold peekS at hp
 by_cases h1 : s.length < 61
 · rw [if_pos h1] at hp
   cases hp
   exact prefix_peek_short s h1 h
 · rw [if_neg h1] at hp
   have h61 : (s.take 61).length = 61 := by rw [List.length_take]; omega
   have hp2 := pre_okA (s.take 61) 0 (by omega)
   rw [List.drop_zero, rePre_take s (by omega)] at hp2
   cases hr : rePre s with
   | ok x =>
    rw [hr] at hp hp2
    cases hp
    have hx := preX_len s
    rw [(rePre_ok hr).2.1] at hx
    exact prefix_peek_ok s x _ (by omega) hl hp2 rfl hx h
   | error e' =>
    rw [hr] at hp hp2
    cases hp
    exact prefix_peek_bad s _ _ (by omega) hl hp2 e rfl (rePre_err hr) h
def reBat (s : Bs) : Except Int (BatS × Nat) := match rePre s with
  | .error e => .error e
  | .ok x => if s.length < 61 + (x.len - 49).toNat then .error 1 else match asmB x (s.take 61) ((s.drop 61).take (x.len - 49).toNat) with
    | .error e => .error e
    | .ok b => .ok (b, 61 + (x.len - 49).toNat)
theorem pre_ranges {s : Bs} {x : PreS} (h : rePre s = .ok x) : (-2147483648 ≤ x.len ∧ x.len < 2147483648) ∧ 49 ≤ x.len ∧ R64 x.attr ∧ 0 ≤ x.count ∧ x.count ≤ 2147483647 ∧ x.first ≤ 9223372036854775807 := by
 obtain ⟨h1, h2, _, h3, h4⟩ := rePre_ok h
 have hl := preX_len s
 rw [h2] at hl
 rw [preX_eq] at h2
 have h2 := h2.symm
 subst h2
 simp only at *
 have a := sInt_range ((s.drop 21).take 2) (by rw [List.length_take]; omega)
 have b := sInt_range ((s.drop 27).take 8) (by rw [List.length_take]; omega)
 have c := sInt_range4 ((s.drop 57).take 4) (by rw [List.length_take]; omega)
 exact ⟨hl, h3, a, h4, by omega, by omega⟩
theorem reBat_ne {s : Bs} {e : Int} (h : reBat s = .error e) : e ≠ 0 := by
 unfold reBat at h
 split at h
 · rename_i f hp
   cases h
   exact rePre_err hp
 · split at h
   · cases h; decide
   · split at h
     · rename_i f ha
       cases h
       exact asmB_ne ha
     · cases h
theorem reBat_ok {s : Bs} {b : BatS} {n : Nat} (h : reBat s = .ok (b, n)) : ∃ x, rePre s = .ok x ∧ n = 61 + (x.len - 49).toNat ∧ n ≤ s.length ∧ asmB x (s.take 61) ((s.drop 61).take (x.len - 49).toNat) = .ok b := by
 unfold reBat at h
 split at h
 · cases h
 · rename_i x hp
   split at h
   · cases h
   · split at h
     · cases h
     · rename_i c ha
       cases h
       exact ⟨x, hp, rfl, by omega, ha⟩

end Go.Proofs.YtngojlinfdokpaaGreat
