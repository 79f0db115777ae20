/- Contracts: what stands in a record, by the document: in all. -/
import Derived.Test.YtkenneeejdngaaaRec13
namespace Go.Proofs.Ytkenneeejdngaaa
open Go.RowKit

theorem ri_attr {s : Bs} {a : Int} (h0 : getIntN 1 s = .ok (a, 1)) (ha : a ≠ 0) : reInner s = .error 8 := by unfold reInner; rw [h0]; simp only; rw [if_neg ha]
theorem ri_time {s : Bs} {e : Int} (h0 : getIntN 1 s = .ok (0, 1)) (h1 : vgetL (s.drop 1) = .error e) : reInner s = .error e := by unfold reInner; rw [h0]; simp only [if_true]; rw [h1]
theorem ri_off {s : Bs} {e t : Int} {k : Nat} (h0 : getIntN 1 s = .ok (0, 1)) (h1 : vgetL (s.drop 1) = .ok (t, k)) (h2 : vgetI (s.drop (1 + k)) = .error e) : reInner s = .error e := by
  unfold reInner; rw [h0]; simp only [if_true]; rw [h1]; simp only; rw [h2]
theorem ri_neg {s : Bs} {t o : Int} {k m : Nat} (h0 : getIntN 1 s = .ok (0, 1)) (h1 : vgetL (s.drop 1) = .ok (t, k)) (h2 : vgetI (s.drop (1 + k)) = .ok (o, m)) (ho : o < 0) : reInner s = .error 11 := by
  unfold reInner; rw [h0]; simp only [if_true]; rw [h1]; simp only; rw [h2]; simp only; rw [if_pos ho]
theorem ri_rest {s : Bs} {t o : Int} {k m : Nat} (h0 : getIntN 1 s = .ok (0, 1)) (h1 : vgetL (s.drop 1) = .ok (t, k)) (h2 : vgetI (s.drop (1 + k)) = .ok (o, m)) (ho : ¬ o < 0) : reInner s =
    match revaried (s.drop (1 + k + m)) with
          | .error e => .error e
          | .ok kk => match revaried (s.drop (1 + k + m + kk.2)) with
            | .error e => .error e
            | .ok v => match reHdrs (s.drop (1 + k + m + kk.2 + v.2)) with
              | .error e => .error e
              | .ok h => if 1 + k + m + kk.2 + v.2 + h.2 = s.length then .ok ⟨t, o, kk.1, v.1, h.1⟩ else .error 2 := by
  unfold reInner; rw [h0]; simp only [if_true]; rw [h1]; simp only; rw [h2]; simp only; rw [if_neg ho]
  rfl
def Post9 (r : Except Int RecS) (K : Know) (W0 : World) (L : List Res) (en : Ending) (w' : World) : Prop := match r with
  | .ok x => ∃ v, en = .returned (.agg #[.int .i64 x.time, .int .i64 x.off, .bool x.key.null, .string (bb x.key.data), .bool x.val.null, .string (bb x.val.data), v, .int .i64 0, .int .i64 0]) ∧ St W0 w' (K.and (Know.flat RHdr v 3 x.hdrs)) L
  | .error e => en = .returned (.agg #[.int .i64 0, .int .i64 0, .bool false, .string ⟨#[]⟩, .bool false, .string ⟨#[]⟩, .slice none 0 0, .int .i64 0, .int .i64 e]) ∧ St W0 w' K L
theorem vgetF_lt {top most : Nat} {l : Bs} {u k : Nat} (ht : top < 128) (hm : top = 1 ∧ most = 10 ∨ top = 15 ∧ most = 5) (h : vgetF top most 0 0 l = .ok (u, k)) : u < 18446744073709551616 := by
  rcases hm with ⟨rfl, rfl⟩ | ⟨rfl, rfl⟩
  · have h1 : vgetL l = .ok (backN u, k) := by unfold vgetL; rw [h]
    obtain ⟨_, _, _, g4, g5⟩ := vgetL_one h1
    unfold backN at g4 g5
    omega
  · have h1 : vgetI l = .ok (backN u, k) := by unfold vgetI; rw [h]
    obtain ⟨_, _, _, g4, g5⟩ := vgetI_one h1
    unfold backN at g4 g5
    omega
theorem vgetF_nz {top most : Nat} {l : Bs} {e : Int} (h : vgetF top most 0 0 l = .error e) : (e != 0) = true := bne_iff_ne.2 (digs_err top most 0 0 l 0 e (Nat.zero_le _) (by rw [List.drop_zero]; exact h)).1
theorem reHdrs_nz {l : Bs} {e : Int} (h : reHdrs l = .error e) : (e != 0) = true := bne_iff_ne.2 (rds_hdrs.err l 0 e (Nat.zero_le _) (by rw [List.drop_zero]; exact h)).1

theorem ref07_inner (s : Bs) (hs : s.length ≤ 1000000) {W0 w : World} {K : Know} {L : List Res} (h : St W0 w K L) :
    Calls Try.prog 77 #[.string (bb s)] w (Post9 (reInner s) K W0 L) := by
  cases s with
  | nil => exact (ref07_inner_none h).mono fun en w' hh => hh
  | cons c t =>
    have hl1 : 0 < (c :: t).length := by simp
    have hlen : (c :: t).length = t.length + 1 := rfl
    have h0 : getIntN 1 (c :: t) = .ok (sByte c, 1) := by
      unfold getIntN
      rw [if_neg (by simp)]
      rfl
    have hlt : t.length ≤ 1000000 := by omega
    by_cases hc : c = 0
    · subst hc
      have h0 : getIntN 1 (0 :: t) = .ok (0, 1) := h0
      obtain ⟨s, hsd⟩ : ∃ s : Bs, s = 0 :: t := ⟨_, rfl⟩
      cases hv1 : vgetF 1 10 0 0 t with
      | error e =>
        have hr := ri_time h0 (show vgetL ((0 :: t : Bs).drop 1) = .error e by unfold vgetL; show (match vgetF 1 10 0 0 t with | .ok x => _ | .error e => _) = _; rw [hv1])
        rw [hr]
        exact ref07_inner_time t e hv1 (vgetF_nz hv1) (by omega) h
      | ok x1 =>
        obtain ⟨u, k⟩ := x1
        have g1 : vgetL ((0 :: t : Bs).drop 1) = .ok (backN u, k) := by unfold vgetL; show (match vgetF 1 10 0 0 t with | .ok x => _ | .error e => _) = _; rw [hv1]
        obtain ⟨_, _, hk0⟩ := putU_of_vget (by decide) hv1
        have hu := vgetF_lt (by decide) (.inl ⟨rfl, rfl⟩) hv1
        have hk : 1 + k ≤ (0 :: t : Bs).length := by simp only [List.length_cons]; omega
        obtain ⟨s2, q2⟩ : ∃ s2, (0 :: t : Bs).drop (1 + k) = s2 := ⟨_, rfl⟩
        cases hv2 : vgetF 15 5 0 0 s2 with
        | error e =>
          rw [ri_off h0 g1 (show vgetI ((0 :: t : Bs).drop (1 + k)) = .error e by rw [q2]; unfold vgetI; rw [hv2])]
          exact ref07_inner_off (0 :: t) t u k hl1 rfl rfl hv1 hu hs s2 hk q2 e hv2 (vgetF_nz hv2) h
        | ok x2 =>
          obtain ⟨v, m⟩ := x2
          have g2 : vgetI ((0 :: t : Bs).drop (1 + k)) = .ok (backN v, m) := by rw [q2]; unfold vgetI; rw [hv2]
          obtain ⟨_, _, hm⟩ := putU_of_vget (by decide) hv2
          have hvv := vgetF_lt (by decide) (.inr ⟨rfl, rfl⟩) hv2
          by_cases ho : backN v < 0
          · rw [ri_neg h0 g1 g2 ho]
            exact ref07_inner_neg (0 :: t) t u k hl1 rfl rfl hv1 hu hs s2 hk q2 v m _ _ hv2 rfl rfl hvv ho h
          rw [ri_rest h0 g1 g2 ho]
          have ho : 0 ≤ backN v := by omega
          obtain ⟨s3, q3⟩ : ∃ s3, s2.drop m = s3 := ⟨_, rfl⟩
          have e3 : (0 :: t : Bs).drop (1 + k + m) = s3 := by rw [← q3, ← q2, List.drop_drop]
          rw [e3]
          cases hg1 : revaried s3 with
          | error e => exact ref07_inner_key (0 :: t) t u k hl1 rfl rfl hv1 hu hs s2 hk q2 v m _ _ hv2 rfl rfl hvv s3 hm q3 ho e hg1 (bne_iff_ne.2 (revaried_nz hg1)) h
          | ok x3 =>
            obtain ⟨kb, ka⟩ := x3
            obtain ⟨_, _, hka, _⟩ := revaried_one hg1
            obtain ⟨s4, q4⟩ : ∃ s4, s3.drop ka = s4 := ⟨_, rfl⟩
            have e4 : (0 :: t : Bs).drop (1 + k + m + ka) = s4 := by rw [← q4, ← e3, List.drop_drop]
            simp only
            rw [e4]
            cases hg2 : revaried s4 with
            | error e => exact ref07_inner_val (0 :: t) t u k hl1 rfl rfl hv1 hu hs s2 hk q2 v m _ _ hv2 rfl rfl hvv s3 hm q3 ho s4 kb ka hka q4 hg1 e hg2 (bne_iff_ne.2 (revaried_nz hg2)) h
            | ok x4 =>
              obtain ⟨vb, va⟩ := x4
              obtain ⟨_, _, hva, _⟩ := revaried_one hg2
              obtain ⟨s5, q5⟩ : ∃ s5, s4.drop va = s5 := ⟨_, rfl⟩
              have e5 : (0 :: t : Bs).drop (1 + k + m + ka + va) = s5 := by rw [← q5, ← e4, List.drop_drop]
              simp only
              rw [e5]
              cases hh : reHdrs s5 with
              | error e => exact ref07_inner_hdr (0 :: t) t u k hl1 rfl rfl hv1 hu hs s2 hk q2 v m _ _ hv2 rfl rfl hvv s3 hm q3 ho s4 kb ka hka q4 hg1 s5 vb va hva q5 hg2 e hh (reHdrs_nz hh) h
              | ok x5 =>
                obtain ⟨l, ha⟩ := x5
                obtain ⟨_, _, hla, _⟩ := reHdrs_one hh
                simp only
                have l2 : s2.length + k + 1 = (0 :: t : Bs).length := by rw [← q2, List.length_drop]; omega
                have l3 : s3.length + m = s2.length := by rw [← q3, List.length_drop]; omega
                have l4 : s4.length + ka = s3.length := by rw [← q4, List.length_drop]; omega
                have l5 : s5.length + va = s4.length := by rw [← q5, List.length_drop]; omega
                by_cases hfin : 1 + k + m + ka + va + ha = (0 :: t : Bs).length
                · rw [if_pos hfin]
                  exact ref07_inner_ok (0 :: t) t u k hl1 rfl rfl hv1 hu hs s2 hk q2 v m _ _ hv2 rfl rfl hvv s3 hm q3 ho s4 kb ka hka q4 hg1 s5 vb va hva q5 hg2 l ha hh (by omega) h
                · rw [if_neg hfin]
                  exact ref07_inner_long (0 :: t) t u k hl1 rfl rfl hv1 hu hs s2 hk q2 v m _ _ hv2 rfl rfl hvv s3 hm q3 ho s4 kb ka hka q4 hg1 s5 vb va hva q5 hg2 l ha hh (by omega) hla h
    · rw [ri_attr h0 (by
        have hn := c.toNat_lt
        have hc2 : c.toNat ≠ 0 := fun hh => hc (UInt8.toNat_inj.1 hh)
        unfold sByte
        split <;> omega)]
      exact ref07_inner_attr c t hc (by omega) h

end Go.Proofs.Ytkenneeejdngaaa
