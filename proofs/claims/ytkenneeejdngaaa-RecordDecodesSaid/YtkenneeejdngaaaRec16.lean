/- One spelling of a record (pure). -/
import Derived.Test.YtkenneeejdngaaaRec15
namespace Go.Proofs.Ytkenneeejdngaaa
open Go.RowKit

theorem glue {l a : Bs} {n m : Nat} (h : a = (l.drop n).take m) : a ++ l.drop (n + m) = l.drop n := by
  rw [h, ← List.drop_drop, List.take_append_drop]
theorem reInner_one {s : Bs} {x : RecS} (h : reInner s = .ok x) : recF x = s ∧ recOk x = 0 ∧ x.R ∧ x.sum ≤ s.length := by
  unfold reInner at h
  cases h0 : getIntN 1 s with
  | error e => rw [h0] at h; cases h
  | ok a =>
    rw [h0] at h
    simp only at h
    by_cases ha : a.1 = 0
    · rw [if_pos ha] at h
      obtain ⟨c, t, rfl⟩ : ∃ c t, s = c :: t := by
        cases s with
        | nil => cases h0
        | cons c t => exact ⟨c, t, rfl⟩
      have hc : c = 0 := by
        have : (.ok (sByte c, 1) : Except Int (Int × Nat)) = .ok a := by rw [← h0]; unfold getIntN; rw [if_neg (by simp)]; rfl
        cases this
        have hn := c.toNat_lt
        have h2 : sByte c = 0 := ha
        unfold sByte at h2
        exact UInt8.toNat_inj.1 (show c.toNat = 0 by split at h2 <;> omega)
      subst hc
      cases h1 : vgetL ((0 :: t : Bs).drop 1) with
      | error e => rw [h1] at h; cases h
      | ok x1 =>
        obtain ⟨tm, k⟩ := x1
        rw [h1] at h
        simp only at h
        cases h2 : vgetI ((0 :: t : Bs).drop (1 + k)) with
        | error e => rw [h2] at h; cases h
        | ok x2 =>
          obtain ⟨o, m⟩ := x2
          rw [h2] at h
          simp only at h
          by_cases ho : o < 0
          · rw [if_pos ho] at h; cases h
          rw [if_neg ho] at h
          cases h3 : revaried ((0 :: t : Bs).drop (1 + k + m)) with
          | error e => rw [h3] at h; cases h
          | ok x3 =>
            obtain ⟨kb, ka⟩ := x3
            rw [h3] at h
            simp only at h
            cases h4 : revaried ((0 :: t : Bs).drop (1 + k + m + ka)) with
            | error e => rw [h4] at h; cases h
            | ok x4 =>
              obtain ⟨vb, va⟩ := x4
              rw [h4] at h
              simp only at h
              cases h5 : reHdrs ((0 :: t : Bs).drop (1 + k + m + ka + va)) with
              | error e => rw [h5] at h; cases h
              | ok x5 =>
                obtain ⟨l, ha5⟩ := x5
                rw [h5] at h
                simp only at h
                by_cases hf : 1 + k + m + ka + va + ha5 = (0 :: t : Bs).length
                · rw [if_pos hf] at h
                  cases h
                  obtain ⟨g1, _, _, r1, r2⟩ := vgetL_one h1
                  obtain ⟨g2, _, _, r3, r4⟩ := vgetI_one h2
                  obtain ⟨g3, _, b3, c3, _, d3⟩ := revaried_one h3
                  obtain ⟨g4, _, b4, c4, _, d4⟩ := revaried_one h4
                  obtain ⟨g5, _, b5, c5, d5⟩ := reHdrs_one h5
                  refine ⟨?_, ?_, ⟨⟨r1, r2⟩, by constructor <;> simp only <;> omega⟩, ?_⟩
                  · unfold recF
                    simp only
                    have q5 := glue g5
                    rw [List.drop_eq_nil_of_le (by omega), List.append_nil] at q5
                    rw [q5, glue g4, glue g3]
                    have q2 : encI o ++ (0 :: t : Bs).drop (1 + k + m) = (0 :: t : Bs).drop (1 + k) := glue g2
                    have q1 : encI tm ++ (0 :: t : Bs).drop (1 + k) = (0 :: t : Bs).drop 1 := glue g1
                    rw [q2, q1]
                    rfl
                  · unfold recOk RecS.allRight
                    simp only
                    rw [if_neg (by omega), c3, c4, c5]
                    rfl
                  · unfold RecS.sum
                    simp only
                    have e3 : kb.data.length ≤ ka := by split at d3 <;> omega
                    have e4 : vb.data.length ≤ va := by split at d4 <;> omega
                    omega
                · rw [if_neg hf] at h; cases h
    · rw [if_neg ha] at h; cases h
theorem reRec_one {s : Bs} {x : RecS} {m : Nat} (h : reRec s = .ok (x, m)) : encR x = s.take m ∧ recOk x = 0 ∧ x.R ∧ x.sum ≤ s.length ∧ 0 < m ∧ m ≤ s.length := by
  unfold reRec at h
  cases h1 : revaried s with
  | error e => rw [h1] at h; cases h
  | ok b =>
    obtain ⟨⟨n, d⟩, k⟩ := b
    rw [h1] at h
    simp only at h
    obtain ⟨g1, g2, g3, _, _, g5⟩ := revaried_one h1
    cases n with
    | true => cases h
    | false =>
      simp only [Bool.false_eq_true, if_false] at h
      cases h2 : reInner d with
      | error e => rw [h2] at h; cases h
      | ok y =>
        rw [h2] at h
        cases h
        obtain ⟨k1, k2, k3, k4⟩ := reInner_one h2
        simp at g5
        exact ⟨by unfold encR; rw [k1]; exact g1, k2, k3, by omega, g2, g3⟩
theorem reRec_nz {s : Bs} {e : Int} (h : reRec s = .error e) : e ≠ 0 := (rds_rec.err s 0 e (Nat.zero_le _) (by rw [List.drop_zero]; exact h)).1
theorem record_of {s : Bs} {x : RecS} {m : Nat} (h : reRec s = .ok (x, m)) : (⟨s, 0, 0⟩ : InS).record = (x, ⟨s, m, 0⟩) := by
  have := (rds_rec.ok s 0 x m (Nat.zero_le _) (by rw [List.drop_zero]; exact h)).2
  rwa [Nat.zero_add] at this
theorem record_ofE {s : Bs} {e : Int} (h : reRec s = .error e) : ∃ q, (⟨s, 0, 0⟩ : InS).record = (RecS.zero, ⟨s, q, e⟩) := by
  obtain ⟨_, q, _, hq⟩ := rds_rec.err s 0 e (Nat.zero_le _) (by rw [List.drop_zero]; exact h)
  exact ⟨q, hq⟩
theorem dec_ofE {s : Bs} {e : Int} (h : reRec s = .error e) : decR s = RecS.zero ∧ (decJ s).err = e := by
  obtain ⟨q, hq⟩ := record_ofE h
  have he := reRec_nz h
  have h4 : (decJ s).err = e := by unfold decJ; rw [hq]; exact close_err he
  exact ⟨by unfold decR; rw [h4, if_neg he], h4⟩
theorem dec_long2 {s : Bs} {x : RecS} {m : Nat} (h : reRec s = .ok (x, m)) (hm : m < s.length) : decR s = RecS.zero ∧ (decJ s).err = 2 := by
  have h4 : (decJ s).err = 2 := by
    unfold decJ; rw [record_of h]
    unfold InS.close
    rw [if_pos (by simp only [InS.left]; omega)]
    rfl
  exact ⟨by unfold decR; rw [h4, if_neg (by decide)], h4⟩
theorem dec_all {s : Bs} {x : RecS} {m : Nat} (h : reRec s = .ok (x, m)) (hm : m = s.length) : decR s = x ∧ (decJ s).err = 0 := by
  have h4 : (decJ s).err = 0 := by
    unfold decJ; rw [record_of h]
    unfold InS.close
    rw [if_neg (by simp only [InS.left]; omega)]
  exact ⟨by unfold decR; rw [h4, if_pos rfl, record_of h], h4⟩

theorem ref07_readO (s : Bs) (x : RecS) (m : Nat) (hr : reRec s = .ok (x, m)) (hs : s.length ≤ 1000000) {W0 w : World} {K : Know} {L : List Res} (h : St W0 w K L) :
    Calls Try.prog 44 #[.string (bb s)] w fun en w' => ∃ v, en = .returned (.agg #[.int .i64 x.time, .int .i64 x.off, .bool x.key.null, .string (bb x.key.data), .bool x.val.null, .string (bb x.val.data), v, .int .i64 m, .int .i64 0]) ∧ St W0 w' (K.and (Know.flat RHdr v 3 x.hdrs)) L :=
  (ref07_read s hs h).mono fun en w' hh => by unfold PostR at hh; rw [hr] at hh; exact hh
theorem ref07_readE (s : Bs) (e : Int) (hr : reRec s = .error e) (hs : s.length ≤ 1000000) {W0 w : World} {K : Know} {L : List Res} (h : St W0 w K L) :
    Calls Try.prog 44 #[.string (bb s)] w fun en w' => ∃ m : Int, en = .returned (.agg #[.int .i64 0, .int .i64 0, .bool false, .string ⟨#[]⟩, .bool false, .string ⟨#[]⟩, .slice none 0 0, .int .i64 m, .int .i64 e]) ∧ St W0 w' K L :=
  (ref07_read s hs h).mono fun en w' hh => by unfold PostR at hh; rw [hr] at hh; exact hh

end Go.Proofs.Ytkenneeejdngaaa
