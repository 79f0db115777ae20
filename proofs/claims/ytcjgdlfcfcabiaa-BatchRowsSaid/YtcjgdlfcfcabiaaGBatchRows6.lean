/- Batches of bytes (pure). -/
import Derived.Test.YtcjgdlfcfcabiaaGBatchRows5
import Derived.Test.YtcjgdlfcfcabiaaGBatchRows4
import Derived.Test.YtcjgdlfcfcabiaaGBatchRows1
/- One spelling of a record (pure). -/
namespace Go.Proofs.Ytcjgdlfcfcabiaa
open Go.RowKit

theorem glue {l a : Bs} {n m : Nat} (h : a = (l.drop n).take m) : a ++ l.drop (n + m) = l.drop n := by
  rw [h, ← List.drop_drop, List.take_append_drop]
theorem reInner_one {s : Bs} {x : RecS} (h : reInner s = .ok x) : recF x = s ∧ recOk x = 0 ∧ x.R ∧ x.sum ≤ s.length := by
  unfold reInner at h
  cases h0 : getIntN 1 s with
  | error e => rw [h0] at h; cases h
  | ok a =>
    rw [h0] at h
    simp only at h
    by_cases ha : a.1 = 0
    · rw [if_pos ha] at h
      obtain ⟨c, t, rfl⟩ : ∃ c t, s = c :: t := by
        cases s with
        | nil => cases h0
        | cons c t => exact ⟨c, t, rfl⟩
      have hc : c = 0 := by
        have : (.ok (sByte c, 1) : Except Int (Int × Nat)) = .ok a := by rw [← h0]; unfold getIntN; rw [if_neg (by simp)]; rfl
        cases this
        have hn := c.toNat_lt
        have h2 : sByte c = 0 := ha
        unfold sByte at h2
        exact UInt8.toNat_inj.1 (show c.toNat = 0 by split at h2 <;> omega)
      subst hc
      cases h1 : vgetL ((0 :: t : Bs).drop 1) with
      | error e => rw [h1] at h; cases h
      | ok x1 =>
        obtain ⟨tm, k⟩ := x1
        rw [h1] at h
        simp only at h
        cases h2 : vgetI ((0 :: t : Bs).drop (1 + k)) with
        | error e => rw [h2] at h; cases h
        | ok x2 =>
          obtain ⟨o, m⟩ := x2
          rw [h2] at h
          simp only at h
          by_cases ho : o < 0
          · rw [if_pos ho] at h; cases h
          rw [if_neg ho] at h
          cases h3 : revaried ((0 :: t : Bs).drop (1 + k + m)) with
          | error e => rw [h3] at h; cases h
          | ok x3 =>
            obtain ⟨kb, ka⟩ := x3
            rw [h3] at h
            simp only at h
            cases h4 : revaried ((0 :: t : Bs).drop (1 + k + m + ka)) with
            | error e => rw [h4] at h; cases h
            | ok x4 =>
              obtain ⟨vb, va⟩ := x4
              rw [h4] at h
              simp only at h
              cases h5 : reHdrs ((0 :: t : Bs).drop (1 + k + m + ka + va)) with
              | error e => rw [h5] at h; cases h
              | ok x5 =>
                obtain ⟨l, ha5⟩ := x5
                rw [h5] at h
                simp only at h
                by_cases hf : 1 + k + m + ka + va + ha5 = (0 :: t : Bs).length
                · rw [if_pos hf] at h
                  cases h
                  obtain ⟨g1, _, _, r1, r2⟩ := vgetL_one h1
                  obtain ⟨g2, _, _, r3, r4⟩ := vgetI_one h2
                  obtain ⟨g3, _, b3, c3, _, d3⟩ := revaried_one h3
                  obtain ⟨g4, _, b4, c4, _, d4⟩ := revaried_one h4
                  obtain ⟨g5, _, b5, c5, d5⟩ := reHdrs_one h5
                  refine ⟨?_, ?_, ⟨⟨r1, r2⟩, by constructor <;> simp only <;> omega⟩, ?_⟩
                  · unfold recF
                    simp only
                    have q5 := glue g5
                    rw [List.drop_eq_nil_of_le (by omega), List.append_nil] at q5
                    rw [q5, glue g4, glue g3]
                    have q2 : encI o ++ (0 :: t : Bs).drop (1 + k + m) = (0 :: t : Bs).drop (1 + k) := glue g2
                    have q1 : encI tm ++ (0 :: t : Bs).drop (1 + k) = (0 :: t : Bs).drop 1 := glue g1
                    rw [q2, q1]
                    rfl
                  · unfold recOk RecS.allRight
                    simp only
                    rw [if_neg (by omega), c3, c4, c5]
                    rfl
                  · unfold RecS.sum
                    simp only
                    have e3 : kb.data.length ≤ ka := by split at d3 <;> omega
                    have e4 : vb.data.length ≤ va := by split at d4 <;> omega
                    omega
                · rw [if_neg hf] at h; cases h
    · rw [if_neg ha] at h; cases h
theorem reRec_one {s : Bs} {x : RecS} {m : Nat} (h : reRec s = .ok (x, m)) : encR x = s.take m ∧ recOk x = 0 ∧ x.R ∧ x.sum ≤ s.length ∧ 0 < m ∧ m ≤ s.length := by
  unfold reRec at h
  cases h1 : revaried s with
  | error e => rw [h1] at h; cases h
  | ok b =>
    obtain ⟨⟨n, d⟩, k⟩ := b
    rw [h1] at h
    simp only at h
    obtain ⟨g1, g2, g3, _, _, g5⟩ := revaried_one h1
    cases n with
    | true => cases h
    | false =>
      simp only [Bool.false_eq_true, if_false] at h
      cases h2 : reInner d with
      | error e => rw [h2] at h; cases h
      | ok y =>
        rw [h2] at h
        cases h
        obtain ⟨k1, k2, k3, k4⟩ := reInner_one h2
        simp at g5
        exact ⟨by unfold encR; rw [k1]; exact g1, k2, k3, by omega, g2, g3⟩
theorem reRec_nz {s : Bs} {e : Int} (h : reRec s = .error e) : e ≠ 0 := (rds_rec.err s 0 e (Nat.zero_le _) (by rw [List.drop_zero]; exact h)).1
theorem record_of {s : Bs} {x : RecS} {m : Nat} (h : reRec s = .ok (x, m)) : (⟨s, 0, 0⟩ : InS).record = (x, ⟨s, m, 0⟩) := by
  have := (rds_rec.ok s 0 x m (Nat.zero_le _) (by rw [List.drop_zero]; exact h)).2
  rwa [Nat.zero_add] at this
theorem record_ofE {s : Bs} {e : Int} (h : reRec s = .error e) : ∃ q, (⟨s, 0, 0⟩ : InS).record = (RecS.zero, ⟨s, q, e⟩) := by
  obtain ⟨_, q, _, hq⟩ := rds_rec.err s 0 e (Nat.zero_le _) (by rw [List.drop_zero]; exact h)
  exact ⟨q, hq⟩
theorem dec_ofE {s : Bs} {e : Int} (h : reRec s = .error e) : decR s = RecS.zero ∧ (decJ s).err = e := by
  obtain ⟨q, hq⟩ := record_ofE h
  have he := reRec_nz h
  have h4 : (decJ s).err = e := by unfold decJ; rw [hq]; exact close_err he
  exact ⟨by unfold decR; rw [h4, if_neg he], h4⟩
theorem dec_long2 {s : Bs} {x : RecS} {m : Nat} (h : reRec s = .ok (x, m)) (hm : m < s.length) : decR s = RecS.zero ∧ (decJ s).err = 2 := by
  have h4 : (decJ s).err = 2 := by
    unfold decJ; rw [record_of h]
    unfold InS.close
    rw [if_pos (by simp only [InS.left]; omega)]
    rfl
  exact ⟨by unfold decR; rw [h4, if_neg (by decide)], h4⟩
theorem dec_all {s : Bs} {x : RecS} {m : Nat} (h : reRec s = .ok (x, m)) (hm : m = s.length) : decR s = x ∧ (decJ s).err = 0 := by
  have h4 : (decJ s).err = 0 := by
    unfold decJ; rw [record_of h]
    unfold InS.close
    rw [if_neg (by simp only [InS.left]; omega)]
  exact ⟨by unfold decR; rw [h4, if_pos rfl, record_of h], h4⟩

end Go.Proofs.Ytcjgdlfcfcabiaa

/- Batches assembled (pure). -/
namespace Go.Proofs.Ytcjgdlfcfcabiaa
open Go.RowKit

theorem hsum_fit : ∀ (l : List HdrS) (N : Nat), hsum l ≤ N → ∀ x ∈ l, x.key.length ≤ N ∧ x.val.data.length ≤ N
  | [], _, _, _, h => by cases h
  | y :: t, N, hh, x, hx => by
    simp only [hsum, List.map_cons, List.sum_cons] at hh
    rcases List.mem_cons.1 hx with rfl | hx
    · omega
    · exact hsum_fit t N (by simp only [hsum]; omega) x hx
theorem unp_fit : ∀ (n : Nat) (rows : Bs) (pos : Nat) (rs : List RecS), pos ≤ rows.length → unp n ⟨rows, pos, 0⟩ = .ok rs → rs.length = n ∧ rs.length + pos ≤ rows.length ∧ ∀ x ∈ rs, x.R ∧ recOk x = 0 ∧ x.sum ≤ rows.length
  | 0, rows, pos, rs, hp, h => by
    unfold unp at h
    split at h
    · cases h; exact ⟨rfl, by simpa using hp, fun x hx => by cases hx⟩
    · cases h
  | n + 1, rows, pos, rs, hp, h => by
    have h : (if (⟨rows, pos, 0⟩ : InS).left = 0 then .error 10 else if (⟨rows, pos, 0⟩ : InS).record.2.err = 0 then consE (⟨rows, pos, 0⟩ : InS).record.1 (unp n (⟨rows, pos, 0⟩ : InS).record.2) else .error (⟨rows, pos, 0⟩ : InS).record.2.err) = .ok rs := h
    by_cases c1 : (⟨rows, pos, 0⟩ : InS).left = 0
    · rw [if_pos c1] at h; cases h
    rw [if_neg c1] at h
    cases hr : reRec (rows.drop pos) with
    | error e =>
      obtain ⟨he, q, _, hf⟩ := rds_rec.err rows pos e hp hr
      rw [hf] at h
      simp only at h
      rw [if_neg he] at h
      cases h
    | ok y =>
      obtain ⟨x, m⟩ := y
      obtain ⟨hpm, hf⟩ := rds_rec.ok rows pos x m hp hr
      rw [hf] at h
      simp only [if_true] at h
      cases hu : unp n ⟨rows, pos + m, 0⟩ with
      | error e => rw [hu] at h; cases h
      | ok t =>
        rw [hu] at h
        have h : Except.ok (x :: t) = Except.ok rs := h
        injection h with h
        subst h
        obtain ⟨i1, i2, i3⟩ := unp_fit n rows (pos + m) t hpm hu
        obtain ⟨_, j1, j2, j3, j4, j5⟩ := reRec_one hr
        rw [List.length_drop] at j3 j5
        refine ⟨by simp [i1], by simp only [List.length_cons]; omega, fun y hy => ?_⟩
        rcases List.mem_cons.1 hy with rfl | hy
        · exact ⟨j2, j1, by omega⟩
        · exact i3 y hy
theorem unp_fitB {n : Nat} {rows : Bs} {rs : List RecS} {l : List (RecS × Value)} (hu : unp n ⟨rows, 0, 0⟩ = .ok rs) (hl : l.map (·.1) = rs) (hr : rows.length ≤ 1000000) : FitB l ∧ l.length ≤ 1000000 := by
  obtain ⟨i1, i2, i3⟩ := unp_fit n rows 0 rs (Nat.zero_le _) hu
  constructor
  · intro x hx
    have hm : x.1 ∈ rs := by rw [← hl]; exact List.mem_map.2 ⟨x, hx, rfl⟩
    obtain ⟨a, _, c⟩ := i3 x.1 hm
    refine ⟨a, fun y hy => ?_, by omega⟩
    have h1 : hsum x.1.hdrs ≤ 1000000 := by unfold RecS.sum at c; omega
    have := hsum_fit x.1.hdrs 1000000 h1 y hy
    omega
  · have : l.length = rs.length := by rw [← hl, List.length_map]
    omega
/-- The batch that a prefix and rows are, or why none. -/
def asmB (x : PreS) (said rows : Bs) : Except Int BatS :=
  if ((crcMore 0#32 (said.drop 21 ++ rows)).toNat : Int) ≠ x.sum then .error 5
  else if chk x.attr ≠ 0 then .error (chk x.attr)
  else match unp x.count.toNat ⟨rows, 0, 0⟩ with
    | .error e => .error e
    | .ok rs => if batErr ⟨x.base, x.leader, bitAt x.attr 3, bitAt x.attr 4, bitAt x.attr 5, x.last, x.first, x.maxt, x.prod, x.epoch, x.seq, rs⟩ = 0 then .ok ⟨x.base, x.leader, bitAt x.attr 3, bitAt x.attr 4, bitAt x.attr 5, x.last, x.first, x.maxt, x.prod, x.epoch, x.seq, rs⟩ else .error (batErr ⟨x.base, x.leader, bitAt x.attr 3, bitAt x.attr 4, bitAt x.attr 5, x.last, x.first, x.maxt, x.prod, x.epoch, x.seq, rs⟩)
theorem attr_readE (n : Int) {W0 w : World} {K : Know} {L : List Res} (h : St W0 w K L) :
    Calls Try.prog 14 #[.int .i64 n] w fun en w' => en = .returned (.tuple #[.bool (bitAt n 3), .bool (bitAt n 4), .bool (bitAt n 5)]) ∧ St W0 w' K L := (attr_read n w).mono fun _ _ hh => ⟨hh.1, hh.2 ▸ h⟩
theorem attr_checkE (n e : Int) (he : chk n = e) (hn : R64 n) {W0 w : World} {K : Know} {L : List Res} (h : St W0 w K L) :
    Calls Try.prog 15 #[.int .i64 n] w fun en w' => en = .returned (.int .i64 e) ∧ St W0 w' K L := (attr_check n hn w).mono fun _ _ hh => ⟨he ▸ hh.1, hh.2 ▸ h⟩

end Go.Proofs.Ytcjgdlfcfcabiaa

/- Batches of bytes (pure). -/
namespace Go.Proofs.Ytcjgdlfcfcabiaa
open Go.RowKit

theorem s_takeE (b : Nat) (i j : InS) (n : Int) (s : Bs) (hx : i.take n = (s, j)) {W0 w : World} {K : Know} {L : List Res} (h : St W0 w K (.inp b i :: L)) :
    Calls Try.prog 59 #[inPtr b, .int .i64 n] w fun en w' => en = .returned (.string (bb s)) ∧ St W0 w' K (.inp b j :: L) := by
  have := s_take b i n h; rw [hx] at this; exact this
theorem s_failE (b : Nat) (i j : InS) (e : Int) (hx : i.fail e = j) {W0 w : World} {K : Know} {L : List Res} (h : St W0 w K (.inp b i :: L)) :
    Calls Try.prog 46 #[inPtr b, .int .i64 e] w fun en w' => en = .returned (.tuple #[]) ∧ St W0 w' K (.inp b j :: L) := by
  subst hx; exact s_fail b i e h
theorem s_closeE (b : Nat) (i j : InS) (e : Int) (hx : i.close = j) (he : j.err = e) {W0 w : World} {K : Know} {L : List Res} (h : St W0 w K (.inp b i :: L)) :
    Calls Try.prog 25 #[inPtr b] w fun en w' => en = .returned (.int .i64 e) ∧ St W0 w' K (.inp b j :: L) := by
  subst hx he; exact s_close b i h
theorem unp_ne : ∀ (n : Nat) (i : InS) (e : Int), unp n i = .error e → e ≠ 0
  | 0, i, e, h => by
    unfold unp at h
    split at h
    · cases h
    · cases h; decide
  | n + 1, i, e, h => by
    have h : (if i.left = 0 then .error 10 else if i.record.2.err = 0 then consE i.record.1 (unp n i.record.2) else .error i.record.2.err) = .error e := h
    by_cases c1 : i.left = 0
    · rw [if_pos c1] at h; cases h; decide
    rw [if_neg c1] at h
    by_cases c2 : i.record.2.err = 0
    · rw [if_pos c2] at h
      cases hu : unp n i.record.2 with
      | ok t => rw [hu] at h; cases h
      | error f =>
        rw [hu] at h
        have h : Except.error f = Except.error e := h
        injection h with h
        subst h
        exact unp_ne n _ _ hu
    · rw [if_neg c2] at h
      injection h with h
      exact h ▸ c2
theorem asmB_ne {x : PreS} {said rows : Bs} {e : Int} (h : asmB x said rows = .error e) : e ≠ 0 := by
  unfold asmB at h
  split at h
  · cases h; decide
  split at h
  · cases h; assumption
  split at h
  · rename_i f hu
    cases h
    exact unp_ne _ _ _ hu
  · split at h
    · cases h
    · cases h; assumption
theorem asmB_ok {x : PreS} {said rows : Bs} {b : BatS} (h : asmB x said rows = .ok b) : ((crcMore 0#32 (said.drop 21 ++ rows)).toNat : Int) = x.sum ∧ chk x.attr = 0 ∧ ∃ rs, unp x.count.toNat ⟨rows, 0, 0⟩ = .ok rs ∧ batErr (⟨x.base, x.leader, bitAt x.attr 3, bitAt x.attr 4, bitAt x.attr 5, x.last, x.first, x.maxt, x.prod, x.epoch, x.seq, rs⟩ : BatS) = 0 ∧ b = (⟨x.base, x.leader, bitAt x.attr 3, bitAt x.attr 4, bitAt x.attr 5, x.last, x.first, x.maxt, x.prod, x.epoch, x.seq, rs⟩ : BatS) := by
  unfold asmB at h
  split at h
  · cases h
  rename_i h1
  split at h
  · cases h
  rename_i h2
  have h1 : ((crcMore 0#32 (said.drop 21 ++ rows)).toNat : Int) = x.sum := by
    by_cases hh : ((crcMore 0#32 (said.drop 21 ++ rows)).toNat : Int) = x.sum
    · exact hh
    · exact absurd hh h1
  have h2 : chk x.attr = 0 := by
    by_cases hh : chk x.attr = 0
    · exact hh
    · exact absurd hh h2
  split at h
  · cases h
  · rename_i rs hu
    split at h
    · rename_i hb
      cases h
      exact ⟨h1, h2, rs, hu, hb, rfl⟩
    · cases h

end Go.Proofs.Ytcjgdlfcfcabiaa
