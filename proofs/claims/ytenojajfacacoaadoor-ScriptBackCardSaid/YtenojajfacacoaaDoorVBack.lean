/- Numbers there and back. -/
import Derived.Test.YtenojajfacacoaaDoorRef03b
namespace Go.Proofs.YtenojajfacacoaaDoor
open Go.RowKit

theorem vgetF_putU (top : Nat) (ht : top < 128) : ∀ (f r n u : Nat) (rest : Bs), u < (top + 1) * 128 ^ f → (r = 0 ∨ 0 < u) → vgetF top (f + 1) r n (putU u ++ rest) = .ok (n + u * 128 ^ r, r + (putU u).length)
  | f, r, n, u, rest, hu, hr => by
    by_cases h : u < 128
    · have h1 : u % 256 = u := by omega
      have h2 : (UInt8.ofNat u).toNat = u := by simp [h1]
      rw [putU_small h, List.singleton_append, vg_last]
      · rw [h2, Nat.mod_eq_of_lt h]; rfl
      · rw [h2, Nat.mod_eq_of_lt h]
        rintro (⟨rfl, h⟩ | ⟨h, h', _⟩)
        · simp at hu; omega
        · omega
      · rw [h2]; omega
    · have h2 : (UInt8.ofNat (u % 128 + 128)).toNat = u % 128 + 128 := by simp; omega
      match f, hu with
      | 0, hu => simp at hu; omega
      | f + 1, hu =>
        rw [putU_big h, List.cons_append, vg_more]
        · have hq : u / 128 < (top + 1) * 128 ^ f := by
            rw [Nat.pow_succ, ← Nat.mul_assoc] at hu
            exact Nat.div_lt_of_lt_mul (by rw [Nat.mul_comm]; exact hu)
          rw [vgetF_putU top ht f (r + 1) _ (u / 128) rest hq (.inr (by omega)), h2]
          have e1 : (u % 128 + 128) % 128 = u % 128 := by omega
          rw [e1, Nat.pow_succ]
          have e2 : u % 128 * 128 ^ r + u / 128 * (128 ^ r * 128) = u * 128 ^ r := by
            have : u / 128 * (128 ^ r * 128) = (u / 128 * 128) * 128 ^ r := by rw [Nat.mul_comm (128 ^ r), Nat.mul_assoc]
            rw [this, ← Nat.add_mul]
            congr 1
            omega
          have e3 : (UInt8.ofNat (u % 128 + 128) :: putU (u / 128)).length = 1 + (putU (u / 128)).length := by simp; omega
          rw [e3, Nat.add_assoc, e2, Nat.add_assoc]
        · rw [h2]; rintro (⟨h, _⟩ | ⟨_, _, h⟩) <;> omega
        · rw [h2]; omega

theorem pow32 : half 4 = 2147483648 := by decide
theorem take1_ok (s : Bs) (pos : Nat) (_h : pos ≤ s.length) : (⟨s, pos, 0⟩ : InS).take 1 = match s.drop pos with | [] => ([], ⟨s, pos, 1⟩) | c :: _ => ([c], ⟨s, pos + 1, 0⟩) := by
  have hl := List.length_drop (l := s) (i := pos)
  cases hd : s.drop pos with
  | nil =>
    rw [hd] at hl
    simp at hl
    rw [InS.take_short (by decide) (by simp only [InS.left]; omega)]
    rfl
  | cons c t =>
    rw [hd] at hl
    simp at hl
    rw [InS.take_ok rfl (by decide) (by simp only [InS.left]; omega)]
    simp only [hd]
    rfl
theorem take_stuck {i : InS} (h : i.err ≠ 0) (n : Int) : i.take n = ([], i) := InS.take_err h
theorem drop_succ' {s : Bs} {pos : Nat} {c : UInt8} {t : Bs} (h : s.drop pos = c :: t) : s.drop (pos + 1) = t ∧ pos < s.length := by
  have h1 : s.drop (pos + 1) = (s.drop pos).drop 1 := by rw [List.drop_drop]
  refine ⟨by rw [h1, h]; rfl, ?_⟩
  have := congrArg List.length h
  rw [List.length_drop] at this
  simp at this
  omega

theorem digs_ok (top : Nat) : ∀ (f r n : Nat) (s : Bs) (pos m k : Nat), pos ≤ s.length → vgetF top f r n (s.drop pos) = .ok (m, k) → r < k ∧ pos + (k - r) ≤ s.length ∧ digs top f r n ⟨s, pos, 0⟩ = (m, ⟨s, pos + (k - r), 0⟩)
  | 0, r, n, s, pos, m, k, hp, h => by
    cases hd : s.drop pos with
    | nil => rw [hd, vg_none] at h; cases h
    | cons c t => rw [hd, vg_bad0] at h; cases h
  | f + 1, r, n, s, pos, m, k, hp, h => by
    cases hd : s.drop pos with
    | nil => rw [hd, vg_none] at h; cases h
    | cons c t =>
      have ht := take1_ok s pos hp
      rw [hd] at h ht
      simp only at ht
      obtain ⟨hd2, hlt⟩ := drop_succ' hd
      by_cases hb : (f = 0 ∧ top < c.toNat % 128) ∨ (0 < r ∧ c.toNat % 128 = 0 ∧ c.toNat < 128)
      · rw [vg_bad hb] at h; cases h
      · by_cases hm : 128 ≤ c.toNat
        · rw [vg_more hb hm] at h
          rw [digs_more ht hb hm]
          obtain ⟨h1, h3, h2⟩ := digs_ok top f (r + 1) _ s (pos + 1) m k hlt (by rw [hd2]; exact h)
          have e : pos + 1 + (k - (r + 1)) = pos + (k - r) := by omega
          rw [e] at h2 h3
          exact ⟨by omega, h3, h2⟩
        · rw [vg_last hb hm] at h
          rw [digs_last ht hb hm]
          cases h
          have e : r + 1 - r = 1 := by omega
          rw [e]
          exact ⟨by omega, hlt, rfl⟩

theorem digs_err (top : Nat) : ∀ (f r n : Nat) (s : Bs) (pos : Nat) (e : Int), pos ≤ s.length → vgetF top f r n (s.drop pos) = .error e → e ≠ 0 ∧ ∃ p, p ≤ s.length ∧ digs top f r n ⟨s, pos, 0⟩ = (0, ⟨s, p, e⟩)
  | 0, r, n, s, pos, e, hp, h => by
    have ht := take1_ok s pos hp
    cases hd : s.drop pos with
    | nil => rw [hd] at h ht; rw [vg_none] at h; cases h; exact ⟨by decide, pos, hp, digs_none ht⟩
    | cons c t =>
      obtain ⟨hd2, hlt⟩ := drop_succ' hd
      rw [hd] at h ht; rw [vg_bad0] at h; cases h; exact ⟨by decide, pos + 1, hlt, digs_bad0 ht⟩
  | f + 1, r, n, s, pos, e, hp, h => by
    have ht := take1_ok s pos hp
    cases hd : s.drop pos with
    | nil => rw [hd] at h ht; rw [vg_none] at h; cases h; exact ⟨by decide, pos, hp, digs_none ht⟩
    | cons c t =>
      rw [hd] at h ht
      simp only at ht
      obtain ⟨hd2, hlt⟩ := drop_succ' hd
      by_cases hb : (f = 0 ∧ top < c.toNat % 128) ∨ (0 < r ∧ c.toNat % 128 = 0 ∧ c.toNat < 128)
      · rw [vg_bad hb] at h
        cases h
        rw [digs_bad ht hb]
        exact ⟨by decide, pos + 1, hlt, rfl⟩
      · by_cases hm : 128 ≤ c.toNat
        · rw [vg_more hb hm] at h
          rw [digs_more ht hb hm]
          exact digs_err top f (r + 1) _ s (pos + 1) e hlt (by rw [hd2]; exact h)
        · rw [vg_last hb hm] at h
          cases h

theorem digs_stuck (top f r n : Nat) {i : InS} (h : i.err ≠ 0) : digs top f r n i = (0, i) := digs_none (take_stuck h 1)

theorem vgetF_one (top : Nat) (ht : top < 128) : ∀ (f r n : Nat) (l : Bs) (m k : Nat), vgetF top f r n l = .ok (m, k) → ∃ u, m = n + u * 128 ^ r ∧ putU u = l.take (k - r) ∧ r < k ∧ k - r ≤ l.length ∧ (r = 0 ∨ 0 < u)
  | 0, r, n, l, m, k, h => by
    cases l with
    | nil => rw [vg_none] at h; cases h
    | cons c t => rw [vg_bad0] at h; cases h
  | f + 1, r, n, l, m, k, h => by
    cases l with
    | nil => rw [vg_none] at h; cases h
    | cons c t =>
      by_cases hb : (f = 0 ∧ top < c.toNat % 128) ∨ (0 < r ∧ c.toNat % 128 = 0 ∧ c.toNat < 128)
      · rw [vg_bad hb] at h; cases h
      · have hc := c.toNat_lt
        by_cases hm : 128 ≤ c.toNat
        · rw [vg_more hb hm] at h
          obtain ⟨u, h1, h2, h3, h4, h5⟩ := vgetF_one top ht f (r + 1) _ t m k h
          have hu : 0 < u := by omega
          refine ⟨c.toNat % 128 + 128 * u, ?_, ?_, by omega, by simp; omega, by omega⟩
          · rw [h1, Nat.pow_succ, Nat.add_assoc, Nat.add_mul]
            congr 2
            rw [Nat.mul_comm (128 ^ r), ← Nat.mul_assoc, Nat.mul_comm u 128]
          · have e1 : (c.toNat % 128 + 128 * u) % 128 + 128 = c.toNat := by omega
            have e2 : (c.toNat % 128 + 128 * u) / 128 = u := by omega
            have e3 : k - r = (k - (r + 1)) + 1 := by omega
            rw [putU_big (by omega), e1, e2, h2, e3, List.take_succ_cons, UInt8.ofNat_toNat]
        · rw [vg_last hb hm] at h
          cases h
          have e : r + 1 - r = 1 := by omega
          have e2 : c.toNat % 128 = c.toNat := by omega
          refine ⟨c.toNat, by rw [e2], ?_, by omega, by rw [e]; simp, ?_⟩
          · rw [putU_small (by omega), e, UInt8.ofNat_toNat]; rfl
          · omega
theorem putU_of_vget {top most : Nat} (ht : top < 128) {l : Bs} {m k : Nat} (h : vgetF top most 0 0 l = .ok (m, k)) : putU m = l.take k ∧ 0 < k ∧ k ≤ l.length := by
  obtain ⟨u, h1, h2, h3, h4, _⟩ := vgetF_one top ht _ _ _ _ _ _ h
  simp at h1 h2 h4
  subst h1
  exact ⟨h2, h3, h4⟩
/-- The shorter form is the longer one, where it is. -/
theorem vgetF_wider : ∀ (f r n : Nat) (l : Bs) (x : Nat × Nat), f ≤ 5 → vgetF 15 f r n l = .ok x → vgetF 1 (f + 5) r n l = .ok x
  | 0, r, n, l, x, _, h => by
    cases l with
    | nil => rw [vg_none] at h; cases h
    | cons c t => rw [vg_bad0] at h; cases h
  | f + 1, r, n, l, x, hf, h => by
    cases l with
    | nil => rw [vg_none] at h; cases h
    | cons c t =>
      by_cases hb : (f = 0 ∧ 15 < c.toNat % 128) ∨ (0 < r ∧ c.toNat % 128 = 0 ∧ c.toNat < 128)
      · rw [vg_bad hb] at h; cases h
      · have hb' : ¬ ((f + 5 = 0 ∧ 1 < c.toNat % 128) ∨ (0 < r ∧ c.toNat % 128 = 0 ∧ c.toNat < 128)) := by
          rintro (⟨h, _⟩ | h)
          · omega
          · exact hb (.inr h)
        have e : f + 1 + 5 = (f + 5) + 1 := by omega
        by_cases hm : 128 ≤ c.toNat
        · rw [vg_more hb hm] at h
          rw [e, vg_more hb' hm]
          exact vgetF_wider f _ _ _ _ (by omega) h
        · rw [vg_last hb hm] at h
          rw [e, vg_last hb' hm]
          exact h

/-- The numbers with which bytes begin. -/
def vgetI (l : Bs) : Except Int (Int × Nat) := match vgetF 15 5 0 0 l with | .ok x => .ok (backN x.1, x.2) | .error e => .error e
def vgetL (l : Bs) : Except Int (Int × Nat) := match vgetF 1 10 0 0 l with | .ok x => .ok (backN x.1, x.2) | .error e => .error e

/-- A reader reads what the document says: p: what bytes begin with; d: what is answered where there is none. -/
structure Rds {α : Type} (f : InS → α × InS) (p : Bs → Except Int (α × Nat)) (d : α) : Prop where
  ok : ∀ (s : Bs) (pos : Nat) (a : α) (k : Nat), pos ≤ s.length → p (s.drop pos) = .ok (a, k) → pos + k ≤ s.length ∧ f ⟨s, pos, 0⟩ = (a, ⟨s, pos + k, 0⟩)
  err : ∀ (s : Bs) (pos : Nat) (e : Int), pos ≤ s.length → p (s.drop pos) = .error e → e ≠ 0 ∧ ∃ q, q ≤ s.length ∧ f ⟨s, pos, 0⟩ = (d, ⟨s, q, e⟩)
  stuck : ∀ i : InS, i.err ≠ 0 → f i = (d, i)

theorem rds_int : Rds InS.vint vgetI 0 := by
  refine ⟨?_, ?_, ?_⟩
  · intro s pos a k hp h
    unfold vgetI at h
    split at h
    · rename_i x hx
      cases h
      obtain ⟨h1, h3, h2⟩ := digs_ok 15 5 0 0 s pos x.1 x.2 hp hx
      refine ⟨h3, ?_⟩
      simp only [InS.vint, InS.short, h2]
      rfl
    · cases h
  · intro s pos e hp h
    unfold vgetI at h
    split at h
    · cases h
    · rename_i x hx
      cases h
      obtain ⟨h1, p, h3, h2⟩ := digs_err 15 5 0 0 s pos _ hp hx
      refine ⟨h1, p, h3, ?_⟩
      simp only [InS.vint, InS.short, h2]
      rfl
  · intro i hi
    simp only [InS.vint, InS.short, digs_stuck _ _ _ _ hi]
    rfl
theorem rds_long : Rds InS.vlong vgetL 0 := by
  refine ⟨?_, ?_, ?_⟩
  · intro s pos a k hp h
    unfold vgetL at h
    split at h
    · rename_i x hx
      cases h
      obtain ⟨h1, h3, h2⟩ := digs_ok 1 10 0 0 s pos x.1 x.2 hp hx
      refine ⟨h3, ?_⟩
      simp only [InS.vlong, InS.long, h2]
      rfl
    · cases h
  · intro s pos e hp h
    unfold vgetL at h
    split at h
    · cases h
    · rename_i x hx
      cases h
      obtain ⟨h1, p, h3, h2⟩ := digs_err 1 10 0 0 s pos _ hp hx
      refine ⟨h1, p, h3, ?_⟩
      simp only [InS.vlong, InS.long, h2]
      rfl
  · intro i hi
    simp only [InS.vlong, InS.long, digs_stuck _ _ _ _ hi]
    rfl

theorem vgetI_put (n : Int) (h0 : -2147483648 ≤ n) (h1 : n < 2147483648) (rest : Bs) : vgetI (putU (foldN n) ++ rest) = .ok (n, (putU (foldN n)).length) := by
  have hf : foldN n < (15 + 1) * 128 ^ 4 := by unfold foldN; split <;> omega
  simp only [vgetI, vgetF_putU 15 (by decide) 4 0 0 (foldN n) rest hf (.inl rfl)]
  simp [back_fold]
theorem vgetL_put (n : Int) (h0 : -9223372036854775808 ≤ n) (h1 : n < 9223372036854775808) (rest : Bs) : vgetL (putU (foldN n) ++ rest) = .ok (n, (putU (foldN n)).length) := by
  have hf : foldN n < (1 + 1) * 128 ^ 9 := by unfold foldN; split <;> omega
  simp only [vgetL, vgetF_putU 1 (by decide) 9 0 0 (foldN n) rest hf (.inl rfl)]
  simp [back_fold]
theorem vgetI_one {l : Bs} {n : Int} {k : Nat} (h : vgetI l = .ok (n, k)) : putU (foldN n) = l.take k ∧ 0 < k ∧ k ≤ l.length ∧ -2147483648 ≤ n ∧ n < 2147483648 := by
  unfold vgetI at h
  split at h
  · rename_i x hx
    cases h
    obtain ⟨h1, h2, h3⟩ := putU_of_vget (by decide) hx
    have h4 : x.1 < 4294967296 := by
      have h5 := digs_lt 15 (by decide) 4 0 0 ⟨l, 0, 0⟩ (by decide)
      obtain ⟨_, _, h6⟩ := digs_ok 15 5 0 0 l 0 x.1 x.2 (Nat.zero_le _) hx
      rw [h6] at h5
      exact h5
    exact ⟨by rw [fold_back]; exact h1, h2, h3, backN_range32 _ h4⟩
  · cases h
theorem vgetL_one {l : Bs} {n : Int} {k : Nat} (h : vgetL l = .ok (n, k)) : putU (foldN n) = l.take k ∧ 0 < k ∧ k ≤ l.length ∧ -9223372036854775808 ≤ n ∧ n < 9223372036854775808 := by
  unfold vgetL at h
  split at h
  · rename_i x hx
    cases h
    obtain ⟨h1, h2, h3⟩ := putU_of_vget (by decide) hx
    have h4 : x.1 < 18446744073709551616 := by
      have h5 := digs_lt 1 (by decide) 9 0 0 ⟨l, 0, 0⟩ (by decide)
      obtain ⟨_, _, h6⟩ := digs_ok 1 10 0 0 l 0 x.1 x.2 (Nat.zero_le _) hx
      rw [h6] at h5
      exact h5
    exact ⟨by rw [fold_back]; exact h1, h2, h3, backN_range _ h4⟩
  · cases h
theorem vgetI_long {l : Bs} {x : Int × Nat} (h : vgetI l = .ok x) : vgetL l = .ok x := by
  unfold vgetI at h
  split at h
  · rename_i y hy
    cases h
    have := vgetF_wider 5 0 0 l y (by decide) hy
    simp only [vgetL, this]
  · cases h

end Go.Proofs.YtenojajfacacoaaDoor
