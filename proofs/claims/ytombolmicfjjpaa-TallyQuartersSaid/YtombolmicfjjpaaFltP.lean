/- Floats that are whole numbers (pure). -/
import Derived.Laws.ComplexArith
namespace Go.Proofs.Ytombolmicfjjpaa
open Go Ieee

/-- A datum that stands for a whole number. -/
def FV (d : Datum) (n : Int) : Prop := ∃ (s : Bool) (m : Nat) (p : Int), d = .number s m p ∧ p ≤ 0 ∧ (if s then -(m : Int) else (m : Int)) = n * 2 ^ (-p).toNat
/-- A word that does. -/
def FI (x : Nat) (n : Int) : Prop := FV (double.read x) n
def Wh (n : Int) : Prop := -9007199254740992 < n ∧ n < 9007199254740992
theorem signed_eq (s : Bool) (m up : Nat) : signed s m up = (if s then -(m : Int) else (m : Int)) * 2 ^ up := by
  unfold signed
  rw [Nat.shiftLeft_eq]
  cases s <;> simp [Int.neg_mul]
theorem pow_shift {i b : Int} (hb : b ≤ i) (hi : i ≤ 0) : (2 : Int) ^ (-i).toNat * 2 ^ (i - b).toNat = 2 ^ (-b).toNat := by
  rw [← Int.pow_add]
  congr 1
  omega
theorem FV.sum {c d : Datum} {a b : Int} (ha : FV c a) (hb : FV d b) : ∃ e, c.sum d = some e ∧ FV e (a + b) := by
  obtain ⟨s, m, i, rfl, hi, va⟩ := ha
  obtain ⟨t, n, j, rfl, hj, vb⟩ := hb
  refine ⟨_, rfl, ?_⟩
  have hmi : min i j ≤ i := Int.min_le_left _ _
  have hmj : min i j ≤ j := Int.min_le_right _ _
  have e1 : signed s m (i - min i j).toNat = a * 2 ^ (-(min i j)).toNat := by rw [signed_eq, va, Int.mul_assoc, pow_shift hmi hi]
  have e2 : signed t n (j - min i j).toNat = b * 2 ^ (-(min i j)).toNat := by rw [signed_eq, vb, Int.mul_assoc, pow_shift hmj hj]
  have e3 : signed s m (i - min i j).toNat + signed t n (j - min i j).toNat = (a + b) * 2 ^ (-(min i j)).toNat := by rw [e1, e2, Int.add_mul]
  refine ⟨_, _, _, rfl, by omega, ?_⟩
  rw [e3]
  generalize (a + b) * 2 ^ (-(min i j)).toNat = T
  by_cases h0 : T = 0
  · subst h0; cases s <;> cases t <;> simp
  · rw [if_neg h0]
    by_cases h1 : T < 0
    · rw [if_pos (by simpa using h1)]; omega
    · rw [if_neg (by simpa using h1)]; omega
theorem FV.opposite {c : Datum} {a : Int} (ha : FV c a) : FV c.opposite (-a) := by
  obtain ⟨s, m, i, rfl, hi, va⟩ := ha
  refine ⟨!s, m, i, rfl, hi, ?_⟩
  rw [Int.neg_mul, ← va]
  cases s <;> simp
theorem FV.cmp {c d : Datum} {a b : Int} (ha : FV c a) (hb : FV d b) : ∃ o, c.order d = some o ∧ (o = .eq ↔ a = b) := by
  obtain ⟨s, m, i, rfl, hi, va⟩ := ha
  obtain ⟨t, n, j, rfl, hj, vb⟩ := hb
  have hmi : min i j ≤ i := Int.min_le_left _ _
  have hmj : min i j ≤ j := Int.min_le_right _ _
  have e1 : signed s m (i - min i j).toNat = a * 2 ^ (-(min i j)).toNat := by rw [signed_eq, va, Int.mul_assoc, pow_shift hmi hi]
  have e2 : signed t n (j - min i j).toNat = b * 2 ^ (-(min i j)).toNat := by rw [signed_eq, vb, Int.mul_assoc, pow_shift hmj hj]
  refine ⟨compare (a * 2 ^ (-(min i j)).toNat) (b * 2 ^ (-(min i j)).toNat), ?_, ?_⟩
  · show some (compare (signed s m (i - min i j).toNat) (signed t n (j - min i j).toNat)) = _
    rw [e1, e2]
  · have hp : (0 : Int) < 2 ^ (-(min i j)).toNat := Int.pow_pos (by decide)
    constructor
    · intro h
      have h2 : a * 2 ^ (-(min i j)).toNat = b * 2 ^ (-(min i j)).toNat := by
        rw [show compare (a * 2 ^ (-(min i j)).toNat) (b * 2 ^ (-(min i j)).toNat) = compareOfLessAndEq _ _ from rfl] at h
        unfold compareOfLessAndEq at h
        split at h
        · cases h
        · split at h
          · assumption
          · cases h
      exact Int.eq_of_mul_eq_mul_right (by omega) h2
    · rintro rfl
      show compareOfLessAndEq _ _ = _
      unfold compareOfLessAndEq
      rw [if_neg (Int.lt_irrefl _), if_pos rfl]
theorem cut_zero (way : Toward) (neg : Bool) (n : Nat) : way.cut neg n 0 = n := by
  unfold Toward.cut
  cases way <;> simp [Nat.mod_one]
theorem log2_mul_pow (N k : Nat) (h : N ≠ 0) : (N * 2 ^ k).log2 = N.log2 + k := by
  induction k with
  | zero => simp
  | succ k ih =>
    rw [Nat.pow_succ, ← Nat.mul_assoc, Nat.mul_comm _ 2, Nat.log2_two_mul (Nat.mul_ne_zero h (Nat.ne_of_gt (Nat.two_pow_pos k))), ih]
    rfl
theorem cut_pow (way : Toward) (neg : Bool) (N k : Nat) (h : N ≠ 0) : way.cut neg (N * 2 ^ k) k = N := by
  have hl := log2_mul_pow N k h
  unfold Toward.cut
  have hm : min k ((N * 2 ^ k).log2 + 2) = k := by rw [hl]; omega
  have hp : 0 < 2 ^ k := Nat.two_pow_pos k
  simp only [hm, Nat.one_shiftLeft, Nat.mul_div_cancel _ hp, Nat.mul_mod_left]
  cases way <;> simp <;> omega
theorem read_word (s : Bool) (e K : Nat) (he : e ≤ 52) (h1 : 4503599627370496 ≤ K) (h2 : K < 9007199254740992) : double.read (double.word s ((e + 1022) * 4503599627370496 + K)) = .number s K ((e : Int) - 52) := by
  have hR : (e + 1022) * 4503599627370496 + K < 9223372036854775808 := by omega
  have hs : double.signWeight = 9223372036854775808 := by decide
  have hb : double.binade = 4503599627370496 := by decide
  have hi : double.infRung = 9218868437227405312 := by decide
  have hl : double.leastPlace = -1074 := by decide
  have hm : double.word s ((e + 1022) * 4503599627370496 + K) % 9223372036854775808 = (e + 1022) * 4503599627370496 + K := by
    unfold Format.word
    rw [hs]
    cases s <;> simp <;> omega
  have hd : (double.word s ((e + 1022) * 4503599627370496 + K) / 9223372036854775808 % 2 == 1) = s := by
    unfold Format.word
    rw [hs]
    cases s
    · simp only [Bool.false_eq_true, if_false]
      rw [Nat.div_eq_of_lt hR]
      rfl
    · simp only [if_true]
      rw [show (9223372036854775808 + ((e + 1022) * 4503599627370496 + K)) / 9223372036854775808 = 1 by omega]
      rfl
  unfold Format.read
  simp only [hs, hb, hi, hl, hm, hd]
  rw [if_neg (by omega), if_pos (by omega)]
  have e1 : 4503599627370496 + ((e + 1022) * 4503599627370496 + K) % 4503599627370496 = K := by omega
  have e3 : (-1074 : Int) + ((((e + 1022) * 4503599627370496 + K) / 4503599627370496 - 1 : Nat) : Int) = (e : Int) - 52 := by omega
  exact congr (congrArg (Datum.number s) e1) e3
theorem min_word (e K : Nat) (he : e ≤ 52) (hK : K < 9007199254740992) : min ((((e : Int) - 52) - double.leastPlace).toNat * double.binade + K) double.infRung = (e + 1022) * 4503599627370496 + K := by
  have hb : double.binade = 4503599627370496 := by decide
  have hi : double.infRung = 9218868437227405312 := by decide
  have hl : double.leastPlace = -1074 := by decide
  rw [hb, hi, hl, show (((e : Int) - 52) - (-1074)).toNat = e + 1022 by omega]
  omega
theorem neg_place (e : Nat) (he : e ≤ 52) : (e : Int) - 52 ≤ 0 := by omega
theorem neg_place2 (e : Nat) (he : e ≤ 52) : (-((e : Int) - 52)).toNat = 52 - e := by omega
theorem read_zero (s : Bool) : FI (double.word s 0) 0 := by
  cases s
  · exact ⟨false, 0, -1074, by decide +kernel, by decide, by rw [Int.zero_mul]; rfl⟩
  · exact ⟨true, 0, -1074, by decide +kernel, by decide, by rw [Int.zero_mul]; rfl⟩
theorem FV.write {d : Datum} {n : Int} (h : FV d n) (hn : Wh n) : FI (double.write d) n := by
  obtain ⟨s, m, p, rfl, hp, hv⟩ := h
  show FI (double.nearest s m p) n
  unfold Format.nearest
  obtain ⟨k, hk⟩ : ∃ k, (-p).toNat = k := ⟨_, rfl⟩
  have hpk : p = -(k : Int) := by omega
  rw [hk] at hv
  by_cases hm : m = 0
  · rw [if_pos hm]
    subst hm
    have h0 : n = 0 := by
      have hz : n * 2 ^ k = 0 := by rw [← hv]; cases s <;> simp
      rcases Int.mul_eq_zero.1 hz with h | h
      · exact h
      · exact absurd h (Int.ne_of_gt (Int.pow_pos (by decide)))
    subst h0
    exact read_zero s
  · rw [if_neg hm]
    obtain ⟨N, hN⟩ : ∃ N, n.natAbs = N := ⟨_, rfl⟩
    have hmN : m = N * 2 ^ k := by
      have h1 : (m : Int).natAbs = (n * 2 ^ k).natAbs := by rw [← hv]; cases s <;> simp
      rw [Int.natAbs_mul, Int.natAbs_pow, hN] at h1
      simpa using h1
    have hN0 : N ≠ 0 := by rintro rfl; simp at hmN; exact hm hmN
    have hNl : N < 9007199254740992 := by unfold Wh at hn; omega
    have hL := log2_mul_pow N k hN0
    obtain ⟨e, he⟩ : ∃ e, N.log2 = e := ⟨_, rfl⟩
    have he52 : e ≤ 52 := by
      have h53 : N < 2 ^ 53 := hNl
      have := (Nat.log2_lt hN0).2 h53
      omega
    have hb1 : 2 ^ e ≤ N := by rw [← he]; exact Nat.log2_self_le hN0
    have hb2 : N < 2 ^ (e + 1) := by rw [← he]; exact Nat.lt_log2_self
    rw [hmN, hL, he]
    have hlast : max (p + ((e + k : Nat) : Int) - (double.fractionBits : Int)) double.leastPlace = (e : Int) - 52 := by
      show max (p + ((e + k : Nat) : Int) - 52) (-1074) = _
      omega
    simp only [hlast]
    have hkept : Toward.even.cut s ((N * 2 ^ k) <<< (p - ((e : Int) - 52)).toNat) (((e : Int) - 52) - p).toNat = N * 2 ^ (52 - e) := by
      rw [Nat.shiftLeft_eq]
      by_cases hc : k ≤ 52 - e
      · rw [show (((e : Int) - 52) - p).toNat = 0 by omega, cut_zero, Nat.mul_assoc, ← Nat.pow_add]
        congr 2
        omega
      · rw [show (p - ((e : Int) - 52)).toNat = 0 by omega, Nat.pow_zero, Nat.mul_one, show N * 2 ^ k = (N * 2 ^ (52 - e)) * 2 ^ (((e : Int) - 52) - p).toNat by rw [Nat.mul_assoc, ← Nat.pow_add]; congr 2; omega]
        exact cut_pow _ _ _ _ (Nat.mul_ne_zero hN0 (Nat.ne_of_gt (Nat.two_pow_pos _)))
    rw [hkept]
    have hK1 : 4503599627370496 ≤ N * 2 ^ (52 - e) := by
      have h1 := Nat.mul_le_mul_right (2 ^ (52 - e)) hb1
      rw [← Nat.pow_add, show e + (52 - e) = 52 by omega] at h1
      simpa using h1
    have hK2 : N * 2 ^ (52 - e) < 9007199254740992 := by
      have h1 := Nat.mul_lt_mul_of_pos_right hb2 (Nat.two_pow_pos (52 - e))
      rw [← Nat.pow_add, show e + 1 + (52 - e) = 53 by omega] at h1
      simpa using h1
    obtain ⟨K, hKK⟩ : ∃ K, N * 2 ^ (52 - e) = K := ⟨_, rfl⟩
    rw [hKK] at hK1 hK2 ⊢
    have hmin := min_word e K he52 hK2
    rw [hmin]
    refine ⟨s, K, (e : Int) - 52, read_word s e _ he52 hK1 hK2, neg_place e he52, ?_⟩
    rw [neg_place2 e he52, ← hKK]
    have hsg : (if s then -(N : Int) else (N : Int)) = n := by
      have hpp : (0 : Int) < 2 ^ k := Int.pow_pos (by decide)
      have h2 : (if s then -(N : Int) else (N : Int)) * 2 ^ k = n * 2 ^ k := by
        rw [← hv, hmN]
        cases s <;> simp [Int.neg_mul]
      exact Int.eq_of_mul_eq_mul_right (Int.ne_of_gt hpp) h2
    rw [← hsg]
    cases s <;> simp [Int.neg_mul]
/-- Sums of whole numbers are exact. -/
theorem FI.add {x y : Nat} {a b : Int} (ha : FI x a) (hb : FI y b) (h : Wh (a + b)) : ∃ r, double.add x y = some r ∧ FI r (a + b) := by
  obtain ⟨e, he, hv⟩ := FV.sum ha hb
  exact ⟨double.write e, by unfold Format.add; rw [he]; rfl, hv.write h⟩
theorem FI.ofInt (n : Int) (h : Wh n) : FI (double.write (.number (n < 0) n.natAbs 0)) n := by
  refine FV.write ⟨_, _, _, rfl, by decide, ?_⟩ h
  by_cases h0 : n < 0
  · simp [h0]; omega
  · simp [h0]; omega

end Go.Proofs.Ytombolmicfjjpaa
