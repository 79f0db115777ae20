/- Floats that are whole numbers: more. -/
import Derived.Test.YtombolmicfjjpaaFltP
import Derived.Test.YtombolmicfjjpaaNum
import Derived.Laws.Cover3
import Derived.IntWalk
namespace Go.Proofs.Ytombolmicfjjpaa
open Go Ieee

theorem neg_mod (x : Nat) : (x ^^^ 9223372036854775808) % 9223372036854775808 = x % 9223372036854775808 := by
  have h := Nat.xor_mod_two_pow (a := x) (b := 9223372036854775808) (n := 63)
  have e : (2 : Nat) ^ 63 = 9223372036854775808 := by decide
  rw [e] at h
  rw [h]
  simp
theorem neg_div (x : Nat) : ((x ^^^ 9223372036854775808) / 9223372036854775808 % 2 == 1) = !(x / 9223372036854775808 % 2 == 1) := by
  have e : (2 : Nat) ^ 63 = 9223372036854775808 := by decide
  have h := Nat.shiftRight_xor_distrib (a := x) (b := 9223372036854775808) (i := 63)
  simp only [Nat.shiftRight_eq_div_pow, e] at h
  have h2 : (9223372036854775808 : Nat) / 9223372036854775808 = 1 := by decide
  have h4 := Nat.xor_mod_two_pow (a := x / 9223372036854775808) (b := 1) (n := 1)
  rw [Nat.pow_one] at h4
  rw [h, h2, h4]
  rcases (by omega : x / 9223372036854775808 % 2 = 0 ∨ x / 9223372036854775808 % 2 = 1) with h3 | h3 <;> rw [h3] <;> decide
theorem read_neg (x : Nat) : double.read (Op.negFloat .f64 x) = (double.read x).opposite := by
  show double.read (x ^^^ 9223372036854775808) = _
  unfold Format.read
  have hs : double.signWeight = 9223372036854775808 := by decide
  simp only [hs, neg_mod, neg_div]
  split
  · rfl
  · split
    · rfl
    · split <;> rfl
theorem FI.neg {x : Nat} {a : Int} (h : FI x a) : FI (Op.negFloat .f64 x) (-a) := by
  unfold FI
  rw [read_neg]
  exact FV.opposite h
theorem FI.zero : FI 0 0 := read_zero false
theorem FI.eq {x y : Nat} {a b : Int} (ha : FI x a) (hb : FI y b) : ((FloatKind.format .f64).order x y == some .eq) = decide (a = b) := by
  obtain ⟨o, ho, hi⟩ := FV.cmp ha hb
  show ((double.read x).order (double.read y) == some .eq) = _
  rw [ho]
  by_cases h : a = b
  · rw [hi.2 h]; simp [h]
  · have : o ≠ .eq := fun h2 => h (hi.1 h2)
    cases o <;> simp_all
theorem FI.toInt {x : Nat} {a : Int} (ha : FI x a) : (FloatKind.f64.decode x).toInt .zero = some a := by
  obtain ⟨s, m, p, hd, hp, hv⟩ := ha
  show (double.read x).toInt .zero = _
  rw [hd]
  obtain ⟨k, hk⟩ : ∃ k, (-p).toNat = k := ⟨_, rfl⟩
  rw [hk] at hv
  unfold Datum.toInt Datum.integral
  have e1 : p.toNat = 0 := by omega
  simp only [e1, Nat.shiftLeft_zero, hk]
  rw [signed_eq]
  simp only [Int.pow_zero, Int.mul_one]
  obtain ⟨N, hN⟩ : ∃ N, a.natAbs = N := ⟨_, rfl⟩
  have hmN : m = N * 2 ^ k := by
    have h1 : (m : Int).natAbs = (a * 2 ^ k).natAbs := by rw [← hv]; cases s <;> simp
    rw [Int.natAbs_mul, Int.natAbs_pow, hN] at h1
    simpa using h1
  have hc : Toward.zero.cut s m k = N := by
    by_cases h0 : N = 0
    · subst h0
      rw [hmN]
      unfold Toward.cut
      simp
    · rw [hmN]; exact cut_pow _ _ _ _ h0
  rw [hc]
  have hpp : (0 : Int) < 2 ^ k := Int.pow_pos (by decide)
  have h2 : (if s then -(N : Int) else (N : Int)) * 2 ^ k = a * 2 ^ k := by
    rw [← hv, hmN]
    cases s <;> simp [Int.neg_mul]
  rw [Int.eq_of_mul_eq_mul_right (Int.ne_of_gt hpp) h2]
theorem and3 (q : Int) : bits .and .i64 q 3 = q % 4 := by
  rw [bits_and_i64]
  have e : ((3 : Int) % 18446744073709551616).toNat = 2 ^ 2 - 1 := by decide
  rw [e, Nat.and_two_pow_sub_one_eq_mod]
  have h1 : ((q % 18446744073709551616).toNat : Int) = q % 18446744073709551616 := Int.toNat_of_nonneg (Int.emod_nonneg _ (by decide))
  have h2 : (((q % 18446744073709551616).toNat % 2 ^ 2 : Nat) : Int) = q % 4 := by
    rw [Int.natCast_emod, h1]
    show (q % 18446744073709551616) % 4 = q % 4
    omega
  rw [h2]
  exact IntWalk.i64_in _ (by omega)

end Go.Proofs.Ytombolmicfjjpaa
