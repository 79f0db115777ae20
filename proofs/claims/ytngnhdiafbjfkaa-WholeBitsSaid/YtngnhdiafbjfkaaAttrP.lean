/- Bits of an attribute, as numbers. -/
import Derived.Test.YtngnhdiafbjfkaaBase
namespace Go.Proofs.Ytngnhdiafbjfkaa
open Go.RowKit

def bitAt (n : Int) (i : Nat) : Bool := decide (n / 2 ^ i % 2 = 1)
def R64 (n : Int) : Prop := -9223372036854775808 ≤ n ∧ n < 9223372036854775808
theorem wrap_nat0 (k : Nat) (h : k < 18446744073709551616) : IntKind.i64.wrap (k : Int) = 0 ↔ k = 0 := by
  rw [IntKind.wrap_i64]; omega
theorem ofInt64_toNat (n : Int) : ((BitVec.ofInt 64 n).toNat : Int) = n % 18446744073709551616 := by
  rw [BitVec.toNat_ofInt]
  have : (0 : Int) ≤ n % ((2 ^ 64 : Nat) : Int) := Int.emod_nonneg _ (by decide)
  rw [Int.toNat_of_nonneg this]
  rfl
theorem ofInt64_bit (n : Int) (i : Nat) (hi : i < 64) : (BitVec.ofInt 64 n).toNat.testBit i = bitAt n i := by
  obtain ⟨m, hm⟩ : ∃ m, (BitVec.ofInt 64 n).toNat = m := ⟨_, rfl⟩
  have h := ofInt64_toNat n
  rw [hm] at h
  rw [hm, Nat.testBit_eq_decide_div_mod_eq]
  unfold bitAt
  apply decide_eq_decide.mpr
  have hd : ((2 : Int) ^ i) * (2 * 2 ^ (63 - i)) = 18446744073709551616 := by
    rw [← Int.mul_assoc, Int.mul_comm _ 2, Int.mul_assoc, ← Int.pow_add, show i + (63 - i) = 63 by omega]; decide
  have hp : (0 : Int) < 2 ^ i := Int.pow_pos (by decide)
  have e : n = (m : Int) + 2 ^ i * (2 * (2 ^ (63 - i) * (n / 18446744073709551616))) := by
    have h1 := Int.mul_ediv_add_emod n 18446744073709551616
    rw [← Int.mul_assoc 2, ← Int.mul_assoc (2 ^ i), hd]
    omega
  have e2 : n / 2 ^ i = (m : Int) / 2 ^ i + 2 * (2 ^ (63 - i) * (n / 18446744073709551616)) := by
    have := Int.add_mul_ediv_left (m : Int) (2 * (2 ^ (63 - i) * (n / 18446744073709551616))) (Int.ne_of_gt hp)
    rw [← e] at this
    exact this
  have e3 : ((m : Int) / 2 ^ i) = ((m / 2 ^ i : Nat) : Int) := by
    rw [Int.natCast_ediv, Int.natCast_pow]; rfl
  rw [e2, e3, Int.add_mul_emod_self_left]
  omega
theorem and_pow (n : Int) (i : Nat) (hi : i < 63) (m : Int) (hm : BitVec.ofInt 64 m = BitVec.twoPow 64 i) : (bits .and .i64 n m != 0) = bitAt n i := by
  have e : bits .and .i64 n m = IntKind.i64.wrap ((BitVec.ofInt 64 n &&& BitVec.ofInt 64 m).toNat : Int) := rfl
  have hb : (BitVec.ofInt 64 n).getLsbD i = bitAt n i := ofInt64_bit n i (by omega)
  have hp : 2 ^ i < 2 ^ 64 := Nat.pow_lt_pow_right (by decide) (by omega)
  rw [e, hm, BitVec.and_twoPow, hb]
  cases bitAt n i
  · rw [if_neg (by decide)]
    decide
  · rw [if_pos rfl, bne_iff_ne, Ne, wrap_nat0 _ (BitVec.isLt _), BitVec.toNat_twoPow, Nat.mod_eq_of_lt hp]
    exact Nat.ne_of_gt (Nat.two_pow_pos i)
theorem and7 (n : Int) : (bits .and .i64 n 7 != 0) = (bitAt n 0 || bitAt n 1 || bitAt n 2) := by
  have e : bits .and .i64 n 7 = IntKind.i64.wrap ((BitVec.ofInt 64 n &&& BitVec.ofInt 64 7).toNat : Int) := rfl
  have hlt := (BitVec.ofInt 64 n &&& BitVec.ofInt 64 7).isLt
  have hz := wrap_nat0 _ hlt
  have h2 : (BitVec.ofInt 64 n &&& BitVec.ofInt 64 7).toNat = (BitVec.ofInt 64 n).toNat % 8 := by
    rw [BitVec.toNat_and, show (BitVec.ofInt 64 7).toNat = 2 ^ 3 - 1 by decide, Nat.and_two_pow_sub_one_eq_mod]
  have h3 := ofInt64_toNat n
  rw [h2] at e hz
  rw [Bool.eq_iff_iff, bne_iff_ne, e, Ne, hz]
  unfold bitAt
  simp
  omega
theorem andNot56 (n : Int) (hn : R64 n) (h : (bitAt n 0 || bitAt n 1 || bitAt n 2) = false) : (bits .andNot .i64 n 56 != 0) = (decide (n < 0) || decide (63 < n)) := by
  have h8 : n % 8 = 0 := by unfold bitAt at h; simp at h; omega
  by_cases h1 : 0 ≤ n ∧ n ≤ 63
  · rw [decide_eq_false (by omega), decide_eq_false (by omega)]
    obtain ⟨q, hq⟩ : ∃ q, n = 8 * q := ⟨n / 8, by omega⟩
    rcases (by omega : q = 0 ∨ q = 1 ∨ q = 2 ∨ q = 3 ∨ q = 4 ∨ q = 5 ∨ q = 6 ∨ q = 7) with h | h | h | h | h | h | h | h <;> (subst h; subst hq; decide)
  · have hr : (decide (n < 0) || decide (63 < n)) = true := by simp; omega
    rw [hr, bne_iff_ne]
    intro h0
    have e : bits .andNot .i64 n 56 = IntKind.i64.wrap ((BitVec.ofInt 64 n &&& ~~~ BitVec.ofInt 64 56).toNat : Int) := rfl
    rw [e, wrap_nat0 _ (BitVec.isLt _)] at h0
    have h2 : ∀ i, 6 ≤ i → (BitVec.ofInt 64 n).toNat.testBit i = false := by
      intro i hi
      by_cases h64 : i < 64
      · have h4 := congrArg (fun k => Nat.testBit k i) h0
        have h5 : (BitVec.ofInt 64 n &&& ~~~ BitVec.ofInt 64 56).getLsbD i = false := by
          have : (BitVec.ofInt 64 n &&& ~~~ BitVec.ofInt 64 56).toNat.testBit i = false := by rw [h0]; exact Nat.zero_testBit i
          exact this
        rw [BitVec.getLsbD_and, BitVec.getLsbD_not] at h5
        have h6 : (BitVec.ofInt 64 56).getLsbD i = false := by
          have : (BitVec.ofInt 64 56).toNat = 56 := by decide
          unfold BitVec.getLsbD
          rw [this]
          exact Nat.testBit_lt_two_pow (Nat.lt_of_lt_of_le (by decide : 56 < 2 ^ 6) (Nat.pow_le_pow_right (by decide) hi))
        rw [h6] at h5
        have h11 : (BitVec.ofInt 64 n).getLsbD i = false := by cases hc : (BitVec.ofInt 64 n).getLsbD i <;> simp_all
        exact h11
      · exact BitVec.getLsbD_of_ge _ _ (by omega)
    have h7 : (BitVec.ofInt 64 n).toNat < 2 ^ 6 := Nat.lt_pow_two_of_testBit _ h2
    have h8 := ofInt64_toNat n
    have h9 := hn.1
    have h10 := hn.2
    omega
theorem tmod2 (x : Int) : x.tmod 2 = if 0 ≤ x then x % 2 else -((-x) % 2) := by
  split
  · rw [Int.tmod_eq_emod_of_nonneg (by assumption)]
  · rw [← Int.tmod_eq_emod_of_nonneg (by omega), Int.neg_tmod, Int.neg_neg]
theorem halve {x : Int} (hx : R64 x) : wrap64 ((wrap64 (x - (wrap64 ((if 0 ≤ x then x % 2 else -((-x) % 2)) + 2)).tmod 2)).tdiv 2) = x / 2 := by
  have h1 := hx.1
  have h2 := hx.2
  have e1 : (wrap64 ((if 0 ≤ x then x % 2 else -((-x) % 2)) + 2)).tmod 2 = x % 2 := by
    have : wrap64 ((if 0 ≤ x then x % 2 else -((-x) % 2)) + 2) = (if 0 ≤ x then x % 2 else -((-x) % 2)) + 2 := by
      unfold wrap64; split <;> omega
    rw [this, Int.tmod_eq_emod_of_nonneg (by split <;> omega)]
    split <;> omega
  rw [e1]
  have e2 : wrap64 (x - x % 2) = 2 * (x / 2) := by unfold wrap64; omega
  rw [e2, Int.mul_tdiv_cancel_left _ (by decide)]
  unfold wrap64; omega
def chk (n : Int) : Int := if (bitAt n 0 || bitAt n 1 || bitAt n 2) = true then 9 else if (decide (n < 0) || decide (63 < n) || (bitAt n 5 && !bitAt n 4)) = true then 8 else 0
def attrN (a t c : Bool) (k : Nat) : Int := (if a && decide (0 < k) then 8 else 0) + (if t && decide (1 < k) then 16 else 0) + (if c && decide (2 < k) then 32 else 0)

end Go.Proofs.Ytngnhdiafbjfkaa
