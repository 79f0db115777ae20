/- Contracts of cursitorref03: reading. -/
import Derived.Test.YtenojajfacacoaaDoorRef03
namespace Go.Proofs.YtenojajfacacoaaDoor
open Go.RowKit

def pow128 (i : Nat) : Nat := 128 ^ i % 18446744073709551616
theorem pow128_succ (i : Nat) : IntKind.u64.wrap ((pow128 i : Int) * 128) = (pow128 (i + 1) : Int) := by
  unfold pow128
  rw [IntKind.wrap_u64, Nat.pow_succ]
  omega
theorem pow128_small (i : Nat) (h : i ≤ 9) : pow128 i = 128 ^ i := by
  unfold pow128
  have : (128 : Nat) ^ i ≤ 128 ^ 9 := Nat.pow_le_pow_right (by decide) h
  exact Nat.mod_eq_of_lt (Nat.lt_of_le_of_lt this (by decide))
theorem add_digit (n d i : Nat) (hn : n < 128 ^ i) (hi : i ≤ 9) (hd : d < 128) (h9 : i = 9 → d ≤ 1) :
    IntKind.u64.wrap ((n : Int) + IntKind.u64.wrap ((d : Int) * (pow128 i : Int))) = ((n + d * 128 ^ i : Nat) : Int) := by
  rw [pow128_small i hi]
  have hle : (128 : Nat) ^ i ≤ 128 ^ 9 := Nat.pow_le_pow_right (by decide) hi
  have p9 : (128 : Nat) ^ 9 = 9223372036854775808 := by decide
  have p8 : (128 : Nat) ^ 8 = 72057594037927936 := by decide
  have hb : d * 128 ^ i + 128 ^ i ≤ 18446744073709551616 := by
    by_cases h : i = 9
    · subst h
      have := h9 rfl
      have : d * 128 ^ 9 ≤ 1 * 128 ^ 9 := Nat.mul_le_mul_right _ this
      exact Nat.le_trans (Nat.add_le_add_right this _) (by decide)
    · have h8 : (128 : Nat) ^ i ≤ 128 ^ 8 := Nat.pow_le_pow_right (by decide) (by omega)
      have : (d + 1) * 128 ^ i ≤ 128 * 128 ^ 8 := Nat.mul_le_mul (by omega) h8
      rw [Nat.add_mul, Nat.one_mul, p8] at this
      omega
  have e : (d : Int) * ((128 ^ i : Nat) : Int) = ((d * 128 ^ i : Nat) : Int) := by push_cast; rfl
  rw [e]
  generalize d * 128 ^ i = m at *
  generalize 128 ^ i = p at *
  rw [IntKind.wrap_u64, IntKind.wrap_u64]
  omega

def getV (r : Except Int (Nat × Nat)) : Value := .tuple #[.int .u64 (vN r), .int .i64 (vK r), .int .i64 (vE r)]

theorem getV_last {x : Int} {m i : Nat} (h : x = m) : Ending.returned (.tuple #[.int .u64 x, .int .i64 ((i : Int) + 1), .int .i64 0]) = Ending.returned (getV (.ok (m, i + 1))) := by
  subst h
  simp [getV, vN, vK, vE]
theorem s_drop (s : Bs) (i : Nat) (h : i < s.length) : s.drop i = s[i] :: s.drop (i + 1) := List.drop_eq_getElem_cons h
theorem ones_succ (k : Nat) (h : k < 7) : IntKind.u64.wrap (IntKind.u64.wrap ((((2 ^ k - 1 : Nat) : Int)) * 2) + 1) = ((2 ^ (k + 1) - 1 : Nat) : Int) := by
  have : k = 0 ∨ k = 1 ∨ k = 2 ∨ k = 3 ∨ k = 4 ∨ k = 5 ∨ k = 6 := by omega
  rcases this with rfl | rfl | rfl | rfl | rfl | rfl | rfl <;> decide +kernel

end Go.Proofs.YtenojajfacacoaaDoor
