/- Numbers of as many bytes as they need: what they are, and contracts of package varint that write. -/
import Derived.Test.YtenojajfacacoaaDoorOut
namespace Go.Proofs.YtenojajfacacoaaDoor
open Go.RowKit

/-- Digits to the base 128, the lowest first; all but the last one with the highest bit. -/
def putU (u : Nat) : Bs := if u < 128 then [UInt8.ofNat u] else UInt8.ofNat (u % 128 + 128) :: putU (u / 128)
termination_by u
decreasing_by omega

theorem putU_small {u : Nat} (h : u < 128) : putU u = [UInt8.ofNat u] := by rw [putU, if_pos h]
theorem putU_big {u : Nat} (h : ¬ u < 128) : putU u = UInt8.ofNat (u % 128 + 128) :: putU (u / 128) := by rw [putU, if_neg h]

theorem putU_length_le (k : Nat) : ∀ u, u < 128 ^ (k + 1) → (putU u).length ≤ k + 1 := by
  induction k with
  | zero => intro u h; rw [putU_small (by omega)]; simp
  | succ k ih =>
    intro u h
    by_cases h1 : u < 128
    · rw [putU_small h1]; simp
    · rw [putU_big h1, List.length_cons]
      have : u / 128 < 128 ^ (k + 1) := by
        rw [Nat.pow_succ] at h
        exact Nat.div_lt_of_lt_mul (by omega)
      have := ih _ this
      omega
theorem putU_len (u : Nat) (h : u < 18446744073709551616) : (putU u).length ≤ 10 :=
  putU_length_le 9 u (Nat.lt_trans h (by decide))

/-- 0, -1, 1, -2, 2 as 0, 1, 2, 3, 4. -/
def foldN (n : Int) : Nat := if n < 0 then (-(n + 1) * 2 + 1).toNat else (n * 2).toNat
def backN (u : Nat) : Int := if u % 2 = 1 then -((u / 2 : Nat) : Int) - 1 else ((u / 2 : Nat) : Int)

theorem back_fold (n : Int) : backN (foldN n) = n := by
  unfold backN foldN
  split <;> split <;> omega
theorem fold_back (u : Nat) : foldN (backN u) = u := by
  unfold backN foldN
  split <;> split <;> omega
theorem foldN_lt {n : Int} (h0 : -9223372036854775808 ≤ n) (h1 : n < 9223372036854775808) : foldN n < 18446744073709551616 := by
  unfold foldN
  split <;> omega

theorem xor_ones (a : Nat) (h : a < 18446744073709551616) : a ^^^ 18446744073709551615 = 18446744073709551615 - a := by
  have h1 : (BitVec.ofNat 64 a ^^^ BitVec.allOnes 64).toNat = a ^^^ 18446744073709551615 := by
    rw [BitVec.toNat_xor, BitVec.toNat_ofNat, BitVec.toNat_allOnes, Nat.mod_eq_of_lt (by simpa using h)]
  have h2 : BitVec.ofNat 64 a ^^^ BitVec.allOnes 64 = ~~~ BitVec.ofNat 64 a := BitVec.xor_allOnes
  rw [← h1, h2, BitVec.toNat_not, BitVec.toNat_ofNat, Nat.mod_eq_of_lt (by simpa using h)]

def OutS.putUint (o : OutS) (n : Int) : OutS := if n < 0 ∨ 4294967295 < n then o.fail 11 else o.put (putU n.toNat)
def OutS.putInt (o : OutS) (n : Int) : OutS := if fits n 4 then o.put (putU (foldN n)) else o.fail 11
def OutS.putLong (o : OutS) (n : Int) : OutS := o.put (putU (foldN n))

end Go.Proofs.YtenojajfacacoaaDoor
