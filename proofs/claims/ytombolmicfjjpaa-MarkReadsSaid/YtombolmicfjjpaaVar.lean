/- Numbers of as many bytes as they need: what they are, and contracts of package varint that write. -/
import Derived.Test.YtombolmicfjjpaaOut
namespace Go.Proofs.Ytombolmicfjjpaa
open Go.RowKit

/-- Digits to the base 128, the lowest first; all but the last one with the highest bit. -/
def putU (u : Nat) : Bs := if u < 128 then [UInt8.ofNat u] else UInt8.ofNat (u % 128 + 128) :: putU (u / 128)
termination_by u
decreasing_by omega

theorem putU_small {u : Nat} (h : u < 128) : putU u = [UInt8.ofNat u] := by rw [putU, if_pos h]
theorem putU_big {u : Nat} (h : ¬ u < 128) : putU u = UInt8.ofNat (u % 128 + 128) :: putU (u / 128) := by rw [putU, if_neg h]

/-- 0, -1, 1, -2, 2 as 0, 1, 2, 3, 4. -/
def foldN (n : Int) : Nat := if n < 0 then (-(n + 1) * 2 + 1).toNat else (n * 2).toNat
def backN (u : Nat) : Int := if u % 2 = 1 then -((u / 2 : Nat) : Int) - 1 else ((u / 2 : Nat) : Int)

theorem back_fold (n : Int) : backN (foldN n) = n := by
  unfold backN foldN
  split <;> split <;> omega
theorem fold_back (u : Nat) : foldN (backN u) = u := by
  unfold backN foldN
  split <;> split <;> omega
end Go.Proofs.Ytombolmicfjjpaa
