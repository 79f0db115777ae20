/- A text. -/
import Derived.Test.YtmpehoebgifmnaaOut
namespace Go.Proofs.Ytmpehoebgifmnaa
open Go.RowKit

def putU (u : Nat) : Bs := if u < 128 then [UInt8.ofNat u] else UInt8.ofNat (u % 128 + 128) :: putU (u / 128)
termination_by u
decreasing_by omega

theorem putU_small {u : Nat} (h : u < 128) : putU u = [UInt8.ofNat u] := by rw [putU, if_pos h]
theorem putU_big {u : Nat} (h : ¬ u < 128) : putU u = UInt8.ofNat (u % 128 + 128) :: putU (u / 128) := by rw [putU, if_neg h]

def foldN (n : Int) : Nat := if n < 0 then (-(n + 1) * 2 + 1).toNat else (n * 2).toNat
def backN (u : Nat) : Int := if u % 2 = 1 then -((u / 2 : Nat) : Int) - 1 else ((u / 2 : Nat) : Int)

theorem back_fold (n : Int) : backN (foldN n) = n := by
 unfold backN foldN
 split <;> split <;> omega
theorem fold_back (u : Nat) : foldN (backN u) = u := by
 unfold backN foldN
 split <;> split <;> omega
end Go.Proofs.Ytmpehoebgifmnaa
