/- A text. -/
import Derived.Test.YtmpehoebgifmnaaIn
namespace Go.Proofs.Ytmpehoebgifmnaa
open Go.RowKit

def beBytes (n : Int) : Nat → Bs
  | 0 => []
  | k + 1 => beBytes (n / 256) k ++ [UInt8.ofNat (n % 256).toNat]

@[simp] theorem beBytes_length (n : Int) (k : Nat) : (beBytes n k).length = k := by
  induction k generalizing n with
  | zero => rfl
  | succ k ih => simp [beBytes, ih]

def half (k : Nat) : Int := 128 * 256 ^ (k - 1)

theorem sInt_beBytes_succ (n : Int) (k : Nat) : sInt (beBytes n (k + 2)) = sInt (beBytes (n / 256) (k + 1)) * 256 + n % 256 := by
 have e : beBytes n (k + 2) = beBytes (n / 256) (k + 1) ++ [UInt8.ofNat (n % 256).toNat] := rfl; rw [e]
 cases h : beBytes (n / 256) (k + 1) with
 | nil => have := congrArg List.length h; rw [beBytes_length] at this; simp at this
 | cons c t =>
  rw [List.cons_append, sInt_snoc]; have h256 : (n % 256).toNat < 256 := by omega
  simp [Nat.mod_eq_of_lt h256]
  omega

theorem mod_mul_add (a b r : Int) (hb : 0 < b) (h0 : 0 ≤ r) (h1 : r < 256) : (256 * a + r) % (256 * b) = 256 * (a % b) + r := by
 have ha := Int.emod_add_mul_ediv a b; have h2 := Int.emod_nonneg a (Int.ne_of_gt hb); have h3 := Int.emod_lt_of_pos a hb
 have e : 256 * a + r = (256 * (a % b) + r) + (256 * b) * (a / b) := by
  rw [Int.mul_assoc]; omega
 rw [e, Int.add_mul_emod_self_left, Int.emod_eq_of_lt (by omega) (by omega)]

theorem half_pos (k : Nat) : 0 < half k := by unfold half; have : (0 : Int) < 256 ^ (k - 1) := Int.pow_pos (by decide); omega

theorem sInt_beBytes (n : Int) (k : Nat) : sInt (beBytes n (k + 1)) = (n + half (k + 1)) % (2 * half (k + 1)) - half (k + 1) := by
 induction k generalizing n with
 | zero =>
  have h256 : (n % 256).toNat < 256 := by omega
  have : sInt (beBytes n 1) = sByte (UInt8.ofNat (n % 256).toNat) := rfl; rw [this]; simp [sByte, half, Nat.mod_eq_of_lt h256]
  split <;> omega
 | succ k ih =>
  rw [sInt_beBytes_succ, ih]; have hp := half_pos (k + 1); have e : half (k + 2) = 256 * half (k + 1) := by unfold half; simp only [Nat.add_sub_cancel, show k + 2 - 1 = k + 1 by omega, Int.pow_succ]; omega
  rw [e]; have := mod_mul_add (n / 256 + half (k + 1)) (2 * half (k + 1)) (n % 256) (by omega) (by omega) (by omega); have e2 : n + 256 * half (k + 1) = 256 * (n / 256 + half (k + 1)) + n % 256 := by omega
  have e3 : 2 * (256 * half (k + 1)) = 256 * (2 * half (k + 1)) := by omega
  rw [e2, e3, this]
  omega

theorem sInt_beBytes_iff (n : Int) (k : Nat) (hk : 1 ≤ k) : sInt (beBytes n k) = n ↔ (-half k ≤ n ∧ n < half k) := by
 obtain ⟨k, rfl⟩ : ∃ j, k = j + 1 := ⟨k - 1, by omega⟩; rw [sInt_beBytes]; have hp := half_pos (k + 1)
 constructor
 · intro h; have h2 := Int.emod_nonneg (n + half (k + 1)) (b := 2 * half (k + 1)) (by omega); have h3 := Int.emod_lt_of_pos (n + half (k + 1)) (b := 2 * half (k + 1)) (by omega)
   omega
 · intro h; rw [Int.emod_eq_of_lt (by omega) (by omega)]
   omega

def fits (n size : Int) : Prop := 1 ≤ size ∧ size ≤ 8 ∧ -half size.toNat ≤ n ∧ n < half size.toNat
instance (n size : Int) : Decidable (fits n size) := by unfold fits; infer_instance

end Go.Proofs.Ytmpehoebgifmnaa
