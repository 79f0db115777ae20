/- A text. -/
import Derived.Test.YtmpehoebgifmnaaVarIn
namespace Go.Proofs.Ytmpehoebgifmnaa
open Go.RowKit

def mk (l : Bs) (i : Nat) : Bs := (l.take i).map (fun c => UInt8.ofNat (c.toNat + 128)) ++ l.drop i
def vgetF (top : Nat) : Nat → Nat → Nat → Bs → Except Int (Nat × Nat)
  | _, _, _, [] => .error 1
  | 0, _, _, _ :: _ => .error 3
  | f + 1, r, n, c :: t =>
    if (f = 0 ∧ top < c.toNat % 128) ∨ (0 < r ∧ c.toNat % 128 = 0 ∧ c.toNat < 128) then .error 3
    else if 128 ≤ c.toNat then vgetF top f (r + 1) (n + c.toNat % 128 * 128 ^ r) t
    else .ok (n + c.toNat % 128 * 128 ^ r, r + 1)
theorem vg_bad0 {top r n : Nat} {c : UInt8} {t : Bs} : vgetF top 0 r n (c :: t) = .error 3 := rfl
theorem vg_none {top f r n : Nat} : vgetF top f r n [] = .error 1 := by cases f <;> rfl
theorem vg_bad {top f r n : Nat} {c : UInt8} {t : Bs} (hb : (f = 0 ∧ top < c.toNat % 128) ∨ (0 < r ∧ c.toNat % 128 = 0 ∧ c.toNat < 128)) : vgetF top (f + 1) r n (c :: t) = .error 3 := by simp only [vgetF]; rw [if_pos hb]
theorem vg_more {top f r n : Nat} {c : UInt8} {t : Bs} (hb : ¬ ((f = 0 ∧ top < c.toNat % 128) ∨ (0 < r ∧ c.toNat % 128 = 0 ∧ c.toNat < 128))) (hm : 128 ≤ c.toNat) :
 vgetF top (f + 1) r n (c :: t) = vgetF top f (r + 1) (n + c.toNat % 128 * 128 ^ r) t := by simp only [vgetF]; rw [if_neg hb, if_pos hm]
theorem vg_last {top f r n : Nat} {c : UInt8} {t : Bs} (hb : ¬ ((f = 0 ∧ top < c.toNat % 128) ∨ (0 < r ∧ c.toNat % 128 = 0 ∧ c.toNat < 128))) (hm : ¬ 128 ≤ c.toNat) :
 vgetF top (f + 1) r n (c :: t) = .ok (n + c.toNat % 128 * 128 ^ r, r + 1) := by simp only [vgetF]; rw [if_neg hb, if_neg hm]
end Go.Proofs.Ytmpehoebgifmnaa
