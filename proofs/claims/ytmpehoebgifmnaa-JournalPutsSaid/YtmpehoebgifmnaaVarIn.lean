/- A text. -/
import Derived.Test.YtmpehoebgifmnaaVar
namespace Go.Proofs.Ytmpehoebgifmnaa
open Go.RowKit

def digs (top : Nat) : Nat → Nat → Nat → InS → Nat × InS
  | 0, _, _, i => match (i.take 1).1 with
    | [] => (0, (i.take 1).2)
    | _ :: _ => (0, (i.take 1).2.fail 3)
  | f + 1, read, n, i => match (i.take 1).1 with
    | [] => (0, (i.take 1).2)
    | c :: _ =>
      if (f = 0 ∧ top < c.toNat % 128) ∨ (0 < read ∧ c.toNat % 128 = 0 ∧ c.toNat < 128) then (0, (i.take 1).2.fail 3)
      else if 128 ≤ c.toNat then digs top f (read + 1) (n + c.toNat % 128 * 128 ^ read) (i.take 1).2
      else (n + c.toNat % 128 * 128 ^ read, (i.take 1).2)

theorem digs_none {top f read n : Nat} {i i1 : InS} (h : i.take 1 = ([], i1)) : digs top f read n i = (0, i1) := by
 cases f <;> simp [digs, h]
theorem digs_bad0 {top read n : Nat} {i i1 : InS} {c : UInt8} (h : i.take 1 = ([c], i1)) : digs top 0 read n i = (0, i1.fail 3) := by
 simp [digs, h]
theorem digs_bad {top f read n : Nat} {i i1 : InS} {c : UInt8} (h : i.take 1 = ([c], i1)) (hb : (f = 0 ∧ top < c.toNat % 128) ∨ (0 < read ∧ c.toNat % 128 = 0 ∧ c.toNat < 128)) : digs top (f + 1) read n i = (0, i1.fail 3) := by
 simp only [digs, h]; rw [if_pos hb]
theorem digs_more {top f read n : Nat} {i i1 : InS} {c : UInt8} (h : i.take 1 = ([c], i1)) (hb : ¬ ((f = 0 ∧ top < c.toNat % 128) ∨ (0 < read ∧ c.toNat % 128 = 0 ∧ c.toNat < 128))) (hm : 128 ≤ c.toNat) :
  digs top (f + 1) read n i = digs top f (read + 1) (n + c.toNat % 128 * 128 ^ read) i1 := by
 simp only [digs, h]; rw [if_neg hb, if_pos hm]
theorem digs_last {top f read n : Nat} {i i1 : InS} {c : UInt8} (h : i.take 1 = ([c], i1)) (hb : ¬ ((f = 0 ∧ top < c.toNat % 128) ∨ (0 < read ∧ c.toNat % 128 = 0 ∧ c.toNat < 128))) (hm : ¬ 128 ≤ c.toNat) :
  digs top (f + 1) read n i = (n + c.toNat % 128 * 128 ^ read, i1) := by
 simp only [digs, h]; rw [if_neg hb, if_neg hm]

theorem digit_lt {n d r : Nat} (h : n < 128 ^ r) (hd : d < 128) : n + d * 128 ^ r < 128 ^ (r + 1) := by
 rw [Nat.pow_succ]; generalize 128 ^ r = p at *; have : d * p ≤ 127 * p := Nat.mul_le_mul_right _ (by omega)
 omega
@[simp high] theorem bb_one (c : UInt8) (h : 0 < (bb [c]).size) : (bb [c])[0] = c := rfl

end Go.Proofs.Ytmpehoebgifmnaa
