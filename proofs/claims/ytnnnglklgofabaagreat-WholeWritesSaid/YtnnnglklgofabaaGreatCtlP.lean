/- A text. -/
import Derived.Test.YtnnnglklgofabaaGreatBlobP
namespace Go.Proofs.YtnnnglklgofabaaGreat
open Go.RowKit

def verRd (k : Nat) (ok : Int → Bool) (e : Int) (s : Bs) : Int × Int :=
  if s.length < 2 then (0, 1) else if sInt (s.take 2) ≠ 0 then (0, 7) else if s.length < 2 + k then (0, 1)
  else if ok (sInt ((s.drop 2).take k)) = false then (0, e) else if 2 + k < s.length then (0, 2) else (sInt ((s.drop 2).take k), 0)
def verA (s : Bs) : Int × InS := (⟨s, 0, 0⟩ : InS).int 2
def verI (s : Bs) : InS := if (verA s).1 = 0 then (verA s).2 else (verA s).2.fail 7
def verJ (k : Nat) (ok : Int → Bool) (e : Int) (s : Bs) : InS := if ok ((verI s).int k).1 = true then ((verI s).int k).2 else ((verI s).int k).2.fail e
def verD (k : Nat) (ok : Int → Bool) (e : Int) (s : Bs) : Int × Int := if (verJ k ok e s).close.err = 0 then (((verI s).int k).1, 0) else (0, (verJ k ok e s).close.err)
theorem close_stuckC {i : InS} (h : i.err ≠ 0) : i.close = i := by
 unfold InS.close
 split
 · exact if_neg h
 · rfl
theorem verD_bad {k : Nat} {ok : Int → Bool} {e x : Int} {s : Bs} (hx : x ≠ 0) (h : (verJ k ok e s).err = x) : verD k ok e s = (0, x) := by
 subst h; unfold verD; rw [close_stuckC hx, if_neg hx]
theorem verJ_stuck {k : Nat} {ok : Int → Bool} {e x : Int} {s : Bs} (h1 : 1 ≤ k) (h8 : k ≤ 8) (hx : x ≠ 0) (h : (verI s).err = x) : (verJ k ok e s).err = x := by
 subst h; have h2 : (verI s).int k = (0, verI s) := (rds_intN k h1 h8).stuck (verI s) hx; unfold verJ; rw [h2]
 split
 · rfl
 · rw [show (verI s).fail e = verI s from if_neg hx]
theorem verD_eq (k : Nat) (ok : Int → Bool) (e : Int) (h1 : 1 ≤ k) (h8 : k ≤ 8) (he : e ≠ 0) (s : Bs) : verD k ok e s = verRd k ok e s := by
 have hi := rds_intN 2 (by decide) (by decide); have hk := rds_intN k h1 h8; unfold verRd
 by_cases c1 : s.length < 2
 · rw [if_pos c1]; obtain ⟨_, q, _, h3⟩ := hi.err s 0 1 (Nat.zero_le _) (by simp [getIntN, c1]); have h4 : verA s = (0, ⟨s, q, 1⟩) := h3; refine verD_bad (by decide) (verJ_stuck h1 h8 (by decide) ?_); unfold verI; rw [h4]
   rfl
 rw [if_neg c1]; obtain ⟨_, h3⟩ := hi.ok s 0 (sInt (s.take 2)) 2 (Nat.zero_le _) (by simp [getIntN, c1]); have h4 : verA s = (sInt (s.take 2), ⟨s, 2, 0⟩) := h3
 by_cases c2 : sInt (s.take 2) ≠ 0
 · rw [if_pos c2]; refine verD_bad (by decide) (verJ_stuck h1 h8 (by decide) ?_); unfold verI; rw [h4, if_neg c2]
   rfl
 rw [if_neg c2]; have hI : verI s = ⟨s, 2, 0⟩ := by unfold verI; rw [h4, if_pos (by simpa using c2)]
 by_cases c3 : s.length < 2 + k
 · rw [if_pos c3]; obtain ⟨_, q, _, h7⟩ := hk.err s 2 1 (by omega) (by unfold getIntN; rw [if_pos (by rw [List.length_drop]; omega)]); have h7 : (verI s).int k = (0, ⟨s, q, 1⟩) := by rw [hI]; exact h7
   refine verD_bad (by decide) ?_; unfold verJ; rw [h7]
   split
   · rfl
   · rfl
 rw [if_neg c3]; obtain ⟨_, h7⟩ := hk.ok s 2 (sInt ((s.drop 2).take k)) k (by omega) (by unfold getIntN; rw [if_neg (by rw [List.length_drop]; omega)]); have h7 : (verI s).int k = (sInt ((s.drop 2).take k), ⟨s, 2 + k, 0⟩) := by rw [hI]; exact h7
 by_cases c4 : ok (sInt ((s.drop 2).take k)) = false
 · rw [if_pos c4]; refine verD_bad he ?_; unfold verJ; rw [h7]; rw [if_neg (by rw [c4]; decide)]
   rfl
 rw [if_neg c4]; have hJ : verJ k ok e s = ⟨s, 2 + k, 0⟩ := by unfold verJ; rw [h7, if_pos (by simpa using c4)]
 by_cases c5 : 2 + k < s.length
 · have hc : (⟨s, 2 + k, 0⟩ : InS).close = ⟨s, 2 + k, 2⟩ := by
    unfold InS.close; rw [if_pos (show 0 < (⟨s, 2 + k, 0⟩ : InS).left by simp only [InS.left]; omega)]
    rfl
   unfold verD; rw [if_pos c5, hJ, hc, if_neg (by simp only; decide)]
 · have hc : (⟨s, 2 + k, 0⟩ : InS).close = ⟨s, 2 + k, 0⟩ := by
    unfold InS.close; rw [if_neg (show ¬ 0 < (⟨s, 2 + k, 0⟩ : InS).left by simp only [InS.left]; omega)]
   unfold verD; rw [if_neg c5, hJ, hc, if_pos rfl, h7]
def way (n : Int) : Bool := n == 0 || n == 1
def time0 (n : Int) : Bool := decide (0 ≤ n)
end Go.Proofs.YtnnnglklgofabaaGreat
