/- A record there and back (pure). -/
import Derived.Test.YtmpehoebgifmnaaDoorRec6
namespace Go.Proofs.YtmpehoebgifmnaaDoor
open Go.RowKit

theorem dropNext {l a r : Bs} {n : Nat} (h : l.drop n = a ++ r) : l.drop (n + a.length) = r := by rw [← List.drop_drop, h, List.drop_left]
theorem reInner_back (x : RecS) (hx : x.R) (ho : recOk x = 0) (hs : x.sum ≤ 1000000) : reInner (recF x) = .ok x := by
  obtain ⟨ho, hr⟩ := recOk_zero ho
  unfold RecS.allRight at hr
  rw [Bool.and_eq_true, Bool.and_eq_true] at hr
  unfold RecS.sum at hs
  have d1 : (recF x).drop 1 = encI x.time ++ (encI x.off ++ (encV x.key ++ (encV x.val ++ encHs x.hdrs))) := rfl
  have d2 := dropNext d1
  have d3 := dropNext d2
  have d4 := dropNext d3
  have d5 := dropNext d4
  have h0 : getIntN 1 (recF x) = .ok (0, 1) := by
    unfold getIntN
    rw [if_neg (by unfold recF; simp)]
    rfl
  have h1 : vgetL ((recF x).drop 1) = .ok (x.time, (encI x.time).length) := by rw [d1]; exact vgetL_put _ hx.1.1 hx.1.2 _
  have h2 : vgetI ((recF x).drop (1 + (encI x.time).length)) = .ok (x.off, (encI x.off).length) := by rw [d2]; exact vgetI_put _ (by omega) (by omega) _
  have h3 := revaried_back x.key hr.1.1 (by omega) (encV x.val ++ encHs x.hdrs)
  have h4 := revaried_back x.val hr.1.2 (by omega) (encHs x.hdrs)
  have h5' := reHdrs_back x.hdrs [] hr.2 (by omega)
  rw [List.append_nil] at h5'
  have h5 : reHdrs ((recF x).drop (1 + (encI x.time).length + (encI x.off).length + (encV x.key).length + (encV x.val).length)) = .ok (x.hdrs, (encHs x.hdrs).length) := by rw [d5]; exact h5'
  rw [← d3] at h3
  rw [← d4] at h4
  have hl : 1 + (encI x.time).length + (encI x.off).length + (encV x.key).length + (encV x.val).length + (encHs x.hdrs).length = (recF x).length := by
    unfold recF
    simp only [List.length_append, List.length_cons, List.length_nil]
    omega
  unfold reInner
  rw [h0]
  simp only [if_true]
  rw [h1]
  simp only
  rw [h2]
  simp only
  rw [if_neg (by omega), h3]
  simp only
  rw [h4]
  simp only
  rw [h5]
  simp only
  rw [if_pos hl]
theorem rec_back (x : RecS) (hx : x.R) (ho : recOk x = 0) (hs : x.sum ≤ 1000000) : decR (encR x) = x ∧ (decJ (encR x)).err = 0 := by
  have hle := recF_le x hx hs
  have h1 := revaried_back ⟨false, recF x⟩ rfl (by simp only; omega) []
  rw [List.append_nil] at h1
  have h2 : reRec (encR x) = .ok (x, (encR x).length) := by
    unfold reRec encR
    rw [h1]
    simp only [Bool.false_eq_true, if_false]
    rw [reInner_back x hx ho hs]
  have h3 := (rds_rec.ok (encR x) 0 x (encR x).length (Nat.zero_le _) (by rw [List.drop_zero]; exact h2)).2
  rw [Nat.zero_add] at h3
  have h4 : (decJ (encR x)).err = 0 := by
    unfold decJ
    rw [h3]
    unfold InS.close
    rw [if_neg (by simp only [InS.left]; omega)]
  refine ⟨?_, h4⟩
  unfold decR
  rw [if_pos h4, h3]
theorem encR_le (x : RecS) (hx : x.R) (hs : x.sum ≤ 3000) : (encR x).length ≤ 200000 := by
  have h1 := recF_le x hx (by omega)
  have h2 := encV_le ⟨false, recF x⟩ (by simp only; omega)
  simp only at h2
  unfold encR
  omega
/-- The record of none. -/
def noneR : RecS := ⟨0, 0, ⟨true, []⟩, ⟨true, []⟩, []⟩
theorem put1 (u : Nat) (n : Int) (c : UInt8) (e : foldN n = u) (h : u < 128) (hc : UInt8.ofNat u = c) : encI n = [c] := by unfold encI; rw [e, putU_small h, hc]
theorem recF_none : recF noneR = [0, 0, 0, 1, 1, 0] := by
  have e0 : encI 0 = [0] := put1 0 0 0 (by decide) (by decide) (by decide)
  have e1 : encV ⟨true, []⟩ = [1] := by
    have := put1 1 (-1) 1 (by decide) (by decide) (by decide)
    unfold encV
    exact congrArg (· ++ ([] : Bs)) this
  unfold recF noneR
  simp only [e0, e1]
  have e2 : encHs [] = [0] := by
    unfold encHs
    exact congrArg (· ++ ([] : Bs)) e0
  rw [e2]
  rfl
theorem recOk_none : recOk noneR = 0 := by decide
theorem encR_none : encR noneR = [12, 0, 0, 0, 1, 1, 0] := by
  unfold encR
  rw [recF_none]
  have := put1 12 6 12 (by decide) (by decide) (by decide)
  unfold encV
  exact congrArg (· ++ ([0, 0, 0, 1, 1, 0] : Bs)) this
theorem encOk_none : encOk noneR = [12, 0, 0, 0, 1, 1, 0] := by unfold encOk; rw [if_pos recOk_none, encR_none]
theorem dec_none : decR [12, 0, 0, 0, 1, 1, 0] = noneR ∧ (decJ [12, 0, 0, 0, 1, 1, 0]).err = 0 := by
  have h := rec_back noneR (by unfold RecS.R noneR; simp) recOk_none (by decide)
  rw [encR_none] at h
  exact h
theorem dec_long : (decJ [12, 0, 0, 0, 1, 1, 0, 0]).err = 2 := by decide +kernel

end Go.Proofs.YtmpehoebgifmnaaDoor
