/- A text. -/
import Derived.Test.YtnnnglklgofabaaGreatRec6
namespace Go.Proofs.YtnnnglklgofabaaGreat
open Go.RowKit

theorem dropNext {l a r : Bs} {n : Nat} (h : l.drop n = a ++ r) : l.drop (n + a.length) = r := by rw [← List.drop_drop, h, List.drop_left]
theorem reInner_back (x : RecS) (hx : x.R) (ho : recOk x = 0) (hs : x.sum ≤ 1000000) : reInner (recF x) = .ok x := by
 obtain ⟨ho, hr⟩ := recOk_zero ho; unfold RecS.allRight at hr; rw [Bool.and_eq_true, Bool.and_eq_true] at hr; unfold RecS.sum at hs; have d1 : (recF x).drop 1 = encI x.time ++ (encI x.off ++ (encV x.key ++ (encV x.val ++ encHs x.hdrs))) := rfl; have d2 := dropNext d1; have d3 := dropNext d2; have d4 := dropNext d3; have d5 := dropNext d4
 have h0 : getIntN 1 (recF x) = .ok (0, 1) := by
  unfold getIntN; rw [if_neg (by unfold recF; simp)]
  rfl
 have h1 : vgetL ((recF x).drop 1) = .ok (x.time, (encI x.time).length) := by rw [d1]; exact vgetL_put _ hx.1.1 hx.1.2 _
 have h2 : vgetI ((recF x).drop (1 + (encI x.time).length)) = .ok (x.off, (encI x.off).length) := by rw [d2]; exact vgetI_put _ (by omega) (by omega) _
 have h3 := revaried_back x.key hr.1.1 (by omega) (encV x.val ++ encHs x.hdrs); have h4 := revaried_back x.val hr.1.2 (by omega) (encHs x.hdrs); have h5' := reHdrs_back x.hdrs [] hr.2 (by omega); rw [List.append_nil] at h5'; have h5 : reHdrs ((recF x).drop (1 + (encI x.time).length + (encI x.off).length + (encV x.key).length + (encV x.val).length)) = .ok (x.hdrs, (encHs x.hdrs).length) := by rw [d5]; exact h5'
 rw [← d3] at h3; rw [← d4] at h4
 have hl : 1 + (encI x.time).length + (encI x.off).length + (encV x.key).length + (encV x.val).length + (encHs x.hdrs).length = (recF x).length := by
  unfold recF; simp only [List.length_append, List.length_cons, List.length_nil]
  omega
 unfold reInner; rw [h0]; simp only [if_true]; rw [h1]; simp only; rw [h2]; simp only; rw [if_neg (by omega), h3]; simp only; rw [h4]; simp only; rw [h5]; simp only; rw [if_pos hl]
end Go.Proofs.YtnnnglklgofabaaGreat
