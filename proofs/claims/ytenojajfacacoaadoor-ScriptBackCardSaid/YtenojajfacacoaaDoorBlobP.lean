/- Bytes behind their lengths, there and back. -/
import Derived.Test.YtenojajfacacoaaDoorRef04b
namespace Go.Proofs.YtenojajfacacoaaDoor
open Go.RowKit

def getIntN (size : Nat) (l : Bs) : Except Int (Int × Nat) := if l.length < size then .error 1 else .ok (sInt (l.take size), size)
theorem rds_intN (size : Nat) (h1 : 1 ≤ size) (h8 : size ≤ 8) : Rds (fun i => i.int size) (getIntN size) 0 := by
  have hc : ∀ i : InS, i.int size = (sInt (i.take size).1, (i.take size).2) := fun i => if_neg (by omega)
  refine ⟨?_, ?_, ?_⟩
  · intro s pos a k hp h
    unfold getIntN at h
    split at h
    · cases h
    · rename_i hl
      cases h
      rw [List.length_drop] at hl
      refine ⟨by omega, ?_⟩
      show (⟨s, pos, 0⟩ : InS).int size = _
      rw [hc, InS.take_ok rfl (by omega) (by simp only [InS.left]; omega)]
      rfl
  · intro s pos e hp h
    unfold getIntN at h
    split at h
    · rename_i hl
      cases h
      rw [List.length_drop] at hl
      refine ⟨by decide, pos, hp, ?_⟩
      show (⟨s, pos, 0⟩ : InS).int size = _
      rw [hc, InS.take_short (by omega) (by simp only [InS.left]; omega)]
      rfl
    · cases h
  · intro i hi
    show i.int size = _
    rw [hc, take_stuck hi]
    rfl

def getTk (p : Bs → Except Int (Int × Nat)) (l : Bs) : Except Int (BlobS × Nat) := match p l with | .ok x => gotS l x.2 x.1 | .error e => .error e
theorem rds_tk {f : InS → Int × InS} {p : Bs → Except Int (Int × Nat)} (h : Rds f p 0) : Rds (fun i => (f i).2.tk (f i).1) (getTk p) ⟨false, []⟩ := by
  refine ⟨?_, ?_, ?_⟩
  · intro s pos a k hp hh
    unfold getTk at hh
    cases hx : p (s.drop pos) with
    | error e => rw [hx] at hh; cases hh
    | ok x =>
      obtain ⟨n, m⟩ := x
      rw [hx] at hh
      obtain ⟨g1, g2⟩ := h.ok s pos n m hp hx
      simp only at hh ⊢
      rw [g2]
      unfold gotS at hh
      unfold InS.tk
      simp only
      by_cases h1 : n = -1
      · rw [if_pos h1] at hh ⊢
        cases hh
        exact ⟨g1, rfl⟩
      rw [if_neg h1] at hh ⊢
      by_cases h2 : n < 0
      · rw [if_pos h2] at hh; cases hh
      rw [if_neg h2] at hh
      by_cases h3 : ((s.drop pos).length : Int) - m < n
      · rw [if_pos h3] at hh; cases hh
      rw [if_neg h3] at hh
      cases hh
      rw [List.length_drop] at h3
      refine ⟨by omega, ?_⟩
      rw [InS.take_ok rfl (by omega) (by simp only [InS.left]; omega)]
      simp only [List.drop_drop, Nat.add_assoc]
  · intro s pos e hp hh
    unfold getTk at hh
    cases hx : p (s.drop pos) with
    | error e' =>
      rw [hx] at hh
      cases hh
      obtain ⟨g1, q, g2, g3⟩ := h.err s pos _ hp hx
      refine ⟨g1, q, g2, ?_⟩
      (try simp only)
      rw [g3]
      unfold InS.tk
      simp only
      rw [if_neg (by decide), take_stuck (by exact g1)]
    | ok x =>
      obtain ⟨n, m⟩ := x
      rw [hx] at hh
      obtain ⟨g1, g2⟩ := h.ok s pos n m hp hx
      simp only at hh ⊢
      rw [g2]
      unfold gotS at hh
      unfold InS.tk
      simp only
      by_cases h1 : n = -1
      · rw [if_pos h1] at hh; cases hh
      rw [if_neg h1] at hh ⊢
      by_cases h2 : n < 0
      · rw [if_pos h2] at hh
        cases hh
        refine ⟨by decide, pos + m, g1, ?_⟩
        rw [InS.take_neg h2]
        rfl
      rw [if_neg h2] at hh
      by_cases h3 : ((s.drop pos).length : Int) - m < n
      · rw [if_pos h3] at hh
        cases hh
        rw [List.length_drop] at h3
        refine ⟨by decide, pos + m, g1, ?_⟩
        rw [InS.take_short (by omega) (by simp only [InS.left]; omega)]
        rfl
      rw [if_neg h3] at hh
      cases hh
  · intro i hi
    (try simp only)
    rw [h.stuck i hi]
    unfold InS.tk
    simp only
    rw [if_neg (by decide), take_stuck hi]
theorem rds_fixed (size : Nat) (h1 : 1 ≤ size) (h8 : size ≤ 8) : Rds (fun i => i.fixed size) (refixed size) ⟨false, []⟩ := by
  have h := rds_tk (rds_intN size h1 h8)
  have e : getTk (getIntN size) = refixed size := by
    funext l
    unfold getTk getIntN refixed
    split <;> rename_i x hx <;> split at hx <;> rename_i hl <;> cases hx
    · rw [if_neg hl]
    · rw [if_pos hl]
  rw [← e]
  exact h
theorem rds_varied : Rds InS.varied revaried ⟨false, []⟩ := by
  have h := rds_tk rds_int
  have e : getTk vgetI = revaried := by
    funext l
    unfold getTk revaried
    split <;> rename_i x hx <;> first | rw [hx] | rfl
  rw [← e]
  exact h

theorem at_zero' {α : Type} {f : InS → α × InS} {p : Bs → Except Int (α × Nat)} {d : α} (h : Rds f p d) (s : Bs) :
    (∃ n k, p s = .ok (n, k) ∧ k ≤ s.length ∧ f ⟨s, 0, 0⟩ = (n, ⟨s, k, 0⟩)) ∨ (∃ e q, p s = .error e ∧ e ≠ 0 ∧ q ≤ s.length ∧ f ⟨s, 0, 0⟩ = (d, ⟨s, q, e⟩)) := by
  cases hp : p s with
  | ok x =>
    obtain ⟨n, k⟩ := x
    obtain ⟨h1, h2⟩ := h.ok s 0 n k (Nat.zero_le _) (by simpa using hp)
    rw [Nat.zero_add] at h1 h2
    exact .inl ⟨n, k, rfl, h1, h2⟩
  | error e =>
    obtain ⟨h1, q, h2, h3⟩ := h.err s 0 e (Nat.zero_le _) (by simpa using hp)
    exact .inr ⟨e, q, rfl, h1, h2, h3⟩

/-- Bytes behind their length, there and back. -/
def encV (b : BlobS) : Bs := putU (foldN b.len) ++ b.data
def encF (size : Nat) (b : BlobS) : Bs := beBytes b.len size ++ b.data
theorem gotS_back (b : BlobS) (hb : b.right = true) (hd rest : Bs) : gotS (hd ++ (b.data ++ rest)) hd.length b.len = .ok (b, hd.length + b.data.length) := by
  obtain ⟨n, d⟩ := b
  cases n
  · unfold gotS BlobS.len
    simp only [Bool.false_eq_true, if_false]
    rw [if_neg (by omega), if_neg (by omega), if_neg (by simp; omega)]
    simp
  · have hd0 : d = [] := by simpa [BlobS.right] using hb
    subst hd0
    unfold gotS BlobS.len
    simp [BlobS.none]
theorem revaried_back (b : BlobS) (hb : b.right = true) (hl : b.data.length ≤ 2147483647) (rest : Bs) : revaried (encV b ++ rest) = .ok (b, (encV b).length) := by
  have hr : -2147483648 ≤ b.len ∧ b.len < 2147483648 := by unfold BlobS.len; split <;> omega
  have h := vgetI_put b.len hr.1 hr.2 (b.data ++ rest)
  have h2 := gotS_back b hb (putU (foldN b.len)) rest
  unfold revaried encV
  rw [List.append_assoc, h]
  simp only [h2, List.length_append]
theorem refixed_back (size : Nat) (b : BlobS) (hb : b.right = true) (hf : fits b.len size) (rest : Bs) : refixed size (encF size b ++ rest) = .ok (b, (encF size b).length) := by
  have hs : 1 ≤ size := by have := hf.1; omega
  have h2 := gotS_back b hb (beBytes b.len size) rest
  have h3 : (beBytes b.len size ++ (b.data ++ rest)).take size = beBytes b.len size := by
    have h4 := beBytes_length b.len size
    rw [List.take_append_of_le_length (by omega), List.take_of_length_le (by omega)]
  have hfit := hf.2.2
  rw [Int.toNat_natCast] at hfit
  have h5 := (sInt_beBytes_iff b.len size hs).2 hfit
  unfold refixed encF
  rw [List.append_assoc, if_neg (by rw [List.length_append, beBytes_length]; omega), h3, h5]
  rw [beBytes_length] at h2
  rw [h2, List.length_append, beBytes_length]

end Go.Proofs.YtenojajfacacoaaDoor
