/- Numbers of as many bytes as they need, as the document has them. -/
import Derived.Test.YtenojajfacacoaaDoorVarIn
namespace Go.Proofs.YtenojajfacacoaaDoor
open Go.RowKit

/-- Digits to the base 128, the lowest first. -/
def digN (u : Nat) : Bs := if u < 128 then [UInt8.ofNat u] else UInt8.ofNat (u % 128) :: digN (u / 128)
termination_by u
decreasing_by omega
theorem digN_small {u : Nat} (h : u < 128) : digN u = [UInt8.ofNat u] := by rw [digN, if_pos h]
theorem digN_big {u : Nat} (h : ¬ u < 128) : digN u = UInt8.ofNat (u % 128) :: digN (u / 128) := by rw [digN, if_neg h]

/-- The first ones with the highest bit. -/
def mk (l : Bs) (i : Nat) : Bs := (l.take i).map (fun c => UInt8.ofNat (c.toNat + 128)) ++ l.drop i
theorem mk_zero (l : Bs) : mk l 0 = l := by simp [mk]
theorem mk_length (l : Bs) (i : Nat) : (mk l i).length = l.length := by simp [mk]; omega
theorem mk_get (l : Bs) (i : Nat) (h : i < l.length) : (mk l i)[i]? = some l[i] := by
  have : (List.map (fun c => UInt8.ofNat (c.toNat + 128)) (List.take i l)).length = i := by simp; omega
  rw [mk, List.getElem?_append_right (by omega), this, Nat.sub_self]
  simp [h]
theorem mk_succ (l : Bs) (i : Nat) (h : i < l.length) : (mk l i).set i (UInt8.ofNat (l[i].toNat + 128)) = mk l (i + 1) := by
  have hlen : (List.map (fun c => UInt8.ofNat (c.toNat + 128)) (List.take i l)).length = i := by simp; omega
  rw [mk, List.set_append_right _ _ (by omega), hlen, Nat.sub_self, mk, List.take_succ_eq_append_getElem h]
  simp only [List.map_append, List.map_cons, List.map_nil, List.append_assoc, List.cons_append, List.nil_append]
  congr 1
  rw [List.drop_eq_getElem_cons h]
  rfl
theorem putU_mk (u : Nat) : putU u = mk (digN u) ((digN u).length - 1) := by
  induction u using Nat.strongRecOn with
  | _ u ih =>
    by_cases h : u < 128
    · rw [putU_small h, digN_small h]; rfl
    · have hih := ih (u / 128) (by omega)
      rw [putU_big h, digN_big h, hih]
      have hne : 0 < (digN (u / 128)).length := by
        rw [digN]; split <;> simp
      obtain ⟨k, hk⟩ : ∃ k, (digN (u / 128)).length = k + 1 := ⟨(digN (u / 128)).length - 1, by omega⟩
      have h1 : u % 128 < 256 := by omega
      simp only [List.length_cons, hk, Nat.add_sub_cancel, mk, List.take_succ_cons, List.map_cons, List.drop_succ_cons, List.cons_append]
      congr 1
      simp [Nat.mod_eq_of_lt h1]
theorem digN_length (u : Nat) : (digN u).length = (putU u).length := by rw [putU_mk, mk_length]
theorem digN_lt (u : Nat) : ∀ c ∈ digN u, c.toNat < 128 := by
  induction u using Nat.strongRecOn with
  | _ u ih =>
    by_cases h : u < 128
    · rw [digN_small h]; intro c hc; simp at hc; subst hc; simp; omega
    · rw [digN_big h]
      intro c hc
      rcases List.mem_cons.1 hc with rfl | hc
      · simp; omega
      · exact ih (u / 128) (by omega) c hc
theorem digN_pos (u : Nat) : 0 < (digN u).length := by rw [digN]; split <;> simp
theorem bvals_mod (pre : Bs) (v : Nat) : bvals (pre ++ [UInt8.ofNat (v % 128)]) = bvals pre ++ [Value.int .u8 ((v : Int) % 128)] := by
  have h : v % 128 < 256 := by omega
  rw [← bvals_snoc]
  simp [Nat.mod_eq_of_lt h]
theorem bvals_set (s : Bs) (i : Nat) (c : UInt8) : (bvals s).set i (.int .u8 c.toNat) = bvals (s.set i c) := by simp [bvals, List.map_set]

/-- A number read off bytes: so many more may come, so many came. -/
def vgetF (top : Nat) : Nat → Nat → Nat → Bs → Except Int (Nat × Nat)
  | _, _, _, [] => .error 1
  | 0, _, _, _ :: _ => .error 3
  | f + 1, r, n, c :: t =>
    if (f = 0 ∧ top < c.toNat % 128) ∨ (0 < r ∧ c.toNat % 128 = 0 ∧ c.toNat < 128) then .error 3
    else if 128 ≤ c.toNat then vgetF top f (r + 1) (n + c.toNat % 128 * 128 ^ r) t
    else .ok (n + c.toNat % 128 * 128 ^ r, r + 1)
theorem vg_bad0 {top r n : Nat} {c : UInt8} {t : Bs} : vgetF top 0 r n (c :: t) = .error 3 := rfl
theorem vg_none {top f r n : Nat} : vgetF top f r n [] = .error 1 := by cases f <;> rfl
theorem vg_bad {top f r n : Nat} {c : UInt8} {t : Bs} (hb : (f = 0 ∧ top < c.toNat % 128) ∨ (0 < r ∧ c.toNat % 128 = 0 ∧ c.toNat < 128)) : vgetF top (f + 1) r n (c :: t) = .error 3 := by simp only [vgetF]; rw [if_pos hb]
theorem vg_more {top f r n : Nat} {c : UInt8} {t : Bs} (hb : ¬ ((f = 0 ∧ top < c.toNat % 128) ∨ (0 < r ∧ c.toNat % 128 = 0 ∧ c.toNat < 128))) (hm : 128 ≤ c.toNat) :
    vgetF top (f + 1) r n (c :: t) = vgetF top f (r + 1) (n + c.toNat % 128 * 128 ^ r) t := by simp only [vgetF]; rw [if_neg hb, if_pos hm]
theorem vg_last {top f r n : Nat} {c : UInt8} {t : Bs} (hb : ¬ ((f = 0 ∧ top < c.toNat % 128) ∨ (0 < r ∧ c.toNat % 128 = 0 ∧ c.toNat < 128))) (hm : ¬ 128 ≤ c.toNat) :
    vgetF top (f + 1) r n (c :: t) = .ok (n + c.toNat % 128 * 128 ^ r, r + 1) := by simp only [vgetF]; rw [if_neg hb, if_neg hm]
def vN (r : Except Int (Nat × Nat)) : Nat := match r with | .ok x => x.1 | .error _ => 0
def vK (r : Except Int (Nat × Nat)) : Nat := match r with | .ok x => x.2 | .error _ => 0
def vE {α : Type} (r : Except Int α) : Int := match r with | .ok _ => 0 | .error e => e

end Go.Proofs.YtenojajfacacoaaDoor
