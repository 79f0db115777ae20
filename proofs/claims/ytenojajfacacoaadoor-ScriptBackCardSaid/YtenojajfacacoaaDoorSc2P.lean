/- Bytes of words (pure). -/
import Derived.Test.YtenojajfacacoaaDoorSc1P
import Derived.Lib.Bytealg
namespace Go.Proofs.YtenojajfacacoaaDoor
open Go.RowKit

/-- Which digit a byte is. -/
def digI (c : UInt8) : Int := Lib.indexByte digB c
theorem digI_all : ∀ n : Fin 256, (digI (UInt8.ofNat n.1) = -1) ∨ (0 ≤ digI (UInt8.ofNat n.1) ∧ digI (UInt8.ofNat n.1) < 16 ∧ hexD (digI (UInt8.ofNat n.1)).toNat = UInt8.ofNat n.1) := by decide +kernel
theorem digI_cases (c : UInt8) : digI c = -1 ∨ (0 ≤ digI c ∧ digI c < 16 ∧ hexD (digI c).toNat = c) := by
  have h := digI_all ⟨c.toNat, c.toNat_lt⟩
  simpa using h
theorem digI_hexD : ∀ n : Fin 16, digI (hexD n.1) = n.1 := by decide +kernel
/-- Bytes of a word. -/
def hexRL : Bs → Option Bs
  | [] => some []
  | [_] => none
  | a :: b :: t => if digI a = -1 ∨ digI b = -1 then none else (hexRL t).map (UInt8.ofNat (digI a * 16 + digI b).toNat :: ·)
def hexRd (w : Bs) : Option Bs := if w = [45] then some [] else if w = [] then none else hexRL w
theorem hexRL_odd : ∀ w : Bs, w.length % 2 ≠ 0 → hexRL w = none
  | [], h => absurd rfl h
  | [_], _ => rfl
  | a :: b :: t, h => by
    unfold hexRL
    by_cases hd : digI a = -1 ∨ digI b = -1
    · rw [if_pos hd]
    · rw [if_neg hd, hexRL_odd t (by simp only [List.length_cons] at h; omega)]
      rfl
theorem hexRL_back : ∀ s : Bs, hexRL (hexL s) = some s
  | [] => rfl
  | x :: t => by
    have h1 := digI_hexD ⟨x.toNat / 16, by have := x.toNat_lt; omega⟩
    have h2 := digI_hexD ⟨x.toNat % 16, by omega⟩
    simp only at h1 h2
    have e : hexL (x :: t) = hexD (x.toNat / 16) :: hexD (x.toNat % 16) :: hexL t := rfl
    rw [e]
    unfold hexRL
    rw [h1, h2, if_neg (by omega), hexRL_back t]
    have h3 : ((((x.toNat / 16 : Nat) : Int) * 16 + ((x.toNat % 16 : Nat) : Int)).toNat) = x.toNat := by omega
    simp only [Option.map_some]
    rw [h3, UInt8.ofNat_toNat]
theorem hexRL_one : ∀ (w c : Bs), hexRL w = some c → hexL c = w
  | [], c, h => by unfold hexRL at h; injection h with h; subst h; rfl
  | [_], c, h => by unfold hexRL at h; cases h
  | a :: b :: t, c, h => by
    unfold hexRL at h
    by_cases hd : digI a = -1 ∨ digI b = -1
    · rw [if_pos hd] at h; cases h
    · rw [if_neg hd] at h
      cases ht : hexRL t with
      | none => rw [ht] at h; cases h
      | some d =>
        rw [ht] at h
        injection h with h
        subst h
        have ih := hexRL_one t d ht
        rcases digI_cases a with ha | ⟨a1, a2, a3⟩
        · exact absurd (.inl ha) hd
        rcases digI_cases b with hb | ⟨b1, b2, b3⟩
        · exact absurd (.inr hb) hd
        have e : ∀ x : UInt8, hexL (x :: d) = hexD (x.toNat / 16) :: hexD (x.toNat % 16) :: hexL d := fun _ => rfl
        rw [e, ih]
        have h3 : (UInt8.ofNat (digI a * 16 + digI b).toNat).toNat = (digI a * 16 + digI b).toNat := by rw [UInt8.toNat_ofNat']; omega
        rw [h3, show (digI a * 16 + digI b).toNat / 16 = (digI a).toNat by omega, show (digI a * 16 + digI b).toNat % 16 = (digI b).toNat by omega, a3, b3]
theorem hexRd_back (s : Bs) : hexRd (hexW s) = some s := by
  unfold hexRd hexW
  by_cases h : s = []
  · subst h; rfl
  · rw [if_neg h]
    have h2 := hexL_len s
    have h3 : 0 < s.length := List.length_pos_iff.2 h
    rw [if_neg (fun e => by rw [e] at h2; simp at h2; omega), if_neg (fun e => by rw [e] at h2; simp at h2; omega), hexRL_back]
theorem hexRd_one {s c : Bs} (h : hexRd s = some c) : hexW c = s := by
  unfold hexRd at h
  by_cases h1 : s = [45]
  · rw [if_pos h1] at h; injection h with h; subst h h1; rfl
  · rw [if_neg h1] at h
    by_cases h2 : s = []
    · rw [if_pos h2] at h; cases h
    · rw [if_neg h2] at h
      have h3 := hexRL_one s c h
      unfold hexW
      rw [if_neg (fun e => by subst e; exact h2 h3.symm), h3]
theorem hexRL_step (w d : Bs) (j : Nat) (hj : j + 1 < w.length) (h : hexRL w = (hexRL (w.drop j)).map (d ++ ·)) (ha : digI w[j] ≠ -1) (hb : digI w[j + 1] ≠ -1) : hexRL w = (hexRL (w.drop (j + 2))).map ((d ++ [UInt8.ofNat (digI w[j] * 16 + digI w[j + 1]).toNat]) ++ ·) := by
  rw [h, List.drop_eq_getElem_cons (by omega : j < w.length), List.drop_eq_getElem_cons hj]
  conv => lhs; arg 2; unfold hexRL
  rw [if_neg (by intro h; rcases h with h | h; exact ha h; exact hb h)]
  cases hexRL (w.drop (j + 1 + 1)) with
  | none => rfl
  | some t => simp
theorem hexRL_bad (w d : Bs) (j : Nat) (hj : j + 1 < w.length) (h : hexRL w = (hexRL (w.drop j)).map (d ++ ·)) (hb : digI w[j] = -1 ∨ digI w[j + 1] = -1) : hexRL w = none := by
  rw [h, List.drop_eq_getElem_cons (by omega : j < w.length), List.drop_eq_getElem_cons hj]
  conv => lhs; arg 2; unfold hexRL
  rw [if_pos hb]
  rfl

end Go.Proofs.YtenojajfacacoaaDoor
