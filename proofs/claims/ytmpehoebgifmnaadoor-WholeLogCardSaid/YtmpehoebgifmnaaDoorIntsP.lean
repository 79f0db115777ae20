/- Numbers of fixed sizes, one behind the other. -/
import Derived.Test.YtmpehoebgifmnaaDoorKeyP
namespace Go.Proofs.YtmpehoebgifmnaaDoor
open Go.RowKit

/-- Some numbers, one behind the other, read. -/
def InS.ints : List Nat → InS → List Int × InS
  | [], i => ([], i)
  | k :: t, i => ((i.int k).1 :: (InS.ints t (i.int k).2).1, (InS.ints t (i.int k).2).2)
def intsOf : List Nat → Bs → List Int
  | [], _ => []
  | k :: t, s => sInt (s.take k) :: intsOf t (s.drop k)
theorem int_okA (k : Nat) (h1 : 1 ≤ k) (h8 : k ≤ 8) (s : Bs) (pos : Nat) (hp : pos + k ≤ s.length) : (⟨s, pos, 0⟩ : InS).int k = (sInt ((s.drop pos).take k), ⟨s, pos + k, 0⟩) := by
  have h := (rds_intN k h1 h8).ok s pos (sInt ((s.drop pos).take k)) k (by omega) (by unfold getIntN; rw [if_neg (by rw [List.length_drop]; omega)])
  exact h.2
theorem int_shortA (k : Nat) (h1 : 1 ≤ k) (h8 : k ≤ 8) (s : Bs) (pos : Nat) (hp : pos ≤ s.length) (hs : s.length < pos + k) : ∃ q, q ≤ s.length ∧ (⟨s, pos, 0⟩ : InS).int k = (0, ⟨s, q, 1⟩) := by
  exact ((rds_intN k h1 h8).err s pos 1 hp (by unfold getIntN; rw [if_pos (by rw [List.length_drop]; omega)])).2
theorem int_stuckA (k : Nat) (h1 : 1 ≤ k) (h8 : k ≤ 8) (i : InS) (h : i.err ≠ 0) : i.int k = (0, i) := (rds_intN k h1 h8).stuck i h
theorem ints_ok : ∀ (l : List Nat) (s : Bs) (pos : Nat), (∀ k ∈ l, 1 ≤ k ∧ k ≤ 8) → pos + l.sum ≤ s.length → InS.ints l ⟨s, pos, 0⟩ = (intsOf l (s.drop pos), ⟨s, pos + l.sum, 0⟩)
  | [], s, pos, _, _ => by simp [InS.ints, intsOf]
  | k :: t, s, pos, hk, hp => by
    have h1 := hk k (by simp)
    rw [List.sum_cons] at hp
    have h2 := int_okA k h1.1 h1.2 s pos (by omega)
    have h3 := ints_ok t s (pos + k) (fun x hx => hk x (by simp [hx])) (by omega)
    unfold InS.ints intsOf
    rw [h2]
    simp only
    rw [h3, List.drop_drop, List.sum_cons, Nat.add_assoc]
theorem ints_stuck : ∀ (l : List Nat) (i : InS), (∀ k ∈ l, 1 ≤ k ∧ k ≤ 8) → i.err ≠ 0 → InS.ints l i = (l.map fun _ => 0, i)
  | [], _, _, _ => rfl
  | k :: t, i, hk, hi => by
    have h1 := hk k (by simp)
    unfold InS.ints
    rw [int_stuckA k h1.1 h1.2 i hi]
    simp only
    rw [ints_stuck t i (fun x hx => hk x (by simp [hx])) hi]
    rfl
theorem ints_short : ∀ (l : List Nat) (s : Bs) (pos : Nat), (∀ k ∈ l, 1 ≤ k ∧ k ≤ 8) → pos ≤ s.length → s.length < pos + l.sum → ∃ q, q ≤ s.length ∧ (InS.ints l ⟨s, pos, 0⟩).2 = ⟨s, q, 1⟩
  | [], s, pos, _, h1, h2 => by simp at h2; omega
  | k :: t, s, pos, hk, hp, hs => by
    have h1 := hk k (by simp)
    rw [List.sum_cons] at hs
    unfold InS.ints
    by_cases h : pos + k ≤ s.length
    · rw [int_okA k h1.1 h1.2 s pos h]
      exact ints_short t s (pos + k) (fun x hx => hk x (by simp [hx])) h (by omega)
    · obtain ⟨q, hq, e⟩ := int_shortA k h1.1 h1.2 s pos hp (by omega)
      rw [e]
      refine ⟨q, hq, ?_⟩
      simp only
      rw [ints_stuck t _ (fun x hx => hk x (by simp [hx])) (show (1 : Int) ≠ 0 by decide)]
theorem intsOf_length : ∀ (l : List Nat) (s : Bs), (intsOf l s).length = l.length
  | [], _ => rfl
  | k :: t, s => by simp [intsOf, intsOf_length t]

/-- Some numbers, one behind the other, written. -/
def OutS.ints (o : OutS) (l : List (Int × Nat)) : OutS := l.foldl (fun o x => o.int x.1 x.2) o
def encInts (l : List (Int × Nat)) : Bs := l.flatMap fun x => beBytes x.1 x.2
def FitsAll (l : List (Int × Nat)) : Prop := ∀ x ∈ l, fits x.1 x.2
instance (l : List (Int × Nat)) : Decidable (FitsAll l) := by unfold FitsAll; infer_instance
theorem OutS.put_err {o : OutS} (h : o.err ≠ 0) (s : Bs) : o.put s = o := if_neg h
theorem OutS.fail_stuck {o : OutS} (h : o.err ≠ 0) (e : Int) : o.fail e = o := if_neg h
theorem OutS.int_stuck {o : OutS} (h : o.err ≠ 0) (n k : Int) : o.int n k = o := by
  unfold OutS.int; split
  · exact OutS.put_err h _
  · exact OutS.fail_stuck h _
theorem OutS.ints_stuck : ∀ (l : List (Int × Nat)) (o : OutS), o.err ≠ 0 → o.ints l = o
  | [], _, _ => rfl
  | x :: t, o, h => by
    show OutS.ints (o.int x.1 x.2) t = o
    rw [OutS.int_stuck h]
    exact OutS.ints_stuck t o h
theorem OutS.ints_put : ∀ (l : List (Int × Nat)) (o : OutS), FitsAll l → o.ints l = o.put (encInts l)
  | [], o, _ => by show o = o.put []; rw [OutS.put_nil]
  | x :: t, o, h => by
    show OutS.ints (o.int x.1 x.2) t = _
    rw [OutS.ints_put t _ (fun y hy => h y (by simp [hy]))]
    unfold OutS.int
    rw [if_pos (h x (by simp)), OutS.put_put, Int.toNat_natCast]
    rfl
theorem OutS.ints_fail : ∀ (l : List (Int × Nat)) (o : OutS), ¬ FitsAll l → o.err = 0 → (o.ints l).err = 11
  | [], o, h, _ => absurd (fun _ hx => by cases hx) h
  | x :: t, o, h, he => by
    show (OutS.ints (o.int x.1 x.2) t).err = 11
    by_cases h1 : fits x.1 x.2
    · refine OutS.ints_fail t _ (fun h2 => h ?_) ?_
      · intro y hy
        rcases List.mem_cons.1 hy with rfl | hy
        · exact h1
        · exact h2 y hy
      · unfold OutS.int OutS.put
        rw [if_pos h1, if_pos he]
        exact he
    · unfold OutS.int
      rw [if_neg h1]
      have : (o.fail 11).err = 11 := by unfold OutS.fail; rw [if_pos he]
      rw [OutS.ints_stuck t _ (by rw [this]; decide), this]
theorem encInts_length (l : List (Int × Nat)) : (encInts l).length = (l.map (·.2)).sum := by
  induction l with
  | nil => rfl
  | cons x t ih => unfold encInts at *; rw [List.flatMap_cons, List.length_append, beBytes_length, ih]; rfl
theorem intsOf_enc : ∀ (l : List (Int × Nat)) (rest : Bs), FitsAll l → intsOf (l.map (·.2)) (encInts l ++ rest) = l.map (·.1)
  | [], _, _ => rfl
  | x :: t, rest, h => by
    have h1 := h x (by simp)
    have hs : 1 ≤ x.2 := by have := h1.1; omega
    have h2 := intsOf_enc t rest (fun y hy => h y (by simp [hy]))
    have e : encInts (x :: t) = beBytes x.1 x.2 ++ encInts t := rfl
    have h3 : (beBytes x.1 x.2 ++ (encInts t ++ rest)).take x.2 = beBytes x.1 x.2 := by
      have h4 := beBytes_length x.1 x.2
      rw [List.take_append_of_le_length (by omega), List.take_of_length_le (by omega)]
    have h4 : (beBytes x.1 x.2 ++ (encInts t ++ rest)).drop x.2 = encInts t ++ rest := by
      rw [List.drop_left' (beBytes_length x.1 x.2)]
    have hfit := h1.2.2
    rw [Int.toNat_natCast] at hfit
    show intsOf (x.2 :: t.map (·.2)) (encInts (x :: t) ++ rest) = x.1 :: t.map (·.1)
    rw [e, List.append_assoc]
    unfold intsOf
    rw [h3, h4, (sInt_beBytes_iff x.1 x.2 hs).2 hfit, h2]
theorem sInt_fits (s : Bs) (k : Nat) (h1 : 1 ≤ k) (h8 : k ≤ 8) (hl : s.length = k) : fits (sInt s) k := by
  have h := beBytes_sInt s
  have h2 : sInt (beBytes (sInt s) k) = sInt s := by rw [← hl, h]
  have h3 := (sInt_beBytes_iff (sInt s) k h1).1 h2
  refine ⟨by omega, by omega, ?_⟩
  rw [Int.toNat_natCast]
  exact h3
theorem fits_intsOf : ∀ (l : List Nat) (s : Bs), (∀ k ∈ l, 1 ≤ k ∧ k ≤ 8) → l.sum ≤ s.length → FitsAll ((intsOf l s).zip l)
  | [], _, _, _ => fun _ hx => by cases hx
  | k :: t, s, hk, hs => by
    have h1 := hk k (by simp)
    rw [List.sum_cons] at hs
    have h2 := fits_intsOf t (s.drop k) (fun x hx => hk x (by simp [hx])) (by rw [List.length_drop]; omega)
    intro x hx
    unfold intsOf at hx
    rw [List.zip_cons_cons] at hx
    rcases List.mem_cons.1 hx with rfl | hx
    · exact sInt_fits _ k h1.1 h1.2 (by rw [List.length_take]; omega)
    · exact h2 x hx
theorem enc_intsOf : ∀ (l : List Nat) (s : Bs), l.sum ≤ s.length → encInts ((intsOf l s).zip l) = s.take l.sum
  | [], _, _ => by simp [encInts, intsOf]
  | k :: t, s, hs => by
    rw [List.sum_cons] at hs
    have h2 := enc_intsOf t (s.drop k) (by rw [List.length_drop]; omega)
    unfold intsOf
    rw [List.zip_cons_cons]
    show beBytes (sInt (s.take k)) k ++ encInts _ = _
    rw [h2, List.sum_cons]
    have h3 := beBytes_sInt (s.take k)
    rw [List.length_take, Nat.min_eq_left (by omega)] at h3
    rw [h3, List.take_add]

end Go.Proofs.YtmpehoebgifmnaaDoor
