/- A text. -/
import Derived.Test.YtnnnglklgofabaaGreatKeyP
namespace Go.Proofs.YtnnnglklgofabaaGreat
open Go.RowKit

def InS.ints : List Nat → InS → List Int × InS
  | [], i => ([], i)
  | k :: t, i => ((i.int k).1 :: (InS.ints t (i.int k).2).1, (InS.ints t (i.int k).2).2)
def intsOf : List Nat → Bs → List Int
  | [], _ => []
  | k :: t, s => sInt (s.take k) :: intsOf t (s.drop k)
theorem int_okA (k : Nat) (h1 : 1 ≤ k) (h8 : k ≤ 8) (s : Bs) (pos : Nat) (hp : pos + k ≤ s.length) : (⟨s, pos, 0⟩ : InS).int k = (sInt ((s.drop pos).take k), ⟨s, pos + k, 0⟩) := by
 have h := (rds_intN k h1 h8).ok s pos (sInt ((s.drop pos).take k)) k (by omega) (by unfold getIntN; rw [if_neg (by rw [List.length_drop]; omega)]); exact h.2
theorem ints_ok : ∀ (l : List Nat) (s : Bs) (pos : Nat), (∀ k ∈ l, 1 ≤ k ∧ k ≤ 8) → pos + l.sum ≤ s.length → InS.ints l ⟨s, pos, 0⟩ = (intsOf l (s.drop pos), ⟨s, pos + l.sum, 0⟩)
  | [], s, pos, _, _ => by simp [InS.ints, intsOf]
  | k :: t, s, pos, hk, hp => by
    have h1 := hk k (by simp); rw [List.sum_cons] at hp; have h2 := int_okA k h1.1 h1.2 s pos (by omega); have h3 := ints_ok t s (pos + k) (fun x hx => hk x (by simp [hx])) (by omega); unfold InS.ints intsOf; rw [h2]; simp only; rw [h3, List.drop_drop, List.sum_cons, Nat.add_assoc]
def OutS.ints (o : OutS) (l : List (Int × Nat)) : OutS := l.foldl (fun o x => o.int x.1 x.2) o
def encInts (l : List (Int × Nat)) : Bs := l.flatMap fun x => beBytes x.1 x.2
def FitsAll (l : List (Int × Nat)) : Prop := ∀ x ∈ l, fits x.1 x.2
instance (l : List (Int × Nat)) : Decidable (FitsAll l) := by unfold FitsAll; infer_instance
theorem OutS.put_err {o : OutS} (h : o.err ≠ 0) (s : Bs) : o.put s = o := if_neg h
theorem OutS.fail_stuck {o : OutS} (h : o.err ≠ 0) (e : Int) : o.fail e = o := if_neg h
theorem OutS.int_stuck {o : OutS} (h : o.err ≠ 0) (n k : Int) : o.int n k = o := by
 unfold OutS.int; split
 · exact OutS.put_err h _
 · exact OutS.fail_stuck h _
theorem OutS.ints_put : ∀ (l : List (Int × Nat)) (o : OutS), FitsAll l → o.ints l = o.put (encInts l)
  | [], o, _ => by show o = o.put []; rw [OutS.put_nil]
  | x :: t, o, h => by
    show OutS.ints (o.int x.1 x.2) t = _
    rw [OutS.ints_put t _ (fun y hy => h y (by simp [hy]))]; unfold OutS.int; rw [if_pos (h x (by simp)), OutS.put_put, Int.toNat_natCast]
    rfl
theorem encInts_length (l : List (Int × Nat)) : (encInts l).length = (l.map (·.2)).sum := by
 induction l with
 | nil => rfl
 | cons x t ih => unfold encInts at *; rw [List.flatMap_cons, List.length_append, beBytes_length, ih]; rfl
theorem intsOf_enc : ∀ (l : List (Int × Nat)) (rest : Bs), FitsAll l → intsOf (l.map (·.2)) (encInts l ++ rest) = l.map (·.1)
  | [], _, _ => rfl
  | x :: t, rest, h => by
    have h1 := h x (by simp); have hs : 1 ≤ x.2 := by have := h1.1; omega
    have h2 := intsOf_enc t rest (fun y hy => h y (by simp [hy])); have e : encInts (x :: t) = beBytes x.1 x.2 ++ encInts t := rfl
    have h3 : (beBytes x.1 x.2 ++ (encInts t ++ rest)).take x.2 = beBytes x.1 x.2 := by
      have h4 := beBytes_length x.1 x.2; rw [List.take_append_of_le_length (by omega), List.take_of_length_le (by omega)]
    have h4 : (beBytes x.1 x.2 ++ (encInts t ++ rest)).drop x.2 = encInts t ++ rest := by
      rw [List.drop_left' (beBytes_length x.1 x.2)]
    have hfit := h1.2.2; rw [Int.toNat_natCast] at hfit
    show intsOf (x.2 :: t.map (·.2)) (encInts (x :: t) ++ rest) = x.1 :: t.map (·.1)
    rw [e, List.append_assoc]; unfold intsOf; rw [h3, h4, (sInt_beBytes_iff x.1 x.2 hs).2 hfit, h2]
theorem sInt_fits (s : Bs) (k : Nat) (h1 : 1 ≤ k) (h8 : k ≤ 8) (hl : s.length = k) : fits (sInt s) k := by
 have h := beBytes_sInt s; have h2 : sInt (beBytes (sInt s) k) = sInt s := by rw [← hl, h]
 have h3 := (sInt_beBytes_iff (sInt s) k h1).1 h2; refine ⟨by omega, by omega, ?_⟩; rw [Int.toNat_natCast]; exact h3
end Go.Proofs.YtnnnglklgofabaaGreat
