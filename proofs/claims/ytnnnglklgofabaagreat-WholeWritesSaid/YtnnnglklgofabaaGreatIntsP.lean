/- A text. -/
import Derived.Test.YtnnnglklgofabaaGreatKeyP
namespace Go.Proofs.YtnnnglklgofabaaGreat
open Go.RowKit

def InS.ints : List Nat → InS → List Int × InS
  | [], i => ([], i)
  | k :: t, i => ((i.int k).1 :: (InS.ints t (i.int k).2).1, (InS.ints t (i.int k).2).2)
def intsOf : List Nat → Bs → List Int
  | [], _ => []
  | k :: t, s => sInt (s.take k) :: intsOf t (s.drop k)
def OutS.ints (o : OutS) (l : List (Int × Nat)) : OutS := l.foldl (fun o x => o.int x.1 x.2) o
def encInts (l : List (Int × Nat)) : Bs := l.flatMap fun x => beBytes x.1 x.2
def FitsAll (l : List (Int × Nat)) : Prop := ∀ x ∈ l, fits x.1 x.2
instance (l : List (Int × Nat)) : Decidable (FitsAll l) := by unfold FitsAll; infer_instance
theorem OutS.fail_stuck {o : OutS} (h : o.err ≠ 0) (e : Int) : o.fail e = o := if_neg h
theorem OutS.ints_put : ∀ (l : List (Int × Nat)) (o : OutS), FitsAll l → o.ints l = o.put (encInts l)
  | [], o, _ => by show o = o.put []; rw [OutS.put_nil]
  | x :: t, o, h => by
    show OutS.ints (o.int x.1 x.2) t = _
    rw [OutS.ints_put t _ (fun y hy => h y (by simp [hy]))]; unfold OutS.int; rw [if_pos (h x (by simp)), OutS.put_put, Int.toNat_natCast]
    rfl
theorem encInts_length (l : List (Int × Nat)) : (encInts l).length = (l.map (·.2)).sum := by
 induction l with
 | nil => rfl
 | cons x t ih => unfold encInts at *; rw [List.flatMap_cons, List.length_append, beBytes_length, ih]; rfl
theorem intsOf_enc : ∀ (l : List (Int × Nat)) (rest : Bs), FitsAll l → intsOf (l.map (·.2)) (encInts l ++ rest) = l.map (·.1)
  | [], _, _ => rfl
  | x :: t, rest, h => by
    have h1 := h x (by simp); have hs : 1 ≤ x.2 := by have := h1.1; omega
    have h2 := intsOf_enc t rest (fun y hy => h y (by simp [hy])); have e : encInts (x :: t) = beBytes x.1 x.2 ++ encInts t := rfl
    have h3 : (beBytes x.1 x.2 ++ (encInts t ++ rest)).take x.2 = beBytes x.1 x.2 := by
      have h4 := beBytes_length x.1 x.2; rw [List.take_append_of_le_length (by omega), List.take_of_length_le (by omega)]
    have h4 : (beBytes x.1 x.2 ++ (encInts t ++ rest)).drop x.2 = encInts t ++ rest := by
      rw [List.drop_left' (beBytes_length x.1 x.2)]
    have hfit := h1.2.2; rw [Int.toNat_natCast] at hfit
    show intsOf (x.2 :: t.map (·.2)) (encInts (x :: t) ++ rest) = x.1 :: t.map (·.1)
    rw [e, List.append_assoc]; unfold intsOf; rw [h3, h4, (sInt_beBytes_iff x.1 x.2 hs).2 hfit, h2]
theorem sInt_fits (s : Bs) (k : Nat) (h1 : 1 ≤ k) (h8 : k ≤ 8) (hl : s.length = k) : fits (sInt s) k := by
 have h := beBytes_sInt s; have h2 : sInt (beBytes (sInt s) k) = sInt s := by rw [← hl, h]
 have h3 := (sInt_beBytes_iff (sInt s) k h1).1 h2; refine ⟨by omega, by omega, ?_⟩; rw [Int.toNat_natCast]; exact h3
theorem enc_intsOf : ∀ (l : List Nat) (s : Bs), l.sum ≤ s.length → encInts ((intsOf l s).zip l) = s.take l.sum
  | [], _, _ => by simp [encInts, intsOf]
  | k :: t, s, hs => by
    rw [List.sum_cons] at hs; have h2 := enc_intsOf t (s.drop k) (by rw [List.length_drop]; omega); unfold intsOf; rw [List.zip_cons_cons]
    show beBytes (sInt (s.take k)) k ++ encInts _ = _
    rw [h2, List.sum_cons]; have h3 := beBytes_sInt (s.take k); rw [List.length_take, Nat.min_eq_left (by omega)] at h3; rw [h3, List.take_add]

end Go.Proofs.YtnnnglklgofabaaGreat
