/- Things of one's own, picked. -/
import Derived.Test.YthppodbjjfkmfaaDoorSep
namespace Go.Proofs.YthppodbjjfkmfaaDoor
open Go.RowKit

/-- Some of the things, in another order: each index is one into what is left. -/
def selL {α : Type} : List Nat → List α → List α
  | [], _ => []
  | i :: t, L => match L[i]? with
    | some x => x :: selL t (L.eraseIdx i)
    | none => selL t L
theorem erase_perm {α : Type} : ∀ (L : List α) (i : Nat) (hi : i < L.length), L.Perm (L[i] :: L.eraseIdx i)
  | [], _, hi => absurd hi (by simp)
  | x :: t, 0, _ => List.Perm.refl _
  | x :: t, i + 1, hi => ((erase_perm t i (by simpa using hi)).cons x).trans (List.Perm.swap _ _ _)
theorem Holds.perm {w : World} {L L' : List Res} (p : L.Perm L') : ∀ {S : Nat → Prop}, Holds L w S → Holds L' w S := by
  induction p with
  | nil => exact fun h => h
  | cons x _ ih => exact fun h => h.cons fun _ => ih
  | swap x y l => exact fun h => Holds.swap h
  | trans _ _ ih1 ih2 => exact fun h => ih2 (ih1 h)
theorem Holds.sel {w : World} : ∀ (ix : List Nat) {L : List Res} {S : Nat → Prop}, Holds L w S → ∃ S', Holds (selL ix L) w S' ∧ ∀ k, S' k → S k
  | [], _, _, _ => ⟨fun _ => False, fun _ h => h, fun _ h => h.elim⟩
  | i :: t, L, S, h => by
    unfold selL
    by_cases hi : i < L.length
    · rw [List.getElem?_eq_getElem hi]
      obtain ⟨S1, S2, h1, h2, h3, h4⟩ := Holds.perm (erase_perm L i hi) h
      obtain ⟨S', g1, g2⟩ := Holds.sel t h2
      exact ⟨fun k => S1 k ∨ S' k, ⟨S1, S', h1, g1, fun k a b => h3 k a (g2 k b), fun _ => Iff.rfl⟩, fun k hk => (h4 k).2 (hk.imp id (g2 k))⟩
    · rw [List.getElem?_eq_none (by omega)]
      exact Holds.sel t h
theorem St.sel {W0 w : World} {K : Know} {L : List Res} (h : St W0 w K L) (ix : List Nat) : St W0 w K (selL ix L) := by
  obtain ⟨a, S, F, b, c, d, e⟩ := h
  obtain ⟨S', g1, g2⟩ := Holds.sel ix b
  exact ⟨a, S', F, g1, fun k hk => c k (g2 k hk), d, fun k hk => ⟨(e k hk).1, fun h => (e k hk).2 (g2 k h)⟩⟩

end Go.Proofs.YthppodbjjfkmfaaDoor
