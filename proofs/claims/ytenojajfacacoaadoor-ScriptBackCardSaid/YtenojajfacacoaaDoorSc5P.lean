/- Numbers of words (pure). -/
import Derived.Test.YtenojajfacacoaaDoorSc4
namespace Go.Proofs.YtenojajfacacoaaDoor
open Go.RowKit

theorem atoiV_rng (s : Bs) : -9223372036854775808 ≤ atoiV s ∧ atoiV s < 9223372036854775808 := by
  unfold atoiV
  cases h : Lib.atoiAll s with
  | ok v =>
    unfold Lib.atoiAll at h
    split at h
    · cases h
    · rename_i c r
      simp only at h
      split at h
      · cases h
      · cases h
      · rename_i u _
        split at h
        · cases h
        · split at h
          · cases h
          · injection h with h
            by_cases hc : c.toNat = 45
            · rw [if_pos hc] at h; simp only; omega
            · rw [if_neg hc] at h; simp only; omega
  | range => simp only; unfold Lib.atoiSat; split <;> omega
  | _ => simp
/-- A number of a word. -/
def numRd (s : Bs) : Option Int := if Lib.itoa (atoiV s) = s then some (atoiV s) else none
def numsRd : List Bs → Option (List Int)
  | [] => some []
  | w :: t => match numRd w with
    | none => none
    | some v => (numsRd t).map (v :: ·)
theorem numsRd_snoc : ∀ (l : List Bs) (w : Bs) (vs : List Int) (v : Int), numsRd l = some vs → numRd w = some v → numsRd (l ++ [w]) = some (vs ++ [v])
  | [], w, vs, v, h1, h2 => by unfold numsRd at h1; injection h1 with h1; subst h1; show (match numRd w with | none => none | some v => (numsRd []).map (v :: ·)) = _; rw [h2]; rfl
  | a :: t, w, vs, v, h1, h2 => by
    unfold numsRd at h1
    show (match numRd a with | none => none | some v => (numsRd (t ++ [w])).map (v :: ·)) = _
    cases ha : numRd a with
    | none => rw [ha] at h1; cases h1
    | some x =>
      rw [ha] at h1
      simp only at h1 ⊢
      cases ht : numsRd t with
      | none => rw [ht] at h1; cases h1
      | some y =>
        rw [ht] at h1
        injection h1 with h1
        subst h1
        rw [numsRd_snoc t w y v ht h2]
        rfl
theorem numsRd_bad : ∀ (l r : List Bs) (w : Bs), numRd w = none → numsRd (l ++ w :: r) = none
  | [], r, w, h => by show (match numRd w with | none => none | some v => (numsRd r).map (v :: ·)) = none; rw [h]
  | a :: t, r, w, h => by
    show (match numRd a with | none => none | some v => (numsRd (t ++ w :: r)).map (v :: ·)) = none
    rw [numsRd_bad t r w h]
    cases numRd a <;> rfl
theorem numsRd_len : ∀ (l : List Bs) (vs : List Int), numsRd l = some vs → vs.length = l.length
  | [], vs, h => by unfold numsRd at h; injection h with h; subst h; rfl
  | a :: t, vs, h => by
    unfold numsRd at h
    cases ha : numRd a with
    | none => rw [ha] at h; cases h
    | some x =>
      rw [ha] at h
      simp only at h
      cases ht : numsRd t with
      | none => rw [ht] at h; cases h
      | some y => rw [ht] at h; injection h with h; subst h; simp [numsRd_len t y ht]
/-- Words that lie somewhere. -/
def Know.strs (wb off : Nat) (ws : List Bs) : Know := ⟨fun w F => F wb ∧ wb < w.heap.size ∧ ∀ j x, ws[j]? = some x → w.cell? ⟨wb, off + j, Option.none⟩ = some (.string (bb x)),
  fun _ _ _ h hs hk => ⟨h.1, Nat.lt_of_lt_of_le h.2.1 hs, fun j u hu => (World.cell?_of_block (a := ⟨wb, off + j, Option.none⟩) (hk wb h.2.1 h.1)).trans (h.2.2 j u hu)⟩,
  fun _ _ _ h hs => ⟨hs _ h.1, h.2.1, h.2.2⟩⟩
theorem strs_cell {W0 w : World} {K : Know} {L : List Res} {wb off : Nat} {ws : List Bs} (hk : K.has (Know.strs wb off ws)) (h : St W0 w K L) (j : Nat) (hj : j < ws.length) : w.cell? ⟨wb, off + j, none⟩ = some (.string (bb (ws[j]'hj))) := by
  obtain ⟨F, hF, _⟩ := h.get
  exact (hk _ _ hF).2.2 j _ (List.getElem?_eq_getElem hj)
theorem strs_drop {K : Know} {wb off : Nat} {ws : List Bs} (hk : K.has (Know.strs wb off ws)) (k : Nat) : K.has (Know.strs wb (off + k) (ws.drop k)) := fun w F h => by
  obtain ⟨h1, h2, h3⟩ := hk w F h
  refine ⟨h1, h2, fun j x hx => ?_⟩
  rw [List.getElem?_drop] at hx
  rw [Nat.add_assoc]
  exact h3 _ _ hx
theorem strs_take {K : Know} {wb off : Nat} {ws : List Bs} (hk : K.has (Know.strs wb off ws)) (k : Nat) : K.has (Know.strs wb off (ws.take k)) := fun w F h => by
  obtain ⟨h1, h2, h3⟩ := hk w F h
  refine ⟨h1, h2, fun j x hx => h3 j x ?_⟩
  rw [List.getElem?_take] at hx
  split at hx
  · exact hx
  · cases hx
theorem St.strs {W0 w : World} {K : Know} {L : List Res} {wb : Nat} {ws : List Bs} {T : TypeId} (h : St W0 w K (.raw wb (ws.map fun x => Value.string (bb x)).toArray T :: L)) : St W0 w (K.and (Know.strs wb 0 ws)) L :=
  h.freeze fun F S1 _ hr => ⟨.inr ⟨(hr.2 wb).2 rfl, heap_lt hr.1⟩, heap_lt hr.1, fun j x hx => by
    rw [Nat.zero_add, cell_at hr.1 j]
    simp [hx]⟩

end Go.Proofs.YtenojajfacacoaaDoor
