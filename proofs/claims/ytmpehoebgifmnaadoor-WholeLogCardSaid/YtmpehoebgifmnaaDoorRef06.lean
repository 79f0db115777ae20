/- Contracts of cursitorref06. -/
import Derived.Test.YtmpehoebgifmnaaDoorHdrP
import Derived.Deep.RegionHeld3
import Derived.Deep.DeepCutAuto
namespace Go.Proofs.YtmpehoebgifmnaaDoor
open Go.RowKit

theorem hdr_cells4 {W0 w : World} {K : Know} {L : List Res} {l : List HdrS} {b off cap : Nat} (hk : K.has (Know.flat RHdr (.slice (some ⟨b, off, none⟩) l.length cap) 3 l)) {i : Nat} {x : HdrS} (hi : i < l.length) (hx : l[i]'hi = x) (h : St W0 w K L) :
    w.cell? ⟨b, off + i * 3, none⟩ = some (.string (bb x.key)) ∧ w.cell? ⟨b, off + i * 3 + 1, none⟩ = some (.bool x.val.null) ∧ w.cell? ⟨b, off + i * 3 + 2, none⟩ = some (.string (bb x.val.data)) ∧ St W0 w K L := by
  obtain ⟨b', off', hq, c0, c1, c2⟩ := hdr_cells hk h i hi
  cases hq
  rw [hx] at c0 c1 c2
  exact ⟨c0, c1, c2, h⟩
theorem encV_le (b : BlobS) (h : b.data.length ≤ 140737488355328) : (encV b).length ≤ b.data.length + 10 := by
  have hr := b.len_range h
  have := putU_len _ (foldN_lt hr.1 hr.2)
  unfold encV
  rw [List.length_append]; omega
theorem encH_le (x : HdrS) (h : x.size ≤ 140737488355328) : (encH x).length ≤ x.size := by
  unfold HdrS.size at *
  have h1 := encV_le ⟨false, x.key⟩ (by simp only; omega)
  have h2 := encV_le x.val (by omega)
  unfold encH
  simp only at h1
  rw [List.length_append]; omega
theorem encHs_le : ∀ (l : List HdrS), hsize l ≤ 140737488355328 → (l.flatMap encH).length ≤ hsize l
  | [], _ => by simp
  | x :: t, h => by
    have e : hsize (x :: t) = x.size + hsize t := rfl
    have h1 := encH_le x (by omega)
    have h2 := encHs_le t (by omega)
    rw [List.flatMap_cons, List.length_append]; omega

theorem hdr_bool (n : Bool) (d : Bs) (n' : Bool) (d' : Bs) (k k' : Bs) (h : ¬ (⟨k, ⟨n, d⟩⟩ : HdrS) = ⟨k', ⟨n', d'⟩⟩) : (k == k') = false ∨ (k = k' ∧ (n == n') = false) ∨ (k = k' ∧ n = n' ∧ (d == d') = false) := by
  by_cases h1 : k = k'
  · subst h1
    by_cases h2 : n = n'
    · subst h2
      by_cases h3 : d = d'
      · subst h3; exact absurd rfl h
      · exact .inr (.inr ⟨rfl, rfl, by simpa using h3⟩)
    · exact .inr (.inl ⟨rfl, by simpa using h2⟩)
  · exact .inl (by simpa using h1)
end Go.Proofs.YtmpehoebgifmnaaDoor
