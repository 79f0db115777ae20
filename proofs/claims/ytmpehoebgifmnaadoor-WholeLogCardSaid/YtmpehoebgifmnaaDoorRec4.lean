/- Contracts of package record: reading. -/
import Derived.Test.YtmpehoebgifmnaaDoorRec3
namespace Go.Proofs.YtmpehoebgifmnaaDoor
open Go.RowKit

theorem name_len (i : InS) (h : i.ok) : i.name.1.length ≤ i.s.length := by
  by_cases he : i.err = 0
  · obtain ⟨s, pos, err⟩ := i
    simp only at he
    subst he
    have hp : pos ≤ s.length := h.1
    show (InS.varied ⟨s, pos, 0⟩).1.data.length ≤ s.length
    cases hv : revaried (s.drop pos) with
    | ok b =>
      obtain ⟨g1, g2⟩ := rds_varied.ok s pos b.1 b.2 hp hv
      obtain ⟨_, _, _, _, _, o⟩ := revaried_one hv
      rw [g2]
      simp only
      split at o <;> omega
    | error e =>
      obtain ⟨_, q, _, g⟩ := rds_varied.err s pos e hp hv
      rw [g]
      simp
  · rw [name_stuck he]; simp
end Go.Proofs.YtmpehoebgifmnaaDoor
