/- Contracts of package record: reading the fields. -/
import Derived.Test.YtmpehoebgifmnaaDoorRec2
namespace Go.Proofs.YtmpehoebgifmnaaDoor
open Go.RowKit

theorem St.raw_ne {W0 w : World} {K : Know} {L : List Res} {a b : Nat} {c c' : Array Value} {T T' : TypeId} (h : St W0 w K (.raw a c T :: .raw b c' T' :: L)) : ¬ (a = b) := by
  rintro rfl
  obtain ⟨_, S, F, ⟨S1, S2, h1, ⟨S3, S4, h3, _, _, e3⟩, d1, _⟩, _⟩ := h
  exact d1 a ((h1.2 a).2 rfl) ((e3 a).2 (.inl ((h3.2 a).2 rfl)))
theorem St.set1 {W0 w : World} {K : Know} {L : List Res} {r : Res} {b j : Nat} {c : Array Value} {T : TypeId} {v : Value} (h : St W0 w K (r :: .raw b c T :: L)) : St W0 (w.setCell ⟨b, j, none⟩ v) K (r :: .raw b (c.setIfInBounds j v) T :: L) := (h.p1.rawSet j v).p1

end Go.Proofs.YtmpehoebgifmnaaDoor
