/- A text. -/
import Derived.Test.YtnnnglklgofabaaGreatRef06
namespace Go.Proofs.YtnnnglklgofabaaGreat
open Go.RowKit

theorem St.emptyRow {W0 w : World} {K : Know} {L : List Res} (h : St W0 w K L) (T : TypeId) (sz : Nat) : St W0 (w.alloc (.cells #[] T)) K (.row (.slice (some ⟨w.heap.size, 0, none⟩) 0 0) T sz 0 [] :: L) := h.rowLit [] T sz 0 (by simp) (Nat.zero_le _)

end Go.Proofs.YtnnnglklgofabaaGreat
