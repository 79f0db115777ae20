/- A text. -/
import Derived.Test.YtmpehoebgifmnaaHdr2
namespace Go.Proofs.Ytmpehoebgifmnaa
open Go.RowKit

theorem flat_form {W0 w : World} {K : Know} {L : List Res} {α : Type} {R : List Value → α → Prop} {sz : Nat} {v : Value} {l : List α} (hk : K.has (Know.flat R v sz l)) (h : St W0 w K L) : ∃ q cap, v = .slice q l.length cap := by
 obtain ⟨F, hF, _⟩ := h.get; obtain ⟨q, cap, hv, _⟩ := (hk _ _ hF).at; exact ⟨q, cap, hv⟩

end Go.Proofs.Ytmpehoebgifmnaa
