/- A text. -/
import Derived.Test.YtnnnglklgofabaaGreatHdr2
namespace Go.Proofs.YtnnnglklgofabaaGreat
open Go.RowKit

theorem hdr_cells {W0 w : World} {K : Know} {L : List Res} {l : List HdrS} {q : Option Addr} {cap : Nat} (hk : K.has (Know.flat RHdr (.slice q l.length cap) 3 l)) (h : St W0 w K L) (i : Nat) (hi : i < l.length) :
  ∃ b off, q = some ⟨b, off, none⟩ ∧ w.cell? ⟨b, off + i * 3, none⟩ = some (.string (bb (l[i]'hi).key)) ∧ w.cell? ⟨b, off + i * 3 + 1, none⟩ = some (.bool (l[i]'hi).val.null) ∧ w.cell? ⟨b, off + i * 3 + 2, none⟩ = some (.string (bb (l[i]'hi).val.data)) := by
 obtain ⟨F, hF, _⟩ := h.get; obtain ⟨q2, cap2, hv2, hrow⟩ := (hk _ _ hF).at; obtain ⟨b, off, hq, hcells⟩ := hrow (by omega); obtain ⟨cs, _, hR, hc⟩ := hcells i hi; unfold RHdr at hR; subst hR; refine ⟨b, off, by simp at hv2; rw [hv2.1, hq], ?_, ?_, ?_⟩
 · have := hc 0 _ rfl; rwa [Nat.add_zero] at this
 · have := hc 1 _ rfl; rwa [← Nat.add_assoc] at this
 · have := hc 2 _ rfl; rwa [← Nat.add_assoc] at this
theorem flat_form {W0 w : World} {K : Know} {L : List Res} {α : Type} {R : List Value → α → Prop} {sz : Nat} {v : Value} {l : List α} (hk : K.has (Know.flat R v sz l)) (h : St W0 w K L) : ∃ q cap, v = .slice q l.length cap := by
 obtain ⟨F, hF, _⟩ := h.get; obtain ⟨q, cap, hv, _⟩ := (hk _ _ hF).at; exact ⟨q, cap, hv⟩

end Go.Proofs.YtnnnglklgofabaaGreat
