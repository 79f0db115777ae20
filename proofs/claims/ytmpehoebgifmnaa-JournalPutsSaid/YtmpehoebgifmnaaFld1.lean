/- A text. -/
import Derived.Test.YtmpehoebgifmnaaFldP
import Derived.Test.YtmpehoebgifmnaaHdr1
import Derived.Test.YtmpehoebgifmnaaSel
import Derived.Test.YtmpehoebgifmnaaBlob1
import Derived.Test.YtmpehoebgifmnaaBlob2
namespace Go.Proofs.Ytmpehoebgifmnaa
open Go.RowKit

def RI (cs : List Value) (x : Int) : Prop := cs = [.int .i64 x]
theorem flat_at {α : Type} {R : List Value → α → Prop} {sz n cap : Nat} {q : Option Addr} {l : List α} {W0 w : World} {K : Know} {L : List Res} (hk : K.has (Know.flat R (.slice q n cap) sz l)) (h : St W0 w K L) (h0 : 0 < l.length) : ∃ b off, q = some ⟨b, off, none⟩ := by
 obtain ⟨F, hF, _⟩ := h.get; obtain ⟨q2, cap2, hv, hr⟩ := (hk _ _ hF).at; obtain ⟨b, off, hq, _⟩ := hr h0; simp at hv; exact ⟨b, off, hv.1.trans hq⟩
theorem flat_cell {α : Type} {R : List Value → α → Prop} {sz n cap b off : Nat} {l : List α} {W0 w : World} {K : Know} {L : List Res} (hk : K.has (Know.flat R (.slice (some ⟨b, off, none⟩) n cap) sz l)) (h : St W0 w K L) (i : Nat) (hi : i < l.length) : ∃ cs, R cs l[i] ∧ ∀ f u, cs[f]? = some u → w.cell? ⟨b, off + (i * sz + f), none⟩ = some u := by
 obtain ⟨F, hF, _⟩ := h.get; obtain ⟨q2, cap2, hv, hr⟩ := (hk _ _ hF).at; obtain ⟨b2, off2, hq, hc⟩ := hr (by omega); rw [hq] at hv; simp at hv; obtain ⟨⟨rfl, rfl⟩, _, _⟩ := hv; obtain ⟨cs, _, h1, h2⟩ := hc i hi; exact ⟨cs, h1, h2⟩
end Go.Proofs.Ytmpehoebgifmnaa
