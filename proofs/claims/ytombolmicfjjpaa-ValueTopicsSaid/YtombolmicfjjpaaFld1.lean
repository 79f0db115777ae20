/- Fields, one behind the other, read: what it stands on. -/
import Derived.Test.YtombolmicfjjpaaFldP
import Derived.Test.YtombolmicfjjpaaHdr1
import Derived.Test.YtombolmicfjjpaaSel
import Derived.Test.YtombolmicfjjpaaBlob1
import Derived.Test.YtombolmicfjjpaaBlob2
namespace Go.Proofs.Ytombolmicfjjpaa
open Go.RowKit

def RI (cs : List Value) (x : Int) : Prop := cs = [.int .i64 x]
def RB (cs : List Value) (x : BlobS) : Prop := cs = [.bool x.null, .string (bb x.data)]
theorem flat_at {α : Type} {R : List Value → α → Prop} {sz n cap : Nat} {q : Option Addr} {l : List α} {W0 w : World} {K : Know} {L : List Res} (hk : K.has (Know.flat R (.slice q n cap) sz l)) (h : St W0 w K L) (h0 : 0 < l.length) : ∃ b off, q = some ⟨b, off, none⟩ := by
  obtain ⟨F, hF, _⟩ := h.get
  obtain ⟨q2, cap2, hv, hr⟩ := (hk _ _ hF).at
  obtain ⟨b, off, hq, _⟩ := hr h0
  simp at hv
  exact ⟨b, off, hv.1.trans hq⟩
theorem flat_cell {α : Type} {R : List Value → α → Prop} {sz n cap b off : Nat} {l : List α} {W0 w : World} {K : Know} {L : List Res} (hk : K.has (Know.flat R (.slice (some ⟨b, off, none⟩) n cap) sz l)) (h : St W0 w K L) (i : Nat) (hi : i < l.length) : ∃ cs, R cs l[i] ∧ ∀ f u, cs[f]? = some u → w.cell? ⟨b, off + (i * sz + f), none⟩ = some u := by
  obtain ⟨F, hF, _⟩ := h.get
  obtain ⟨q2, cap2, hv, hr⟩ := (hk _ _ hF).at
  obtain ⟨b2, off2, hq, hc⟩ := hr (by omega)
  rw [hq] at hv
  simp at hv
  obtain ⟨⟨rfl, rfl⟩, _, _⟩ := hv
  obtain ⟨cs, _, h1, h2⟩ := hc i hi
  exact ⟨cs, h1, h2⟩
theorem blob_fixed2Q (p : Nat) (i : InS) (n : Bool) (d : Bs) (j : InS) (hx : i.fixed 2 = (⟨n, d⟩, j)) {W0 w : World} {K : Know} {L : List Res} (h : St W0 w K (.inp p i :: L)) :
    Calls Try.prog 111 #[inPtr p, .int .i64 2] w fun en w' => en = .returned (.agg #[.bool n, .string (bb d)]) ∧ St W0 w' K (.inp p j :: L) := by
  have := blob_fixed p i 2 h; rw [hx] at this; exact this
end Go.Proofs.Ytombolmicfjjpaa
