/- Contracts of package header: reading. -/
import Derived.Test.YtenojajfacacoaaDoorHdr1
namespace Go.Proofs.YtenojajfacacoaaDoor
open Go.RowKit

theorem elem_hdr : ElemT Tryd.prog 54 (.agg #[.string ⟨#[]⟩, .bool false, .string ⟨#[]⟩]) 3 40 := elemT_of (by kernel_rfl) rfl (by decide)
def InS.hdrLoop : Nat → List HdrS → InS → List HdrS × InS
  | 0, acc, i => (acc, i)
  | n + 1, acc, i =>
    if i.name.2.varied.2.err = 0 then InS.hdrLoop n (acc ++ [⟨i.name.1, i.name.2.varied.1⟩]) i.name.2.varied.2
    else ([], i.name.2.varied.2)
def InS.hdrHead (i : InS) : InS := if i.vint.1 < 0 then i.vint.2.fail 4 else if (i.vint.2.left : Int) < 2 * i.vint.1 then i.vint.2.fail 1 else i.vint.2
def InS.hdrs (i : InS) : List HdrS × InS := InS.hdrLoop i.vint.1.toNat [] i.hdrHead
theorem know_nil {α : Type} (R : List Value → α → Prop) (sz : Nat) (K : Know) : K.has (K.and (Know.flat R (.slice none 0 0) sz [])) := fun _ _ h => ⟨h, none, 0, rfl, fun h => absurd h (by simp)⟩

end Go.Proofs.YtenojajfacacoaaDoor
