/- Layer 4, walked: BlobReads: what it stands on. -/
import Derived.Test.YtbcfnfcmghbelaaL04R
import Derived.Test.YtbcfnfcmghbelaaSel
import Derived.Test.YtbcfnfcmghbelaaStore
import Derived.Deep.RegionHeld3
import Derived.Deep.DeepCutAuto
import Derived.BigQuiet
namespace Go.Proofs.Ytbcfnfcmghbelaa
open Go.RowKit

def ErrOf (e : Int) (n : Bool) (f : Int) : Prop := f = if e = 0 ∧ n = true then 4 else e
theorem law_isE (n : Bool) (d : Bs) (m : Nat) (e : Int) (p : Nat) (j : InS) (he : ErrOf e n j.err) (hm : j.err = 0 → j.pos = m) {W0 w : World} {K : Know} {L : List Res} (h : St W0 w K (.inp p j :: L)) :
    Calls Try.prog 62 #[.agg #[.bool n, .string (bb d), .int .i64 m, .int .i64 e], .string (bb d), inPtr p] w fun en w' => en = .returned (.bool true) ∧ St W0 w' K (.inp p j :: L) := law_is n d m e p j he hm h

theorem raw_all4' {W0 w : World} {K : Know} {L : List Res} {c : Nat} {x y z u : Value} {T : TypeId} (h : St W0 w K (.raw c #[x, y, z, u] T :: L)) :
    w.cell? ⟨c, 0, none⟩ = some x ∧ w.cell? ⟨c, 1, none⟩ = some y ∧ w.cell? ⟨c, 2, none⟩ = some z ∧ w.cell? ⟨c, 3, none⟩ = some u := ⟨h.rawCell 0, h.rawCell 1, h.rawCell 2, h.rawCell 3⟩

end Go.Proofs.Ytbcfnfcmghbelaa
