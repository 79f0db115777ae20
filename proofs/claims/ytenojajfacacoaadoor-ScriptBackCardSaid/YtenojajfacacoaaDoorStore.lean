/- A whole value stored into a block of one's own. -/
import Derived.Test.YtenojajfacacoaaDoorSep
import Derived.Deep.MidRow
namespace Go.Proofs.YtenojajfacacoaaDoor
open Go.RowKit

def setAll : Array Value → Nat → List Value → Array Value
  | c, _, [] => c
  | c, o, v :: r => setAll (c.setIfInBounds o v) (o + 1) r
theorem St.there {W0 w : World} {K : Know} {L : List Res} {b : Nat} {c : Array Value} {T : TypeId} (h : St W0 w K (.raw b c T :: L)) : w.there b 0 c.size := fun j hj => by
  rw [Nat.zero_add]
  exact ⟨by rw [h.rawCell j, Array.getElem?_eq_getElem hj]; rfl, h.rawFree j⟩
theorem St.rawSets {W0 : World} {K : Know} {L : List Res} {b : Nat} {T : TypeId} : ∀ (vs : List Value) (o : Nat) (c : Array Value) (w : World), St W0 w K (.raw b c T :: L) → St W0 (w.setCells b o vs) K (.raw b (setAll c o vs) T :: L)
  | [], _, _, _, h => h
  | v :: r, o, _, _, h => St.rawSets r (o + 1) _ _ (h.rawSet o v)
/-- A whole value stored into a block of one's own, the new world under a name. -/
theorem St.storeEx {W0 w : World} {K : Know} {L : List Res} {b : Nat} {c : Array Value} {T : TypeId} (h : St W0 w K (.raw b c T :: L)) (cs : Array Value) : ∃ wz, w.setCells b 0 cs.toList = wz ∧ St W0 wz K (.raw b (setAll c 0 cs.toList) T :: L) := ⟨_, rfl, h.rawSets _ _ _ _⟩
theorem St.allocEx {W0 w : World} {K : Know} {L : List Res} (h : St W0 w K L) (c : Array Value) (T : TypeId) : ∃ wy b, w.alloc (.cells c T (0, 0)) = wy ∧ w.heap.size = b ∧ St W0 wy K (.raw b c T :: L) := ⟨_, _, rfl, rfl, h.allocRaw c T⟩

end Go.Proofs.YtenojajfacacoaaDoor
