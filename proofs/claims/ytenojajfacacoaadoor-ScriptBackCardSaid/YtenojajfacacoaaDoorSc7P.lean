/- Results in cells. -/
import Derived.Test.YtenojajfacacoaaDoorGrow
import Derived.Test.YtenojajfacacoaaDoorStore
import Derived.Test.YtenojajfacacoaaDoorSc6P
namespace Go.Proofs.YtenojajfacacoaaDoor
open Go.RowKit

theorem sl_hasE (s : Bs) (sub : ByteArray) (c : UInt8) (v : Bool) (he : sub = ⟨#[c]⟩) (hv : hasB s c = v) {W0 w : World} {K : Know} {L : List Res} (h : St W0 w K L) :
    Calls Tryd.prog 74 #[.string (bb s), .string sub] w fun e w' => e = .returned (.bool v) ∧ St W0 w' K L := by
  subst he; exact sl_has s c v hv h
theorem rc_cell_tmpS {P : Program} {fn : Func} {p t : Tmp} {ty : TypeId} (h : fn.results = #[.cell p ty, .tmp t]) (tmps : Array Value) (w : World) (b : Nat) (cs : List Value) (d : TypeDesc)
    (hp : tmps.getD p undef = .pointer (some ⟨b, 0, none⟩)) (hc : w.rangeAt b 0 cs) (hu : P.underlying ty = some d) (hd : d.isRow = true) (hi : (P.info? ty).map (·.size) = some cs.length) :
    (results fn tmps).run P w = .ok (.tuple #[.agg cs.toArray, tmps.getD t undef]) w := by
  have hp' : tmps[p]?.getD undef = .pointer (some ⟨b, 0, none⟩) := by simpa using hp
  simp [results, h, hp', asAddr, run_loadVar_mid w b 0 ty cs d hc hu hd hi]
theorem rc_rangeS {W0 w : World} {K : Know} {L : List Res} {b : Nat} {c : List Value} {T : TypeId} (h : St W0 w K (.raw b c.toArray T :: L)) : w.rangeAt b 0 c := by
  intro j v hv
  rw [Nat.zero_add, h.rawCell j]
  simpa using hv

end Go.Proofs.YtenojajfacacoaaDoor
