/- Two texts (pure). -/
import Derived.Test.YtenojajfacacoaaDoorSc5P
import Derived.Test.YtenojajfacacoaaDoorSc6P
namespace Go.Proofs.YtenojajfacacoaaDoor
open Go.RowKit

theorem sl_cutN (s a b : Bs) (f : Bool) (hc : Lib.cut s [10] = (a, b, f)) (hs : s.length ≤ 1000000) {W0 w : World} {K : Know} {L : List Res} (hk : K.has Know.lib) (h : St W0 w K L) :
    Calls Tryd.prog 25 #[.string (bb s), .string ⟨#[10]⟩] w fun e w' => e = .returned (.tuple #[.string (bb a), .string (bb b), .bool f]) ∧ St W0 w' K L := sl_cut s [10] a b f hc hs hk h
theorem sl_splitN (s : Bs) (ws : List Bs) (n : Nat) (hn : ws.length = n) (hw : wordsOf s = ws.map bb) (hs : s.length ≤ 1000000) {W0 w : World} {K : Know} {L : List Res} (hk : K.has Know.lib) (h : St W0 w K L) :
    Calls Tryd.prog 13 #[.string (bb s), .string ⟨#[32]⟩] w fun e w' => ∃ b, e = .returned (.slice (some ⟨b, 0, none⟩) n n) ∧ St W0 w' K (.raw b (ws.map fun x => Value.string (bb x)).toArray 9 :: L) := by
  subst hn; exact sl_split s ws hw hs hk h
theorem kc1 : Lib.cut [98, 97, 116, 99, 104, 32, 48, 32, 45, 49, 32, 48, 32, 48, 32, 48, 32, 45, 49, 32, 45, 49, 32, 45, 49, 32, 45, 10, 99, 117, 116, 32, 53, 10] [10] = ([98, 97, 116, 99, 104, 32, 48, 32, 45, 49, 32, 48, 32, 48, 32, 48, 32, 45, 49, 32, 45, 49, 32, 45, 49, 32, 45], [99, 117, 116, 32, 53, 10], true) := by decide +kernel
theorem kc2 : Lib.cut [99, 117, 116, 32, 53, 10] [10] = ([99, 117, 116, 32, 53], [], true) := by decide +kernel
theorem kc3 : Lib.cut [99, 117, 116, 32, 53, 10, 98, 97, 116, 99, 104, 32, 48, 32, 45, 49, 32, 48, 32, 48, 32, 48, 32, 45, 49, 32, 45, 49, 32, 45, 49, 32, 45, 10] [10] = ([99, 117, 116, 32, 53], [98, 97, 116, 99, 104, 32, 48, 32, 45, 49, 32, 48, 32, 48, 32, 48, 32, 45, 49, 32, 45, 49, 32, 45, 49, 32, 45, 10], true) := by decide +kernel
theorem kc4 : Lib.cut [98, 97, 116, 99, 104, 32, 48, 32, 45, 49, 32, 48, 32, 48, 32, 48, 32, 45, 49, 32, 45, 49, 32, 45, 49, 32, 45, 10] [10] = ([98, 97, 116, 99, 104, 32, 48, 32, 45, 49, 32, 48, 32, 48, 32, 48, 32, 45, 49, 32, 45, 49, 32, 45, 49, 32, 45], [], true) := by decide +kernel
theorem kwA : wordsOf [98, 97, 116, 99, 104, 32, 48, 32, 45, 49, 32, 48, 32, 48, 32, 48, 32, 45, 49, 32, 45, 49, 32, 45, 49, 32, 45] = ([[98, 97, 116, 99, 104], [48], [45, 49], [48], [48], [48], [45, 49], [45, 49], [45, 49], [45]] : List Bs).map bb := by decide +kernel
theorem kwB : wordsOf [99, 117, 116, 32, 53] = ([[99, 117, 116], [53]] : List Bs).map bb := by decide +kernel
theorem kn8 : numsRd [[48], [45, 49], [48], [48], [48], [45, 49], [45, 49], [45, 49]] = some [0, -1, 0, 0, 0, -1, -1, -1] := by decide +kernel
theorem kn5 : numRd [53] = some 5 := by decide +kernel

end Go.Proofs.YtenojajfacacoaaDoor
