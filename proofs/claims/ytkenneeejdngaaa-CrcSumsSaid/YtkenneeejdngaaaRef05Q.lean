/- Contracts: a division, bit by bit (what its walk stands on). -/
import Derived.Test.YtkenneeejdngaaaRef05
import Derived.Test.YtkenneeejdngaaaSep
import Derived.Deep.OwnRows
namespace Go.Proofs.Ytkenneeejdngaaa
open Go.RowKit

def cellsB (l : List Bool) : Array Value := (l.map fun b => Value.int .i64 (bitN b)).toArray
theorem cellsB_get (l : List Bool) (j : Nat) (h : j < l.length) : (cellsB l)[j]? = some (.int .i64 (bitN (l.getD j false))) := by
  unfold cellsB
  rw [List.getElem?_toArray, List.getElem?_map, List.getD_eq_getElem?_getD, List.getElem?_eq_getElem h]
  rfl
theorem cellsB_set (l : List Bool) (k : Nat) (b : Bool) (x : Int) (hx : ((bitN b : Nat) : Int) = x) : (cellsB l).setIfInBounds k (.int .i64 x) = cellsB (l.set k b) := by
  subst hx
  unfold cellsB
  rw [List.setIfInBounds_toArray, List.map_set]
theorem cellsB_made (n : Nat) : madeCells #[.int .i64 0] n = cellsB (List.replicate n false) := by
  refine Array.ext_getElem? fun i => ?_
  by_cases hi : i < n
  · rw [cellsB_get _ _ (by simpa using hi), List.getD_eq_getElem?_getD, List.getElem?_replicate, if_pos hi]
    simp [madeCells, hi, Nat.mod_one, bitN]
  · rw [Array.getElem?_eq_none (by rw [size_madeCells]; first | omega | (simp; omega)), Array.getElem?_eq_none (by simp [cellsB]; omega)]
theorem ext_getD {a b : List Bool} (hl : a.length = b.length) (h : ∀ x, x < a.length → a.getD x false = b.getD x false) : a = b := by
  refine List.ext_getElem hl fun i h1 h2 => ?_
  have := h i h1
  rw [List.getD_eq_getElem?_getD, List.getD_eq_getElem?_getD, List.getElem?_eq_getElem h1, List.getElem?_eq_getElem h2] at this
  exact this
def fillB (s : Bs) (m : Nat) : Nat → List Bool
  | 0 => List.replicate m false
  | k + 1 => (fillB s m k).set k ((bitsOf s).getD k false)
theorem fillB_len (s : Bs) (m k : Nat) : (fillB s m k).length = m := by
  induction k with
  | zero => show (List.replicate _ _).length = _; rw [List.length_replicate]
  | succ k ih => show (List.set _ _ _).length = _; rw [List.length_set, ih]
theorem fillB_get (s : Bs) (m k : Nat) (h : k ≤ m) (x : Nat) : (fillB s m k).getD x false = if x < k then (bitsOf s).getD x false else false := by
  induction k with
  | zero =>
    show (List.replicate _ _).getD x false = _
    rw [List.getD_eq_getElem?_getD, List.getElem?_replicate]
    split <;> rfl
  | succ k ih =>
    have ih := ih (by omega)
    show ((fillB s m k).set k _).getD x false = _
    rw [getD_set _ _ _ _ (by rw [fillB_len]; omega)]
    by_cases hx : x = k
    · subst hx; rw [if_pos rfl, if_pos (by omega)]
    · rw [if_neg hx, ih]
      by_cases h2 : x < k
      · rw [if_pos h2, if_pos (by omega)]
      · rw [if_neg h2, if_neg (by omega)]
theorem fillB_row (s : Bs) (n : Nat) (h : 8 * s.length = n) : fillB s (n + 32) n = rowOf s := by
  refine ext_getD (by rw [fillB_len, rowOf_len, h]) fun x _ => ?_
  rw [fillB_get _ _ _ (by omega), rowOf_get]
  split
  · rfl
  · next hx =>
    rw [List.getD_eq_getElem?_getD, List.getElem?_eq_none (by rw [bitsOf_length]; omega)]
    rfl
/-- Row by row, what the places of the row are told to be. -/
theorem St.bitCell {W0 w : World} {K : Know} {L : List Res} {b : Nat} {l : List Bool} {T : TypeId} (h : St W0 w K (.raw b (cellsB l) T :: L)) (k : Nat) (hk : k < l.length) (c : Bool) (hc : l.getD k false = c) : w.cell? ⟨b, k, none⟩ = some (.int .i64 (bitN c)) := by
  rw [h.rawCell k, cellsB_get l k hk, hc]
theorem St.bitSet {W0 w : World} {K : Know} {L : List Res} {b : Nat} {l : List Bool} {T : TypeId} (h : St W0 w K (.raw b (cellsB l) T :: L)) (k : Nat) (c : Bool) (x : Int) (hx : ((bitN c : Nat) : Int) = x) : St W0 (w.setCell ⟨b, k, none⟩ (.int .i64 x)) K (.raw b (cellsB (l.set k c)) T :: L) := by
  rw [← cellsB_set l k c x hx]
  exact h.rawSet k _
theorem make_bits (n N : Nat) (h : n + 32 = N) (hn : N ≤ 100000) (w : World) : (Instr.makeSlice 93 (.int .i64 (N : Int)) (.int .i64 (N : Int))).run Try.prog w = .ok (.slice (some ⟨w.heap.size, 0, none⟩) N N) (w.alloc (.cells (cellsB (List.replicate N false)) 3 (0, 0))) := by
  rw [← cellsB_made]
  exact run_make_row' 93 3 (.int .i64 0) 8 Try.underlying93 (by kernel_rfl) rfl .i64 .i64 N (by omega) (by omega) w
theorem ref05_powerQ (n : Nat) (hn : n < 32) (c : Bool) (hc : pw n = c) {W0 w : World} {K : Know} {L : List Res} (h : St W0 w K L) :
    Calls Try.prog 57 #[.int .i64 n] w fun en w' => en = .returned (.int .i64 (bitN c)) ∧ St W0 w' K L := by
  subst hc
  exact ref05_power n hn h
theorem ref05_bitQ (s : Bs) (i : Nat) (hi : i < 8 * s.length) (hs : s.length ≤ 300) (c : Bool) (hc : (bitsOf s).getD i false = c) {W0 w : World} {K : Know} {L : List Res} (h : St W0 w K L) :
    Calls Try.prog 56 #[.string (bb s), .int .i64 i] w fun en w' => en = .returned (.int .i64 (bitN c)) ∧ St W0 w' K L := by
  subst hc
  exact ref05_bit s i hi hs h

end Go.Proofs.Ytkenneeejdngaaa
