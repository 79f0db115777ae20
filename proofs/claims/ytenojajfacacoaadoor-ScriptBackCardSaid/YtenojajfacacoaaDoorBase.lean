/- base -/
import Derived.WalkKit
import Derived.WalkSpells
import Derived.WalkLawsBesides
import Derived.BigQuiet
import Derived.Deep.QuietTactic
import Derived.Lib.Hide
namespace Go.Proofs.YtenojajfacacoaaDoor
open Go.RowKit

abbrev Bs := List UInt8

/-- A text as a value. -/
def str (l : Bs) : Value := .string ⟨l.toArray⟩
def bb (l : Bs) : ByteArray := ⟨l.toArray⟩
@[simp] theorem bb_size (l : Bs) : (bb l).size = l.length := rfl
theorem eq_bb (s : ByteArray) : s = bb s.data.toList := rfl
@[simp] theorem bb_extract (l : Bs) (a b : Nat) : (bb l).extract a b = bb ((l.drop a).take (b - a)) := by
  apply ByteArray.ext
  simp [bb, List.extract_eq_take_drop]
@[simp] theorem bb_append (a b : Bs) : bb a ++ bb b = bb (a ++ b) := by
  apply ByteArray.ext
  simp [bb]
@[simp] theorem bb_toList (l : Bs) : (bb l).toList = l := by rw [ByteArray.toList_eq]; rfl
@[simp] theorem bb_data (l : Bs) : (bb l).data = l.toArray := rfl
@[simp] theorem bb_get (l : Bs) (i : Nat) (h : i < (bb l).size) : (bb l)[i] = l[i]'h := rfl
@[simp] theorem bb_inj (a b : Bs) : bb a = bb b ↔ a = b := by
  constructor
  · intro h; have := congrArg (·.data.toList) h; simpa [bb] using this
  · rintro rfl; rfl

/-- Blocks outside M are as they were. -/
structure Keeps (M : Nat → Prop) (w w' : World) : Prop where
  os : w'.os = w.os
  tape : w'.tape = w.tape
  output : w'.output = w.output
  size : w.heap.size ≤ w'.heap.size
  block : ∀ k, k < w.heap.size → ¬ M k → w'.heap[k]? = w.heap[k]?

theorem Keeps.refl (M : Nat → Prop) (w : World) : Keeps M w w := ⟨rfl, rfl, rfl, Nat.le_refl _, fun _ _ _ => rfl⟩
theorem Keeps.trans {M : Nat → Prop} {a b c : World} (h : Keeps M a b) (k : Keeps M b c) : Keeps M a c :=
  ⟨k.os.trans h.os, k.tape.trans h.tape, k.output.trans h.output, Nat.le_trans h.size k.size,
    fun i hi hm => (k.block i (Nat.lt_of_lt_of_le hi h.size) hm).trans (h.block i hi hm)⟩
theorem Keeps.seq {M M' : Nat → Prop} {a b c : World} (h : Keeps M a b) (k : Keeps M' b c) (hm : ∀ i, i < a.heap.size → M' i → M i) : Keeps M a c :=
  ⟨k.os.trans h.os, k.tape.trans h.tape, k.output.trans h.output, Nat.le_trans h.size k.size,
    fun i hi hn => (k.block i (Nat.lt_of_lt_of_le hi h.size) (fun x => hn (hm i hi x))).trans (h.block i hi hn)⟩
theorem Keeps.mono {M M' : Nat → Prop} {a b : World} (h : Keeps M a b) (hm : ∀ k, k < a.heap.size → M k → M' k) : Keeps M' a b :=
  ⟨h.os, h.tape, h.output, h.size, fun i hi hn => h.block i hi (fun hh => hn (hm i hi hh))⟩
theorem Keeps.drewN {M : Nat → Prop} {a w : World} (h : Keeps M a w) (n : Nat) : Keeps M a (w.drewN n) := ⟨h.os, h.tape, h.output, h.size, h.block⟩
theorem Keeps.drew {M : Nat → Prop} {a w : World} (h : Keeps M a w) : Keeps M a w.drew := ⟨h.os, h.tape, h.output, h.size, h.block⟩
theorem Keeps.alloc {M : Nat → Prop} {a w : World} (h : Keeps M a w) (o : Obj) : Keeps M a (w.alloc o) :=
  ⟨h.os, h.tape, h.output, by have := h.size; simp; omega, fun k hk hn => (Below.heap_alloc w o k (Nat.lt_of_lt_of_le hk h.size)).trans (h.block k hk hn)⟩
theorem Keeps.setCell {M : Nat → Prop} {a w : World} (h : Keeps M a w) (p : Addr) (u : Value) (hp : M p.block ∨ a.heap.size ≤ p.block) : Keeps M a (w.setCell p u) :=
  ⟨h.os, h.tape, h.output, by have := h.size; simp [World.setCell]; omega, fun k hk hn => by
    rw [Below.heap_setCell _ _ _ _ (by rintro rfl; rcases hp with hp | hp; exact hn hp; omega)]
    exact h.block k hk hn⟩
theorem Keeps.below {M : Nat → Prop} {a b : World} (h : Keeps M a b) {B : Nat} (hB : B ≤ a.heap.size) (hM : ∀ k, M k → B ≤ k) : Below B a b :=
  ⟨h.os, h.tape, h.output, h.size, fun k hk => h.block k (by omega) (fun hm => by have := hM k hm; omega)⟩
theorem _root_.Go.RowKit.Below.drewN' {B : Nat} {a w : World} (h : Below B a w) (n : Nat) : Below B a (w.drewN n) := ⟨h.os, h.tape, h.output, h.size, h.block⟩
theorem Keeps.cell {M : Nat → Prop} {w w' : World} (h : Keeps M w w') (k : Nat) (o : Nat) (hk : k < w.heap.size) (hm : ¬ M k) : w'.cell? ⟨k, o, none⟩ = w.cell? ⟨k, o, none⟩ :=
  World.cell?_of_block (w := w) (a := ⟨k, o, none⟩) (h.block k hk hm)
theorem Keeps.frozen {M : Nat → Prop} {w w' : World} (h : Keeps M w w') (k : Nat) (o : Nat) (hk : k < w.heap.size) (hm : ¬ M k) : w'.frozen? ⟨k, o, none⟩ = w.frozen? ⟨k, o, none⟩ :=
  World.frozen?_of_block (w := w) (a := ⟨k, o, none⟩) (h.block k hk hm)


/-- Step by step: nothing that was there has turned. -/
theorem _root_.Go.RowKit.Below.k {a w w' : World} {M : Nat → Prop} (h : Below a.heap.size a w) (k : Keeps M w w') (hM : ∀ i, M i → a.heap.size ≤ i) : Below a.heap.size a w' :=
  h.trans (k.below h.size hM)
theorem _root_.Go.RowKit.Below.a {a w : World} (h : Below a.heap.size a w) (o : Obj) : Below a.heap.size a (w.alloc o) := h.alloc h.size o
theorem below0 (w : World) : Below w.heap.size w w := Below.refl _ _
theorem none_M {n : Nat} : ∀ i, (fun _ : Nat => False) i → n ≤ i := fun _ h => h.elim
theorem one_M {n b : Nat} (h : n ≤ b) : ∀ i, (fun k => k = b) i → n ≤ i := fun _ e => e ▸ h

theorem _root_.Go.World.drewN_heap (w : World) (n : Nat) : (w.drewN n).heap = w.heap := rfl

theorem heap_setCell_self {w : World} {b o : Nat} {c : Array Value} {T : TypeId} {fz : Nat × Nat} (h : w.heap[b]? = some (.cells c T fz)) (v : Value) :
    (w.setCell ⟨b, o, none⟩ v).heap[b]? = some (.cells (c.setIfInBounds o v) T fz) := by
  simp only [World.setCell, Array.getElem?_modify, h]
  simp

theorem cell_at {w : World} {b : Nat} {c : Array Value} {T : TypeId} {fz : Nat × Nat} (h : w.heap[b]? = some (.cells c T fz)) (o : Nat) :
    w.cell? ⟨b, o, none⟩ = c[o]? := by simp [World.cell?, h]
theorem free_at {w : World} {b : Nat} {c : Array Value} {T : TypeId} (h : w.heap[b]? = some (.cells c T (0, 0))) (o : Nat) :
    w.frozen? ⟨b, o, none⟩ = false := by simp [World.frozen?, h]
theorem heap_lt {w : World} {b : Nat} {o : Obj} (h : w.heap[b]? = some o) : b < w.heap.size := (Array.getElem?_eq_some_iff.1 h).1

theorem ret_int {k : IntKind} {a b : Int} (h : a = b) : Ending.returned (.int k a) = .returned (.int k b) := by rw [h]
theorem ret_str {a b : Bs} (h : a = b) : Ending.returned (.string (bb a)) = .returned (.string (bb b)) := by rw [h]
theorem ret_str' {a b : ByteArray} (h : a = b) : Ending.returned (.string a) = .returned (.string b) := by rw [h]
theorem ret_bool {a b : Bool} (h : a = b) : Ending.returned (.bool a) = .returned (.bool b) := by rw [h]

theorem conv_bytes {P : Program} (w : World) (src dst e : TypeId) (s : Bs) (hs : P.underlying src = some .string) (hd : P.underlying dst = some (.slice e)) (he : P.underlying e = some (.int .u8)) :
    ∃ C cap, (∀ j (h : j < s.length), C[j]? = some (.int .u8 (s[j].toNat : Int))) ∧
      (convert src dst (.string (bb s))).run P w = .ok (.slice (some ⟨w.heap.size, 0, none⟩) s.length cap) (w.drew.alloc (.cells C e (C.size, C.size + 1))) := by
  refine ⟨_, _, ?_, run_bytes_of_string w src dst e (bb s) hs hd he⟩
  intro j h
  exact bytesRow_at (bb s) _ j (by simpa using h)

end Go.Proofs.YtenojajfacacoaaDoor
