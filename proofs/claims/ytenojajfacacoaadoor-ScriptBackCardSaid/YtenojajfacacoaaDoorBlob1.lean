/- Contracts of package blob: writing. -/
import Derived.Test.YtenojajfacacoaaDoorVBack
namespace Go.Proofs.YtenojajfacacoaaDoor
open Go.RowKit

/-- Bytes, or none. -/
structure BlobS where
  null : Bool
  data : Bs
deriving DecidableEq
def bv (b : BlobS) : Value := .agg #[.bool b.null, .string (bb b.data)]
def BlobS.right (b : BlobS) : Bool := !b.null || b.data.isEmpty
def BlobS.len (b : BlobS) : Int := if b.null then -1 else b.data.length
def BlobS.none : BlobS := ⟨true, []⟩

theorem Holds.rawMem {w : World} {b : Nat} {c : Array Value} {T : TypeId} : ∀ {L : List Res} {S : Nat → Prop}, Holds L w S → .raw b c T ∈ L → w.heap[b]? = some (.cells c T (0, 0))
  | [], _, _, hm => by cases hm
  | r :: L, S, ⟨S1, S2, h1, h2, _⟩, hm => by
    cases hm with
    | head => exact h1.1
    | tail _ hm => exact Holds.rawMem h2 hm
theorem St.rawMem {W0 w : World} {K : Know} {L : List Res} {b : Nat} {c : Array Value} {T : TypeId} (h : St W0 w K L) (hm : .raw b c T ∈ L) : w.heap[b]? = some (.cells c T (0, 0)) := by
  obtain ⟨_, S, F, hh, _⟩ := h
  exact hh.rawMem hm
theorem St.cellOf {W0 w : World} {K : Know} {L : List Res} {b : Nat} {c : Array Value} {T : TypeId} (h : St W0 w K L) (hm : .raw b c T ∈ L) (j : Nat) : w.cell? ⟨b, j, none⟩ = c[j]? := cell_at (h.rawMem hm) j
theorem St.freeOf {W0 w : World} {K : Know} {L : List Res} {b : Nat} {c : Array Value} {T : TypeId} (h : St W0 w K L) (hm : .raw b c T ∈ L) (j : Nat) : w.frozen? ⟨b, j, none⟩ = false := free_at (h.rawMem hm) j

theorem St.cast {W0 w : World} {K : Know} {L : List Res} {L' : List Res} (h : St W0 w K L) (e : L = L') : St W0 w K L' := e ▸ h
theorem OutS.len_fail (o : OutS) (e : Int) : (o.fail e).bytes.length = o.bytes.length := by unfold OutS.fail; split <;> rfl
theorem OutS.len_put (o : OutS) (s : Bs) : (o.put s).bytes.length ≤ o.bytes.length + s.length := by unfold OutS.put; split <;> simp
theorem OutS.len_int (o : OutS) (n size : Int) : (o.int n size).bytes.length ≤ o.bytes.length + 8 := by
  unfold OutS.int
  split
  · rename_i h
    have := o.len_put (beBytes n size.toNat)
    rw [beBytes_length] at this
    have := h.2.1
    omega
  · rw [OutS.len_fail]; omega
theorem OutS.ok_fail {o : OutS} {e : Int} {n : Nat} (h : o.ok n) : (o.fail e).ok n := by unfold OutS.ok at *; rw [OutS.len_fail]; exact h
theorem OutS.ok_mono {o : OutS} {n m : Nat} (h : o.ok n) (hm : m ≤ n) : o.ok m := by unfold OutS.ok at *; omega
theorem OutS.ok_put {o : OutS} {s : Bs} {n m : Nat} (h : o.ok n) (hm : s.length + m ≤ n) : (o.put s).ok m := by unfold OutS.ok at *; have := o.len_put s; omega
theorem OutS.ok_int {o : OutS} {a b : Int} {n m : Nat} (h : o.ok n) (hm : 8 + m ≤ n) : (o.int a b).ok m := by unfold OutS.ok at *; have := o.len_int a b; omega
theorem OutS.len_putInt (o : OutS) (n : Int) (h : -9223372036854775808 ≤ n ∧ n < 9223372036854775808) : (o.putInt n).bytes.length ≤ o.bytes.length + 10 := by
  unfold OutS.putInt
  split
  · have := o.len_put (putU (foldN n))
    have := putU_len _ (foldN_lt h.1 h.2)
    omega
  · rw [OutS.len_fail]; omega
theorem OutS.ok_putInt {o : OutS} {a : Int} {n m : Nat} (h : o.ok n) (hm : 10 + m ≤ n) (ha : -9223372036854775808 ≤ a ∧ a < 9223372036854775808) : (o.putInt a).ok m := by unfold OutS.ok at *; have := o.len_putInt a ha; omega

def OutS.putData (o : OutS) (b : BlobS) : OutS := (if b.right then o else o.fail 4).put b.data
def OutS.putFixed (o : OutS) (b : BlobS) (size : Int) : OutS := (o.int b.len size).putData b
def OutS.putVaried (o : OutS) (b : BlobS) : OutS := (o.putInt b.len).putData b

theorem BlobS.len_range (b : BlobS) (h : b.data.length ≤ 140737488355328) : -9223372036854775808 ≤ b.len ∧ b.len < 9223372036854775808 := by
  unfold BlobS.len
  split <;> omega
def OutS.putText (o : OutS) (s : Bs) : OutS := o.putFixed ⟨false, s⟩ 2
def OutS.putName (o : OutS) (s : Bs) : OutS := o.putVaried ⟨false, s⟩
end Go.Proofs.YtenojajfacacoaaDoor
