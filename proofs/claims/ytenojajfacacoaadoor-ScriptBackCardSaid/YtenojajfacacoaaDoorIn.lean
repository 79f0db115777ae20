/- Contracts of package input. -/
import Derived.Test.YtenojajfacacoaaDoorRows
import Derived.Test.YtenojajfacacoaaDoorBase
import Derived.Test.YtenojajfacacoaaDoorNum
namespace Go.Proofs.YtenojajfacacoaaDoor
open Go.RowKit

/-- What an Input is. -/
structure InS where
  s : Bs
  pos : Nat
  err : Int
deriving DecidableEq

def InS.ok (i : InS) : Prop := i.pos ≤ i.s.length ∧ i.s.length ≤ 140737488355328
def InS.fail (i : InS) (e : Int) : InS := if i.err = 0 then { i with err := e } else i
def InS.left (i : InS) : Nat := i.s.length - i.pos

def IsIn (w : World) (b : Nat) (i : InS) : Prop :=
  w.heap[b]? = some (.cells #[.string (bb i.s), .int .i64 i.pos, .int .i64 i.err] 0 (0, 0)) ∧ i.ok

theorem IsIn.keeps {w w' : World} {b : Nat} {i : InS} {M : Nat → Prop} (h : IsIn w b i) (k : Keeps M w w') (hm : ¬ M b) : IsIn w' b i :=
  ⟨(k.block b (heap_lt h.1) hm).trans h.1, h.2⟩
theorem IsIn.drewN {w : World} {b : Nat} {i : InS} (h : IsIn w b i) (n : Nat) : IsIn (w.drewN n) b i := h
theorem IsIn.lt {w : World} {b : Nat} {i : InS} (h : IsIn w b i) : b < w.heap.size := heap_lt h.1

abbrev inPtr (b : Nat) : Value := .pointer (some ⟨b, 0, none⟩)

def InS.take (i : InS) (n : Int) : Bs × InS :=
  if i.err ≠ 0 then ([], i)
  else if n < 0 then ([], { i with err := 4 })
  else if (i.left : Int) < n then ([], { i with err := 1 })
  else ((i.s.drop i.pos).take n.toNat, { i with pos := i.pos + n.toNat })

theorem IsIn.cells {w : World} {b : Nat} {i : InS} (h : IsIn w b i) :
    w.cell? ⟨b, 0, none⟩ = some (.string (bb i.s)) ∧ w.cell? ⟨b, 1, none⟩ = some (.int .i64 i.pos) ∧ w.cell? ⟨b, 2, none⟩ = some (.int .i64 i.err) ∧
    w.frozen? ⟨b, 0, none⟩ = false ∧ w.frozen? ⟨b, 1, none⟩ = false ∧ w.frozen? ⟨b, 2, none⟩ = false := by
  have h0 := cell_at h.1 0
  have h1 := cell_at h.1 1
  have h2 := cell_at h.1 2
  simp at h0 h1 h2
  exact ⟨h0, h1, h2, free_at h.1 0, free_at h.1 1, free_at h.1 2⟩

theorem InS.fail_err (i : InS) (e : Int) (he : e ≠ 0) : (i.fail e).err ≠ 0 := by
  unfold InS.fail; split <;> simp_all

theorem InS.take_err {i : InS} {n : Int} (h : i.err ≠ 0) : i.take n = ([], i) := if_pos h
theorem InS.take_neg {i : InS} {n : Int} (hn : n < 0) : i.take n = ([], i.fail 4) := by
  unfold InS.take InS.fail; split <;> simp_all
theorem InS.take_short {i : InS} {n : Int} (hn : ¬ n < 0) (hl : (i.left : Int) < n) : i.take n = ([], i.fail 1) := by
  unfold InS.take InS.fail; split <;> simp_all
theorem InS.take_ok {i : InS} {n : Int} (he : i.err = 0) (hn : ¬ n < 0) (hl : ¬ (i.left : Int) < n) :
    i.take n = ((i.s.drop i.pos).take n.toNat, { i with pos := i.pos + n.toNat }) := by
  unfold InS.take; simp [he, hn, hl]

/-- The signed number that bytes are. -/
def sByte (c : UInt8) : Int := if c.toNat < 128 then c.toNat else (c.toNat : Int) - 256
def sInt : Bs → Int
  | [] => 0
  | c :: t => t.foldl (fun a c => a * 256 + c.toNat) (sByte c)
def InS.int (i : InS) (size : Int) : Int × InS :=
  if size < 1 ∨ 8 < size then (0, i.fail 4) else (sInt (i.take size).1, (i.take size).2)

theorem wrap_sByte (c : UInt8) : wrap64 (IntKind.i8.wrap (c.toNat : Int)) = sByte c := by
  have := c.toNat_lt
  unfold sByte
  split <;> simp only [wrap64, IntKind.wrap, IntKind.bits, IntKind.signed] <;> simp <;> omega

theorem sInt_snoc (c : UInt8) (l : Bs) (d : UInt8) : sInt (c :: (l ++ [d])) = sInt (c :: l) * 256 + d.toNat := by
  simp [sInt]

theorem foldl_bound : ∀ (l : Bs) (a B : Int), -B ≤ a → a < B → -(B * 256 ^ l.length) ≤ l.foldl (fun a c => a * 256 + (c.toNat : Int)) a ∧ l.foldl (fun a c => a * 256 + (c.toNat : Int)) a < B * 256 ^ l.length
  | [], a, B, h0, h1 => by simp; omega
  | d :: l, a, B, h0, h1 => by
    have := d.toNat_lt
    have h := foldl_bound l (a * 256 + d.toNat) (B * 256) (by omega) (by omega)
    have e : B * 256 ^ (d :: l).length = B * 256 * 256 ^ l.length := by rw [List.length_cons, Int.pow_succ, Int.mul_assoc, Int.mul_comm 256]
    rw [e]
    exact h

theorem sInt_bound_pow (c : UInt8) (l : Bs) : -(128 * 256 ^ l.length : Int) ≤ sInt (c :: l) ∧ sInt (c :: l) < 128 * 256 ^ l.length := by
  have := c.toNat_lt
  exact foldl_bound l (sByte c) 128 (by unfold sByte; split <;> omega) (by unfold sByte; split <;> omega)

theorem sInt_bound (c : UInt8) (l : Bs) (h : l.length ≤ 7) : -9223372036854775808 ≤ sInt (c :: l) ∧ sInt (c :: l) < 9223372036854775808 := by
  have hb := sInt_bound_pow c l
  have : (256 : Int) ^ l.length ≤ 256 ^ 7 := by have := Nat.pow_le_pow_right (n := 256) (by decide) h; have h2 : ((256 ^ l.length : Nat) : Int) ≤ ((256 ^ 7 : Nat) : Int) := Int.ofNat_le.2 this; rwa [Int.natCast_pow] at h2
  omega

theorem wrap64_in (x : Int) (h0 : -9223372036854775808 ≤ x) (h1 : x < 9223372036854775808) : wrap64 x = x := by
  simp only [wrap64]; omega

def InS.count (i : InS) (size each : Int) : Int × InS :=
  let x := i.int size
  if x.1 < 0 then (0, x.2.fail 4)
  else if 0 < each ∧ (x.2.left : Int) / each < x.1 then (0, x.2.fail 1)
  else x

theorem sInt_range (l : Bs) (h : l.length ≤ 8) : -9223372036854775808 ≤ sInt l ∧ sInt l < 9223372036854775808 := by
  cases l with
  | nil => simp [sInt]
  | cons c t => exact sInt_bound c t (by simp at h; omega)

theorem InS.take_len (i : InS) (n : Int) : (i.take n).1.length ≤ n.toNat := by
  unfold InS.take; split; simp; split; simp; split; simp; simp; omega

theorem InS.fail_ok {i : InS} {e : Int} (h : i.ok) : (i.fail e).ok := by unfold InS.fail; split <;> exact h
theorem InS.take_okk {i : InS} {n : Int} (h : i.ok) : (i.take n).2.ok := by
  unfold InS.take
  split
  · exact h
  split
  · exact h
  split
  · exact h
  · refine ⟨?_, h.2⟩
    have := h.1
    simp only [InS.left] at *
    omega
theorem InS.int_ok (i : InS) (n : Int) (h : i.ok) : (i.int n).2.ok := by
  unfold InS.int
  split
  · exact fail_ok h
  · exact take_okk h

theorem InS.int_range (i : InS) (n : Int) : -9223372036854775808 ≤ (i.int n).1 ∧ (i.int n).1 < 9223372036854775808 := by
  unfold InS.int
  split
  · simp
  · exact sInt_range _ (by have := i.take_len n; omega)

def InS.close (i : InS) : InS := if 0 < i.left then i.fail 2 else i

end Go.Proofs.YtenojajfacacoaaDoor
