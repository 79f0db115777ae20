/- Bytes in words (pure). -/
import Derived.Test.YtenojajfacacoaaDoorGrow
namespace Go.Proofs.YtenojajfacacoaaDoor
open Go.RowKit

/-- A digit of 16. -/
def hexD (n : Nat) : UInt8 := if n < 10 then UInt8.ofNat (48 + n) else UInt8.ofNat (87 + n)
def hexL (s : Bs) : Bs := s.flatMap fun x => [hexD (x.toNat / 16), hexD (x.toNat % 16)]
def hexW (s : Bs) : Bs := if s = [] then [45] else hexL s
def digB : Bs := [48, 49, 50, 51, 52, 53, 54, 55, 56, 57, 97, 98, 99, 100, 101, 102]
theorem digB_at : ∀ n, (h : n < 16) → digB[n]'h = hexD n := by decide
theorem digA (n : Nat) (h : n < (⟨#[48, 49, 50, 51, 52, 53, 54, 55, 56, 57, 97, 98, 99, 100, 101, 102]⟩ : ByteArray).size) : (⟨#[48, 49, 50, 51, 52, 53, 54, 55, 56, 57, 97, 98, 99, 100, 101, 102]⟩ : ByteArray)[n]'h = hexD n := digB_at n h
theorem hexL_take (s : Bs) (k : Nat) (hk : k < s.length) (x : UInt8) (hx : s[k] = x) : hexL (s.take k) ++ [hexD (x.toNat / 16)] ++ [hexD (x.toNat % 16)] = hexL (s.take (k + 1)) := by
  unfold hexL
  rw [List.take_succ_eq_append_getElem hk, hx, List.flatMap_append]
  simp
theorem hexL_len (s : Bs) : (hexL s).length = 2 * s.length := by
  unfold hexL
  induction s with
  | nil => rfl
  | cons a t ih => rw [List.flatMap_cons, List.length_append, ih]; simp; omega

end Go.Proofs.YtenojajfacacoaaDoor
