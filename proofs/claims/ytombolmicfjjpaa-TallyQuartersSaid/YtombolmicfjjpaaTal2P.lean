/- Sums of sizes, turned (pure). -/
import Derived.Test.YtombolmicfjjpaaTal1
namespace Go.Proofs.Ytombolmicfjjpaa
open Go.RowKit

/-- The sum of the first sizes, each turned by so many quarters more. -/
def qa (k : Int) (l : List Int) : Nat → Int × Int
  | 0 => (0, 0)
  | i + 1 => ((qa k l i).1 + (turnI ((k * i) % 4) (l.getD i 0) 0).1, (qa k l i).2 + (turnI ((k * i) % 4) (l.getD i 0) 0).2)
def Lim (M : Int) (l : List Int) : Prop := ∀ x ∈ l, -M ≤ x ∧ x ≤ M
theorem turnI_lim (r a M : Int) (h : -M ≤ a ∧ a ≤ M) (hM : 0 ≤ M) : (-M ≤ (turnI r a 0).1 ∧ (turnI r a 0).1 ≤ M) ∧ (-M ≤ (turnI r a 0).2 ∧ (turnI r a 0).2 ≤ M) := by
  unfold turnI
  split
  · simp only; omega
  · split
    · simp only; omega
    · split
      · simp only; omega
      · simp only; omega
theorem getD_lim {M : Int} {l : List Int} (hl : Lim M l) (hM : 0 ≤ M) (i : Nat) : -M ≤ l.getD i 0 ∧ l.getD i 0 ≤ M := by
  by_cases h : i < l.length
  · rw [List.getD_eq_getElem?_getD, List.getElem?_eq_getElem h]
    exact hl _ (List.getElem_mem h)
  · rw [List.getD_eq_getElem?_getD, List.getElem?_eq_none (by omega)]
    simp only [Option.getD_none]
    omega
theorem qa_lim (k M : Int) (l : List Int) (hl : Lim M l) (hM : 0 ≤ M) (i : Nat) : (-(M * i) ≤ (qa k l i).1 ∧ (qa k l i).1 ≤ M * i) ∧ (-(M * i) ≤ (qa k l i).2 ∧ (qa k l i).2 ≤ M * i) := by
  induction i with
  | zero => simp [qa]
  | succ i ih =>
    have ht := turnI_lim ((k * i) % 4) (l.getD i 0) M (getD_lim hl hM i) hM
    have e : M * ((i + 1 : Nat) : Int) = M * i + M := by rw [Int.natCast_succ, Int.mul_add, Int.mul_one]
    rw [e]
    show (-(M * i + M) ≤ (qa k l i).1 + _ ∧ (qa k l i).1 + _ ≤ M * i + M) ∧ (-(M * i + M) ≤ (qa k l i).2 + _ ∧ (qa k l i).2 + _ ≤ M * i + M)
    omega
theorem qa_wh (k : Int) (l : List Int) (hl : Lim 2147483648 l) (i : Nat) (hi : i ≤ 1000000) : Wh (qa k l i).1 ∧ Wh (qa k l i).2 := by
  have h := qa_lim k 2147483648 l hl (by decide) i
  have e : (2147483648 : Int) * (i : Int) ≤ 2147483648000000 := by omega
  unfold Wh
  omega
theorem cadd {a b c d re im : Nat} (h1 : Ieee.double.add a c = some re) (h2 : Ieee.double.add b d = some im) : cSumBits .add .f64 a b c d = some (re, im) := by
  unfold cSumBits floatBits
  show (Ieee.double.add a c).bind _ = _
  rw [h1]
  show (Ieee.double.add b d).bind _ = _
  rw [h2]
  rfl
theorem run_cadd {a b c d re im : Nat} (T : TypeId) (h1 : Ieee.double.add a c = some re) (h2 : Ieee.double.add b d = some im) (w : World) : (binOp .add T (.complex .f64 a b) (.complex .f64 c d)).run Try.prog w = .ok (.complex .f64 re im) w :=
  run_complex_sum w .add (.inl rfl) T .f64 a b c d re im (cadd h1 h2)
theorem FI.conv (n : Int) (h : Wh n) : FI (floatOfInt .f64 n) n := FI.ofInt n h
theorem mod4_wrap (k : Int) (i : Nat) (q : Int) (hq : IntKind.i64.wrap (k * i) = q) : q % 4 = (k * i) % 4 := by
  rw [← hq, IntKind.wrap_i64]
  generalize k * (i : Int) = z
  omega

end Go.Proofs.Ytombolmicfjjpaa
