/- Contracts of varint over things that are apart. -/
import Derived.Test.YtenojajfacacoaaDoorS1
import Derived.Test.YtenojajfacacoaaDoorVarIn
namespace Go.Proofs.YtenojajfacacoaaDoor
open Go.RowKit

theorem digs_lt (top : Nat) (ht : top < 128) : ∀ (f read n : Nat) (i : InS), n < 128 ^ read → (digs top (f + 1) read n i).1 < (top + 1) * 128 ^ (read + f)
  | 0, read, n, i, hn => by
    have hp : 0 < 128 ^ read := Nat.pow_pos (by decide)
    have h0 : 0 < (top + 1) * 128 ^ read := Nat.mul_pos (by omega) hp
    unfold digs
    split
    · exact h0
    · split
      · exact h0
      · rename_i hb
        split
        · unfold digs; split <;> exact h0
        · rename_i c t _ _
          have hd : c.toNat % 128 ≤ top := by
            have : ¬ (top < c.toNat % 128) := fun h => hb (.inl ⟨rfl, h⟩)
            omega
          have : c.toNat % 128 * 128 ^ read ≤ top * 128 ^ read := Nat.mul_le_mul_right _ hd
          rw [Nat.add_mul]
          simp only [Nat.add_zero]
          omega
  | f + 1, read, n, i, hn => by
    have h0 : 0 < (top + 1) * 128 ^ (read + (f + 1)) := Nat.mul_pos (by omega) (Nat.pow_pos (by decide))
    unfold digs
    split
    · exact h0
    · split
      · exact h0
      · split
        · rename_i c t _ _ _
          have := digs_lt top ht f (read + 1) _ (i.take 1).2 (digit_lt hn (Nat.mod_lt c.toNat (by decide : 128 > 0)))
          rw [show read + 1 + f = read + (f + 1) by omega] at this
          exact this
        · refine Nat.lt_of_lt_of_le (digit_lt hn (Nat.mod_lt _ (by decide))) ?_
          have h1 : 128 ^ (read + 1) ≤ 128 ^ (read + (f + 1)) := Nat.pow_le_pow_right (by decide) (by omega)
          exact Nat.le_trans h1 (Nat.le_mul_of_pos_left _ (by omega))

def InS.short (i : InS) : Nat × InS := digs 15 5 0 0 i
def InS.long (i : InS) : Nat × InS := digs 1 10 0 0 i
def InS.uint (i : InS) : Int × InS := (i.short.1, i.short.2)
def InS.vint (i : InS) : Int × InS := (backN i.short.1, i.short.2)
def InS.vlong (i : InS) : Int × InS := (backN i.long.1, i.long.2)
theorem short_lt (i : InS) : i.short.1 < 4294967296 := digs_lt 15 (by decide) 4 0 0 i (by decide)
theorem long_lt (i : InS) : i.long.1 < 18446744073709551616 := digs_lt 1 (by decide) 9 0 0 i (by decide)
theorem backN_range (u : Nat) (h : u < 18446744073709551616) : -9223372036854775808 ≤ backN u ∧ backN u < 9223372036854775808 := by
  unfold backN; split <;> omega
theorem backN_range32 (u : Nat) (h : u < 4294967296) : -2147483648 ≤ backN u ∧ backN u < 2147483648 := by
  unfold backN; split <;> omega
theorem InS.vint_range (i : InS) : -2147483648 ≤ i.vint.1 ∧ i.vint.1 < 2147483648 := backN_range32 _ (short_lt i)
theorem InS.vlong_range (i : InS) : -9223372036854775808 ≤ i.vlong.1 ∧ i.vlong.1 < 9223372036854775808 := backN_range _ (long_lt i)

end Go.Proofs.YtenojajfacacoaaDoor
