/- Numbers: what the bits' operations are, as sums. -/
import Derived.Test.YtenojajfacacoaaDoorBase
namespace Go.Proofs.YtenojajfacacoaaDoor
open Go.RowKit

theorem ofInt_toNat (n : Nat) (z : Int) : (BitVec.ofInt n z).toNat = (z % (2 ^ n : Nat)).toNat := by
  simp [BitVec.toNat_ofInt]

theorem bits_or_i64 (x y : Int) : bits .or .i64 x y = IntKind.i64.wrap (((x % 18446744073709551616).toNat ||| (y % 18446744073709551616).toNat : Nat) : Int) := by
  show IntKind.i64.wrap ((BitVec.ofInt 64 x ||| BitVec.ofInt 64 y).toNat : Int) = _
  rw [BitVec.toNat_or, ofInt_toNat, ofInt_toNat]; rfl
theorem bits_or_u64 (x y : Int) : bits .or .u64 x y = IntKind.u64.wrap (((x % 18446744073709551616).toNat ||| (y % 18446744073709551616).toNat : Nat) : Int) := by
  show IntKind.u64.wrap ((BitVec.ofInt 64 x ||| BitVec.ofInt 64 y).toNat : Int) = _
  rw [BitVec.toNat_or, ofInt_toNat, ofInt_toNat]; rfl
theorem bits_or_u32 (x y : Int) : bits .or .u32 x y = IntKind.u32.wrap (((x % 4294967296).toNat ||| (y % 4294967296).toNat : Nat) : Int) := by
  show IntKind.u32.wrap ((BitVec.ofInt 32 x ||| BitVec.ofInt 32 y).toNat : Int) = _
  rw [BitVec.toNat_or, ofInt_toNat, ofInt_toNat]; rfl
theorem bits_or_u8 (x y : Int) : bits .or .u8 x y = IntKind.u8.wrap (((x % 256).toNat ||| (y % 256).toNat : Nat) : Int) := by
  show IntKind.u8.wrap ((BitVec.ofInt 8 x ||| BitVec.ofInt 8 y).toNat : Int) = _
  rw [BitVec.toNat_or, ofInt_toNat, ofInt_toNat]; rfl
theorem bits_and_i64 (x y : Int) : bits .and .i64 x y = IntKind.i64.wrap (((x % 18446744073709551616).toNat &&& (y % 18446744073709551616).toNat : Nat) : Int) := by
  show IntKind.i64.wrap ((BitVec.ofInt 64 x &&& BitVec.ofInt 64 y).toNat : Int) = _
  rw [BitVec.toNat_and, ofInt_toNat, ofInt_toNat]; rfl
theorem bits_and_u64 (x y : Int) : bits .and .u64 x y = IntKind.u64.wrap (((x % 18446744073709551616).toNat &&& (y % 18446744073709551616).toNat : Nat) : Int) := by
  show IntKind.u64.wrap ((BitVec.ofInt 64 x &&& BitVec.ofInt 64 y).toNat : Int) = _
  rw [BitVec.toNat_and, ofInt_toNat, ofInt_toNat]; rfl
theorem bits_and_u32 (x y : Int) : bits .and .u32 x y = IntKind.u32.wrap (((x % 4294967296).toNat &&& (y % 4294967296).toNat : Nat) : Int) := by
  show IntKind.u32.wrap ((BitVec.ofInt 32 x &&& BitVec.ofInt 32 y).toNat : Int) = _
  rw [BitVec.toNat_and, ofInt_toNat, ofInt_toNat]; rfl
theorem bits_and_u8 (x y : Int) : bits .and .u8 x y = IntKind.u8.wrap (((x % 256).toNat &&& (y % 256).toNat : Nat) : Int) := by
  show IntKind.u8.wrap ((BitVec.ofInt 8 x &&& BitVec.ofInt 8 y).toNat : Int) = _
  rw [BitVec.toNat_and, ofInt_toNat, ofInt_toNat]; rfl
theorem bits_xor_i64 (x y : Int) : bits .xor .i64 x y = IntKind.i64.wrap (((x % 18446744073709551616).toNat ^^^ (y % 18446744073709551616).toNat : Nat) : Int) := by
  show IntKind.i64.wrap ((BitVec.ofInt 64 x ^^^ BitVec.ofInt 64 y).toNat : Int) = _
  rw [BitVec.toNat_xor, ofInt_toNat, ofInt_toNat]; rfl
theorem bits_xor_u64 (x y : Int) : bits .xor .u64 x y = IntKind.u64.wrap (((x % 18446744073709551616).toNat ^^^ (y % 18446744073709551616).toNat : Nat) : Int) := by
  show IntKind.u64.wrap ((BitVec.ofInt 64 x ^^^ BitVec.ofInt 64 y).toNat : Int) = _
  rw [BitVec.toNat_xor, ofInt_toNat, ofInt_toNat]; rfl
theorem bits_xor_u32 (x y : Int) : bits .xor .u32 x y = IntKind.u32.wrap (((x % 4294967296).toNat ^^^ (y % 4294967296).toNat : Nat) : Int) := by
  show IntKind.u32.wrap ((BitVec.ofInt 32 x ^^^ BitVec.ofInt 32 y).toNat : Int) = _
  rw [BitVec.toNat_xor, ofInt_toNat, ofInt_toNat]; rfl
theorem bits_xor_u8 (x y : Int) : bits .xor .u8 x y = IntKind.u8.wrap (((x % 256).toNat ^^^ (y % 256).toNat : Nat) : Int) := by
  show IntKind.u8.wrap ((BitVec.ofInt 8 x ^^^ BitVec.ofInt 8 y).toNat : Int) = _
  rw [BitVec.toNat_xor, ofInt_toNat, ofInt_toNat]; rfl

theorem or_low (x y : Int) (h0 : 0 ≤ y) (h1 : y < 256) : bits .or .i64 (wrap64 (x * 256)) y = wrap64 (x * 256 + y) := by
  have hd : ((x * 256) % 18446744073709551616) = 256 * ((x * 256) % 18446744073709551616 / 256) := by omega
  obtain ⟨q, hq⟩ : ∃ q : Nat, (x * 256) % 18446744073709551616 = 256 * (q : Int) := ⟨((x * 256) % 18446744073709551616 / 256).toNat, by omega⟩
  obtain ⟨m, rfl⟩ : ∃ m : Nat, y = m := ⟨y.toNat, by omega⟩
  have e1 : (wrap64 (x * 256)) % 18446744073709551616 = ((256 * q : Nat) : Int) := by simp only [wrap64]; omega
  have e2 : (m : Int) % 18446744073709551616 = (m : Int) := by omega
  have hor : 256 * q ||| m = 256 * q + m := (Nat.two_pow_add_eq_or_of_lt (i := 8) (by omega) q).symm
  rw [bits_or_i64, e1, e2, Int.toNat_natCast, Int.toNat_natCast, hor, IntKind.wrap_i64]
  simp only [wrap64]
  omega

end Go.Proofs.YtenojajfacacoaaDoor
