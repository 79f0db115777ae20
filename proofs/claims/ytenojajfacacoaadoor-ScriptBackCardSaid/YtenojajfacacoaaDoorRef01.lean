/- Contracts of cursitorref01. -/
import Derived.Test.YtenojajfacacoaaDoorIn
namespace Go.Proofs.YtenojajfacacoaaDoor
open Go.RowKit

theorem sInt_take_succ (s : Bs) (k : Nat) (h : k < s.length) :
    sInt (s.take (k + 1)) = sInt (s.take k) * 256 + (if k = 0 ∧ 128 ≤ s[k].toNat then (s[k].toNat : Int) - 256 else s[k].toNat) := by
  cases s with
  | nil => simp at h
  | cons c t =>
    cases k with
    | zero =>
      simp [sInt, sByte]
      split <;> split <;> omega
    | succ k =>
      have hk : k < t.length := by simpa using h
      rw [List.take_succ_cons, List.take_succ_cons, List.take_succ_eq_append_getElem hk, sInt_snoc]
      simp

theorem sInt_take_range (s : Bs) (h : s.length ≤ 8) (k : Nat) : -9223372036854775808 ≤ sInt (s.take k) ∧ sInt (s.take k) < 9223372036854775808 :=
  sInt_range _ (by rw [List.length_take]; omega)

/-- A number's bytes, so many. -/
def beBytes (n : Int) : Nat → Bs
  | 0 => []
  | k + 1 => beBytes (n / 256) k ++ [UInt8.ofNat (n % 256).toNat]

@[simp] theorem beBytes_length (n : Int) (k : Nat) : (beBytes n k).length = k := by
  induction k generalizing n with
  | zero => rfl
  | succ k ih => simp [beBytes, ih]

theorem info_u8 : (Tryd.prog.info? 5).map (fun i => (i.zero, i.size, i.bytes)) = some (some (.int .u8 0), 1, 1) := by kernel_rfl

theorem setCell_alloc (w : World) (C : Array Value) (T : TypeId) (o : Nat) (v : Value) :
    (w.alloc (.cells C T)).setCell ⟨w.heap.size, o, none⟩ v = w.alloc (.cells (C.setIfInBounds o v) T) := by
  simp only [World.setCell, World.alloc]
  congr 1
  apply Array.ext_getElem?
  intro i
  simp only [Array.getElem?_modify, Array.getElem?_push]
  split <;> split <;> simp_all

theorem tdiv_exact {a : Int} (h : a % 256 = 0) : a.tdiv 256 = a / 256 := by
  rw [Int.tdiv_eq_ediv]
  split <;> omega

theorem bytes_round {C : Array Value} {j k : Nat} {n m : Int} {l : Bs} (hC : C.size = k) (hl : beBytes n k = beBytes m (j + 1) ++ l)
    (hx : ∀ x, x < l.length → C[j + 1 + x]? = some (.int .u8 (l.getD x 0).toNat)) :
    (C.setIfInBounds j (.int .u8 (m % 256))).size = k ∧ beBytes n k = beBytes (m / 256) j ++ (UInt8.ofNat (m % 256).toNat :: l) ∧
    (∀ x, x < (UInt8.ofNat (m % 256).toNat :: l).length → (C.setIfInBounds j (.int .u8 (m % 256)))[j + x]? = some (.int .u8 ((UInt8.ofNat (m % 256).toNat :: l).getD x 0).toNat)) ∧ True := by
  have hj : j < C.size := by
    have := congrArg List.length hl
    rw [List.length_append, beBytes_length, beBytes_length] at this
    omega
  refine ⟨by simpa using hC, by rw [hl]; simp [beBytes], ?_, trivial⟩
  intro x hxl
  cases x with
  | zero =>
    have h256 : (m % 256).toNat < 256 := by omega
    simp [hj, Nat.mod_eq_of_lt h256]
    omega
  | succ x =>
    have := hx x (by simpa using hxl)
    rw [show j + 1 + x = j + (x + 1) by omega] at this
    rw [Array.getElem?_setIfInBounds_ne (by omega), this]
    simp

/-- Half of what so many bytes tell apart. -/
def half (k : Nat) : Int := 128 * 256 ^ (k - 1)

theorem sInt_beBytes_succ (n : Int) (k : Nat) : sInt (beBytes n (k + 2)) = sInt (beBytes (n / 256) (k + 1)) * 256 + n % 256 := by
  have e : beBytes n (k + 2) = beBytes (n / 256) (k + 1) ++ [UInt8.ofNat (n % 256).toNat] := rfl
  rw [e]
  cases h : beBytes (n / 256) (k + 1) with
  | nil => have := congrArg List.length h; rw [beBytes_length] at this; simp at this
  | cons c t =>
    rw [List.cons_append, sInt_snoc]
    have h256 : (n % 256).toNat < 256 := by omega
    simp [Nat.mod_eq_of_lt h256]
    omega

theorem mod_mul_add (a b r : Int) (hb : 0 < b) (h0 : 0 ≤ r) (h1 : r < 256) : (256 * a + r) % (256 * b) = 256 * (a % b) + r := by
  have ha := Int.emod_add_mul_ediv a b
  have h2 := Int.emod_nonneg a (Int.ne_of_gt hb)
  have h3 := Int.emod_lt_of_pos a hb
  have e : 256 * a + r = (256 * (a % b) + r) + (256 * b) * (a / b) := by
    rw [Int.mul_assoc]; omega
  rw [e, Int.add_mul_emod_self_left, Int.emod_eq_of_lt (by omega) (by omega)]

theorem half_pos (k : Nat) : 0 < half k := by unfold half; have : (0 : Int) < 256 ^ (k - 1) := Int.pow_pos (by decide); omega

theorem sInt_beBytes (n : Int) (k : Nat) : sInt (beBytes n (k + 1)) = (n + half (k + 1)) % (2 * half (k + 1)) - half (k + 1) := by
  induction k generalizing n with
  | zero =>
    have h256 : (n % 256).toNat < 256 := by omega
    have : sInt (beBytes n 1) = sByte (UInt8.ofNat (n % 256).toNat) := rfl
    rw [this]
    simp [sByte, half, Nat.mod_eq_of_lt h256]
    split <;> omega
  | succ k ih =>
    rw [sInt_beBytes_succ, ih]
    have hp := half_pos (k + 1)
    have e : half (k + 2) = 256 * half (k + 1) := by unfold half; simp only [Nat.add_sub_cancel, show k + 2 - 1 = k + 1 by omega, Int.pow_succ]; omega
    rw [e]
    have := mod_mul_add (n / 256 + half (k + 1)) (2 * half (k + 1)) (n % 256) (by omega) (by omega) (by omega)
    have e2 : n + 256 * half (k + 1) = 256 * (n / 256 + half (k + 1)) + n % 256 := by omega
    have e3 : 2 * (256 * half (k + 1)) = 256 * (2 * half (k + 1)) := by omega
    rw [e2, e3, this]
    omega

theorem sInt_beBytes_iff (n : Int) (k : Nat) (hk : 1 ≤ k) : sInt (beBytes n k) = n ↔ (-half k ≤ n ∧ n < half k) := by
  obtain ⟨k, rfl⟩ : ∃ j, k = j + 1 := ⟨k - 1, by omega⟩
  rw [sInt_beBytes]
  have hp := half_pos (k + 1)
  constructor
  · intro h
    have h2 := Int.emod_nonneg (n + half (k + 1)) (b := 2 * half (k + 1)) (by omega)
    have h3 := Int.emod_lt_of_pos (n + half (k + 1)) (b := 2 * half (k + 1)) (by omega)
    omega
  · intro h
    rw [Int.emod_eq_of_lt (by omega) (by omega)]
    omega

/-- Does a number fit so many bytes? -/
def fits (n size : Int) : Prop := 1 ≤ size ∧ size ≤ 8 ∧ -half size.toNat ≤ n ∧ n < half size.toNat
instance (n size : Int) : Decidable (fits n size) := by unfold fits; infer_instance

end Go.Proofs.YtenojajfacacoaaDoor
