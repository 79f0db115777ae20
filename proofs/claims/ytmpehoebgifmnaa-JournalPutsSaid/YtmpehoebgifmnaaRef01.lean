/- A text. -/
import Derived.Test.YtmpehoebgifmnaaIn
namespace Go.Proofs.Ytmpehoebgifmnaa
open Go.RowKit

def beBytes (n : Int) : Nat → Bs
  | 0 => []
  | k + 1 => beBytes (n / 256) k ++ [UInt8.ofNat (n % 256).toNat]

@[simp] theorem beBytes_length (n : Int) (k : Nat) : (beBytes n k).length = k := by
  induction k generalizing n with
  | zero => rfl
  | succ k ih => simp [beBytes, ih]

theorem info_u8 : (Try.prog.info? 5).map (fun i => (i.zero, i.size, i.bytes)) = some (some (.int .u8 0), 1, 1) := by kernel_rfl

theorem tdiv_exact {a : Int} (h : a % 256 = 0) : a.tdiv 256 = a / 256 := by
 rw [Int.tdiv_eq_ediv]
 split <;> omega

theorem bytes_round {C : Array Value} {j k : Nat} {n m : Int} {l : Bs} (hC : C.size = k) (hl : beBytes n k = beBytes m (j + 1) ++ l)
    (hx : ∀ x, x < l.length → C[j + 1 + x]? = some (.int .u8 (l.getD x 0).toNat)) :
    (C.setIfInBounds j (.int .u8 (m % 256))).size = k ∧ beBytes n k = beBytes (m / 256) j ++ (UInt8.ofNat (m % 256).toNat :: l) ∧
    (∀ x, x < (UInt8.ofNat (m % 256).toNat :: l).length → (C.setIfInBounds j (.int .u8 (m % 256)))[j + x]? = some (.int .u8 ((UInt8.ofNat (m % 256).toNat :: l).getD x 0).toNat)) ∧ True := by
  have hj : j < C.size := by
    have := congrArg List.length hl; rw [List.length_append, beBytes_length, beBytes_length] at this
    omega
  refine ⟨by simpa using hC, by rw [hl]; simp [beBytes], ?_, trivial⟩; intro x hxl
  cases x with
  | zero =>
    have h256 : (m % 256).toNat < 256 := by omega
    simp [hj, Nat.mod_eq_of_lt h256]
    omega
  | succ x =>
    have := hx x (by simpa using hxl); rw [show j + 1 + x = j + (x + 1) by omega] at this; rw [Array.getElem?_setIfInBounds_ne (by omega), this]
    simp

theorem zq5 {p : Prop} (h : p := by
  go_round
  case rel =>
   obtain ⟨g1, g2, g3, g4⟩ := bytes_round HH.out.1 HH.out.2.1 HH.out.2.2; refine ⟨j, m / 256, _, _, by omega, ?_, rfl, by omega, by omega, ?_, g1, g2, g3⟩
   · refine congrArg _ ?_; have := HR.out; simp only [wrap64]; rw [tdiv_exact (by omega)]
     omega
   · rw [HR.out]
  case measure => first | (simp [intOf]; done) | (simp [intOf]; omega)) : p := h
set_option maxHeartbeats 400000 in
set_option maxRecDepth 100000 in
theorem ref_bytes (n : Int) (k : Nat) (w : World) (hk : k ≤ 140737488355328) (h0 : -9223372036854775808 ≤ n) (h1 : n < 9223372036854775808) :
  Calls Try.prog 41 #[.int .i64 n, .int .i64 k] w fun en w' => en = .returned (.string (bb (beBytes n k))) ∧ Keeps (fun _ => False) w w' := by
 obtain ⟨i0, hi, hz0, hz1, hz2⟩ := info_parts info_u8
 have hmk : (Instr.makeSlice 80 (.int .i64 (k : Int)) (.int .i64 (k : Int))).run Try.prog w = .ok (.slice (some ⟨w.heap.size, 0, none⟩) k k) (w.alloc (.cells (madeCells #[.int .u8 0] k) 5)) := by
  have := run_make (P := Try.prog) w 80 5 i0 _ Try.underlying80 hi hz0 .i64 .i64 k k (by omega) (by omega) (by rw [hz2]; omega) (by omega)
  simpa [hz1, Value.cells] using this
 clear hi hz0 hz1 hz2; go_enter Try.func41, Try.ntmps41; go_wp2
 go_loopw [0, 6] (fun nv iv wr => ∃ (j : Nat) (m : Int) (C : Array Value) (l : Bs), j ≤ k ∧ nv = .int .i64 m ∧ iv = .int .i64 ((j : Int) - 1) ∧
   -9223372036854775808 ≤ m ∧ m < 9223372036854775808 ∧ wr = w.alloc (.cells C 5) ∧ C.size = k ∧ beBytes n k = beBytes m j ++ l ∧ (∀ x, x < l.length → C[j + x]? = some (.int .u8 (l.getD x 0).toNat))) (fun _ iv _ => (intOf iv + 1).toNat)
 case atStart => exact ⟨k, n, _, [], Nat.le_refl _, rfl, rfl, h0, h1, rfl, by simp [madeCells], by simp, by simp⟩
 case round =>
  obtain ⟨j, m, C, l, hj, rfl, rfl, hm0, hm1, rfl, hC, hl, hx⟩ := hrel
  cases j with
  | zero =>
   have hll : beBytes n k = l := by simpa [beBytes] using hl
   have hlen : l.length = k := by rw [← hll, beBytes_length]
   have hconv : (convert 80 9 (.slice (some ⟨w.heap.size, 0, none⟩) k k)).run Try.prog (w.alloc (.cells C 5)) = .ok (.string (bb l)) (w.alloc (.cells C 5)) := by
     have := run_convert_bytes_back (P := Try.prog) (w.alloc (.cells C 5)) 80 9 5 ⟨w.heap.size, 0, none⟩ k l Try.underlying80 Try.underlying5 Try.underlying9 (fun x hxl => by
      have hh := hx x hxl; rw [Nat.zero_add] at hh; have ha : (⟨w.heap.size, 0, none⟩ : Addr).add x = ⟨w.heap.size, x, none⟩ := by unfold Addr.add; split <;> simp_all
      rw [ha, cell_at (heap_alloc_new w (.cells C 5)) x, hh]
      simp [hxl])
     rw [hlen] at this; exact this
   have HL := Lib.hid hll; clear hl hx hlen hll hC; go_wp2; go_ret; exact ⟨ret_str HL.out.symm, (Keeps.refl _ _).alloc _⟩
  | succ j =>
   have HH := Lib.hid (And.intro hC (And.intro hl hx)); obtain ⟨v0, hv0⟩ : ∃ v, C[j]? = some v := ⟨C[j]'(by omega), Array.getElem?_eq_getElem (by omega)⟩; clear hl hx hC; obtain ⟨r, hr⟩ : ∃ r, m.tmod 256 = r := ⟨_, rfl⟩
   have hr1 : m % 256 = if r < 0 then r + 256 else r := by
     rw [← hr, Int.tmod_eq_emod]
     split <;> split <;> omega
   have hrb : -256 < r ∧ r < 256 := by
     constructor
     · rw [← hr]; exact Int.lt_tmod_of_pos _ (by omega)
     · rw [← hr]; exact Int.tmod_lt_of_pos _ (by omega)
   obtain ⟨hrb0, hrb1⟩ := hrb
   by_cases hneg : r < 0
   · rw [if_pos hneg] at hr1; have HR := Lib.hid hr1; clear hr1; go_wp2
     exact zq5
   · rw [if_neg hneg] at hr1; have HR := Lib.hid hr1; clear hr1; go_wp2
     exact zq5

def half (k : Nat) : Int := 128 * 256 ^ (k - 1)

theorem sInt_beBytes_succ (n : Int) (k : Nat) : sInt (beBytes n (k + 2)) = sInt (beBytes (n / 256) (k + 1)) * 256 + n % 256 := by
 have e : beBytes n (k + 2) = beBytes (n / 256) (k + 1) ++ [UInt8.ofNat (n % 256).toNat] := rfl; rw [e]
 cases h : beBytes (n / 256) (k + 1) with
 | nil => have := congrArg List.length h; rw [beBytes_length] at this; simp at this
 | cons c t =>
  rw [List.cons_append, sInt_snoc]; have h256 : (n % 256).toNat < 256 := by omega
  simp [Nat.mod_eq_of_lt h256]
  omega

theorem mod_mul_add (a b r : Int) (hb : 0 < b) (h0 : 0 ≤ r) (h1 : r < 256) : (256 * a + r) % (256 * b) = 256 * (a % b) + r := by
 have ha := Int.emod_add_mul_ediv a b; have h2 := Int.emod_nonneg a (Int.ne_of_gt hb); have h3 := Int.emod_lt_of_pos a hb
 have e : 256 * a + r = (256 * (a % b) + r) + (256 * b) * (a / b) := by
  rw [Int.mul_assoc]; omega
 rw [e, Int.add_mul_emod_self_left, Int.emod_eq_of_lt (by omega) (by omega)]

theorem half_pos (k : Nat) : 0 < half k := by unfold half; have : (0 : Int) < 256 ^ (k - 1) := Int.pow_pos (by decide); omega

theorem sInt_beBytes (n : Int) (k : Nat) : sInt (beBytes n (k + 1)) = (n + half (k + 1)) % (2 * half (k + 1)) - half (k + 1) := by
 induction k generalizing n with
 | zero =>
  have h256 : (n % 256).toNat < 256 := by omega
  have : sInt (beBytes n 1) = sByte (UInt8.ofNat (n % 256).toNat) := rfl; rw [this]; simp [sByte, half, Nat.mod_eq_of_lt h256]
  split <;> omega
 | succ k ih =>
  rw [sInt_beBytes_succ, ih]; have hp := half_pos (k + 1); have e : half (k + 2) = 256 * half (k + 1) := by unfold half; simp only [Nat.add_sub_cancel, show k + 2 - 1 = k + 1 by omega, Int.pow_succ]; omega
  rw [e]; have := mod_mul_add (n / 256 + half (k + 1)) (2 * half (k + 1)) (n % 256) (by omega) (by omega) (by omega); have e2 : n + 256 * half (k + 1) = 256 * (n / 256 + half (k + 1)) + n % 256 := by omega
  have e3 : 2 * (256 * half (k + 1)) = 256 * (2 * half (k + 1)) := by omega
  rw [e2, e3, this]
  omega

theorem sInt_beBytes_iff (n : Int) (k : Nat) (hk : 1 ≤ k) : sInt (beBytes n k) = n ↔ (-half k ≤ n ∧ n < half k) := by
 obtain ⟨k, rfl⟩ : ∃ j, k = j + 1 := ⟨k - 1, by omega⟩; rw [sInt_beBytes]; have hp := half_pos (k + 1)
 constructor
 · intro h; have h2 := Int.emod_nonneg (n + half (k + 1)) (b := 2 * half (k + 1)) (by omega); have h3 := Int.emod_lt_of_pos (n + half (k + 1)) (b := 2 * half (k + 1)) (by omega)
   omega
 · intro h; rw [Int.emod_eq_of_lt (by omega) (by omega)]
   omega

def fits (n size : Int) : Prop := 1 ≤ size ∧ size ≤ 8 ∧ -half size.toNat ≤ n ∧ n < half size.toNat
instance (n size : Int) : Decidable (fits n size) := by unfold fits; infer_instance

end Go.Proofs.Ytmpehoebgifmnaa
