/- A text. -/
import Derived.Test.YtnnnglklgofabaaGreatIn
namespace Go.Proofs.YtnnnglklgofabaaGreat
open Go.RowKit

theorem sInt_take_succ (s : Bs) (k : Nat) (h : k < s.length) :
  sInt (s.take (k + 1)) = sInt (s.take k) * 256 + (if k = 0 ∧ 128 ≤ s[k].toNat then (s[k].toNat : Int) - 256 else s[k].toNat) := by
 cases s with
 | nil => simp at h
 | cons c t =>
  cases k with
  | zero =>
   simp [sInt, sByte]
   split <;> split <;> omega
  | succ k =>
   have hk : k < t.length := by simpa using h
   rw [List.take_succ_cons, List.take_succ_cons, List.take_succ_eq_append_getElem hk, sInt_snoc]
   simp

theorem sInt_take_range (s : Bs) (h : s.length ≤ 8) (k : Nat) : -9223372036854775808 ≤ sInt (s.take k) ∧ sInt (s.take k) < 9223372036854775808 :=
 sInt_range _ (by rw [List.length_take]; omega)

theorem zq22 {p : Prop} (h : p := by
  go_round
  case rel =>
   refine ⟨0 + 1, hlt, by go_num, ?_⟩; rw [← HY.out, HS.out]; refine congrArg _ ?_; have := HS.out; simp only [wrap64]
   omega
  case measure => first | (simp [intOf]; done) | (simp [intOf]; omega)) : p := h
set_option maxHeartbeats 400000 in
set_option maxRecDepth 100000 in
theorem ref_int (s : Bs) (w : World) (hs : s.length ≤ 8) :
  Calls Tryz.prog 54 #[.string (bb s)] w fun en w' => en = .returned (.int .i64 (sInt s)) ∧ w = w' := by
 go_enter Tryz.func54, Tryz.ntmps54; go_wp2
 go_loop [3, 4] (fun n i => ∃ k : Nat, k ≤ s.length ∧ i = .int .i64 k ∧ n = .int .i64 (sInt (s.take k))) (fun _ i => s.length - (intOf i).toNat)
 case atStart => exact ⟨0, Nat.zero_le _, rfl, rfl⟩
 case round =>
  obtain ⟨k, hk, rfl, rfl⟩ := hrel
  by_cases hlt : k < s.length
  · have hstep := sInt_take_succ s k hlt; have hr := sInt_take_range s hs (k + 1); have hr0 := sInt_take_range s hs k; have hu := s[k].toNat_lt; obtain ⟨x, hx⟩ : ∃ x, x = sInt (s.take k) := ⟨_, rfl⟩; obtain ⟨y, hy⟩ : ∃ y, y = sInt (s.take (k + 1)) := ⟨_, rfl⟩; rw [← hx] at hstep hr0 ⊢; rw [← hy] at hstep hr; have HX := Lib.hid hx; have HY := Lib.hid hy; clear hx hy
    by_cases h0 : k = 0
    · subst h0
      by_cases h128 : 128 ≤ s[0].toNat
      · rw [if_pos ⟨rfl, h128⟩] at hstep; have HS := Lib.hid hstep; clear hstep; go_wp2
        exact zq22
      · rw [if_neg (fun h => h128 h.2)] at hstep; have HS := Lib.hid hstep; clear hstep; go_wp2
        exact zq22
    · rw [if_neg (fun h => h0 h.1)] at hstep; have HS := Lib.hid hstep; clear hstep; go_wp2
      go_round
      case rel =>
        refine ⟨k + 1, hlt, by go_num, ?_⟩; rw [← HY.out, HS.out]; refine congrArg _ ?_; have := HS.out; simp only [wrap64]
        omega
      case measure => first | (simp [intOf]; done) | (simp [intOf]; omega)
  · go_wp2; go_ret; rw [List.take_of_length_le (by omega)]; exact ⟨rfl, rfl⟩

def beBytes (n : Int) : Nat → Bs
  | 0 => []
  | k + 1 => beBytes (n / 256) k ++ [UInt8.ofNat (n % 256).toNat]

@[simp] theorem beBytes_length (n : Int) (k : Nat) : (beBytes n k).length = k := by
  induction k generalizing n with
  | zero => rfl
  | succ k ih => simp [beBytes, ih]

def half (k : Nat) : Int := 128 * 256 ^ (k - 1)

theorem sInt_beBytes_succ (n : Int) (k : Nat) : sInt (beBytes n (k + 2)) = sInt (beBytes (n / 256) (k + 1)) * 256 + n % 256 := by
 have e : beBytes n (k + 2) = beBytes (n / 256) (k + 1) ++ [UInt8.ofNat (n % 256).toNat] := rfl; rw [e]
 cases h : beBytes (n / 256) (k + 1) with
 | nil => have := congrArg List.length h; rw [beBytes_length] at this; simp at this
 | cons c t =>
  rw [List.cons_append, sInt_snoc]; have h256 : (n % 256).toNat < 256 := by omega
  simp [Nat.mod_eq_of_lt h256]
  omega

theorem mod_mul_add (a b r : Int) (hb : 0 < b) (h0 : 0 ≤ r) (h1 : r < 256) : (256 * a + r) % (256 * b) = 256 * (a % b) + r := by
 have ha := Int.emod_add_mul_ediv a b; have h2 := Int.emod_nonneg a (Int.ne_of_gt hb); have h3 := Int.emod_lt_of_pos a hb
 have e : 256 * a + r = (256 * (a % b) + r) + (256 * b) * (a / b) := by
  rw [Int.mul_assoc]; omega
 rw [e, Int.add_mul_emod_self_left, Int.emod_eq_of_lt (by omega) (by omega)]

theorem half_pos (k : Nat) : 0 < half k := by unfold half; have : (0 : Int) < 256 ^ (k - 1) := Int.pow_pos (by decide); omega

theorem sInt_beBytes (n : Int) (k : Nat) : sInt (beBytes n (k + 1)) = (n + half (k + 1)) % (2 * half (k + 1)) - half (k + 1) := by
 induction k generalizing n with
 | zero =>
  have h256 : (n % 256).toNat < 256 := by omega
  have : sInt (beBytes n 1) = sByte (UInt8.ofNat (n % 256).toNat) := rfl; rw [this]; simp [sByte, half, Nat.mod_eq_of_lt h256]
  split <;> omega
 | succ k ih =>
  rw [sInt_beBytes_succ, ih]; have hp := half_pos (k + 1); have e : half (k + 2) = 256 * half (k + 1) := by unfold half; simp only [Nat.add_sub_cancel, show k + 2 - 1 = k + 1 by omega, Int.pow_succ]; omega
  rw [e]; have := mod_mul_add (n / 256 + half (k + 1)) (2 * half (k + 1)) (n % 256) (by omega) (by omega) (by omega); have e2 : n + 256 * half (k + 1) = 256 * (n / 256 + half (k + 1)) + n % 256 := by omega
  have e3 : 2 * (256 * half (k + 1)) = 256 * (2 * half (k + 1)) := by omega
  rw [e2, e3, this]
  omega

theorem sInt_beBytes_iff (n : Int) (k : Nat) (hk : 1 ≤ k) : sInt (beBytes n k) = n ↔ (-half k ≤ n ∧ n < half k) := by
 obtain ⟨k, rfl⟩ : ∃ j, k = j + 1 := ⟨k - 1, by omega⟩; rw [sInt_beBytes]; have hp := half_pos (k + 1)
 constructor
 · intro h; have h2 := Int.emod_nonneg (n + half (k + 1)) (b := 2 * half (k + 1)) (by omega); have h3 := Int.emod_lt_of_pos (n + half (k + 1)) (b := 2 * half (k + 1)) (by omega)
   omega
 · intro h; rw [Int.emod_eq_of_lt (by omega) (by omega)]
   omega

def fits (n size : Int) : Prop := 1 ≤ size ∧ size ≤ 8 ∧ -half size.toNat ≤ n ∧ n < half size.toNat
instance (n size : Int) : Decidable (fits n size) := by unfold fits; infer_instance

end Go.Proofs.YtnnnglklgofabaaGreat
