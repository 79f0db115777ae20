/- A text. -/
import Derived.Test.YtnnnglklgofabaaGreatOut
namespace Go.Proofs.YtnnnglklgofabaaGreat
open Go.RowKit

def putU (u : Nat) : Bs := if u < 128 then [UInt8.ofNat u] else UInt8.ofNat (u % 128 + 128) :: putU (u / 128)
termination_by u
decreasing_by omega

theorem putU_small {u : Nat} (h : u < 128) : putU u = [UInt8.ofNat u] := by rw [putU, if_pos h]
theorem putU_big {u : Nat} (h : ¬ u < 128) : putU u = UInt8.ofNat (u % 128 + 128) :: putU (u / 128) := by rw [putU, if_neg h]

theorem putU_length_le (k : Nat) : ∀ u, u < 128 ^ (k + 1) → (putU u).length ≤ k + 1 := by
 induction k with
 | zero => intro u h; rw [putU_small (by omega)]; simp
 | succ k ih =>
  intro u h
  by_cases h1 : u < 128
  · rw [putU_small h1]; simp
  · rw [putU_big h1, List.length_cons]
    have : u / 128 < 128 ^ (k + 1) := by
     rw [Nat.pow_succ] at h; exact Nat.div_lt_of_lt_mul (by omega)
    have := ih _ this
    omega
theorem putU_len (u : Nat) (h : u < 18446744073709551616) : (putU u).length ≤ 10 :=
 putU_length_le 9 u (Nat.lt_trans h (by decide))

def foldN (n : Int) : Nat := if n < 0 then (-(n + 1) * 2 + 1).toNat else (n * 2).toNat
def backN (u : Nat) : Int := if u % 2 = 1 then -((u / 2 : Nat) : Int) - 1 else ((u / 2 : Nat) : Int)

theorem back_fold (n : Int) : backN (foldN n) = n := by
 unfold backN foldN
 split <;> split <;> omega
theorem fold_back (u : Nat) : foldN (backN u) = u := by
 unfold backN foldN
 split <;> split <;> omega
theorem foldN_lt {n : Int} (h0 : -9223372036854775808 ≤ n) (h1 : n < 9223372036854775808) : foldN n < 18446744073709551616 := by
 unfold foldN
 split <;> omega

theorem xor_ones (a : Nat) (h : a < 18446744073709551616) : a ^^^ 18446744073709551615 = 18446744073709551615 - a := by
 have h1 : (BitVec.ofNat 64 a ^^^ BitVec.allOnes 64).toNat = a ^^^ 18446744073709551615 := by
  rw [BitVec.toNat_xor, BitVec.toNat_ofNat, BitVec.toNat_allOnes, Nat.mod_eq_of_lt (by simpa using h)]
 have h2 : BitVec.ofNat 64 a ^^^ BitVec.allOnes 64 = ~~~ BitVec.ofNat 64 a := BitVec.xor_allOnes; rw [← h1, h2, BitVec.toNat_not, BitVec.toNat_ofNat, Nat.mod_eq_of_lt (by simpa using h)]

set_option maxHeartbeats 400000 in
set_option maxRecDepth 100000 in
theorem var_fold (n : Int) (w : World) (h0 : -9223372036854775808 ≤ n) (h1 : n < 9223372036854775808) :
   Calls Tryz.prog 183 #[.int .i64 n] w fun en w' => en = .returned (.int .u64 (foldN n)) ∧ w = w' := by
 have H := Lib.hid (And.intro h0 h1); clear h0 h1; go_enter Tryz.func183, Tryz.ntmps183; go_wp2; go_ret; refine ⟨ret_int ?_, rfl⟩; obtain ⟨h0, h1⟩ := H.out; rw [bits_xor_u64]; simp only [IntKind.wrap_u64]
 by_cases hn : n < 0
 · obtain ⟨a, ha⟩ : ∃ a : Nat, n % 18446744073709551616 * 2 % 18446744073709551616 = a := ⟨(n % 18446744073709551616 * 2 % 18446744073709551616).toNat, by omega⟩; have hb : n / 9223372036854775808 % 18446744073709551616 = 18446744073709551615 := by omega
   have ha2 : (a : Int) % 18446744073709551616 = a := by omega
   rw [ha, hb, ha2]; have : ((18446744073709551615 : Int) % 18446744073709551616).toNat = 18446744073709551615 := by decide
   rw [this, Int.toNat_natCast, xor_ones a (by omega)]; unfold foldN; rw [if_pos hn]
   omega
 · obtain ⟨a, ha⟩ : ∃ a : Nat, n % 18446744073709551616 * 2 % 18446744073709551616 = a := ⟨(n % 18446744073709551616 * 2 % 18446744073709551616).toNat, by omega⟩; have hb : n / 9223372036854775808 % 18446744073709551616 = 0 := by omega
   have ha2 : (a : Int) % 18446744073709551616 = a := by omega
   rw [ha, hb, ha2]; have : ((0 : Int) % 18446744073709551616).toNat = 0 := by decide
   rw [this, Int.toNat_natCast, Nat.xor_zero]; unfold foldN; rw [if_neg hn]
   omega

set_option maxHeartbeats 1000000 in
set_option maxRecDepth 100000 in
theorem var_put (b : Nat) (g : Option Nat) (o : OutS) (u : Nat) (w : World) (h : IsOut w b g o) (hroom : o.ok 16) (hu : u < 18446744073709551616) :
  Calls Tryz.prog 182 #[outPtr b, .int .u64 u] w fun en w' => en = .returned (.tuple #[]) ∧ ∃ g', IsOut w' b g' (o.put (putU u)) ∧ Keeps (OutM b g) w w' ∧ Newer w g g' := by
 have H := Lib.hid h; have HU := Lib.hid hu; have HR := Lib.hid hroom; have hlen := putU_len u hu; have HL := Lib.hid hlen; clear h hu hroom hlen; go_enter Tryz.func182, Tryz.ntmps182; go_wp2; go_loopw [1] (fun uv wr => ∃ (v : Nat) (s : Bs) (g' : Option Nat), uv = .int .u64 v ∧ v ≤ u ∧ s ++ putU v = putU u ∧ IsOut wr b g' (o.put s) ∧ Keeps (OutM b g) w wr ∧ Newer w g g') (fun uv _ => (intOf uv).toNat)
 case atStart => exact ⟨u, [], g, rfl, Nat.le_refl _, rfl, by rw [OutS.put_nil]; exact H.out, Keeps.refl _ _, Newer.refl _ _⟩
 case round =>
  obtain ⟨v, s, g', rfl, hv, hs, hin, hk, hn⟩ := hrel; have HS := Lib.hid hs; have HIN := Lib.hid hin; have HK := Lib.hid hk; have HN := Lib.hid hn; have HV := Lib.hid hv
  have hr2 : (o.put s).bytes.length + 1 ≤ 140737488355328 := by
    have h8 := HR.out; unfold OutS.ok at h8; have h9 := HL.out; rw [← hs, List.length_append] at h9; unfold OutS.put
    split
    · simp only [List.length_append]; omega
    · omega
  have HR2 := Lib.hid hr2; clear hs hin hk hn hr2 hv
  by_cases hlt : v < 128
  · obtain ⟨c, rfl⟩ : ∃ c : UInt8, v = c.toNat := ⟨UInt8.ofNat v, by simp; omega⟩; have hp := putU_small hlt; rw [UInt8.ofNat_toNat] at hp; have HP := Lib.hid hp; clear hp; go_wp2_with (go_at_call 67; refine (out_byte _ _ _ c _ HIN.out HR2.out).mono ?_; rintro e w2 ⟨rfl, g2, h2, k2, n2⟩; have H2 := Lib.hid h2; have K2 := Lib.hid k2; have N2 := Lib.hid n2; clear h2 k2 n2); go_end0; refine ⟨rfl, g2, ?_, HK.out.seq K2.out (OutM.newer HN.out), HN.out.trans N2.out HK.out.size⟩; rw [← HS.out, HP.out, ← OutS.put_put]; exact H2.out
  · have hp := putU_big hlt; obtain ⟨c, hc, hcc⟩ : ∃ c : UInt8, UInt8.ofNat (v % 128 + 128) = c ∧ ((v : Int) % 128 + 128 = (c.toNat : Int)) := ⟨_, rfl, by simp; omega⟩; rw [hc] at hp; have HP := Lib.hid hp
    have hq : IntKind.u64.wrap ((v : Int) / 128) = ((v / 128 : Nat) : Int) := by
     have := HV.out; have := HU.out; rw [IntKind.wrap_u64]; omega
    clear hp hc; go_wp2_with (go_at_call 67; refine (out_byte _ _ _ c _ HIN.out HR2.out).mono ?_; rintro e w2 ⟨rfl, g2, h2, k2, n2⟩; have H2 := Lib.hid h2; have K2 := Lib.hid k2; have N2 := Lib.hid n2; clear h2 k2 n2); go_roundw
    case rel =>
     refine ⟨v / 128, s ++ [c], g2, ?_, by have := HV.out; omega, ?_, ?_, HK.out.seq K2.out (OutM.newer HN.out), HN.out.trans N2.out HK.out.size⟩
     · rfl
     · have := HS.out; rw [HP.out] at this
       simpa using this
     · rw [← OutS.put_put]; exact H2.out
    case measure => first | (simp [intOf]; done) | (simp [intOf]; omega)

def OutS.putInt (o : OutS) (n : Int) : OutS := if fits n 4 then o.put (putU (foldN n)) else o.fail 11
def OutS.putLong (o : OutS) (n : Int) : OutS := o.put (putU (foldN n))

set_option maxHeartbeats 400000 in
set_option maxRecDepth 100000 in
theorem var_putLong (b : Nat) (g : Option Nat) (o : OutS) (n : Int) (w : World) (h : IsOut w b g o) (hroom : o.ok 16) (h0 : -9223372036854775808 ≤ n) (h1 : n < 9223372036854775808) :
  Calls Tryz.prog 175 #[outPtr b, .int .i64 n] w fun en w' => en = .returned (.tuple #[]) ∧ ∃ g', IsOut w' b g' (o.putLong n) ∧ Keeps (OutM b g) w w' ∧ Newer w g g' := by
 have H := Lib.hid h; have HR := Lib.hid hroom; have HN := Lib.hid (And.intro h0 h1); clear h hroom h0 h1; go_enter Tryz.func175, Tryz.ntmps175
 go_wp2_with (first
  | (go_at_call 183; refine (var_fold _ _ HN.out.1 HN.out.2).mono ?_; rintro e w1 ⟨rfl, rfl⟩)
  | (go_at_call 182; refine (var_put _ _ _ _ _ H.out HR.out (foldN_lt HN.out.1 HN.out.2)).mono ?_; rintro e w1 ⟨rfl, g2, h2, k2, n2⟩; have H2 := Lib.hid h2; have K2 := Lib.hid k2; have N2 := Lib.hid n2; clear h2 k2 n2))
 go_end0; exact ⟨rfl, g2, H2.out, K2.out, N2.out⟩

set_option maxHeartbeats 400000 in
set_option maxRecDepth 100000 in
theorem var_putInt (b : Nat) (g : Option Nat) (o : OutS) (n : Int) (w : World) (h : IsOut w b g o) (hroom : o.ok 16) (h0 : -9223372036854775808 ≤ n) (h1 : n < 9223372036854775808) :
   Calls Tryz.prog 176 #[outPtr b, .int .i64 n] w fun en w' => en = .returned (.tuple #[]) ∧ ∃ g', IsOut w' b g' (o.putInt n) ∧ Keeps (OutM b g) w w' ∧ Newer w g g' := by
 have H := Lib.hid h; have HR := Lib.hid hroom; have HN := Lib.hid (And.intro h0 h1); clear h hroom h0 h1
 by_cases hf : fits n 4
 · have e : o.putInt n = o.put (putU (foldN n)) := if_pos hf; rw [e]; have hd : decide (fits n 4) = true := decide_eq_true hf; clear e hf; go_enter Tryz.func176, Tryz.ntmps176
   go_wp2_with (first
    | (go_at_call 66; refine (out_fits _ _ _ HN.out.1 HN.out.2).mono ?_; rintro e w1 ⟨rfl, rfl⟩)
    | (go_at_call 183; refine (var_fold _ _ HN.out.1 HN.out.2).mono ?_; rintro e w1 ⟨rfl, rfl⟩)
    | (go_at_call 182; refine (var_put _ _ _ _ _ H.out HR.out (foldN_lt HN.out.1 HN.out.2)).mono ?_; rintro e w1 ⟨rfl, g2, h2, k2, n2⟩; have H2 := Lib.hid h2; have K2 := Lib.hid k2; have N2 := Lib.hid n2; clear h2 k2 n2))
   go_end0; exact ⟨rfl, g2, H2.out, K2.out, N2.out⟩
 · have e : o.putInt n = o.fail 11 := if_neg hf; rw [e]; have hd : decide (fits n 4) = false := decide_eq_false hf; clear e hf; go_enter Tryz.func176, Tryz.ntmps176
   go_wp2_with (first
    | (go_at_call 66; refine (out_fits _ _ _ HN.out.1 HN.out.2).mono ?_; rintro e w1 ⟨rfl, rfl⟩)
    | (go_at_call 30; refine (out_fail _ _ _ _ _ H.out).mono ?_; rintro e w1 ⟨rfl, h2, k2⟩; have H2 := Lib.hid h2; have K2 := Lib.hid k2; clear h2 k2))
   refine bodyPost_ret (results_none rfl _ _ _) rfl ?_; exact ⟨rfl, g, H2.out, K2.out, Newer.refl _ _⟩

end Go.Proofs.YtnnnglklgofabaaGreat
