/- A text. -/
import Derived.Test.YtngojlinfdokpaaGreatRef03
namespace Go.Proofs.YtngojlinfdokpaaGreat
open Go.RowKit

set_option maxHeartbeats 1000000 in
set_option maxRecDepth 100000 in
theorem ref_back (u : Nat) (hu : u < 18446744073709551616) {W0 w : World} {K : Know} {L : List Res} (h : St W0 w K L) :
   Calls Tryz.prog 92 #[.int .u64 u] w fun en w' => en = .returned (.int .i64 (backN u)) ∧ St W0 w' K L := by
 have H := Lib.hid h
 have HU := Lib.hid hu
 clear h hu
 by_cases h0 : u % 2 = 1
 · have h1 : (((u : Int) % 2) == 1) = true := by simp; omega
   go_enter Tryz.func92, Tryz.ntmps92
   go_wp2
   go_ret
   refine ⟨ret_int ?_, H.out⟩
   have := HU.out
   simp only [backN, if_pos h0, IntKind.wrap_u64, wrap64]
   omega
 · have h1 : (((u : Int) % 2) == 1) = false := by simp; omega
   go_enter Tryz.func92, Tryz.ntmps92
   go_wp2
   go_ret
   refine ⟨ret_int ?_, H.out⟩
   have := HU.out
   simp only [backN, if_neg h0, IntKind.wrap_u64, wrap64]
   omega

def pow128 (i : Nat) : Nat := 128 ^ i % 18446744073709551616
theorem pow128_succ (i : Nat) : IntKind.u64.wrap ((pow128 i : Int) * 128) = (pow128 (i + 1) : Int) := by
 unfold pow128
 rw [IntKind.wrap_u64, Nat.pow_succ]
 omega
theorem pow128_small (i : Nat) (h : i ≤ 9) : pow128 i = 128 ^ i := by
 unfold pow128
 have : (128 : Nat) ^ i ≤ 128 ^ 9 := Nat.pow_le_pow_right (by decide) h
 exact Nat.mod_eq_of_lt (Nat.lt_of_le_of_lt this (by decide))
theorem add_digit (n d i : Nat) (hn : n < 128 ^ i) (hi : i ≤ 9) (hd : d < 128) (h9 : i = 9 → d ≤ 1) :
  IntKind.u64.wrap ((n : Int) + IntKind.u64.wrap ((d : Int) * (pow128 i : Int))) = ((n + d * 128 ^ i : Nat) : Int) := by
 rw [pow128_small i hi]
 have hle : (128 : Nat) ^ i ≤ 128 ^ 9 := Nat.pow_le_pow_right (by decide) hi
 have p9 : (128 : Nat) ^ 9 = 9223372036854775808 := by decide
 have p8 : (128 : Nat) ^ 8 = 72057594037927936 := by decide
 have hb : d * 128 ^ i + 128 ^ i ≤ 18446744073709551616 := by
  by_cases h : i = 9
  · subst h
    have := h9 rfl
    have : d * 128 ^ 9 ≤ 1 * 128 ^ 9 := Nat.mul_le_mul_right _ this
    exact Nat.le_trans (Nat.add_le_add_right this _) (by decide)
  · have h8 : (128 : Nat) ^ i ≤ 128 ^ 8 := Nat.pow_le_pow_right (by decide) (by omega)
    have : (d + 1) * 128 ^ i ≤ 128 * 128 ^ 8 := Nat.mul_le_mul (by omega) h8
    rw [Nat.add_mul, Nat.one_mul, p8] at this
    omega
 have e : (d : Int) * ((128 ^ i : Nat) : Int) = ((d * 128 ^ i : Nat) : Int) := by push_cast; rfl
 rw [e]
 generalize d * 128 ^ i = m at *
 generalize 128 ^ i = p at *
 rw [IntKind.wrap_u64, IntKind.wrap_u64]
 omega

def getV (r : Except Int (Nat × Nat)) : Value := .tuple #[.int .u64 (vN r), .int .i64 (vK r), .int .i64 (vE r)]

theorem getV_last {x : Int} {m i : Nat} (h : x = m) : Ending.returned (.tuple #[.int .u64 x, .int .i64 ((i : Int) + 1), .int .i64 0]) = Ending.returned (getV (.ok (m, i + 1))) := by
 subst h
 simp [getV, vN, vK, vE]
theorem s_drop (s : Bs) (i : Nat) (h : i < s.length) : s.drop i = s[i] :: s.drop (i + 1) := List.drop_eq_getElem_cons h
theorem ones_succ (k : Nat) (h : k < 7) : IntKind.u64.wrap (IntKind.u64.wrap ((((2 ^ k - 1 : Nat) : Int)) * 2) + 1) = ((2 ^ (k + 1) - 1 : Nat) : Int) := by
 have : k = 0 ∨ k = 1 ∨ k = 2 ∨ k = 3 ∨ k = 4 ∨ k = 5 ∨ k = 6 := by omega
 rcases this with rfl | rfl | rfl | rfl | rfl | rfl | rfl <;> decide +kernel

set_option maxHeartbeats 4000000 in
set_option maxRecDepth 100000 in
theorem ref_get (s : Bs) (bits most top b0 : Nat) (hl : s.length ≤ 140737488355328) (hb : bits = 7 * (most - 1) + b0) (hm : 1 ≤ most ∧ most ≤ 10) (ht : top + 1 = 2 ^ b0) (h0 : 1 ≤ b0 ∧ b0 ≤ 7) (h10 : most = 10 → b0 = 1) {W0 w : World} {K : Know} {L : List Res} (h : St W0 w K L) :
   Calls Tryz.prog 90 #[.string (bb s), .int .i64 bits] w fun en w' => en = .returned (getV (vgetF top most 0 0 s)) ∧ St W0 w' K L := by
 have H := Lib.hid h
 clear h
 have HB := Lib.hid (And.intro hb (And.intro hm (And.intro ht (And.intro h0 h10))))
 have hbits : bits ≤ 70 := by omega
 clear hb hm ht h0 h10
 go_enter Tryz.func90, Tryz.ntmps90
 go_wp2
 go_loop [7, 8, 9, 10] (fun nv ov uv iv => ∃ (i n f : Nat), i ≤ s.length ∧ iv = .int .i64 i ∧ uv = .int .i64 ((7 * i : Nat) : Int) ∧ nv = .int .u64 n ∧ ov = .int .u64 (pow128 i) ∧ n < 128 ^ i ∧ f + i = most ∧ vgetF top f i n (s.drop i) = vgetF top most 0 0 s) (fun _ _ _ iv => s.length - (intOf iv).toNat)
 case atStart => exact ⟨0, 0, most, Nat.zero_le _, rfl, rfl, rfl, rfl, by decide, rfl, rfl⟩
 case round =>
   obtain ⟨i, n, f, hi, rfl, rfl, rfl, rfl, hn, hf, hv⟩ := hrel
   have HV := Lib.hid hv
   have HN := Lib.hid hn
   have HF := Lib.hid hf
   have hi10 : i ≤ 10 := by have := HB.out.2.1; omega
   clear hv hn hf
   by_cases hlt : i < s.length
   · have hd := s_drop s i hlt
     have hc := s[i].toNat_lt
     have HD := Lib.hid hd
     have HP := Lib.hid (pow128_succ i)
     clear hd
     obtain ⟨room, hroom⟩ : ∃ room : Int, room = (bits : Int) - (7 * i : Nat) := ⟨_, rfl⟩
     match f, HF with
     | 0, HF =>
       have hr1 : (bits : Int) - 7 * (i : Int) < 1 := by obtain ⟨a, b, c, d, e⟩ := HB.out; have := HF.out; omega
       go_wp2
       go_loop [13, 14] (fun mv kv => ∃ k : Nat, k ≤ 0 ∧ kv = .int .i64 k) (fun _ kv => 0 - (intOf kv).toNat)
       case atStart => exact ⟨0, by decide, rfl⟩
       case round =>
         obtain ⟨k, hk, rfl⟩ := hrel
         have hk : k = 0 := by omega
         subst hk
         go_wp2
         go_ret3
         rw [← HV.out, HD.out, vg_bad0]
         exact ⟨rfl, H.out⟩
     | 1, HF =>
       obtain ⟨ro, hro, hr7, hr1, hrt⟩ : ∃ ro : Nat, (bits : Int) - 7 * (i : Int) = ro ∧ ro ≤ 7 ∧ 1 ≤ ro ∧ 2 ^ ro = top + 1 := by obtain ⟨a, b, c, d, e⟩ := HB.out; have := HF.out; exact ⟨b0, by omega, by omega, by omega, c.symm⟩
       have HRT := Lib.hid hrt
       clear hrt
       go_wp2
       go_loop [13, 14] (fun mv kv => ∃ k : Nat, k ≤ ro ∧ kv = .int .i64 k ∧ mv = .int .u64 ((2 ^ k - 1 : Nat) : Int)) (fun _ kv => ro - (intOf kv).toNat)
       case atStart => exact ⟨0, Nat.zero_le _, rfl, rfl⟩
       case round =>
         obtain ⟨k, hk, rfl, rfl⟩ := hrel
         by_cases hk7 : k < ro
         · have HO := ones_succ k (by omega)
           go_wp2
           go_round
           case rel => exact ⟨k + 1, by omega, by go_num, rfl⟩
           case measure => first | (simp [intOf]; done) | (simp [intOf]; omega)
         · have hk : k = ro := by omega
           subst hk
           rw [HRT.out, Nat.add_sub_cancel]
           have hcc : (((s[i].toNat % 128 : Nat) : Int)) = (s[i].toNat : Int) % 128 := by omega
           have HAA := Lib.hid (fun (hd : i = 9 → s[i].toNat % 128 ≤ 1) => add_digit n (s[i].toNat % 128) i HN.out (by have := HF.out; have := HB.out.2.1; omega) (by omega) hd)
           rw [hcc] at HAA
           have T9 := Lib.hid (show i = 9 → top ≤ 1 by intro h9; obtain ⟨a, b, c, d, e⟩ := HB.out; have := HF.out; have := e (by omega); subst this; simp at c; omega)
           clear hcc
           go_wp2
           all_goals first
             | (go_ret3; rw [← HV.out, HD.out, vg_bad (by omega)]; exact ⟨rfl, H.out⟩)
             | (refine ⟨⟨i + 1, n + s[i].toNat % 128 * 128 ^ i, 0, hlt, by go_num, ?_, ?_, ?_, digit_lt HN.out (by omega), by have := HF.out; omega, ?_⟩, ?_⟩
                · exact congrArg _ (by omega)
                · exact congrArg _ (HAA.out (fun h9 => by have := T9.out h9; omega))
                · first | exact congrArg _ HP.out | rfl
                · rw [← HV.out, HD.out, vg_more (by omega) (by omega)]
                · first | (simp [intOf]; done) | (simp [intOf]; omega))
             | (go_ret3; rw [← HV.out, HD.out, vg_last (by omega) (by omega)]; have hA := HAA.out (fun h9 => by have := T9.out h9; omega); first | exact ⟨getV_last hA, H.out⟩ | (have h00 : s[i].toNat = 0 := (by assumption); have hA2 : IntKind.u64.wrap (↑n + IntKind.u64.wrap 0) = ((n + s[i].toNat % 128 * 128 ^ i : Nat) : Int) := (by simpa [h00] using hA); exact ⟨getV_last hA2, H.out⟩))
     | f + 2, HF =>
       have hr1 : (7 : Int) < (bits : Int) - 7 * (i : Int) := by obtain ⟨a, b, c, d, e⟩ := HB.out; have := HF.out; omega
       go_wp2
       go_loop [13, 14] (fun mv kv => ∃ k : Nat, k ≤ 7 ∧ kv = .int .i64 k ∧ mv = .int .u64 ((2 ^ k - 1 : Nat) : Int)) (fun _ kv => 7 - (intOf kv).toNat)
       case atStart => exact ⟨0, by decide, rfl, rfl⟩
       case round =>
         obtain ⟨k, hk, rfl, rfl⟩ := hrel
         by_cases hk7 : k < 7
         · have HO := ones_succ k hk7
           go_wp2
           go_round
           case rel => exact ⟨k + 1, by omega, by go_num, rfl⟩
           case measure => first | (simp [intOf]; done) | (simp [intOf]; omega)
         · have hk : k = 7 := by omega
           subst hk
           have hcc : (((s[i].toNat % 128 : Nat) : Int)) = (s[i].toNat : Int) % 128 := by omega
           have HAA := Lib.hid (fun (hd : i = 9 → s[i].toNat % 128 ≤ 1) => add_digit n (s[i].toNat % 128) i HN.out (by have := HF.out; have := HB.out.2.1; omega) (by omega) hd)
           rw [hcc] at HAA
           have T9 := Lib.hid (show i = 9 → False by intro h9; obtain ⟨a, b, c, d, e⟩ := HB.out; have := HF.out; omega)
           clear hcc
           go_wp2
           all_goals first
             | (go_ret3; rw [← HV.out, HD.out, vg_bad (by omega)]; exact ⟨rfl, H.out⟩)
             | (refine ⟨⟨i + 1, n + s[i].toNat % 128 * 128 ^ i, f + 1, hlt, by go_num, ?_, ?_, ?_, digit_lt HN.out (by omega), by have := HF.out; omega, ?_⟩, ?_⟩
                · exact congrArg _ (by omega)
                · exact congrArg _ (HAA.out (fun h9 => by have := T9.out h9; omega))
                · first | exact congrArg _ HP.out | rfl
                · rw [← HV.out, HD.out, vg_more (by omega) (by omega)]
                · first | (simp [intOf]; done) | (simp [intOf]; omega))
             | (go_ret3; rw [← HV.out, HD.out, vg_last (by omega) (by omega)]; have hA := HAA.out (fun h9 => by have := T9.out h9; omega); first | exact ⟨getV_last hA, H.out⟩ | (have h00 : s[i].toNat = 0 := (by assumption); have hA2 : IntKind.u64.wrap (↑n + IntKind.u64.wrap 0) = ((n + s[i].toNat % 128 * 128 ^ i : Nat) : Int) := (by simpa [h00] using hA); exact ⟨getV_last hA2, H.out⟩))
   · go_wp2
     go_ret3
     have : s.drop i = [] := List.drop_of_length_le (by omega)
     have h1 := HV.out
     rw [this, vg_none] at h1
     rw [← h1]
     exact ⟨rfl, H.out⟩

end Go.Proofs.YtngojlinfdokpaaGreat
