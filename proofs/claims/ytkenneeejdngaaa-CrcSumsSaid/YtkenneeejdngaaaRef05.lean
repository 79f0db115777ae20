/- Contracts: a division, bit by bit. -/
import Derived.Test.YtkenneeejdngaaaRef05P
import Derived.Test.YtkenneeejdngaaaSep
namespace Go.Proofs.Ytkenneeejdngaaa
open Go.RowKit

set_option maxHeartbeats 1000000 in
set_option maxRecDepth 100000 in
theorem ref05_power (n : Nat) (hn : n < 32) {W0 w : World} {K : Know} {L : List Res} (h : St W0 w K L) :
    Calls Try.prog 57 #[.int .i64 n] w fun en w' => en = .returned (.int .i64 (bitN (pw n))) ∧ St W0 w' K L := by
  have H := Lib.hid h
  clear h
  go_enter Try.func57, Try.ntmps57
  go_wp2
  have hal := H.out.allocRaw pwC 3
  obtain ⟨bP, hbP⟩ : ∃ b, w.heap.size = b := ⟨_, rfl⟩
  rw [hbP] at hal
  clear H
  have H := Lib.hid hal
  clear hal
  go_loopw [2, 4] (fun s2 iv wr => ∃ k : Nat, k ≤ 17 ∧ s2 = .int .i64 0 ∧ iv = .int .i64 k ∧ (∀ j, j < k → pwL.getD j 0 ≠ n) ∧ St W0 wr K (.raw bP pwC 3 :: L)) (fun _ iv _ => 17 - (intOf iv).toNat)
  case atStart => exact ⟨0, by omega, rfl, rfl, (fun j h => absurd h (by omega)), H.out⟩
  case round =>
    obtain ⟨k, hk, rfl, rfl, hno, hst⟩ := hrel
    clear H
    have H := Lib.hid hst
    have HNO := Lib.hid hno
    clear hst hno
    by_cases hlt : k < 17
    · have c0 := H.out.rawCell k
      rw [pw_cell k hlt] at c0
      obtain ⟨m, hm⟩ : ∃ m, pwL.getD k 0 = m := ⟨_, rfl⟩
      rw [hm] at c0
      have hki : (k : Int) < 17 := by omega
      by_cases he : m = n
      · subst he
        have HY := Lib.hid (show pw m = true by rw [← hm]; exact pw_yes k hlt)
        clear hm
        go_wp2
        go_ret
        exact ⟨by rw [HY.out]; rfl, H.out.drop⟩
      · have he2 : ((m : Int) == (n : Int)) = false := by rw [beq_eq_false_iff_ne]; omega
        have HN2 := Lib.hid (show ∀ j, j < k + 1 → pwL.getD j 0 ≠ n by
          intro j hj
          by_cases hjk : j = k
          · subst hjk; rw [hm]; exact he
          · exact HNO.out j (by omega))
        clear hm
        go_wp2
        go_roundw
        case rel => exact ⟨k + 1, hlt, rfl, by go_num, HN2.out, H.out⟩
        case measure => first | (simp [intOf]; done) | (simp [intOf]; omega)
    · have hkl : k = 17 := by omega
      subst hkl
      go_wp2
      go_ret
      exact ⟨by rw [pw_no n HNO.out]; rfl, H.out.drop⟩
set_option maxHeartbeats 1000000 in
set_option maxRecDepth 100000 in
theorem ref05_bit (s : Bs) (i : Nat) (hi : i < 8 * s.length) (hs : s.length ≤ 300) {W0 w : World} {K : Know} {L : List Res} (h : St W0 w K L) :
    Calls Try.prog 56 #[.string (bb s), .int .i64 i] w fun en w' => en = .returned (.int .i64 (bitN ((bitsOf s).getD i false))) ∧ St W0 w' K L := by
  have H := Lib.hid h
  clear h
  obtain ⟨q, hq⟩ : ∃ q, i / 8 = q := ⟨_, rfl⟩
  obtain ⟨r, hr⟩ : ∃ r, i % 8 = r := ⟨_, rfl⟩
  have t1 : (i : Int).tdiv 8 = (q : Int) := by rw [← hq]; rfl
  have t2 : (i : Int).tmod 8 = (r : Int) := by rw [← hr]; rfl
  have hqs : q < s.length := by omega
  have hr8 : r < 8 := by omega
  have HB := Lib.hid (show (s[q].toNat / 2 ^ r) % 2 = bitN ((bitsOf s).getD i false) by have := bit_div s i hi (by omega); simp only [hq, hr] at this; exact this)
  clear hq hr
  go_enter Try.func56, Try.ntmps56
  go_wp2
  go_loopw [5, 6] (fun c iv wr => ∃ k : Nat, k ≤ r ∧ c = .int .i64 ((s[q].toNat / 2 ^ k : Nat) : Int) ∧ iv = .int .i64 k ∧ St W0 wr K L) (fun _ iv _ => r - (intOf iv).toNat)
  case atStart => exact ⟨0, Nat.zero_le _, by have h8 := s[q].toNat_lt; simp; unfold wrap64; omega, rfl, H.out⟩
  case round =>
    obtain ⟨k, hk, rfl, rfl, hst⟩ := hrel
    clear H
    have H := Lib.hid hst
    clear hst
    obtain ⟨c, hc⟩ : ∃ c, s[q].toNat / 2 ^ k = c := ⟨_, rfl⟩
    have hc8 : c < 256 := by
      have h1 : s[q].toNat / 2 ^ k ≤ s[q].toNat := Nat.div_le_self _ _
      have h2 := s[q].toNat_lt
      omega
    rw [hc]
    by_cases hlt : k < r
    · have hki : (k : Int) < (r : Int) := by omega
      have HC := Lib.hid (show s[q].toNat / 2 ^ (k + 1) = c / 2 by rw [Nat.pow_succ, ← Nat.div_div_eq_div_mul, hc])
      have t3 : (c : Int).tdiv 2 = ((c / 2 : Nat) : Int) := rfl
      clear hc
      go_wp2
      go_roundw
      case rel => exact ⟨k + 1, hlt, by rw [HC.out]; rfl, by go_num, H.out⟩
      case measure => first | (simp [intOf]; done) | (simp [intOf]; omega)
    · have hkl : k = r := by omega
      subst hkl
      rw [hc] at HB
      have t3 : (c : Int).tmod 2 = ((c % 2 : Nat) : Int) := rfl
      clear hc
      go_wp2
      go_ret
      exact ⟨by rw [← HB.out]; rfl, H.out⟩

end Go.Proofs.Ytkenneeejdngaaa
