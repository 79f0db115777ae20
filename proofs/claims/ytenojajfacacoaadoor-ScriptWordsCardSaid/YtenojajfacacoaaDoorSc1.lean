/- Bytes in words. -/
import Derived.Test.YtenojajfacacoaaDoorSc1P
import Derived.Test.YtenojajfacacoaaDoorSb1
import Derived.Test.YtenojajfacacoaaDoorRegOp
import Derived.RegionTactic
import Derived.WalkMore
namespace Go.Proofs.YtenojajfacacoaaDoor
open Go.RowKit

set_option maxHeartbeats 4000000 in
set_option maxRecDepth 100000 in
theorem sc_hex (s : Bs) (hs : s.length ≤ 1000000) {W0 w : World} {K : Know} {L : List Res} (h : St W0 w K L) :
    Calls Tryd.prog 15 #[.string (bb s)] w fun en w' => en = .returned (.string (bb (hexW s))) ∧ St W0 w' K L := by
  by_cases h0 : s = []
  · subst h0
    have H := Lib.hid h
    clear h
    go_enter Tryd.func15, Tryd.ntmps15
    go_wp2
    go_ret
    exact ⟨rfl, H.out⟩
  have hw : hexW s = hexL s := by unfold hexW; rw [if_neg h0]
  rw [hw]
  have q3 : (s == []) = false := by rw [beq_eq_false_iff_ne]; exact h0
  have q4 : (s != []) = true := by simp [bne, q3]
  have hsl : (s.length : Int) ≤ 1000000 := by omega
  obtain ⟨b, hb⟩ : ∃ b, w.heap.size = b := ⟨_, rfl⟩
  have g1 := h.sbNew
  rw [hb] at g1
  have H := Lib.hid g1
  have HS := Lib.hid hs
  have H0 := Lib.hid h0
  clear h g1 hs h0 hw
  go_enter Tryd.func15, Tryd.ntmps15
  go_wp2_with fail
  go_loopw [9] (fun iv wr => ∃ k : Nat, k ≤ s.length ∧ iv = .int .i64 k ∧ St W0 wr K (.gen (sbG b (hexL (s.take k))) :: L)) (fun iv _ => s.length - (intOf iv).toNat)
  case atStart => exact ⟨0, Nat.zero_le _, rfl, H.out⟩
  case round =>
    obtain ⟨k, hk, rfl, hst⟩ := hrel
    clear H
    have H := Lib.hid hst
    clear hst
    by_cases hlt : k < s.length
    · have hlti : (k : Int) < (s.length : Int) := by omega
      obtain ⟨x, hx⟩ : ∃ x, s[k] = x := ⟨_, rfl⟩
      have q1 : 0 ≤ (((s[k]'hlt).toNat : Nat) : Int) / 16 ∧ (((s[k]'hlt).toNat : Nat) : Int) / 16 < 16 := by have := (s[k]'hlt).toNat_lt; omega
      have q2 : 0 ≤ (((s[k]'hlt).toNat : Nat) : Int) % 16 ∧ (((s[k]'hlt).toNat : Nat) : Int) % 16 < 16 := by omega
      have HLA := Lib.hid (show (hexL (s.take k)).length ≤ 1000000000000 by rw [hexL_len, List.length_take]; have := HS.out; omega)
      have HLB := Lib.hid (show (hexL (s.take k) ++ [hexD ((s[k]'hlt).toNat / 16)]).length ≤ 1000000000000 by rw [List.length_append, hexL_len, List.length_take]; have := HS.out; simp only [List.length_singleton]; omega)
      have HTK := Lib.hid (hexL_take s k hlt _ rfl)
      clear hx
      go_wp2_with (first
        | (go_at_call 35; (with_reducible refine (sb_byte b (hexL (s.take k)) _ HLA.out H.out).mono ?_); rintro e_ wn ⟨rfl, h⟩; rw [digA] at h; replace H := Lib.hid h; clear h)
        | (go_at_call 35; (with_reducible refine (sb_byte b (hexL (s.take k) ++ [hexD ((s[k]'hlt).toNat / 16)]) _ HLB.out H.out).mono ?_); rintro e_ wn ⟨rfl, h⟩; rw [digA] at h; have h : St W0 wn K (.gen (sbG b (hexL (s.take (k + 1)))) :: L) := (by rw [← HTK.out]; exact h); replace H := Lib.hid h; clear h))
      go_roundw
      case rel => exact ⟨k + 1, hlt, by go_num, H.out⟩
      case measure => first | (simp [intOf]; done) | (simp [intOf]; omega)
    · obtain rfl : k = s.length := by omega
      have HZ := Lib.hid (show hexL s ≠ [] from fun e => H0.out (List.eq_nil_of_length_eq_zero (by have := congrArg List.length e; rw [hexL_len] at this; simp only [List.length_nil] at this; omega)))
      have H2 := Lib.hid (show St W0 wr K (.gen (sbG b (hexL s)) :: L) by have h9 := H.out; rw [List.take_length] at h9; exact h9)
      clear H
      have H := H2
      clear H2
      go_wp2_with (go_at_call 24; (with_reducible refine (sb_text b (hexL s) HZ.out H.out).mono ?_); rintro e_ wn ⟨rfl, h⟩; replace H := Lib.hid h; clear h)
      go_ret
      exact ⟨rfl, H.out⟩

end Go.Proofs.YtenojajfacacoaaDoor
