/- Layer 2: the walks of its statements. -/
import Derived.Test.YtbcfnfcmghbelaaOut
import Derived.Test.YtbcfnfcmghbelaaArgs
namespace Go.Proofs.Ytbcfnfcmghbelaa
open Go.RowKit

theorem out_zero (w : World) : IsOut (w.alloc (.cells #[.slice none 0 0, .int .i64 0] 45)) w.heap.size none ⟨[], 0⟩ :=
  ⟨_, heap_alloc_new w _, World.ownsRow_nil _ _ _ _, rfl, by simp⟩

set_option maxHeartbeats 400000 in
set_option maxRecDepth 100000 in
theorem speaks02 (w : World) :
    Calls Try.prog 28 #[] w fun en w' => en = .returned (.bool true) ∧ Keeps (fun _ => False) w w' := by
  have e1 : (⟨[], 0⟩ : OutS).int (-2) 2 = ⟨[255, 254], 0⟩ := by decide +kernel
  have e2 : (⟨[255, 254], 0⟩ : OutS).text = ([255, 254], 0) := by decide +kernel
  have e3 : decide (fits 127 1) = true := by decide +kernel
  have e4 : decide (fits 128 1) = false := by decide +kernel
  have E1 := Lib.hid e1
  have E2 := Lib.hid e2
  have E3 := Lib.hid e3
  have E4 := Lib.hid e4
  have Z := Lib.hid (out_zero w)
  clear e1 e2 e3 e4
  go_enter Try.func28, Try.ntmps28
  go_wp2_with (first
    | (go_at_call 31; refine (out_int _ _ _ _ _ _ Z.out (by simp [OutS.ok]) (by decide) (by decide)).mono ?_; rw [E1.out]; rintro e w1 ⟨rfl, g1, h1, k1, n1⟩; have H1 := Lib.hid h1; have K1 := Lib.hid k1; clear h1 k1 n1)
    | (go_at_call 35; refine (out_text _ _ _ _ H1.out).mono ?_; rw [E2.out]; rintro e w2 ⟨rfl, n2, rfl⟩)
    | (go_at_call 36; refine (out_fits _ _ _ (by decide) (by decide)).mono ?_; (first | rw [E3.out] | rw [E4.out]); rintro e w3 ⟨rfl, rfl⟩))
  go_ret
  exact ⟨rfl, (((Keeps.refl _ _).alloc _).seq K1.out (fun k hk e => by rcases e with rfl | e; omega; simp at e)).drewN _⟩

set_option maxHeartbeats 1000000 in
set_option maxRecDepth 100000 in
theorem outputFits_any (n size : Int) (w : World) (h0 : -9223372036854775808 ≤ n) (h1 : n < 9223372036854775808) :
    Calls Try.prog 6 #[.int .i64 n, .int .i64 size] w fun en w' => en = .returned (.bool true) ∧ Below w.heap.size w w' := by
  have H01 := Lib.hid (And.intro h0 h1)
  clear h0 h1
  by_cases hf : fits n size
  · have hd : decide (fits n size) = true := decide_eq_true hf
    have hf' := hf
    obtain ⟨k, rfl⟩ : ∃ k : Nat, size = k := ⟨size.toNat, by have := hf.1; omega⟩
    have hk1 : 1 ≤ k := by have := hf.1; omega
    have hk8 : k ≤ 8 := by have := hf.2.1; omega
    have e1 : (⟨[], 0⟩ : OutS).int n k = ⟨beBytes n k, 0⟩ := by
      unfold OutS.int; rw [if_pos hf]; simp [OutS.put]
    have e2 : (⟨beBytes n k, 0⟩ : OutS).text = (beBytes n k, 0) := rfl
    have e3 : (⟨beBytes n k, 0, 0⟩ : InS).int k = (n, ⟨beBytes n k, k, 0⟩) := by
      unfold InS.int
      rw [if_neg (by omega), InS.take_ok (n := (k : Int)) rfl (by omega) (by simp [InS.left, beBytes_length])]
      have := (sInt_beBytes_iff n k hk1).2 hf'.2.2
      simp [List.take_of_length_le, beBytes_length, this]
    have e4 : (⟨beBytes n k, k, 0⟩ : InS).close = ⟨beBytes n k, k, 0⟩ := if_neg (by simp [InS.left, beBytes_length])
    have hlen : (beBytes n k).length = k := beBytes_length n k
    have E1 := Lib.hid e1
    have E2 := Lib.hid e2
    have E3 := Lib.hid e3
    have E4 := Lib.hid e4
    have Z := Lib.hid (out_zero)
    have HB := Lib.hid (show (beBytes n k).length ≤ 140737488355328 by omega)
    clear e1 e2 e3 e4 hf hf'
    go_enter Try.func6, Try.ntmps6
    go_wp2_with (first
      | (go_at_call 28; refine (speaks02 _).mono ?_; rintro e w1 ⟨rfl, k1⟩; have K1 := Lib.hid k1; clear k1)
      | (go_at_call 25; refine (ref_fits _ _ _ H01.out.1 H01.out.2).mono ?_; rintro e w2 ⟨rfl, k2⟩; have K2 := Lib.hid k2; clear k2)
      | (go_at_call 36; refine (out_fits _ _ _ H01.out.1 H01.out.2).mono ?_; rintro e w3 ⟨rfl, rfl⟩)
      | (go_at_call 31; refine (out_int _ _ _ _ _ _ (Z.out _) (by simp [OutS.ok]) H01.out.1 H01.out.2).mono ?_; rw [E1.out]; rintro e w4 ⟨rfl, g4, h4, k4, n4⟩; have H4 := Lib.hid h4; have K4 := Lib.hid k4; clear h4 k4 n4)
      | (go_at_call 35; refine (out_text _ _ _ _ H4.out).mono ?_; rw [E2.out]; rintro e w5 ⟨rfl, n5, rfl⟩)
      | (go_at_call 15; refine (in_new _ _ HB.out).mono ?_; rintro e w6 ⟨rfl, h6, k6⟩; have H6 := Lib.hid h6; have K6 := Lib.hid k6; clear h6 k6)
      | (go_at_call 18; refine (in_int _ _ _ _ H6.out).mono ?_; rw [E3.out]; rintro e w7 ⟨rfl, h7, k7⟩; have H7 := Lib.hid h7; have K7 := Lib.hid k7; clear h7 k7)
      | (go_at_call 24; refine (in_close _ _ _ H7.out).mono ?_; rw [E4.out]; rintro e w8 ⟨rfl, h8, k8⟩; have H8 := Lib.hid h8; have K8 := Lib.hid k8; clear h8 k8))
    go_ret
    have s1 := K1.out.size
    have s2 := K2.out.size
    have s4 := K4.out.size
    simp only [World.size_alloc] at s4
    exact ⟨rfl, ((((((((below0 w).k K1.out none_M).k K2.out none_M).a _).k K4.out (out_M0 (by omega))).drewN' _).k K6.out none_M).k K7.out (one_M (by show _ ≤ w4.heap.size; omega))).k K8.out (one_M (by show _ ≤ w4.heap.size; omega))⟩
  · have hd : decide (fits n size) = false := decide_eq_false hf
    clear hf
    go_enter Try.func6, Try.ntmps6
    go_wp2_with (first
      | (go_at_call 28; refine (speaks02 _).mono ?_; rintro e w1 ⟨rfl, k1⟩; have K1 := Lib.hid k1; clear k1)
      | (go_at_call 25; refine (ref_fits _ _ _ H01.out.1 H01.out.2).mono ?_; rintro e w2 ⟨rfl, k2⟩; have K2 := Lib.hid k2; clear k2)
      | (go_at_call 36; refine (out_fits _ _ _ H01.out.1 H01.out.2).mono ?_; rintro e w3 ⟨rfl, rfl⟩))
    go_ret
    exact ⟨rfl, (K1.out.trans K2.out).below (Nat.le_refl _) (by simp)⟩

end Go.Proofs.Ytbcfnfcmghbelaa
