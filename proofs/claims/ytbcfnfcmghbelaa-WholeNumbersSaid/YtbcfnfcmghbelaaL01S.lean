/- Layer 1: that it speaks. -/
import Derived.Test.YtbcfnfcmghbelaaRef01
import Derived.Test.YtbcfnfcmghbelaaArgs
namespace Go.Proofs.Ytbcfnfcmghbelaa
open Go.RowKit

set_option maxHeartbeats 400000 in
set_option maxRecDepth 100000 in
theorem speaks01 (w : World) :
    Calls Try.prog 14 #[] w fun en w' => en = .returned (.bool true) ∧ Keeps (fun _ => False) w w' := by
  have e1 : (⟨[255, 254], 0, 0⟩ : InS).int 2 = (-2, ⟨[255, 254], 2, 0⟩) := by decide
  have e2 : (⟨[255, 254], 2, 0⟩ : InS).left = 0 := by decide
  have e3 : (⟨[255, 254], 2, 0⟩ : InS).close = ⟨[255, 254], 2, 0⟩ := by rfl
  have e4 : (⟨[255, 254], 2, 0⟩ : InS).int 1 = (0, ⟨[255, 254], 2, 1⟩) := by rfl
  have E1 := Lib.hid e1
  have E2 := Lib.hid e2
  have E3 := Lib.hid e3
  have E4 := Lib.hid e4
  clear e1 e2 e3 e4
  go_enter Try.func14, Try.ntmps14
  go_wp2_with (first
    | (go_at_call 15; refine (in_new [255, 254] _ (by decide)).mono ?_; rintro e w1 ⟨rfl, h1, k1⟩; have H1 := Lib.hid h1; have K1 := Lib.hid k1; clear h1 k1)
    | (go_at_call 18; refine (in_int _ _ _ _ H1.out).mono ?_; rw [E1.out]; rintro e w2 ⟨rfl, h2, k2⟩; have H2 := Lib.hid h2; have K2 := Lib.hid k2; clear h2 k2)
    | (go_at_call 21; refine (in_left _ _ _ H2.out).mono ?_; rw [E2.out]; rintro e w3 ⟨rfl, n3, rfl⟩)
    | (go_at_call 24; refine (in_close _ _ _ (H2.out.drewN _)).mono ?_; rw [E3.out]; rintro e w4 ⟨rfl, h4, k4⟩; have H4 := Lib.hid h4; have K4 := Lib.hid k4; clear h4 k4)
    | (go_at_call 18; refine (in_int _ _ _ _ H4.out).mono ?_; rw [E4.out]; rintro e w5 ⟨rfl, h5, k5⟩; have H5 := Lib.hid h5; have K5 := Lib.hid k5; clear h5 k5)
    | (go_at_call 23; refine (in_err _ _ _ H5.out).mono ?_; rintro e w6 ⟨rfl, rfl⟩))
  go_ret
  exact ⟨rfl, K1.out.seq (((K2.out.drewN n3).trans K4.out).trans K5.out) (fun k hk e => absurd e (by omega))⟩

end Go.Proofs.Ytbcfnfcmghbelaa
