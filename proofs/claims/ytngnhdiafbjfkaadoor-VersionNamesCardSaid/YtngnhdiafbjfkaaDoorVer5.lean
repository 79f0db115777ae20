/- Layer 16, walked: VersionNames. -/
import Derived.Test.YtngnhdiafbjfkaaDoorVer4
namespace Go.Proofs.YtngnhdiafbjfkaaDoor
open Go.RowKit

set_option maxHeartbeats 1000000 in
set_option maxRecDepth 100000 in
theorem versionNames_any (s : Bs) {W0 w : World} {K : Know} (hk : K.has Know.reqs) (h : St W0 w K []) :
    Calls Tryd.prog 4 #[.string (bb s)] w fun en w' => en = .returned (.bool true) ∧ Below W0.heap.size W0 w' := by
  obtain ⟨⟨q, ok⟩, hx⟩ : ∃ p, ofName s = p := ⟨_, rfl⟩
  have HX := Lib.hid hx
  have HK := Lib.hid hk
  have H := Lib.hid h
  clear h hk hx
  go_enter Tryd.func4, Tryd.ntmps4
  go_wp2_with (first
    | (go_at_call 7; (with_reducible refine (speaks16 HK.out H.out).mono ?_); rintro e wn ⟨rfl, h⟩; replace H := Lib.hid h; clear h)
    | (go_at_call 12; (with_reducible refine (ver_of s q ok HX.out HK.out H.out).mono ?_); rintro e wn ⟨rfl, h⟩; replace H := Lib.hid h; clear h))
  have hal := H.out.allocRaw kindC 3
  obtain ⟨bL, hbL⟩ : ∃ b, wn.heap.size = b := ⟨_, rfl⟩
  rw [hbL] at hal ⊢
  clear H
  have H := Lib.hid hal
  clear hal hbL
  go_loopw [5, 6, 8, 9, 10, 11, 21] (fun qv iv2 _ _ _ _ iv wr => ∃ (k : Nat) (wq : Int) (wi : Bool), k ≤ 5 ∧ iv = .int .i64 k ∧ qv = .int .i64 wq ∧ iv2 = .bool wi ∧ Hid (found s k = (wq, wi)) ∧ St W0 wr K [.raw bL kindC 3]) (fun _ _ _ _ _ _ iv _ => 5 - (intOf iv).toNat)
  case atStart => exact ⟨0, 0, false, by decide, rfl, rfl, rfl, Lib.hid rfl, H.out⟩
  case round =>
    obtain ⟨k, wq, wi, hk, rfl, rfl, rfl, HF, hst⟩ := hrel
    clear H
    have H := Lib.hid hst
    clear hst
    rcases (by omega : k = 0 ∨ k = 1 ∨ k = 2 ∨ k = 3 ∨ k = 4 ∨ k = 5) with rfl | rfl | rfl | rfl | rfl | rfl
    · have c0 := H.out.rawCell 0
      simp [kindC] at c0
      have HXK := Lib.hid (show reqOf 0 = (0, [112, 114, 111, 100, 117, 99, 101], 3, 4, true) by decide)
      by_cases hkd : s = [112, 114, 111, 100, 117, 99, 101]
      · have HF := Lib.hid (show found s (0 + 1) = (0, true) by unfold found; rw [if_pos (by rw [hkd]; rfl)]; rfl)
        have hkt : (([112, 114, 111, 100, 117, 99, 101] : Bs) == s) = true := by rw [hkd]; rfl
        clear hkd
        go_wp2_with (go_at_call 8; (with_reducible refine (law16_known 0 _ _ _ _ _ HXK.out H.out).mono ?_); rintro e wn ⟨rfl, h⟩; replace H := Lib.hid h; clear h)
        go_roundw
        case rel => exact ⟨1, 0, true, by decide, rfl, rfl, rfl, HF, H.out⟩
        case measure => first | (simp [intOf]; done) | (simp [intOf]; omega)
      · have HF2 := Lib.hid (show found s (0 + 1) = (wq, wi) by unfold found; exact (if_neg (fun h => hkd h)).trans HF.out)
        have hkf : (([112, 114, 111, 100, 117, 99, 101] : Bs) == s) = false := by
          rw [beq_eq_false_iff_ne]
          exact fun h => hkd h.symm
        clear hkd
        go_wp2_with (go_at_call 8; (with_reducible refine (law16_known 0 _ _ _ _ _ HXK.out H.out).mono ?_); rintro e wn ⟨rfl, h⟩; replace H := Lib.hid h; clear h)
        go_roundw
        case rel => exact ⟨1, wq, wi, by decide, rfl, rfl, rfl, HF2, H.out⟩
        case measure => first | (simp [intOf]; done) | (simp [intOf]; omega)
    · have c0 := H.out.rawCell 1
      simp [kindC] at c0
      have HXK := Lib.hid (show reqOf 22 = (22, [98, 101, 103, 105, 110], 0, 1, true) by decide)
      by_cases hkd : s = [98, 101, 103, 105, 110]
      · have HF := Lib.hid (show found s (1 + 1) = (22, true) by unfold found; rw [if_pos (by rw [hkd]; rfl)]; rfl)
        have hkt : (([98, 101, 103, 105, 110] : Bs) == s) = true := by rw [hkd]; rfl
        clear hkd
        go_wp2_with (go_at_call 8; (with_reducible refine (law16_known 22 _ _ _ _ _ HXK.out H.out).mono ?_); rintro e wn ⟨rfl, h⟩; replace H := Lib.hid h; clear h)
        go_roundw
        case rel => exact ⟨2, 22, true, by decide, rfl, rfl, rfl, HF, H.out⟩
        case measure => first | (simp [intOf]; done) | (simp [intOf]; omega)
      · have HF2 := Lib.hid (show found s (1 + 1) = (wq, wi) by unfold found; exact (if_neg (fun h => hkd h)).trans HF.out)
        have hkf : (([98, 101, 103, 105, 110] : Bs) == s) = false := by
          rw [beq_eq_false_iff_ne]
          exact fun h => hkd h.symm
        clear hkd
        go_wp2_with (go_at_call 8; (with_reducible refine (law16_known 22 _ _ _ _ _ HXK.out H.out).mono ?_); rintro e wn ⟨rfl, h⟩; replace H := Lib.hid h; clear h)
        go_roundw
        case rel => exact ⟨2, wq, wi, by decide, rfl, rfl, rfl, HF2, H.out⟩
        case measure => first | (simp [intOf]; done) | (simp [intOf]; omega)
    · have c0 := H.out.rawCell 2
      simp [kindC] at c0
      have HXK := Lib.hid (show reqOf 24 = (24, [97, 100, 100], 0, 0, true) by decide)
      by_cases hkd : s = [97, 100, 100]
      · have HF := Lib.hid (show found s (2 + 1) = (24, true) by unfold found; rw [if_pos (by rw [hkd]; rfl)]; rfl)
        have hkt : (([97, 100, 100] : Bs) == s) = true := by rw [hkd]; rfl
        clear hkd
        go_wp2_with (go_at_call 8; (with_reducible refine (law16_known 24 _ _ _ _ _ HXK.out H.out).mono ?_); rintro e wn ⟨rfl, h⟩; replace H := Lib.hid h; clear h)
        go_roundw
        case rel => exact ⟨3, 24, true, by decide, rfl, rfl, rfl, HF, H.out⟩
        case measure => first | (simp [intOf]; done) | (simp [intOf]; omega)
      · have HF2 := Lib.hid (show found s (2 + 1) = (wq, wi) by unfold found; exact (if_neg (fun h => hkd h)).trans HF.out)
        have hkf : (([97, 100, 100] : Bs) == s) = false := by
          rw [beq_eq_false_iff_ne]
          exact fun h => hkd h.symm
        clear hkd
        go_wp2_with (go_at_call 8; (with_reducible refine (law16_known 24 _ _ _ _ _ HXK.out H.out).mono ?_); rintro e wn ⟨rfl, h⟩; replace H := Lib.hid h; clear h)
        go_roundw
        case rel => exact ⟨3, wq, wi, by decide, rfl, rfl, rfl, HF2, H.out⟩
        case measure => first | (simp [intOf]; done) | (simp [intOf]; omega)
    · have c0 := H.out.rawCell 3
      simp [kindC] at c0
      have HXK := Lib.hid (show reqOf 26 = (26, [101, 110, 100], 0, 0, true) by decide)
      by_cases hkd : s = [101, 110, 100]
      · have HF := Lib.hid (show found s (3 + 1) = (26, true) by unfold found; rw [if_pos (by rw [hkd]; rfl)]; rfl)
        have hkt : (([101, 110, 100] : Bs) == s) = true := by rw [hkd]; rfl
        clear hkd
        go_wp2_with (go_at_call 8; (with_reducible refine (law16_known 26 _ _ _ _ _ HXK.out H.out).mono ?_); rintro e wn ⟨rfl, h⟩; replace H := Lib.hid h; clear h)
        go_roundw
        case rel => exact ⟨4, 26, true, by decide, rfl, rfl, rfl, HF, H.out⟩
        case measure => first | (simp [intOf]; done) | (simp [intOf]; omega)
      · have HF2 := Lib.hid (show found s (3 + 1) = (wq, wi) by unfold found; exact (if_neg (fun h => hkd h)).trans HF.out)
        have hkf : (([101, 110, 100] : Bs) == s) = false := by
          rw [beq_eq_false_iff_ne]
          exact fun h => hkd h.symm
        clear hkd
        go_wp2_with (go_at_call 8; (with_reducible refine (law16_known 26 _ _ _ _ _ HXK.out H.out).mono ?_); rintro e wn ⟨rfl, h⟩; replace H := Lib.hid h; clear h)
        go_roundw
        case rel => exact ⟨4, wq, wi, by decide, rfl, rfl, rfl, HF2, H.out⟩
        case measure => first | (simp [intOf]; done) | (simp [intOf]; omega)
    · have c0 := H.out.rawCell 4
      simp [kindC] at c0
      have HXK := Lib.hid (show reqOf 27 = (27, [109, 97, 114, 107], 0, 1, true) by decide)
      by_cases hkd : s = [109, 97, 114, 107]
      · have HF := Lib.hid (show found s (4 + 1) = (27, true) by unfold found; rw [if_pos (by rw [hkd]; rfl)]; rfl)
        have hkt : (([109, 97, 114, 107] : Bs) == s) = true := by rw [hkd]; rfl
        clear hkd
        go_wp2_with (go_at_call 8; (with_reducible refine (law16_known 27 _ _ _ _ _ HXK.out H.out).mono ?_); rintro e wn ⟨rfl, h⟩; replace H := Lib.hid h; clear h)
        go_roundw
        case rel => exact ⟨5, 27, true, by decide, rfl, rfl, rfl, HF, H.out⟩
        case measure => first | (simp [intOf]; done) | (simp [intOf]; omega)
      · have HF2 := Lib.hid (show found s (4 + 1) = (wq, wi) by unfold found; exact (if_neg (fun h => hkd h)).trans HF.out)
        have hkf : (([109, 97, 114, 107] : Bs) == s) = false := by
          rw [beq_eq_false_iff_ne]
          exact fun h => hkd h.symm
        clear hkd
        go_wp2_with (go_at_call 8; (with_reducible refine (law16_known 27 _ _ _ _ _ HXK.out H.out).mono ?_); rintro e wn ⟨rfl, h⟩; replace H := Lib.hid h; clear h)
        go_roundw
        case rel => exact ⟨5, wq, wi, by decide, rfl, rfl, rfl, HF2, H.out⟩
        case measure => first | (simp [intOf]; done) | (simp [intOf]; omega)
    · obtain ⟨e1, e2⟩ : q = wq ∧ ok = wi := by
        have := HF.out
        rw [found_all, HX.out] at this
        simp at this
        exact this
      subst e1 e2
      go_wp2
      go_ret
      exact ⟨rfl, H.out.below⟩

end Go.Proofs.YtngnhdiafbjfkaaDoor
