/- Bytes in words, there and back. -/
import Derived.Test.YtenojajfacacoaaDoorSc12
import Derived.Test.YtenojajfacacoaaDoorSc1
import Derived.Test.YtenojajfacacoaaDoorSc2
import Derived.Test.YtenojajfacacoaaDoorSc3
namespace Go.Proofs.YtenojajfacacoaaDoor
open Go.RowKit

set_option maxHeartbeats 4000000 in
set_option maxRecDepth 100000 in
theorem sw_long (s : Bs) (hl : 2000 < s.length) {W0 w : World} {K : Know} (hlib : K.has Know.lib) (h : St W0 w K []) :
    Calls Tryd.prog 5 #[.string (bb s)] w fun en w' => en = .returned (.bool true) ∧ Below W0.heap.size W0 w' := by
  have H := Lib.hid h
  have HLIB := Lib.hid hlib
  have hl1 : 2000 < (s.length : Int) := by omega
  have hl2 : decide (2000 < (s.length : Int)) = true := decide_eq_true hl1
  clear h hlib hl
  go_enter Tryd.func5, Tryd.ntmps5
  go_wp2_with (first
    | (go_at_call 6; (with_reducible refine (speaks25 HLIB.out H.out).mono ?_); rintro e_ wn ⟨K1, rfl, hkk, h⟩; clear hkk; replace H := Lib.hid h; clear h))
  go_ret
  exact ⟨rfl, H.out.below⟩

set_option maxHeartbeats 4000000 in
set_option maxRecDepth 100000 in
theorem sw_yes (s : Bs) (c : Bs) (hl : s.length ≤ 2000) (hr : hexRd s = some c) {W0 w : World} {K : Know} (hlib : K.has Know.lib) (h : St W0 w K []) :
    Calls Tryd.prog 5 #[.string (bb s)] w fun en w' => en = .returned (.bool true) ∧ Below W0.heap.size W0 w' := by
  have H := Lib.hid h
  have HLIB := Lib.hid hlib
  have hl1 : ¬ 2000 < (s.length : Int) := by omega
  have hl2 : decide (2000 < (s.length : Int)) = false := decide_eq_false hl1
  have HL := Lib.hid (show s.length ≤ 1000000 by omega)
  obtain ⟨t, ht⟩ : ∃ t, hexW s = t := ⟨_, rfl⟩
  have HT := Lib.hid ht
  have HTL := Lib.hid (show t.length ≤ 1000000 by rw [← ht]; unfold hexW; split; decide; rw [hexL_len]; omega)
  have HV := Lib.hid (show hexV t = (s, true) by unfold hexV; rw [← ht, hexRd_back])
  have e1 : (t == t) = true := by simp
  have e2 : (s == s) = true := by simp
  have HC := Lib.hid (hexRd_one hr)
  have HR := Lib.hid (show hexV s = (c, true) by unfold hexV; rw [hr])
  have HCL := Lib.hid (show c.length ≤ 1000000 by
    have h9 := congrArg List.length (hexRd_one hr)
    unfold hexW at h9
    split at h9
    · rename_i h8; subst h8; decide
    · rw [hexL_len] at h9; omega)
  clear h hlib hl hr ht
  go_enter Tryd.func5, Tryd.ntmps5
  go_wp2_with (first
    | (go_at_call 6; (with_reducible refine (speaks25 HLIB.out H.out).mono ?_); rintro e_ wn ⟨K1, rfl, hkk, h⟩; clear hkk; replace H := Lib.hid h; clear h)
    | (go_at_call 15; (with_reducible refine (sc_hex s HL.out H.out).mono ?_); rintro e_ wn ⟨rfl, h⟩; rw [HT.out]; replace H := Lib.hid h; clear h)
    | (go_at_call 16; (with_reducible refine (sc_bytes t HTL.out H.out).mono ?_); rintro e_ wn ⟨rfl, h⟩; rw [HV.out]; replace H := Lib.hid h; clear h)
    | (go_at_call 16; (with_reducible refine (sc_bytes s HL.out H.out).mono ?_); rintro e_ wn ⟨rfl, h⟩; rw [HR.out]; replace H := Lib.hid h; clear h)
    | (go_at_call 17; (with_reducible refine (rs_hex s HL.out H.out).mono ?_); rintro e_ wn ⟨rfl, h⟩; rw [HT.out]; replace H := Lib.hid h; clear h)
    | (go_at_call 17; (with_reducible refine (rs_hex c HCL.out H.out).mono ?_); rintro e_ wn ⟨rfl, h⟩; rw [HC.out]; replace H := Lib.hid h; clear h))
  go_ret
  exact ⟨rfl, H.out.below⟩

set_option maxHeartbeats 4000000 in
set_option maxRecDepth 100000 in
theorem sw_no (s : Bs) (hl : s.length ≤ 2000) (hr : hexRd s = none) {W0 w : World} {K : Know} (hlib : K.has Know.lib) (h : St W0 w K []) :
    Calls Tryd.prog 5 #[.string (bb s)] w fun en w' => en = .returned (.bool true) ∧ Below W0.heap.size W0 w' := by
  have H := Lib.hid h
  have HLIB := Lib.hid hlib
  have hl1 : ¬ 2000 < (s.length : Int) := by omega
  have hl2 : decide (2000 < (s.length : Int)) = false := decide_eq_false hl1
  have HL := Lib.hid (show s.length ≤ 1000000 by omega)
  obtain ⟨t, ht⟩ : ∃ t, hexW s = t := ⟨_, rfl⟩
  have HT := Lib.hid ht
  have HTL := Lib.hid (show t.length ≤ 1000000 by rw [← ht]; unfold hexW; split; decide; rw [hexL_len]; omega)
  have HV := Lib.hid (show hexV t = (s, true) by unfold hexV; rw [← ht, hexRd_back])
  have e1 : (t == t) = true := by simp
  have e2 : (s == s) = true := by simp
  have HR := Lib.hid (show hexV s = ([], false) by unfold hexV; rw [hr])
  clear h hlib hl hr ht
  go_enter Tryd.func5, Tryd.ntmps5
  go_wp2_with (first
    | (go_at_call 6; (with_reducible refine (speaks25 HLIB.out H.out).mono ?_); rintro e_ wn ⟨K1, rfl, hkk, h⟩; clear hkk; replace H := Lib.hid h; clear h)
    | (go_at_call 15; (with_reducible refine (sc_hex s HL.out H.out).mono ?_); rintro e_ wn ⟨rfl, h⟩; rw [HT.out]; replace H := Lib.hid h; clear h)
    | (go_at_call 16; (with_reducible refine (sc_bytes t HTL.out H.out).mono ?_); rintro e_ wn ⟨rfl, h⟩; rw [HV.out]; replace H := Lib.hid h; clear h)
    | (go_at_call 16; (with_reducible refine (sc_bytes s HL.out H.out).mono ?_); rintro e_ wn ⟨rfl, h⟩; rw [HR.out]; replace H := Lib.hid h; clear h)
    | (go_at_call 17; (with_reducible refine (rs_hex s HL.out H.out).mono ?_); rintro e_ wn ⟨rfl, h⟩; rw [HT.out]; replace H := Lib.hid h; clear h))
  go_ret
  exact ⟨rfl, H.out.below⟩

theorem scriptWords_any (s : Bs) {W0 w : World} {K : Know} (hlib : K.has Know.lib) (h : St W0 w K []) :
    Calls Tryd.prog 5 #[.string (bb s)] w fun en w' => en = .returned (.bool true) ∧ Below W0.heap.size W0 w' := by
  by_cases hl : s.length ≤ 2000
  · cases hr : hexRd s with
    | some c => exact sw_yes s c hl hr hlib h
    | none => exact sw_no s hl hr hlib h
  · exact sw_long s (by omega) hlib h

end Go.Proofs.YtenojajfacacoaaDoor
