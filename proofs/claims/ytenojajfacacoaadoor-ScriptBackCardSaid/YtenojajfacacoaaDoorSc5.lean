/- Numbers of words. -/
import Derived.Test.YtenojajfacacoaaDoorSc5P
import Derived.Test.YtenojajfacacoaaDoorRegOp
import Derived.RegionTactic
import Derived.WalkMore
import Derived.Deep.RegionHeld3
import Derived.Deep.DeepCutAuto
namespace Go.Proofs.YtenojajfacacoaaDoor
open Go.RowKit

set_option maxHeartbeats 4000000 in
set_option maxRecDepth 100000 in
theorem sc_nums_len (nb n : Nat) (wb off cap ncap : Nat) (ws : List Bs) (hne : ws.length ≠ n) {W0 w : World} {K : Know} {L : List Res} (h : St W0 w K L) :
    Calls Tryd.prog 56 #[.slice (some ⟨nb, 0, none⟩) n ncap, .slice (some ⟨wb, off, none⟩) ws.length cap] w fun en w' => en = .returned (.bool false) ∧ St W0 w' K L := by
  have H := Lib.hid h
  have e1 : ((ws.length : Int) == (n : Int)) = false := by rw [beq_eq_false_iff_ne]; omega
  have e2 : ((ws.length : Int) != (n : Int)) = true := by simp [bne, e1]
  clear h hne
  go_enter Tryd.func56, Tryd.ntmps56
  go_wp2
  go_ret
  exact ⟨rfl, H.out⟩
set_option maxHeartbeats 4000000 in
set_option maxRecDepth 100000 in
theorem sc_nums (nb : Nat) (cs : Array Value) (T : TypeId) (wb off cap ncap : Nat) (ws : List Bs) (hn : cs.size = ws.length) (hl : ws.length ≤ 1000000) (hx : ∀ x ∈ ws, x.length ≤ 1000000) {W0 w : World} {K : Know} {L : List Res} (hlib : K.has Know.lib) (hk : K.has (Know.strs wb off ws)) (h : St W0 w K (.raw nb cs T :: L)) :
    Calls Tryd.prog 56 #[.slice (some ⟨nb, 0, none⟩) ws.length ncap, .slice (some ⟨wb, off, none⟩) ws.length cap] w fun en w' => ∃ cs', en = .returned (.bool (numsRd ws).isSome) ∧ cs'.size = ws.length ∧ (∀ vs, numsRd ws = some vs → cs'.toList = vs.map fun v => Value.int .i64 v) ∧ St W0 w' K (.raw nb cs' T :: L) := by
  have H := Lib.hid h
  have HK := Lib.hid hk
  have HLIB := Lib.hid hlib
  have HX := Lib.hid hx
  have HN := Lib.hid hn
  have hli : (ws.length : Int) ≤ 1000000 := by omega
  have e2 : ((ws.length : Int) != (ws.length : Int)) = false := by simp
  clear h hk hlib hx hn
  go_enter Tryd.func56, Tryd.ntmps56
  go_wp2_with fail
  go_loopw [14] (fun iv wr => ∃ (k : Nat) (cs' : Array Value) (vs : List Int), k ≤ ws.length ∧ iv = .int .i64 k ∧ Hid (cs'.size = ws.length) ∧ Hid (numsRd (ws.take k) = some vs) ∧ Hid (cs'.toList.take k = vs.map fun v => Value.int .i64 v) ∧ St W0 wr K (.raw nb cs' T :: L)) (fun iv _ => ws.length - (intOf iv).toNat)
  case atStart => exact ⟨0, cs, [], Nat.zero_le _, rfl, HN, Lib.hid rfl, Lib.hid rfl, H.out⟩
  case round =>
    obtain ⟨k, cs', vs, hk, rfl, HSZ, HNS, HCS, hst⟩ := hrel
    clear H
    have H := Lib.hid hst
    clear hst
    by_cases hlt : k < ws.length
    · have hlti : (k : Int) < (ws.length : Int) := by omega
      have c0 := strs_cell HK.out H.out k hlt
      obtain ⟨x, hx⟩ : ∃ x, ws[k] = x := ⟨_, rfl⟩
      rw [hx] at c0
      have HXI := Lib.hid hx
      have HXL := Lib.hid (HX.out x (by rw [← hx]; exact List.getElem_mem hlt))
      clear hx
      obtain ⟨v, hv⟩ : ∃ v, atoiV x = v := ⟨_, rfl⟩
      have hr := atoiV_rng x
      rw [hv] at hr
      have HR1 := Lib.hid hr.1
      have HR2 := Lib.hid (show v ≤ 9223372036854775807 by omega)
      have HV := Lib.hid hv
      clear hr hv
      go_upto_region 7 with (go_at_call 73; clear c0; (with_reducible refine (sl_atoi x HXL.out HLIB.out H.out).mono ?_); rintro e_ wn ⟨ev, rfl, h⟩; rw [HV.out]; have c0 := strs_cell HK.out h k hlt; rw [HXI.out] at c0; have r1 := h.rawFree k; have c1 := h.rawCell k; rw [Array.getElem?_eq_getElem (by rw [HSZ.out]; exact hlt)] at c1; replace H := Lib.hid h; clear h)
      obtain ⟨wq, hwq⟩ : ∃ y, wn.setCell ⟨nb, k, none⟩ (.int .i64 v) = y := ⟨_, rfl⟩
      have hz := H.out.rawSet k (.int .i64 v)
      rw [hwq] at hz ⊢
      clear hwq H c0 c1 r1
      obtain ⟨c9, hc9⟩ : ∃ c9, cs'.setIfInBounds k (.int .i64 v) = c9 := ⟨_, rfl⟩
      have hk9 : k < cs'.size := by rw [HSZ.out]; exact hlt
      have c1 := hz.rawCell k
      rw [Array.getElem?_setIfInBounds_self_of_lt hk9] at c1
      have HS9 := Lib.hid (show c9.size = ws.length by rw [← hc9, Array.size_setIfInBounds]; exact HSZ.out)
      have HC9 := Lib.hid (show c9.toList.take (k + 1) = (vs ++ [v]).map fun v => Value.int .i64 v by
        rw [← hc9, Array.toList_setIfInBounds, List.map_append, ← HCS.out, List.take_add_one, List.getElem?_set_self (by simpa using hk9), List.take_set_of_le (Nat.le_refl _)]
        rfl)
      rw [hc9] at hz
      have H := Lib.hid hz
      clear hz hc9 hk9
      obtain ⟨t, ht⟩ : ∃ t, Lib.itoa v = t := ⟨_, rfl⟩
      have HT := Lib.hid ht
      by_cases htx : t = x
      · subst htx
        have e3 : (t == t) = true := by simp
        have e4 : (t != t) = false := by simp
        have HNR := Lib.hid (show numsRd (ws.take (k + 1)) = some (vs ++ [v]) by
          rw [List.take_succ_eq_append_getElem hlt, HXI.out]
          exact numsRd_snoc _ _ _ _ HNS.out (by unfold numRd; rw [HV.out, if_pos ht]))
        clear ht
        go_wp2_with (go_at_call 22; clear c1; (with_reducible refine (sl_itoa v HR1.out HR2.out HLIB.out H.out).mono ?_); rintro e_ wn ⟨rfl, h⟩; rw [HT.out]; replace H := Lib.hid h; clear h)
        go_roundw
        case rel => exact ⟨k + 1, c9, vs ++ [v], hlt, by go_num, HS9, HNR, HC9, H.out⟩
        case measure => first | (simp [intOf]; done) | (simp [intOf]; omega)
      · have e3 : (t == x) = false := by rw [beq_eq_false_iff_ne]; exact htx
        have e4 : (t != x) = true := by simp [bne, e3]
        have HNR := Lib.hid (show numsRd ws = none by
          have h9 : ws = ws.take k ++ x :: ws.drop (k + 1) := by
            conv => lhs; rw [← List.take_append_drop k ws, List.drop_eq_getElem_cons hlt, HXI.out]
          rw [h9]
          exact numsRd_bad _ _ _ (by unfold numRd; rw [HV.out, if_neg (by rw [ht]; exact htx)]))
        clear ht htx
        go_wp2_with (go_at_call 22; clear c1; (with_reducible refine (sl_itoa v HR1.out HR2.out HLIB.out H.out).mono ?_); rintro e_ wn ⟨rfl, h⟩; rw [HT.out]; replace H := Lib.hid h; clear h)
        go_ret
        exact ⟨c9, by rw [HNR.out]; rfl, HS9.out, fun vs h => (by rw [HNR.out] at h; cases h), H.out⟩
    · obtain rfl : k = ws.length := by omega
      have HNR := Lib.hid (show numsRd ws = some vs by have h9 := HNS.out; rw [List.take_length] at h9; exact h9)
      have HCR := Lib.hid (show cs'.toList = vs.map fun v => Value.int .i64 v by have h9 := HCS.out; rw [List.take_of_length_le (by simp; rw [HSZ.out]; exact Nat.le_refl _)] at h9; exact h9)
      go_wp2_with fail
      go_ret
      exact ⟨cs', by rw [HNR.out]; rfl, HSZ.out, fun vs h => (by rw [HNR.out] at h; injection h with h; subst h; exact HCR.out), H.out⟩

end Go.Proofs.YtenojajfacacoaaDoor
