/- A text. -/
import Derived.Test.YtmpehoebgifmnaaVal1P
import Derived.RegionTactic
namespace Go.Proofs.Ytmpehoebgifmnaa
open Go.RowKit

theorem upI_zero (l : List Int) (j : Nat) (hj : j < 1) : upI l j = true := by
 obtain rfl : j = 0 := by omega
 rfl
theorem upS_zero (l : List Bs) (j : Nat) (hj : j < 1) : upS l j = true := by
 obtain rfl : j = 0 := by omega
 rfl

set_option maxHeartbeats 1000000 in
set_option maxRecDepth 100000 in
theorem val_riseI (l : List Int) (q : Option Addr) (cap : Nat) (r : Bool) (hr : riseI l = r) (hn : l.length ≤ 1000000) {W0 w : World} {K : Know} {L : List Res} (hk : K.has (Know.flat RI (.slice q l.length cap) 1 l)) (h : St W0 w K L) :
  Calls Try.prog 78 #[.slice q l.length cap] w fun en w' => en = .returned (.bool r) ∧ St W0 w' K L := by
 have H := Lib.hid h; have HK := Lib.hid hk; have HR := Lib.hid hr; have hni : (l.length : Int) ≤ 1000000 := by omega
 clear h hk hr hn; go_enter Try.func78, Try.ntmps78; go_wp2; go_loopw [3] (fun iv wr => ∃ k : Nat, 1 ≤ k ∧ (k ≤ l.length ∨ k = 1) ∧ iv = .int .i64 k ∧ Hid (∀ j, j < k → j < l.length → upI l j = true) ∧ St W0 wr K L) (fun iv _ => l.length - (intOf iv).toNat)
 case atStart => exact ⟨1, Nat.le_refl _, .inr rfl, rfl, Lib.hid (fun j hj _ => upI_zero l j hj), H.out⟩
 case round =>
  obtain ⟨k, hk1, hkl, rfl, HP, hst⟩ := hrel; clear H; have H := Lib.hid hst; clear hst
  by_cases hlt : k < l.length
  · obtain ⟨b, off, hqq⟩ := flat_at HK.out H.out (by omega); subst hqq; obtain ⟨j, hj⟩ : ∃ j, k - 1 = j := ⟨_, rfl⟩; have c0 := int_cell HK.out H.out k hlt; have c1 := int_cell HK.out H.out j (by omega); obtain ⟨x, hx⟩ : ∃ x, l.getD k 0 = x := ⟨_, rfl⟩; obtain ⟨y, hy⟩ : ∃ y, l.getD j 0 = y := ⟨_, rfl⟩
    have hup : upI l k = decide (y < x) := by
      unfold upI; have : (k == 0) = false := by rw [beq_eq_false_iff_ne]; omega
      rw [this, hj, hx, hy, Bool.false_or]
    rw [hx] at c0; rw [hy] at c1; have e1 : wrap64 ((k : Int) - 1) = (j : Int) := by unfold wrap64; omega
    have e2 : IntKind.i64.wrap ((k : Int) - 1) = (j : Int) := by rw [show (k : Int) - 1 = (j : Int) by omega]; exact IntWalk.i64_in _ (by omega)
    have hjl : (j : Int) < (l.length : Int) := by omega
    have hkl2 : (k : Int) < (l.length : Int) := by omega
    have HUP := Lib.hid hup; clear hj hx hy hup
    by_cases hc : x ≤ y
    · have hr2 : r = false := by rw [← HR.out]; exact allN_false k hlt (by rw [HUP.out]; exact decide_eq_false (by omega))
      subst hr2; have hd : decide (x ≤ y) = true := decide_eq_true hc; go_wp2; have hs := H.out.drew
      go_region
      go_wp2; go_ret; exact ⟨rfl, hs⟩
    · have hd : decide (x ≤ y) = false := decide_eq_false hc; go_wp2; have hs := H.out.drew
      go_region
      go_wp2; go_roundw
      case rel => exact ⟨k + 1, by omega, .inl hlt, by go_num, Lib.hid (fun i hi hil => by
       by_cases hik : i = k
       · subst hik; rw [HUP.out]; exact decide_eq_true (by omega)
       · exact HP.out i (by omega) hil), hs⟩
      case measure => first | (simp [intOf]; done) | (simp [intOf]; omega)
  · have hr2 : r = true := by
      rw [← HR.out]; exact allN_true fun j hj => HP.out j (by omega) hj
    subst hr2; have hge : ¬ (k : Int) < (l.length : Int) := by omega
    go_wp2; go_ret; exact ⟨rfl, H.out⟩

theorem zq2 {p : Prop} (h : p := by
  rw [hq2] at HUP; clear hq hq2; have hr2 : r = false := by rw [← HR.out]; exact allN_false k hlt HUP.out
  subst hr2; go_wp2; have hs := H.out.drew
  go_region
  go_wp2; go_ret; exact ⟨rfl, hs⟩) : p := h
set_option maxHeartbeats 1000000 in
set_option maxRecDepth 100000 in
theorem val_riseS (l : List Bs) (q : Option Addr) (cap : Nat) (r : Bool) (hr : riseS l = r) (hn : l.length ≤ 1000000) {W0 w : World} {K : Know} {L : List Res} (hk : K.has (Know.flat RSt (.slice q l.length cap) 1 l)) (h : St W0 w K L) :
  Calls Try.prog 71 #[.slice q l.length cap] w fun en w' => en = .returned (.bool r) ∧ St W0 w' K L := by
 have H := Lib.hid h; have HK := Lib.hid hk; have HR := Lib.hid hr; have hni : (l.length : Int) ≤ 1000000 := by omega
 clear h hk hr hn; go_enter Try.func71, Try.ntmps71; go_wp2; go_loopw [3] (fun iv wr => ∃ k : Nat, 1 ≤ k ∧ (k ≤ l.length ∨ k = 1) ∧ iv = .int .i64 k ∧ Hid (∀ j, j < k → j < l.length → upS l j = true) ∧ St W0 wr K L) (fun iv _ => l.length - (intOf iv).toNat)
 case atStart => exact ⟨1, Nat.le_refl _, .inr rfl, rfl, Lib.hid (fun j hj _ => upS_zero l j hj), H.out⟩
 case round =>
  obtain ⟨k, hk1, hkl, rfl, HP, hst⟩ := hrel; clear H; have H := Lib.hid hst; clear hst
  by_cases hlt : k < l.length
  · obtain ⟨b, off, hqq⟩ := flat_at HK.out H.out (by omega); subst hqq; obtain ⟨j, hj⟩ : ∃ j, k - 1 = j := ⟨_, rfl⟩; have c0 := str_cell HK.out H.out k hlt; have c1 := str_cell HK.out H.out j (by omega); obtain ⟨x, hx⟩ : ∃ x, l.getD k [] = x := ⟨_, rfl⟩; obtain ⟨y, hy⟩ : ∃ y, l.getD j [] = y := ⟨_, rfl⟩
    have hup : upS l k = Op.bytesLess y x := by
     unfold upS; have : (k == 0) = false := by rw [beq_eq_false_iff_ne]; omega
     rw [this, hj, hx, hy, Bool.false_or]
    rw [hx] at c0; rw [hy] at c1; have e1 : wrap64 ((k : Int) - 1) = (j : Int) := by unfold wrap64; omega
    have e2 : IntKind.i64.wrap ((k : Int) - 1) = (j : Int) := by rw [show (k : Int) - 1 = (j : Int) by omega]; exact IntWalk.i64_in _ (by omega)
    have hjl : (j : Int) < (l.length : Int) := by omega
    have hkl2 : (k : Int) < (l.length : Int) := by omega
    have HUP := Lib.hid hup; clear hj hx hy hup; have hq := lex_leq x y
    cases hp : Op.bytesLess x y with
    | true =>
     rw [hp, Bool.true_or] at hq; have hq2 : Op.bytesLess y x = false := by simpa using hq.symm
     exact zq2
    | false =>
     rw [hp, Bool.false_or] at hq
     cases he : (x == y) with
     | true =>
      rw [he] at hq; have hq2 : Op.bytesLess y x = false := by simpa using hq.symm
      exact zq2
     | false =>
      rw [he] at hq; have hq2 : Op.bytesLess y x = true := by simpa using hq.symm
      rw [hq2] at HUP; clear hq hq2; go_wp2; have hs := H.out.drew
      go_region
      go_wp2; go_roundw
      case rel => exact ⟨k + 1, by omega, .inl hlt, by go_num, Lib.hid (fun i hi hil => by
       by_cases hik : i = k
       · subst hik; rw [HUP.out]
       · exact HP.out i (by omega) hil), hs⟩
      case measure => first | (simp [intOf]; done) | (simp [intOf]; omega)
  · have hr2 : r = true := by
     rw [← HR.out]; exact allN_true fun j hj => HP.out j (by omega) hj
    subst hr2; have hge : ¬ (k : Int) < (l.length : Int) := by omega
    go_wp2; go_ret; exact ⟨rfl, H.out⟩

end Go.Proofs.Ytmpehoebgifmnaa
