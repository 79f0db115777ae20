/- A mark, read. -/
import Derived.Test.YtombolmicfjjpaaGMarkReads4
import Derived.Test.YtombolmicfjjpaaGMarkReads5
import Derived.Deep.RegionHeld3
import Derived.Deep.DeepCutAuto
import Derived.Test.YtombolmicfjjpaaGMarkReads2
import Derived.Handy
/- Marks, read by definition: early ends. -/
namespace Go.Proofs.Ytombolmicfjjpaa
open Go.RowKit

theorem marksRN_err {v : Int} {s : Bs} {n p : Nat} {acc : List MarkS} {er : Int} (h : mark1R v s p = .error er) : marksRN v s (n + 1) acc p = ([], 0, er) := by unfold marksRN; rw [h]
theorem marksRN_ok {v : Int} {s : Bs} {n p q : Nat} {acc : List MarkS} {m : MarkS} (h : mark1R v s p = .ok (m, q)) : marksRN v s (n + 1) acc p = marksRN v s n (acc ++ [m]) q := by
  rw [show marksRN v s (n + 1) acc p = (match mark1R v s p with | .error e => ([], 0, e) | .ok (m, q) => marksRN v s n (acc ++ [m]) q) from rfl, h]
theorem m1_short {v : Int} {s : Bs} {p : Nat} (h : s.length < p + 11) : mark1R v s p = .error 1 := by unfold mark1R; rw [if_pos h]
theorem m1_flag {v : Int} {s : Bs} {p : Nat} (h : ¬ s.length < p + 11) (h2 : 1 < ((s.getD (p + 10) 0).toNat : Int)) : mark1R v s p = .error 11 := by unfold mark1R; rw [if_neg h, if_pos h2]
theorem m1_tops {v : Int} {s : Bs} {p : Nat} (h : ¬ s.length < p + 11) (h2 : ¬ 1 < ((s.getD (p + 10) 0).toNat : Int)) {l : List TopS} {mm : Nat} {e : Int} (hr : topsR (s.drop (p + 11)) = (l, mm, e)) (h0 : e ≠ 0) : mark1R v s p = .error e := by
  unfold mark1R; rw [if_neg h, if_neg h2, hr]; simp only; rw [if_pos h0]
theorem m1_co {v : Int} {s : Bs} {p : Nat} (hv : v = 1) (h : ¬ s.length < p + 11) (h2 : ¬ 1 < ((s.getD (p + 10) 0).toNat : Int)) {l : List TopS} {mm : Nat} (hr : topsR (s.drop (p + 11)) = (l, mm, 0)) (h4 : s.length < p + 11 + mm + 4) : mark1R v s p = .error 1 := by
  unfold mark1R; rw [if_neg h, if_neg h2, hr]; simp only; rw [if_neg (by simp), if_pos hv, if_pos h4]
theorem m1_one {v : Int} {s : Bs} {p : Nat} (hv : v = 1) (h : ¬ s.length < p + 11) (h2 : ¬ 1 < ((s.getD (p + 10) 0).toNat : Int)) {l : List TopS} {mm : Nat} (hr : topsR (s.drop (p + 11)) = (l, mm, 0)) (h4 : ¬ s.length < p + 11 + mm + 4) : mark1R v s p = .ok (⟨sInt ((s.drop p).take 8), sInt ((s.drop (p + 8)).take 2), (((s.getD (p + 10) 0).toNat : Int) == 1), l, sInt ((s.drop (p + 11 + mm)).take 4)⟩, p + 11 + mm + 4) := by
  unfold mark1R; rw [if_neg h, if_neg h2, hr]; simp only; rw [if_neg (by simp), if_pos hv, if_neg h4]
theorem m1_zero {v : Int} {s : Bs} {p : Nat} (hv : v ≠ 1) (h : ¬ s.length < p + 11) (h2 : ¬ 1 < ((s.getD (p + 10) 0).toNat : Int)) {l : List TopS} {mm : Nat} (hr : topsR (s.drop (p + 11)) = (l, mm, 0)) : mark1R v s p = .ok (⟨sInt ((s.drop p).take 8), sInt ((s.drop (p + 8)).take 2), (((s.getD (p + 10) 0).toNat : Int) == 1), l, 0⟩, p + 11 + mm) := by
  unfold mark1R; rw [if_neg h, if_neg h2, hr]; simp only; rw [if_neg (by simp), if_neg hv]

set_option maxHeartbeats 2000000 in
set_option maxRecDepth 100000 in
theorem rk_1 (v : Int) (s : Bs) (hs : s.length ≤ 2000) (hl : s.length < 4) {W0 w : World} {K : Know} {L : List Res} (h : St W0 w K L) :
    Calls Try.prog 61 #[.string (bb s), .int .i64 v] w fun en w' => ∃ (q : Option Addr) (cap : Nat) (lr : List MarkR), en = .returned (.tuple #[.slice q lr.length cap, .int .i64 0, .int .i64 1]) ∧ lr.map MarkR.m = [] ∧ (∀ x ∈ lr, x.Fit) ∧ St W0 w' (K.and (Know.marks (.slice q lr.length cap) lr)) L := by
  have H := Lib.hid h
  have hsi : (s.length : Int) ≤ 2000 := by omega
  have hl4 : (s.length : Int) < 4 := by omega
  clear h hl
  go_enter Try.func61, Try.ntmps61
  go_wp2_with (fail)
  go_ret3
  exact ⟨none, 0, [], rfl, rfl, (fun x hx => by cases hx), by exact (H.out).know (Know.has_and (Know.has_refl _) (marks_nil _))⟩

set_option maxHeartbeats 2000000 in
set_option maxRecDepth 100000 in
theorem rk_2 (v : Int) (s : Bs) (hs : s.length ≤ 2000) (hl : 4 ≤ s.length) (a : Int) (ha : sInt (s.take 4) = a) (h0 : a < 0) {W0 w : World} {K : Know} {L : List Res} (h : St W0 w K L) :
    Calls Try.prog 61 #[.string (bb s), .int .i64 v] w fun en w' => ∃ (q : Option Addr) (cap : Nat) (lr : List MarkR), en = .returned (.tuple #[.slice q lr.length cap, .int .i64 0, .int .i64 4]) ∧ lr.map MarkR.m = [] ∧ (∀ x ∈ lr, x.Fit) ∧ St W0 w' (K.and (Know.marks (.slice q lr.length cap) lr)) L := by
  have H := Lib.hid h
  have hsi : (s.length : Int) ≤ 2000 := by omega
  have hl4 : ¬ (s.length : Int) < 4 := by omega
  have hl5 : 4 ≤ (s.length : Int) := by omega
  have HA := Lib.hid ha
  have H8 := Lib.hid (show (s.take 4).length ≤ 8 by rw [List.length_take]; omega)
  clear h hl ha
  go_enter Try.func61, Try.ntmps61
  go_wp2_with (go_at_call 76; (with_reducible refine (sr_intT _ (s.take 4) (by first | rfl | simp) a HA.out H8.out H.out).mono ?_); rintro e_ wn ⟨rfl, h⟩; replace H := Lib.hid h; clear h)
  go_ret3
  exact ⟨none, 0, [], rfl, rfl, (fun x hx => by cases hx), by exact (H.out).know (Know.has_and (Know.has_refl _) (marks_nil _))⟩

set_option maxHeartbeats 2000000 in
set_option maxRecDepth 100000 in
theorem rk_3 (v : Int) (s : Bs) (hs : s.length ≤ 2000) (hl : 4 ≤ s.length) (a : Int) (ha : sInt (s.take 4) = a) (h0 : ¬ a < 0) (hm : ((s.length : Int) - 4) / 15 < a) {W0 w : World} {K : Know} {L : List Res} (h : St W0 w K L) :
    Calls Try.prog 61 #[.string (bb s), .int .i64 v] w fun en w' => ∃ (q : Option Addr) (cap : Nat) (lr : List MarkR), en = .returned (.tuple #[.slice q lr.length cap, .int .i64 0, .int .i64 1]) ∧ lr.map MarkR.m = [] ∧ (∀ x ∈ lr, x.Fit) ∧ St W0 w' (K.and (Know.marks (.slice q lr.length cap) lr)) L := by
  have H := Lib.hid h
  have hsi : (s.length : Int) ≤ 2000 := by omega
  have hl4 : ¬ (s.length : Int) < 4 := by omega
  have hl5 : 4 ≤ (s.length : Int) := by omega
  have hq1 : IntKind.i64.wrap ((s.length : Int) - 4) = (s.length : Int) - 4 := by rw [IntKind.wrap_i64]; omega
  have hq2 : ((s.length : Int) - 4).tdiv 15 = ((s.length : Int) - 4) / 15 := Int.tdiv_eq_ediv_of_nonneg (by omega)
  have hq3 : IntKind.i64.wrap (((s.length : Int) - 4) / 15) = ((s.length : Int) - 4) / 15 := by rw [IntKind.wrap_i64]; omega
  have HA := Lib.hid ha
  have H8 := Lib.hid (show (s.take 4).length ≤ 8 by rw [List.length_take]; omega)
  clear h hl ha
  go_enter Try.func61, Try.ntmps61
  go_wp2_with (go_at_call 76; (with_reducible refine (sr_intT _ (s.take 4) (by first | rfl | simp) a HA.out H8.out H.out).mono ?_); rintro e_ wn ⟨rfl, h⟩; replace H := Lib.hid h; clear h)
  go_ret3
  exact ⟨none, 0, [], rfl, rfl, (fun x hx => by cases hx), by exact (H.out).know (Know.has_and (Know.has_refl _) (marks_nil _))⟩

end Go.Proofs.Ytombolmicfjjpaa

/- Marks, read by definition. -/
namespace Go.Proofs.Ytombolmicfjjpaa
open Go.RowKit

set_option maxHeartbeats 20000000 in
set_option maxRecDepth 100000 in
theorem rk_main (v : Int) (s : Bs) (hs : s.length ≤ 2000) (n : Nat) (hl : 4 ≤ s.length) (ha : sInt (s.take 4) = n) (hn : 4 + 15 * n ≤ s.length) (lf l0 : List MarkS) (qf many : Nat) (ef e : Int) (hg : marksRN v s n [] 4 = (lf, qf, ef)) (hbad : ef ≠ 0 → l0 = [] ∧ many = 0 ∧ e = ef) (hE1 : ef = 0 → marksErr v lf ≠ 0 → l0 = [] ∧ many = 0 ∧ e = marksErr v lf) (hE0 : ef = 0 → marksErr v lf = 0 → l0 = lf ∧ many = qf ∧ e = 0) {W0 w : World} {K : Know} {L : List Res} (h : St W0 w K L) :
    Calls Try.prog 61 #[.string (bb s), .int .i64 v] w fun en w' => ∃ (q : Option Addr) (cap : Nat) (lr : List MarkR), en = .returned (.tuple #[.slice q lr.length cap, .int .i64 many, .int .i64 e]) ∧ lr.map MarkR.m = l0 ∧ (∀ x ∈ lr, x.Fit) ∧ St W0 w' (K.and (Know.marks (.slice q lr.length cap) lr)) L := by
  have H := Lib.hid h
  have hsi : (s.length : Int) ≤ 2000 := by omega
  have HSN := Lib.hid hs
  have hl4 : ¬ (s.length : Int) < 4 := by omega
  have hl5 : 4 ≤ (s.length : Int) := by omega
  have hq1 : IntKind.i64.wrap ((s.length : Int) - 4) = (s.length : Int) - 4 := by rw [IntKind.wrap_i64]; omega
  have hq2 : ((s.length : Int) - 4).tdiv 15 = ((s.length : Int) - 4) / 15 := Int.tdiv_eq_ediv_of_nonneg (by omega)
  have hq3 : IntKind.i64.wrap (((s.length : Int) - 4) / 15) = ((s.length : Int) - 4) / 15 := by rw [IntKind.wrap_i64]; omega
  have hm : ¬ ((s.length : Int) - 4) / 15 < (n : Int) := by omega
  have h0 : ¬ (n : Int) < 0 := by omega
  have hni : (n : Int) ≤ 200 := by omega
  have HNN := Lib.hid hn
  have HA0 := Lib.hid ha
  have H80 := Lib.hid (show (s.take 4).length ≤ 8 by rw [List.length_take]; omega)
  have HG := Lib.hid hg
  have HBAD := Lib.hid hbad
  have HE1 := Lib.hid hE1
  have HE0 := Lib.hid hE0
  have HL4 := Lib.hid hl
  clear h ha hg hbad hE1 hE0 hn hs hl
  go_enter Try.func61, Try.ntmps61
  go_wp2_with (go_at_call 76; (with_reducible refine (sr_intT _ (s.take 4) (by first | rfl | simp) n HA0.out H80.out H.out).mono ?_); rintro e_ wn ⟨rfl, h⟩; replace H := Lib.hid h; clear h)
  go_loopw [8, 9, 10, 11, 12, 13, 14] (fun pv ov iv _ _ _ _ wr => ∃ (k p : Nat) (acc : List MarkR) (K2 : Know), k ≤ n ∧ iv = .int .i64 k ∧ pv = .int .i64 p ∧ Hid (acc.length = k) ∧ Hid (p ≤ s.length) ∧ Hid (marksRN v s (n - k) (acc.map MarkR.m) p = (lf, qf, ef)) ∧ Hid (K2.has K) ∧ Hid (∀ x ∈ acc, K2.has (Know.tops (.slice x.q x.l.length x.cap) x.l)) ∧ Hid (∀ x ∈ acc, x.Fit) ∧ St W0 wr K2 (.row ov 152 5 acc.length (acc.flatMap mcells) :: L)) (fun _ _ iv _ _ _ _ _ => n - (intOf iv).toNat)
  case atStart => exact ⟨0, 4, [], K, Nat.zero_le _, rfl, rfl, Lib.hid rfl, HL4, Lib.hid HG.out, Lib.hid (Know.has_refl _), Lib.hid (fun x hx => by cases hx), Lib.hid (fun x hx => by cases hx), H.out.rowLit [] 152 5 0 rfl (by decide)⟩
  case round =>
    obtain ⟨k, p, acc, K2, hk, rfl, rfl, HAL, HPL, HP, HKK, HALL, HFF, hst⟩ := hrel
    clear H hq1 hq2 hq3 hm h0
    have H := Lib.hid hst
    clear hst
    have hpi : (p : Int) ≤ (s.length : Int) := by have := HPL.out; omega
    have hw0 : IntKind.i64.wrap ((s.length : Int) - (p : Int)) = (s.length : Int) - (p : Int) := by rw [IntKind.wrap_i64]; omega
    by_cases hlt : k < n
    · have hkn : (k : Int) < (n : Int) := by omega
      by_cases c1 : s.length < p + 11
      · have hm1 := m1_short (v := v) c1
        have hE := HP.out
        rw [show n - k = (n - (k + 1)) + 1 by omega, marksRN_err hm1] at hE
        simp only [Prod.mk.injEq] at hE
        obtain ⟨rfl, rfl, rfl⟩ := hE
        obtain ⟨rfl, rfl, rfl⟩ := HBAD.out (by decide)
        have hsj : (s.length : Int) - (p : Int) < 11 := by omega
        clear c1 hm1
        go_wp2_with fail
        go_ret3
        exact ⟨none, 0, [], rfl, rfl, (fun x hx => by cases hx), by exact (H.out.drop).know (Know.has_and (Know.has_trans (Know.has_refl _) HKK.out) (marks_nil _))⟩
      have hsj : ¬ (s.length : Int) - (p : Int) < 11 := by omega
      obtain ⟨p8, hp8⟩ : ∃ x, p + 8 = x := ⟨_, rfl⟩
      obtain ⟨p10, hp10⟩ : ∃ x, p + 10 = x := ⟨_, rfl⟩
      obtain ⟨p11, hp11⟩ : ∃ x, p + 11 = x := ⟨_, rfl⟩
      have hw8 : IntKind.i64.wrap ((p : Int) + 8) = (p8 : Int) := by rw [IntKind.wrap_i64]; omega
      have hw10 : IntKind.i64.wrap ((p : Int) + 10) = (p10 : Int) := by rw [IntKind.wrap_i64]; omega
      have hw11 : IntKind.i64.wrap ((p : Int) + 11) = (p11 : Int) := by rw [IntKind.wrap_i64]; omega
      have hz8 : IntKind.i64.wrap (p8 : Int) = (p8 : Int) := by rw [IntKind.wrap_i64]; omega
      have hz10 : IntKind.i64.wrap (p10 : Int) = (p10 : Int) := by rw [IntKind.wrap_i64]; omega
      have hi8 : (p : Int) + 8 = (p8 : Int) := by omega
      have hi10 : (p : Int) + 10 = (p10 : Int) := by omega
      have hi11 : (p : Int) + 11 = (p11 : Int) := by omega
      have hkL : (p10 : Int) < (s.length : Int) := by omega
      have hkN : p10 < s.length := by omega
      have hyg : (s[p10]'hkN) = s.getD p10 0 := by simp [List.getD, hkN]
      by_cases c2 : 1 < ((s.getD p10 0).toNat : Int)
      · have hm1 := m1_flag (v := v) c1 (by rw [hp10]; exact c2)
        have hE := HP.out
        rw [show n - k = (n - (k + 1)) + 1 by omega, marksRN_err hm1] at hE
        simp only [Prod.mk.injEq] at hE
        obtain ⟨rfl, rfl, rfl⟩ := hE
        obtain ⟨rfl, rfl, rfl⟩ := HBAD.out (by decide)
        have hb2 : 1 < (((s[p10]'hkN).toNat) : Int) := by rw [hyg]; exact c2
        clear c1 c2 hm1 hyg
        go_wp2_with fail
        go_ret3
        exact ⟨none, 0, [], rfl, rfl, (fun x hx => by cases hx), by exact (H.out.drop).know (Know.has_and (Know.has_trans (Know.has_refl _) HKK.out) (marks_nil _))⟩
      have hb2 : ¬ 1 < (((s[p10]'hkN).toNat) : Int) := by rw [hyg]; exact c2
      obtain ⟨c, hc⟩ : ∃ c, (((s.getD p10 0).toNat : Int) == 1) = c := ⟨_, rfl⟩
      have hc2 : ((((s[p10]'hkN).toNat) : Int) == 1) = c := by rw [hyg]; exact hc
      obtain ⟨a, ha⟩ : ∃ a, sInt ((s.drop p).take 8) = a := ⟨_, rfl⟩
      obtain ⟨b, hb⟩ : ∃ b, sInt ((s.drop p8).take 2) = b := ⟨_, rfl⟩
      have HA := Lib.hid ha
      have HB := Lib.hid hb
      have HA8 := Lib.hid (show ((s.drop p).take 8).length ≤ 8 by rw [List.length_take]; omega)
      have HB8 := Lib.hid (show ((s.drop p8).take 2).length ≤ 8 by rw [List.length_take]; omega)
      have HT8 := Lib.hid (show List.take (p8 - p) (s.drop p) = (s.drop p).take 8 by rw [← hp8, Nat.add_sub_cancel_left])
      have HT2 := Lib.hid (show List.take (p10 - p8) (s.drop p8) = (s.drop p8).take 2 by rw [show p10 - p8 = 2 by omega])
      have i1 : (p : Int) ≤ (p8 : Int) := by omega
      have i2 : (p8 : Int) ≤ (p10 : Int) := by omega
      have i3 : (p8 : Int) ≤ (s.length : Int) := by omega
      have i4 : (p10 : Int) ≤ (s.length : Int) := by omega
      have i5 : (p11 : Int) ≤ (s.length : Int) := by omega
      have n1 : p ≤ p8 := by omega
      have n2 : p8 ≤ p10 := by omega
      have RA := Lib.hid (show -9223372036854775808 ≤ a ∧ a < 9223372036854775808 by rw [← ha]; exact sInt_range _ (by rw [List.length_take]; omega))
      have RB := Lib.hid (show -9223372036854775808 ≤ b ∧ b < 9223372036854775808 by rw [← hb]; exact sInt_range _ (by rw [List.length_take]; omega))
      have HTE := Lib.hid (takeEnd s p11)
      have HX := Lib.hid (show (s.drop p11).length ≤ 1000000 by rw [List.length_drop]; omega)
      have HAB := Lib.hid (show acc.length ≤ 200 by have := HAL.out; omega)
      have C1 := Lib.hid c1
      have C2 := Lib.hid (show ¬ 1 < ((s.getD (p + 10) 0).toNat : Int) by rw [hp10]; exact c2)
      have P8 := Lib.hid hp8
      have P10 := Lib.hid hp10
      have P11 := Lib.hid hp11
      have HC := Lib.hid (show (((s.getD (p + 10) 0).toNat : Int) == 1) = c by rw [hp10]; exact hc)
      clear c1 c2 hp8 hp10 hp11 ha hb hc hyg
      go_upto_region 17 with (fail)
      go_cut [11] (fun s11 wx => ∃ mb : Nat, s11 = .pointer (some ⟨mb, 0, none⟩) ∧ St W0 wx K2 (.raw mb #[.int .i64 a, .int .i64 b, .bool c, .slice none 0 0, .int .i64 0] 152 :: .row u9 152 5 acc.length (acc.flatMap mcells) :: L))
      case first =>
        skip
        · subst hc2
          have hs := H.out.drew
          refine wp_region_held_drew (S := fun _ => True) (by kernel_rfl) trivial (fun hHeld => ?_)
          refine wpAnyH_take (i := 0) (oi := { dst := some 46, op := Op.move (Operand.tmp 0), type := 9, pos := "ref.go:83", after := #[], guard := none }) (v := ?_) rfl (by kernel_rfl) (by kernel_rfl) (by kernel_rfl) (fun _ _ _ h => h) (Or.inl ⟨by rfl, ?_⟩) (by assumption) ?_
          rotate_left
          · intro w hSw; (try dsimp only at hSw); go_simp; try with_reducible rfl
          simp only [Act.put, List.setIfInBounds_toArray, List.set_cons_zero, List.set_cons_succ]
          refine wpAnyH_take (i := 1) (oi := { dst := some 47, op := Op.move (Operand.tmp 8), type := 3, pos := "ref.go:83", after := #[], guard := none }) (v := ?_) rfl (by kernel_rfl) (by kernel_rfl) (by kernel_rfl) (fun _ _ _ h => h) (Or.inl ⟨by rfl, ?_⟩) (by assumption) ?_
          rotate_left
          · intro w hSw; (try dsimp only at hSw); go_simp; try with_reducible rfl
          simp only [Act.put, List.setIfInBounds_toArray, List.set_cons_zero, List.set_cons_succ]
          refine wpAnyH_take (i := 2) (oi := { dst := some 48, op := Op.move (Operand.tmp 8), type := 3, pos := "ref.go:83", after := #[], guard := none }) (v := ?_) rfl (by kernel_rfl) (by kernel_rfl) (by kernel_rfl) (fun _ _ _ h => h) (Or.inl ⟨by rfl, ?_⟩) (by assumption) ?_
          rotate_left
          · intro w hSw; (try dsimp only at hSw); go_simp; try with_reducible rfl
          simp only [Act.put, List.setIfInBounds_toArray, List.set_cons_zero, List.set_cons_succ]
          refine wpAnyH_take (i := 3) (oi := { dst := some 49, op := Op.binOp BinOp.add 3 (Operand.tmp 48) (Operand.const (Value.int IntKind.i64 8)) 3, type := 3, pos := "ref.go:83", after := #[{ on := 2, ground := Ground.data }], guard := none }) (v := ?_) rfl (by kernel_rfl) (by kernel_rfl) (by kernel_rfl) (fun _ _ _ h => h) (Or.inl ⟨by rfl, ?_⟩) (by assumption) ?_
          rotate_left
          · intro w hSw; (try dsimp only at hSw); go_simp; try with_reducible rfl
          simp only [Act.put, List.setIfInBounds_toArray, List.set_cons_zero, List.set_cons_succ]
          refine wpAnyH_take (i := 4) (oi := { dst := some 50, op := Op.slice 9 (Operand.tmp 46) (some (Operand.tmp 47)) (some (Operand.tmp 49)) none, type := 9, pos := "ref.go:83", after := #[{ on := 0, ground := Ground.data }, { on := 1, ground := Ground.data }, { on := 3, ground := Ground.data }], guard := none }) (v := ?_) rfl (by kernel_rfl) (by kernel_rfl) (by kernel_rfl) (fun _ _ _ h => h) (Or.inl ⟨by rfl, ?_⟩) (by assumption) ?_
          rotate_left
          · intro w hSw; (try dsimp only at hSw); go_simp; try with_reducible rfl
          simp only [Act.put, List.setIfInBounds_toArray, List.set_cons_zero, List.set_cons_succ]
          refine wpAnyH_take (i := 6) (oi := { dst := some 52, op := Op.move (Operand.tmp 0), type := 9, pos := "ref.go:83", after := #[], guard := none }) (v := ?_) rfl (by kernel_rfl) (by kernel_rfl) (by kernel_rfl) (fun _ _ _ h => h) (Or.inl ⟨by rfl, ?_⟩) (by assumption) ?_
          rotate_left
          · intro w hSw; (try dsimp only at hSw); go_simp; try with_reducible rfl
          simp only [Act.put, List.setIfInBounds_toArray, List.set_cons_zero, List.set_cons_succ]
          refine wpAnyH_take (i := 7) (oi := { dst := some 53, op := Op.move (Operand.tmp 8), type := 3, pos := "ref.go:83", after := #[], guard := none }) (v := ?_) rfl (by kernel_rfl) (by kernel_rfl) (by kernel_rfl) (fun _ _ _ h => h) (Or.inl ⟨by rfl, ?_⟩) (by assumption) ?_
          rotate_left
          · intro w hSw; (try dsimp only at hSw); go_simp; try with_reducible rfl
          simp only [Act.put, List.setIfInBounds_toArray, List.set_cons_zero, List.set_cons_succ]
          refine wpAnyH_take (i := 8) (oi := { dst := some 54, op := Op.binOp BinOp.add 3 (Operand.tmp 53) (Operand.const (Value.int IntKind.i64 8)) 3, type := 3, pos := "ref.go:83", after := #[{ on := 7, ground := Ground.data }], guard := none }) (v := ?_) rfl (by kernel_rfl) (by kernel_rfl) (by kernel_rfl) (fun _ _ _ h => h) (Or.inl ⟨by rfl, ?_⟩) (by assumption) ?_
          rotate_left
          · intro w hSw; (try dsimp only at hSw); go_simp; try with_reducible rfl
          simp only [Act.put, List.setIfInBounds_toArray, List.set_cons_zero, List.set_cons_succ]
          refine wpAnyH_take (i := 9) (oi := { dst := some 55, op := Op.move (Operand.tmp 8), type := 3, pos := "ref.go:83", after := #[], guard := none }) (v := ?_) rfl (by kernel_rfl) (by kernel_rfl) (by kernel_rfl) (fun _ _ _ h => h) (Or.inl ⟨by rfl, ?_⟩) (by assumption) ?_
          rotate_left
          · intro w hSw; (try dsimp only at hSw); go_simp; try with_reducible rfl
          simp only [Act.put, List.setIfInBounds_toArray, List.set_cons_zero, List.set_cons_succ]
          refine wpAnyH_take (i := 10) (oi := { dst := some 56, op := Op.binOp BinOp.add 3 (Operand.tmp 55) (Operand.const (Value.int IntKind.i64 10)) 3, type := 3, pos := "ref.go:83", after := #[{ on := 9, ground := Ground.data }], guard := none }) (v := ?_) rfl (by kernel_rfl) (by kernel_rfl) (by kernel_rfl) (fun _ _ _ h => h) (Or.inl ⟨by rfl, ?_⟩) (by assumption) ?_
          rotate_left
          · intro w hSw; (try dsimp only at hSw); go_simp; try with_reducible rfl
          simp only [Act.put, List.setIfInBounds_toArray, List.set_cons_zero, List.set_cons_succ]
          refine wpAnyH_take (i := 11) (oi := { dst := some 57, op := Op.slice 9 (Operand.tmp 52) (some (Operand.tmp 54)) (some (Operand.tmp 56)) none, type := 9, pos := "ref.go:83", after := #[{ on := 6, ground := Ground.data }, { on := 8, ground := Ground.data }, { on := 10, ground := Ground.data }], guard := none }) (v := ?_) rfl (by kernel_rfl) (by kernel_rfl) (by kernel_rfl) (fun _ _ _ h => h) (Or.inl ⟨by rfl, ?_⟩) (by assumption) ?_
          rotate_left
          · intro w hSw; (try dsimp only at hSw); go_simp; try with_reducible rfl
          simp only [Act.put, List.setIfInBounds_toArray, List.set_cons_zero, List.set_cons_succ]
          refine wpAnyH_take (i := 13) (oi := { dst := some 59, op := Op.move (Operand.tmp 0), type := 9, pos := "ref.go:83", after := #[], guard := none }) (v := ?_) rfl (by kernel_rfl) (by kernel_rfl) (by kernel_rfl) (fun _ _ _ h => h) (Or.inl ⟨by rfl, ?_⟩) (by assumption) ?_
          rotate_left
          · intro w hSw; (try dsimp only at hSw); go_simp; try with_reducible rfl
          simp only [Act.put, List.setIfInBounds_toArray, List.set_cons_zero, List.set_cons_succ]
          refine wpAnyH_take (i := 14) (oi := { dst := some 60, op := Op.move (Operand.tmp 8), type := 3, pos := "ref.go:83", after := #[], guard := none }) (v := ?_) rfl (by kernel_rfl) (by kernel_rfl) (by kernel_rfl) (fun _ _ _ h => h) (Or.inl ⟨by rfl, ?_⟩) (by assumption) ?_
          rotate_left
          · intro w hSw; (try dsimp only at hSw); go_simp; try with_reducible rfl
          simp only [Act.put, List.setIfInBounds_toArray, List.set_cons_zero, List.set_cons_succ]
          refine wpAnyH_take (i := 15) (oi := { dst := some 61, op := Op.binOp BinOp.add 3 (Operand.tmp 60) (Operand.const (Value.int IntKind.i64 10)) 3, type := 3, pos := "ref.go:83", after := #[{ on := 14, ground := Ground.data }], guard := none }) (v := ?_) rfl (by kernel_rfl) (by kernel_rfl) (by kernel_rfl) (fun _ _ _ h => h) (Or.inl ⟨by rfl, ?_⟩) (by assumption) ?_
          rotate_left
          · intro w hSw; (try dsimp only at hSw); go_simp; try with_reducible rfl
          simp only [Act.put, List.setIfInBounds_toArray, List.set_cons_zero, List.set_cons_succ]
          refine wpAnyH_take (i := 16) (oi := { dst := some 62, op := Op.index 9 (Operand.tmp 59) (Operand.tmp 61), type := 5, pos := "ref.go:83", after := #[{ on := 13, ground := Ground.data }, { on := 15, ground := Ground.data }], guard := none }) (v := ?_) rfl (by kernel_rfl) (by kernel_rfl) (by kernel_rfl) (fun _ _ _ h => h) (Or.inl ⟨by rfl, ?_⟩) (by assumption) ?_
          rotate_left
          · intro w hSw; (try dsimp only at hSw); go_simp; try with_reducible rfl
          simp only [Act.put, List.setIfInBounds_toArray, List.set_cons_zero, List.set_cons_succ]
          refine wpAnyH_take (i := 17) (oi := { dst := some 63, op := Op.binOp BinOp.eql 5 (Operand.tmp 62) (Operand.const (Value.int IntKind.u8 1)) 5, type := 4, pos := "ref.go:83", after := #[{ on := 16, ground := Ground.data }], guard := none }) (v := ?_) rfl (by kernel_rfl) (by kernel_rfl) (by kernel_rfl) (fun _ _ _ h => h) (Or.inl ⟨by rfl, ?_⟩) (by assumption) ?_
          rotate_left
          · intro w hSw; (try dsimp only at hSw); go_simp; try with_reducible rfl
          simp only [Act.put, List.setIfInBounds_toArray, List.set_cons_zero, List.set_cons_succ]
          refine wpAnyH_ready (rs := [5, 19]) (by kernel_rfl) (by simp) (AllReadyH.cons (o := { dst := some 51, op := Op.call { callee := Callee.value (Operand.func 76), args := #[Operand.tmp 50], argTypes := #[9] }, type := 3, pos := "ref.go:83", after := #[{ on := 4, ground := Ground.data }], guard := none }) rfl (fun KK hK => ?_) (AllReadyH.cons (o := { dst := some 11, op := Op.alloc 152, type := 0, pos := "ref.go:83", after := #[], guard := none }) rfl (fun KK hK => ?_) AllReadyH.nil))
          · go_simp
            go_at_call 76
            with_reducible refine (sr_intT _ ((s.drop p).take 8) HT8.out a HA.out HA8.out hs).mono ?_
            rintro e wq ⟨rfl, hs⟩
            refine hK.out _ _ (trivial) (fun hHeld => ?_)
            clear hK KK
            try simp only [Act.put, List.setIfInBounds_toArray, List.set_cons_zero, List.set_cons_succ]
            refine wpAnyH_ready (rs := [12, 19]) (by kernel_rfl) (by simp) (AllReadyH.cons (o := { dst := some 58, op := Op.call { callee := Callee.value (Operand.func 76), args := #[Operand.tmp 57], argTypes := #[9] }, type := 3, pos := "ref.go:83", after := #[{ on := 11, ground := Ground.data }, { on := 5, ground := Ground.chain }], guard := none }) rfl (fun KK hK => ?_) (AllReadyH.cons (o := { dst := some 11, op := Op.alloc 152, type := 0, pos := "ref.go:83", after := #[], guard := none }) rfl (fun KK hK => ?_) AllReadyH.nil))
            · go_simp
              go_at_call 76
              with_reducible refine (sr_intT _ ((s.drop p8).take 2) HT2.out b HB.out HB8.out hs).mono ?_
              rintro e wq ⟨rfl, hs⟩
              refine hK.out _ _ (trivial) (fun hHeld => ?_)
              clear hK KK
              try simp only [Act.put, List.setIfInBounds_toArray, List.set_cons_zero, List.set_cons_succ]
              refine wpAnyH_take (i := 18) (oi := { dst := some 64, op := Op.build 152 #[(0, Operand.tmp 51), (1, Operand.tmp 58), (2, Operand.tmp 63)], type := 152, pos := "ref.go:83", after := #[{ on := 5, ground := Ground.data }, { on := 12, ground := Ground.data }, { on := 17, ground := Ground.data }], guard := none }) (v := ?_) rfl (by kernel_rfl) (by kernel_rfl) (by kernel_rfl) (fun _ _ _ h => h) (Or.inl ⟨by rfl, ?_⟩) (by assumption) ?_
              rotate_left
              · intro w hSw; (try dsimp only at hSw); go_simp; try with_reducible rfl
              simp only [Act.put, List.setIfInBounds_toArray, List.set_cons_zero, List.set_cons_succ]
              refine wpAnyH_ready (rs := [19]) (by kernel_rfl) (by simp) (AllReadyH.cons (o := { dst := some 11, op := Op.alloc 152, type := 0, pos := "ref.go:83", after := #[], guard := none }) rfl (fun KK hK => ?_) AllReadyH.nil)
              · obtain ⟨wy, mb, ey, er, hs⟩ := hs.allocEx #[.int .i64 0, .int .i64 0, .bool false, .slice none 0 0, .int .i64 0] 152
                go_simp
                try rw [ey]
                try rw [er]
                clear ey er
                refine hK.out _ _ (trivial) (fun hHeld => ?_)
                clear hK KK
                try simp only [Act.put, List.setIfInBounds_toArray, List.set_cons_zero, List.set_cons_succ]
                refine wpAnyH_ready (rs := [20]) (by kernel_rfl) (by simp) (AllReadyH.cons (o := { dst := none, op := Op.store 152 (Operand.tmp 11) (Operand.tmp 64), type := 0, pos := "ref.go:83", after := #[{ on := 19, ground := Ground.data }, { on := 18, ground := Ground.data }, { on := 12, ground := Ground.chain }, { on := 0, ground := Ground.phase }, { on := 1, ground := Ground.phase }, { on := 2, ground := Ground.phase }, { on := 3, ground := Ground.phase }, { on := 4, ground := Ground.phase }, { on := 5, ground := Ground.phase }, { on := 6, ground := Ground.phase }, { on := 7, ground := Ground.phase }, { on := 8, ground := Ground.phase }, { on := 9, ground := Ground.phase }, { on := 10, ground := Ground.phase }, { on := 11, ground := Ground.phase }, { on := 12, ground := Ground.phase }, { on := 13, ground := Ground.phase }, { on := 14, ground := Ground.phase }, { on := 15, ground := Ground.phase }, { on := 16, ground := Ground.phase }, { on := 17, ground := Ground.phase }, { on := 18, ground := Ground.phase }, { on := 19, ground := Ground.phase }], guard := none }) rfl (fun KK hK => ?_) AllReadyH.nil)
                · rw [if_pos (by rfl)]
                  refine wp_store_mid 152 (.tmp 11) (.tmp 64) rfl mb 0 #[.int .i64 a, .int .i64 b, .bool ((((s[p10]'hkN).toNat) : Int) == 1), .slice none 0 0, .int .i64 0] (by rfl) (by rfl) hs.there (by kernel_rfl) (by simp [Value.oneCell']) ?_
                  obtain ⟨wz, ez, hs⟩ := hs.storeEx #[.int .i64 a, .int .i64 b, .bool ((((s[p10]'hkN).toNat) : Int) == 1), .slice none 0 0, .int .i64 0]
                  rw [ez]
                  clear ez
                  refine hK.out _ _ (trivial) (fun hHeld => ?_)
                  clear hK KK
                  try simp only [Act.put, List.setIfInBounds_toArray, List.set_cons_zero, List.set_cons_succ]
                  refine wpAnyH_done (by kernel_rfl) ?_ _
                  clear hHeld
                  rw [setAll_allV] at hs
                  rotate_left
                  · rfl
                  go_wp2_with fail
                  go_meet
                  exact ⟨mb, rfl, hs⟩
            · obtain ⟨wy, mb, ey, er, hs⟩ := hs.allocEx #[.int .i64 0, .int .i64 0, .bool false, .slice none 0 0, .int .i64 0] 152
              go_simp
              try rw [ey]
              try rw [er]
              clear ey er
              refine hK.out _ _ (trivial) (fun hHeld => ?_)
              clear hK KK
              try simp only [Act.put, List.setIfInBounds_toArray, List.set_cons_zero, List.set_cons_succ]
              refine wpAnyH_ready (rs := [12]) (by kernel_rfl) (by simp) (AllReadyH.cons (o := { dst := some 58, op := Op.call { callee := Callee.value (Operand.func 76), args := #[Operand.tmp 57], argTypes := #[9] }, type := 3, pos := "ref.go:83", after := #[{ on := 11, ground := Ground.data }, { on := 5, ground := Ground.chain }], guard := none }) rfl (fun KK hK => ?_) AllReadyH.nil)
              · go_simp
                go_at_call 76
                with_reducible refine (sr_intT _ ((s.drop p8).take 2) HT2.out b HB.out HB8.out hs).mono ?_
                rintro e wq ⟨rfl, hs⟩
                refine hK.out _ _ (trivial) (fun hHeld => ?_)
                clear hK KK
                try simp only [Act.put, List.setIfInBounds_toArray, List.set_cons_zero, List.set_cons_succ]
                refine wpAnyH_take (i := 18) (oi := { dst := some 64, op := Op.build 152 #[(0, Operand.tmp 51), (1, Operand.tmp 58), (2, Operand.tmp 63)], type := 152, pos := "ref.go:83", after := #[{ on := 5, ground := Ground.data }, { on := 12, ground := Ground.data }, { on := 17, ground := Ground.data }], guard := none }) (v := ?_) rfl (by kernel_rfl) (by kernel_rfl) (by kernel_rfl) (fun _ _ _ h => h) (Or.inl ⟨by rfl, ?_⟩) (by assumption) ?_
                rotate_left
                · intro w hSw; (try dsimp only at hSw); go_simp; try with_reducible rfl
                simp only [Act.put, List.setIfInBounds_toArray, List.set_cons_zero, List.set_cons_succ]
                refine wpAnyH_ready (rs := [20]) (by kernel_rfl) (by simp) (AllReadyH.cons (o := { dst := none, op := Op.store 152 (Operand.tmp 11) (Operand.tmp 64), type := 0, pos := "ref.go:83", after := #[{ on := 19, ground := Ground.data }, { on := 18, ground := Ground.data }, { on := 12, ground := Ground.chain }, { on := 0, ground := Ground.phase }, { on := 1, ground := Ground.phase }, { on := 2, ground := Ground.phase }, { on := 3, ground := Ground.phase }, { on := 4, ground := Ground.phase }, { on := 5, ground := Ground.phase }, { on := 6, ground := Ground.phase }, { on := 7, ground := Ground.phase }, { on := 8, ground := Ground.phase }, { on := 9, ground := Ground.phase }, { on := 10, ground := Ground.phase }, { on := 11, ground := Ground.phase }, { on := 12, ground := Ground.phase }, { on := 13, ground := Ground.phase }, { on := 14, ground := Ground.phase }, { on := 15, ground := Ground.phase }, { on := 16, ground := Ground.phase }, { on := 17, ground := Ground.phase }, { on := 18, ground := Ground.phase }, { on := 19, ground := Ground.phase }], guard := none }) rfl (fun KK hK => ?_) AllReadyH.nil)
                · rw [if_pos (by rfl)]
                  refine wp_store_mid 152 (.tmp 11) (.tmp 64) rfl mb 0 #[.int .i64 a, .int .i64 b, .bool ((((s[p10]'hkN).toNat) : Int) == 1), .slice none 0 0, .int .i64 0] (by rfl) (by rfl) hs.there (by kernel_rfl) (by simp [Value.oneCell']) ?_
                  obtain ⟨wz, ez, hs⟩ := hs.storeEx #[.int .i64 a, .int .i64 b, .bool ((((s[p10]'hkN).toNat) : Int) == 1), .slice none 0 0, .int .i64 0]
                  rw [ez]
                  clear ez
                  refine hK.out _ _ (trivial) (fun hHeld => ?_)
                  clear hK KK
                  try simp only [Act.put, List.setIfInBounds_toArray, List.set_cons_zero, List.set_cons_succ]
                  refine wpAnyH_done (by kernel_rfl) ?_ _
                  clear hHeld
                  rw [setAll_allV] at hs
                  rotate_left
                  · rfl
                  go_wp2_with fail
                  go_meet
                  exact ⟨mb, rfl, hs⟩
          · obtain ⟨wy, mb, ey, er, hs⟩ := hs.allocEx #[.int .i64 0, .int .i64 0, .bool false, .slice none 0 0, .int .i64 0] 152
            go_simp
            try rw [ey]
            try rw [er]
            clear ey er
            refine hK.out _ _ (trivial) (fun hHeld => ?_)
            clear hK KK
            try simp only [Act.put, List.setIfInBounds_toArray, List.set_cons_zero, List.set_cons_succ]
            refine wpAnyH_ready (rs := [5]) (by kernel_rfl) (by simp) (AllReadyH.cons (o := { dst := some 51, op := Op.call { callee := Callee.value (Operand.func 76), args := #[Operand.tmp 50], argTypes := #[9] }, type := 3, pos := "ref.go:83", after := #[{ on := 4, ground := Ground.data }], guard := none }) rfl (fun KK hK => ?_) AllReadyH.nil)
            · go_simp
              go_at_call 76
              with_reducible refine (sr_intT _ ((s.drop p).take 8) HT8.out a HA.out HA8.out hs).mono ?_
              rintro e wq ⟨rfl, hs⟩
              refine hK.out _ _ (trivial) (fun hHeld => ?_)
              clear hK KK
              try simp only [Act.put, List.setIfInBounds_toArray, List.set_cons_zero, List.set_cons_succ]
              refine wpAnyH_ready (rs := [12]) (by kernel_rfl) (by simp) (AllReadyH.cons (o := { dst := some 58, op := Op.call { callee := Callee.value (Operand.func 76), args := #[Operand.tmp 57], argTypes := #[9] }, type := 3, pos := "ref.go:83", after := #[{ on := 11, ground := Ground.data }, { on := 5, ground := Ground.chain }], guard := none }) rfl (fun KK hK => ?_) AllReadyH.nil)
              · go_simp
                go_at_call 76
                with_reducible refine (sr_intT _ ((s.drop p8).take 2) HT2.out b HB.out HB8.out hs).mono ?_
                rintro e wq ⟨rfl, hs⟩
                refine hK.out _ _ (trivial) (fun hHeld => ?_)
                clear hK KK
                try simp only [Act.put, List.setIfInBounds_toArray, List.set_cons_zero, List.set_cons_succ]
                refine wpAnyH_take (i := 18) (oi := { dst := some 64, op := Op.build 152 #[(0, Operand.tmp 51), (1, Operand.tmp 58), (2, Operand.tmp 63)], type := 152, pos := "ref.go:83", after := #[{ on := 5, ground := Ground.data }, { on := 12, ground := Ground.data }, { on := 17, ground := Ground.data }], guard := none }) (v := ?_) rfl (by kernel_rfl) (by kernel_rfl) (by kernel_rfl) (fun _ _ _ h => h) (Or.inl ⟨by rfl, ?_⟩) (by assumption) ?_
                rotate_left
                · intro w hSw; (try dsimp only at hSw); go_simp; try with_reducible rfl
                simp only [Act.put, List.setIfInBounds_toArray, List.set_cons_zero, List.set_cons_succ]
                refine wpAnyH_ready (rs := [20]) (by kernel_rfl) (by simp) (AllReadyH.cons (o := { dst := none, op := Op.store 152 (Operand.tmp 11) (Operand.tmp 64), type := 0, pos := "ref.go:83", after := #[{ on := 19, ground := Ground.data }, { on := 18, ground := Ground.data }, { on := 12, ground := Ground.chain }, { on := 0, ground := Ground.phase }, { on := 1, ground := Ground.phase }, { on := 2, ground := Ground.phase }, { on := 3, ground := Ground.phase }, { on := 4, ground := Ground.phase }, { on := 5, ground := Ground.phase }, { on := 6, ground := Ground.phase }, { on := 7, ground := Ground.phase }, { on := 8, ground := Ground.phase }, { on := 9, ground := Ground.phase }, { on := 10, ground := Ground.phase }, { on := 11, ground := Ground.phase }, { on := 12, ground := Ground.phase }, { on := 13, ground := Ground.phase }, { on := 14, ground := Ground.phase }, { on := 15, ground := Ground.phase }, { on := 16, ground := Ground.phase }, { on := 17, ground := Ground.phase }, { on := 18, ground := Ground.phase }, { on := 19, ground := Ground.phase }], guard := none }) rfl (fun KK hK => ?_) AllReadyH.nil)
                · rw [if_pos (by rfl)]
                  refine wp_store_mid 152 (.tmp 11) (.tmp 64) rfl mb 0 #[.int .i64 a, .int .i64 b, .bool ((((s[p10]'hkN).toNat) : Int) == 1), .slice none 0 0, .int .i64 0] (by rfl) (by rfl) hs.there (by kernel_rfl) (by simp [Value.oneCell']) ?_
                  obtain ⟨wz, ez, hs⟩ := hs.storeEx #[.int .i64 a, .int .i64 b, .bool ((((s[p10]'hkN).toNat) : Int) == 1), .slice none 0 0, .int .i64 0]
                  rw [ez]
                  clear ez
                  refine hK.out _ _ (trivial) (fun hHeld => ?_)
                  clear hK KK
                  try simp only [Act.put, List.setIfInBounds_toArray, List.set_cons_zero, List.set_cons_succ]
                  refine wpAnyH_done (by kernel_rfl) ?_ _
                  clear hHeld
                  rw [setAll_allV] at hs
                  rotate_left
                  · rfl
                  go_wp2_with fail
                  go_meet
                  exact ⟨mb, rfl, hs⟩
      obtain ⟨mb, rfl, h⟩ := hcut
      clear H hb2 hc2 hz8 hz10
      have H := Lib.hid h
      clear h
      obtain ⟨⟨l, mm, er⟩, hr⟩ : ∃ r, topsR (s.drop p11) = r := ⟨_, rfl⟩
      have HR := Lib.hid hr
      by_cases he : er = 0
      rotate_left
      · have hm1 := m1_tops (v := v) C1.out C2.out (by rw [P11.out]; exact hr) he
        have hE := HP.out
        rw [show n - k = (n - (k + 1)) + 1 by omega, marksRN_err hm1] at hE
        simp only [Prod.mk.injEq] at hE
        obtain ⟨rfl, rfl, rfl⟩ := hE
        obtain ⟨rfl, rfl, rfl⟩ := HBAD.out he
        have g1 : (e == 0) = false := by rw [beq_eq_false_iff_ne]; exact he
        have g2 : (e != 0) = true := by simp [bne, g1]
        clear he hm1 hr
        go_wp2_with (go_at_call 26; (with_reducible refine (ref14_readTopicsT _ (s.drop p11) HTE.out HX.out l mm e HR.out H.out).mono ?_); rintro e_ wn ⟨v_, xl, rfl, hxl, h⟩; obtain ⟨xq, xcap, rfl⟩ := tops_form (Know.has_right (Know.has_refl _)) h; have HXL := Lib.hid hxl; clear hxl; replace H := Lib.hid h; clear h)
        go_ret3
        exact ⟨none, 0, [], rfl, rfl, (fun x hx => by cases hx), by exact (H.out.drop.drop).know (Know.has_and (Know.has_trans (Know.has_left (Know.has_refl _)) HKK.out) (marks_nil _))⟩
      subst he
      have hml := topsR_le hr
      rw [List.length_drop] at hml
      have HFL := Lib.hid (show FewL l from topsP_few (topsR_ok hr) HX.out)
      obtain ⟨pE, hpE⟩ : ∃ x, p11 + mm = x := ⟨_, rfl⟩
      have hpEi : (p11 : Int) + (mm : Int) = (pE : Int) := by omega
      have hwE : IntKind.i64.wrap ((p11 : Int) + (mm : Int)) = (pE : Int) := by rw [IntKind.wrap_i64]; omega
      have hpEl : (pE : Int) ≤ (s.length : Int) := by omega
      have hmi : (mm : Int) ≤ 2000 := by omega
      have hwL : IntKind.i64.wrap ((s.length : Int) - (pE : Int)) = (s.length : Int) - (pE : Int) := by rw [IntKind.wrap_i64]; omega
      have hr2 : topsR (s.drop (p + 11)) = (l, mm, 0) := by rw [P11.out]; exact hr
      by_cases hv : v = 1
      · by_cases c4 : s.length < p + 11 + mm + 4
        · have hm1 := m1_co hv C1.out C2.out hr2 c4
          have hE := HP.out
          rw [show n - k = (n - (k + 1)) + 1 by omega, marksRN_err hm1] at hE
          simp only [Prod.mk.injEq] at hE
          obtain ⟨rfl, rfl, rfl⟩ := hE
          obtain ⟨rfl, rfl, rfl⟩ := HBAD.out (by decide)
          have hs4 : (s.length : Int) - (pE : Int) < 4 := by have := P11.out; omega
          have gv : (v == 1) = true := by rw [hv]; rfl
          clear hm1 hr hr2 c4 hml hpE hv
          go_wp2_with (go_at_call 26; (with_reducible refine (ref14_readTopicsT _ (s.drop p11) HTE.out HX.out l mm 0 HR.out H.out).mono ?_); rintro e_ wn ⟨v_, xl, rfl, hxl, h⟩; obtain ⟨xq, xcap, rfl⟩ := tops_form (Know.has_right (Know.has_refl _)) h; have HXL := Lib.hid hxl; clear hxl; have f3 := h.rawFree 3; have q3 := h.rawCell 3; simp at q3; have h := (show St W0 (wn.setCell ⟨mb, 3, none⟩ (.slice xq xl.length xcap)) (K2.and (Know.tops (.slice xq xl.length xcap) xl)) (.raw mb #[.int .i64 a, .int .i64 b, .bool c, .slice xq xl.length xcap, .int .i64 0] 152 :: .row u9 152 5 acc.length (acc.flatMap mcells) :: L) from h.rawSet 3 (.slice xq xl.length xcap)); replace H := Lib.hid h; clear h)
          go_ret3
          exact ⟨none, 0, [], rfl, rfl, (fun x hx => by cases hx), by exact (H.out.drop.drop).know (Know.has_and (Know.has_trans (Know.has_left (Know.has_refl _)) HKK.out) (marks_nil _))⟩
        · have hm1 := m1_one hv C1.out C2.out hr2 c4
          have hE := HP.out
          rw [show n - k = (n - (k + 1)) + 1 by omega, marksRN_ok hm1] at hE
          have hs4 : ¬ (s.length : Int) - (pE : Int) < 4 := by have := P11.out; omega
          have gv : (v == 1) = true := by rw [hv]; rfl
          obtain ⟨pF, hpF⟩ : ∃ x, pE + 4 = x := ⟨_, rfl⟩
          have hwF : IntKind.i64.wrap ((pE : Int) + 4) = (pF : Int) := by rw [IntKind.wrap_i64]; omega
          have hiF : (pE : Int) + 4 = (pF : Int) := by omega
          have i6 : (pE : Int) ≤ (pF : Int) := by omega
          have n6 : pE ≤ pF := by omega
          have i7 : (pF : Int) ≤ (s.length : Int) := by omega
          obtain ⟨d, hd⟩ : ∃ d, sInt ((s.drop pE).take 4) = d := ⟨_, rfl⟩
          have HD := Lib.hid hd
          have HD8 := Lib.hid (show ((s.drop pE).take 4).length ≤ 8 by rw [List.length_take]; omega)
          have HT4 := Lib.hid (show List.take (pF - pE) (s.drop pE) = (s.drop pE).take 4 by rw [← hpF, Nat.add_sub_cancel_left])
          have HRR := Lib.hid (show MarkS.R ⟨a, b, c, l, d⟩ from ⟨RA.out, RB.out, by show _ ≤ d ∧ d < _; rw [← hd]; exact sInt_range _ (by rw [List.length_take]; omega)⟩)
          have HP2 := Lib.hid (show marksRN v s (n - (k + 1)) (acc.map MarkR.m ++ [⟨a, b, c, l, d⟩]) pF = (lf, qf, ef) by
            rw [← hE, P8.out, HA.out, HB.out, HC.out, P11.out, hpE, hd, hpF])
          have HPN := Lib.hid (show pF ≤ s.length by omega)
          clear hm1 hr hr2 c4 hml hpE hv hE hpF hd
          go_wp2_with (first
    | (go_at_call 26; (with_reducible refine (ref14_readTopicsT _ (s.drop p11) HTE.out HX.out l mm 0 HR.out H.out).mono ?_); rintro e_ wn ⟨v_, xl, rfl, hxl, h⟩; obtain ⟨xq, xcap, rfl⟩ := tops_form (Know.has_right (Know.has_refl _)) h; have HXL := Lib.hid hxl; clear hxl; have f3 := h.rawFree 3; have q3 := h.rawCell 3; simp at q3; have h := (show St W0 (wn.setCell ⟨mb, 3, none⟩ (.slice xq xl.length xcap)) (K2.and (Know.tops (.slice xq xl.length xcap) xl)) (.raw mb #[.int .i64 a, .int .i64 b, .bool c, .slice xq xl.length xcap, .int .i64 0] 152 :: .row u9 152 5 acc.length (acc.flatMap mcells) :: L) from h.rawSet 3 (.slice xq xl.length xcap)); replace H := Lib.hid h; clear h)
    | (go_at_call 76; clear f3 q3; (with_reducible refine (sr_intT _ ((s.drop pE).take 4) HT4.out d HD.out HD8.out H.out).mono ?_); rintro e_ wn ⟨rfl, h⟩; have f4 := h.rawFree 4; have q4 := h.rawCell 4; simp at q4; have h := (show St W0 (wn.setCell ⟨mb, 4, none⟩ (.int .i64 d)) (K2.and (Know.tops (.slice xq xl.length xcap) xl)) (.raw mb #[.int .i64 a, .int .i64 b, .bool c, .slice xq xl.length xcap, .int .i64 d] 152 :: .row u9 152 5 acc.length (acc.flatMap mcells) :: L) from h.rawSet 4 (.int .i64 d)); have y0 := h.rawCell 0; have y1 := h.rawCell 1; have y2 := h.rawCell 2; have y3 := h.rawCell 3; have y4 := h.rawCell 4; simp at y0 y1 y2 y3 y4; replace H := Lib.hid h; clear h)
    | (at_builtin; refine wpl_app1_st rfl _ _ 88 rfl 152 Try.underlying88 elem_mk19 _ _ _ rfl H.out.p1 [.int .i64 a, .int .i64 b, .bool c, .slice xq xl.length xcap, .int .i64 d] 152 (by rw [World.size_setCell]; rfl) rfl (by simp [Value.oneCell']) (by have := HAB.out; unfold maxLen; omega) (by have := HAB.out; omega) ?_; intro v' w' h; replace H := Lib.hid h; clear h))
          go_roundw
          case rel => exact ⟨k + 1, pF, acc ++ [⟨⟨a, b, c, l, d⟩, xl, xq, xcap⟩], (K2.and (Know.tops (.slice xq xl.length xcap) xl)), hlt, by go_num, by first | rfl | go_num, Lib.hid (by rw [List.length_append, HAL.out]; rfl), HPN, Lib.hid (by rw [List.map_append]; exact HP2.out), Lib.hid (Know.has_trans (Know.has_left (Know.has_refl _)) HKK.out), Lib.hid (fun x hx => by
            rcases List.mem_append.1 hx with hx | hx
            · exact Know.has_left (HALL.out x hx)
            · rw [List.mem_singleton.1 hx]; exact Know.has_right (Know.has_refl _)), Lib.hid (fun x hx => by
            rcases List.mem_append.1 hx with hx | hx
            · exact HFF.out x hx
            · rw [List.mem_singleton.1 hx]; exact ⟨HXL.out, fewT_of (by rw [HXL.out]; exact HFL.out), HRR.out⟩), by rw [List.length_append, List.flatMap_append]; exact H.out.p1.drop⟩
          case measure => first | (simp [intOf]; done) | (simp [intOf]; omega)
      · have hm1 := m1_zero hv C1.out C2.out hr2
        have hE := HP.out
        rw [show n - k = (n - (k + 1)) + 1 by omega, marksRN_ok hm1] at hE
        have gv : (v == 1) = false := by rw [beq_eq_false_iff_ne]; exact hv
        have HRR := Lib.hid (show MarkS.R ⟨a, b, c, l, 0⟩ from ⟨RA.out, RB.out, by show (-9223372036854775808 : Int) ≤ 0 ∧ (0 : Int) < 9223372036854775808; decide⟩)
        have HP2 := Lib.hid (show marksRN v s (n - (k + 1)) (acc.map MarkR.m ++ [⟨a, b, c, l, 0⟩]) pE = (lf, qf, ef) by
          rw [← hE, P8.out, HA.out, HB.out, HC.out, P11.out, hpE])
        have HPN := Lib.hid (show pE ≤ s.length by omega)
        clear hm1 hr hr2 hml hpE hv hE
        go_wp2_with (first
    | (go_at_call 26; (with_reducible refine (ref14_readTopicsT _ (s.drop p11) HTE.out HX.out l mm 0 HR.out H.out).mono ?_); rintro e_ wn ⟨v_, xl, rfl, hxl, h⟩; obtain ⟨xq, xcap, rfl⟩ := tops_form (Know.has_right (Know.has_refl _)) h; have HXL := Lib.hid hxl; clear hxl; have f3 := h.rawFree 3; have q3 := h.rawCell 3; simp at q3; have h := (show St W0 (wn.setCell ⟨mb, 3, none⟩ (.slice xq xl.length xcap)) (K2.and (Know.tops (.slice xq xl.length xcap) xl)) (.raw mb #[.int .i64 a, .int .i64 b, .bool c, .slice xq xl.length xcap, .int .i64 0] 152 :: .row u9 152 5 acc.length (acc.flatMap mcells) :: L) from h.rawSet 3 (.slice xq xl.length xcap)); have y0 := h.rawCell 0; have y1 := h.rawCell 1; have y2 := h.rawCell 2; have y3 := h.rawCell 3; have y4 := h.rawCell 4; simp at y0 y1 y2 y3 y4; replace H := Lib.hid h; clear h)
    | (at_builtin; refine wpl_app1_st rfl _ _ 88 rfl 152 Try.underlying88 elem_mk19 _ _ _ rfl H.out.p1 [.int .i64 a, .int .i64 b, .bool c, .slice xq xl.length xcap, .int .i64 0] 152 (by rw [World.size_setCell]; rfl) rfl (by simp [Value.oneCell']) (by have := HAB.out; unfold maxLen; omega) (by have := HAB.out; omega) ?_; intro v' w' h; replace H := Lib.hid h; clear h))
        go_roundw
        case rel => exact ⟨k + 1, pE, acc ++ [⟨⟨a, b, c, l, 0⟩, xl, xq, xcap⟩], (K2.and (Know.tops (.slice xq xl.length xcap) xl)), hlt, by go_num, by first | rfl | go_num, Lib.hid (by rw [List.length_append, HAL.out]; rfl), HPN, Lib.hid (by rw [List.map_append]; exact HP2.out), Lib.hid (Know.has_trans (Know.has_left (Know.has_refl _)) HKK.out), Lib.hid (fun x hx => by
          rcases List.mem_append.1 hx with hx | hx
          · exact Know.has_left (HALL.out x hx)
          · rw [List.mem_singleton.1 hx]; exact Know.has_right (Know.has_refl _)), Lib.hid (fun x hx => by
          rcases List.mem_append.1 hx with hx | hx
          · exact HFF.out x hx
          · rw [List.mem_singleton.1 hx]; exact ⟨HXL.out, fewT_of (by rw [HXL.out]; exact HFL.out), HRR.out⟩), by rw [List.length_append, List.flatMap_append]; exact H.out.p1.drop⟩
        case measure => first | (simp [intOf]; done) | (simp [intOf]; omega)
    · obtain rfl : k = n := by omega
      have hp := HP.out
      rw [Nat.sub_self] at hp
      have hp : (acc.map MarkR.m, p, 0) = (lf, qf, ef) := hp
      simp only [Prod.mk.injEq] at hp
      obtain ⟨rfl, rfl, rfl⟩ := hp
      have HFIT := HFF
      have HAN := Lib.hid (show acc.length ≤ 1000000 by have := HAL.out; omega)
      have hf := H.out.freezeMarks HALL.out
      have hf := hf.know (K' := K.and (Know.marks _ acc)) (fun w F hh => ⟨HKK.out _ _ hh.1, hh.2⟩)
      obtain ⟨q, cap, rfl⟩ := marks_form (Know.has_right (Know.has_refl _)) hf
      clear H
      have H := Lib.hid hf
      clear hf
      obtain ⟨r, hr⟩ : ∃ r, marksErr v (acc.map MarkR.m) = r := ⟨_, rfl⟩
      have HR := Lib.hid hr
      by_cases h0 : r = 0
      · subst h0
        obtain ⟨rfl, rfl, rfl⟩ := HE0.out rfl hr
        clear hr
        go_wp2_with (go_at_call 53; (with_reducible refine (ref19_check v acc q cap _ HR.out HFIT.out HAN.out (Know.has_right (Know.has_refl _)) H.out).mono ?_); rintro e_ wn ⟨rfl, h⟩; replace H := Lib.hid h; clear h)
        go_ret3
        exact ⟨q, cap, acc, rfl, rfl, HFIT.out, H.out⟩
      · obtain ⟨rfl, rfl, he⟩ := HE1.out rfl (by rw [hr]; exact h0)
        rw [hr] at he
        subst he
        have g1 : (e == 0) = false := by rw [beq_eq_false_iff_ne]; exact h0
        have g2 : (e != 0) = true := by simp [bne, g1]
        clear hr h0
        go_wp2_with (go_at_call 53; (with_reducible refine (ref19_check v acc q cap _ HR.out HFIT.out HAN.out (Know.has_right (Know.has_refl _)) H.out).mono ?_); rintro e_ wn ⟨rfl, h⟩; replace H := Lib.hid h; clear h)
        go_ret3
        exact ⟨none, 0, [], rfl, rfl, (fun x hx => by cases hx), by exact H.out.know (Know.has_and (Know.has_left (Know.has_refl _)) (marks_nil _))⟩

/-- What bytes begin with, by definition. -/
theorem ref19_read (v : Int) (s : Bs) (hs : s.length ≤ 2000) (l : List MarkS) (many : Nat) (e : Int) (hr : marksR v s = (l, many, e)) {W0 w : World} {K : Know} {L : List Res} (h : St W0 w K L) :
    Calls Try.prog 61 #[.string (bb s), .int .i64 v] w fun en w' => ∃ (q : Option Addr) (cap : Nat) (lr : List MarkR), en = .returned (.tuple #[.slice q lr.length cap, .int .i64 many, .int .i64 e]) ∧ lr.map MarkR.m = l ∧ (∀ x ∈ lr, x.Fit) ∧ St W0 w' (K.and (Know.marks (.slice q lr.length cap) lr)) L := by
  unfold marksR cntP at hr
  by_cases c1 : s.length < 4
  · rw [if_pos c1] at hr
    cases hr
    exact rk_1 v s hs c1 h
  rw [if_neg c1] at hr
  by_cases c2 : sInt (s.take 4) < 0
  · rw [if_pos c2] at hr
    cases hr
    exact rk_2 v s hs (by omega) _ rfl c2 h
  rw [if_neg c2] at hr
  by_cases c3 : ((s.length : Int) - 4) / (15 : Nat) < sInt (s.take 4)
  · rw [if_pos c3] at hr
    cases hr
    exact rk_3 v s hs (by omega) _ rfl c2 c3 h
  rw [if_neg c3] at hr
  obtain ⟨n, hn⟩ : ∃ n : Nat, sInt (s.take 4) = n := ⟨(sInt (s.take 4)).toNat, by omega⟩
  rw [hn] at hr c3
  have hnn : ((n : Int)).toNat = n := by simp
  rw [hnn] at hr
  simp only at hr
  obtain ⟨⟨lf, qf, ef⟩, hg⟩ : ∃ r, marksRN v s n [] 4 = r := ⟨_, rfl⟩
  rw [hg] at hr
  simp only at hr
  refine rk_main v s hs n (by omega) hn (by omega) lf l qf many ef e hg (fun h0 => ?_) (fun h0 h1 => ?_) (fun h0 h1 => ?_) h
  · rw [if_pos h0] at hr
    simp only [Prod.mk.injEq] at hr
    exact ⟨hr.1.symm, hr.2.1.symm, hr.2.2.symm⟩
  · rw [if_neg (by rw [h0]; simp), if_pos h1] at hr
    simp only [Prod.mk.injEq] at hr
    exact ⟨hr.1.symm, hr.2.1.symm, hr.2.2.symm⟩
  · rw [if_neg (by rw [h0]; simp), if_neg (by rw [h1]; simp)] at hr
    simp only [Prod.mk.injEq] at hr
    exact ⟨hr.1.symm, hr.2.1.symm, by rw [← hr.2.2, h0]⟩

end Go.Proofs.Ytombolmicfjjpaa

/- One mark as a slice. -/
namespace Go.Proofs.Ytombolmicfjjpaa
open Go.RowKit

/-- One mark, in a slice of its own. -/
theorem freezeMark1 {W0 w : World} {K : Know} {L : List Res} {s : Nat} {T : TypeId} (p e : Int) (c : Bool) (tl : List TopS) (co : Int) (xl : List (TopS × Value)) (xq : Option Addr) (xcap : Nat) (hk : K.has (Know.tops (.slice xq xl.length xcap) xl)) (h : St W0 w K (.raw s #[.int .i64 p, .int .i64 e, .bool c, .slice xq xl.length xcap, .int .i64 co] T :: L)) :
    St W0 w (K.and (Know.marks (.slice (some ⟨s, 0, none⟩) 1 1) [⟨⟨p, e, c, tl, co⟩, xl, xq, xcap⟩])) L := by
  refine h.freeze fun F S1 hF h1 => ?_
  have hlt := heap_lt h1.1
  have hs : S1 s := (h1.2 s).2 rfl
  refine ⟨⟨some ⟨s, 0, none⟩, 1, rfl, fun _ => ⟨s, 0, rfl, .inr ⟨hs, hlt⟩, hlt, fun i hi => ?_⟩⟩, fun x hx => ?_⟩
  · have hi0 : i = 0 := by simp at hi; omega
    subst hi0
    refine ⟨[.int .i64 p, .int .i64 e, .bool c, .slice xq xl.length xcap, .int .i64 co], rfl, rfl, fun f u hu => ?_⟩
    have hc := cell_at h1.1 f
    simp only [Nat.zero_mul, Nat.zero_add]
    rw [hc]
    simpa using hu
  · rw [List.mem_singleton.1 hx]
    exact (Know.tops (.slice xq xl.length xcap) xl).mono w F _ (hk w F hF) (fun _ h => .inl h)
end Go.Proofs.Ytombolmicfjjpaa

/- Ends of transactions, written. -/
namespace Go.Proofs.Ytombolmicfjjpaa
open Go.RowKit

end Go.Proofs.Ytombolmicfjjpaa

/- Ends of transactions, written and read. -/
namespace Go.Proofs.Ytombolmicfjjpaa
open Go.RowKit

end Go.Proofs.Ytombolmicfjjpaa

/- Requests of transactions: what is wrong with them. -/
namespace Go.Proofs.Ytombolmicfjjpaa
open Go.RowKit

end Go.Proofs.Ytombolmicfjjpaa

/- Requests of transactions: may they be written. -/
namespace Go.Proofs.Ytombolmicfjjpaa
open Go.RowKit

end Go.Proofs.Ytombolmicfjjpaa

/- Marks, written. -/
namespace Go.Proofs.Ytombolmicfjjpaa
open Go.RowKit

set_option maxHeartbeats 6000000 in
set_option maxRecDepth 100000 in
theorem mark_write_ok (b : Nat) (o o2 : Bs) (v : Int) (l : List MarkR) (q : Option Addr) (cap : Nat) (he : o ++ encMs v (l.map MarkR.m) = o2) (hE : marksErr v (l.map MarkR.m) = 0) (hf : ∀ x ∈ l, x.Fit) (hfit : ∀ x ∈ l, FitTs x.m.tops ∧ (encM v x.m).length ≤ 2000) (hn : l.length ≤ 20) (hol : o.length ≤ 100000) {W0 w : World} {K : Know} {L : List Res} (hk : K.has (Know.marks (.slice q l.length cap) l)) (h : St W0 w K (.out b ⟨o, 0⟩ :: L)) :
    Calls Try.prog 52 #[outPtr b, .slice q l.length cap, .int .i64 v] w fun en w' => en = .returned (.tuple #[]) ∧ St W0 w' K (.out b ⟨o2, 0⟩ :: L) := by
  have H := Lib.hid h
  have HK := Lib.hid hk
  have HF := Lib.hid hf
  have HFIT := Lib.hid hfit
  have HE := Lib.hid he
  have HOL := Lib.hid hol
  have HN := Lib.hid (show l.length ≤ 1000000 by omega)
  have HCK := Lib.hid hE
  have HALL := Lib.hid (marksErr_ok hE).2
  have hni : (l.length : Int) ≤ 20 := by omega
  have hle := preM_le v (l.map MarkR.m)
  obtain ⟨A, hA⟩ : ∃ A, o ++ preM v (l.map MarkR.m) 0 = A := ⟨_, rfl⟩
  have HA := Lib.hid (show o ++ beBytes (l.length : Int) (4 : Int).toNat = A by rw [← hA, preM_zero, List.length_map])
  have HFL := Lib.hid (vfits4 (l.length : Int) (by omega))
  have HR0 := Lib.hid (show o.length ≤ 100000000000000 by omega)
  have HLE := Lib.hid (fun k hk => preM_le v (l.map MarkR.m) k hk (by rw [List.length_map]; exact hn) (fun m hm => by
    obtain ⟨x, hx, rfl⟩ := List.mem_map.1 hm
    exact (hfit x hx).2))
  clear h hk hf hfit he hn hE hol hle
  go_enter Try.func52, Try.ntmps52
  go_wp2_with (first
    | (go_at_call 55; (with_reducible refine (marks_check v l q cap _ HCK.out HF.out HN.out HK.out H.out).mono ?_); rintro e_ wn ⟨rfl, h⟩; replace H := Lib.hid h; clear h)
    | (go_at_call 69; (with_reducible refine (so_intV b _ _ _ 4 HA.out HFL.out HR0.out H.out).mono ?_); rintro e_ wn ⟨rfl, h⟩; replace H := Lib.hid h; clear h))
  go_loopw [23] (fun iv wr => ∃ k : Nat, k ≤ l.length ∧ iv = .int .i64 k ∧ St W0 wr K (.out b ⟨o ++ preM v (l.map MarkR.m) k, 0⟩ :: L)) (fun iv _ => l.length - (intOf iv).toNat)
  case atStart => exact ⟨0, Nat.zero_le _, rfl, by rw [hA]; exact H.out⟩
  case round =>
    obtain ⟨k, hkl, rfl, hst⟩ := hrel
    clear H hA
    have H := Lib.hid hst
    clear hst
    by_cases hlt : k < l.length
    · as_aux_lemma =>
      obtain ⟨b0, off, hqq⟩ := marks_at HK.out H.out (by omega)
      subst hqq
      obtain ⟨x, hx⟩ : ∃ x, l[k] = x := ⟨_, rfl⟩
      have hmem : x ∈ l := hx ▸ List.getElem_mem hlt
      have hxk := marks_tops HK.out hmem
      have hcell := marks_cell HK.out H.out k hlt x hx
      have hmk : k < (l.map MarkR.m).length := by rw [List.length_map]; exact hlt
      have hmg : (l.map MarkR.m)[k] = x.m := by rw [List.getElem_map, hx]
      obtain ⟨hxl, hxf, hxr⟩ := HF.out x hmem
      obtain ⟨⟨p, e, c, tl, co⟩, xl, xq, xcap⟩ := x
      obtain ⟨c0, c1, c2, c3, c4⟩ : wr.cell? ⟨b0, off + k * 5, none⟩ = some (.int .i64 p) ∧ wr.cell? ⟨b0, off + k * 5 + 1, none⟩ = some (.int .i64 e) ∧ wr.cell? ⟨b0, off + k * 5 + 2, none⟩ = some (.bool c) ∧ wr.cell? ⟨b0, off + k * 5 + 3, none⟩ = some (.slice xq xl.length xcap) ∧ wr.cell? ⟨b0, off + k * 5 + 4, none⟩ = some (.int .i64 co) := hcell
      have HXK := Lib.hid (show K.has (Know.tops (.slice xq xl.length xcap) xl) from hxk)
      have HXL := Lib.hid (show xl.map (·.1) = tl from hxl)
      have HXF := Lib.hid (show FewT xl from hxf)
      have hkn : (k : Int) < (l.length : Int) := by omega
      have hft := (HFIT.out _ hmem).1
      have her := HALL.out (⟨p, e, c, tl, co⟩ : MarkS) (by have hz := List.getElem_mem hmk; rw [hmg] at hz; exact hz)
      obtain ⟨hw, hco, _, _⟩ := mErr_ok (show mErr v p e tl co = 0 from her)
      have hwt := who_t hw
      have HF8 := Lib.hid (vfits8 p (by have := hxr.1.2; simp only at this; omega))
      have HF2 := Lib.hid (vfits2 e (by omega))
      have HF4 := Lib.hid (vfits4 co (by omega))
      have HFT := Lib.hid (show FitTs (xl.map fun y => y.1) by rw [show (xl.map fun y => y.1) = tl from hxl]; exact hft)
      have hst1 := preM_step v (l.map MarkR.m) k hmk _ hmg
      have hle1 := HLE.out (k + 1) hmk
      have hol := HOL.out
      obtain ⟨B0, hB0⟩ : ∃ B, o ++ preM v (l.map MarkR.m) k = B := ⟨_, rfl⟩
      obtain ⟨B1, hB1⟩ : ∃ B, B0 ++ beBytes p (8 : Int).toNat = B := ⟨_, rfl⟩
      obtain ⟨B2, hB2⟩ : ∃ B, B1 ++ beBytes e (2 : Int).toNat = B := ⟨_, rfl⟩
      obtain ⟨B3, hB3⟩ : ∃ B, B2 ++ encO c = B := ⟨_, rfl⟩
      obtain ⟨B4, hB4⟩ : ∃ B, B3 ++ encTs tl = B := ⟨_, rfl⟩
      obtain ⟨B5, hB5⟩ : ∃ B, B4 ++ beBytes co (4 : Int).toNat = B := ⟨_, rfl⟩
      have hB6 : o ++ preM v (l.map MarkR.m) (k + 1) = B4 ++ (if v = 1 then beBytes co (4 : Int).toNat else []) := by
        rw [hst1, ← hB4, ← hB3, ← hB2, ← hB1, ← hB0]
        unfold encM
        simp only [List.append_assoc]
      have hlen : B4.length ≤ 1000000 := by
        have h6 := congrArg List.length hB6
        rw [List.length_append, List.length_append] at h6
        omega
      have hl0 : B0.length ≤ 100000000000000 ∧ B1.length ≤ 100000000000000 ∧ B2.length ≤ 100000000000000 ∧ B3.length ≤ 1000000 ∧ B4.length ≤ 100000000000000 := by
        have e4 := congrArg List.length hB4
        have e3 := congrArg List.length hB3
        have e2 := congrArg List.length hB2
        have e1 := congrArg List.length hB1
        rw [List.length_append] at e1 e2 e3 e4
        omega
      obtain ⟨tb, htb⟩ : ∃ b, wr.heap.size = b := ⟨_, rfl⟩
      have h := (H.out.allocRaw #[.int .i64 p, .int .i64 e, .bool c, .slice xq xl.length xcap, .int .i64 co] 92).p1
      rw [htb] at h
      have d0 := h.p1.rawCell 0
      have d1 := h.p1.rawCell 1
      have d2 := h.p1.rawCell 2
      have d3 := h.p1.rawCell 3
      have d4 := h.p1.rawCell 4
      simp at d0 d1 d2 d3 d4
      rw [hB0] at h
      have HB1 := Lib.hid hB1
      have HB2 := Lib.hid hB2
      have HB3 := Lib.hid hB3
      have HB4 := Lib.hid (show B3 ++ encTs (xl.map fun y => y.1) = B4 by rw [show (xl.map fun y => y.1) = tl from hxl]; exact hB4)
      have HB5 := Lib.hid hB5
      have HL0 := Lib.hid hl0
      clear H
      have H := Lib.hid h
      clear h hx hmem hxk hmk hmg hxl hxf hxr hft her hw hco hwt hst1 hle1 hol hB0 hB1 hB2 hB3 hB4 hlen hl0
      by_cases hv : v = 1
      · subst hv
        rw [if_pos rfl, hB5] at hB6
        have HB6 := Lib.hid hB6
        clear hB5 hB6
        go_wp2_with (first
    | (go_at_call 69; (with_reducible refine (so_intV b B0 B1 p 8 HB1.out HF8.out HL0.out.1 H.out).mono ?_); rintro e_ wn ⟨rfl, h⟩; have d0 := h.p1.rawCell 0; have d1 := h.p1.rawCell 1; have d2 := h.p1.rawCell 2; have d3 := h.p1.rawCell 3; have d4 := h.p1.rawCell 4; simp at d0 d1 d2 d3 d4; replace H := Lib.hid h; clear h)
    | (go_at_call 69; (with_reducible refine (so_intV b B1 B2 e 2 HB2.out HF2.out HL0.out.2.1 H.out).mono ?_); rintro e_ wn ⟨rfl, h⟩; have d0 := h.p1.rawCell 0; have d1 := h.p1.rawCell 1; have d2 := h.p1.rawCell 2; have d3 := h.p1.rawCell 3; have d4 := h.p1.rawCell 4; simp at d0 d1 d2 d3 d4; replace H := Lib.hid h; clear h)
    | (go_at_call 49; (with_reducible refine (txn_putBool b B2 B3 c HB3.out HL0.out.2.2.1 H.out).mono ?_); rintro e_ wn ⟨rfl, h⟩; have d0 := h.p1.rawCell 0; have d1 := h.p1.rawCell 1; have d2 := h.p1.rawCell 2; have d3 := h.p1.rawCell 3; have d4 := h.p1.rawCell 4; simp at d0 d1 d2 d3 d4; replace H := Lib.hid h; clear h)
    | (go_at_call 31; (with_reducible refine (val_putTopics b B3 B4 xl xq xcap HB4.out HL0.out.2.2.2.1 HFT.out HXK.out H.out).mono ?_); rintro e_ wn ⟨rfl, h⟩; have d0 := h.p1.rawCell 0; have d1 := h.p1.rawCell 1; have d2 := h.p1.rawCell 2; have d3 := h.p1.rawCell 3; have d4 := h.p1.rawCell 4; simp at d0 d1 d2 d3 d4; replace H := Lib.hid h; clear h)
    | (go_at_call 69; (with_reducible refine (so_intV b B4 B5 co 4 HB5.out HF4.out HL0.out.2.2.2.2 H.out).mono ?_); rintro e_ wn ⟨rfl, h⟩; have d0 := h.p1.rawCell 0; have d1 := h.p1.rawCell 1; have d2 := h.p1.rawCell 2; have d3 := h.p1.rawCell 3; have d4 := h.p1.rawCell 4; simp at d0 d1 d2 d3 d4; replace H := Lib.hid h; clear h))
        go_roundw
        case rel => exact ⟨k + 1, hlt, by go_num, by rw [HB6.out]; exact H.out.p1.drop⟩
        case measure => first | (simp [intOf]; done) | (simp [intOf]; omega)
      · rw [if_neg hv, List.append_nil] at hB6
        have HB6 := Lib.hid hB6
        have gv : (v == 1) = false := by rw [beq_eq_false_iff_ne]; exact hv
        clear hB5 hB6 hv
        go_wp2_with (first
    | (go_at_call 69; (with_reducible refine (so_intV b B0 B1 p 8 HB1.out HF8.out HL0.out.1 H.out).mono ?_); rintro e_ wn ⟨rfl, h⟩; have d0 := h.p1.rawCell 0; have d1 := h.p1.rawCell 1; have d2 := h.p1.rawCell 2; have d3 := h.p1.rawCell 3; have d4 := h.p1.rawCell 4; simp at d0 d1 d2 d3 d4; replace H := Lib.hid h; clear h)
    | (go_at_call 69; (with_reducible refine (so_intV b B1 B2 e 2 HB2.out HF2.out HL0.out.2.1 H.out).mono ?_); rintro e_ wn ⟨rfl, h⟩; have d0 := h.p1.rawCell 0; have d1 := h.p1.rawCell 1; have d2 := h.p1.rawCell 2; have d3 := h.p1.rawCell 3; have d4 := h.p1.rawCell 4; simp at d0 d1 d2 d3 d4; replace H := Lib.hid h; clear h)
    | (go_at_call 49; (with_reducible refine (txn_putBool b B2 B3 c HB3.out HL0.out.2.2.1 H.out).mono ?_); rintro e_ wn ⟨rfl, h⟩; have d0 := h.p1.rawCell 0; have d1 := h.p1.rawCell 1; have d2 := h.p1.rawCell 2; have d3 := h.p1.rawCell 3; have d4 := h.p1.rawCell 4; simp at d0 d1 d2 d3 d4; replace H := Lib.hid h; clear h)
    | (go_at_call 31; (with_reducible refine (val_putTopics b B3 B4 xl xq xcap HB4.out HL0.out.2.2.2.1 HFT.out HXK.out H.out).mono ?_); rintro e_ wn ⟨rfl, h⟩; have d0 := h.p1.rawCell 0; have d1 := h.p1.rawCell 1; have d2 := h.p1.rawCell 2; have d3 := h.p1.rawCell 3; have d4 := h.p1.rawCell 4; simp at d0 d1 d2 d3 d4; replace H := Lib.hid h; clear h))
        go_roundw
        case rel => exact ⟨k + 1, hlt, by go_num, by rw [HB6.out]; exact H.out.p1.drop⟩
        case measure => first | (simp [intOf]; done) | (simp [intOf]; omega)
    · obtain rfl : k = l.length := by omega
      have h := H.out
      rw [show preM v (l.map MarkR.m) l.length = encMs v (l.map MarkR.m) by rw [← preM_all, List.length_map], HE.out] at h
      clear H
      have H := Lib.hid h
      clear h
      go_wp2
      go_end0
      exact ⟨rfl, H.out⟩

end Go.Proofs.Ytombolmicfjjpaa

/- One end (pure). -/
namespace Go.Proofs.Ytombolmicfjjpaa
open Go.RowKit

end Go.Proofs.Ytombolmicfjjpaa

/- Ends of transactions, read. -/
namespace Go.Proofs.Ytombolmicfjjpaa
open Go.RowKit

end Go.Proofs.Ytombolmicfjjpaa

/- One end. -/
namespace Go.Proofs.Ytombolmicfjjpaa
open Go.RowKit

end Go.Proofs.Ytombolmicfjjpaa

/- One mark. -/
namespace Go.Proofs.Ytombolmicfjjpaa
open Go.RowKit

theorem freezeInt1 {W0 w : World} {K : Know} {L : List Res} {s : Nat} {T : TypeId} (n : Int) (h : St W0 w K (.raw s #[.int .i64 n] T :: L)) : St W0 w (K.and (Know.flat RI (.slice (some ⟨s, 0, none⟩) 1 1) 1 [n])) L := by
  refine h.freeze fun F S1 hF h1 => ?_
  have hlt := heap_lt h1.1
  have hs : S1 s := (h1.2 s).2 rfl
  refine ⟨some ⟨s, 0, none⟩, 1, rfl, fun _ => ⟨s, 0, rfl, .inr ⟨hs, hlt⟩, hlt, fun i hi => ?_⟩⟩
  have hi0 : i = 0 := by simp at hi; omega
  subst hi0
  refine ⟨[.int .i64 n], rfl, rfl, fun f u hu => ?_⟩
  have hc := cell_at h1.1 f
  simp only [Nat.zero_mul, Nat.zero_add]
  rw [hc]
  simpa using hu
theorem freezeTop1 {W0 w : World} {K : Know} {L : List Res} {s : Nat} {T : TypeId} (nm : Bs) (ps : List Int) (v : Value) (hk : K.has (Know.flat RI v 1 ps)) (h : St W0 w K (.raw s #[.string (bb nm), v] T :: L)) : St W0 w (K.and (Know.tops (.slice (some ⟨s, 0, none⟩) 1 1) [(⟨nm, ps⟩, v)])) L := by
  refine h.freeze fun F S1 hF h1 => ?_
  have hlt := heap_lt h1.1
  have hs : S1 s := (h1.2 s).2 rfl
  refine ⟨⟨some ⟨s, 0, none⟩, 1, rfl, fun _ => ⟨s, 0, rfl, .inr ⟨hs, hlt⟩, hlt, fun i hi => ?_⟩⟩, fun x hx => ?_⟩
  · have hi0 : i = 0 := by simp at hi; omega
    subst hi0
    refine ⟨[.string (bb nm), v], rfl, rfl, fun f u hu => ?_⟩
    have hc := cell_at h1.1 f
    simp only [Nat.zero_mul, Nat.zero_add]
    rw [hc]
    simpa using hu
  · rw [List.mem_singleton.1 hx]
    exact (Know.flat RI v 1 ps).mono w F _ (hk w F hF) (fun _ h => .inl h)
def z19 : Bs := encMs 0 [⟨0, 0, true, [⟨[97], [1]⟩], 0⟩]
theorem z19_len : z19.length = 30 := by kernel_rfl
theorem z19_err : marksErr 0 [⟨0, 0, true, [⟨[97], [1]⟩], 0⟩] = 0 := by kernel_rfl
theorem marks_check_z {W0 w : World} {K : Know} {L : List Res} (h : St W0 w K L) : Calls Try.prog 55 #[.slice none 0 0, .int .i64 0] w fun en w' => en = .returned (.int .i64 10) ∧ St W0 w' K L :=
  marks_check 0 [] none 0 10 (by kernel_rfl) (fun x hx => by cases hx) (by decide) (marks_nil K) h
theorem mark_write_z (po : Nat) {W0 w : World} {K : Know} {L : List Res} (hk : K.has (Know.marks (.slice (some ⟨po + 3, 0, none⟩) 1 1) [(⟨⟨0, 0, true, [⟨[97], [1]⟩], 0⟩, [((⟨[97], [1]⟩ : TopS), Value.slice (some ⟨po + 1, 0, none⟩) 1 1)], (some ⟨po + 2, 0, none⟩), 1⟩ : MarkR)])) (h : St W0 w K (.out po ⟨[], 0⟩ :: L)) :
    Calls Try.prog 52 #[outPtr po, .slice (some ⟨po + 3, 0, none⟩) 1 1, .int .i64 0] w fun en w' => en = .returned (.tuple #[]) ∧ St W0 w' K (.out po ⟨z19, 0⟩ :: L) := by
  have hf : FitTs [(⟨[97], [1]⟩ : TopS)] := ⟨by decide, fun t ht => by rw [List.mem_singleton.1 ht]; exact ⟨by decide, by decide, fun n hn => by rw [List.mem_singleton.1 hn]; decide⟩⟩
  exact mark_write_ok po [] z19 0 [(⟨⟨0, 0, true, [⟨[97], [1]⟩], 0⟩, [((⟨[97], [1]⟩ : TopS), Value.slice (some ⟨po + 1, 0, none⟩) 1 1)], (some ⟨po + 2, 0, none⟩), 1⟩ : MarkR)] (some ⟨po + 3, 0, none⟩) 1 rfl z19_err (fun x hx => by
    rw [List.mem_singleton.1 hx]
    exact ⟨rfl, ⟨by show (1 : Nat) ≤ 1000000; decide, fun y hy => by rw [List.mem_singleton.1 hy]; exact ⟨by show (1 : Nat) ≤ 140737488355328; decide, by show (1 : Nat) ≤ 1000000; decide⟩⟩, by show MarkS.R ⟨0, 0, true, [⟨[97], [1]⟩], 0⟩; unfold MarkS.R; decide⟩) (fun x hx => by
    rw [List.mem_singleton.1 hx]
    exact ⟨hf, by show (encM 0 ⟨0, 0, true, [⟨[97], [1]⟩], 0⟩).length ≤ 2000; decide +kernel⟩) (by show (1 : Nat) ≤ 20; decide) (by decide) hk h
set_option maxHeartbeats 1000000 in
set_option maxRecDepth 100000 in
theorem speaks19 {W0 w : World} {K : Know} {L : List Res} (h : St W0 w K L) :
    Calls Try.prog 50 #[] w fun en w' => en = .returned (.bool true) ∧ St W0 w' K L := by
  obtain ⟨po, hpo⟩ : ∃ b, w.heap.size = b := ⟨_, rfl⟩
  have h0 := h.allocOut
  rw [hpo] at h0
  have h1 := h0.allocRaw #[.int .i64 1] 3
  simp only [World.size_alloc, hpo] at h1
  have h2 := (freezeInt1 1 h1).allocRaw #[.string ⟨#[97]⟩, .slice (some ⟨po + 1, 0, none⟩) 1 1] 51
  simp only [World.size_alloc, hpo] at h2
  have h3 := (freezeTop1 [97] [1] _ (Know.has_right (Know.has_refl _)) h2).allocRaw #[.int .i64 0, .int .i64 0, .bool true, .slice (some ⟨po + 2, 0, none⟩) 1 1, .int .i64 0] 92
  simp only [World.size_alloc, hpo] at h3
  have h4 := freezeMark1 0 0 true [⟨[97], [1]⟩] 0 [((⟨[97], [1]⟩ : TopS), Value.slice (some ⟨po + 1, 0, none⟩) 1 1)] (some ⟨po + 2, 0, none⟩) 1 (Know.has_right (Know.has_refl _)) h3
  have H := Lib.hid h4
  have hl := z19_len
  clear h h0 h1 h2 h3 h4
  go_enter Try.func50, Try.ntmps50
  go_wp2_with (first
    | (go_at_call 52; (with_reducible refine (mark_write_z po (Know.has_right (Know.has_refl _)) H.out).mono ?_); rintro e_ wn ⟨rfl, h⟩; replace H := Lib.hid h; clear h)
    | (go_at_call 32; (with_reducible refine (so_textV po z19 H.out).mono ?_); rintro e_ wn ⟨rfl, h⟩; replace H := Lib.hid h; clear h)
    | (go_at_call 55; (with_reducible refine (marks_check_z H.out).mono ?_); rintro e_ wn ⟨rfl, h⟩; replace H := Lib.hid h; clear h))
  go_ret
  exact ⟨rfl, H.out.drop.know (Know.has_left (Know.has_left (Know.has_left (Know.has_refl _))))⟩

end Go.Proofs.Ytombolmicfjjpaa

/- Requests of transactions: are they whole. -/
namespace Go.Proofs.Ytombolmicfjjpaa
open Go.RowKit

end Go.Proofs.Ytombolmicfjjpaa

/- Add and End, read. -/
namespace Go.Proofs.Ytombolmicfjjpaa
open Go.RowKit

end Go.Proofs.Ytombolmicfjjpaa

/- A mark, read. -/
namespace Go.Proofs.Ytombolmicfjjpaa
open Go.RowKit

set_option maxHeartbeats 6000000 in
set_option maxRecDepth 100000 in
theorem mark_read1 (b : Nat) (i i1 i2 i3 i4 i5 : InS) (p e : Int) (c : Bool) (tl : List TopS) (co : Int) (h1 : i.int 8 = (p, i1)) (h2 : i1.int 2 = (e, i2)) (h3 : i2.boolP = (c, i3)) (h4 : i3.tops = (tl, i4)) (h5 : i4.int 4 = (co, i5)) {W0 w : World} {K : Know} {L : List Res} (h : St W0 w K (.inp b i :: L)) :
    Calls Try.prog 105 #[inPtr b, .int .i64 1] w fun en w' => ∃ (q : Option Addr) (cap : Nat) (lr : List (TopS × Value)), en = .returned (.agg #[.int .i64 p, .int .i64 e, .bool c, .slice q lr.length cap, .int .i64 co]) ∧ lr.map (·.1) = tl ∧ St W0 w' (K.and (Know.tops (.slice q lr.length cap) lr)) (.inp b i5 :: L) := by
  obtain ⟨rb, hrb⟩ : ∃ b, w.heap.size = b := ⟨_, rfl⟩
  obtain ⟨eb, heb⟩ : ∃ b, rb + 1 = b := ⟨_, rfl⟩
  have g1 := (h.allocRaw #[.int .i64 0, .int .i64 0, .bool false, .slice none 0 0, .int .i64 0] 92).allocRaw #[.int .i64 0, .int .i64 0, .bool false, .slice none 0 0, .int .i64 0] 92
  simp only [World.size_alloc, hrb, heb] at g1
  have H := Lib.hid g1.p2
  have H1 := Lib.hid h1
  have H2 := Lib.hid h2
  have H3 := Lib.hid h3
  have H4 := Lib.hid h4
  have H5 := Lib.hid h5
  clear h g1 h1 h2 h3 h4 h5
  go_enter Try.func105, Try.ntmps105
  go_wp2_with (first
    | (go_at_call 72; (with_reducible refine (s_intV b i i1 p 8 H1.out H.out).mono ?_); rintro e_ wn ⟨rfl, h⟩; have f0 := h.p1.rawFree 0; have g0 := h.p1.rawCell 0; simp at g0; have h := (show St W0 (wn.setCell ⟨eb, 0, none⟩ (.int .i64 p)) K (.inp b i1 :: .raw eb #[.int .i64 p, .int .i64 0, .bool false, .slice none 0 0, .int .i64 0] 92 :: .raw rb #[.int .i64 0, .int .i64 0, .bool false, .slice none 0 0, .int .i64 0] 92 :: L) from (h.p1.rawSet 0 (.int .i64 p)).p1); replace H := Lib.hid h; clear h)
    | (go_at_call 72; (with_reducible refine (s_intV b i1 i2 e 2 H2.out H.out).mono ?_); rintro e_ wn ⟨rfl, h⟩; have f1 := h.p1.rawFree 1; have g1 := h.p1.rawCell 1; simp at g1; have h := (show St W0 (wn.setCell ⟨eb, 1, none⟩ (.int .i64 e)) K (.inp b i2 :: .raw eb #[.int .i64 p, .int .i64 e, .bool false, .slice none 0 0, .int .i64 0] 92 :: .raw rb #[.int .i64 0, .int .i64 0, .bool false, .slice none 0 0, .int .i64 0] 92 :: L) from (h.p1.rawSet 1 (.int .i64 e)).p1); replace H := Lib.hid h; clear h)
    | (go_at_call 48; (with_reducible refine (s_bool b i2 i3 c H3.out H.out).mono ?_); rintro e_ wn ⟨rfl, h⟩; have f2 := h.p1.rawFree 2; have g2 := h.p1.rawCell 2; simp at g2; have h := (show St W0 (wn.setCell ⟨eb, 2, none⟩ (.bool c)) K (.inp b i3 :: .raw eb #[.int .i64 p, .int .i64 e, .bool c, .slice none 0 0, .int .i64 0] 92 :: .raw rb #[.int .i64 0, .int .i64 0, .bool false, .slice none 0 0, .int .i64 0] 92 :: L) from (h.p1.rawSet 2 (.bool c)).p1); replace H := Lib.hid h; clear h)
    | (go_at_call 25; (with_reducible refine (val_topics b i3 i4 tl H4.out H.out).mono ?_); rintro e_ wn ⟨v_, lr, rfl, hlr, h⟩; obtain ⟨q, cap, rfl⟩ := tops_form (Know.has_right (Know.has_refl _)) h; have HLR := Lib.hid hlr; clear hlr; have f3 := h.p1.rawFree 3; have g3 := h.p1.rawCell 3; simp at g3; have h := (show St W0 (wn.setCell ⟨eb, 3, none⟩ (.slice q lr.length cap)) (K.and (Know.tops (.slice q lr.length cap) lr)) (.inp b i4 :: .raw eb #[.int .i64 p, .int .i64 e, .bool c, .slice q lr.length cap, .int .i64 0] 92 :: .raw rb #[.int .i64 0, .int .i64 0, .bool false, .slice none 0 0, .int .i64 0] 92 :: L) from (h.p1.rawSet 3 (.slice q lr.length cap)).p1); replace H := Lib.hid h; clear h)
    | (go_at_call 72; (with_reducible refine (s_intV b i4 i5 co 4 H5.out H.out).mono ?_); rintro e_ wn ⟨rfl, h⟩; have f4 := h.p1.rawFree 4; have g4 := h.p1.rawCell 4; simp at g4; have h := (show St W0 (wn.setCell ⟨eb, 4, none⟩ (.int .i64 co)) (K.and (Know.tops (.slice q lr.length cap) lr)) (.inp b i5 :: .raw eb #[.int .i64 p, .int .i64 e, .bool c, .slice q lr.length cap, .int .i64 co] 92 :: .raw rb #[.int .i64 0, .int .i64 0, .bool false, .slice none 0 0, .int .i64 0] 92 :: L) from (h.p1.rawSet 4 (.int .i64 co)).p1); have c0 := h.p1.rawCell 0; have d0 := h.p2.rawCell 0; have r0 := h.p2.rawFree 0; have c1 := h.p1.rawCell 1; have d1 := h.p2.rawCell 1; have r1 := h.p2.rawFree 1; have c2 := h.p1.rawCell 2; have d2 := h.p2.rawCell 2; have r2 := h.p2.rawFree 2; have c3 := h.p1.rawCell 3; have d3 := h.p2.rawCell 3; have r3 := h.p2.rawFree 3; have c4 := h.p1.rawCell 4; have d4 := h.p2.rawCell 4; have r4 := h.p2.rawFree 4; simp at c0 d0 c1 d1 c2 d2 c3 d3 c4 d4; replace H := Lib.hid h; clear h))
  have hz : St W0 _ _ (.raw rb #[.int .i64 p, .int .i64 e, .bool c, .slice q lr.length cap, .int .i64 co] 92 :: .inp b i5 :: .raw eb #[.int .i64 p, .int .i64 e, .bool c, .slice q lr.length cap, .int .i64 co] 92 :: L) := (((((H.out.p2.rawSet 0 _).rawSet 1 _).rawSet 2 _).rawSet 3 _).rawSet 4 _)
  refine bodyPost_ret (rc_cell_only rfl _ _ rb [.int .i64 p, .int .i64 e, .bool c, .slice q lr.length cap, .int .i64 co] _ rfl (rc_range hz) Try.underlying92 rfl (by kernel_rfl)) rfl ?_
  exact ⟨q, cap, lr, rfl, HLR.out, hz.drop.p1.drop⟩

set_option maxHeartbeats 6000000 in
set_option maxRecDepth 100000 in
theorem mark_read0 (b : Nat) (v : Int) (hv : v ≠ 1) (i i1 i2 i3 i4 : InS) (p e : Int) (c : Bool) (tl : List TopS) (h1 : i.int 8 = (p, i1)) (h2 : i1.int 2 = (e, i2)) (h3 : i2.boolP = (c, i3)) (h4 : i3.tops = (tl, i4)) {W0 w : World} {K : Know} {L : List Res} (h : St W0 w K (.inp b i :: L)) :
    Calls Try.prog 105 #[inPtr b, .int .i64 v] w fun en w' => ∃ (q : Option Addr) (cap : Nat) (lr : List (TopS × Value)), en = .returned (.agg #[.int .i64 p, .int .i64 e, .bool c, .slice q lr.length cap, .int .i64 0]) ∧ lr.map (·.1) = tl ∧ St W0 w' (K.and (Know.tops (.slice q lr.length cap) lr)) (.inp b i4 :: L) := by
  obtain ⟨rb, hrb⟩ : ∃ b, w.heap.size = b := ⟨_, rfl⟩
  obtain ⟨eb, heb⟩ : ∃ b, rb + 1 = b := ⟨_, rfl⟩
  have g1 := (h.allocRaw #[.int .i64 0, .int .i64 0, .bool false, .slice none 0 0, .int .i64 0] 92).allocRaw #[.int .i64 0, .int .i64 0, .bool false, .slice none 0 0, .int .i64 0] 92
  simp only [World.size_alloc, hrb, heb] at g1
  have H := Lib.hid g1.p2
  have H1 := Lib.hid h1
  have H2 := Lib.hid h2
  have H3 := Lib.hid h3
  have H4 := Lib.hid h4
  have gv : (v == 1) = false := by rw [beq_eq_false_iff_ne]; exact hv
  clear h g1 h1 h2 h3 h4 hv
  go_enter Try.func105, Try.ntmps105
  go_wp2_with (first
    | (go_at_call 72; (with_reducible refine (s_intV b i i1 p 8 H1.out H.out).mono ?_); rintro e_ wn ⟨rfl, h⟩; have f0 := h.p1.rawFree 0; have g0 := h.p1.rawCell 0; simp at g0; have h := (show St W0 (wn.setCell ⟨eb, 0, none⟩ (.int .i64 p)) K (.inp b i1 :: .raw eb #[.int .i64 p, .int .i64 0, .bool false, .slice none 0 0, .int .i64 0] 92 :: .raw rb #[.int .i64 0, .int .i64 0, .bool false, .slice none 0 0, .int .i64 0] 92 :: L) from (h.p1.rawSet 0 (.int .i64 p)).p1); replace H := Lib.hid h; clear h)
    | (go_at_call 72; (with_reducible refine (s_intV b i1 i2 e 2 H2.out H.out).mono ?_); rintro e_ wn ⟨rfl, h⟩; have f1 := h.p1.rawFree 1; have g1 := h.p1.rawCell 1; simp at g1; have h := (show St W0 (wn.setCell ⟨eb, 1, none⟩ (.int .i64 e)) K (.inp b i2 :: .raw eb #[.int .i64 p, .int .i64 e, .bool false, .slice none 0 0, .int .i64 0] 92 :: .raw rb #[.int .i64 0, .int .i64 0, .bool false, .slice none 0 0, .int .i64 0] 92 :: L) from (h.p1.rawSet 1 (.int .i64 e)).p1); replace H := Lib.hid h; clear h)
    | (go_at_call 48; (with_reducible refine (s_bool b i2 i3 c H3.out H.out).mono ?_); rintro e_ wn ⟨rfl, h⟩; have f2 := h.p1.rawFree 2; have g2 := h.p1.rawCell 2; simp at g2; have h := (show St W0 (wn.setCell ⟨eb, 2, none⟩ (.bool c)) K (.inp b i3 :: .raw eb #[.int .i64 p, .int .i64 e, .bool c, .slice none 0 0, .int .i64 0] 92 :: .raw rb #[.int .i64 0, .int .i64 0, .bool false, .slice none 0 0, .int .i64 0] 92 :: L) from (h.p1.rawSet 2 (.bool c)).p1); replace H := Lib.hid h; clear h)
    | (go_at_call 25; (with_reducible refine (val_topics b i3 i4 tl H4.out H.out).mono ?_); rintro e_ wn ⟨v_, lr, rfl, hlr, h⟩; obtain ⟨q, cap, rfl⟩ := tops_form (Know.has_right (Know.has_refl _)) h; have HLR := Lib.hid hlr; clear hlr; have f3 := h.p1.rawFree 3; have g3 := h.p1.rawCell 3; simp at g3; have h := (show St W0 (wn.setCell ⟨eb, 3, none⟩ (.slice q lr.length cap)) (K.and (Know.tops (.slice q lr.length cap) lr)) (.inp b i4 :: .raw eb #[.int .i64 p, .int .i64 e, .bool c, .slice q lr.length cap, .int .i64 0] 92 :: .raw rb #[.int .i64 0, .int .i64 0, .bool false, .slice none 0 0, .int .i64 0] 92 :: L) from (h.p1.rawSet 3 (.slice q lr.length cap)).p1); have c0 := h.p1.rawCell 0; have d0 := h.p2.rawCell 0; have r0 := h.p2.rawFree 0; have c1 := h.p1.rawCell 1; have d1 := h.p2.rawCell 1; have r1 := h.p2.rawFree 1; have c2 := h.p1.rawCell 2; have d2 := h.p2.rawCell 2; have r2 := h.p2.rawFree 2; have c3 := h.p1.rawCell 3; have d3 := h.p2.rawCell 3; have r3 := h.p2.rawFree 3; have c4 := h.p1.rawCell 4; have d4 := h.p2.rawCell 4; have r4 := h.p2.rawFree 4; simp at c0 d0 c1 d1 c2 d2 c3 d3 c4 d4; replace H := Lib.hid h; clear h))
  have hz : St W0 _ _ (.raw rb #[.int .i64 p, .int .i64 e, .bool c, .slice q lr.length cap, .int .i64 0] 92 :: .inp b i4 :: .raw eb #[.int .i64 p, .int .i64 e, .bool c, .slice q lr.length cap, .int .i64 0] 92 :: L) := (((((H.out.p2.rawSet 0 _).rawSet 1 _).rawSet 2 _).rawSet 3 _).rawSet 4 _)
  refine bodyPost_ret (rc_cell_only rfl _ _ rb [.int .i64 p, .int .i64 e, .bool c, .slice q lr.length cap, .int .i64 0] _ rfl (rc_range hz) Try.underlying92 rfl (by kernel_rfl)) rfl ?_
  exact ⟨q, cap, lr, rfl, HLR.out, hz.drop.p1.drop⟩

end Go.Proofs.Ytombolmicfjjpaa
