/- Layer 1: the walks of its statements. -/
import Derived.Test.YtbcfnfcmghbelaaRef01
import Derived.Test.YtbcfnfcmghbelaaArgs
namespace Go.Proofs.Ytbcfnfcmghbelaa
open Go.RowKit

set_option maxHeartbeats 400000 in
set_option maxRecDepth 100000 in
theorem speaks01 (w : World) :
    Calls Try.prog 14 #[] w fun en w' => en = .returned (.bool true) ∧ Keeps (fun _ => False) w w' := by
  have e1 : (⟨[255, 254], 0, 0⟩ : InS).int 2 = (-2, ⟨[255, 254], 2, 0⟩) := by decide
  have e2 : (⟨[255, 254], 2, 0⟩ : InS).left = 0 := by decide
  have e3 : (⟨[255, 254], 2, 0⟩ : InS).close = ⟨[255, 254], 2, 0⟩ := by rfl
  have e4 : (⟨[255, 254], 2, 0⟩ : InS).int 1 = (0, ⟨[255, 254], 2, 1⟩) := by rfl
  have E1 := Lib.hid e1
  have E2 := Lib.hid e2
  have E3 := Lib.hid e3
  have E4 := Lib.hid e4
  clear e1 e2 e3 e4
  go_enter Try.func14, Try.ntmps14
  go_wp2_with (first
    | (go_at_call 15; refine (in_new [255, 254] _ (by decide)).mono ?_; rintro e w1 ⟨rfl, h1, k1⟩; have H1 := Lib.hid h1; have K1 := Lib.hid k1; clear h1 k1)
    | (go_at_call 18; refine (in_int _ _ _ _ H1.out).mono ?_; rw [E1.out]; rintro e w2 ⟨rfl, h2, k2⟩; have H2 := Lib.hid h2; have K2 := Lib.hid k2; clear h2 k2)
    | (go_at_call 21; refine (in_left _ _ _ H2.out).mono ?_; rw [E2.out]; rintro e w3 ⟨rfl, n3, rfl⟩)
    | (go_at_call 24; refine (in_close _ _ _ (H2.out.drewN _)).mono ?_; rw [E3.out]; rintro e w4 ⟨rfl, h4, k4⟩; have H4 := Lib.hid h4; have K4 := Lib.hid k4; clear h4 k4)
    | (go_at_call 18; refine (in_int _ _ _ _ H4.out).mono ?_; rw [E4.out]; rintro e w5 ⟨rfl, h5, k5⟩; have H5 := Lib.hid h5; have K5 := Lib.hid k5; clear h5 k5)
    | (go_at_call 23; refine (in_err _ _ _ H5.out).mono ?_; rintro e w6 ⟨rfl, rfl⟩))
  go_ret
  exact ⟨rfl, K1.out.seq (((K2.out.drewN n3).trans K4.out).trans K5.out) (fun k hk e => absurd e (by omega))⟩

/-- An act of reading. -/
structure ActM where
  k : Int
  n : Int
  m : Int

def RAct (_ : World) (cs : List Value) (a : ActM) : Prop :=
  cs = [.int .u8 a.k, .int .i64 a.n, .int .i64 a.m] ∧ 0 ≤ a.k ∧ a.k < 256 ∧ -9223372036854775808 ≤ a.n ∧ a.n < 9223372036854775808 ∧ -9223372036854775808 ≤ a.m ∧ a.m < 9223372036854775808

theorem InS.int_bad {i : InS} {n : Int} (h : n < 1 ∨ 8 < n) : i.int n = (0, i.fail 4) := if_pos h
theorem InS.int_of {i : InS} {n : Int} (h : ¬ (n < 1 ∨ 8 < n)) : i.int n = (sInt (i.take n).1, (i.take n).2) := if_neg h
theorem InS.fail_of {i : InS} {e : Int} (h : i.err ≠ 0) : i.fail e = i := if_neg h
theorem InS.int_err {i : InS} {n : Int} (h : i.err ≠ 0) : i.int n = (0, i) := by
  unfold InS.int; split
  · rw [fail_of h]
  · rw [take_err h]; rfl
theorem InS.count_ok {i i' : InS} {n m x : Int} (h : i.int n = (x, i')) (h0 : 0 ≤ x) (h1 : ¬ (0 < m ∧ (i'.left : Int) / m < x)) : i.count n m = (x, i') := by
  unfold InS.count; simp only [h]; rw [if_neg (by omega), if_neg h1]
theorem InS.count_neg {i i' : InS} {n m x : Int} (h : i.int n = (x, i')) (h0 : x < 0) : i.count n m = (0, i'.fail 4) := by
  unfold InS.count; simp only [h]; rw [if_pos h0]
theorem InS.count_many {i i' : InS} {n m x : Int} (h : i.int n = (x, i')) (h0 : 0 ≤ x) (hm : 0 < m) (h1 : (i'.left : Int) / m < x) : i.count n m = (0, i'.fail 1) := by
  unfold InS.count; simp only [h]; rw [if_neg (by omega), if_pos ⟨hm, h1⟩]
theorem InS.count_zero {i i' : InS} {n m : Int} (h : i.int n = (0, i')) (_ : True) : i.count n m = (0, i') :=
  count_ok h (by omega) (fun hh => by have := Int.ediv_nonneg (a := (i'.left : Int)) (b := m) (by omega) (by omega); omega)
theorem InS.count_err {i : InS} {n m : Int} (h : i.err ≠ 0) : i.count n m = (0, i) := count_zero (int_err h) trivial

set_option maxHeartbeats 8000000 in
set_option maxRecDepth 100000 in
theorem inputReads_any (s : Bs) (v : Value) (acts : List ActM) (w : World) (hr : RowsOf RAct (· < w.heap.size) w v 3 acts) (hs : s.length ≤ maxLen) (hl : acts.length ≤ maxLen) :
    Calls Try.prog 3 #[.string (bb s), v] w fun en w' => en = .returned (.bool true) ∧ Below w.heap.size w w' := by
  unfold maxLen at hs hl
  obtain ⟨p, cap, rfl, hrow⟩ := hr
  have HROW := Lib.hid hrow
  clear hrow
  by_cases h2000 : 2000 < s.length
  · go_enter Try.func3, Try.ntmps3
    go_wp2_with (first
      | (go_at_call 14; refine (speaks01 _).mono ?_; rintro e w1 ⟨rfl, k1⟩; have K1 := Lib.hid k1; clear k1))
    go_ret
    exact ⟨rfl, K1.out.below (Nat.le_refl _) (by simp)⟩
  · by_cases h100 : 100 < acts.length
    · go_enter Try.func3, Try.ntmps3
      go_wp2_with (first
        | (go_at_call 14; refine (speaks01 _).mono ?_; rintro e w1 ⟨rfl, k1⟩; have K1 := Lib.hid k1; clear k1))
      go_ret
      exact ⟨rfl, K1.out.below (Nat.le_refl _) (by simp)⟩
    · have hs2 : s.length ≤ 140737488355328 := by omega
      go_enter Try.func3, Try.ntmps3
      go_wp2_with (first
        | (go_at_call 14; refine (speaks01 _).mono ?_; rintro e w1 ⟨rfl, k1⟩; have K1 := Lib.hid k1; clear k1)
        | (go_at_call 15; refine (in_new _ _ hs2).mono ?_; rintro e w2 ⟨rfl, h2, k2⟩; have H2 := Lib.hid h2; have K2 := Lib.hid k2; clear h2 k2))
      go_loopw [6, 7, 28] (fun av ev kv wr => ∃ (k : Nat) (i : InS), k ≤ acts.length ∧ i.s = s ∧ av = .int .i64 i.pos ∧ ev = .int .i64 i.err ∧ kv = .int .i64 k ∧ IsIn wr w1.heap.size i ∧ Below w.heap.size w wr ∧ w1.heap.size < wr.heap.size) (fun _ _ kv _ => acts.length - (intOf kv).toNat)
      case atStart => exact ⟨0, ⟨s, 0, 0⟩, Nat.zero_le _, rfl, rfl, rfl, rfl, H2.out, (K1.out.below (Nat.le_refl _) (by simp)).trans (K2.out.below K1.out.size (by simp)), H2.out.lt⟩
      case round =>
        obtain ⟨k, i, hkl, his, rfl, rfl, rfl, hin, hbl, hsz⟩ := hrel
        have HIN := Lib.hid hin
        have HBL := Lib.hid hbl
        have HIS := Lib.hid his
        clear hin hbl his
        have hw1 := K1.out.size
        have hok := HIN.out.2
        unfold InS.ok at hok
        rw [HIS.out] at hok
        obtain ⟨hpos, _⟩ := hok
        by_cases hlt : k < acts.length
        · obtain ⟨b, off, rfl, hbD, hbs, hcells⟩ := HROW.out (by omega)
          obtain ⟨cs, hcs, ⟨rfl, hk0, hk1, hn0, hn1, hm0, hm1⟩, hcell⟩ := hcells k hlt
          have c0 : wr.cell? ⟨b, off + k * 3, none⟩ = some (.int .u8 acts[k].k) := (HBL.out.cell (p := ⟨b, off + k * 3, none⟩) hbD).trans (hcell 0 _ rfl)
          have c1 : wr.cell? ⟨b, off + k * 3 + 1, none⟩ = some (.int .i64 acts[k].n) := (HBL.out.cell (p := ⟨b, off + k * 3 + 1, none⟩) hbD).trans (hcell 1 _ rfl)
          have c2 : wr.cell? ⟨b, off + k * 3 + 2, none⟩ = some (.int .i64 acts[k].m) := (HBL.out.cell (p := ⟨b, off + k * 3 + 2, none⟩) hbD).trans (hcell 2 _ rfl)
          clear hcs hcell hcells
          generalize acts[k] = act at *
          obtain ⟨kind, n, m⟩ := act
          simp only at hk0 hk1 hn0 hn1 hm0 hm1 c0 c1 c2
          by_cases hk0 : kind % 4 = 0
          · by_cases he : i.err = 0
            · by_cases hneg : n < 0
              · as_aux_lemma =>
                  have e1 : i.take n = ([], { i with err := 4 }) := by rw [InS.take_neg hneg]; unfold InS.fail; rw [if_pos he]
                  have HT := Lib.hid e1
                  have hL : (({ i with err := 4 } : InS).left : Int) = s.length - ({ i with err := 4 } : InS).pos := by simp only [InS.left, HIS.out]; omega
                  have HL := Lib.hid hL
                  clear e1 hL
                  go_wp2_with (first
                    | (go_at_call 16; refine (in_take _ _ _ _ (HIN.out.keeps (M := fun _ => False) ((Keeps.refl _ _).alloc _) (by simp))).mono ?_; rw [HT.out]; rintro e w3 ⟨rfl, h3, k3⟩; have H3 := Lib.hid h3; have c3 := k3.cell wr.heap.size 1 (by simp) (by omega); have K3 := Lib.hid k3; clear h3 k3)
                    | (go_at_call 21; refine (in_left _ _ _ H3.out).mono ?_; rw [HL.out]; rintro e w4 ⟨rfl, n4, rfl⟩)
                    | (go_at_call 22; refine (in_at _ _ _ (H3.out.drewN _)).mono ?_; rintro e w5 ⟨rfl, rfl⟩)
                    | (go_at_call 23; refine (in_err _ _ _ (H3.out.drewN _)).mono ?_; rintro e w6 ⟨rfl, rfl⟩))
                  go_roundw
                  case rel =>
                    exact ⟨k + 1, { i with err := 4 }, hlt, HIS.out, rfl, (by first | rfl | (simp only [he])), by go_num, H3.out.drewN _, ((HBL.out.alloc (by omega) _).trans (K3.out.below (by simp; omega) (by rintro k rfl; omega))).drewN' _, by have := K3.out.size; simp at this; simp; omega⟩
                  case measure => simp [intOf]; omega
              · obtain ⟨m', rfl⟩ : ∃ m' : Nat, n = m' := ⟨n.toNat, by omega⟩
                by_cases hl2 : (s.length : Int) - i.pos < m'
                · as_aux_lemma =>
                    have hl3 : (i.left : Int) < m' := by simp only [InS.left, HIS.out]; omega
                    have e1 : i.take m' = ([], { i with err := 1 }) := by rw [InS.take_short (by omega) hl3]; unfold InS.fail; rw [if_pos he]
                    have HT := Lib.hid e1
                    have hL : (({ i with err := 1 } : InS).left : Int) = s.length - ({ i with err := 1 } : InS).pos := by simp only [InS.left, HIS.out]; omega
                    have HL := Lib.hid hL
                    clear e1 hL
                    go_wp2_with (first
                      | (go_at_call 16; refine (in_take _ _ _ _ (HIN.out.keeps (M := fun _ => False) ((Keeps.refl _ _).alloc _) (by simp))).mono ?_; rw [HT.out]; rintro e w3 ⟨rfl, h3, k3⟩; have H3 := Lib.hid h3; have c3 := k3.cell wr.heap.size 1 (by simp) (by omega); have K3 := Lib.hid k3; clear h3 k3)
                      | (go_at_call 21; refine (in_left _ _ _ H3.out).mono ?_; rw [HL.out]; rintro e w4 ⟨rfl, n4, rfl⟩)
                      | (go_at_call 22; refine (in_at _ _ _ (H3.out.drewN _)).mono ?_; rintro e w5 ⟨rfl, rfl⟩)
                      | (go_at_call 23; refine (in_err _ _ _ (H3.out.drewN _)).mono ?_; rintro e w6 ⟨rfl, rfl⟩))
                    go_roundw
                    case rel =>
                      exact ⟨k + 1, { i with err := 1 }, hlt, HIS.out, rfl, (by first | rfl | (simp only [he])), by go_num, H3.out.drewN _, ((HBL.out.alloc (by omega) _).trans (K3.out.below (by simp; omega) (by rintro k rfl; omega))).drewN' _, by have := K3.out.size; simp at this; simp; omega⟩
                    case measure => simp [intOf]; omega
                · as_aux_lemma =>
                    have hl3 : ¬ (i.left : Int) < m' := by simp only [InS.left, HIS.out]; omega
                    have e1 : i.take m' = ((s.drop i.pos).take m', { i with pos := i.pos + m' }) := by rw [InS.take_ok (n := (m' : Int)) he (by omega) hl3, HIS.out]; rfl
                    have HT := Lib.hid e1
                    have hL : (({ i with pos := i.pos + m' } : InS).left : Int) = s.length - ({ i with pos := i.pos + m' } : InS).pos := by simp only [InS.left, HIS.out]; omega
                    have HL := Lib.hid hL
                    clear e1 hL
                    go_wp2_with (first
                      | (go_at_call 16; refine (in_take _ _ _ _ (HIN.out.keeps (M := fun _ => False) ((Keeps.refl _ _).alloc _) (by simp))).mono ?_; rw [HT.out]; rintro e w3 ⟨rfl, h3, k3⟩; have H3 := Lib.hid h3; have c3 := k3.cell wr.heap.size 1 (by simp) (by omega); have K3 := Lib.hid k3; clear h3 k3)
                      | (go_at_call 21; refine (in_left _ _ _ H3.out).mono ?_; rw [HL.out]; rintro e w4 ⟨rfl, n4, rfl⟩)
                      | (go_at_call 22; refine (in_at _ _ _ (H3.out.drewN _)).mono ?_; rintro e w5 ⟨rfl, rfl⟩)
                      | (go_at_call 23; refine (in_err _ _ _ (H3.out.drewN _)).mono ?_; rintro e w6 ⟨rfl, rfl⟩))
                    go_roundw
                    case rel =>
                      exact ⟨k + 1, { i with pos := i.pos + m' }, hlt, HIS.out, rfl, (by first | rfl | (simp only [he])), by go_num, H3.out.drewN _, ((HBL.out.alloc (by omega) _).trans (K3.out.below (by simp; omega) (by rintro k rfl; omega))).drewN' _, by have := K3.out.size; simp at this; simp; omega⟩
                    case measure => simp [intOf]; omega
            · as_aux_lemma =>
                have e1 : i.take n = ([], i) := InS.take_err he
                have HT := Lib.hid e1
                have hL : ((i : InS).left : Int) = s.length - (i : InS).pos := by simp only [InS.left, HIS.out]; omega
                have HL := Lib.hid hL
                clear e1 hL
                go_wp2_with (first
                  | (go_at_call 16; refine (in_take _ _ _ _ (HIN.out.keeps (M := fun _ => False) ((Keeps.refl _ _).alloc _) (by simp))).mono ?_; rw [HT.out]; rintro e w3 ⟨rfl, h3, k3⟩; have H3 := Lib.hid h3; have c3 := k3.cell wr.heap.size 1 (by simp) (by omega); have K3 := Lib.hid k3; clear h3 k3)
                  | (go_at_call 21; refine (in_left _ _ _ H3.out).mono ?_; rw [HL.out]; rintro e w4 ⟨rfl, n4, rfl⟩)
                  | (go_at_call 22; refine (in_at _ _ _ (H3.out.drewN _)).mono ?_; rintro e w5 ⟨rfl, rfl⟩)
                  | (go_at_call 23; refine (in_err _ _ _ (H3.out.drewN _)).mono ?_; rintro e w6 ⟨rfl, rfl⟩))
                go_roundw
                case rel =>
                  exact ⟨k + 1, i, hlt, HIS.out, rfl, (by first | rfl | (simp only [he])), by go_num, H3.out.drewN _, ((HBL.out.alloc (by omega) _).trans (K3.out.below (by simp; omega) (by rintro k rfl; omega))).drewN' _, by have := K3.out.size; simp at this; simp; omega⟩
                case measure => simp [intOf]; omega
          · by_cases hk1 : kind % 4 = 1
            · by_cases he : i.err = 0
              · by_cases hneg : n < 1 ∨ 8 < n
                · rcases hneg with hneg | hneg
                  · as_aux_lemma =>
                      have e1 : i.int n = (0, { i with err := 4 }) := by rw [InS.int_bad (by omega)]; unfold InS.fail; rw [if_pos he]
                      have HT := Lib.hid e1
                      have hL : (({ i with err := 4 } : InS).left : Int) = s.length - ({ i with err := 4 } : InS).pos := by simp only [InS.left, HIS.out]; omega
                      have HL := Lib.hid hL
                      clear e1 hL
                      go_wp2_with (first
                        | (go_at_call 18; refine (in_int _ _ _ _ (HIN.out.keeps (M := fun _ => False) ((Keeps.refl _ _).alloc _) (by simp))).mono ?_; rw [HT.out]; rintro e w3 ⟨rfl, h3, k3⟩; have H3 := Lib.hid h3; have c3 := k3.cell wr.heap.size 1 (by simp) (by omega); have K3 := Lib.hid k3; clear h3 k3)
                        | (go_at_call 17; refine (ref_int _ _ (by have := HS8.out; simp; omega)).mono ?_; rintro e w9 ⟨rfl, rfl⟩)
                        | (go_at_call 21; refine (in_left _ _ _ H3.out).mono ?_; rw [HL.out]; rintro e w4 ⟨rfl, n4, rfl⟩)
                        | (go_at_call 22; refine (in_at _ _ _ (H3.out.drewN _)).mono ?_; rintro e w5 ⟨rfl, rfl⟩)
                        | (go_at_call 23; refine (in_err _ _ _ (H3.out.drewN _)).mono ?_; rintro e w6 ⟨rfl, rfl⟩))
                      go_roundw
                      case rel =>
                        exact ⟨k + 1, { i with err := 4 }, hlt, HIS.out, rfl, (by first | rfl | (simp only [he])), by go_num, H3.out.drewN _, ((HBL.out.alloc (by omega) _).trans (K3.out.below (by simp; omega) (by rintro k rfl; omega))).drewN' _, by have := K3.out.size; simp at this; simp; omega⟩
                      case measure => simp [intOf]; omega
                  · as_aux_lemma =>
                      have e1 : i.int n = (0, { i with err := 4 }) := by rw [InS.int_bad (by omega)]; unfold InS.fail; rw [if_pos he]
                      have HT := Lib.hid e1
                      have hL : (({ i with err := 4 } : InS).left : Int) = s.length - ({ i with err := 4 } : InS).pos := by simp only [InS.left, HIS.out]; omega
                      have HL := Lib.hid hL
                      clear e1 hL
                      go_wp2_with (first
                        | (go_at_call 18; refine (in_int _ _ _ _ (HIN.out.keeps (M := fun _ => False) ((Keeps.refl _ _).alloc _) (by simp))).mono ?_; rw [HT.out]; rintro e w3 ⟨rfl, h3, k3⟩; have H3 := Lib.hid h3; have c3 := k3.cell wr.heap.size 1 (by simp) (by omega); have K3 := Lib.hid k3; clear h3 k3)
                        | (go_at_call 17; refine (ref_int _ _ (by have := HS8.out; simp; omega)).mono ?_; rintro e w9 ⟨rfl, rfl⟩)
                        | (go_at_call 21; refine (in_left _ _ _ H3.out).mono ?_; rw [HL.out]; rintro e w4 ⟨rfl, n4, rfl⟩)
                        | (go_at_call 22; refine (in_at _ _ _ (H3.out.drewN _)).mono ?_; rintro e w5 ⟨rfl, rfl⟩)
                        | (go_at_call 23; refine (in_err _ _ _ (H3.out.drewN _)).mono ?_; rintro e w6 ⟨rfl, rfl⟩))
                      go_roundw
                      case rel =>
                        exact ⟨k + 1, { i with err := 4 }, hlt, HIS.out, rfl, (by first | rfl | (simp only [he])), by go_num, H3.out.drewN _, ((HBL.out.alloc (by omega) _).trans (K3.out.below (by simp; omega) (by rintro k rfl; omega))).drewN' _, by have := K3.out.size; simp at this; simp; omega⟩
                      case measure => simp [intOf]; omega
                · have hs1 : 1 ≤ n := by omega
                  have hs8 : n ≤ 8 := by omega
                  clear hneg
                  by_cases hl2 : (s.length : Int) - i.pos < n
                  · as_aux_lemma =>
                      have hl3 : (i.left : Int) < n := by simp only [InS.left, HIS.out]; omega
                      have e1 : i.int n = (0, { i with err := 1 }) := by rw [InS.int_of (by omega), InS.take_short (by omega) hl3]; unfold InS.fail; rw [if_pos he]; rfl
                      have HT := Lib.hid e1
                      have hL : (({ i with err := 1 } : InS).left : Int) = s.length - ({ i with err := 1 } : InS).pos := by simp only [InS.left, HIS.out]; omega
                      have HL := Lib.hid hL
                      clear e1 hL
                      go_wp2_with (first
                        | (go_at_call 18; refine (in_int _ _ _ _ (HIN.out.keeps (M := fun _ => False) ((Keeps.refl _ _).alloc _) (by simp))).mono ?_; rw [HT.out]; rintro e w3 ⟨rfl, h3, k3⟩; have H3 := Lib.hid h3; have c3 := k3.cell wr.heap.size 1 (by simp) (by omega); have K3 := Lib.hid k3; clear h3 k3)
                        | (go_at_call 17; refine (ref_int _ _ (by have := HS8.out; simp; omega)).mono ?_; rintro e w9 ⟨rfl, rfl⟩)
                        | (go_at_call 21; refine (in_left _ _ _ H3.out).mono ?_; rw [HL.out]; rintro e w4 ⟨rfl, n4, rfl⟩)
                        | (go_at_call 22; refine (in_at _ _ _ (H3.out.drewN _)).mono ?_; rintro e w5 ⟨rfl, rfl⟩)
                        | (go_at_call 23; refine (in_err _ _ _ (H3.out.drewN _)).mono ?_; rintro e w6 ⟨rfl, rfl⟩))
                      go_roundw
                      case rel =>
                        exact ⟨k + 1, { i with err := 1 }, hlt, HIS.out, rfl, (by first | rfl | (simp only [he])), by go_num, H3.out.drewN _, ((HBL.out.alloc (by omega) _).trans (K3.out.below (by simp; omega) (by rintro k rfl; omega))).drewN' _, by have := K3.out.size; simp at this; simp; omega⟩
                      case measure => simp [intOf]; omega
                  · obtain ⟨m', rfl⟩ : ∃ m' : Nat, n = m' := ⟨n.toNat, by omega⟩
                    have hd1 : decide ((m' : Int) < 1) = false := by simpa using hs1
                    have hd8 : decide (8 < (m' : Int)) = false := by simpa using hs8
                    have HS8 := Lib.hid (And.intro hs1 hs8)
                    clear hs1 hs8
                    · as_aux_lemma =>
                        have hl3 : ¬ (i.left : Int) < m' := by simp only [InS.left, HIS.out]; omega
                        have e1 : i.int m' = (sInt ((s.drop i.pos).take m'), { i with pos := i.pos + m' }) := by rw [InS.int_of (by have := HS8.out; omega), InS.take_ok (n := (m' : Int)) he (by omega) hl3, HIS.out]; rfl
                        have HT := Lib.hid e1
                        have hL : (({ i with pos := i.pos + m' } : InS).left : Int) = s.length - ({ i with pos := i.pos + m' } : InS).pos := by simp only [InS.left, HIS.out]; omega
                        have HL := Lib.hid hL
                        clear e1 hL
                        go_wp2_with (first
                          | (go_at_call 18; refine (in_int _ _ _ _ (HIN.out.keeps (M := fun _ => False) ((Keeps.refl _ _).alloc _) (by simp))).mono ?_; rw [HT.out]; rintro e w3 ⟨rfl, h3, k3⟩; have H3 := Lib.hid h3; have c3 := k3.cell wr.heap.size 1 (by simp) (by omega); have K3 := Lib.hid k3; clear h3 k3)
                          | (go_at_call 17; refine (ref_int _ _ (by have := HS8.out; simp; omega)).mono ?_; rintro e w9 ⟨rfl, rfl⟩)
                          | (go_at_call 21; refine (in_left _ _ _ H3.out).mono ?_; rw [HL.out]; rintro e w4 ⟨rfl, n4, rfl⟩)
                          | (go_at_call 22; refine (in_at _ _ _ (H3.out.drewN _)).mono ?_; rintro e w5 ⟨rfl, rfl⟩)
                          | (go_at_call 23; refine (in_err _ _ _ (H3.out.drewN _)).mono ?_; rintro e w6 ⟨rfl, rfl⟩))
                        go_roundw
                        case rel =>
                          exact ⟨k + 1, { i with pos := i.pos + m' }, hlt, HIS.out, rfl, (by first | rfl | (simp only [he])), by go_num, H3.out.drewN _, ((HBL.out.alloc (by omega) _).trans (K3.out.below (by simp; omega) (by rintro k rfl; omega))).drewN' _, by have := K3.out.size; simp at this; simp; omega⟩
                        case measure => simp [intOf]; omega
              · as_aux_lemma =>
                  have e1 : i.int n = (0, i) := InS.int_err he
                  have HT := Lib.hid e1
                  have hL : ((i : InS).left : Int) = s.length - (i : InS).pos := by simp only [InS.left, HIS.out]; omega
                  have HL := Lib.hid hL
                  clear e1 hL
                  go_wp2_with (first
                    | (go_at_call 18; refine (in_int _ _ _ _ (HIN.out.keeps (M := fun _ => False) ((Keeps.refl _ _).alloc _) (by simp))).mono ?_; rw [HT.out]; rintro e w3 ⟨rfl, h3, k3⟩; have H3 := Lib.hid h3; have c3 := k3.cell wr.heap.size 1 (by simp) (by omega); have K3 := Lib.hid k3; clear h3 k3)
                    | (go_at_call 17; refine (ref_int _ _ (by have := HS8.out; simp; omega)).mono ?_; rintro e w9 ⟨rfl, rfl⟩)
                    | (go_at_call 21; refine (in_left _ _ _ H3.out).mono ?_; rw [HL.out]; rintro e w4 ⟨rfl, n4, rfl⟩)
                    | (go_at_call 22; refine (in_at _ _ _ (H3.out.drewN _)).mono ?_; rintro e w5 ⟨rfl, rfl⟩)
                    | (go_at_call 23; refine (in_err _ _ _ (H3.out.drewN _)).mono ?_; rintro e w6 ⟨rfl, rfl⟩))
                  go_roundw
                  case rel =>
                    exact ⟨k + 1, i, hlt, HIS.out, rfl, (by first | rfl | (simp only [he])), by go_num, H3.out.drewN _, ((HBL.out.alloc (by omega) _).trans (K3.out.below (by simp; omega) (by rintro k rfl; omega))).drewN' _, by have := K3.out.size; simp at this; simp; omega⟩
                  case measure => simp [intOf]; omega
            · by_cases hk2 : kind % 4 = 2
              · by_cases he : i.err = 0
                · by_cases hneg : n < 1 ∨ 8 < n
                  · rcases hneg with hneg | hneg
                    · as_aux_lemma =>
                        have e1 : i.count n m = (0, { i with err := 4 }) := InS.count_zero (by rw [InS.int_bad (by omega)]; unfold InS.fail; rw [if_pos he]) (by decide)
                        have HT := Lib.hid e1
                        have hL : (({ i with err := 4 } : InS).left : Int) = s.length - ({ i with err := 4 } : InS).pos := by simp only [InS.left, HIS.out]; omega
                        have HL := Lib.hid hL
                        clear e1 hL
                        go_wp2_with (first
                          | (go_at_call 19; refine (in_count _ _ _ _ _ (HIN.out.keeps (M := fun _ => False) ((Keeps.refl _ _).alloc _) (by simp))).mono ?_; rw [HT.out]; rintro e w3 ⟨rfl, h3, k3⟩; have H3 := Lib.hid h3; have c3 := k3.cell wr.heap.size 1 (by simp) (by omega); have K3 := Lib.hid k3; clear h3 k3)
                          | (go_at_call 17; refine (ref_int _ _ (by have := HS8.out; simp; omega)).mono ?_; rintro e w9 ⟨rfl, rfl⟩)
                          | (go_at_call 21; refine (in_left _ _ _ H3.out).mono ?_; rw [HL.out]; rintro e w4 ⟨rfl, n4, rfl⟩)
                          | (go_at_call 22; refine (in_at _ _ _ (H3.out.drewN _)).mono ?_; rintro e w5 ⟨rfl, rfl⟩)
                          | (go_at_call 23; refine (in_err _ _ _ (H3.out.drewN _)).mono ?_; rintro e w6 ⟨rfl, rfl⟩))
                        go_roundw
                        case rel =>
                          exact ⟨k + 1, { i with err := 4 }, hlt, HIS.out, rfl, (by first | rfl | (simp only [he])), by go_num, H3.out.drewN _, ((HBL.out.alloc (by omega) _).trans (K3.out.below (by simp; omega) (by rintro k rfl; omega))).drewN' _, by have := K3.out.size; simp at this; simp; omega⟩
                        case measure => simp [intOf]; omega
                    · as_aux_lemma =>
                        have e1 : i.count n m = (0, { i with err := 4 }) := InS.count_zero (by rw [InS.int_bad (by omega)]; unfold InS.fail; rw [if_pos he]) (by decide)
                        have HT := Lib.hid e1
                        have hL : (({ i with err := 4 } : InS).left : Int) = s.length - ({ i with err := 4 } : InS).pos := by simp only [InS.left, HIS.out]; omega
                        have HL := Lib.hid hL
                        clear e1 hL
                        go_wp2_with (first
                          | (go_at_call 19; refine (in_count _ _ _ _ _ (HIN.out.keeps (M := fun _ => False) ((Keeps.refl _ _).alloc _) (by simp))).mono ?_; rw [HT.out]; rintro e w3 ⟨rfl, h3, k3⟩; have H3 := Lib.hid h3; have c3 := k3.cell wr.heap.size 1 (by simp) (by omega); have K3 := Lib.hid k3; clear h3 k3)
                          | (go_at_call 17; refine (ref_int _ _ (by have := HS8.out; simp; omega)).mono ?_; rintro e w9 ⟨rfl, rfl⟩)
                          | (go_at_call 21; refine (in_left _ _ _ H3.out).mono ?_; rw [HL.out]; rintro e w4 ⟨rfl, n4, rfl⟩)
                          | (go_at_call 22; refine (in_at _ _ _ (H3.out.drewN _)).mono ?_; rintro e w5 ⟨rfl, rfl⟩)
                          | (go_at_call 23; refine (in_err _ _ _ (H3.out.drewN _)).mono ?_; rintro e w6 ⟨rfl, rfl⟩))
                        go_roundw
                        case rel =>
                          exact ⟨k + 1, { i with err := 4 }, hlt, HIS.out, rfl, (by first | rfl | (simp only [he])), by go_num, H3.out.drewN _, ((HBL.out.alloc (by omega) _).trans (K3.out.below (by simp; omega) (by rintro k rfl; omega))).drewN' _, by have := K3.out.size; simp at this; simp; omega⟩
                        case measure => simp [intOf]; omega
                  · have hs1 : 1 ≤ n := by omega
                    have hs8 : n ≤ 8 := by omega
                    clear hneg
                    by_cases hl2 : (s.length : Int) - i.pos < n
                    · as_aux_lemma =>
                        have hl3 : (i.left : Int) < n := by simp only [InS.left, HIS.out]; omega
                        have e1 : i.count n m = (0, { i with err := 1 }) := InS.count_zero (by rw [InS.int_of (by omega), InS.take_short (by omega) hl3]; unfold InS.fail; rw [if_pos he]; rfl) (by decide)
                        have HT := Lib.hid e1
                        have hL : (({ i with err := 1 } : InS).left : Int) = s.length - ({ i with err := 1 } : InS).pos := by simp only [InS.left, HIS.out]; omega
                        have HL := Lib.hid hL
                        clear e1 hL
                        go_wp2_with (first
                          | (go_at_call 19; refine (in_count _ _ _ _ _ (HIN.out.keeps (M := fun _ => False) ((Keeps.refl _ _).alloc _) (by simp))).mono ?_; rw [HT.out]; rintro e w3 ⟨rfl, h3, k3⟩; have H3 := Lib.hid h3; have c3 := k3.cell wr.heap.size 1 (by simp) (by omega); have K3 := Lib.hid k3; clear h3 k3)
                          | (go_at_call 17; refine (ref_int _ _ (by have := HS8.out; simp; omega)).mono ?_; rintro e w9 ⟨rfl, rfl⟩)
                          | (go_at_call 21; refine (in_left _ _ _ H3.out).mono ?_; rw [HL.out]; rintro e w4 ⟨rfl, n4, rfl⟩)
                          | (go_at_call 22; refine (in_at _ _ _ (H3.out.drewN _)).mono ?_; rintro e w5 ⟨rfl, rfl⟩)
                          | (go_at_call 23; refine (in_err _ _ _ (H3.out.drewN _)).mono ?_; rintro e w6 ⟨rfl, rfl⟩))
                        go_roundw
                        case rel =>
                          exact ⟨k + 1, { i with err := 1 }, hlt, HIS.out, rfl, (by first | rfl | (simp only [he])), by go_num, H3.out.drewN _, ((HBL.out.alloc (by omega) _).trans (K3.out.below (by simp; omega) (by rintro k rfl; omega))).drewN' _, by have := K3.out.size; simp at this; simp; omega⟩
                        case measure => simp [intOf]; omega
                    · obtain ⟨m', rfl⟩ : ∃ m' : Nat, n = m' := ⟨n.toNat, by omega⟩
                      have hd1 : decide ((m' : Int) < 1) = false := by simpa using hs1
                      have hd8 : decide (8 < (m' : Int)) = false := by simpa using hs8
                      have HS8 := Lib.hid (And.intro hs1 hs8)
                      clear hs1 hs8
                      have hl3 : ¬ (i.left : Int) < m' := by simp only [InS.left, HIS.out]; omega
                      have hI : i.int m' = (sInt ((s.drop i.pos).take m'), { i with pos := i.pos + m' }) := by rw [InS.int_of (by have := HS8.out; omega), InS.take_ok (n := (m' : Int)) he (by omega) hl3, HIS.out]; rfl
                      obtain ⟨X, hX⟩ : ∃ X, sInt ((s.drop i.pos).take m') = X := ⟨_, rfl⟩
                      rw [hX] at hI
                      have HI := Lib.hid hI
                      clear hI
                      by_cases hv : X < 0
                      · as_aux_lemma =>
                          have e1 : i.count m' m = (0, { i with pos := i.pos + m', err := 4 }) := by rw [InS.count_neg HI.out hv]; unfold InS.fail; rw [if_pos he]
                          have HT := Lib.hid e1
                          have hL : (({ i with pos := i.pos + m', err := 4 } : InS).left : Int) = s.length - ({ i with pos := i.pos + m', err := 4 } : InS).pos := by simp only [InS.left, HIS.out]; omega
                          have HL := Lib.hid hL
                          clear e1 hL
                          go_wp2_with (first
                            | (go_at_call 19; refine (in_count _ _ _ _ _ (HIN.out.keeps (M := fun _ => False) ((Keeps.refl _ _).alloc _) (by simp))).mono ?_; rw [HT.out]; rintro e w3 ⟨rfl, h3, k3⟩; have H3 := Lib.hid h3; have c3 := k3.cell wr.heap.size 1 (by simp) (by omega); have K3 := Lib.hid k3; clear h3 k3)
                            | (go_at_call 17; refine (ref_int _ _ (by have := HS8.out; simp; omega)).mono ?_; rintro e w9 ⟨rfl, rfl⟩)
                            | (go_at_call 21; refine (in_left _ _ _ H3.out).mono ?_; rw [HL.out]; rintro e w4 ⟨rfl, n4, rfl⟩)
                            | (go_at_call 22; refine (in_at _ _ _ (H3.out.drewN _)).mono ?_; rintro e w5 ⟨rfl, rfl⟩)
                            | (go_at_call 23; refine (in_err _ _ _ (H3.out.drewN _)).mono ?_; rintro e w6 ⟨rfl, rfl⟩))
                          go_roundw
                          case rel =>
                            exact ⟨k + 1, { i with pos := i.pos + m', err := 4 }, hlt, HIS.out, rfl, (by first | rfl | (simp only [he])), by go_num, H3.out.drewN _, ((HBL.out.alloc (by omega) _).trans (K3.out.below (by simp; omega) (by rintro k rfl; omega))).drewN' _, by have := K3.out.size; simp at this; simp; omega⟩
                          case measure => simp [intOf]; omega
                      · have hvd : decide (X < 0) = false := by simpa using hv
                        have HV := Lib.hid (show 0 ≤ X by omega)
                        clear hv
                        by_cases hm : 0 < m
                        · have hle : i.pos + m' ≤ s.length := by omega
                          have q0 : (0 : Int) ≤ ((s.length : Int) - (i.pos + m')) / m := Int.ediv_nonneg (by omega) (by omega)
                          have q1 : ((s.length : Int) - (i.pos + m')) / m ≤ s.length - (i.pos + m') := Int.ediv_le_self _ (by omega)
                          have hq0 : wrap64 (((s.length : Int) - (i.pos + m')) / m) = ((s.length : Int) - (i.pos + m')) / m := wrap64_in _ (by omega) (by omega)
                          have hlf : ((({ i with pos := i.pos + m' } : InS).left : Nat) : Int) = s.length - (i.pos + m') := by simp only [InS.left, HIS.out]; omega
                          have HLF := Lib.hid hlf
                          obtain ⟨Q, hQ⟩ : ∃ Q, ((s.length : Int) - (i.pos + m')) / m = Q := ⟨_, rfl⟩
                          rw [hQ] at hq0 q0 q1
                          have hq2 : Q ≤ 2000 := by omega
                          have HQ := Lib.hid hQ
                          have HM := Lib.hid hm
                          clear hlf q1 hle hm0 hm1 hn0 hn1
                          by_cases hd : Q < X
                          · as_aux_lemma =>
                              have e1 : i.count m' m = (0, { i with pos := i.pos + m', err := 1 }) := by rw [InS.count_many HI.out HV.out HM.out (by rw [HLF.out, HQ.out]; exact hd)]; unfold InS.fail; rw [if_pos he]
                              have HT := Lib.hid e1
                              have hL : (({ i with pos := i.pos + m', err := 1 } : InS).left : Int) = s.length - ({ i with pos := i.pos + m', err := 1 } : InS).pos := by simp only [InS.left, HIS.out]; omega
                              have HL := Lib.hid hL
                              clear e1 hL
                              go_wp2_with (first
                                | (go_at_call 19; refine (in_count _ _ _ _ _ (HIN.out.keeps (M := fun _ => False) ((Keeps.refl _ _).alloc _) (by simp))).mono ?_; rw [HT.out]; rintro e w3 ⟨rfl, h3, k3⟩; have H3 := Lib.hid h3; have c3 := k3.cell wr.heap.size 1 (by simp) (by omega); have K3 := Lib.hid k3; clear h3 k3)
                                | (go_at_call 17; refine (ref_int _ _ (by have := HS8.out; simp; omega)).mono ?_; rintro e w9 ⟨rfl, rfl⟩)
                                | (go_at_call 21; refine (in_left _ _ _ H3.out).mono ?_; rw [HL.out]; rintro e w4 ⟨rfl, n4, rfl⟩)
                                | (go_at_call 22; refine (in_at _ _ _ (H3.out.drewN _)).mono ?_; rintro e w5 ⟨rfl, rfl⟩)
                                | (go_at_call 23; refine (in_err _ _ _ (H3.out.drewN _)).mono ?_; rintro e w6 ⟨rfl, rfl⟩))
                              go_roundw
                              case rel =>
                                exact ⟨k + 1, { i with pos := i.pos + m', err := 1 }, hlt, HIS.out, rfl, (by first | rfl | (simp only [he])), by go_num, H3.out.drewN _, ((HBL.out.alloc (by omega) _).trans (K3.out.below (by simp; omega) (by rintro k rfl; omega))).drewN' _, by have := K3.out.size; simp at this; simp; omega⟩
                              case measure => simp [intOf]; omega
                          · as_aux_lemma =>
                              have e1 : i.count m' m = (X, { i with pos := i.pos + m' }) := InS.count_ok HI.out HV.out (by rw [HLF.out, HQ.out]; exact fun h => hd h.2)
                              have HT := Lib.hid e1
                              have hL : (({ i with pos := i.pos + m' } : InS).left : Int) = s.length - ({ i with pos := i.pos + m' } : InS).pos := by simp only [InS.left, HIS.out]; omega
                              have HL := Lib.hid hL
                              clear e1 hL
                              go_wp2_with (first
                                | (go_at_call 19; refine (in_count _ _ _ _ _ (HIN.out.keeps (M := fun _ => False) ((Keeps.refl _ _).alloc _) (by simp))).mono ?_; rw [HT.out]; rintro e w3 ⟨rfl, h3, k3⟩; have H3 := Lib.hid h3; have c3 := k3.cell wr.heap.size 1 (by simp) (by omega); have K3 := Lib.hid k3; clear h3 k3)
                                | (go_at_call 17; refine (ref_int _ _ (by have := HS8.out; simp; omega)).mono ?_; rintro e w9 ⟨rfl, rfl⟩)
                                | (go_at_call 21; refine (in_left _ _ _ H3.out).mono ?_; rw [HL.out]; rintro e w4 ⟨rfl, n4, rfl⟩)
                                | (go_at_call 22; refine (in_at _ _ _ (H3.out.drewN _)).mono ?_; rintro e w5 ⟨rfl, rfl⟩)
                                | (go_at_call 23; refine (in_err _ _ _ (H3.out.drewN _)).mono ?_; rintro e w6 ⟨rfl, rfl⟩))
                              go_roundw
                              case rel =>
                                exact ⟨k + 1, { i with pos := i.pos + m' }, hlt, HIS.out, rfl, (by first | rfl | (simp only [he])), by go_num, H3.out.drewN _, ((HBL.out.alloc (by omega) _).trans (K3.out.below (by simp; omega) (by rintro k rfl; omega))).drewN' _, by have := K3.out.size; simp at this; simp; omega⟩
                              case measure => simp [intOf]; omega
                        · as_aux_lemma =>
                            have hmd : decide (0 < m) = false := by simpa using hm
                            have HM := Lib.hid hm
                            clear hm
                            have e1 : i.count m' m = (X, { i with pos := i.pos + m' }) := InS.count_ok HI.out HV.out (fun h => HM.out h.1)
                            have HT := Lib.hid e1
                            have hL : (({ i with pos := i.pos + m' } : InS).left : Int) = s.length - ({ i with pos := i.pos + m' } : InS).pos := by simp only [InS.left, HIS.out]; omega
                            have HL := Lib.hid hL
                            clear e1 hL
                            go_wp2_with (first
                              | (go_at_call 19; refine (in_count _ _ _ _ _ (HIN.out.keeps (M := fun _ => False) ((Keeps.refl _ _).alloc _) (by simp))).mono ?_; rw [HT.out]; rintro e w3 ⟨rfl, h3, k3⟩; have H3 := Lib.hid h3; have c3 := k3.cell wr.heap.size 1 (by simp) (by omega); have K3 := Lib.hid k3; clear h3 k3)
                              | (go_at_call 17; refine (ref_int _ _ (by have := HS8.out; simp; omega)).mono ?_; rintro e w9 ⟨rfl, rfl⟩)
                              | (go_at_call 21; refine (in_left _ _ _ H3.out).mono ?_; rw [HL.out]; rintro e w4 ⟨rfl, n4, rfl⟩)
                              | (go_at_call 22; refine (in_at _ _ _ (H3.out.drewN _)).mono ?_; rintro e w5 ⟨rfl, rfl⟩)
                              | (go_at_call 23; refine (in_err _ _ _ (H3.out.drewN _)).mono ?_; rintro e w6 ⟨rfl, rfl⟩))
                            go_roundw
                            case rel =>
                              exact ⟨k + 1, { i with pos := i.pos + m' }, hlt, HIS.out, rfl, (by first | rfl | (simp only [he])), by go_num, H3.out.drewN _, ((HBL.out.alloc (by omega) _).trans (K3.out.below (by simp; omega) (by rintro k rfl; omega))).drewN' _, by have := K3.out.size; simp at this; simp; omega⟩
                            case measure => simp [intOf]; omega
                · as_aux_lemma =>
                    have e1 : i.count n m = (0, i) := InS.count_err he
                    have HT := Lib.hid e1
                    have hL : ((i : InS).left : Int) = s.length - (i : InS).pos := by simp only [InS.left, HIS.out]; omega
                    have HL := Lib.hid hL
                    clear e1 hL
                    go_wp2_with (first
                      | (go_at_call 19; refine (in_count _ _ _ _ _ (HIN.out.keeps (M := fun _ => False) ((Keeps.refl _ _).alloc _) (by simp))).mono ?_; rw [HT.out]; rintro e w3 ⟨rfl, h3, k3⟩; have H3 := Lib.hid h3; have c3 := k3.cell wr.heap.size 1 (by simp) (by omega); have K3 := Lib.hid k3; clear h3 k3)
                      | (go_at_call 17; refine (ref_int _ _ (by have := HS8.out; simp; omega)).mono ?_; rintro e w9 ⟨rfl, rfl⟩)
                      | (go_at_call 21; refine (in_left _ _ _ H3.out).mono ?_; rw [HL.out]; rintro e w4 ⟨rfl, n4, rfl⟩)
                      | (go_at_call 22; refine (in_at _ _ _ (H3.out.drewN _)).mono ?_; rintro e w5 ⟨rfl, rfl⟩)
                      | (go_at_call 23; refine (in_err _ _ _ (H3.out.drewN _)).mono ?_; rintro e w6 ⟨rfl, rfl⟩))
                    go_roundw
                    case rel =>
                      exact ⟨k + 1, i, hlt, HIS.out, rfl, (by first | rfl | (simp only [he])), by go_num, H3.out.drewN _, ((HBL.out.alloc (by omega) _).trans (K3.out.below (by simp; omega) (by rintro k rfl; omega))).drewN' _, by have := K3.out.size; simp at this; simp; omega⟩
                    case measure => simp [intOf]; omega
              · have hk3 : kind % 4 = 3 := by omega
                by_cases hn : n = 0
                · as_aux_lemma =>
                    go_wp2
                    go_ret
                    exact ⟨rfl, HBL.out.alloc (by omega) _⟩
                · by_cases he : i.err = 0
                  · as_aux_lemma =>
                      have e1 : i.fail n = { i with err := n } := if_pos he
                      have HT := Lib.hid e1
                      have hL : (({ i with err := n } : InS).left : Int) = s.length - ({ i with err := n } : InS).pos := by simp only [InS.left, HIS.out]; omega
                      have HL := Lib.hid hL
                      clear e1 hL
                      go_wp2_with (first
                        | (go_at_call 20; refine (in_fail _ _ _ _ (HIN.out.keeps (M := fun _ => False) ((Keeps.refl _ _).alloc _) (by simp))).mono ?_; rw [HT.out]; rintro e w3 ⟨rfl, h3, k3⟩; have H3 := Lib.hid h3; have c3 := k3.cell wr.heap.size 1 (by simp) (by omega); have K3 := Lib.hid k3; clear h3 k3)
                        | (go_at_call 21; refine (in_left _ _ _ H3.out).mono ?_; rw [HL.out]; rintro e w4 ⟨rfl, n4, rfl⟩)
                        | (go_at_call 22; refine (in_at _ _ _ (H3.out.drewN _)).mono ?_; rintro e w5 ⟨rfl, rfl⟩)
                        | (go_at_call 23; refine (in_err _ _ _ (H3.out.drewN _)).mono ?_; rintro e w6 ⟨rfl, rfl⟩))
                      go_roundw
                      case rel =>
                        exact ⟨k + 1, { i with err := n }, hlt, HIS.out, rfl, (by first | rfl | (simp only [he])), by go_num, H3.out.drewN _, ((HBL.out.alloc (by omega) _).trans (K3.out.below (by simp; omega) (by rintro k rfl; omega))).drewN' _, by have := K3.out.size; simp at this; simp; omega⟩
                      case measure => simp [intOf]; omega
                  · as_aux_lemma =>
                      have e1 : i.fail n = i := if_neg he
                      have HT := Lib.hid e1
                      have hL : ((i : InS).left : Int) = s.length - (i : InS).pos := by simp only [InS.left, HIS.out]; omega
                      have HL := Lib.hid hL
                      clear e1 hL
                      go_wp2_with (first
                        | (go_at_call 20; refine (in_fail _ _ _ _ (HIN.out.keeps (M := fun _ => False) ((Keeps.refl _ _).alloc _) (by simp))).mono ?_; rw [HT.out]; rintro e w3 ⟨rfl, h3, k3⟩; have H3 := Lib.hid h3; have c3 := k3.cell wr.heap.size 1 (by simp) (by omega); have K3 := Lib.hid k3; clear h3 k3)
                        | (go_at_call 21; refine (in_left _ _ _ H3.out).mono ?_; rw [HL.out]; rintro e w4 ⟨rfl, n4, rfl⟩)
                        | (go_at_call 22; refine (in_at _ _ _ (H3.out.drewN _)).mono ?_; rintro e w5 ⟨rfl, rfl⟩)
                        | (go_at_call 23; refine (in_err _ _ _ (H3.out.drewN _)).mono ?_; rintro e w6 ⟨rfl, rfl⟩))
                      go_roundw
                      case rel =>
                        exact ⟨k + 1, i, hlt, HIS.out, rfl, (by first | rfl | (simp only [he])), by go_num, H3.out.drewN _, ((HBL.out.alloc (by omega) _).trans (K3.out.below (by simp; omega) (by rintro k rfl; omega))).drewN' _, by have := K3.out.size; simp at this; simp; omega⟩
                      case measure => simp [intOf]; omega
        · have hkk : k = acts.length := by omega
          subst hkk
          have h1 : ∀ j : InS, j.close.err = if 0 < j.left ∧ j.err = 0 then 2 else j.err := by
            intro j; unfold InS.close InS.fail; split <;> split <;> simp_all
          have h2 := h1 i
          have hle : i.left = s.length - i.pos := by unfold InS.left; rw [HIS.out]
          rw [hle] at h2
          clear h1 hle
          by_cases he : i.err = 0
          · by_cases hp : i.pos < s.length
            · rw [if_pos ⟨by omega, he⟩] at h2
              have HC := Lib.hid h2
              clear h2
              go_wp2_with (first
                | (go_at_call 24; refine (in_close _ _ _ HIN.out).mono ?_; rw [HC.out]; rintro e w3 ⟨rfl, h3, k3⟩; have H3 := Lib.hid h3; have K3 := Lib.hid k3; clear h3 k3)
                | (go_at_call 23; refine (in_err _ _ _ H3.out).mono ?_; rw [HC.out]; rintro e w4 ⟨rfl, rfl⟩))
              go_ret
              exact ⟨rfl, HBL.out.trans (K3.out.below (by omega) (by rintro k rfl; omega))⟩
            · rw [if_neg (by omega)] at h2
              have HC := Lib.hid h2
              clear h2
              go_wp2_with (first
                | (go_at_call 24; refine (in_close _ _ _ HIN.out).mono ?_; rw [HC.out]; rintro e w3 ⟨rfl, h3, k3⟩; have H3 := Lib.hid h3; have K3 := Lib.hid k3; clear h3 k3)
                | (go_at_call 23; refine (in_err _ _ _ H3.out).mono ?_; rw [HC.out]; rintro e w4 ⟨rfl, rfl⟩))
              go_ret
              exact ⟨rfl, HBL.out.trans (K3.out.below (by omega) (by rintro k rfl; omega))⟩
          · rw [if_neg (fun h => he h.2)] at h2
            have HC := Lib.hid h2
            clear h2
            go_wp2_with (first
              | (go_at_call 24; refine (in_close _ _ _ HIN.out).mono ?_; rw [HC.out]; rintro e w3 ⟨rfl, h3, k3⟩; have H3 := Lib.hid h3; have K3 := Lib.hid k3; clear h3 k3)
              | (go_at_call 23; refine (in_err _ _ _ H3.out).mono ?_; rw [HC.out]; rintro e w4 ⟨rfl, rfl⟩))
            go_ret
            exact ⟨rfl, HBL.out.trans (K3.out.below (by omega) (by rintro k rfl; omega))⟩

end Go.Proofs.Ytbcfnfcmghbelaa
