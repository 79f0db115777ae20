/- Records of a batch, read (pure). -/
import Derived.Test.YtcjgdlfcfcabiaaGreatBatP
import Derived.Test.YtcjgdlfcfcabiaaGreatGMarkerMakes2
import Derived.IntWalk
import Derived.Test.YtcjgdlfcfcabiaaGreatGMarkerMakes1
import Derived.RegionTactic
import Derived.Deep.DeepCutAuto
import Derived.Deep.RegionHeld3
import Derived.Test.YtcjgdlfcfcabiaaGreatCtl3
import Derived.Test.YtcjgdlfcfcabiaaGreatRec1
import Derived.Test.YtcjgdlfcfcabiaaGreatHdr1
import Derived.Test.YtcjgdlfcfcabiaaGreatGrow
import Derived.Test.YtcjgdlfcfcabiaaGreatS1
import Derived.Test.YtcjgdlfcfcabiaaGreatHdr2
/- Batches: placed, signed. -/
namespace Go.Proofs.YtcjgdlfcfcabiaaGreat
open Go.RowKit

set_option maxHeartbeats 1000000 in
set_option maxRecDepth 100000 in
theorem bat_within (n lo hi : Int) (r : Bool) (hr : decide (lo ≤ n ∧ n ≤ hi) = r) {W0 w : World} {K : Know} {L : List Res} (h : St W0 w K L) :
    Calls Tryz.prog 66 #[.int .i64 n, .int .i64 lo, .int .i64 hi] w fun en w' => en = .returned (.bool r) ∧ St W0 w' K L := by
  have H := Lib.hid h
  clear h
  by_cases h1 : lo ≤ n
  · have d1 : decide (lo ≤ n) = true := decide_eq_true h1
    by_cases h2 : n ≤ hi
    · have d2 : decide (n ≤ hi) = true := decide_eq_true h2
      obtain rfl : true = r := (decide_eq_true ⟨h1, h2⟩).symm.trans hr
      clear h1 h2
      go_enter Tryz.func66, Tryz.ntmps66
      go_wp2
      go_ret
      exact ⟨rfl, H.out⟩
    · have d2 : decide (n ≤ hi) = false := decide_eq_false h2
      obtain rfl : false = r := (decide_eq_false (fun x => h2 x.2)).symm.trans hr
      clear h1 h2
      go_enter Tryz.func66, Tryz.ntmps66
      go_wp2
      go_ret
      exact ⟨rfl, H.out⟩
  · have d1 : decide (lo ≤ n) = false := decide_eq_false h1
    obtain rfl : false = r := (decide_eq_false (fun x => h1 x.1)).symm.trans hr
    clear h1
    go_enter Tryz.func66, Tryz.ntmps66
    go_wp2
    go_ret
    exact ⟨rfl, H.out⟩

set_option maxHeartbeats 1000000 in
set_option maxRecDepth 100000 in
theorem bat_placed (base leader : Int) (app txn ctl : Bool) (last first maxt prod epoch sq : Int) (rv : Value) (r : Bool) (hr : decide (0 ≤ base ∧ (-1 ≤ leader ∧ leader ≤ 2147483647) ∧ (0 ≤ last ∧ last ≤ 2147483647) ∧ base ≤ 9223372036854775807 - last ∧ 0 ≤ first ∧ 0 ≤ maxt) = r) {W0 w : World} {K : Know} {L : List Res} (h : St W0 w K L) :
    Calls Tryz.prog 34 #[.agg #[.int .i64 base, .int .i64 leader, .bool app, .bool txn, .bool ctl, .int .i64 last, .int .i64 first, .int .i64 maxt, .int .i64 prod, .int .i64 epoch, .int .i64 sq, rv]] w fun en w' => en = .returned (.bool r) ∧ St W0 w' K L := by
  have h1 := h.allocRaw #[.int .i64 base, .int .i64 leader, .bool app, .bool txn, .bool ctl, .int .i64 last, .int .i64 first, .int .i64 maxt, .int .i64 prod, .int .i64 epoch, .int .i64 sq, rv] 24
  obtain ⟨hb, hhb⟩ : ∃ b, w.heap.size = b := ⟨_, rfl⟩
  rw [hhb] at h1
  obtain ⟨x0, x1, x2, x3, x4, x5, x6, x7, x8, x9, x10, x11, y0, y1, y2, y3, y4, y5, y6, y7, y8, y9, y10, y11⟩ := raw12 (b := hb) (h1)
  have H := Lib.hid h1
  clear h h1
  by_cases c0 : 0 ≤ base
  case neg =>
    obtain rfl : false = r := by rw [← hr]; exact (decide_eq_false (fun x => c0 x.1)).symm
    have d0 : decide (0 ≤ base) = false := decide_eq_false c0
    clear c0 
    go_enter Tryz.func34, Tryz.ntmps34
    go_wp2_with (first
    | (go_at_call 66; (with_reducible refine (bat_within leader (-1) 2147483647 _ HW1.out H.out).mono ?_); rintro e_ wn ⟨rfl, h⟩; replace H := Lib.hid h; clear h; obtain ⟨x0, x1, x2, x3, x4, x5, x6, x7, x8, x9, x10, x11, y0, y1, y2, y3, y4, y5, y6, y7, y8, y9, y10, y11⟩ := raw12 (b := hb) (H.out))
    | (go_at_call 66; (with_reducible refine (bat_within last 0 2147483647 _ HW2.out H.out).mono ?_); rintro e_ wn ⟨rfl, h⟩; replace H := Lib.hid h; clear h; obtain ⟨x0, x1, x2, x3, x4, x5, x6, x7, x8, x9, x10, x11, y0, y1, y2, y3, y4, y5, y6, y7, y8, y9, y10, y11⟩ := raw12 (b := hb) (H.out)))
    go_ret
    exact ⟨rfl, H.out.drop⟩
  by_cases c1 : -1 ≤ leader ∧ leader ≤ 2147483647
  case neg =>
    obtain rfl : false = r := by rw [← hr]; exact (decide_eq_false (fun x => c1 x.2.1)).symm
    have d0 : decide (0 ≤ base) = true := decide_eq_true c0
    have HW1 := Lib.hid (show decide (-1 ≤ leader ∧ leader ≤ 2147483647) = false from decide_eq_false c1)
    clear c0 c1 
    go_enter Tryz.func34, Tryz.ntmps34
    go_wp2_with (first
    | (go_at_call 66; (with_reducible refine (bat_within leader (-1) 2147483647 _ HW1.out H.out).mono ?_); rintro e_ wn ⟨rfl, h⟩; replace H := Lib.hid h; clear h; obtain ⟨x0, x1, x2, x3, x4, x5, x6, x7, x8, x9, x10, x11, y0, y1, y2, y3, y4, y5, y6, y7, y8, y9, y10, y11⟩ := raw12 (b := hb) (H.out))
    | (go_at_call 66; (with_reducible refine (bat_within last 0 2147483647 _ HW2.out H.out).mono ?_); rintro e_ wn ⟨rfl, h⟩; replace H := Lib.hid h; clear h; obtain ⟨x0, x1, x2, x3, x4, x5, x6, x7, x8, x9, x10, x11, y0, y1, y2, y3, y4, y5, y6, y7, y8, y9, y10, y11⟩ := raw12 (b := hb) (H.out)))
    go_ret
    exact ⟨rfl, H.out.drop⟩
  by_cases c2 : 0 ≤ last ∧ last ≤ 2147483647
  case neg =>
    obtain rfl : false = r := by rw [← hr]; exact (decide_eq_false (fun x => c2 x.2.2.1)).symm
    have d0 : decide (0 ≤ base) = true := decide_eq_true c0
    have HW1 := Lib.hid (show decide (-1 ≤ leader ∧ leader ≤ 2147483647) = true from decide_eq_true c1)
    have HW2 := Lib.hid (show decide (0 ≤ last ∧ last ≤ 2147483647) = false from decide_eq_false c2)
    clear c0 c1 c2 
    go_enter Tryz.func34, Tryz.ntmps34
    go_wp2_with (first
    | (go_at_call 66; (with_reducible refine (bat_within leader (-1) 2147483647 _ HW1.out H.out).mono ?_); rintro e_ wn ⟨rfl, h⟩; replace H := Lib.hid h; clear h; obtain ⟨x0, x1, x2, x3, x4, x5, x6, x7, x8, x9, x10, x11, y0, y1, y2, y3, y4, y5, y6, y7, y8, y9, y10, y11⟩ := raw12 (b := hb) (H.out))
    | (go_at_call 66; (with_reducible refine (bat_within last 0 2147483647 _ HW2.out H.out).mono ?_); rintro e_ wn ⟨rfl, h⟩; replace H := Lib.hid h; clear h; obtain ⟨x0, x1, x2, x3, x4, x5, x6, x7, x8, x9, x10, x11, y0, y1, y2, y3, y4, y5, y6, y7, y8, y9, y10, y11⟩ := raw12 (b := hb) (H.out)))
    go_ret
    exact ⟨rfl, H.out.drop⟩
  by_cases c3 : base ≤ 9223372036854775807 - last
  case neg =>
    obtain rfl : false = r := by rw [← hr]; exact (decide_eq_false (fun x => c3 x.2.2.2.1)).symm
    have d0 : decide (0 ≤ base) = true := decide_eq_true c0
    have HW1 := Lib.hid (show decide (-1 ≤ leader ∧ leader ≤ 2147483647) = true from decide_eq_true c1)
    have HW2 := Lib.hid (show decide (0 ≤ last ∧ last ≤ 2147483647) = true from decide_eq_true c2)
    obtain ⟨ml, hml⟩ : ∃ ml, 9223372036854775807 - last = ml := ⟨_, rfl⟩
    have wl : wrap64 (9223372036854775807 - last) = ml := by rw [← hml]; unfold wrap64; omega
    have wl2 : IntKind.i64.wrap (9223372036854775807 - last) = ml := by rw [← hml]; exact IntWalk.i64_in _ (by omega)
    have d3 : decide (base ≤ ml) = false := by rw [← hml]; exact decide_eq_false c3
    clear c0 c1 c2 c3 hml
    go_enter Tryz.func34, Tryz.ntmps34
    go_wp2_with (first
    | (go_at_call 66; (with_reducible refine (bat_within leader (-1) 2147483647 _ HW1.out H.out).mono ?_); rintro e_ wn ⟨rfl, h⟩; replace H := Lib.hid h; clear h; obtain ⟨x0, x1, x2, x3, x4, x5, x6, x7, x8, x9, x10, x11, y0, y1, y2, y3, y4, y5, y6, y7, y8, y9, y10, y11⟩ := raw12 (b := hb) (H.out))
    | (go_at_call 66; (with_reducible refine (bat_within last 0 2147483647 _ HW2.out H.out).mono ?_); rintro e_ wn ⟨rfl, h⟩; replace H := Lib.hid h; clear h; obtain ⟨x0, x1, x2, x3, x4, x5, x6, x7, x8, x9, x10, x11, y0, y1, y2, y3, y4, y5, y6, y7, y8, y9, y10, y11⟩ := raw12 (b := hb) (H.out)))
    go_ret
    exact ⟨rfl, H.out.drop⟩
  by_cases c4 : 0 ≤ first
  case neg =>
    obtain rfl : false = r := by rw [← hr]; exact (decide_eq_false (fun x => c4 x.2.2.2.2.1)).symm
    have d0 : decide (0 ≤ base) = true := decide_eq_true c0
    have HW1 := Lib.hid (show decide (-1 ≤ leader ∧ leader ≤ 2147483647) = true from decide_eq_true c1)
    have HW2 := Lib.hid (show decide (0 ≤ last ∧ last ≤ 2147483647) = true from decide_eq_true c2)
    obtain ⟨ml, hml⟩ : ∃ ml, 9223372036854775807 - last = ml := ⟨_, rfl⟩
    have wl : wrap64 (9223372036854775807 - last) = ml := by rw [← hml]; unfold wrap64; omega
    have wl2 : IntKind.i64.wrap (9223372036854775807 - last) = ml := by rw [← hml]; exact IntWalk.i64_in _ (by omega)
    have d3 : decide (base ≤ ml) = true := by rw [← hml]; exact decide_eq_true c3
    have d4 : decide (0 ≤ first) = false := decide_eq_false c4
    clear c0 c1 c2 c3 c4 hml
    go_enter Tryz.func34, Tryz.ntmps34
    go_wp2_with (first
    | (go_at_call 66; (with_reducible refine (bat_within leader (-1) 2147483647 _ HW1.out H.out).mono ?_); rintro e_ wn ⟨rfl, h⟩; replace H := Lib.hid h; clear h; obtain ⟨x0, x1, x2, x3, x4, x5, x6, x7, x8, x9, x10, x11, y0, y1, y2, y3, y4, y5, y6, y7, y8, y9, y10, y11⟩ := raw12 (b := hb) (H.out))
    | (go_at_call 66; (with_reducible refine (bat_within last 0 2147483647 _ HW2.out H.out).mono ?_); rintro e_ wn ⟨rfl, h⟩; replace H := Lib.hid h; clear h; obtain ⟨x0, x1, x2, x3, x4, x5, x6, x7, x8, x9, x10, x11, y0, y1, y2, y3, y4, y5, y6, y7, y8, y9, y10, y11⟩ := raw12 (b := hb) (H.out)))
    go_ret
    exact ⟨rfl, H.out.drop⟩
  by_cases c5 : 0 ≤ maxt
  case neg =>
    obtain rfl : false = r := by rw [← hr]; exact (decide_eq_false (fun x => c5 x.2.2.2.2.2)).symm
    have d0 : decide (0 ≤ base) = true := decide_eq_true c0
    have HW1 := Lib.hid (show decide (-1 ≤ leader ∧ leader ≤ 2147483647) = true from decide_eq_true c1)
    have HW2 := Lib.hid (show decide (0 ≤ last ∧ last ≤ 2147483647) = true from decide_eq_true c2)
    obtain ⟨ml, hml⟩ : ∃ ml, 9223372036854775807 - last = ml := ⟨_, rfl⟩
    have wl : wrap64 (9223372036854775807 - last) = ml := by rw [← hml]; unfold wrap64; omega
    have wl2 : IntKind.i64.wrap (9223372036854775807 - last) = ml := by rw [← hml]; exact IntWalk.i64_in _ (by omega)
    have d3 : decide (base ≤ ml) = true := by rw [← hml]; exact decide_eq_true c3
    have d4 : decide (0 ≤ first) = true := decide_eq_true c4
    have d5 : decide (0 ≤ maxt) = false := decide_eq_false c5
    clear c0 c1 c2 c3 c4 c5 hml
    go_enter Tryz.func34, Tryz.ntmps34
    go_wp2_with (first
    | (go_at_call 66; (with_reducible refine (bat_within leader (-1) 2147483647 _ HW1.out H.out).mono ?_); rintro e_ wn ⟨rfl, h⟩; replace H := Lib.hid h; clear h; obtain ⟨x0, x1, x2, x3, x4, x5, x6, x7, x8, x9, x10, x11, y0, y1, y2, y3, y4, y5, y6, y7, y8, y9, y10, y11⟩ := raw12 (b := hb) (H.out))
    | (go_at_call 66; (with_reducible refine (bat_within last 0 2147483647 _ HW2.out H.out).mono ?_); rintro e_ wn ⟨rfl, h⟩; replace H := Lib.hid h; clear h; obtain ⟨x0, x1, x2, x3, x4, x5, x6, x7, x8, x9, x10, x11, y0, y1, y2, y3, y4, y5, y6, y7, y8, y9, y10, y11⟩ := raw12 (b := hb) (H.out)))
    go_ret
    exact ⟨rfl, H.out.drop⟩
  obtain rfl : true = r := by rw [← hr]; exact (decide_eq_true ⟨c0, c1, c2, c3, c4, c5⟩).symm
  have d0 : decide (0 ≤ base) = true := decide_eq_true c0
  have HW1 := Lib.hid (show decide (-1 ≤ leader ∧ leader ≤ 2147483647) = true from decide_eq_true c1)
  have HW2 := Lib.hid (show decide (0 ≤ last ∧ last ≤ 2147483647) = true from decide_eq_true c2)
  obtain ⟨ml, hml⟩ : ∃ ml, 9223372036854775807 - last = ml := ⟨_, rfl⟩
  have wl : wrap64 (9223372036854775807 - last) = ml := by rw [← hml]; unfold wrap64; omega
  have wl2 : IntKind.i64.wrap (9223372036854775807 - last) = ml := by rw [← hml]; exact IntWalk.i64_in _ (by omega)
  have d3 : decide (base ≤ ml) = true := by rw [← hml]; exact decide_eq_true c3
  have d4 : decide (0 ≤ first) = true := decide_eq_true c4
  have d5 : decide (0 ≤ maxt) = true := decide_eq_true c5
  clear c0 c1 c2 c3 c4 c5 hml
  go_enter Tryz.func34, Tryz.ntmps34
  go_wp2_with (first
  | (go_at_call 66; (with_reducible refine (bat_within leader (-1) 2147483647 _ HW1.out H.out).mono ?_); rintro e_ wn ⟨rfl, h⟩; replace H := Lib.hid h; clear h; obtain ⟨x0, x1, x2, x3, x4, x5, x6, x7, x8, x9, x10, x11, y0, y1, y2, y3, y4, y5, y6, y7, y8, y9, y10, y11⟩ := raw12 (b := hb) (H.out))
  | (go_at_call 66; (with_reducible refine (bat_within last 0 2147483647 _ HW2.out H.out).mono ?_); rintro e_ wn ⟨rfl, h⟩; replace H := Lib.hid h; clear h; obtain ⟨x0, x1, x2, x3, x4, x5, x6, x7, x8, x9, x10, x11, y0, y1, y2, y3, y4, y5, y6, y7, y8, y9, y10, y11⟩ := raw12 (b := hb) (H.out)))
  go_ret
  exact ⟨rfl, H.out.drop⟩

set_option maxHeartbeats 1000000 in
set_option maxRecDepth 100000 in
theorem bat_signed (base leader : Int) (app txn ctl : Bool) (last first maxt prod epoch sq : Int) (rv : Value) (r : Bool) (hr : (if prod = -1 then decide (epoch = -1 ∧ sq = -1 ∧ txn = false) else if prod < 0 ∨ ¬ (0 ≤ epoch ∧ epoch ≤ 32767) then false else if ctl then decide (sq = -1) else decide (0 ≤ sq ∧ sq ≤ 2147483647)) = r) {W0 w : World} {K : Know} {L : List Res} (h : St W0 w K L) :
    Calls Tryz.prog 35 #[.agg #[.int .i64 base, .int .i64 leader, .bool app, .bool txn, .bool ctl, .int .i64 last, .int .i64 first, .int .i64 maxt, .int .i64 prod, .int .i64 epoch, .int .i64 sq, rv]] w fun en w' => en = .returned (.bool r) ∧ St W0 w' K L := by
  have h1 := h.allocRaw #[.int .i64 base, .int .i64 leader, .bool app, .bool txn, .bool ctl, .int .i64 last, .int .i64 first, .int .i64 maxt, .int .i64 prod, .int .i64 epoch, .int .i64 sq, rv] 24
  obtain ⟨hb, hhb⟩ : ∃ b, w.heap.size = b := ⟨_, rfl⟩
  rw [hhb] at h1
  obtain ⟨x0, x1, x2, x3, x4, x5, x6, x7, x8, x9, x10, x11, y0, y1, y2, y3, y4, y5, y6, y7, y8, y9, y10, y11⟩ := raw12 (b := hb) (h1)
  have H := Lib.hid h1
  clear h h1
  by_cases c0 : prod = -1
  · rw [if_pos c0] at hr
    have b0 : (prod == -1) = true := by rw [c0]; rfl
    subst c0
    by_cases c1 : epoch = -1
    · subst c1
      by_cases c2 : sq = -1
      · subst c2
        obtain rfl : (!txn) = r := by rw [← hr]; cases txn <;> rfl
        clear hr
        go_enter Tryz.func35, Tryz.ntmps35
        go_wp2
        go_ret
        exact ⟨rfl, H.out.drop⟩
      · obtain rfl : false = r := by rw [← hr]; exact (decide_eq_false (fun x => c2 x.2.1)).symm
        have b2 : (sq == -1) = false := by rw [beq_eq_false_iff_ne]; exact c2
        clear hr c2
        go_enter Tryz.func35, Tryz.ntmps35
        go_wp2
        go_ret
        exact ⟨rfl, H.out.drop⟩
    · obtain rfl : false = r := by rw [← hr]; exact (decide_eq_false (fun x => c1 x.1)).symm
      have b1 : (epoch == -1) = false := by rw [beq_eq_false_iff_ne]; exact c1
      clear hr c1
      go_enter Tryz.func35, Tryz.ntmps35
      go_wp2
      go_ret
      exact ⟨rfl, H.out.drop⟩
  · rw [if_neg c0] at hr
    have b0 : (prod == -1) = false := by rw [beq_eq_false_iff_ne]; exact c0
    by_cases c1 : prod < 0
    · rw [if_pos (.inl c1)] at hr
      subst hr
      have d1 : decide (prod < 0) = true := decide_eq_true c1
      clear c0 c1
      go_enter Tryz.func35, Tryz.ntmps35
      go_wp2
      go_ret
      exact ⟨rfl, H.out.drop⟩
    · have d1 : decide (prod < 0) = false := decide_eq_false c1
      by_cases c2 : 0 ≤ epoch ∧ epoch ≤ 32767
      · rw [if_neg (by rintro (x | x); exact c1 x; exact x c2)] at hr
        have HE := Lib.hid (show decide (0 ≤ epoch ∧ epoch ≤ 32767) = true from decide_eq_true c2)
        clear c0 c1 c2
        cases ctl with
        | true =>
          obtain rfl : (sq == -1) = r := by rw [← hr]; rfl
          clear hr
          go_enter Tryz.func35, Tryz.ntmps35
          go_wp2_with (first | (go_at_call 66; (with_reducible refine (bat_within epoch 0 32767 _ HE.out H.out).mono ?_); rintro e_ wn ⟨rfl, h⟩; replace H := Lib.hid h; clear h; obtain ⟨x0, x1, x2, x3, x4, x5, x6, x7, x8, x9, x10, x11, y0, y1, y2, y3, y4, y5, y6, y7, y8, y9, y10, y11⟩ := raw12 (b := hb) (H.out)) | fail)
          go_ret
          exact ⟨rfl, H.out.drop⟩
        | false =>
          have HS := Lib.hid (show decide (0 ≤ sq ∧ sq ≤ 2147483647) = r from hr)
          clear hr
          go_enter Tryz.func35, Tryz.ntmps35
          go_wp2_with (first | (go_at_call 66; (with_reducible refine (bat_within epoch 0 32767 _ HE.out H.out).mono ?_); rintro e_ wn ⟨rfl, h⟩; replace H := Lib.hid h; clear h; obtain ⟨x0, x1, x2, x3, x4, x5, x6, x7, x8, x9, x10, x11, y0, y1, y2, y3, y4, y5, y6, y7, y8, y9, y10, y11⟩ := raw12 (b := hb) (H.out)) | (go_at_call 66; (with_reducible refine (bat_within sq 0 2147483647 _ HS.out H.out).mono ?_); rintro e_ wn ⟨rfl, h⟩; replace H := Lib.hid h; clear h; obtain ⟨x0, x1, x2, x3, x4, x5, x6, x7, x8, x9, x10, x11, y0, y1, y2, y3, y4, y5, y6, y7, y8, y9, y10, y11⟩ := raw12 (b := hb) (H.out)))
          go_ret
          exact ⟨rfl, H.out.drop⟩
      · rw [if_pos (.inr c2)] at hr
        subst hr
        have HE := Lib.hid (show decide (0 ≤ epoch ∧ epoch ≤ 32767) = false from decide_eq_false c2)
        clear c0 c1 c2
        go_enter Tryz.func35, Tryz.ntmps35
        go_wp2_with (first | (go_at_call 66; (with_reducible refine (bat_within epoch 0 32767 _ HE.out H.out).mono ?_); rintro e_ wn ⟨rfl, h⟩; replace H := Lib.hid h; clear h; obtain ⟨x0, x1, x2, x3, x4, x5, x6, x7, x8, x9, x10, x11, y0, y1, y2, y3, y4, y5, y6, y7, y8, y9, y10, y11⟩ := raw12 (b := hb) (H.out)) | fail)
        go_ret
        exact ⟨rfl, H.out.drop⟩

end Go.Proofs.YtcjgdlfcfcabiaaGreat

/- Batches: rows. -/
namespace Go.Proofs.YtcjgdlfcfcabiaaGreat
open Go.RowKit

set_option maxHeartbeats 1000000 in
set_option maxRecDepth 100000 in
theorem bat_checkRows (base leader : Int) (app txn ctl : Bool) (last first maxt prod epoch sq : Int) (l : List (RecS × Value)) (q : Option Addr) (cap : Nat) (e : Int) (he : BatS.rows ⟨base, leader, app, txn, ctl, last, first, maxt, prod, epoch, sq, l.map (·.1)⟩ = e) (hf : 0 ≤ first ∧ first ≤ 9223372036854775807) (hfit : FitB l) (hll : l.length ≤ 1000000) {W0 w : World} {K : Know} {L : List Res} (hk : K.has (Know.recs (.slice q l.length cap) l)) (h : St W0 w K L) :
    Calls Tryz.prog 38 #[.agg #[.int .i64 base, .int .i64 leader, .bool app, .bool txn, .bool ctl, .int .i64 last, .int .i64 first, .int .i64 maxt, .int .i64 prod, .int .i64 epoch, .int .i64 sq, .slice q l.length cap]] w fun en w' => en = .returned (.int .i64 e) ∧ St W0 w' K L := by
  obtain ⟨tot, htot⟩ : ∃ t, rowsC first last (l.map (·.1)) (-1) first = t := ⟨_, rfl⟩
  have HE := Lib.hid (show rowsE app maxt tot = e by rw [← he, ← htot]; rfl)
  have HT := Lib.hid htot
  have HK := Lib.hid hk
  have HFT := Lib.hid hfit
  have HF := Lib.hid hf
  obtain ⟨nf, hnf⟩ : ∃ m, -first = m := ⟨_, rfl⟩
  obtain ⟨mf, hmf⟩ : ∃ m, 9223372036854775807 - first = m := ⟨_, rfl⟩
  have HNF := Lib.hid hnf
  have HMF := Lib.hid hmf
  have n1 : wrap64 (-first) = nf := by rw [← hnf]; unfold wrap64; omega
  have n2 : IntKind.i64.wrap (-first) = nf := by rw [← hnf]; exact IntWalk.i64_in _ (by omega)
  have m1 : wrap64 (9223372036854775807 - first) = mf := by rw [← hmf]; unfold wrap64; omega
  have m2 : IntKind.i64.wrap (9223372036854775807 - first) = mf := by rw [← hmf]; exact IntWalk.i64_in _ (by omega)
  have h1 := h.allocRaw #[.int .i64 base, .int .i64 leader, .bool app, .bool txn, .bool ctl, .int .i64 last, .int .i64 first, .int .i64 maxt, .int .i64 prod, .int .i64 epoch, .int .i64 sq, .slice q l.length cap] 24
  obtain ⟨hb, hhb⟩ : ∃ b, w.heap.size = b := ⟨_, rfl⟩
  rw [hhb] at h1
  obtain ⟨x0, x1, x2, x3, x4, x5, x6, x7, x8, x9, x10, x11, y0, y1, y2, y3, y4, y5, y6, y7, y8, y9, y10, y11⟩ := raw12 (b := hb) (h1)
  have H := Lib.hid h1
  clear h h1 hk hfit he htot hnf hmf hf
  go_enter Tryz.func38, Tryz.ntmps38
  go_upto_region 1 with (fail)
  have hs := H.out.drew
  clear H
  have H := Lib.hid hs
  clear hs
  go_region
  clear x0 y0 x1 y1 x2 y2 x3 y3 x4 y4 x5 y5 x6 y6 x7 y7 x8 y8 x9 y9 x10 y10 x11 y11
  obtain ⟨x0, x1, x2, x3, x4, x5, x6, x7, x8, x9, x10, x11, y0, y1, y2, y3, y4, y5, y6, y7, y8, y9, y10, y11⟩ := raw12 (b := hb) (H.out)
  go_wp2
  clear x0 y0 x1 y1 x2 y2 x3 y3 x4 y4 x5 y5 x6 y6 x7 y7 x8 y8 x9 y9 x10 y10 x11 y11
  go_loopw [3, 4, 6, 12] (fun av gv _ iv wr => ∃ (k : Nat) (ah g : Int), k ≤ l.length ∧ av = .int .i64 ah ∧ gv = .int .i64 g ∧ iv = .int .i64 k ∧ Hid (rowsC first last ((l.map (·.1)).drop k) ah g = tot) ∧ St W0 wr K (.raw hb #[.int .i64 base, .int .i64 leader, .bool app, .bool txn, .bool ctl, .int .i64 last, .int .i64 first, .int .i64 maxt, .int .i64 prod, .int .i64 epoch, .int .i64 sq, .slice q l.length cap] 24 :: L)) (fun _ _ _ iv _ => l.length - (intOf iv).toNat)
  case atStart => exact ⟨0, -1, first, Nat.zero_le _, rfl, rfl, rfl, HT, H.out⟩
  case round =>
    obtain ⟨k, ah, g, hkl, rfl, rfl, rfl, HC, hst⟩ := hrel
    clear H
    have H := Lib.hid hst
    clear hst
    by_cases hlt : k < l.length
    · have hd := drop_recs l k hlt _ rfl
      obtain ⟨b, off, hqq⟩ := recs_at HK.out H.out (by omega)
      subst hqq
      obtain ⟨⟨x, vx⟩, hx⟩ : ∃ x, l[k] = x := ⟨_, rfl⟩
      have cc := recs_cell HK.out H.out k hlt (x, vx) hx
      have hmem : (x, vx) ∈ l := hx ▸ List.getElem_mem hlt
      have xf : x.R ∧ HFit x.hdrs ∧ x.sum ≤ 1000000 := HFT.out (x, vx) hmem
      have xk : K.has (Know.flat RHdr vx 3 x.hdrs) := recs_hdrs HK.out hmem
      obtain ⟨qx, capx, hvx⟩ := flat_form xk H.out
      subst hvx
      simp only at cc
      obtain ⟨c0, c1, c2, c3, c4, c5, c6⟩ := cc
      rw [← Nat.add_assoc] at c1 c2 c3 c4 c5 c6
      have hx1 : l[k].1 = x := by rw [hx]
      have XF := Lib.hid xf
      have XK := Lib.hid xk
      have HX := Lib.hid hx1
      clear xf xk hx1 hx hmem
      obtain ⟨wE, hwE⟩ : ∃ b, wr.heap.size = b := ⟨_, rfl⟩
      have hki : (k : Int) < (l.length : Int) := by omega
      have h := H.out.allocRaw #[.int .i64 x.time, .int .i64 x.off, .bool x.key.null, .string (bb x.key.data), .bool x.val.null, .string (bb x.val.data), .slice qx x.hdrs.length capx] 45
      rw [hwE] at h
      clear H
      have H := Lib.hid h
      clear h
      rw [HX.out] at hd
      have hc := HC.out
      rw [hd, rowsC_cons] at hc
      obtain ⟨ec0, ec1, ec2, ec3, ec4, ec5, ec6, ef0, ef1, ef2, ef3, ef4, ef5, ef6⟩ := raw7 (b := wE) (H.out)
      obtain ⟨x0, x1, x2, x3, x4, x5, x6, x7, x8, x9, x10, x11, y0, y1, y2, y3, y4, y5, y6, y7, y8, y9, y10, y11⟩ := raw12 (b := hb) (H.out.p1)
      clear hd
      by_cases c1 : x.off ≤ ah
      · have d1 : decide (x.off ≤ ah) = true := decide_eq_true c1
        rw [if_pos (.inl c1)] at hc
        obtain rfl : 13 = e := by have := HE.out; rw [← hc] at this; exact this
        clear c1 hc
        go_wp2
        go_ret
        exact ⟨rfl, H.out.drop.drop⟩
      · have d1 : decide (x.off ≤ ah) = false := decide_eq_false c1
        by_cases c2 : last < x.off
        · have d2 : decide (last < x.off) = true := decide_eq_true c2
          rw [if_pos (.inr c2)] at hc
          obtain rfl : 13 = e := by have := HE.out; rw [← hc] at this; exact this
          clear c1 c2 hc
          go_wp2
          go_ret
          exact ⟨rfl, H.out.drop.drop⟩
        · have d2 : decide (last < x.off) = false := decide_eq_false c2
          rw [if_neg (by rintro (h | h); exact c1 h; exact c2 h)] at hc
          clear c1 c2
          by_cases c3 : x.time < -first ∨ 9223372036854775807 - first < x.time
          · rw [if_pos c3] at hc
            obtain rfl : 11 = e := by have := HE.out; rw [← hc] at this; exact this
            have HW := Lib.hid (show decide (nf ≤ x.time ∧ x.time ≤ mf) = false by
              rw [← HNF.out, ← HMF.out]
              exact decide_eq_false (by omega))
            clear c3 hc
            go_wp2_with (go_at_call 66; (with_reducible refine (bat_within x.time nf mf false HW.out H.out).mono ?_); rintro e_ wn ⟨rfl, h⟩; replace H := Lib.hid h; clear h; obtain ⟨ec0, ec1, ec2, ec3, ec4, ec5, ec6, ef0, ef1, ef2, ef3, ef4, ef5, ef6⟩ := raw7 (b := wE) (H.out); obtain ⟨x0, x1, x2, x3, x4, x5, x6, x7, x8, x9, x10, x11, y0, y1, y2, y3, y4, y5, y6, y7, y8, y9, y10, y11⟩ := raw12 (b := hb) (H.out.p1))
            go_ret
            exact ⟨rfl, H.out.drop.drop⟩
          · rw [if_neg c3] at hc
            have HW := Lib.hid (show decide (nf ≤ x.time ∧ x.time ≤ mf) = true by
              rw [← HNF.out, ← HMF.out]
              exact decide_eq_true (by omega))
            obtain ⟨ft, hft⟩ : ∃ t, first + x.time = t := ⟨_, rfl⟩
            have f1 : wrap64 (first + x.time) = ft := by have := HF.out; rw [← hft]; unfold wrap64; omega
            have f2 : IntKind.i64.wrap (first + x.time) = ft := by have := HF.out; rw [← hft]; exact IntWalk.i64_in _ (by omega)
            rw [hft] at hc
            have HC2 := Lib.hid hc
            have EM := Lib.hid (show max g ft = (if g < ft then ft else g) by rw [Int.max_def]; split <;> split <;> omega)
            clear c3 hc hft
            go_upto_region 9 with (go_at_call 66; (with_reducible refine (bat_within x.time nf mf true HW.out H.out).mono ?_); rintro e_ wn ⟨rfl, h⟩; replace H := Lib.hid h; clear h; obtain ⟨ec0, ec1, ec2, ec3, ec4, ec5, ec6, ef0, ef1, ef2, ef3, ef4, ef5, ef6⟩ := raw7 (b := wE) (H.out); obtain ⟨x0, x1, x2, x3, x4, x5, x6, x7, x8, x9, x10, x11, y0, y1, y2, y3, y4, y5, y6, y7, y8, y9, y10, y11⟩ := raw12 (b := hb) (H.out.p1))
            have hs := H.out.drew
            clear H
            have H := Lib.hid hs
            clear hs x0 y0 x1 y1 x2 y2 x3 y3 x4 y4 x5 y5 x6 y6 x7 y7 x8 y8 x9 y9 x10 y10 x11 y11 ec0 ef0 ec1 ef1 ec2 ef2 ec3 ef3 ec4 ef4 ec5 ef5 ec6 ef6
            obtain ⟨ec0, ec1, ec2, ec3, ec4, ec5, ec6, ef0, ef1, ef2, ef3, ef4, ef5, ef6⟩ := raw7 (b := wE) (H.out)
            obtain ⟨x0, x1, x2, x3, x4, x5, x6, x7, x8, x9, x10, x11, y0, y1, y2, y3, y4, y5, y6, y7, y8, y9, y10, y11⟩ := raw12 (b := hb) (H.out.p1)
            refine wp_region_held_drew (S := fun w' => w'.cell? ⟨wE, 0, none⟩ = some (.int .i64 x.time) ∧ w'.cell? ⟨wE, 1, none⟩ = some (.int .i64 x.off) ∧ w'.cell? ⟨hb, 6, none⟩ = some (.int .i64 first)) (by kernel_rfl) ⟨ec0, ec1, x6⟩ (fun hHeld => ?_)
            clear x0 y0 x1 y1 x2 y2 x3 y3 x4 y4 x5 y5 x6 y6 x7 y7 x8 y8 x9 y9 x10 y10 x11 y11 ec0 ef0 ec1 ef1 ec2 ef2 ec3 ef3 ec4 ef4 ec5 ef5 ec6 ef6 c0 c1 c2 c3 c4 c5 c6
            refine wpAnyH_take (i := 0) (oi := { dst := some 37, op := Op.fieldAddr 45 (Operand.tmp 6) 1, type := 0, pos := "check.go:75", after := #[], guard := none }) (v := ?_) rfl (by kernel_rfl) (by kernel_rfl) (by kernel_rfl) (fun _ _ _ h => h) (Or.inl ⟨by rfl, ?_⟩) (by assumption) ?_
            rotate_left
            · intro w hSw; (try dsimp only at hSw); go_simp; try with_reducible rfl
            simp only [Act.put, List.setIfInBounds_toArray, List.set_cons_zero, List.set_cons_succ]
            refine wpAnyH_take (i := 1) (oi := { dst := some 38, op := Op.load 3 (Operand.tmp 37), type := 3, pos := "check.go:75", after := #[{ on := 0, ground := Ground.data }], guard := none }) (v := ?_) rfl (by kernel_rfl) (by kernel_rfl) (by kernel_rfl) (fun _ _ _ h => h) (Or.inl ⟨by rfl, ?_⟩) (by assumption) ?_
            rotate_left
            · intro w hSw; (try dsimp only at hSw); go_simp; try with_reducible rfl
            simp only [Act.put, List.setIfInBounds_toArray, List.set_cons_zero, List.set_cons_succ]
            refine wpAnyH_take (i := 2) (oi := { dst := some 39, op := Op.move (Operand.tmp 4), type := 3, pos := "check.go:75", after := #[], guard := none }) (v := ?_) rfl (by kernel_rfl) (by kernel_rfl) (by kernel_rfl) (fun _ _ _ h => h) (Or.inl ⟨by rfl, ?_⟩) (by assumption) ?_
            rotate_left
            · intro w hSw; (try dsimp only at hSw); go_simp; try with_reducible rfl
            simp only [Act.put, List.setIfInBounds_toArray, List.set_cons_zero, List.set_cons_succ]
            refine wpAnyH_take (i := 3) (oi := { dst := some 40, op := Op.fieldAddr 24 (Operand.tmp 1) 6, type := 0, pos := "check.go:75", after := #[], guard := none }) (v := ?_) rfl (by kernel_rfl) (by kernel_rfl) (by kernel_rfl) (fun _ _ _ h => h) (Or.inl ⟨by rfl, ?_⟩) (by assumption) ?_
            rotate_left
            · intro w hSw; (try dsimp only at hSw); go_simp; try with_reducible rfl
            simp only [Act.put, List.setIfInBounds_toArray, List.set_cons_zero, List.set_cons_succ]
            refine wpAnyH_take (i := 4) (oi := { dst := some 41, op := Op.load 3 (Operand.tmp 40), type := 3, pos := "check.go:75", after := #[{ on := 3, ground := Ground.data }], guard := none }) (v := ?_) rfl (by kernel_rfl) (by kernel_rfl) (by kernel_rfl) (fun _ _ _ h => h) (Or.inl ⟨by rfl, ?_⟩) (by assumption) ?_
            rotate_left
            · intro w hSw; (try dsimp only at hSw); go_simp; try with_reducible rfl
            simp only [Act.put, List.setIfInBounds_toArray, List.set_cons_zero, List.set_cons_succ]
            refine wpAnyH_take (i := 5) (oi := { dst := some 42, op := Op.fieldAddr 45 (Operand.tmp 6) 0, type := 0, pos := "check.go:75", after := #[], guard := none }) (v := ?_) rfl (by kernel_rfl) (by kernel_rfl) (by kernel_rfl) (fun _ _ _ h => h) (Or.inl ⟨by rfl, ?_⟩) (by assumption) ?_
            rotate_left
            · intro w hSw; (try dsimp only at hSw); go_simp; try with_reducible rfl
            simp only [Act.put, List.setIfInBounds_toArray, List.set_cons_zero, List.set_cons_succ]
            refine wpAnyH_take (i := 6) (oi := { dst := some 43, op := Op.load 3 (Operand.tmp 42), type := 3, pos := "check.go:75", after := #[{ on := 5, ground := Ground.data }], guard := none }) (v := ?_) rfl (by kernel_rfl) (by kernel_rfl) (by kernel_rfl) (fun _ _ _ h => h) (Or.inl ⟨by rfl, ?_⟩) (by assumption) ?_
            rotate_left
            · intro w hSw; (try dsimp only at hSw); go_simp; try with_reducible rfl
            simp only [Act.put, List.setIfInBounds_toArray, List.set_cons_zero, List.set_cons_succ]
            refine wpAnyH_take (i := 7) (oi := { dst := some 44, op := Op.binOp BinOp.add 3 (Operand.tmp 41) (Operand.tmp 43) 3, type := 3, pos := "check.go:75", after := #[{ on := 4, ground := Ground.data }, { on := 6, ground := Ground.data }], guard := none }) (v := ?_) rfl (by kernel_rfl) (by kernel_rfl) (by kernel_rfl) (fun _ _ _ h => h) (Or.inl ⟨by rfl, ?_⟩) (by assumption) ?_
            rotate_left
            · intro w hSw; (try dsimp only at hSw); go_simp; try with_reducible rfl
            simp only [Act.put, List.setIfInBounds_toArray, List.set_cons_zero, List.set_cons_succ]
            refine wpAnyH_take (i := 8) (oi := { dst := some 45, op := Op.call { callee := Callee.builtin Builtin.max, args := #[Operand.tmp 39, Operand.tmp 44], argTypes := #[3, 3] }, type := 3, pos := "check.go:75", after := #[{ on := 2, ground := Ground.data }, { on := 7, ground := Ground.data }], guard := none }) (v := ?_) rfl (by kernel_rfl) (by kernel_rfl) (by kernel_rfl) (fun _ _ _ h => h) (Or.inl ⟨by rfl, ?_⟩) (by assumption) ?_
            rotate_left
            · intro w hSw; (try dsimp only at hSw); go_simp; try with_reducible rfl
            simp only [Act.put, List.setIfInBounds_toArray, List.set_cons_zero, List.set_cons_succ]
            refine wpAnyH_take (i := 9) (oi := { dst := some 3, op := Op.assign (Operand.tmp 38), type := 3, pos := "check.go:75", after := #[{ on := 1, ground := Ground.data }, { on := 0, ground := Ground.phase }, { on := 1, ground := Ground.phase }, { on := 2, ground := Ground.textOnly Departure.lateStores }, { on := 3, ground := Ground.textOnly Departure.lateStores }, { on := 4, ground := Ground.textOnly Departure.lateStores }, { on := 5, ground := Ground.textOnly Departure.lateStores }, { on := 6, ground := Ground.textOnly Departure.lateStores }, { on := 7, ground := Ground.textOnly Departure.lateStores }, { on := 8, ground := Ground.textOnly Departure.lateStoresUnsure }], guard := none }) (v := ?_) rfl (by kernel_rfl) (by kernel_rfl) (by kernel_rfl) (fun _ _ _ h => h) (Or.inl ⟨by rfl, ?_⟩) (by assumption) ?_
            rotate_left
            · intro w hSw; (try dsimp only at hSw); go_simp; try with_reducible rfl
            simp only [Act.put, List.setIfInBounds_toArray, List.set_cons_zero, List.set_cons_succ]
            refine wpAnyH_take (i := 10) (oi := { dst := some 4, op := Op.assign (Operand.tmp 45), type := 3, pos := "check.go:75", after := #[{ on := 8, ground := Ground.data }, { on := 9, ground := Ground.chain }, { on := 0, ground := Ground.phase }, { on := 1, ground := Ground.phase }, { on := 2, ground := Ground.phase }, { on := 3, ground := Ground.phase }, { on := 4, ground := Ground.phase }, { on := 5, ground := Ground.phase }, { on := 6, ground := Ground.phase }, { on := 7, ground := Ground.phase }, { on := 8, ground := Ground.phase }, { on := 9, ground := Ground.phase }], guard := none }) (v := ?_) rfl (by kernel_rfl) (by kernel_rfl) (by kernel_rfl) (fun _ _ _ h => h) (Or.inl ⟨by rfl, ?_⟩) (by assumption) ?_
            rotate_left
            · intro w hSw; (try dsimp only at hSw); go_simp; try with_reducible rfl
            simp only [Act.put, List.setIfInBounds_toArray, List.set_cons_zero, List.set_cons_succ]
            refine wpAnyH_done (by kernel_rfl) ?_ _
            clear hHeld
            go_wp2_with fail
            go_roundw
            case rel => exact ⟨k + 1, x.off, _, hlt, rfl, rfl, by go_num, Lib.hid (by rw [← EM.out]; exact HC2.out), H.out.drop⟩
            case measure => first | (simp [intOf]; done) | (simp [intOf]; omega)
    · obtain rfl : l.length = k := by omega
      have hc := HC.out
      rw [List.drop_of_length_le (by simp)] at hc
      have hc : Except.ok g = tot := hc
      have hee := HE.out
      rw [← hc] at hee
      simp only [rowsE] at hee
      obtain ⟨x0, x1, x2, x3, x4, x5, x6, x7, x8, x9, x10, x11, y0, y1, y2, y3, y4, y5, y6, y7, y8, y9, y10, y11⟩ := raw12 (b := hb) (H.out)
      cases app with
      | true =>
        obtain rfl : 0 = e := by rw [← hee]; rfl
        clear hc hee
        go_wp2
        go_ret
        exact ⟨rfl, H.out.drop⟩
      | false =>
        by_cases c1 : maxt = g
        · subst c1
          obtain rfl : 0 = e := by rw [← hee]; simp
          clear hc hee
          go_wp2
          go_ret
          exact ⟨rfl, H.out.drop⟩
        · obtain rfl : 11 = e := by rw [← hee]; simp [c1]
          have b1 : (maxt == g) = false := by rw [beq_eq_false_iff_ne]; exact c1
          clear hc hee c1
          go_wp2
          go_ret
          exact ⟨rfl, H.out.drop⟩

end Go.Proofs.YtcjgdlfcfcabiaaGreat

/- Batches: which may be. -/
namespace Go.Proofs.YtcjgdlfcfcabiaaGreat
open Go.RowKit

set_option maxHeartbeats 1000000 in
set_option maxRecDepth 100000 in
theorem bat_check (base leader : Int) (app txn ctl : Bool) (last first maxt prod epoch sq : Int) (l : List (RecS × Value)) (q : Option Addr) (cap : Nat) (e : Int) (he : batErr ⟨base, leader, app, txn, ctl, last, first, maxt, prod, epoch, sq, l.map (·.1)⟩ = e) (hmx : first ≤ 9223372036854775807) (hfit : FitB l) (hll : l.length ≤ 1000000) {W0 w : World} {K : Know} {L : List Res} (hk : K.has (Know.recs (.slice q l.length cap) l)) (h : St W0 w K L) :
    Calls Tryz.prog 10 #[.agg #[.int .i64 base, .int .i64 leader, .bool app, .bool txn, .bool ctl, .int .i64 last, .int .i64 first, .int .i64 maxt, .int .i64 prod, .int .i64 epoch, .int .i64 sq, .slice q l.length cap]] w fun en w' => en = .returned (.int .i64 e) ∧ St W0 w' K L := by
  have HK := Lib.hid hk
  have HFT := Lib.hid hfit
  have HLL := Lib.hid hll
  have h1 := h.allocRaw #[.int .i64 base, .int .i64 leader, .bool app, .bool txn, .bool ctl, .int .i64 last, .int .i64 first, .int .i64 maxt, .int .i64 prod, .int .i64 epoch, .int .i64 sq, .slice q l.length cap] 24
  obtain ⟨hb, hhb⟩ : ∃ b, w.heap.size = b := ⟨_, rfl⟩
  rw [hhb] at h1
  obtain ⟨x0, x1, x2, x3, x4, x5, x6, x7, x8, x9, x10, x11, y0, y1, y2, y3, y4, y5, y6, y7, y8, y9, y10, y11⟩ := raw12 (b := hb) (h1)
  have H := Lib.hid h1
  clear h h1 hk hfit
  unfold batErr at he
  simp only [List.length_map] at he
  by_cases p1 : BatS.placed ⟨base, leader, app, txn, ctl, last, first, maxt, prod, epoch, sq, l.map (·.1)⟩ = false
  · rw [if_pos p1] at he
    subst he
    have HP := Lib.hid (show decide (0 ≤ base ∧ (-1 ≤ leader ∧ leader ≤ 2147483647) ∧ (0 ≤ last ∧ last ≤ 2147483647) ∧ base ≤ 9223372036854775807 - last ∧ 0 ≤ first ∧ 0 ≤ maxt) = false from p1)
    clear p1 hmx hll
    go_enter Tryz.func10, Tryz.ntmps10
    go_wp2_with (go_at_call 34; (with_reducible refine (bat_placed _ _ _ _ _ _ _ _ _ _ _ _ _ HP.out H.out).mono ?_); rintro e_ wn ⟨rfl, h⟩; replace H := Lib.hid h; clear h; obtain ⟨x0, x1, x2, x3, x4, x5, x6, x7, x8, x9, x10, x11, y0, y1, y2, y3, y4, y5, y6, y7, y8, y9, y10, y11⟩ := raw12 (b := hb) (H.out))
    go_ret
    exact ⟨rfl, H.out.drop⟩
  rw [if_neg p1] at he
  have p2 : BatS.placed ⟨base, leader, app, txn, ctl, last, first, maxt, prod, epoch, sq, l.map (·.1)⟩ = true := by cases hh : BatS.placed ⟨base, leader, app, txn, ctl, last, first, maxt, prod, epoch, sq, l.map (·.1)⟩ with
    | false => exact absurd hh p1
    | true => rfl
  have HP := Lib.hid (show decide (0 ≤ base ∧ (-1 ≤ leader ∧ leader ≤ 2147483647) ∧ (0 ≤ last ∧ last ≤ 2147483647) ∧ base ≤ 9223372036854775807 - last ∧ 0 ≤ first ∧ 0 ≤ maxt) = true from p2)
  have HFP := Lib.hid (show 0 ≤ first ∧ first ≤ 9223372036854775807 from ⟨(of_decide_eq_true (show decide (0 ≤ base ∧ (-1 ≤ leader ∧ leader ≤ 2147483647) ∧ (0 ≤ last ∧ last ≤ 2147483647) ∧ base ≤ 9223372036854775807 - last ∧ 0 ≤ first ∧ 0 ≤ maxt) = true from p2)).2.2.2.2.1, hmx⟩)
  clear p1 p2 hmx
  by_cases c1 : ctl = true ∧ txn = false
  · rw [if_pos c1] at he
    subst he
    obtain ⟨rfl, rfl⟩ := c1
    clear hll
    go_enter Tryz.func10, Tryz.ntmps10
    go_wp2_with (go_at_call 34; (with_reducible refine (bat_placed _ _ _ _ _ _ _ _ _ _ _ _ _ HP.out H.out).mono ?_); rintro e_ wn ⟨rfl, h⟩; replace H := Lib.hid h; clear h; obtain ⟨x0, x1, x2, x3, x4, x5, x6, x7, x8, x9, x10, x11, y0, y1, y2, y3, y4, y5, y6, y7, y8, y9, y10, y11⟩ := raw12 (b := hb) (H.out))
    go_ret
    exact ⟨rfl, H.out.drop⟩
  rw [if_neg c1] at he
  by_cases s1 : BatS.signed ⟨base, leader, app, txn, ctl, last, first, maxt, prod, epoch, sq, l.map (·.1)⟩ = false
  · rw [if_pos s1] at he
    subst he
    have HS := Lib.hid (show (if prod = -1 then decide (epoch = -1 ∧ sq = -1 ∧ txn = false) else if prod < 0 ∨ ¬ (0 ≤ epoch ∧ epoch ≤ 32767) then false else if ctl then decide (sq = -1) else decide (0 ≤ sq ∧ sq ≤ 2147483647)) = false from s1)
    clear s1 hll
    cases ctl with
    | false =>
      go_enter Tryz.func10, Tryz.ntmps10
      go_wp2_with (first
    | (go_at_call 34; (with_reducible refine (bat_placed _ _ _ _ _ _ _ _ _ _ _ _ _ HP.out H.out).mono ?_); rintro e_ wn ⟨rfl, h⟩; replace H := Lib.hid h; clear h; obtain ⟨x0, x1, x2, x3, x4, x5, x6, x7, x8, x9, x10, x11, y0, y1, y2, y3, y4, y5, y6, y7, y8, y9, y10, y11⟩ := raw12 (b := hb) (H.out))
    | (go_at_call 35; (with_reducible refine (bat_signed _ _ _ _ _ _ _ _ _ _ _ _ _ HS.out H.out).mono ?_); rintro e_ wn ⟨rfl, h⟩; replace H := Lib.hid h; clear h; obtain ⟨x0, x1, x2, x3, x4, x5, x6, x7, x8, x9, x10, x11, y0, y1, y2, y3, y4, y5, y6, y7, y8, y9, y10, y11⟩ := raw12 (b := hb) (H.out)))
      go_ret
      exact ⟨rfl, H.out.drop⟩
    | true =>
      cases txn with
      | false => exact absurd ⟨rfl, rfl⟩ c1
      | true =>
        clear c1
        go_enter Tryz.func10, Tryz.ntmps10
        go_wp2_with (first
    | (go_at_call 34; (with_reducible refine (bat_placed _ _ _ _ _ _ _ _ _ _ _ _ _ HP.out H.out).mono ?_); rintro e_ wn ⟨rfl, h⟩; replace H := Lib.hid h; clear h; obtain ⟨x0, x1, x2, x3, x4, x5, x6, x7, x8, x9, x10, x11, y0, y1, y2, y3, y4, y5, y6, y7, y8, y9, y10, y11⟩ := raw12 (b := hb) (H.out))
    | (go_at_call 35; (with_reducible refine (bat_signed _ _ _ _ _ _ _ _ _ _ _ _ _ HS.out H.out).mono ?_); rintro e_ wn ⟨rfl, h⟩; replace H := Lib.hid h; clear h; obtain ⟨x0, x1, x2, x3, x4, x5, x6, x7, x8, x9, x10, x11, y0, y1, y2, y3, y4, y5, y6, y7, y8, y9, y10, y11⟩ := raw12 (b := hb) (H.out)))
        go_ret
        exact ⟨rfl, H.out.drop⟩
  rw [if_neg s1] at he
  have s2 : BatS.signed ⟨base, leader, app, txn, ctl, last, first, maxt, prod, epoch, sq, l.map (·.1)⟩ = true := by cases hh : BatS.signed ⟨base, leader, app, txn, ctl, last, first, maxt, prod, epoch, sq, l.map (·.1)⟩ with
    | false => exact absurd hh s1
    | true => rfl
  have HS := Lib.hid (show (if prod = -1 then decide (epoch = -1 ∧ sq = -1 ∧ txn = false) else if prod < 0 ∨ ¬ (0 ≤ epoch ∧ epoch ≤ 32767) then false else if ctl then decide (sq = -1) else decide (0 ≤ sq ∧ sq ≤ 2147483647)) = true from s2)
  clear s1 s2
  cases ctl with
  | false =>
    rw [if_neg (fun h => by cases h.1)] at he
    obtain ⟨tot, htot⟩ : ∃ t, recsC (l.map (·.1)) = t := ⟨_, rfl⟩
    rw [htot] at he
    have HTE := Lib.hid (show tot ≠ 0 → tot = e from fun h => by rw [if_pos h] at he; exact he)
    have HTZ := Lib.hid (show tot = 0 → BatS.rows ⟨base, leader, app, txn, false, last, first, maxt, prod, epoch, sq, l.map (·.1)⟩ = e from fun h => by rw [if_neg (fun x => x h), if_neg (fun h => by cases h.1)] at he; exact he)
    have HT := Lib.hid htot
    clear he htot c1
    go_enter Tryz.func10, Tryz.ntmps10
    go_wp2_with (first
        | (go_at_call 34; (with_reducible refine (bat_placed _ _ _ _ _ _ _ _ _ _ _ _ _ HP.out H.out).mono ?_); rintro e_ wn ⟨rfl, h⟩; replace H := Lib.hid h; clear h; obtain ⟨x0, x1, x2, x3, x4, x5, x6, x7, x8, x9, x10, x11, y0, y1, y2, y3, y4, y5, y6, y7, y8, y9, y10, y11⟩ := raw12 (b := hb) (H.out))
        | (go_at_call 35; (with_reducible refine (bat_signed _ _ _ _ _ _ _ _ _ _ _ _ _ HS.out H.out).mono ?_); rintro e_ wn ⟨rfl, h⟩; replace H := Lib.hid h; clear h; obtain ⟨x0, x1, x2, x3, x4, x5, x6, x7, x8, x9, x10, x11, y0, y1, y2, y3, y4, y5, y6, y7, y8, y9, y10, y11⟩ := raw12 (b := hb) (H.out)))
    go_loopw [4, 5, 33] (fun _ _ iv wr => ∃ k : Nat, k ≤ l.length ∧ iv = .int .i64 k ∧ Hid (recsC ((l.map (·.1)).drop k) = tot) ∧ St W0 wr K (.raw hb #[.int .i64 base, .int .i64 leader, .bool app, .bool txn, .bool false, .int .i64 last, .int .i64 first, .int .i64 maxt, .int .i64 prod, .int .i64 epoch, .int .i64 sq, .slice q l.length cap] 24 :: L)) (fun _ _ iv _ => l.length - (intOf iv).toNat)
    case atStart => exact ⟨0, Nat.zero_le _, rfl, HT, H.out⟩
    case round =>
      clear x0 y0 x1 y1 x2 y2 x3 y3 x4 y4 x5 y5 x6 y6 x7 y7 x8 y8 x9 y9 x10 y10 x11 y11
      obtain ⟨k, hkl, rfl, HC, hst⟩ := hrel
      clear H
      have H := Lib.hid hst
      clear hst
      by_cases hlt : k < l.length
      · have hd := drop_recs l k hlt _ rfl
        obtain ⟨b, off, hqq⟩ := recs_at HK.out H.out (by omega)
        subst hqq
        obtain ⟨⟨x, vx⟩, hx⟩ : ∃ x, l[k] = x := ⟨_, rfl⟩
        have cc := recs_cell HK.out H.out k hlt (x, vx) hx
        have hmem : (x, vx) ∈ l := hx ▸ List.getElem_mem hlt
        have xf : x.R ∧ HFit x.hdrs ∧ x.sum ≤ 1000000 := HFT.out (x, vx) hmem
        have xk : K.has (Know.flat RHdr vx 3 x.hdrs) := recs_hdrs HK.out hmem
        obtain ⟨qx, capx, hvx⟩ := flat_form xk H.out
        subst hvx
        simp only at cc
        obtain ⟨c0, c1, c2, c3, c4, c5, c6⟩ := cc
        rw [← Nat.add_assoc] at c1 c2 c3 c4 c5 c6
        have hx1 : l[k].1 = x := by rw [hx]
        have XF := Lib.hid xf
        have XK := Lib.hid xk
        have HX := Lib.hid hx1
        clear xf xk hx1 hx hmem
        obtain ⟨wE, hwE⟩ : ∃ b, wr.heap.size = b := ⟨_, rfl⟩
        have hki : (k : Int) < (l.length : Int) := by omega
        have h := H.out.allocRaw #[.int .i64 x.time, .int .i64 x.off, .bool x.key.null, .string (bb x.key.data), .bool x.val.null, .string (bb x.val.data), .slice qx x.hdrs.length capx] 45
        rw [hwE] at h
        clear H
        have H := Lib.hid h
        clear h
        rw [HX.out] at hd
        have hc := HC.out
        rw [hd] at hc
        have hc : (if recOk x = 0 then recsC ((l.map (·.1)).drop (k + 1)) else recOk x) = tot := hc
        have XL := Lib.hid (sum_hdrs XF.out.2.2)
        obtain ⟨ec0, ec1, ec2, ec3, ec4, ec5, ec6, ef0, ef1, ef2, ef3, ef4, ef5, ef6⟩ := raw7 (b := wE) (H.out)
        obtain ⟨x0, x1, x2, x3, x4, x5, x6, x7, x8, x9, x10, x11, y0, y1, y2, y3, y4, y5, y6, y7, y8, y9, y10, y11⟩ := raw12 (b := hb) (H.out.p1)
        clear hd
        by_cases c1 : recOk x = 0
        · rw [if_pos c1] at hc
          have HC2 := Lib.hid hc
          have ER := Lib.hid c1
          clear hc c1
          go_wp2_with (go_at_call 36; (with_reducible refine (rec_right x (.slice qx x.hdrs.length capx) _ ER.out XL.out XK.out H.out).mono ?_); rintro e_ wn ⟨rfl, h⟩; replace H := Lib.hid h; clear h; obtain ⟨ec0, ec1, ec2, ec3, ec4, ec5, ec6, ef0, ef1, ef2, ef3, ef4, ef5, ef6⟩ := raw7 (b := wE) (H.out); obtain ⟨x0, x1, x2, x3, x4, x5, x6, x7, x8, x9, x10, x11, y0, y1, y2, y3, y4, y5, y6, y7, y8, y9, y10, y11⟩ := raw12 (b := hb) (H.out.p1))
          go_roundw
          case rel => exact ⟨k + 1, hlt, by go_num, HC2.out, H.out.drop⟩
          case measure => first | (simp [intOf]; done) | (simp [intOf]; omega)
        · rw [if_neg c1] at hc
          have ER := Lib.hid hc
          have gz : (tot == 0) = false := by rw [beq_eq_false_iff_ne, ← hc]; exact c1
          obtain rfl : tot = e := HTE.out (by rw [← hc]; exact c1)
          clear hc c1
          go_wp2_with (go_at_call 36; (with_reducible refine (rec_right x (.slice qx x.hdrs.length capx) _ ER.out XL.out XK.out H.out).mono ?_); rintro e_ wn ⟨rfl, h⟩; replace H := Lib.hid h; clear h; obtain ⟨ec0, ec1, ec2, ec3, ec4, ec5, ec6, ef0, ef1, ef2, ef3, ef4, ef5, ef6⟩ := raw7 (b := wE) (H.out); obtain ⟨x0, x1, x2, x3, x4, x5, x6, x7, x8, x9, x10, x11, y0, y1, y2, y3, y4, y5, y6, y7, y8, y9, y10, y11⟩ := raw12 (b := hb) (H.out.p1))
          go_ret
          exact ⟨rfl, H.out.drop.drop⟩
      · obtain rfl : l.length = k := by omega
        have hc := HC.out
        rw [List.drop_of_length_le (by simp)] at hc
        obtain rfl : 0 = tot := hc
        obtain ⟨x0, x1, x2, x3, x4, x5, x6, x7, x8, x9, x10, x11, y0, y1, y2, y3, y4, y5, y6, y7, y8, y9, y10, y11⟩ := raw12 (b := hb) (H.out)
        have HROW := Lib.hid (HTZ.out rfl)
        go_wp2_with (go_at_call 38; (with_reducible refine (bat_checkRows _ _ _ _ _ _ _ _ _ _ _ l _ _ _ HROW.out HFP.out HFT.out HLL.out HK.out H.out).mono ?_); rintro e_ wn ⟨rfl, h⟩; replace H := Lib.hid h; clear h)
        go_ret
        exact ⟨rfl, H.out.drop⟩

  | true =>
    cases txn with
    | false => exact absurd ⟨rfl, rfl⟩ c1
    | true =>
      clear c1
      by_cases c2 : l.length = 1
      · rw [if_neg (fun h => h.2 c2)] at he
        have HLEN := Lib.hid c2
        have bl : ((l.length : Int) == 1) = true := by rw [c2]; rfl
        have bl2 : ((l.length : Int) != 1) = false := by rw [c2]; rfl
        obtain ⟨tot, htot⟩ : ∃ t, recsC (l.map (·.1)) = t := ⟨_, rfl⟩
        rw [htot] at he
        have HTE := Lib.hid (show tot ≠ 0 → tot = e from fun h => by rw [if_pos h] at he; exact he)
        have HEN := Lib.hid (show ∀ (x : RecS) (h0 : 0 < l.length), (l[0]'h0).1 = x → ((ctlOf x).2.2 ≠ 0 → tot = 0 → (ctlOf x).2.2 = e) ∧ ((ctlOf x).2.2 = 0 → tot = 0 → BatS.rows ⟨base, leader, app, true, true, last, first, maxt, prod, epoch, sq, l.map (·.1)⟩ = e) from fun x h0 hx => by
          have hm : l.map (·.1) = x :: (l.map (·.1)).drop 1 := by have := drop_recs l 0 (by omega) x hx; simpa using this
          have hens : BatS.ends ⟨base, leader, app, true, true, last, first, maxt, prod, epoch, sq, l.map (·.1)⟩ = (ctlOf x).2.2 := by unfold BatS.ends; simp only; rw [hm]
          rw [hens] at he
          refine ⟨fun h h2 => ?_, fun h h2 => ?_⟩
          · rw [if_neg (fun y => y h2), if_pos ⟨rfl, h⟩] at he; exact he
          · rw [if_neg (fun y => y h2), if_neg (fun y => y.2 h)] at he; exact he)
        have HT := Lib.hid htot
        clear he htot c2
        go_enter Tryz.func10, Tryz.ntmps10
        go_wp2_with (first
            | (go_at_call 34; (with_reducible refine (bat_placed _ _ _ _ _ _ _ _ _ _ _ _ _ HP.out H.out).mono ?_); rintro e_ wn ⟨rfl, h⟩; replace H := Lib.hid h; clear h; obtain ⟨x0, x1, x2, x3, x4, x5, x6, x7, x8, x9, x10, x11, y0, y1, y2, y3, y4, y5, y6, y7, y8, y9, y10, y11⟩ := raw12 (b := hb) (H.out))
            | (go_at_call 35; (with_reducible refine (bat_signed _ _ _ _ _ _ _ _ _ _ _ _ _ HS.out H.out).mono ?_); rintro e_ wn ⟨rfl, h⟩; replace H := Lib.hid h; clear h; obtain ⟨x0, x1, x2, x3, x4, x5, x6, x7, x8, x9, x10, x11, y0, y1, y2, y3, y4, y5, y6, y7, y8, y9, y10, y11⟩ := raw12 (b := hb) (H.out)))
        go_loopw [4, 5, 33] (fun _ _ iv wr => ∃ k : Nat, k ≤ l.length ∧ iv = .int .i64 k ∧ Hid (recsC ((l.map (·.1)).drop k) = tot) ∧ St W0 wr K (.raw hb #[.int .i64 base, .int .i64 leader, .bool app, .bool true, .bool true, .int .i64 last, .int .i64 first, .int .i64 maxt, .int .i64 prod, .int .i64 epoch, .int .i64 sq, .slice q l.length cap] 24 :: L)) (fun _ _ iv _ => l.length - (intOf iv).toNat)
        case atStart => exact ⟨0, Nat.zero_le _, rfl, HT, H.out⟩
        case round =>
          clear x0 y0 x1 y1 x2 y2 x3 y3 x4 y4 x5 y5 x6 y6 x7 y7 x8 y8 x9 y9 x10 y10 x11 y11
          obtain ⟨k, hkl, rfl, HC, hst⟩ := hrel
          clear H
          have H := Lib.hid hst
          clear hst
          by_cases hlt : k < l.length
          · have hd := drop_recs l k hlt _ rfl
            obtain ⟨b, off, hqq⟩ := recs_at HK.out H.out (by omega)
            subst hqq
            obtain ⟨⟨x, vx⟩, hx⟩ : ∃ x, l[k] = x := ⟨_, rfl⟩
            have cc := recs_cell HK.out H.out k hlt (x, vx) hx
            have hmem : (x, vx) ∈ l := hx ▸ List.getElem_mem hlt
            have xf : x.R ∧ HFit x.hdrs ∧ x.sum ≤ 1000000 := HFT.out (x, vx) hmem
            have xk : K.has (Know.flat RHdr vx 3 x.hdrs) := recs_hdrs HK.out hmem
            obtain ⟨qx, capx, hvx⟩ := flat_form xk H.out
            subst hvx
            simp only at cc
            obtain ⟨c0, c1, c2, c3, c4, c5, c6⟩ := cc
            rw [← Nat.add_assoc] at c1 c2 c3 c4 c5 c6
            have hx1 : l[k].1 = x := by rw [hx]
            have XF := Lib.hid xf
            have XK := Lib.hid xk
            have HX := Lib.hid hx1
            clear xf xk hx1 hx hmem
            obtain ⟨wE, hwE⟩ : ∃ b, wr.heap.size = b := ⟨_, rfl⟩
            have hki : (k : Int) < (l.length : Int) := by omega
            have h := H.out.allocRaw #[.int .i64 x.time, .int .i64 x.off, .bool x.key.null, .string (bb x.key.data), .bool x.val.null, .string (bb x.val.data), .slice qx x.hdrs.length capx] 45
            rw [hwE] at h
            clear H
            have H := Lib.hid h
            clear h
            rw [HX.out] at hd
            have hc := HC.out
            rw [hd] at hc
            have hc : (if recOk x = 0 then recsC ((l.map (·.1)).drop (k + 1)) else recOk x) = tot := hc
            have XL := Lib.hid (sum_hdrs XF.out.2.2)
            obtain ⟨ec0, ec1, ec2, ec3, ec4, ec5, ec6, ef0, ef1, ef2, ef3, ef4, ef5, ef6⟩ := raw7 (b := wE) (H.out)
            obtain ⟨x0, x1, x2, x3, x4, x5, x6, x7, x8, x9, x10, x11, y0, y1, y2, y3, y4, y5, y6, y7, y8, y9, y10, y11⟩ := raw12 (b := hb) (H.out.p1)
            clear hd
            by_cases c1 : recOk x = 0
            · rw [if_pos c1] at hc
              have HC2 := Lib.hid hc
              have ER := Lib.hid c1
              clear hc c1
              go_wp2_with (go_at_call 36; (with_reducible refine (rec_right x (.slice qx x.hdrs.length capx) _ ER.out XL.out XK.out H.out).mono ?_); rintro e_ wn ⟨rfl, h⟩; replace H := Lib.hid h; clear h; obtain ⟨ec0, ec1, ec2, ec3, ec4, ec5, ec6, ef0, ef1, ef2, ef3, ef4, ef5, ef6⟩ := raw7 (b := wE) (H.out); obtain ⟨x0, x1, x2, x3, x4, x5, x6, x7, x8, x9, x10, x11, y0, y1, y2, y3, y4, y5, y6, y7, y8, y9, y10, y11⟩ := raw12 (b := hb) (H.out.p1))
              go_roundw
              case rel => exact ⟨k + 1, hlt, by go_num, HC2.out, H.out.drop⟩
              case measure => first | (simp [intOf]; done) | (simp [intOf]; omega)
            · rw [if_neg c1] at hc
              have ER := Lib.hid hc
              have gz : (tot == 0) = false := by rw [beq_eq_false_iff_ne, ← hc]; exact c1
              obtain rfl : tot = e := HTE.out (by rw [← hc]; exact c1)
              clear hc c1
              go_wp2_with (go_at_call 36; (with_reducible refine (rec_right x (.slice qx x.hdrs.length capx) _ ER.out XL.out XK.out H.out).mono ?_); rintro e_ wn ⟨rfl, h⟩; replace H := Lib.hid h; clear h; obtain ⟨ec0, ec1, ec2, ec3, ec4, ec5, ec6, ef0, ef1, ef2, ef3, ef4, ef5, ef6⟩ := raw7 (b := wE) (H.out); obtain ⟨x0, x1, x2, x3, x4, x5, x6, x7, x8, x9, x10, x11, y0, y1, y2, y3, y4, y5, y6, y7, y8, y9, y10, y11⟩ := raw12 (b := hb) (H.out.p1))
              go_ret
              exact ⟨rfl, H.out.drop.drop⟩
          · obtain rfl : l.length = k := by omega
            have hc := HC.out
            rw [List.drop_of_length_le (by simp)] at hc
            obtain rfl : 0 = tot := hc
            obtain ⟨x0, x1, x2, x3, x4, x5, x6, x7, x8, x9, x10, x11, y0, y1, y2, y3, y4, y5, y6, y7, y8, y9, y10, y11⟩ := raw12 (b := hb) (H.out)
            obtain ⟨b, off, hqq⟩ := recs_at HK.out H.out (by rw [HLEN.out]; decide)
            subst hqq
            obtain ⟨⟨x, vx⟩, hx⟩ : ∃ x, l[0]'(by rw [HLEN.out]; decide) = x := ⟨_, rfl⟩
            have cc := recs_cell HK.out H.out 0 (by rw [HLEN.out]; decide) (x, vx) hx
            have hmem : (x, vx) ∈ l := hx ▸ List.getElem_mem _
            have xf : x.R ∧ HFit x.hdrs ∧ x.sum ≤ 1000000 := HFT.out (x, vx) hmem
            have xk : K.has (Know.flat RHdr vx 3 x.hdrs) := recs_hdrs HK.out hmem
            obtain ⟨qx, capx, hvx⟩ := flat_form xk H.out
            subst hvx
            simp only [Nat.zero_mul, Nat.zero_add, Nat.add_zero] at cc
            obtain ⟨c0, c1, c2, c3, c4, c5, c6⟩ := cc
            have XD := Lib.hid (sum_data xf.2.2)
            have hl0 : (0 : Int) < (l.length : Int) := by have := HLEN.out; omega
            obtain ⟨⟨i1, i2, i3⟩, hi⟩ : ∃ r, ctlOf x = r := ⟨_, rfl⟩
            have EC := Lib.hid (show ctlRead x.key.null x.val.null x.key.data x.val.data x.hdrs.length x.off = (i1, i2, i3) from hi)
            have hen := HEN.out x (by rw [HLEN.out]; decide) (by rw [hx])
            rw [hi] at hen
            clear hx hmem xf xk hi
            by_cases c9 : i3 = 0
            · subst c9
              have HROW := Lib.hid (hen.2 rfl rfl)
              clear hen
              go_wp2_with (first
            | (go_at_call 37; (with_reducible refine (ctl_read x.time x.off x.key.null x.val.null x.key.data x.val.data qx x.hdrs.length capx (i1, i2, _) EC.out XD.out.1 XD.out.2 H.out).mono ?_); rintro e_ wn ⟨rfl, h⟩; replace H := Lib.hid h; clear h; obtain ⟨x0, x1, x2, x3, x4, x5, x6, x7, x8, x9, x10, x11, y0, y1, y2, y3, y4, y5, y6, y7, y8, y9, y10, y11⟩ := raw12 (b := hb) (H.out))
            | (go_at_call 38; (with_reducible refine (bat_checkRows _ _ _ _ _ _ _ _ _ _ _ l _ _ _ HROW.out HFP.out HFT.out HLL.out HK.out H.out).mono ?_); rintro e_ wn ⟨rfl, h⟩; replace H := Lib.hid h; clear h))
              go_ret
              exact ⟨rfl, H.out.drop⟩
            · have gz : (i3 == 0) = false := by rw [beq_eq_false_iff_ne]; exact c9
              obtain rfl : i3 = e := hen.1 c9 rfl
              clear hen c9
              go_wp2_with (go_at_call 37; (with_reducible refine (ctl_read x.time x.off x.key.null x.val.null x.key.data x.val.data qx x.hdrs.length capx (i1, i2, _) EC.out XD.out.1 XD.out.2 H.out).mono ?_); rintro e_ wn ⟨rfl, h⟩; replace H := Lib.hid h; clear h; obtain ⟨x0, x1, x2, x3, x4, x5, x6, x7, x8, x9, x10, x11, y0, y1, y2, y3, y4, y5, y6, y7, y8, y9, y10, y11⟩ := raw12 (b := hb) (H.out))
              go_ret
              exact ⟨rfl, H.out.drop⟩

      · rw [if_pos ⟨rfl, c2⟩] at he
        subst he
        have bl : ((l.length : Int) == 1) = false := by rw [beq_eq_false_iff_ne]; omega
        clear c2 hll
        go_enter Tryz.func10, Tryz.ntmps10
        go_wp2_with (first
    | (go_at_call 34; (with_reducible refine (bat_placed _ _ _ _ _ _ _ _ _ _ _ _ _ HP.out H.out).mono ?_); rintro e_ wn ⟨rfl, h⟩; replace H := Lib.hid h; clear h; obtain ⟨x0, x1, x2, x3, x4, x5, x6, x7, x8, x9, x10, x11, y0, y1, y2, y3, y4, y5, y6, y7, y8, y9, y10, y11⟩ := raw12 (b := hb) (H.out))
    | (go_at_call 35; (with_reducible refine (bat_signed _ _ _ _ _ _ _ _ _ _ _ _ _ HS.out H.out).mono ?_); rintro e_ wn ⟨rfl, h⟩; replace H := Lib.hid h; clear h; obtain ⟨x0, x1, x2, x3, x4, x5, x6, x7, x8, x9, x10, x11, y0, y1, y2, y3, y4, y5, y6, y7, y8, y9, y10, y11⟩ := raw12 (b := hb) (H.out)))
        go_ret
        exact ⟨rfl, H.out.drop⟩

end Go.Proofs.YtcjgdlfcfcabiaaGreat

/- Ends of transactions, read. -/
namespace Go.Proofs.YtcjgdlfcfcabiaaGreat
open Go.RowKit

set_option maxHeartbeats 2000000 in
set_option maxRecDepth 100000 in
theorem mrk_read (base leader : Int) (app txn ctl : Bool) (last first maxt prod epoch sq : Int) (l : List (RecS × Value)) (q : Option Addr) (cap : Nat) (n1 n2 n3 n4 n5 : Int) (ok : Bool) (he : endOf ⟨base, leader, app, txn, ctl, last, first, maxt, prod, epoch, sq, l.map (·.1)⟩ = (n1, n2, n3, n4, n5, ok)) (hmx : first ≤ 9223372036854775807) (hfit : FitB l) (hll : l.length ≤ 1000000) {W0 w : World} {K : Know} {L : List Res} (hk : K.has (Know.recs (.slice q l.length cap) l)) (h : St W0 w K L) :
    Calls Tryz.prog 20 #[.agg #[.int .i64 base, .int .i64 leader, .bool app, .bool txn, .bool ctl, .int .i64 last, .int .i64 first, .int .i64 maxt, .int .i64 prod, .int .i64 epoch, .int .i64 sq, .slice q l.length cap]] w fun en w' => en = .returned (.tuple #[.agg #[.int .i64 n1, .int .i64 n2, .int .i64 n3, .int .i64 n4, .int .i64 n5], .bool ok]) ∧ St W0 w' K L := by
  have HK := Lib.hid hk
  have HFT := Lib.hid hfit
  have HLL := Lib.hid hll
  have HMX := Lib.hid hmx
  have g1 := h.allocRaw #[.int .i64 base, .int .i64 leader, .bool app, .bool txn, .bool ctl, .int .i64 last, .int .i64 first, .int .i64 maxt, .int .i64 prod, .int .i64 epoch, .int .i64 sq, .slice q l.length cap] 24
  have g2 := g1.allocRaw #[.int .i64 0, .int .i64 0, .int .i64 0, .int .i64 0, .int .i64 0] 37
  obtain ⟨hb, hhb⟩ : ∃ b, w.heap.size = b := ⟨_, rfl⟩
  obtain ⟨rb, hrb⟩ : ∃ b, hb + 1 = b := ⟨_, rfl⟩
  simp only [World.size_alloc, hhb, hrb] at g2
  have H := Lib.hid g2
  clear h g1 g2 hk hfit hll hmx
  obtain ⟨⟨p0, p1, p2, p3, p4⟩, u0, u1, u2, u3, u4⟩ := raw5e (b := rb) (H.out); obtain ⟨x0, x1, x2, x3, x4, x5, x6, x7, x8, x9, x10, x11, y0, y1, y2, y3, y4, y5, y6, y7, y8, y9, y10, y11⟩ := raw12 (b := hb) (H.out.p1)
  unfold endOf at he
  simp only at he
  by_cases c0 : ctl = true
  case neg =>
    have c1 : ctl = false := by cases ctl with
      | false => rfl
      | true => exact absurd rfl c0
    rw [if_neg (fun h => c0 h.1)] at he
    simp only [Prod.mk.injEq] at he
    obtain ⟨rfl, rfl, rfl, rfl, rfl, rfl⟩ := he
    subst c1
    clear c0
    go_enter Tryz.func20, Tryz.ntmps20
    go_wp2
    have hz : St W0 _ K (.raw rb #[.int .i64 0, .int .i64 0, .int .i64 0, .int .i64 0, .int .i64 0] 37 :: _) := H.out
    refine bodyPost_ret (rc_cell_tmp rfl _ _ rb [.int .i64 0, .int .i64 0, .int .i64 0, .int .i64 0, .int .i64 0] _ rfl (rc_range hz) Tryz.underlying37 rfl (by kernel_rfl)) rfl ?_
    exact ⟨rfl, hz.drop.drop⟩
  subst c0
  obtain ⟨e, hee⟩ : ∃ e, batErr ⟨base, leader, app, txn, true, last, first, maxt, prod, epoch, sq, l.map (·.1)⟩ = e := ⟨_, rfl⟩
  have HE := Lib.hid hee
  by_cases c1 : e = 0
  case neg =>
    rw [if_neg (fun h => c1 (hee ▸ h.2))] at he
    simp only [Prod.mk.injEq] at he
    obtain ⟨rfl, rfl, rfl, rfl, rfl, rfl⟩ := he
    have gz : (e == 0) = false := by rw [beq_eq_false_iff_ne]; exact c1
    clear c1 hee
    go_enter Tryz.func20, Tryz.ntmps20
    go_wp2_with (go_at_call 10; (with_reducible refine (bat_check _ _ _ _ _ _ _ _ _ _ _ l _ _ _ HE.out HMX.out HFT.out HLL.out HK.out H.out).mono ?_); rintro e_ wn ⟨rfl, h⟩; replace H := Lib.hid h; clear h; obtain ⟨⟨p0, p1, p2, p3, p4⟩, u0, u1, u2, u3, u4⟩ := raw5e (b := rb) (H.out); obtain ⟨x0, x1, x2, x3, x4, x5, x6, x7, x8, x9, x10, x11, y0, y1, y2, y3, y4, y5, y6, y7, y8, y9, y10, y11⟩ := raw12 (b := hb) (H.out.p1))
    have hz : St W0 _ K (.raw rb #[.int .i64 0, .int .i64 0, .int .i64 0, .int .i64 0, .int .i64 0] 37 :: _) := (((((H.out.rawSet 0 _).rawSet 1 _).rawSet 2 _).rawSet 3 _).rawSet 4 _)
    refine bodyPost_ret (rc_cell_tmp rfl _ _ rb [.int .i64 0, .int .i64 0, .int .i64 0, .int .i64 0, .int .i64 0] _ rfl (rc_range hz) Tryz.underlying37 rfl (by kernel_rfl)) rfl ?_
    exact ⟨rfl, hz.drop.drop⟩
  subst c1
  rw [if_pos ⟨rfl, hee⟩] at he
  obtain ⟨z, hz, hz2, hz3, hz4⟩ := batErr_ctl _ hee rfl
  simp only at hz hz3 hz4
  rw [hz] at he
  simp only [Prod.mk.injEq] at he
  have hlen : l.length = 1 := by have := congrArg List.length hz; simpa using this
  obtain ⟨b, off, hqq⟩ := recs_at HK.out H.out (by omega)
  subst hqq
  have h00 : 0 < l.length := by omega
  obtain ⟨⟨x, vx⟩, hx⟩ : ∃ x, l[0]'h00 = x := ⟨_, rfl⟩
  have hmem : (x, vx) ∈ l := hx ▸ List.getElem_mem _
  obtain rfl : x = z := by
    have h1 := List.getElem_map (·.1) (l := l) (i := 0) (h := by rw [List.length_map]; omega)
    have h2 : (l.map (·.1))[0]'(by rw [List.length_map]; omega) = z := by simp only [hz]; rfl
    rw [h2, hx] at h1
    exact h1.symm
  have xf : x.R ∧ HFit x.hdrs ∧ x.sum ≤ 1000000 := HFT.out (x, vx) hmem
  have xk : K.has (Know.flat RHdr vx 3 x.hdrs) := recs_hdrs HK.out hmem
  obtain ⟨qx, capx, hvx⟩ := flat_form xk H.out
  subst hvx
  have XD := Lib.hid (sum_data xf.2.2)
  have hl0 : (0 : Int) < (l.length : Int) := by omega
  obtain ⟨⟨i1, i2, i3⟩, hi⟩ : ∃ r, ctlOf x = r := ⟨_, rfl⟩
  rw [hi] at hz2 he
  simp only at hz2 he
  subst hz2
  obtain ⟨rfl, rfl, rfl, hft, rfl, rfl⟩ := he
  have EC := Lib.hid (show ctlRead x.key.null x.val.null x.key.data x.val.data x.hdrs.length x.off = (i1, i2, 0) from hi)
  have f1 : wrap64 (first + x.time) = n4 := by rw [← hft]; unfold wrap64; omega
  have f2 : IntKind.i64.wrap (first + x.time) = n4 := by rw [← hft]; exact IntWalk.i64_in _ (by omega)
  have HX := Lib.hid hx
  clear hz hz3 hz4 hmem xf xk hi hft hee hlen hx
  go_enter Tryz.func20, Tryz.ntmps20
  go_wp2_with (first
    | (go_at_call 10; (with_reducible refine (bat_check _ _ _ _ _ _ _ _ _ _ _ l _ _ _ HE.out HMX.out HFT.out HLL.out HK.out H.out).mono ?_); rintro e_ wn ⟨rfl, h⟩; obtain ⟨⟨p0, p1, p2, p3, p4⟩, u0, u1, u2, u3, u4⟩ := raw5e (b := rb) (h); obtain ⟨x0, x1, x2, x3, x4, x5, x6, x7, x8, x9, x10, x11, y0, y1, y2, y3, y4, y5, y6, y7, y8, y9, y10, y11⟩ := raw12 (b := hb) (h.p1); have cc := recs_cell HK.out h 0 h00 (x, .slice qx x.hdrs.length capx) HX.out; simp only [Nat.zero_mul, Nat.zero_add, Nat.add_zero] at cc; obtain ⟨c0, c1, c2, c3, c4, c5, c6⟩ := cc; have h := h.allocRaw #[.int .i64 x.time, .int .i64 x.off, .bool x.key.null, .string (bb x.key.data), .bool x.val.null, .string (bb x.val.data), .slice qx x.hdrs.length capx] 45; obtain ⟨wE, hwE⟩ : ∃ b, wn.heap.size = b := ⟨_, rfl⟩; rw [hwE] at h; obtain ⟨ec0, ec1, ec2, ec3, ec4, ec5, ec6, ef0, ef1, ef2, ef3, ef4, ef5, ef6⟩ := raw7 (b := wE) (h); replace H := Lib.hid h; clear h)
    | (go_at_call 37; (with_reducible refine (ctl_read x.time x.off x.key.null x.val.null x.key.data x.val.data qx x.hdrs.length capx (i1, i2, 0) EC.out XD.out.1 XD.out.2 H.out).mono ?_); rintro e_ wn ⟨rfl, h⟩; replace H := Lib.hid h; clear h; obtain ⟨ec0, ec1, ec2, ec3, ec4, ec5, ec6, ef0, ef1, ef2, ef3, ef4, ef5, ef6⟩ := raw7 (b := wE) (H.out); obtain ⟨⟨p0, p1, p2, p3, p4⟩, u0, u1, u2, u3, u4⟩ := raw5e (b := rb) (H.out.p1); obtain ⟨x0, x1, x2, x3, x4, x5, x6, x7, x8, x9, x10, x11, y0, y1, y2, y3, y4, y5, y6, y7, y8, y9, y10, y11⟩ := raw12 (b := hb) (H.out.p2)))
  have hz : St W0 _ K (.raw rb #[.int .i64 prod, .int .i64 epoch, .int .i64 i1, .int .i64 n4, .int .i64 i2] 37 :: _) := (((((H.out.p1.rawSet 0 _).rawSet 1 _).rawSet 2 _).rawSet 3 _).rawSet 4 _)
  refine bodyPost_ret (rc_cell_tmp rfl _ _ rb [.int .i64 prod, .int .i64 epoch, .int .i64 i1, .int .i64 n4, .int .i64 i2] _ rfl (rc_range hz) Tryz.underlying37 rfl (by kernel_rfl)) rfl ?_
  exact ⟨rfl, hz.drop.drop.drop⟩

end Go.Proofs.YtcjgdlfcfcabiaaGreat

/- No headers. -/
namespace Go.Proofs.YtcjgdlfcfcabiaaGreat
open Go.RowKit

theorem know_none0 {α : Type} (R : List Value → α → Prop) (sz : Nat) (K : Know) : K.has (Know.flat R (.slice none 0 0) sz []) := fun _ _ _ => ⟨none, 0, rfl, fun h => absurd h (by simp)⟩

end Go.Proofs.YtcjgdlfcfcabiaaGreat

/- Ends of transactions as batches: what they stand on. -/
namespace Go.Proofs.YtcjgdlfcfcabiaaGreat
open Go.RowKit

theorem freezeRec1 {W0 w : World} {K : Know} {L : List Res} {s : Nat} (r : RecS) (v : Value) (hk : K.has (Know.flat RHdr v 3 r.hdrs)) (h : St W0 w K (.raw s #[.int .i64 r.time, .int .i64 r.off, .bool r.key.null, .string (bb r.key.data), .bool r.val.null, .string (bb r.val.data), v] 45 :: L)) :
    St W0 w (K.and (Know.recs (.slice (some ⟨s, 0, none⟩) 1 1) [(r, v)])) L := by
  refine h.freeze fun F S1 hF h1 => ?_
  have hlt := heap_lt h1.1
  have hs : S1 s := (h1.2 s).2 rfl
  refine ⟨⟨some ⟨s, 0, none⟩, 1, rfl, fun _ => ⟨s, 0, rfl, .inr ⟨hs, hlt⟩, hlt, fun i hi => ?_⟩⟩, fun x hx => ?_⟩
  · have hi0 : i = 0 := by simp at hi; omega
    subst hi0
    refine ⟨[.int .i64 r.time, .int .i64 r.off, .bool r.key.null, .string (bb r.key.data), .bool r.val.null, .string (bb r.val.data), v], rfl, rfl, fun f u hu => ?_⟩
    have hc := cell_at h1.1 f
    simp only [Nat.zero_mul, Nat.zero_add]
    rw [hc]
    simpa using hu
  · rw [List.mem_singleton.1 hx]
    exact (Know.flat RHdr v 3 r.hdrs).mono w F _ (hk w F hF) (fun _ h => .inl h)
theorem bat_check1 (base leader : Int) (app txn ctl : Bool) (last first maxt prod epoch sq : Int) (r : RecS) (v : Value) (q : Option Addr) (cap : Nat) (e : Int) (he : batErr ⟨base, leader, app, txn, ctl, last, first, maxt, prod, epoch, sq, [r]⟩ = e) (hmx : first ≤ 9223372036854775807) (hr : r.R ∧ HFit r.hdrs ∧ r.sum ≤ 1000000) {W0 w : World} {K : Know} {L : List Res} (hk : K.has (Know.recs (.slice q 1 cap) [(r, v)])) (h : St W0 w K L) :
    Calls Tryz.prog 10 #[.agg #[.int .i64 base, .int .i64 leader, .bool app, .bool txn, .bool ctl, .int .i64 last, .int .i64 first, .int .i64 maxt, .int .i64 prod, .int .i64 epoch, .int .i64 sq, .slice q 1 cap]] w fun en w' => en = .returned (.int .i64 e) ∧ St W0 w' K L :=
  bat_check base leader app txn ctl last first maxt prod epoch sq [(r, v)] q cap e he hmx (fun x hx => by rw [List.mem_singleton.1 hx]; exact hr) (by simp) hk h
theorem mrk_read1 (base leader : Int) (app txn ctl : Bool) (last first maxt prod epoch sq : Int) (r : RecS) (v : Value) (q : Option Addr) (cap : Nat) (n1 n2 n3 n4 n5 : Int) (ok : Bool) (he : endOf ⟨base, leader, app, txn, ctl, last, first, maxt, prod, epoch, sq, [r]⟩ = (n1, n2, n3, n4, n5, ok)) (hmx : first ≤ 9223372036854775807) (hr : r.R ∧ HFit r.hdrs ∧ r.sum ≤ 1000000) {W0 w : World} {K : Know} {L : List Res} (hk : K.has (Know.recs (.slice q 1 cap) [(r, v)])) (h : St W0 w K L) :
    Calls Tryz.prog 20 #[.agg #[.int .i64 base, .int .i64 leader, .bool app, .bool txn, .bool ctl, .int .i64 last, .int .i64 first, .int .i64 maxt, .int .i64 prod, .int .i64 epoch, .int .i64 sq, .slice q 1 cap]] w fun en w' => en = .returned (.tuple #[.agg #[.int .i64 n1, .int .i64 n2, .int .i64 n3, .int .i64 n4, .int .i64 n5], .bool ok]) ∧ St W0 w' K L :=
  mrk_read base leader app txn ctl last first maxt prod epoch sq [(r, v)] q cap n1 n2 n3 n4 n5 ok he hmx (fun x hx => by rw [List.mem_singleton.1 hx]; exact hr) (by simp) hk h
/-- Why there is no record that ends a transaction so. -/
def recErr (n m : Int) : Int := if (ctlKey n).2 ≠ 0 then (ctlKey n).2 else (ctlVal m).2
theorem ctlKey_form (n : Int) : (∃ s, ctlKey n = (s, 0)) ∨ (∃ e, e ≠ 0 ∧ ctlKey n = ([], e)) := by
  unfold ctlKey
  split
  · exact .inl ⟨_, rfl⟩
  · exact .inr ⟨12, by decide, rfl⟩
theorem ctlVal_form (n : Int) : (∃ s, ctlVal n = (s, 0)) ∨ (∃ e, e ≠ 0 ∧ ctlVal n = ([], e)) := by
  unfold ctlVal
  split
  · exact .inl ⟨_, rfl⟩
  · exact .inr ⟨11, by decide, rfl⟩
theorem ctl_record_bad (n m e : Int) (he : recErr n m = e) (h0 : e ≠ 0) (hn : -9223372036854775808 ≤ n ∧ n < 9223372036854775808) (hm : -9223372036854775808 ≤ m ∧ m < 9223372036854775808) {W0 w : World} {K : Know} {L : List Res} (h : St W0 w K L) :
    Calls Tryz.prog 47 #[.int .i64 n, .int .i64 m] w fun en w' => en = .returned (.tuple #[.agg #[.int .i64 0, .int .i64 0, .bool false, .string ⟨#[]⟩, .bool false, .string ⟨#[]⟩, .slice none 0 0], .int .i64 e]) ∧ St W0 w' K L := by
  unfold recErr at he
  have hb : (e != 0) = true := bne_iff_ne.2 h0
  rcases ctlKey_form n with ⟨s, hs⟩ | ⟨e1, h1, hs⟩
  · rw [hs] at he
    simp only [ne_eq, not_true, if_false] at he
    rcases ctlVal_form m with ⟨t, ht⟩ | ⟨e2, h2, ht⟩
    · rw [ht] at he
      exact absurd he.symm h0
    · rw [ht] at he
      obtain rfl : e2 = e := he
      exact ctl_record_time n m s e2 hs ht hb hn hm h
  · rw [hs] at he
    rw [if_pos h1] at he
    obtain rfl : e1 = e := he
    exact ctl_record_kind n m e1 hs hb hn hm h

end Go.Proofs.YtcjgdlfcfcabiaaGreat

/- Ends of transactions as batches: no record. -/
namespace Go.Proofs.YtcjgdlfcfcabiaaGreat
open Go.RowKit

set_option maxHeartbeats 2000000 in
set_option maxRecDepth 100000 in
theorem mrk_batch_rec (base leader : Int) (n1 n2 n3 n4 n5 : Int) (hn3 : Rn n3) (hn5 : Rn n5) (e : Int) (he : recErr n3 n5 = e) (h0 : e ≠ 0) {W0 w : World} {K : Know} {L : List Res} (h : St W0 w K L) :
    Calls Tryz.prog 16 #[.int .i64 base, .int .i64 leader, .agg #[.int .i64 n1, .int .i64 n2, .int .i64 n3, .int .i64 n4, .int .i64 n5]] w fun en w' => en = .returned (.tuple #[.agg #[.int .i64 0, .int .i64 0, .bool false, .bool false, .bool false, .int .i64 0, .int .i64 0, .int .i64 0, .int .i64 0, .int .i64 0, .int .i64 0, .slice none 0 0], .int .i64 e]) ∧ St W0 w' K L := by
  have g1 := h.allocRaw #[.int .i64 n1, .int .i64 n2, .int .i64 n3, .int .i64 n4, .int .i64 n5] 37
  have g2 := g1.allocRaw #[.int .i64 0, .int .i64 0, .bool false, .bool false, .bool false, .int .i64 0, .int .i64 0, .int .i64 0, .int .i64 0, .int .i64 0, .int .i64 0, .slice none 0 0] 24
  obtain ⟨eb, heb⟩ : ∃ b, w.heap.size = b := ⟨_, rfl⟩
  obtain ⟨rb, hrb⟩ : ∃ b, eb + 1 = b := ⟨_, rfl⟩
  simp only [World.size_alloc, heb, hrb] at g2
  obtain ⟨p0, p1, p2, p3, p4, p5, p6, p7, p8, p9, p10, p11, u0, u1, u2, u3, u4, u5, u6, u7, u8, u9, u10, u11⟩ := raw12 (b := rb) (g2)
  obtain ⟨⟨x0, x1, x2, x3, x4⟩, y0, y1, y2, y3, y4⟩ := raw5e (b := eb) (g2.p1)
  have H := Lib.hid g2
  have HN3 := Lib.hid (show -9223372036854775808 ≤ n3 ∧ n3 < 9223372036854775808 from hn3)
  have HN5 := Lib.hid (show -9223372036854775808 ≤ n5 ∧ n5 < 9223372036854775808 from hn5)
  clear h g1 g2 hn3 hn5
  have HE := Lib.hid he
  have H0 := Lib.hid h0
  have gz : (e == 0) = false := by rw [beq_eq_false_iff_ne]; exact h0
  clear he h0
  go_enter Tryz.func16, Tryz.ntmps16
  go_wp2_with (go_at_call 47; (with_reducible refine (ctl_record_bad n3 n5 e HE.out H0.out HN3.out HN5.out H.out).mono ?_); rintro e_ wn ⟨rfl, h⟩; have h := h.allocRaw #[.int .i64 0, .int .i64 0, .bool false, .string ⟨#[]⟩, .bool false, .string ⟨#[]⟩, .slice none 0 0] 45; obtain ⟨wA, hwA⟩ : ∃ b, wn.heap.size = b := ⟨_, rfl⟩; rw [hwA] at h; obtain ⟨p0, p1, p2, p3, p4, p5, p6, p7, p8, p9, p10, p11, u0, u1, u2, u3, u4, u5, u6, u7, u8, u9, u10, u11⟩ := raw12 (b := rb) (h.p1); replace H := Lib.hid h; clear h)
  have hz : St W0 _ _ (.raw rb #[.int .i64 0, .int .i64 0, .bool false, .bool false, .bool false, .int .i64 0, .int .i64 0, .int .i64 0, .int .i64 0, .int .i64 0, .int .i64 0, .slice none 0 0] 24 :: _) := St.sets12 _ _ _ _ _ _ _ _ _ _ _ _ (H.out.p1)
  refine bodyPost_ret (rc_cell_tmp rfl _ _ rb [.int .i64 0, .int .i64 0, .bool false, .bool false, .bool false, .int .i64 0, .int .i64 0, .int .i64 0, .int .i64 0, .int .i64 0, .int .i64 0, .slice none 0 0] _ rfl (rc_range hz) Tryz.underlying24 rfl (by kernel_rfl)) rfl ?_
  exact ⟨rfl, hz.drop.drop.drop⟩

end Go.Proofs.YtcjgdlfcfcabiaaGreat

/- Ends of transactions as batches: made. -/
namespace Go.Proofs.YtcjgdlfcfcabiaaGreat
open Go.RowKit

set_option maxHeartbeats 2000000 in
set_option maxRecDepth 100000 in
theorem mrk_batch_bad (base leader : Int) (n1 n2 n3 n4 n5 : Int) (hn3 : Rn n3) (hn5 : Rn n5) (hmx : n4 ≤ 9223372036854775807) (ks vs : Bs) (hks : ctlKey n3 = (ks, 0)) (hvs : ctlVal n5 = (vs, 0)) (hfr : (⟨0, 0, ⟨false, ks⟩, ⟨false, vs⟩, []⟩ : RecS).R ∧ HFit (⟨0, 0, ⟨false, ks⟩, ⟨false, vs⟩, []⟩ : RecS).hdrs ∧ (⟨0, 0, ⟨false, ks⟩, ⟨false, vs⟩, []⟩ : RecS).sum ≤ 1000000) (e : Int) (h0 : e ≠ 0) (he : batErr (⟨base, leader, false, true, true, 0, n4, n4, n1, n2, -1, [(⟨0, 0, ⟨false, ks⟩, ⟨false, vs⟩, []⟩ : RecS)]⟩ : BatS) = e) {W0 w : World} {K : Know} {L : List Res} (h : St W0 w K L) :
    Calls Tryz.prog 16 #[.int .i64 base, .int .i64 leader, .agg #[.int .i64 n1, .int .i64 n2, .int .i64 n3, .int .i64 n4, .int .i64 n5]] w fun en w' => en = .returned (.tuple #[.agg #[.int .i64 0, .int .i64 0, .bool false, .bool false, .bool false, .int .i64 0, .int .i64 0, .int .i64 0, .int .i64 0, .int .i64 0, .int .i64 0, .slice none 0 0], .int .i64 e]) ∧ St W0 w' K L := by
  have g1 := h.allocRaw #[.int .i64 n1, .int .i64 n2, .int .i64 n3, .int .i64 n4, .int .i64 n5] 37
  have g2 := g1.allocRaw #[.int .i64 0, .int .i64 0, .bool false, .bool false, .bool false, .int .i64 0, .int .i64 0, .int .i64 0, .int .i64 0, .int .i64 0, .int .i64 0, .slice none 0 0] 24
  obtain ⟨eb, heb⟩ : ∃ b, w.heap.size = b := ⟨_, rfl⟩
  obtain ⟨rb, hrb⟩ : ∃ b, eb + 1 = b := ⟨_, rfl⟩
  simp only [World.size_alloc, heb, hrb] at g2
  obtain ⟨p0, p1, p2, p3, p4, p5, p6, p7, p8, p9, p10, p11, u0, u1, u2, u3, u4, u5, u6, u7, u8, u9, u10, u11⟩ := raw12 (b := rb) (g2)
  obtain ⟨⟨x0, x1, x2, x3, x4⟩, y0, y1, y2, y3, y4⟩ := raw5e (b := eb) (g2.p1)
  have H := Lib.hid g2
  have HN3 := Lib.hid (show -9223372036854775808 ≤ n3 ∧ n3 < 9223372036854775808 from hn3)
  have HN5 := Lib.hid (show -9223372036854775808 ≤ n5 ∧ n5 < 9223372036854775808 from hn5)
  clear h g1 g2 hn3 hn5
  have HE := Lib.hid he
  have HMX := Lib.hid hmx
  have HKS := Lib.hid hks
  have HVS := Lib.hid hvs
  have HFR := Lib.hid hfr
  have gz : (e == 0) = false := by rw [beq_eq_false_iff_ne]; exact h0
  clear he hmx hks hvs hfr h0
  go_enter Tryz.func16, Tryz.ntmps16
  go_wp2_with (first
    | (go_at_call 47; (with_reducible refine (ctl_record_ok n3 n5 ks vs HKS.out HVS.out HN3.out HN5.out H.out).mono ?_); rintro e_ wn ⟨rfl, h⟩; obtain ⟨⟨x0, x1, x2, x3, x4⟩, y0, y1, y2, y3, y4⟩ := raw5e (b := eb) (h.p1); obtain ⟨wA, hwA⟩ : ∃ b, wn.heap.size = b := ⟨_, rfl⟩; obtain ⟨sl, hsl⟩ : ∃ b, wA + 1 = b := ⟨_, rfl⟩; obtain ⟨bB, hbB⟩ : ∃ b, sl + 1 = b := ⟨_, rfl⟩; have h1 := h.allocRaw #[.int .i64 0, .int .i64 0, .bool false, .string (bb ks), .bool false, .string (bb vs), .slice none 0 0] 45; rw [hwA] at h1; obtain ⟨ec0, ec1, ec2, ec3, ec4, ec5, ec6, ef0, ef1, ef2, ef3, ef4, ef5, ef6⟩ := raw7 (b := wA) (h1); obtain ⟨⟨k0, k1, k2, k3, k4⟩, m0, m1, m2, m3, m4⟩ := raw5e (b := eb) (h1.p2); have h2 := h1.allocRaw #[.int .i64 0, .int .i64 0, .bool false, .string (bb ks), .bool false, .string (bb vs), .slice none 0 0] 45; simp only [World.size_alloc, hwA, hsl] at h2; have h3 := h2.allocRaw #[.int .i64 base, .int .i64 leader, .bool false, .bool true, .bool true, .int .i64 0, .int .i64 n4, .int .i64 n4, .int .i64 n1, .int .i64 n2, .int .i64 (-1), .slice (some ⟨sl, 0, none⟩) 1 1] 24; simp only [World.size_alloc, hwA, hsl, hbB] at h3; have h4 := freezeRec1 (⟨0, 0, ⟨false, ks⟩, ⟨false, vs⟩, []⟩ : RecS) (.slice none 0 0) (know_none0 RHdr 3 K) h3.p1; obtain ⟨a0, a1, a2, a3, a4, a5, a6, a7, a8, a9, a10, a11, f0, f1, f2, f3, f4, f5, f6, f7, f8, f9, f10, f11⟩ := raw12 (b := bB) (h4); clear h1 h2 h3; have H2 := Lib.hid h4; clear h4 h H; have H := H2; clear H2)
    | (go_at_call 10; (with_reducible refine (bat_check1 base leader false true true 0 n4 n4 n1 n2 (-1) (⟨0, 0, ⟨false, ks⟩, ⟨false, vs⟩, []⟩ : RecS) (.slice none 0 0) _ _ e HE.out HMX.out HFR.out (Know.has_right (Know.has_refl _)) H.out).mono ?_); rintro e_ wn ⟨rfl, h⟩; obtain ⟨a0, a1, a2, a3, a4, a5, a6, a7, a8, a9, a10, a11, f0, f1, f2, f3, f4, f5, f6, f7, f8, f9, f10, f11⟩ := raw12 (b := bB) (h); obtain ⟨p0, p1, p2, p3, p4, p5, p6, p7, p8, p9, p10, p11, u0, u1, u2, u3, u4, u5, u6, u7, u8, u9, u10, u11⟩ := raw12 (b := rb) (h.p2); replace H := Lib.hid h; clear h))
  have hz : St W0 _ _ (.raw rb #[.int .i64 0, .int .i64 0, .bool false, .bool false, .bool false, .int .i64 0, .int .i64 0, .int .i64 0, .int .i64 0, .int .i64 0, .int .i64 0, .slice none 0 0] 24 :: _) := St.sets12 _ _ _ _ _ _ _ _ _ _ _ _ (H.out.p2)
  refine bodyPost_ret (rc_cell_tmp rfl _ _ rb [.int .i64 0, .int .i64 0, .bool false, .bool false, .bool false, .int .i64 0, .int .i64 0, .int .i64 0, .int .i64 0, .int .i64 0, .int .i64 0, .slice none 0 0] _ rfl (rc_range hz) Tryz.underlying24 rfl (by kernel_rfl)) rfl ?_
  exact ⟨rfl, (hz.drop.drop.drop.drop).know (Know.has_left (Know.has_refl _))⟩

set_option maxHeartbeats 2000000 in
set_option maxRecDepth 100000 in
theorem mrk_batch_ok (base leader : Int) (n1 n2 n3 n4 n5 : Int) (hn3 : Rn n3) (hn5 : Rn n5) (hmx : n4 ≤ 9223372036854775807) (ks vs : Bs) (hks : ctlKey n3 = (ks, 0)) (hvs : ctlVal n5 = (vs, 0)) (hfr : (⟨0, 0, ⟨false, ks⟩, ⟨false, vs⟩, []⟩ : RecS).R ∧ HFit (⟨0, 0, ⟨false, ks⟩, ⟨false, vs⟩, []⟩ : RecS).hdrs ∧ (⟨0, 0, ⟨false, ks⟩, ⟨false, vs⟩, []⟩ : RecS).sum ≤ 1000000) (he : batErr (⟨base, leader, false, true, true, 0, n4, n4, n1, n2, -1, [(⟨0, 0, ⟨false, ks⟩, ⟨false, vs⟩, []⟩ : RecS)]⟩ : BatS) = 0) {W0 w : World} {K : Know} {L : List Res} (h : St W0 w K L) :
    Calls Tryz.prog 16 #[.int .i64 base, .int .i64 leader, .agg #[.int .i64 n1, .int .i64 n2, .int .i64 n3, .int .i64 n4, .int .i64 n5]] w fun en w' => ∃ q, en = .returned (.tuple #[.agg #[.int .i64 base, .int .i64 leader, .bool false, .bool true, .bool true, .int .i64 0, .int .i64 n4, .int .i64 n4, .int .i64 n1, .int .i64 n2, .int .i64 (-1), .slice q 1 1], .int .i64 0]) ∧ St W0 w' (K.and (Know.recs (.slice q 1 1) [((⟨0, 0, ⟨false, ks⟩, ⟨false, vs⟩, []⟩ : RecS), .slice none 0 0)])) L := by
  have g1 := h.allocRaw #[.int .i64 n1, .int .i64 n2, .int .i64 n3, .int .i64 n4, .int .i64 n5] 37
  have g2 := g1.allocRaw #[.int .i64 0, .int .i64 0, .bool false, .bool false, .bool false, .int .i64 0, .int .i64 0, .int .i64 0, .int .i64 0, .int .i64 0, .int .i64 0, .slice none 0 0] 24
  obtain ⟨eb, heb⟩ : ∃ b, w.heap.size = b := ⟨_, rfl⟩
  obtain ⟨rb, hrb⟩ : ∃ b, eb + 1 = b := ⟨_, rfl⟩
  simp only [World.size_alloc, heb, hrb] at g2
  obtain ⟨p0, p1, p2, p3, p4, p5, p6, p7, p8, p9, p10, p11, u0, u1, u2, u3, u4, u5, u6, u7, u8, u9, u10, u11⟩ := raw12 (b := rb) (g2)
  obtain ⟨⟨x0, x1, x2, x3, x4⟩, y0, y1, y2, y3, y4⟩ := raw5e (b := eb) (g2.p1)
  have H := Lib.hid g2
  have HN3 := Lib.hid (show -9223372036854775808 ≤ n3 ∧ n3 < 9223372036854775808 from hn3)
  have HN5 := Lib.hid (show -9223372036854775808 ≤ n5 ∧ n5 < 9223372036854775808 from hn5)
  clear h g1 g2 hn3 hn5
  have HE := Lib.hid he
  have HMX := Lib.hid hmx
  have HKS := Lib.hid hks
  have HVS := Lib.hid hvs
  have HFR := Lib.hid hfr
  clear he hmx hks hvs hfr 
  go_enter Tryz.func16, Tryz.ntmps16
  go_wp2_with (first
    | (go_at_call 47; (with_reducible refine (ctl_record_ok n3 n5 ks vs HKS.out HVS.out HN3.out HN5.out H.out).mono ?_); rintro e_ wn ⟨rfl, h⟩; obtain ⟨⟨x0, x1, x2, x3, x4⟩, y0, y1, y2, y3, y4⟩ := raw5e (b := eb) (h.p1); obtain ⟨wA, hwA⟩ : ∃ b, wn.heap.size = b := ⟨_, rfl⟩; obtain ⟨sl, hsl⟩ : ∃ b, wA + 1 = b := ⟨_, rfl⟩; obtain ⟨bB, hbB⟩ : ∃ b, sl + 1 = b := ⟨_, rfl⟩; have h1 := h.allocRaw #[.int .i64 0, .int .i64 0, .bool false, .string (bb ks), .bool false, .string (bb vs), .slice none 0 0] 45; rw [hwA] at h1; obtain ⟨ec0, ec1, ec2, ec3, ec4, ec5, ec6, ef0, ef1, ef2, ef3, ef4, ef5, ef6⟩ := raw7 (b := wA) (h1); obtain ⟨⟨k0, k1, k2, k3, k4⟩, m0, m1, m2, m3, m4⟩ := raw5e (b := eb) (h1.p2); have h2 := h1.allocRaw #[.int .i64 0, .int .i64 0, .bool false, .string (bb ks), .bool false, .string (bb vs), .slice none 0 0] 45; simp only [World.size_alloc, hwA, hsl] at h2; have h3 := h2.allocRaw #[.int .i64 base, .int .i64 leader, .bool false, .bool true, .bool true, .int .i64 0, .int .i64 n4, .int .i64 n4, .int .i64 n1, .int .i64 n2, .int .i64 (-1), .slice (some ⟨sl, 0, none⟩) 1 1] 24; simp only [World.size_alloc, hwA, hsl, hbB] at h3; have h4 := freezeRec1 (⟨0, 0, ⟨false, ks⟩, ⟨false, vs⟩, []⟩ : RecS) (.slice none 0 0) (know_none0 RHdr 3 K) h3.p1; obtain ⟨a0, a1, a2, a3, a4, a5, a6, a7, a8, a9, a10, a11, f0, f1, f2, f3, f4, f5, f6, f7, f8, f9, f10, f11⟩ := raw12 (b := bB) (h4); clear h1 h2 h3; have H2 := Lib.hid h4; clear h4 h H; have H := H2; clear H2)
    | (go_at_call 10; (with_reducible refine (bat_check1 base leader false true true 0 n4 n4 n1 n2 (-1) (⟨0, 0, ⟨false, ks⟩, ⟨false, vs⟩, []⟩ : RecS) (.slice none 0 0) _ _ 0 HE.out HMX.out HFR.out (Know.has_right (Know.has_refl _)) H.out).mono ?_); rintro e_ wn ⟨rfl, h⟩; obtain ⟨a0, a1, a2, a3, a4, a5, a6, a7, a8, a9, a10, a11, f0, f1, f2, f3, f4, f5, f6, f7, f8, f9, f10, f11⟩ := raw12 (b := bB) (h); obtain ⟨p0, p1, p2, p3, p4, p5, p6, p7, p8, p9, p10, p11, u0, u1, u2, u3, u4, u5, u6, u7, u8, u9, u10, u11⟩ := raw12 (b := rb) (h.p2); replace H := Lib.hid h; clear h))
  have hz : St W0 _ _ (.raw rb #[.int .i64 base, .int .i64 leader, .bool false, .bool true, .bool true, .int .i64 0, .int .i64 n4, .int .i64 n4, .int .i64 n1, .int .i64 n2, .int .i64 (-1), .slice (some ⟨sl, 0, none⟩) 1 1] 24 :: _) := St.sets12 _ _ _ _ _ _ _ _ _ _ _ _ (H.out.p2)
  refine bodyPost_ret (rc_cell_tmp rfl _ _ rb [.int .i64 base, .int .i64 leader, .bool false, .bool true, .bool true, .int .i64 0, .int .i64 n4, .int .i64 n4, .int .i64 n1, .int .i64 n2, .int .i64 (-1), .slice (some ⟨sl, 0, none⟩) 1 1] _ rfl (rc_range hz) Tryz.underlying24 rfl (by kernel_rfl)) rfl ?_
  exact ⟨_, rfl, hz.drop.drop.drop.drop⟩

end Go.Proofs.YtcjgdlfcfcabiaaGreat

/- Layer 12, walked: what it stands on. -/
namespace Go.Proofs.YtcjgdlfcfcabiaaGreat
open Go.RowKit

set_option maxHeartbeats 1000000 in
set_option maxRecDepth 100000 in
theorem speaks12 {W0 w : World} {K : Know} {L : List Res} (h : St W0 w K L) :
    Calls Tryz.prog 15 #[] w fun en w' => en = .returned (.bool true) ∧ ∃ K2, K2.has K ∧ St W0 w' K2 L := by
  have H := Lib.hid h
  have HR3 := Lib.hid (show Rn 1 from by unfold Rn; decide)
  have HR5 := Lib.hid (show Rn 0 from by unfold Rn; decide)
  have HR2 := Lib.hid (show Rn 2 from by unfold Rn; decide)
  have HMX := Lib.hid (show (5 : Int) ≤ 9223372036854775807 by decide)
  have HKS := Lib.hid (show ctlKey 1 = ([0, 0, 0, 1], 0) by decide +kernel)
  have HVS := Lib.hid (show ctlVal 0 = ([0, 0, 0, 0, 0, 0], 0) by decide +kernel)
  have HFR := Lib.hid (show (⟨0, 0, ⟨false, [0, 0, 0, 1]⟩, ⟨false, [0, 0, 0, 0, 0, 0]⟩, []⟩ : RecS).R ∧ HFit (⟨0, 0, ⟨false, [0, 0, 0, 1]⟩, ⟨false, [0, 0, 0, 0, 0, 0]⟩, []⟩ : RecS).hdrs ∧ (⟨0, 0, ⟨false, [0, 0, 0, 1]⟩, ⟨false, [0, 0, 0, 0, 0, 0]⟩, []⟩ : RecS).sum ≤ 1000000 from ⟨(by unfold RecS.R; decide), (by intro x h; cases h), (by decide)⟩)
  have HBE := Lib.hid (show batErr ⟨3, -1, false, true, true, 0, 5, 5, 7, 0, -1, [(⟨0, 0, ⟨false, [0, 0, 0, 1]⟩, ⟨false, [0, 0, 0, 0, 0, 0]⟩, []⟩ : RecS)]⟩ = 0 by decide +kernel)
  have HEN := Lib.hid (show endOf ⟨3, -1, false, true, true, 0, 5, 5, 7, 0, -1, [(⟨0, 0, ⟨false, [0, 0, 0, 1]⟩, ⟨false, [0, 0, 0, 0, 0, 0]⟩, []⟩ : RecS)]⟩ = (7, 0, 1, 5, 0, true) by decide +kernel)
  have HRE := Lib.hid (show recErr 2 0 = 12 by decide +kernel)
  have HRZ := Lib.hid (show (12 : Int) ≠ 0 by decide)
  have t1 : True := trivial
  clear h
  go_enter Tryz.func15, Tryz.ntmps15
  go_wp2_with (first
    | (go_at_call 16; have _t := t1; clear _t; (with_reducible refine (mrk_batch_ok 3 (-1) 7 0 1 5 0 HR3.out HR5.out HMX.out _ _ HKS.out HVS.out HFR.out HBE.out H.out).mono ?_); rintro e_ wn ⟨q1, rfl, h⟩; have h := h.allocRaw #[.int .i64 3, .int .i64 (-1), .bool false, .bool true, .bool true, .int .i64 0, .int .i64 5, .int .i64 5, .int .i64 7, .int .i64 0, .int .i64 (-1), .slice q1 1 1] 24; obtain ⟨bA, hbA⟩ : ∃ b, wn.heap.size = b := ⟨_, rfl⟩; rw [hbA] at h; obtain ⟨x0, x1, x2, x3, x4, x5, x6, x7, x8, x9, x10, x11, y0, y1, y2, y3, y4, y5, y6, y7, y8, y9, y10, y11⟩ := raw12 (b := bA) (h); replace H := Lib.hid h; clear h; clear t1; have t2 : True := trivial)
    | (go_at_call 20; (with_reducible refine (mrk_read1 3 (-1) false true true 0 5 5 7 0 (-1) (⟨0, 0, ⟨false, [0, 0, 0, 1]⟩, ⟨false, [0, 0, 0, 0, 0, 0]⟩, []⟩ : RecS) _ _ _ _ _ _ _ _ _ HEN.out HMX.out HFR.out (Know.has_right (Know.has_refl _)) H.out).mono ?_); rintro e_ wn ⟨rfl, h⟩; have h := h.allocRaw #[.int .i64 7, .int .i64 0, .int .i64 1, .int .i64 5, .int .i64 0] 37; obtain ⟨bE, hbE⟩ : ∃ b, wn.heap.size = b := ⟨_, rfl⟩; rw [hbE] at h; obtain ⟨⟨p0, p1, p2, p3, p4⟩, u0, u1, u2, u3, u4⟩ := raw5e (b := bE) (h); replace H := Lib.hid h; clear h)
    | (go_at_call 16; have _t := t2; clear _t; (with_reducible refine (mrk_batch_rec 3 (-1) 0 0 2 0 0 HR2.out HR5.out 12 HRE.out HRZ.out H.out).mono ?_); rintro e_ wn ⟨rfl, h⟩; have h := h.allocRaw #[.int .i64 0, .int .i64 0, .bool false, .bool false, .bool false, .int .i64 0, .int .i64 0, .int .i64 0, .int .i64 0, .int .i64 0, .int .i64 0, .slice none 0 0] 24; obtain ⟨bC, hbC⟩ : ∃ b, wn.heap.size = b := ⟨_, rfl⟩; rw [hbC] at h; obtain ⟨⟨p0, p1, p2, p3, p4⟩, u0, u1, u2, u3, u4⟩ := raw5e (b := bE) (h.p1); obtain ⟨x0, x1, x2, x3, x4, x5, x6, x7, x8, x9, x10, x11, y0, y1, y2, y3, y4, y5, y6, y7, y8, y9, y10, y11⟩ := raw12 (b := bA) (h.p2); replace H := Lib.hid h; clear h))
  go_ret
  exact ⟨rfl, _, Know.has_left (Know.has_refl _), H.out.drop.drop.drop⟩

end Go.Proofs.YtcjgdlfcfcabiaaGreat

/- Records of a batch, read (pure). -/
namespace Go.Proofs.YtcjgdlfcfcabiaaGreat
open Go.RowKit

theorem elem_rec : ElemT Tryz.prog 45 (.agg #[.int .i64 0, .int .i64 0, .bool false, .string ⟨#[]⟩, .bool false, .string ⟨#[]⟩, .slice none 0 0]) 7 88 := elemT_of (by kernel_rfl) rfl (by decide)
def consE (x : RecS) (r : Except Int (List RecS)) : Except Int (List RecS) := match r with | .ok t => .ok (x :: t) | .error e => .error e
/-- So many records, and nothing behind them. -/
def unp : Nat → InS → Except Int (List RecS)
  | 0, i => if i.left = 0 then .ok [] else .error 10
  | n + 1, i => if i.left = 0 then .error 10 else if i.record.2.err = 0 then consE i.record.1 (unp n i.record.2) else .error i.record.2.err
def preU (acc : List RecS) (r : Except Int (List RecS)) : Except Int (List RecS) := match r with | .ok t => .ok (acc ++ t) | .error e => .error e
theorem preU_nil (r : Except Int (List RecS)) : preU [] r = r := by cases r <;> rfl
theorem preU_snoc (acc : List RecS) (x : RecS) (r : Except Int (List RecS)) : preU (acc ++ [x]) r = preU acc (consE x r) := by
  cases r with
  | error e => rfl
  | ok t => simp [preU, consE]
theorem s_leftQ (p : Nat) (i : InS) (n : Nat) (hx : i.left = n) {W0 w : World} {K : Know} {L : List Res} (h : St W0 w K (.inp p i :: L)) :
    Calls Tryz.prog 54 #[inPtr p] w fun en w' => en = .returned (.int .i64 n) ∧ St W0 w' K (.inp p i :: L) := by
  subst hx; exact s_left p i h
theorem s_errE (p : Nat) (i : InS) (e : Int) (hx : i.err = e) {W0 w : World} {K : Know} {L : List Res} (h : St W0 w K (.inp p i :: L)) :
    Calls Tryz.prog 51 #[inPtr p] w fun en w' => en = .returned (.int .i64 e) ∧ St W0 w' K (.inp p i :: L) := by
  subst hx; exact s_err p i h

end Go.Proofs.YtcjgdlfcfcabiaaGreat
