/- Sums: remainders, bit by bit and byte by byte. -/
import Derived.Test.YtcjgdlfcfcabiaaGBatchRows1
import Derived.Test.YtcjgdlfcfcabiaaGBatchRows3
import Derived.IntWalk
import Derived.RegionTactic
import Derived.Deep.DeepCutAuto
import Derived.Deep.RegionHeld3
import Derived.Test.YtcjgdlfcfcabiaaRec1
import Derived.Test.YtcjgdlfcfcabiaaRec6
import Derived.Test.YtcjgdlfcfcabiaaBase
/- Batches: placed, signed. -/
namespace Go.Proofs.Ytcjgdlfcfcabiaa
open Go.RowKit

set_option maxHeartbeats 1000000 in
set_option maxRecDepth 100000 in
theorem bat_within (n lo hi : Int) (r : Bool) (hr : decide (lo ≤ n ∧ n ≤ hi) = r) {W0 w : World} {K : Know} {L : List Res} (h : St W0 w K L) :
    Calls Try.prog 90 #[.int .i64 n, .int .i64 lo, .int .i64 hi] w fun en w' => en = .returned (.bool r) ∧ St W0 w' K L := by
  have H := Lib.hid h
  clear h
  by_cases h1 : lo ≤ n
  · have d1 : decide (lo ≤ n) = true := decide_eq_true h1
    by_cases h2 : n ≤ hi
    · have d2 : decide (n ≤ hi) = true := decide_eq_true h2
      obtain rfl : true = r := (decide_eq_true ⟨h1, h2⟩).symm.trans hr
      clear h1 h2
      go_enter Try.func90, Try.ntmps90
      go_wp2
      go_ret
      exact ⟨rfl, H.out⟩
    · have d2 : decide (n ≤ hi) = false := decide_eq_false h2
      obtain rfl : false = r := (decide_eq_false (fun x => h2 x.2)).symm.trans hr
      clear h1 h2
      go_enter Try.func90, Try.ntmps90
      go_wp2
      go_ret
      exact ⟨rfl, H.out⟩
  · have d1 : decide (lo ≤ n) = false := decide_eq_false h1
    obtain rfl : false = r := (decide_eq_false (fun x => h1 x.1)).symm.trans hr
    clear h1
    go_enter Try.func90, Try.ntmps90
    go_wp2
    go_ret
    exact ⟨rfl, H.out⟩

set_option maxHeartbeats 1000000 in
set_option maxRecDepth 100000 in
theorem bat_placed (base leader : Int) (app txn ctl : Bool) (last first maxt prod epoch sq : Int) (rv : Value) (r : Bool) (hr : decide (0 ≤ base ∧ (-1 ≤ leader ∧ leader ≤ 2147483647) ∧ (0 ≤ last ∧ last ≤ 2147483647) ∧ base ≤ 9223372036854775807 - last ∧ 0 ≤ first ∧ 0 ≤ maxt) = r) {W0 w : World} {K : Know} {L : List Res} (h : St W0 w K L) :
    Calls Try.prog 77 #[.agg #[.int .i64 base, .int .i64 leader, .bool app, .bool txn, .bool ctl, .int .i64 last, .int .i64 first, .int .i64 maxt, .int .i64 prod, .int .i64 epoch, .int .i64 sq, rv]] w fun en w' => en = .returned (.bool r) ∧ St W0 w' K L := by
  have h1 := h.allocRaw #[.int .i64 base, .int .i64 leader, .bool app, .bool txn, .bool ctl, .int .i64 last, .int .i64 first, .int .i64 maxt, .int .i64 prod, .int .i64 epoch, .int .i64 sq, rv] 32
  obtain ⟨hb, hhb⟩ : ∃ b, w.heap.size = b := ⟨_, rfl⟩
  rw [hhb] at h1
  obtain ⟨x0, x1, x2, x3, x4, x5, x6, x7, x8, x9, x10, x11, y0, y1, y2, y3, y4, y5, y6, y7, y8, y9, y10, y11⟩ := raw12 (b := hb) (h1)
  have H := Lib.hid h1
  clear h h1
  by_cases c0 : 0 ≤ base
  case neg =>
    obtain rfl : false = r := by rw [← hr]; exact (decide_eq_false (fun x => c0 x.1)).symm
    have d0 : decide (0 ≤ base) = false := decide_eq_false c0
    clear c0 
    go_enter Try.func77, Try.ntmps77
    go_wp2_with (first
    | (go_at_call 90; (with_reducible refine (bat_within leader (-1) 2147483647 _ HW1.out H.out).mono ?_); rintro e_ wn ⟨rfl, h⟩; replace H := Lib.hid h; clear h; obtain ⟨x0, x1, x2, x3, x4, x5, x6, x7, x8, x9, x10, x11, y0, y1, y2, y3, y4, y5, y6, y7, y8, y9, y10, y11⟩ := raw12 (b := hb) (H.out))
    | (go_at_call 90; (with_reducible refine (bat_within last 0 2147483647 _ HW2.out H.out).mono ?_); rintro e_ wn ⟨rfl, h⟩; replace H := Lib.hid h; clear h; obtain ⟨x0, x1, x2, x3, x4, x5, x6, x7, x8, x9, x10, x11, y0, y1, y2, y3, y4, y5, y6, y7, y8, y9, y10, y11⟩ := raw12 (b := hb) (H.out)))
    go_ret
    exact ⟨rfl, H.out.drop⟩
  by_cases c1 : -1 ≤ leader ∧ leader ≤ 2147483647
  case neg =>
    obtain rfl : false = r := by rw [← hr]; exact (decide_eq_false (fun x => c1 x.2.1)).symm
    have d0 : decide (0 ≤ base) = true := decide_eq_true c0
    have HW1 := Lib.hid (show decide (-1 ≤ leader ∧ leader ≤ 2147483647) = false from decide_eq_false c1)
    clear c0 c1 
    go_enter Try.func77, Try.ntmps77
    go_wp2_with (first
    | (go_at_call 90; (with_reducible refine (bat_within leader (-1) 2147483647 _ HW1.out H.out).mono ?_); rintro e_ wn ⟨rfl, h⟩; replace H := Lib.hid h; clear h; obtain ⟨x0, x1, x2, x3, x4, x5, x6, x7, x8, x9, x10, x11, y0, y1, y2, y3, y4, y5, y6, y7, y8, y9, y10, y11⟩ := raw12 (b := hb) (H.out))
    | (go_at_call 90; (with_reducible refine (bat_within last 0 2147483647 _ HW2.out H.out).mono ?_); rintro e_ wn ⟨rfl, h⟩; replace H := Lib.hid h; clear h; obtain ⟨x0, x1, x2, x3, x4, x5, x6, x7, x8, x9, x10, x11, y0, y1, y2, y3, y4, y5, y6, y7, y8, y9, y10, y11⟩ := raw12 (b := hb) (H.out)))
    go_ret
    exact ⟨rfl, H.out.drop⟩
  by_cases c2 : 0 ≤ last ∧ last ≤ 2147483647
  case neg =>
    obtain rfl : false = r := by rw [← hr]; exact (decide_eq_false (fun x => c2 x.2.2.1)).symm
    have d0 : decide (0 ≤ base) = true := decide_eq_true c0
    have HW1 := Lib.hid (show decide (-1 ≤ leader ∧ leader ≤ 2147483647) = true from decide_eq_true c1)
    have HW2 := Lib.hid (show decide (0 ≤ last ∧ last ≤ 2147483647) = false from decide_eq_false c2)
    clear c0 c1 c2 
    go_enter Try.func77, Try.ntmps77
    go_wp2_with (first
    | (go_at_call 90; (with_reducible refine (bat_within leader (-1) 2147483647 _ HW1.out H.out).mono ?_); rintro e_ wn ⟨rfl, h⟩; replace H := Lib.hid h; clear h; obtain ⟨x0, x1, x2, x3, x4, x5, x6, x7, x8, x9, x10, x11, y0, y1, y2, y3, y4, y5, y6, y7, y8, y9, y10, y11⟩ := raw12 (b := hb) (H.out))
    | (go_at_call 90; (with_reducible refine (bat_within last 0 2147483647 _ HW2.out H.out).mono ?_); rintro e_ wn ⟨rfl, h⟩; replace H := Lib.hid h; clear h; obtain ⟨x0, x1, x2, x3, x4, x5, x6, x7, x8, x9, x10, x11, y0, y1, y2, y3, y4, y5, y6, y7, y8, y9, y10, y11⟩ := raw12 (b := hb) (H.out)))
    go_ret
    exact ⟨rfl, H.out.drop⟩
  by_cases c3 : base ≤ 9223372036854775807 - last
  case neg =>
    obtain rfl : false = r := by rw [← hr]; exact (decide_eq_false (fun x => c3 x.2.2.2.1)).symm
    have d0 : decide (0 ≤ base) = true := decide_eq_true c0
    have HW1 := Lib.hid (show decide (-1 ≤ leader ∧ leader ≤ 2147483647) = true from decide_eq_true c1)
    have HW2 := Lib.hid (show decide (0 ≤ last ∧ last ≤ 2147483647) = true from decide_eq_true c2)
    obtain ⟨ml, hml⟩ : ∃ ml, 9223372036854775807 - last = ml := ⟨_, rfl⟩
    have wl : wrap64 (9223372036854775807 - last) = ml := by rw [← hml]; unfold wrap64; omega
    have wl2 : IntKind.i64.wrap (9223372036854775807 - last) = ml := by rw [← hml]; exact IntWalk.i64_in _ (by omega)
    have d3 : decide (base ≤ ml) = false := by rw [← hml]; exact decide_eq_false c3
    clear c0 c1 c2 c3 hml
    go_enter Try.func77, Try.ntmps77
    go_wp2_with (first
    | (go_at_call 90; (with_reducible refine (bat_within leader (-1) 2147483647 _ HW1.out H.out).mono ?_); rintro e_ wn ⟨rfl, h⟩; replace H := Lib.hid h; clear h; obtain ⟨x0, x1, x2, x3, x4, x5, x6, x7, x8, x9, x10, x11, y0, y1, y2, y3, y4, y5, y6, y7, y8, y9, y10, y11⟩ := raw12 (b := hb) (H.out))
    | (go_at_call 90; (with_reducible refine (bat_within last 0 2147483647 _ HW2.out H.out).mono ?_); rintro e_ wn ⟨rfl, h⟩; replace H := Lib.hid h; clear h; obtain ⟨x0, x1, x2, x3, x4, x5, x6, x7, x8, x9, x10, x11, y0, y1, y2, y3, y4, y5, y6, y7, y8, y9, y10, y11⟩ := raw12 (b := hb) (H.out)))
    go_ret
    exact ⟨rfl, H.out.drop⟩
  by_cases c4 : 0 ≤ first
  case neg =>
    obtain rfl : false = r := by rw [← hr]; exact (decide_eq_false (fun x => c4 x.2.2.2.2.1)).symm
    have d0 : decide (0 ≤ base) = true := decide_eq_true c0
    have HW1 := Lib.hid (show decide (-1 ≤ leader ∧ leader ≤ 2147483647) = true from decide_eq_true c1)
    have HW2 := Lib.hid (show decide (0 ≤ last ∧ last ≤ 2147483647) = true from decide_eq_true c2)
    obtain ⟨ml, hml⟩ : ∃ ml, 9223372036854775807 - last = ml := ⟨_, rfl⟩
    have wl : wrap64 (9223372036854775807 - last) = ml := by rw [← hml]; unfold wrap64; omega
    have wl2 : IntKind.i64.wrap (9223372036854775807 - last) = ml := by rw [← hml]; exact IntWalk.i64_in _ (by omega)
    have d3 : decide (base ≤ ml) = true := by rw [← hml]; exact decide_eq_true c3
    have d4 : decide (0 ≤ first) = false := decide_eq_false c4
    clear c0 c1 c2 c3 c4 hml
    go_enter Try.func77, Try.ntmps77
    go_wp2_with (first
    | (go_at_call 90; (with_reducible refine (bat_within leader (-1) 2147483647 _ HW1.out H.out).mono ?_); rintro e_ wn ⟨rfl, h⟩; replace H := Lib.hid h; clear h; obtain ⟨x0, x1, x2, x3, x4, x5, x6, x7, x8, x9, x10, x11, y0, y1, y2, y3, y4, y5, y6, y7, y8, y9, y10, y11⟩ := raw12 (b := hb) (H.out))
    | (go_at_call 90; (with_reducible refine (bat_within last 0 2147483647 _ HW2.out H.out).mono ?_); rintro e_ wn ⟨rfl, h⟩; replace H := Lib.hid h; clear h; obtain ⟨x0, x1, x2, x3, x4, x5, x6, x7, x8, x9, x10, x11, y0, y1, y2, y3, y4, y5, y6, y7, y8, y9, y10, y11⟩ := raw12 (b := hb) (H.out)))
    go_ret
    exact ⟨rfl, H.out.drop⟩
  by_cases c5 : 0 ≤ maxt
  case neg =>
    obtain rfl : false = r := by rw [← hr]; exact (decide_eq_false (fun x => c5 x.2.2.2.2.2)).symm
    have d0 : decide (0 ≤ base) = true := decide_eq_true c0
    have HW1 := Lib.hid (show decide (-1 ≤ leader ∧ leader ≤ 2147483647) = true from decide_eq_true c1)
    have HW2 := Lib.hid (show decide (0 ≤ last ∧ last ≤ 2147483647) = true from decide_eq_true c2)
    obtain ⟨ml, hml⟩ : ∃ ml, 9223372036854775807 - last = ml := ⟨_, rfl⟩
    have wl : wrap64 (9223372036854775807 - last) = ml := by rw [← hml]; unfold wrap64; omega
    have wl2 : IntKind.i64.wrap (9223372036854775807 - last) = ml := by rw [← hml]; exact IntWalk.i64_in _ (by omega)
    have d3 : decide (base ≤ ml) = true := by rw [← hml]; exact decide_eq_true c3
    have d4 : decide (0 ≤ first) = true := decide_eq_true c4
    have d5 : decide (0 ≤ maxt) = false := decide_eq_false c5
    clear c0 c1 c2 c3 c4 c5 hml
    go_enter Try.func77, Try.ntmps77
    go_wp2_with (first
    | (go_at_call 90; (with_reducible refine (bat_within leader (-1) 2147483647 _ HW1.out H.out).mono ?_); rintro e_ wn ⟨rfl, h⟩; replace H := Lib.hid h; clear h; obtain ⟨x0, x1, x2, x3, x4, x5, x6, x7, x8, x9, x10, x11, y0, y1, y2, y3, y4, y5, y6, y7, y8, y9, y10, y11⟩ := raw12 (b := hb) (H.out))
    | (go_at_call 90; (with_reducible refine (bat_within last 0 2147483647 _ HW2.out H.out).mono ?_); rintro e_ wn ⟨rfl, h⟩; replace H := Lib.hid h; clear h; obtain ⟨x0, x1, x2, x3, x4, x5, x6, x7, x8, x9, x10, x11, y0, y1, y2, y3, y4, y5, y6, y7, y8, y9, y10, y11⟩ := raw12 (b := hb) (H.out)))
    go_ret
    exact ⟨rfl, H.out.drop⟩
  obtain rfl : true = r := by rw [← hr]; exact (decide_eq_true ⟨c0, c1, c2, c3, c4, c5⟩).symm
  have d0 : decide (0 ≤ base) = true := decide_eq_true c0
  have HW1 := Lib.hid (show decide (-1 ≤ leader ∧ leader ≤ 2147483647) = true from decide_eq_true c1)
  have HW2 := Lib.hid (show decide (0 ≤ last ∧ last ≤ 2147483647) = true from decide_eq_true c2)
  obtain ⟨ml, hml⟩ : ∃ ml, 9223372036854775807 - last = ml := ⟨_, rfl⟩
  have wl : wrap64 (9223372036854775807 - last) = ml := by rw [← hml]; unfold wrap64; omega
  have wl2 : IntKind.i64.wrap (9223372036854775807 - last) = ml := by rw [← hml]; exact IntWalk.i64_in _ (by omega)
  have d3 : decide (base ≤ ml) = true := by rw [← hml]; exact decide_eq_true c3
  have d4 : decide (0 ≤ first) = true := decide_eq_true c4
  have d5 : decide (0 ≤ maxt) = true := decide_eq_true c5
  clear c0 c1 c2 c3 c4 c5 hml
  go_enter Try.func77, Try.ntmps77
  go_wp2_with (first
  | (go_at_call 90; (with_reducible refine (bat_within leader (-1) 2147483647 _ HW1.out H.out).mono ?_); rintro e_ wn ⟨rfl, h⟩; replace H := Lib.hid h; clear h; obtain ⟨x0, x1, x2, x3, x4, x5, x6, x7, x8, x9, x10, x11, y0, y1, y2, y3, y4, y5, y6, y7, y8, y9, y10, y11⟩ := raw12 (b := hb) (H.out))
  | (go_at_call 90; (with_reducible refine (bat_within last 0 2147483647 _ HW2.out H.out).mono ?_); rintro e_ wn ⟨rfl, h⟩; replace H := Lib.hid h; clear h; obtain ⟨x0, x1, x2, x3, x4, x5, x6, x7, x8, x9, x10, x11, y0, y1, y2, y3, y4, y5, y6, y7, y8, y9, y10, y11⟩ := raw12 (b := hb) (H.out)))
  go_ret
  exact ⟨rfl, H.out.drop⟩

set_option maxHeartbeats 1000000 in
set_option maxRecDepth 100000 in
theorem bat_signed (base leader : Int) (app txn ctl : Bool) (last first maxt prod epoch sq : Int) (rv : Value) (r : Bool) (hr : (if prod = -1 then decide (epoch = -1 ∧ sq = -1 ∧ txn = false) else if prod < 0 ∨ ¬ (0 ≤ epoch ∧ epoch ≤ 32767) then false else if ctl then decide (sq = -1) else decide (0 ≤ sq ∧ sq ≤ 2147483647)) = r) {W0 w : World} {K : Know} {L : List Res} (h : St W0 w K L) :
    Calls Try.prog 78 #[.agg #[.int .i64 base, .int .i64 leader, .bool app, .bool txn, .bool ctl, .int .i64 last, .int .i64 first, .int .i64 maxt, .int .i64 prod, .int .i64 epoch, .int .i64 sq, rv]] w fun en w' => en = .returned (.bool r) ∧ St W0 w' K L := by
  have h1 := h.allocRaw #[.int .i64 base, .int .i64 leader, .bool app, .bool txn, .bool ctl, .int .i64 last, .int .i64 first, .int .i64 maxt, .int .i64 prod, .int .i64 epoch, .int .i64 sq, rv] 32
  obtain ⟨hb, hhb⟩ : ∃ b, w.heap.size = b := ⟨_, rfl⟩
  rw [hhb] at h1
  obtain ⟨x0, x1, x2, x3, x4, x5, x6, x7, x8, x9, x10, x11, y0, y1, y2, y3, y4, y5, y6, y7, y8, y9, y10, y11⟩ := raw12 (b := hb) (h1)
  have H := Lib.hid h1
  clear h h1
  by_cases c0 : prod = -1
  · rw [if_pos c0] at hr
    have b0 : (prod == -1) = true := by rw [c0]; rfl
    subst c0
    by_cases c1 : epoch = -1
    · subst c1
      by_cases c2 : sq = -1
      · subst c2
        obtain rfl : (!txn) = r := by rw [← hr]; cases txn <;> rfl
        clear hr
        go_enter Try.func78, Try.ntmps78
        go_wp2
        go_ret
        exact ⟨rfl, H.out.drop⟩
      · obtain rfl : false = r := by rw [← hr]; exact (decide_eq_false (fun x => c2 x.2.1)).symm
        have b2 : (sq == -1) = false := by rw [beq_eq_false_iff_ne]; exact c2
        clear hr c2
        go_enter Try.func78, Try.ntmps78
        go_wp2
        go_ret
        exact ⟨rfl, H.out.drop⟩
    · obtain rfl : false = r := by rw [← hr]; exact (decide_eq_false (fun x => c1 x.1)).symm
      have b1 : (epoch == -1) = false := by rw [beq_eq_false_iff_ne]; exact c1
      clear hr c1
      go_enter Try.func78, Try.ntmps78
      go_wp2
      go_ret
      exact ⟨rfl, H.out.drop⟩
  · rw [if_neg c0] at hr
    have b0 : (prod == -1) = false := by rw [beq_eq_false_iff_ne]; exact c0
    by_cases c1 : prod < 0
    · rw [if_pos (.inl c1)] at hr
      subst hr
      have d1 : decide (prod < 0) = true := decide_eq_true c1
      clear c0 c1
      go_enter Try.func78, Try.ntmps78
      go_wp2
      go_ret
      exact ⟨rfl, H.out.drop⟩
    · have d1 : decide (prod < 0) = false := decide_eq_false c1
      by_cases c2 : 0 ≤ epoch ∧ epoch ≤ 32767
      · rw [if_neg (by rintro (x | x); exact c1 x; exact x c2)] at hr
        have HE := Lib.hid (show decide (0 ≤ epoch ∧ epoch ≤ 32767) = true from decide_eq_true c2)
        clear c0 c1 c2
        cases ctl with
        | true =>
          obtain rfl : (sq == -1) = r := by rw [← hr]; rfl
          clear hr
          go_enter Try.func78, Try.ntmps78
          go_wp2_with (first | (go_at_call 90; (with_reducible refine (bat_within epoch 0 32767 _ HE.out H.out).mono ?_); rintro e_ wn ⟨rfl, h⟩; replace H := Lib.hid h; clear h; obtain ⟨x0, x1, x2, x3, x4, x5, x6, x7, x8, x9, x10, x11, y0, y1, y2, y3, y4, y5, y6, y7, y8, y9, y10, y11⟩ := raw12 (b := hb) (H.out)) | fail)
          go_ret
          exact ⟨rfl, H.out.drop⟩
        | false =>
          have HS := Lib.hid (show decide (0 ≤ sq ∧ sq ≤ 2147483647) = r from hr)
          clear hr
          go_enter Try.func78, Try.ntmps78
          go_wp2_with (first | (go_at_call 90; (with_reducible refine (bat_within epoch 0 32767 _ HE.out H.out).mono ?_); rintro e_ wn ⟨rfl, h⟩; replace H := Lib.hid h; clear h; obtain ⟨x0, x1, x2, x3, x4, x5, x6, x7, x8, x9, x10, x11, y0, y1, y2, y3, y4, y5, y6, y7, y8, y9, y10, y11⟩ := raw12 (b := hb) (H.out)) | (go_at_call 90; (with_reducible refine (bat_within sq 0 2147483647 _ HS.out H.out).mono ?_); rintro e_ wn ⟨rfl, h⟩; replace H := Lib.hid h; clear h; obtain ⟨x0, x1, x2, x3, x4, x5, x6, x7, x8, x9, x10, x11, y0, y1, y2, y3, y4, y5, y6, y7, y8, y9, y10, y11⟩ := raw12 (b := hb) (H.out)))
          go_ret
          exact ⟨rfl, H.out.drop⟩
      · rw [if_pos (.inr c2)] at hr
        subst hr
        have HE := Lib.hid (show decide (0 ≤ epoch ∧ epoch ≤ 32767) = false from decide_eq_false c2)
        clear c0 c1 c2
        go_enter Try.func78, Try.ntmps78
        go_wp2_with (first | (go_at_call 90; (with_reducible refine (bat_within epoch 0 32767 _ HE.out H.out).mono ?_); rintro e_ wn ⟨rfl, h⟩; replace H := Lib.hid h; clear h; obtain ⟨x0, x1, x2, x3, x4, x5, x6, x7, x8, x9, x10, x11, y0, y1, y2, y3, y4, y5, y6, y7, y8, y9, y10, y11⟩ := raw12 (b := hb) (H.out)) | fail)
        go_ret
        exact ⟨rfl, H.out.drop⟩

end Go.Proofs.Ytcjgdlfcfcabiaa

/- Batches: rows. -/
namespace Go.Proofs.Ytcjgdlfcfcabiaa
open Go.RowKit

set_option maxHeartbeats 1000000 in
set_option maxRecDepth 100000 in
theorem bat_checkRows (base leader : Int) (app txn ctl : Bool) (last first maxt prod epoch sq : Int) (l : List (RecS × Value)) (q : Option Addr) (cap : Nat) (e : Int) (he : BatS.rows ⟨base, leader, app, txn, ctl, last, first, maxt, prod, epoch, sq, l.map (·.1)⟩ = e) (hf : 0 ≤ first ∧ first ≤ 9223372036854775807) (hfit : FitB l) (hll : l.length ≤ 1000000) {W0 w : World} {K : Know} {L : List Res} (hk : K.has (Know.recs (.slice q l.length cap) l)) (h : St W0 w K L) :
    Calls Try.prog 80 #[.agg #[.int .i64 base, .int .i64 leader, .bool app, .bool txn, .bool ctl, .int .i64 last, .int .i64 first, .int .i64 maxt, .int .i64 prod, .int .i64 epoch, .int .i64 sq, .slice q l.length cap]] w fun en w' => en = .returned (.int .i64 e) ∧ St W0 w' K L := by
  obtain ⟨tot, htot⟩ : ∃ t, rowsC first last (l.map (·.1)) (-1) first = t := ⟨_, rfl⟩
  have HE := Lib.hid (show rowsE app maxt tot = e by rw [← he, ← htot]; rfl)
  have HT := Lib.hid htot
  have HK := Lib.hid hk
  have HFT := Lib.hid hfit
  have HF := Lib.hid hf
  obtain ⟨nf, hnf⟩ : ∃ m, -first = m := ⟨_, rfl⟩
  obtain ⟨mf, hmf⟩ : ∃ m, 9223372036854775807 - first = m := ⟨_, rfl⟩
  have HNF := Lib.hid hnf
  have HMF := Lib.hid hmf
  have n1 : wrap64 (-first) = nf := by rw [← hnf]; unfold wrap64; omega
  have n2 : IntKind.i64.wrap (-first) = nf := by rw [← hnf]; exact IntWalk.i64_in _ (by omega)
  have m1 : wrap64 (9223372036854775807 - first) = mf := by rw [← hmf]; unfold wrap64; omega
  have m2 : IntKind.i64.wrap (9223372036854775807 - first) = mf := by rw [← hmf]; exact IntWalk.i64_in _ (by omega)
  have h1 := h.allocRaw #[.int .i64 base, .int .i64 leader, .bool app, .bool txn, .bool ctl, .int .i64 last, .int .i64 first, .int .i64 maxt, .int .i64 prod, .int .i64 epoch, .int .i64 sq, .slice q l.length cap] 32
  obtain ⟨hb, hhb⟩ : ∃ b, w.heap.size = b := ⟨_, rfl⟩
  rw [hhb] at h1
  obtain ⟨x0, x1, x2, x3, x4, x5, x6, x7, x8, x9, x10, x11, y0, y1, y2, y3, y4, y5, y6, y7, y8, y9, y10, y11⟩ := raw12 (b := hb) (h1)
  have H := Lib.hid h1
  clear h h1 hk hfit he htot hnf hmf hf
  go_enter Try.func80, Try.ntmps80
  go_upto_region 1 with (fail)
  have hs := H.out.drew
  clear H
  have H := Lib.hid hs
  clear hs
  go_region
  clear x0 y0 x1 y1 x2 y2 x3 y3 x4 y4 x5 y5 x6 y6 x7 y7 x8 y8 x9 y9 x10 y10 x11 y11
  obtain ⟨x0, x1, x2, x3, x4, x5, x6, x7, x8, x9, x10, x11, y0, y1, y2, y3, y4, y5, y6, y7, y8, y9, y10, y11⟩ := raw12 (b := hb) (H.out)
  go_wp2
  clear x0 y0 x1 y1 x2 y2 x3 y3 x4 y4 x5 y5 x6 y6 x7 y7 x8 y8 x9 y9 x10 y10 x11 y11
  go_loopw [3, 4, 6, 12] (fun av gv _ iv wr => ∃ (k : Nat) (ah g : Int), k ≤ l.length ∧ av = .int .i64 ah ∧ gv = .int .i64 g ∧ iv = .int .i64 k ∧ Hid (rowsC first last ((l.map (·.1)).drop k) ah g = tot) ∧ St W0 wr K (.raw hb #[.int .i64 base, .int .i64 leader, .bool app, .bool txn, .bool ctl, .int .i64 last, .int .i64 first, .int .i64 maxt, .int .i64 prod, .int .i64 epoch, .int .i64 sq, .slice q l.length cap] 32 :: L)) (fun _ _ _ iv _ => l.length - (intOf iv).toNat)
  case atStart => exact ⟨0, -1, first, Nat.zero_le _, rfl, rfl, rfl, HT, H.out⟩
  case round =>
    obtain ⟨k, ah, g, hkl, rfl, rfl, rfl, HC, hst⟩ := hrel
    clear H
    have H := Lib.hid hst
    clear hst
    by_cases hlt : k < l.length
    · have hd := drop_recs l k hlt _ rfl
      obtain ⟨b, off, hqq⟩ := recs_at HK.out H.out (by omega)
      subst hqq
      obtain ⟨⟨x, vx⟩, hx⟩ : ∃ x, l[k] = x := ⟨_, rfl⟩
      have cc := recs_cell HK.out H.out k hlt (x, vx) hx
      have hmem : (x, vx) ∈ l := hx ▸ List.getElem_mem hlt
      have xf : x.R ∧ HFit x.hdrs ∧ x.sum ≤ 1000000 := HFT.out (x, vx) hmem
      have xk : K.has (Know.flat RHdr vx 3 x.hdrs) := recs_hdrs HK.out hmem
      obtain ⟨qx, capx, hvx⟩ := flat_form xk H.out
      subst hvx
      simp only at cc
      obtain ⟨c0, c1, c2, c3, c4, c5, c6⟩ := cc
      rw [← Nat.add_assoc] at c1 c2 c3 c4 c5 c6
      have hx1 : l[k].1 = x := by rw [hx]
      have XF := Lib.hid xf
      have XK := Lib.hid xk
      have HX := Lib.hid hx1
      clear xf xk hx1 hx hmem
      obtain ⟨wE, hwE⟩ : ∃ b, wr.heap.size = b := ⟨_, rfl⟩
      have hki : (k : Int) < (l.length : Int) := by omega
      have h := H.out.allocRaw #[.int .i64 x.time, .int .i64 x.off, .bool x.key.null, .string (bb x.key.data), .bool x.val.null, .string (bb x.val.data), .slice qx x.hdrs.length capx] 64
      rw [hwE] at h
      clear H
      have H := Lib.hid h
      clear h
      rw [HX.out] at hd
      have hc := HC.out
      rw [hd, rowsC_cons] at hc
      obtain ⟨ec0, ec1, ec2, ec3, ec4, ec5, ec6, ef0, ef1, ef2, ef3, ef4, ef5, ef6⟩ := raw7 (b := wE) (H.out)
      obtain ⟨x0, x1, x2, x3, x4, x5, x6, x7, x8, x9, x10, x11, y0, y1, y2, y3, y4, y5, y6, y7, y8, y9, y10, y11⟩ := raw12 (b := hb) (H.out.p1)
      clear hd
      by_cases c1 : x.off ≤ ah
      · have d1 : decide (x.off ≤ ah) = true := decide_eq_true c1
        rw [if_pos (.inl c1)] at hc
        obtain rfl : 13 = e := by have := HE.out; rw [← hc] at this; exact this
        clear c1 hc
        go_wp2
        go_ret
        exact ⟨rfl, H.out.drop.drop⟩
      · have d1 : decide (x.off ≤ ah) = false := decide_eq_false c1
        by_cases c2 : last < x.off
        · have d2 : decide (last < x.off) = true := decide_eq_true c2
          rw [if_pos (.inr c2)] at hc
          obtain rfl : 13 = e := by have := HE.out; rw [← hc] at this; exact this
          clear c1 c2 hc
          go_wp2
          go_ret
          exact ⟨rfl, H.out.drop.drop⟩
        · have d2 : decide (last < x.off) = false := decide_eq_false c2
          rw [if_neg (by rintro (h | h); exact c1 h; exact c2 h)] at hc
          clear c1 c2
          by_cases c3 : x.time < -first ∨ 9223372036854775807 - first < x.time
          · rw [if_pos c3] at hc
            obtain rfl : 11 = e := by have := HE.out; rw [← hc] at this; exact this
            have HW := Lib.hid (show decide (nf ≤ x.time ∧ x.time ≤ mf) = false by
              rw [← HNF.out, ← HMF.out]
              exact decide_eq_false (by omega))
            clear c3 hc
            go_wp2_with (go_at_call 90; (with_reducible refine (bat_within x.time nf mf false HW.out H.out).mono ?_); rintro e_ wn ⟨rfl, h⟩; replace H := Lib.hid h; clear h; obtain ⟨ec0, ec1, ec2, ec3, ec4, ec5, ec6, ef0, ef1, ef2, ef3, ef4, ef5, ef6⟩ := raw7 (b := wE) (H.out); obtain ⟨x0, x1, x2, x3, x4, x5, x6, x7, x8, x9, x10, x11, y0, y1, y2, y3, y4, y5, y6, y7, y8, y9, y10, y11⟩ := raw12 (b := hb) (H.out.p1))
            go_ret
            exact ⟨rfl, H.out.drop.drop⟩
          · rw [if_neg c3] at hc
            have HW := Lib.hid (show decide (nf ≤ x.time ∧ x.time ≤ mf) = true by
              rw [← HNF.out, ← HMF.out]
              exact decide_eq_true (by omega))
            obtain ⟨ft, hft⟩ : ∃ t, first + x.time = t := ⟨_, rfl⟩
            have f1 : wrap64 (first + x.time) = ft := by have := HF.out; rw [← hft]; unfold wrap64; omega
            have f2 : IntKind.i64.wrap (first + x.time) = ft := by have := HF.out; rw [← hft]; exact IntWalk.i64_in _ (by omega)
            rw [hft] at hc
            have HC2 := Lib.hid hc
            have EM := Lib.hid (show max g ft = (if g < ft then ft else g) by rw [Int.max_def]; split <;> split <;> omega)
            clear c3 hc hft
            go_upto_region 9 with (go_at_call 90; (with_reducible refine (bat_within x.time nf mf true HW.out H.out).mono ?_); rintro e_ wn ⟨rfl, h⟩; replace H := Lib.hid h; clear h; obtain ⟨ec0, ec1, ec2, ec3, ec4, ec5, ec6, ef0, ef1, ef2, ef3, ef4, ef5, ef6⟩ := raw7 (b := wE) (H.out); obtain ⟨x0, x1, x2, x3, x4, x5, x6, x7, x8, x9, x10, x11, y0, y1, y2, y3, y4, y5, y6, y7, y8, y9, y10, y11⟩ := raw12 (b := hb) (H.out.p1))
            have hs := H.out.drew
            clear H
            have H := Lib.hid hs
            clear hs x0 y0 x1 y1 x2 y2 x3 y3 x4 y4 x5 y5 x6 y6 x7 y7 x8 y8 x9 y9 x10 y10 x11 y11 ec0 ef0 ec1 ef1 ec2 ef2 ec3 ef3 ec4 ef4 ec5 ef5 ec6 ef6
            obtain ⟨ec0, ec1, ec2, ec3, ec4, ec5, ec6, ef0, ef1, ef2, ef3, ef4, ef5, ef6⟩ := raw7 (b := wE) (H.out)
            obtain ⟨x0, x1, x2, x3, x4, x5, x6, x7, x8, x9, x10, x11, y0, y1, y2, y3, y4, y5, y6, y7, y8, y9, y10, y11⟩ := raw12 (b := hb) (H.out.p1)
            refine wp_region_held_drew (S := fun w' => w'.cell? ⟨wE, 0, none⟩ = some (.int .i64 x.time) ∧ w'.cell? ⟨wE, 1, none⟩ = some (.int .i64 x.off) ∧ w'.cell? ⟨hb, 6, none⟩ = some (.int .i64 first)) (by kernel_rfl) ⟨ec0, ec1, x6⟩ (fun hHeld => ?_)
            clear x0 y0 x1 y1 x2 y2 x3 y3 x4 y4 x5 y5 x6 y6 x7 y7 x8 y8 x9 y9 x10 y10 x11 y11 ec0 ef0 ec1 ef1 ec2 ef2 ec3 ef3 ec4 ef4 ec5 ef5 ec6 ef6 c0 c1 c2 c3 c4 c5 c6
            refine wpAnyH_take (i := 0) (oi := { dst := some 37, op := Op.fieldAddr 64 (Operand.tmp 6) 1, type := 0, pos := "check.go:75", after := #[], guard := none }) (v := ?_) rfl (by kernel_rfl) (by kernel_rfl) (by kernel_rfl) (fun _ _ _ h => h) (Or.inl ⟨by rfl, ?_⟩) (by assumption) ?_
            rotate_left
            · intro w hSw; (try dsimp only at hSw); go_simp; try with_reducible rfl
            simp only [Act.put, List.setIfInBounds_toArray, List.set_cons_zero, List.set_cons_succ]
            refine wpAnyH_take (i := 1) (oi := { dst := some 38, op := Op.load 3 (Operand.tmp 37), type := 3, pos := "check.go:75", after := #[{ on := 0, ground := Ground.data }], guard := none }) (v := ?_) rfl (by kernel_rfl) (by kernel_rfl) (by kernel_rfl) (fun _ _ _ h => h) (Or.inl ⟨by rfl, ?_⟩) (by assumption) ?_
            rotate_left
            · intro w hSw; (try dsimp only at hSw); go_simp; try with_reducible rfl
            simp only [Act.put, List.setIfInBounds_toArray, List.set_cons_zero, List.set_cons_succ]
            refine wpAnyH_take (i := 2) (oi := { dst := some 39, op := Op.move (Operand.tmp 4), type := 3, pos := "check.go:75", after := #[], guard := none }) (v := ?_) rfl (by kernel_rfl) (by kernel_rfl) (by kernel_rfl) (fun _ _ _ h => h) (Or.inl ⟨by rfl, ?_⟩) (by assumption) ?_
            rotate_left
            · intro w hSw; (try dsimp only at hSw); go_simp; try with_reducible rfl
            simp only [Act.put, List.setIfInBounds_toArray, List.set_cons_zero, List.set_cons_succ]
            refine wpAnyH_take (i := 3) (oi := { dst := some 40, op := Op.fieldAddr 32 (Operand.tmp 1) 6, type := 0, pos := "check.go:75", after := #[], guard := none }) (v := ?_) rfl (by kernel_rfl) (by kernel_rfl) (by kernel_rfl) (fun _ _ _ h => h) (Or.inl ⟨by rfl, ?_⟩) (by assumption) ?_
            rotate_left
            · intro w hSw; (try dsimp only at hSw); go_simp; try with_reducible rfl
            simp only [Act.put, List.setIfInBounds_toArray, List.set_cons_zero, List.set_cons_succ]
            refine wpAnyH_take (i := 4) (oi := { dst := some 41, op := Op.load 3 (Operand.tmp 40), type := 3, pos := "check.go:75", after := #[{ on := 3, ground := Ground.data }], guard := none }) (v := ?_) rfl (by kernel_rfl) (by kernel_rfl) (by kernel_rfl) (fun _ _ _ h => h) (Or.inl ⟨by rfl, ?_⟩) (by assumption) ?_
            rotate_left
            · intro w hSw; (try dsimp only at hSw); go_simp; try with_reducible rfl
            simp only [Act.put, List.setIfInBounds_toArray, List.set_cons_zero, List.set_cons_succ]
            refine wpAnyH_take (i := 5) (oi := { dst := some 42, op := Op.fieldAddr 64 (Operand.tmp 6) 0, type := 0, pos := "check.go:75", after := #[], guard := none }) (v := ?_) rfl (by kernel_rfl) (by kernel_rfl) (by kernel_rfl) (fun _ _ _ h => h) (Or.inl ⟨by rfl, ?_⟩) (by assumption) ?_
            rotate_left
            · intro w hSw; (try dsimp only at hSw); go_simp; try with_reducible rfl
            simp only [Act.put, List.setIfInBounds_toArray, List.set_cons_zero, List.set_cons_succ]
            refine wpAnyH_take (i := 6) (oi := { dst := some 43, op := Op.load 3 (Operand.tmp 42), type := 3, pos := "check.go:75", after := #[{ on := 5, ground := Ground.data }], guard := none }) (v := ?_) rfl (by kernel_rfl) (by kernel_rfl) (by kernel_rfl) (fun _ _ _ h => h) (Or.inl ⟨by rfl, ?_⟩) (by assumption) ?_
            rotate_left
            · intro w hSw; (try dsimp only at hSw); go_simp; try with_reducible rfl
            simp only [Act.put, List.setIfInBounds_toArray, List.set_cons_zero, List.set_cons_succ]
            refine wpAnyH_take (i := 7) (oi := { dst := some 44, op := Op.binOp BinOp.add 3 (Operand.tmp 41) (Operand.tmp 43) 3, type := 3, pos := "check.go:75", after := #[{ on := 4, ground := Ground.data }, { on := 6, ground := Ground.data }], guard := none }) (v := ?_) rfl (by kernel_rfl) (by kernel_rfl) (by kernel_rfl) (fun _ _ _ h => h) (Or.inl ⟨by rfl, ?_⟩) (by assumption) ?_
            rotate_left
            · intro w hSw; (try dsimp only at hSw); go_simp; try with_reducible rfl
            simp only [Act.put, List.setIfInBounds_toArray, List.set_cons_zero, List.set_cons_succ]
            refine wpAnyH_take (i := 8) (oi := { dst := some 45, op := Op.call { callee := Callee.builtin Builtin.max, args := #[Operand.tmp 39, Operand.tmp 44], argTypes := #[3, 3] }, type := 3, pos := "check.go:75", after := #[{ on := 2, ground := Ground.data }, { on := 7, ground := Ground.data }], guard := none }) (v := ?_) rfl (by kernel_rfl) (by kernel_rfl) (by kernel_rfl) (fun _ _ _ h => h) (Or.inl ⟨by rfl, ?_⟩) (by assumption) ?_
            rotate_left
            · intro w hSw; (try dsimp only at hSw); go_simp; try with_reducible rfl
            simp only [Act.put, List.setIfInBounds_toArray, List.set_cons_zero, List.set_cons_succ]
            refine wpAnyH_take (i := 9) (oi := { dst := some 3, op := Op.assign (Operand.tmp 38), type := 3, pos := "check.go:75", after := #[{ on := 1, ground := Ground.data }, { on := 0, ground := Ground.phase }, { on := 1, ground := Ground.phase }, { on := 2, ground := Ground.textOnly Departure.lateStores }, { on := 3, ground := Ground.textOnly Departure.lateStores }, { on := 4, ground := Ground.textOnly Departure.lateStores }, { on := 5, ground := Ground.textOnly Departure.lateStores }, { on := 6, ground := Ground.textOnly Departure.lateStores }, { on := 7, ground := Ground.textOnly Departure.lateStores }, { on := 8, ground := Ground.textOnly Departure.lateStoresUnsure }], guard := none }) (v := ?_) rfl (by kernel_rfl) (by kernel_rfl) (by kernel_rfl) (fun _ _ _ h => h) (Or.inl ⟨by rfl, ?_⟩) (by assumption) ?_
            rotate_left
            · intro w hSw; (try dsimp only at hSw); go_simp; try with_reducible rfl
            simp only [Act.put, List.setIfInBounds_toArray, List.set_cons_zero, List.set_cons_succ]
            refine wpAnyH_take (i := 10) (oi := { dst := some 4, op := Op.assign (Operand.tmp 45), type := 3, pos := "check.go:75", after := #[{ on := 8, ground := Ground.data }, { on := 9, ground := Ground.chain }, { on := 0, ground := Ground.phase }, { on := 1, ground := Ground.phase }, { on := 2, ground := Ground.phase }, { on := 3, ground := Ground.phase }, { on := 4, ground := Ground.phase }, { on := 5, ground := Ground.phase }, { on := 6, ground := Ground.phase }, { on := 7, ground := Ground.phase }, { on := 8, ground := Ground.phase }, { on := 9, ground := Ground.phase }], guard := none }) (v := ?_) rfl (by kernel_rfl) (by kernel_rfl) (by kernel_rfl) (fun _ _ _ h => h) (Or.inl ⟨by rfl, ?_⟩) (by assumption) ?_
            rotate_left
            · intro w hSw; (try dsimp only at hSw); go_simp; try with_reducible rfl
            simp only [Act.put, List.setIfInBounds_toArray, List.set_cons_zero, List.set_cons_succ]
            refine wpAnyH_done (by kernel_rfl) ?_ _
            clear hHeld
            go_wp2_with fail
            go_roundw
            case rel => exact ⟨k + 1, x.off, _, hlt, rfl, rfl, by go_num, Lib.hid (by rw [← EM.out]; exact HC2.out), H.out.drop⟩
            case measure => first | (simp [intOf]; done) | (simp [intOf]; omega)
    · obtain rfl : l.length = k := by omega
      have hc := HC.out
      rw [List.drop_of_length_le (by simp)] at hc
      have hc : Except.ok g = tot := hc
      have hee := HE.out
      rw [← hc] at hee
      simp only [rowsE] at hee
      obtain ⟨x0, x1, x2, x3, x4, x5, x6, x7, x8, x9, x10, x11, y0, y1, y2, y3, y4, y5, y6, y7, y8, y9, y10, y11⟩ := raw12 (b := hb) (H.out)
      cases app with
      | true =>
        obtain rfl : 0 = e := by rw [← hee]; rfl
        clear hc hee
        go_wp2
        go_ret
        exact ⟨rfl, H.out.drop⟩
      | false =>
        by_cases c1 : maxt = g
        · subst c1
          obtain rfl : 0 = e := by rw [← hee]; simp
          clear hc hee
          go_wp2
          go_ret
          exact ⟨rfl, H.out.drop⟩
        · obtain rfl : 11 = e := by rw [← hee]; simp [c1]
          have b1 : (maxt == g) = false := by rw [beq_eq_false_iff_ne]; exact c1
          clear hc hee c1
          go_wp2
          go_ret
          exact ⟨rfl, H.out.drop⟩

end Go.Proofs.Ytcjgdlfcfcabiaa

/- Batches: which may be. -/
namespace Go.Proofs.Ytcjgdlfcfcabiaa
open Go.RowKit

set_option maxHeartbeats 1000000 in
set_option maxRecDepth 100000 in
theorem bat_check (base leader : Int) (app txn ctl : Bool) (last first maxt prod epoch sq : Int) (l : List (RecS × Value)) (q : Option Addr) (cap : Nat) (e : Int) (he : batErr ⟨base, leader, app, txn, ctl, last, first, maxt, prod, epoch, sq, l.map (·.1)⟩ = e) (hmx : first ≤ 9223372036854775807) (hfit : FitB l) (hll : l.length ≤ 1000000) {W0 w : World} {K : Know} {L : List Res} (hk : K.has (Know.recs (.slice q l.length cap) l)) (h : St W0 w K L) :
    Calls Try.prog 53 #[.agg #[.int .i64 base, .int .i64 leader, .bool app, .bool txn, .bool ctl, .int .i64 last, .int .i64 first, .int .i64 maxt, .int .i64 prod, .int .i64 epoch, .int .i64 sq, .slice q l.length cap]] w fun en w' => en = .returned (.int .i64 e) ∧ St W0 w' K L := by
  have HK := Lib.hid hk
  have HFT := Lib.hid hfit
  have HLL := Lib.hid hll
  have h1 := h.allocRaw #[.int .i64 base, .int .i64 leader, .bool app, .bool txn, .bool ctl, .int .i64 last, .int .i64 first, .int .i64 maxt, .int .i64 prod, .int .i64 epoch, .int .i64 sq, .slice q l.length cap] 32
  obtain ⟨hb, hhb⟩ : ∃ b, w.heap.size = b := ⟨_, rfl⟩
  rw [hhb] at h1
  obtain ⟨x0, x1, x2, x3, x4, x5, x6, x7, x8, x9, x10, x11, y0, y1, y2, y3, y4, y5, y6, y7, y8, y9, y10, y11⟩ := raw12 (b := hb) (h1)
  have H := Lib.hid h1
  clear h h1 hk hfit
  unfold batErr at he
  simp only [List.length_map] at he
  by_cases p1 : BatS.placed ⟨base, leader, app, txn, ctl, last, first, maxt, prod, epoch, sq, l.map (·.1)⟩ = false
  · rw [if_pos p1] at he
    subst he
    have HP := Lib.hid (show decide (0 ≤ base ∧ (-1 ≤ leader ∧ leader ≤ 2147483647) ∧ (0 ≤ last ∧ last ≤ 2147483647) ∧ base ≤ 9223372036854775807 - last ∧ 0 ≤ first ∧ 0 ≤ maxt) = false from p1)
    clear p1 hmx hll
    go_enter Try.func53, Try.ntmps53
    go_wp2_with (go_at_call 77; (with_reducible refine (bat_placed _ _ _ _ _ _ _ _ _ _ _ _ _ HP.out H.out).mono ?_); rintro e_ wn ⟨rfl, h⟩; replace H := Lib.hid h; clear h; obtain ⟨x0, x1, x2, x3, x4, x5, x6, x7, x8, x9, x10, x11, y0, y1, y2, y3, y4, y5, y6, y7, y8, y9, y10, y11⟩ := raw12 (b := hb) (H.out))
    go_ret
    exact ⟨rfl, H.out.drop⟩
  rw [if_neg p1] at he
  have p2 : BatS.placed ⟨base, leader, app, txn, ctl, last, first, maxt, prod, epoch, sq, l.map (·.1)⟩ = true := by cases hh : BatS.placed ⟨base, leader, app, txn, ctl, last, first, maxt, prod, epoch, sq, l.map (·.1)⟩ with
    | false => exact absurd hh p1
    | true => rfl
  have HP := Lib.hid (show decide (0 ≤ base ∧ (-1 ≤ leader ∧ leader ≤ 2147483647) ∧ (0 ≤ last ∧ last ≤ 2147483647) ∧ base ≤ 9223372036854775807 - last ∧ 0 ≤ first ∧ 0 ≤ maxt) = true from p2)
  have HFP := Lib.hid (show 0 ≤ first ∧ first ≤ 9223372036854775807 from ⟨(of_decide_eq_true (show decide (0 ≤ base ∧ (-1 ≤ leader ∧ leader ≤ 2147483647) ∧ (0 ≤ last ∧ last ≤ 2147483647) ∧ base ≤ 9223372036854775807 - last ∧ 0 ≤ first ∧ 0 ≤ maxt) = true from p2)).2.2.2.2.1, hmx⟩)
  clear p1 p2 hmx
  by_cases c1 : ctl = true ∧ txn = false
  · rw [if_pos c1] at he
    subst he
    obtain ⟨rfl, rfl⟩ := c1
    clear hll
    go_enter Try.func53, Try.ntmps53
    go_wp2_with (go_at_call 77; (with_reducible refine (bat_placed _ _ _ _ _ _ _ _ _ _ _ _ _ HP.out H.out).mono ?_); rintro e_ wn ⟨rfl, h⟩; replace H := Lib.hid h; clear h; obtain ⟨x0, x1, x2, x3, x4, x5, x6, x7, x8, x9, x10, x11, y0, y1, y2, y3, y4, y5, y6, y7, y8, y9, y10, y11⟩ := raw12 (b := hb) (H.out))
    go_ret
    exact ⟨rfl, H.out.drop⟩
  rw [if_neg c1] at he
  by_cases s1 : BatS.signed ⟨base, leader, app, txn, ctl, last, first, maxt, prod, epoch, sq, l.map (·.1)⟩ = false
  · rw [if_pos s1] at he
    subst he
    have HS := Lib.hid (show (if prod = -1 then decide (epoch = -1 ∧ sq = -1 ∧ txn = false) else if prod < 0 ∨ ¬ (0 ≤ epoch ∧ epoch ≤ 32767) then false else if ctl then decide (sq = -1) else decide (0 ≤ sq ∧ sq ≤ 2147483647)) = false from s1)
    clear s1 hll
    cases ctl with
    | false =>
      go_enter Try.func53, Try.ntmps53
      go_wp2_with (first
    | (go_at_call 77; (with_reducible refine (bat_placed _ _ _ _ _ _ _ _ _ _ _ _ _ HP.out H.out).mono ?_); rintro e_ wn ⟨rfl, h⟩; replace H := Lib.hid h; clear h; obtain ⟨x0, x1, x2, x3, x4, x5, x6, x7, x8, x9, x10, x11, y0, y1, y2, y3, y4, y5, y6, y7, y8, y9, y10, y11⟩ := raw12 (b := hb) (H.out))
    | (go_at_call 78; (with_reducible refine (bat_signed _ _ _ _ _ _ _ _ _ _ _ _ _ HS.out H.out).mono ?_); rintro e_ wn ⟨rfl, h⟩; replace H := Lib.hid h; clear h; obtain ⟨x0, x1, x2, x3, x4, x5, x6, x7, x8, x9, x10, x11, y0, y1, y2, y3, y4, y5, y6, y7, y8, y9, y10, y11⟩ := raw12 (b := hb) (H.out)))
      go_ret
      exact ⟨rfl, H.out.drop⟩
    | true =>
      cases txn with
      | false => exact absurd ⟨rfl, rfl⟩ c1
      | true =>
        clear c1
        go_enter Try.func53, Try.ntmps53
        go_wp2_with (first
    | (go_at_call 77; (with_reducible refine (bat_placed _ _ _ _ _ _ _ _ _ _ _ _ _ HP.out H.out).mono ?_); rintro e_ wn ⟨rfl, h⟩; replace H := Lib.hid h; clear h; obtain ⟨x0, x1, x2, x3, x4, x5, x6, x7, x8, x9, x10, x11, y0, y1, y2, y3, y4, y5, y6, y7, y8, y9, y10, y11⟩ := raw12 (b := hb) (H.out))
    | (go_at_call 78; (with_reducible refine (bat_signed _ _ _ _ _ _ _ _ _ _ _ _ _ HS.out H.out).mono ?_); rintro e_ wn ⟨rfl, h⟩; replace H := Lib.hid h; clear h; obtain ⟨x0, x1, x2, x3, x4, x5, x6, x7, x8, x9, x10, x11, y0, y1, y2, y3, y4, y5, y6, y7, y8, y9, y10, y11⟩ := raw12 (b := hb) (H.out)))
        go_ret
        exact ⟨rfl, H.out.drop⟩
  rw [if_neg s1] at he
  have s2 : BatS.signed ⟨base, leader, app, txn, ctl, last, first, maxt, prod, epoch, sq, l.map (·.1)⟩ = true := by cases hh : BatS.signed ⟨base, leader, app, txn, ctl, last, first, maxt, prod, epoch, sq, l.map (·.1)⟩ with
    | false => exact absurd hh s1
    | true => rfl
  have HS := Lib.hid (show (if prod = -1 then decide (epoch = -1 ∧ sq = -1 ∧ txn = false) else if prod < 0 ∨ ¬ (0 ≤ epoch ∧ epoch ≤ 32767) then false else if ctl then decide (sq = -1) else decide (0 ≤ sq ∧ sq ≤ 2147483647)) = true from s2)
  clear s1 s2
  cases ctl with
  | false =>
    rw [if_neg (fun h => by cases h.1)] at he
    obtain ⟨tot, htot⟩ : ∃ t, recsC (l.map (·.1)) = t := ⟨_, rfl⟩
    rw [htot] at he
    have HTE := Lib.hid (show tot ≠ 0 → tot = e from fun h => by rw [if_pos h] at he; exact he)
    have HTZ := Lib.hid (show tot = 0 → BatS.rows ⟨base, leader, app, txn, false, last, first, maxt, prod, epoch, sq, l.map (·.1)⟩ = e from fun h => by rw [if_neg (fun x => x h), if_neg (fun h => by cases h.1)] at he; exact he)
    have HT := Lib.hid htot
    clear he htot c1
    go_enter Try.func53, Try.ntmps53
    go_wp2_with (first
        | (go_at_call 77; (with_reducible refine (bat_placed _ _ _ _ _ _ _ _ _ _ _ _ _ HP.out H.out).mono ?_); rintro e_ wn ⟨rfl, h⟩; replace H := Lib.hid h; clear h; obtain ⟨x0, x1, x2, x3, x4, x5, x6, x7, x8, x9, x10, x11, y0, y1, y2, y3, y4, y5, y6, y7, y8, y9, y10, y11⟩ := raw12 (b := hb) (H.out))
        | (go_at_call 78; (with_reducible refine (bat_signed _ _ _ _ _ _ _ _ _ _ _ _ _ HS.out H.out).mono ?_); rintro e_ wn ⟨rfl, h⟩; replace H := Lib.hid h; clear h; obtain ⟨x0, x1, x2, x3, x4, x5, x6, x7, x8, x9, x10, x11, y0, y1, y2, y3, y4, y5, y6, y7, y8, y9, y10, y11⟩ := raw12 (b := hb) (H.out)))
    go_loopw [4, 5, 33] (fun _ _ iv wr => ∃ k : Nat, k ≤ l.length ∧ iv = .int .i64 k ∧ Hid (recsC ((l.map (·.1)).drop k) = tot) ∧ St W0 wr K (.raw hb #[.int .i64 base, .int .i64 leader, .bool app, .bool txn, .bool false, .int .i64 last, .int .i64 first, .int .i64 maxt, .int .i64 prod, .int .i64 epoch, .int .i64 sq, .slice q l.length cap] 32 :: L)) (fun _ _ iv _ => l.length - (intOf iv).toNat)
    case atStart => exact ⟨0, Nat.zero_le _, rfl, HT, H.out⟩
    case round =>
      clear x0 y0 x1 y1 x2 y2 x3 y3 x4 y4 x5 y5 x6 y6 x7 y7 x8 y8 x9 y9 x10 y10 x11 y11
      obtain ⟨k, hkl, rfl, HC, hst⟩ := hrel
      clear H
      have H := Lib.hid hst
      clear hst
      by_cases hlt : k < l.length
      · have hd := drop_recs l k hlt _ rfl
        obtain ⟨b, off, hqq⟩ := recs_at HK.out H.out (by omega)
        subst hqq
        obtain ⟨⟨x, vx⟩, hx⟩ : ∃ x, l[k] = x := ⟨_, rfl⟩
        have cc := recs_cell HK.out H.out k hlt (x, vx) hx
        have hmem : (x, vx) ∈ l := hx ▸ List.getElem_mem hlt
        have xf : x.R ∧ HFit x.hdrs ∧ x.sum ≤ 1000000 := HFT.out (x, vx) hmem
        have xk : K.has (Know.flat RHdr vx 3 x.hdrs) := recs_hdrs HK.out hmem
        obtain ⟨qx, capx, hvx⟩ := flat_form xk H.out
        subst hvx
        simp only at cc
        obtain ⟨c0, c1, c2, c3, c4, c5, c6⟩ := cc
        rw [← Nat.add_assoc] at c1 c2 c3 c4 c5 c6
        have hx1 : l[k].1 = x := by rw [hx]
        have XF := Lib.hid xf
        have XK := Lib.hid xk
        have HX := Lib.hid hx1
        clear xf xk hx1 hx hmem
        obtain ⟨wE, hwE⟩ : ∃ b, wr.heap.size = b := ⟨_, rfl⟩
        have hki : (k : Int) < (l.length : Int) := by omega
        have h := H.out.allocRaw #[.int .i64 x.time, .int .i64 x.off, .bool x.key.null, .string (bb x.key.data), .bool x.val.null, .string (bb x.val.data), .slice qx x.hdrs.length capx] 64
        rw [hwE] at h
        clear H
        have H := Lib.hid h
        clear h
        rw [HX.out] at hd
        have hc := HC.out
        rw [hd] at hc
        have hc : (if recOk x = 0 then recsC ((l.map (·.1)).drop (k + 1)) else recOk x) = tot := hc
        have XL := Lib.hid (sum_hdrs XF.out.2.2)
        obtain ⟨ec0, ec1, ec2, ec3, ec4, ec5, ec6, ef0, ef1, ef2, ef3, ef4, ef5, ef6⟩ := raw7 (b := wE) (H.out)
        obtain ⟨x0, x1, x2, x3, x4, x5, x6, x7, x8, x9, x10, x11, y0, y1, y2, y3, y4, y5, y6, y7, y8, y9, y10, y11⟩ := raw12 (b := hb) (H.out.p1)
        clear hd
        by_cases c1 : recOk x = 0
        · rw [if_pos c1] at hc
          have HC2 := Lib.hid hc
          have ER := Lib.hid c1
          clear hc c1
          go_wp2_with (go_at_call 79; (with_reducible refine (rec_right x (.slice qx x.hdrs.length capx) _ ER.out XL.out XK.out H.out).mono ?_); rintro e_ wn ⟨rfl, h⟩; replace H := Lib.hid h; clear h; obtain ⟨ec0, ec1, ec2, ec3, ec4, ec5, ec6, ef0, ef1, ef2, ef3, ef4, ef5, ef6⟩ := raw7 (b := wE) (H.out); obtain ⟨x0, x1, x2, x3, x4, x5, x6, x7, x8, x9, x10, x11, y0, y1, y2, y3, y4, y5, y6, y7, y8, y9, y10, y11⟩ := raw12 (b := hb) (H.out.p1))
          go_roundw
          case rel => exact ⟨k + 1, hlt, by go_num, HC2.out, H.out.drop⟩
          case measure => first | (simp [intOf]; done) | (simp [intOf]; omega)
        · rw [if_neg c1] at hc
          have ER := Lib.hid hc
          have gz : (tot == 0) = false := by rw [beq_eq_false_iff_ne, ← hc]; exact c1
          obtain rfl : tot = e := HTE.out (by rw [← hc]; exact c1)
          clear hc c1
          go_wp2_with (go_at_call 79; (with_reducible refine (rec_right x (.slice qx x.hdrs.length capx) _ ER.out XL.out XK.out H.out).mono ?_); rintro e_ wn ⟨rfl, h⟩; replace H := Lib.hid h; clear h; obtain ⟨ec0, ec1, ec2, ec3, ec4, ec5, ec6, ef0, ef1, ef2, ef3, ef4, ef5, ef6⟩ := raw7 (b := wE) (H.out); obtain ⟨x0, x1, x2, x3, x4, x5, x6, x7, x8, x9, x10, x11, y0, y1, y2, y3, y4, y5, y6, y7, y8, y9, y10, y11⟩ := raw12 (b := hb) (H.out.p1))
          go_ret
          exact ⟨rfl, H.out.drop.drop⟩
      · obtain rfl : l.length = k := by omega
        have hc := HC.out
        rw [List.drop_of_length_le (by simp)] at hc
        obtain rfl : 0 = tot := hc
        obtain ⟨x0, x1, x2, x3, x4, x5, x6, x7, x8, x9, x10, x11, y0, y1, y2, y3, y4, y5, y6, y7, y8, y9, y10, y11⟩ := raw12 (b := hb) (H.out)
        have HROW := Lib.hid (HTZ.out rfl)
        go_wp2_with (go_at_call 80; (with_reducible refine (bat_checkRows _ _ _ _ _ _ _ _ _ _ _ l _ _ _ HROW.out HFP.out HFT.out HLL.out HK.out H.out).mono ?_); rintro e_ wn ⟨rfl, h⟩; replace H := Lib.hid h; clear h)
        go_ret
        exact ⟨rfl, H.out.drop⟩

  | true =>
    cases txn with
    | false => exact absurd ⟨rfl, rfl⟩ c1
    | true =>
      clear c1
      by_cases c2 : l.length = 1
      · rw [if_neg (fun h => h.2 c2)] at he
        have HLEN := Lib.hid c2
        have bl : ((l.length : Int) == 1) = true := by rw [c2]; rfl
        have bl2 : ((l.length : Int) != 1) = false := by rw [c2]; rfl
        obtain ⟨tot, htot⟩ : ∃ t, recsC (l.map (·.1)) = t := ⟨_, rfl⟩
        rw [htot] at he
        have HTE := Lib.hid (show tot ≠ 0 → tot = e from fun h => by rw [if_pos h] at he; exact he)
        have HEN := Lib.hid (show ∀ (x : RecS) (h0 : 0 < l.length), (l[0]'h0).1 = x → ((ctlOf x).2.2 ≠ 0 → tot = 0 → (ctlOf x).2.2 = e) ∧ ((ctlOf x).2.2 = 0 → tot = 0 → BatS.rows ⟨base, leader, app, true, true, last, first, maxt, prod, epoch, sq, l.map (·.1)⟩ = e) from fun x h0 hx => by
          have hm : l.map (·.1) = x :: (l.map (·.1)).drop 1 := by have := drop_recs l 0 (by omega) x hx; simpa using this
          have hens : BatS.ends ⟨base, leader, app, true, true, last, first, maxt, prod, epoch, sq, l.map (·.1)⟩ = (ctlOf x).2.2 := by unfold BatS.ends; simp only; rw [hm]
          rw [hens] at he
          refine ⟨fun h h2 => ?_, fun h h2 => ?_⟩
          · rw [if_neg (fun y => y h2), if_pos ⟨rfl, h⟩] at he; exact he
          · rw [if_neg (fun y => y h2), if_neg (fun y => y.2 h)] at he; exact he)
        have HT := Lib.hid htot
        clear he htot c2
        go_enter Try.func53, Try.ntmps53
        go_wp2_with (first
            | (go_at_call 77; (with_reducible refine (bat_placed _ _ _ _ _ _ _ _ _ _ _ _ _ HP.out H.out).mono ?_); rintro e_ wn ⟨rfl, h⟩; replace H := Lib.hid h; clear h; obtain ⟨x0, x1, x2, x3, x4, x5, x6, x7, x8, x9, x10, x11, y0, y1, y2, y3, y4, y5, y6, y7, y8, y9, y10, y11⟩ := raw12 (b := hb) (H.out))
            | (go_at_call 78; (with_reducible refine (bat_signed _ _ _ _ _ _ _ _ _ _ _ _ _ HS.out H.out).mono ?_); rintro e_ wn ⟨rfl, h⟩; replace H := Lib.hid h; clear h; obtain ⟨x0, x1, x2, x3, x4, x5, x6, x7, x8, x9, x10, x11, y0, y1, y2, y3, y4, y5, y6, y7, y8, y9, y10, y11⟩ := raw12 (b := hb) (H.out)))
        go_loopw [4, 5, 33] (fun _ _ iv wr => ∃ k : Nat, k ≤ l.length ∧ iv = .int .i64 k ∧ Hid (recsC ((l.map (·.1)).drop k) = tot) ∧ St W0 wr K (.raw hb #[.int .i64 base, .int .i64 leader, .bool app, .bool true, .bool true, .int .i64 last, .int .i64 first, .int .i64 maxt, .int .i64 prod, .int .i64 epoch, .int .i64 sq, .slice q l.length cap] 32 :: L)) (fun _ _ iv _ => l.length - (intOf iv).toNat)
        case atStart => exact ⟨0, Nat.zero_le _, rfl, HT, H.out⟩
        case round =>
          clear x0 y0 x1 y1 x2 y2 x3 y3 x4 y4 x5 y5 x6 y6 x7 y7 x8 y8 x9 y9 x10 y10 x11 y11
          obtain ⟨k, hkl, rfl, HC, hst⟩ := hrel
          clear H
          have H := Lib.hid hst
          clear hst
          by_cases hlt : k < l.length
          · have hd := drop_recs l k hlt _ rfl
            obtain ⟨b, off, hqq⟩ := recs_at HK.out H.out (by omega)
            subst hqq
            obtain ⟨⟨x, vx⟩, hx⟩ : ∃ x, l[k] = x := ⟨_, rfl⟩
            have cc := recs_cell HK.out H.out k hlt (x, vx) hx
            have hmem : (x, vx) ∈ l := hx ▸ List.getElem_mem hlt
            have xf : x.R ∧ HFit x.hdrs ∧ x.sum ≤ 1000000 := HFT.out (x, vx) hmem
            have xk : K.has (Know.flat RHdr vx 3 x.hdrs) := recs_hdrs HK.out hmem
            obtain ⟨qx, capx, hvx⟩ := flat_form xk H.out
            subst hvx
            simp only at cc
            obtain ⟨c0, c1, c2, c3, c4, c5, c6⟩ := cc
            rw [← Nat.add_assoc] at c1 c2 c3 c4 c5 c6
            have hx1 : l[k].1 = x := by rw [hx]
            have XF := Lib.hid xf
            have XK := Lib.hid xk
            have HX := Lib.hid hx1
            clear xf xk hx1 hx hmem
            obtain ⟨wE, hwE⟩ : ∃ b, wr.heap.size = b := ⟨_, rfl⟩
            have hki : (k : Int) < (l.length : Int) := by omega
            have h := H.out.allocRaw #[.int .i64 x.time, .int .i64 x.off, .bool x.key.null, .string (bb x.key.data), .bool x.val.null, .string (bb x.val.data), .slice qx x.hdrs.length capx] 64
            rw [hwE] at h
            clear H
            have H := Lib.hid h
            clear h
            rw [HX.out] at hd
            have hc := HC.out
            rw [hd] at hc
            have hc : (if recOk x = 0 then recsC ((l.map (·.1)).drop (k + 1)) else recOk x) = tot := hc
            have XL := Lib.hid (sum_hdrs XF.out.2.2)
            obtain ⟨ec0, ec1, ec2, ec3, ec4, ec5, ec6, ef0, ef1, ef2, ef3, ef4, ef5, ef6⟩ := raw7 (b := wE) (H.out)
            obtain ⟨x0, x1, x2, x3, x4, x5, x6, x7, x8, x9, x10, x11, y0, y1, y2, y3, y4, y5, y6, y7, y8, y9, y10, y11⟩ := raw12 (b := hb) (H.out.p1)
            clear hd
            by_cases c1 : recOk x = 0
            · rw [if_pos c1] at hc
              have HC2 := Lib.hid hc
              have ER := Lib.hid c1
              clear hc c1
              go_wp2_with (go_at_call 79; (with_reducible refine (rec_right x (.slice qx x.hdrs.length capx) _ ER.out XL.out XK.out H.out).mono ?_); rintro e_ wn ⟨rfl, h⟩; replace H := Lib.hid h; clear h; obtain ⟨ec0, ec1, ec2, ec3, ec4, ec5, ec6, ef0, ef1, ef2, ef3, ef4, ef5, ef6⟩ := raw7 (b := wE) (H.out); obtain ⟨x0, x1, x2, x3, x4, x5, x6, x7, x8, x9, x10, x11, y0, y1, y2, y3, y4, y5, y6, y7, y8, y9, y10, y11⟩ := raw12 (b := hb) (H.out.p1))
              go_roundw
              case rel => exact ⟨k + 1, hlt, by go_num, HC2.out, H.out.drop⟩
              case measure => first | (simp [intOf]; done) | (simp [intOf]; omega)
            · rw [if_neg c1] at hc
              have ER := Lib.hid hc
              have gz : (tot == 0) = false := by rw [beq_eq_false_iff_ne, ← hc]; exact c1
              obtain rfl : tot = e := HTE.out (by rw [← hc]; exact c1)
              clear hc c1
              go_wp2_with (go_at_call 79; (with_reducible refine (rec_right x (.slice qx x.hdrs.length capx) _ ER.out XL.out XK.out H.out).mono ?_); rintro e_ wn ⟨rfl, h⟩; replace H := Lib.hid h; clear h; obtain ⟨ec0, ec1, ec2, ec3, ec4, ec5, ec6, ef0, ef1, ef2, ef3, ef4, ef5, ef6⟩ := raw7 (b := wE) (H.out); obtain ⟨x0, x1, x2, x3, x4, x5, x6, x7, x8, x9, x10, x11, y0, y1, y2, y3, y4, y5, y6, y7, y8, y9, y10, y11⟩ := raw12 (b := hb) (H.out.p1))
              go_ret
              exact ⟨rfl, H.out.drop.drop⟩
          · obtain rfl : l.length = k := by omega
            have hc := HC.out
            rw [List.drop_of_length_le (by simp)] at hc
            obtain rfl : 0 = tot := hc
            obtain ⟨x0, x1, x2, x3, x4, x5, x6, x7, x8, x9, x10, x11, y0, y1, y2, y3, y4, y5, y6, y7, y8, y9, y10, y11⟩ := raw12 (b := hb) (H.out)
            obtain ⟨b, off, hqq⟩ := recs_at HK.out H.out (by rw [HLEN.out]; decide)
            subst hqq
            obtain ⟨⟨x, vx⟩, hx⟩ : ∃ x, l[0]'(by rw [HLEN.out]; decide) = x := ⟨_, rfl⟩
            have cc := recs_cell HK.out H.out 0 (by rw [HLEN.out]; decide) (x, vx) hx
            have hmem : (x, vx) ∈ l := hx ▸ List.getElem_mem _
            have xf : x.R ∧ HFit x.hdrs ∧ x.sum ≤ 1000000 := HFT.out (x, vx) hmem
            have xk : K.has (Know.flat RHdr vx 3 x.hdrs) := recs_hdrs HK.out hmem
            obtain ⟨qx, capx, hvx⟩ := flat_form xk H.out
            subst hvx
            simp only [Nat.zero_mul, Nat.zero_add, Nat.add_zero] at cc
            obtain ⟨c0, c1, c2, c3, c4, c5, c6⟩ := cc
            have XD := Lib.hid (sum_data xf.2.2)
            have hl0 : (0 : Int) < (l.length : Int) := by have := HLEN.out; omega
            obtain ⟨⟨i1, i2, i3⟩, hi⟩ : ∃ r, ctlOf x = r := ⟨_, rfl⟩
            have EC := Lib.hid (show ctlRead x.key.null x.val.null x.key.data x.val.data x.hdrs.length x.off = (i1, i2, i3) from hi)
            have hen := HEN.out x (by rw [HLEN.out]; decide) (by rw [hx])
            rw [hi] at hen
            clear hx hmem xf xk hi
            by_cases c9 : i3 = 0
            · subst c9
              have HROW := Lib.hid (hen.2 rfl rfl)
              clear hen
              go_wp2_with (first
            | (go_at_call 66; (with_reducible refine (ctl_read x.time x.off x.key.null x.val.null x.key.data x.val.data qx x.hdrs.length capx (i1, i2, _) EC.out XD.out.1 XD.out.2 H.out).mono ?_); rintro e_ wn ⟨rfl, h⟩; replace H := Lib.hid h; clear h; obtain ⟨x0, x1, x2, x3, x4, x5, x6, x7, x8, x9, x10, x11, y0, y1, y2, y3, y4, y5, y6, y7, y8, y9, y10, y11⟩ := raw12 (b := hb) (H.out))
            | (go_at_call 80; (with_reducible refine (bat_checkRows _ _ _ _ _ _ _ _ _ _ _ l _ _ _ HROW.out HFP.out HFT.out HLL.out HK.out H.out).mono ?_); rintro e_ wn ⟨rfl, h⟩; replace H := Lib.hid h; clear h))
              go_ret
              exact ⟨rfl, H.out.drop⟩
            · have gz : (i3 == 0) = false := by rw [beq_eq_false_iff_ne]; exact c9
              obtain rfl : i3 = e := hen.1 c9 rfl
              clear hen c9
              go_wp2_with (go_at_call 66; (with_reducible refine (ctl_read x.time x.off x.key.null x.val.null x.key.data x.val.data qx x.hdrs.length capx (i1, i2, _) EC.out XD.out.1 XD.out.2 H.out).mono ?_); rintro e_ wn ⟨rfl, h⟩; replace H := Lib.hid h; clear h; obtain ⟨x0, x1, x2, x3, x4, x5, x6, x7, x8, x9, x10, x11, y0, y1, y2, y3, y4, y5, y6, y7, y8, y9, y10, y11⟩ := raw12 (b := hb) (H.out))
              go_ret
              exact ⟨rfl, H.out.drop⟩

      · rw [if_pos ⟨rfl, c2⟩] at he
        subst he
        have bl : ((l.length : Int) == 1) = false := by rw [beq_eq_false_iff_ne]; omega
        clear c2 hll
        go_enter Try.func53, Try.ntmps53
        go_wp2_with (first
    | (go_at_call 77; (with_reducible refine (bat_placed _ _ _ _ _ _ _ _ _ _ _ _ _ HP.out H.out).mono ?_); rintro e_ wn ⟨rfl, h⟩; replace H := Lib.hid h; clear h; obtain ⟨x0, x1, x2, x3, x4, x5, x6, x7, x8, x9, x10, x11, y0, y1, y2, y3, y4, y5, y6, y7, y8, y9, y10, y11⟩ := raw12 (b := hb) (H.out))
    | (go_at_call 78; (with_reducible refine (bat_signed _ _ _ _ _ _ _ _ _ _ _ _ _ HS.out H.out).mono ?_); rintro e_ wn ⟨rfl, h⟩; replace H := Lib.hid h; clear h; obtain ⟨x0, x1, x2, x3, x4, x5, x6, x7, x8, x9, x10, x11, y0, y1, y2, y3, y4, y5, y6, y7, y8, y9, y10, y11⟩ := raw12 (b := hb) (H.out)))
        go_ret
        exact ⟨rfl, H.out.drop⟩

end Go.Proofs.Ytcjgdlfcfcabiaa

/- Records of a batch, read. -/
namespace Go.Proofs.Ytcjgdlfcfcabiaa
open Go.RowKit

set_option maxHeartbeats 2000000 in
set_option maxRecDepth 100000 in
theorem bat_unpack_err (rows : Bs) (n : Nat) (hn : n ≤ 2147483647) (hsl : rows.length ≤ 140737488355328) (e : Int) (he0 : e ≠ 0) (hu : unp n ⟨rows, 0, 0⟩ = .error e) {W0 w : World} {K : Know} {L : List Res} (h : St W0 w K L) :
    Calls Try.prog 84 #[.string (bb rows), .int .i64 n] w fun en w' => en = .returned (.tuple #[.slice none 0 0, .int .i64 e]) ∧ St W0 w' K L := by
  obtain ⟨tot, htot⟩ : ∃ t, unp n ⟨rows, 0, 0⟩ = t := ⟨_, rfl⟩
  have HTT := Lib.hid (htot.symm.trans hu)
  have HT := Lib.hid (show preU [] (unp (n - 0) ⟨rows, 0, 0⟩) = tot by rw [preU_nil]; exact htot)
  have HSL := Lib.hid hsl
  have HNB := Lib.hid hn
  have H := Lib.hid h
  clear h hu htot hsl hn he0
  go_enter Try.func84, Try.ntmps84
  go_wp2_with (go_at_call 22; (with_reducible refine (s_new rows HSL.out H.out).mono ?_); rintro e_ wn ⟨bi, rfl, h⟩; replace H := Lib.hid h; clear h)
  go_loopw [7, 11] (fun lv iv wr => ∃ (k : Nat) (acc : List (RecS × Value)) (i2 : InS) (K2 : Know), k ≤ n ∧ iv = .int .i64 k ∧ acc.length = k ∧ Hid (preU (acc.map (·.1)) (unp (n - k) i2) = tot) ∧ Hid (K2.has K) ∧ Hid (∀ x ∈ acc, K2.has (Know.flat RHdr x.2 3 x.1.hdrs)) ∧ St W0 wr K2 (.row lv 64 7 acc.length (acc.flatMap rcells) :: .inp bi i2 :: L)) (fun _ iv _ => n - (intOf iv).toNat)
  case atStart => exact ⟨0, [], _, K, Nat.zero_le _, rfl, rfl, HT, Lib.hid (Know.has_refl _), Lib.hid (fun x h => by cases h), H.out.nilRow 64 7⟩
  case round =>
    obtain ⟨k, acc, i2, K2, hk, rfl, hacc, HC, HK2, HALL, hst⟩ := hrel
    have HACC := Lib.hid hacc
    have HKB := Lib.hid (show k ≤ 2147483647 by have := HNB.out; omega)
    clear H hacc
    have H := Lib.hid hst
    clear hst
    obtain ⟨lf, hlf⟩ : ∃ m, i2.left = m := ⟨_, rfl⟩
    have HLF := Lib.hid hlf
    by_cases hlt : k < n
    · have hc := HC.out
      rw [show n - k = (n - (k + 1)) + 1 by omega] at hc
      have hc : preU (acc.map (·.1)) (if i2.left = 0 then .error 10 else if i2.record.2.err = 0 then consE i2.record.1 (unp (n - (k + 1)) i2.record.2) else .error i2.record.2.err) = tot := hc
      have hki : (k : Int) < (n : Int) := by omega
      have hnb : (n : Int) ≤ 2147483647 := by have := HNB.out; omega
      rw [hlf] at hc
      by_cases c1 : lf = 0
      · rw [if_pos c1] at hc
        have hc2 : Except.error 10 = tot := hc
        have hc3 := hc2.trans HTT.out
        obtain rfl : 10 = e := by injection hc3
        subst c1
        clear hc hc2 hc3 hlf
        go_wp2_with (go_at_call 47; (with_reducible refine (s_leftQ bi i2 _ HLF.out H.out.p1).mono ?_); rintro e_ wn ⟨rfl, h⟩; replace H := Lib.hid h; clear h; replace H := Lib.hid H.out.p1)
        go_ret2
        exact ⟨rfl, H.out.drop.drop.know HK2.out⟩
      · rw [if_neg c1] at hc
        obtain ⟨⟨x, i3⟩, hx⟩ : ∃ r, i2.record = r := ⟨_, rfl⟩
        have HRD := Lib.hid hx
        rw [hx] at hc
        simp only at hc
        have bl : ((lf : Int) == 0) = false := by rw [beq_eq_false_iff_ne]; omega
        have bl2 : ¬ (lf = 0) := c1
        by_cases c2 : i3.err = 0
        · rw [if_pos c2, ← preU_snoc] at hc
          have HER := Lib.hid c2
          have HC2 := Lib.hid hc
          clear hc hx c1 c2 hlf
          go_wp2_with (first
    | (go_at_call 47; (with_reducible refine (s_leftQ bi i2 _ HLF.out H.out.p1).mono ?_); rintro e_ wn ⟨rfl, h⟩; replace H := Lib.hid h; clear h; replace H := Lib.hid H.out.p1)
    | (go_at_call 97; (with_reducible refine (rec_readQ bi i2 x i3 HRD.out H.out.p1).mono ?_); rintro e_ wn ⟨v1, rfl, h⟩; obtain ⟨q1, c1, hv1⟩ := flat_form (Know.has_right (Know.has_refl _)) h; subst hv1; replace H := Lib.hid h; clear h; replace H := Lib.hid H.out.p1)
    | (at_builtin; refine wpl_app1_st rfl _ _ 30 rfl 64 Try.underlying30 elem_rec _ _ _ rfl H.out [.int .i64 x.time, .int .i64 x.off, .bool x.key.null, .string (bb x.key.data), .bool x.val.null, .string (bb x.val.data), .slice q1 x.hdrs.length c1] 64 rfl rfl (by simp [Value.oneCell']) (by have := HACC.out; have := HKB.out; unfold maxLen; omega) (by have := HACC.out; have := HKB.out; omega) ?_; intro v' w' h; replace H := Lib.hid h; clear h)
    | (go_at_call 24; (with_reducible refine (s_errE bi i3 _ HER.out H.out.p1).mono ?_); rintro e_ wn ⟨rfl, h⟩; replace H := Lib.hid h; clear h; replace H := Lib.hid H.out.p1))
          go_roundw
          case rel => exact ⟨k + 1, acc ++ [(x, .slice q1 x.hdrs.length c1)], i3, K2.and (Know.flat RHdr (.slice q1 x.hdrs.length c1) 3 x.hdrs), hlt, by go_num, by rw [List.length_append, HACC.out]; rfl, Lib.hid (by rw [List.map_append]; exact HC2.out), Lib.hid (Know.has_trans (Know.has_left (Know.has_refl _)) HK2.out), Lib.hid (fun y hy => by
            rcases List.mem_append.1 hy with hy | hy
            · exact Know.has_trans (Know.has_left (Know.has_refl _)) (HALL.out y hy)
            · rw [List.mem_singleton.1 hy]; exact Know.has_right (Know.has_refl _)), by rw [List.length_append, List.flatMap_append]; simpa [rcells] using H.out⟩
          case measure => first | (simp [intOf]; done) | (simp [intOf]; omega)
        · rw [if_neg c2] at hc
          have hc2 : Except.error i3.err = tot := hc
          have hc3 := hc2.trans HTT.out
          have HER := Lib.hid (show i3.err = e by injection hc3)
          have gz : (e == 0) = false := by rw [beq_eq_false_iff_ne, ← HER.out]; exact c2
          clear hc hx c1 c2 hlf hc2 hc3
          go_wp2_with (first
    | (go_at_call 47; (with_reducible refine (s_leftQ bi i2 _ HLF.out H.out.p1).mono ?_); rintro e_ wn ⟨rfl, h⟩; replace H := Lib.hid h; clear h; replace H := Lib.hid H.out.p1)
    | (go_at_call 97; (with_reducible refine (rec_readQ bi i2 x i3 HRD.out H.out.p1).mono ?_); rintro e_ wn ⟨v1, rfl, h⟩; obtain ⟨q1, c1, hv1⟩ := flat_form (Know.has_right (Know.has_refl _)) h; subst hv1; replace H := Lib.hid h; clear h; replace H := Lib.hid H.out.p1)
    | (at_builtin; refine wpl_app1_st rfl _ _ 30 rfl 64 Try.underlying30 elem_rec _ _ _ rfl H.out [.int .i64 x.time, .int .i64 x.off, .bool x.key.null, .string (bb x.key.data), .bool x.val.null, .string (bb x.val.data), .slice q1 x.hdrs.length c1] 64 rfl rfl (by simp [Value.oneCell']) (by have := HACC.out; have := HKB.out; unfold maxLen; omega) (by have := HACC.out; have := HKB.out; omega) ?_; intro v' w' h; replace H := Lib.hid h; clear h)
    | (go_at_call 24; (with_reducible refine (s_errE bi i3 _ HER.out H.out.p1).mono ?_); rintro e_ wn ⟨rfl, h⟩; replace H := Lib.hid h; clear h; replace H := Lib.hid H.out.p1))
          go_ret2
          exact ⟨rfl, H.out.drop.drop.know (Know.has_trans (Know.has_left (Know.has_refl _)) HK2.out)⟩
    · obtain rfl : n = k := by omega
      have hc := HC.out
      rw [Nat.sub_self] at hc
      have hc : preU (acc.map (·.1)) (if i2.left = 0 then .ok [] else .error 10) = tot := hc
      rw [hlf] at hc
      by_cases c1 : lf = 0
      · rw [if_pos c1] at hc
        have hc2 : Except.ok (acc.map (·.1) ++ []) = tot := hc
        have hc3 := hc2.trans HTT.out
        cases hc3
      · rw [if_neg c1] at hc
        have hc2 : Except.error 10 = tot := hc
        have hc3 := hc2.trans HTT.out
        obtain rfl : 10 = e := by injection hc3
        have bl : decide ((0 : Int) < (lf : Int)) = true := decide_eq_true (by omega)
        have bl2 : decide (0 < lf) = true := decide_eq_true (by omega)
        clear hc hc2 hc3 hlf c1
        go_wp2_with (go_at_call 47; (with_reducible refine (s_leftQ bi i2 _ HLF.out H.out.p1).mono ?_); rintro e_ wn ⟨rfl, h⟩; replace H := Lib.hid h; clear h; replace H := Lib.hid H.out.p1)
        go_ret2
        exact ⟨rfl, H.out.drop.drop.know HK2.out⟩

set_option maxHeartbeats 2000000 in
set_option maxRecDepth 100000 in
theorem bat_unpack_ok (rows : Bs) (n : Nat) (hn : n ≤ 2147483647) (hsl : rows.length ≤ 140737488355328) (rs : List RecS) (hu : unp n ⟨rows, 0, 0⟩ = .ok rs) {W0 w : World} {K : Know} {L : List Res} (h : St W0 w K L) :
    Calls Try.prog 84 #[.string (bb rows), .int .i64 n] w fun en w' => ∃ (v : Value) (l : List (RecS × Value)), en = .returned (.tuple #[v, .int .i64 0]) ∧ l.map (·.1) = rs ∧ St W0 w' (K.and (Know.recs v l)) L := by
  obtain ⟨tot, htot⟩ : ∃ t, unp n ⟨rows, 0, 0⟩ = t := ⟨_, rfl⟩
  have HTT := Lib.hid (htot.symm.trans hu)
  have HT := Lib.hid (show preU [] (unp (n - 0) ⟨rows, 0, 0⟩) = tot by rw [preU_nil]; exact htot)
  have HSL := Lib.hid hsl
  have HNB := Lib.hid hn
  have H := Lib.hid h
  clear h hu htot hsl hn 
  go_enter Try.func84, Try.ntmps84
  go_wp2_with (go_at_call 22; (with_reducible refine (s_new rows HSL.out H.out).mono ?_); rintro e_ wn ⟨bi, rfl, h⟩; replace H := Lib.hid h; clear h)
  go_loopw [7, 11] (fun lv iv wr => ∃ (k : Nat) (acc : List (RecS × Value)) (i2 : InS) (K2 : Know), k ≤ n ∧ iv = .int .i64 k ∧ acc.length = k ∧ Hid (preU (acc.map (·.1)) (unp (n - k) i2) = tot) ∧ Hid (K2.has K) ∧ Hid (∀ x ∈ acc, K2.has (Know.flat RHdr x.2 3 x.1.hdrs)) ∧ St W0 wr K2 (.row lv 64 7 acc.length (acc.flatMap rcells) :: .inp bi i2 :: L)) (fun _ iv _ => n - (intOf iv).toNat)
  case atStart => exact ⟨0, [], _, K, Nat.zero_le _, rfl, rfl, HT, Lib.hid (Know.has_refl _), Lib.hid (fun x h => by cases h), H.out.nilRow 64 7⟩
  case round =>
    obtain ⟨k, acc, i2, K2, hk, rfl, hacc, HC, HK2, HALL, hst⟩ := hrel
    have HACC := Lib.hid hacc
    have HKB := Lib.hid (show k ≤ 2147483647 by have := HNB.out; omega)
    clear H hacc
    have H := Lib.hid hst
    clear hst
    obtain ⟨lf, hlf⟩ : ∃ m, i2.left = m := ⟨_, rfl⟩
    have HLF := Lib.hid hlf
    by_cases hlt : k < n
    · have hc := HC.out
      rw [show n - k = (n - (k + 1)) + 1 by omega] at hc
      have hc : preU (acc.map (·.1)) (if i2.left = 0 then .error 10 else if i2.record.2.err = 0 then consE i2.record.1 (unp (n - (k + 1)) i2.record.2) else .error i2.record.2.err) = tot := hc
      have hki : (k : Int) < (n : Int) := by omega
      have hnb : (n : Int) ≤ 2147483647 := by have := HNB.out; omega
      rw [hlf] at hc
      by_cases c1 : lf = 0
      · rw [if_pos c1] at hc
        have hc2 : Except.error 10 = tot := hc
        have hc3 := hc2.trans HTT.out
        cases hc3
      · rw [if_neg c1] at hc
        obtain ⟨⟨x, i3⟩, hx⟩ : ∃ r, i2.record = r := ⟨_, rfl⟩
        have HRD := Lib.hid hx
        rw [hx] at hc
        simp only at hc
        have bl : ((lf : Int) == 0) = false := by rw [beq_eq_false_iff_ne]; omega
        have bl2 : ¬ (lf = 0) := c1
        by_cases c2 : i3.err = 0
        · rw [if_pos c2, ← preU_snoc] at hc
          have HER := Lib.hid c2
          have HC2 := Lib.hid hc
          clear hc hx c1 c2 hlf
          go_wp2_with (first
    | (go_at_call 47; (with_reducible refine (s_leftQ bi i2 _ HLF.out H.out.p1).mono ?_); rintro e_ wn ⟨rfl, h⟩; replace H := Lib.hid h; clear h; replace H := Lib.hid H.out.p1)
    | (go_at_call 97; (with_reducible refine (rec_readQ bi i2 x i3 HRD.out H.out.p1).mono ?_); rintro e_ wn ⟨v1, rfl, h⟩; obtain ⟨q1, c1, hv1⟩ := flat_form (Know.has_right (Know.has_refl _)) h; subst hv1; replace H := Lib.hid h; clear h; replace H := Lib.hid H.out.p1)
    | (at_builtin; refine wpl_app1_st rfl _ _ 30 rfl 64 Try.underlying30 elem_rec _ _ _ rfl H.out [.int .i64 x.time, .int .i64 x.off, .bool x.key.null, .string (bb x.key.data), .bool x.val.null, .string (bb x.val.data), .slice q1 x.hdrs.length c1] 64 rfl rfl (by simp [Value.oneCell']) (by have := HACC.out; have := HKB.out; unfold maxLen; omega) (by have := HACC.out; have := HKB.out; omega) ?_; intro v' w' h; replace H := Lib.hid h; clear h)
    | (go_at_call 24; (with_reducible refine (s_errE bi i3 _ HER.out H.out.p1).mono ?_); rintro e_ wn ⟨rfl, h⟩; replace H := Lib.hid h; clear h; replace H := Lib.hid H.out.p1))
          go_roundw
          case rel => exact ⟨k + 1, acc ++ [(x, .slice q1 x.hdrs.length c1)], i3, K2.and (Know.flat RHdr (.slice q1 x.hdrs.length c1) 3 x.hdrs), hlt, by go_num, by rw [List.length_append, HACC.out]; rfl, Lib.hid (by rw [List.map_append]; exact HC2.out), Lib.hid (Know.has_trans (Know.has_left (Know.has_refl _)) HK2.out), Lib.hid (fun y hy => by
            rcases List.mem_append.1 hy with hy | hy
            · exact Know.has_trans (Know.has_left (Know.has_refl _)) (HALL.out y hy)
            · rw [List.mem_singleton.1 hy]; exact Know.has_right (Know.has_refl _)), by rw [List.length_append, List.flatMap_append]; simpa [rcells] using H.out⟩
          case measure => first | (simp [intOf]; done) | (simp [intOf]; omega)
        · rw [if_neg c2] at hc
          have hc2 : Except.error i3.err = tot := hc
          have hc3 := hc2.trans HTT.out
          cases hc3
    · obtain rfl : n = k := by omega
      have hc := HC.out
      rw [Nat.sub_self] at hc
      have hc : preU (acc.map (·.1)) (if i2.left = 0 then .ok [] else .error 10) = tot := hc
      rw [hlf] at hc
      by_cases c1 : lf = 0
      · rw [if_pos c1] at hc
        have hc2 : Except.ok (acc.map (·.1) ++ []) = tot := hc
        have hc3 := hc2.trans HTT.out
        subst c1
        have HRS := Lib.hid (show acc.map (·.1) = rs by injection hc3 with h; rw [List.append_nil] at h; exact h)
        clear hc hc2 hc3 hlf
        go_wp2_with (go_at_call 47; (with_reducible refine (s_leftQ bi i2 _ HLF.out H.out.p1).mono ?_); rintro e_ wn ⟨rfl, h⟩; replace H := Lib.hid h; clear h; replace H := Lib.hid H.out.p1)
        go_ret2
        have hf := (H.out.freezeRow (R := RRec) (fun y _ => ⟨rfl, rfl⟩)).drop
        exact ⟨_, acc, rfl, HRS.out, hf.know (fun w F hh => ⟨HK2.out _ _ hh.1, hh.2, fun y hy => HALL.out y hy _ _ hh.1⟩)⟩
      · rw [if_neg c1] at hc
        have hc2 : Except.error 10 = tot := hc
        have hc3 := hc2.trans HTT.out
        cases hc3

end Go.Proofs.Ytcjgdlfcfcabiaa

/- Sums: remainders, bit by bit and byte by byte. -/
namespace Go.Proofs.Ytcjgdlfcfcabiaa
open Go.RowKit

abbrev W32 := BitVec 32
def cP : W32 := 0x82F63B78#32
def b2w (b : Bool) : W32 := if b then 1#32 else 0#32
def step (r : W32) : W32 := (r >>> 1) ^^^ (if r.getLsbD 0 then cP else 0#32)
def stepN : Nat → W32 → W32
  | 0, r => r
  | n + 1, r => stepN n (step r)

theorem xlc (a b c : W32) : a ^^^ (b ^^^ c) = b ^^^ (a ^^^ c) := by rw [← BitVec.xor_assoc, BitVec.xor_comm a b, BitVec.xor_assoc]
theorem xcan (a b : W32) : a ^^^ (a ^^^ b) = b := by rw [← BitVec.xor_assoc, BitVec.xor_self, BitVec.zero_xor]
theorem step_xor (a b : W32) : step (a ^^^ b) = step a ^^^ step b := by
  unfold step
  have e : (a ^^^ b) >>> 1 = (a >>> 1) ^^^ (b >>> 1) := by
    apply BitVec.eq_of_getLsbD_eq
    intro i hi
    simp
  rw [e, BitVec.getLsbD_xor]
  cases a.getLsbD 0 <;> cases b.getLsbD 0 <;> simp [BitVec.xor_assoc, BitVec.xor_comm, xlc, xcan]
theorem stepN_xor (n : Nat) (a b : W32) : stepN n (a ^^^ b) = stepN n a ^^^ stepN n b := by
  induction n generalizing a b with
  | zero => rfl
  | succ n ih => show stepN n (step (a ^^^ b)) = _; rw [step_xor, ih]; rfl
theorem step_zero : step 0#32 = 0#32 := by decide
theorem stepN_zero (n : Nat) : stepN n 0#32 = 0#32 := by
  induction n with
  | zero => rfl
  | succ n ih => show stepN n (step 0#32) = _; rw [step_zero, ih]
theorem stepN_add (n m : Nat) (r : W32) : stepN (n + m) r = stepN m (stepN n r) := by
  induction n generalizing r with
  | zero => rw [Nat.zero_add]; rfl
  | succ n ih => rw [Nat.succ_add]; exact ih (step r)
theorem step_inj (r : W32) (h : step r = 0#32) : r = 0#32 := by
  have h31 : (step r).getLsbD 31 = r.getLsbD 0 := by
    unfold step
    rw [BitVec.getLsbD_xor]
    cases r.getLsbD 0 <;> simp [cP] <;> decide
  rw [h] at h31
  have h0 : r.getLsbD 0 = false := by rw [← h31]; decide
  unfold step at h
  rw [h0] at h
  apply BitVec.eq_of_getLsbD_eq
  intro i hi
  cases i with
  | zero => rw [h0]; simp
  | succ i =>
    have := congrArg (fun x => x.getLsbD i) h
    simp at this
    simp
    rw [Nat.add_comm]
    exact this
theorem stepN_inj (n : Nat) (r : W32) (h : stepN n r = 0#32) : r = 0#32 := by
  induction n generalizing r with
  | zero => exact h
  | succ n ih => exact step_inj r (ih (step r) h)
theorem step_shl (x : W32) (h : x.getLsbD 31 = false) : step (x <<< 1) = x := by
  unfold step
  have h0 : (x <<< 1).getLsbD 0 = false := by simp
  rw [h0]
  apply BitVec.eq_of_getLsbD_eq
  intro i hi
  by_cases h31 : i = 31
  · subst h31; simp; rw [← BitVec.getLsbD_eq_getElem]; exact h
  · have : 1 + i < 32 := by omega
    simp [this]
    rw [← BitVec.getLsbD_eq_getElem]

def feedBit (r : W32) (b : Bool) : W32 := step (r ^^^ b2w b)
def feed (r : W32) (l : List Bool) : W32 := l.foldl feedBit r
def word : List Bool → W32
  | [] => 0#32
  | b :: t => b2w b ^^^ (word t <<< 1)
theorem word_bit : ∀ (l : List Bool) (i : Nat), i < 32 → (word l).getLsbD i = l.getD i false
  | [], i, _ => by simp [word]
  | b :: t, 0, _ => by simp [word]; cases b <;> rfl
  | b :: t, i + 1, hi => by
    have ih := word_bit t i (by omega)
    have hb : (b2w b).getLsbD (i + 1) = false := by cases b <;> simp [b2w]
    simp only [word, BitVec.getLsbD_xor, hb, Bool.false_xor]
    have : (word t <<< 1).getLsbD (i + 1) = (word t).getLsbD i := by simp [hi]; rw [← BitVec.getLsbD_eq_getElem]
    rw [this, ih]
    simp
theorem feed_word : ∀ (l : List Bool) (r : W32), l.length ≤ 32 → feed r l = stepN l.length (r ^^^ word l)
  | [], r, _ => by simp [feed, word, stepN]
  | b :: t, r, h => by
    have hl : t.length ≤ 31 := by simpa using h
    have ht : (word t).getLsbD 31 = false := by
      rw [word_bit t 31 (by decide), List.getD_eq_getElem?_getD, List.getElem?_eq_none (by omega)]
      rfl
    have e : feed r (b :: t) = feed (step (r ^^^ b2w b)) t := rfl
    rw [e, feed_word t _ (by omega)]
    show _ = stepN t.length (step (r ^^^ word (b :: t)))
    rw [word, ← BitVec.xor_assoc, step_xor (r ^^^ b2w b), step_shl _ ht]
theorem feed_append (r : W32) (l m : List Bool) : feed r (l ++ m) = feed (feed r l) m := List.foldl_append
theorem feed_zeros (n : Nat) (r : W32) : feed r (List.replicate n false) = stepN n r := by
  induction n generalizing r with
  | zero => rfl
  | succ n ih =>
    rw [List.replicate_succ]
    show feed (feedBit r false) _ = _
    rw [ih]
    show _ = stepN n (step r)
    simp [feedBit, b2w]
theorem feed_zip : ∀ (l m : List Bool) (a b : W32), l.length = m.length → feed a l ^^^ feed b m = feed (a ^^^ b) (List.zipWith (· ^^ ·) l m)
  | [], [], a, b, _ => rfl
  | [], _ :: _, _, _, h => by simp at h
  | _ :: _, [], _, _, h => by simp at h
  | x :: l, y :: m, a, b, h => by
    show feed (feedBit a x) l ^^^ feed (feedBit b y) m = feed (feedBit (a ^^^ b) (x ^^ y)) (List.zipWith _ l m)
    rw [feed_zip l m _ _ (by simpa using h)]
    congr 1
    unfold feedBit
    rw [← step_xor]
    congr 1
    cases x <;> cases y <;> simp [b2w, BitVec.xor_assoc, BitVec.xor_comm, xlc, xcan]
theorem feed_burst (r : W32) (l m : List Bool) (first : Nat) (hl : l.length = m.length) (hd : ∀ i, (i < first ∨ first + 32 ≤ i) → l.getD i false = m.getD i false) (h : feed r l = feed r m) : l = m := by
  have hz := feed_zip l m r r hl
  rw [h, BitVec.xor_self, BitVec.xor_self] at hz
  generalize hD : List.zipWith (· ^^ ·) l m = d at hz
  have hdl : d.length = l.length := by rw [← hD]; simp; omega
  have hdi : ∀ i, d.getD i false = (l.getD i false ^^ m.getD i false) := by
    intro i
    rw [← hD]
    simp only [List.getD_eq_getElem?_getD, List.getElem?_zipWith]
    by_cases hi : i < l.length
    · rw [List.getElem?_eq_getElem hi, List.getElem?_eq_getElem (by omega)]; rfl
    · rw [List.getElem?_eq_none (by omega), List.getElem?_eq_none (by omega)]; rfl
  have hsplit : d = d.take first ++ ((d.drop first).take 32 ++ (d.drop first).drop 32) := by rw [List.take_append_drop, List.take_append_drop]
  have hA : d.take first = List.replicate (d.take first).length false := by
    apply List.ext_getElem (by simp)
    intro i h1 h2
    have h3 := hdi i
    rw [hd i (.inl (by simp at h1; omega)), Bool.xor_self] at h3
    simp only [List.getElem_take, List.getElem_replicate]
    rw [List.getD_eq_getElem?_getD, List.getElem?_eq_getElem (by simp at h1; omega)] at h3
    exact h3
  have hB : (d.drop first).drop 32 = List.replicate ((d.drop first).drop 32).length false := by
    apply List.ext_getElem (by simp)
    intro i h1 h2
    have h3 := hdi (first + 32 + i)
    rw [hd _ (.inr (by omega)), Bool.xor_self] at h3
    simp only [List.getElem_drop, List.getElem_replicate]
    rw [List.getD_eq_getElem?_getD, List.getElem?_eq_getElem (by simp at h1; omega)] at h3
    have e : first + (32 + i) = first + 32 + i := by omega
    simp only [e]
    exact h3
  rw [hsplit, feed_append, feed_append, hA, feed_zeros, stepN_zero, feed_word ((d.drop first).take 32) _ (by rw [List.length_take]; omega), BitVec.zero_xor, hB, feed_zeros, ← stepN_add] at hz
  have hw := stepN_inj _ _ hz.symm
  have hall : ∀ i, d.getD i false = false := by
    intro i
    by_cases h1 : i < first ∨ first + 32 ≤ i
    · rw [hdi i, hd i h1, Bool.xor_self]
    · have h2 := word_bit ((d.drop first).take 32) (i - first) (by omega)
      rw [hw] at h2
      rw [List.getD_eq_getElem?_getD, List.getElem?_take_of_lt (by omega), List.getElem?_drop, show first + (i - first) = i by omega, ← List.getD_eq_getElem?_getD] at h2
      rw [← h2]
      simp
  apply List.ext_getElem hl
  intro i h1 h2
  have h3 := hdi i
  rw [hall i, List.getD_eq_getElem?_getD, List.getD_eq_getElem?_getD, List.getElem?_eq_getElem h1, List.getElem?_eq_getElem h2] at h3
  simp at h3
  exact h3

def byteBits (c : UInt8) : List Bool := (List.range 8).map (fun i => c.toNat.testBit i)
def bitsOf (s : Bs) : List Bool := s.flatMap byteBits
def tab (n : Nat) : W32 := stepN 8 (BitVec.ofNat 32 n)
def byteStep (r : W32) (c : UInt8) : W32 := tab (r.toNat % 256 ^^^ c.toNat) ^^^ (r >>> 8)
theorem byteBits_word (c : UInt8) : word (byteBits c) = BitVec.ofNat 32 c.toNat := by
  apply BitVec.eq_of_getLsbD_eq
  intro i hi
  rw [word_bit _ _ hi, BitVec.getLsbD_ofNat]
  unfold byteBits
  by_cases h : i < 8
  · simp [List.getD_eq_getElem?_getD, h, hi]
  · have : c.toNat < 2 ^ i := Nat.lt_of_lt_of_le c.toNat_lt (Nat.pow_le_pow_right (by decide) (by omega))
    rw [List.getD_eq_getElem?_getD, List.getElem?_eq_none (by simp; omega), Nat.testBit_lt_two_pow this]
    simp
theorem shl_stepN : ∀ (n : Nat) (x : W32), n ≤ 32 → (∀ i, 32 - n ≤ i → x.getLsbD i = false) → stepN n (x <<< n) = x
  | 0, x, _, _ => by simp [stepN]
  | n + 1, x, hn, h => by
    show stepN n (step (x <<< (n + 1))) = x
    have e : x <<< (n + 1) = (x <<< n) <<< 1 := by rw [BitVec.shiftLeft_add]
    rw [e, step_shl]
    · exact shl_stepN n x (by omega) (fun i hi => h i (by omega))
    · rw [BitVec.getLsbD_shiftLeft, h (31 - n) (by omega)]
      simp
theorem byteStep_eq (r : W32) (c : UInt8) : byteStep r c = stepN 8 (r ^^^ BitVec.ofNat 32 c.toNat) := by
  have h1 : r ^^^ BitVec.ofNat 32 c.toNat = BitVec.ofNat 32 (r.toNat % 256 ^^^ c.toNat) ^^^ ((r >>> 8) <<< 8) := by
    apply BitVec.eq_of_getLsbD_eq
    intro i hi
    have hm : (r.toNat % 256).testBit i = (decide (i < 8) && r.toNat.testBit i) := by rw [show (256 : Nat) = 2 ^ 8 from rfl, Nat.testBit_mod_two_pow]
    simp only [BitVec.getLsbD_xor, BitVec.getLsbD_ofNat, Nat.testBit_xor, hm, BitVec.getLsbD_shiftLeft, BitVec.getLsbD_ushiftRight, hi, decide_true, Bool.true_and]
    by_cases h : i < 8
    · simp [h]; rfl
    · have h8 : 8 + (i - 8) = i := by omega
      have : c.toNat < 2 ^ i := Nat.lt_of_lt_of_le c.toNat_lt (Nat.pow_le_pow_right (by decide) (by omega))
      simp [h, h8, Nat.testBit_lt_two_pow this]
  rw [h1, stepN_xor, shl_stepN 8 (r >>> 8) (by decide) (by intro i hi; rw [BitVec.getLsbD_ushiftRight]; exact BitVec.getLsbD_of_ge _ _ (by omega))]
  rfl
theorem byteStep_feed (r : W32) (c : UInt8) : byteStep r c = feed r (byteBits c) := by
  rw [feed_word _ _ (by simp [byteBits]), byteStep_eq, byteBits_word]
  simp [byteBits]
def crcRaw (r : W32) (s : Bs) : W32 := s.foldl byteStep r
theorem crcRaw_feed (r : W32) (s : Bs) : crcRaw r s = feed r (bitsOf s) := by
  induction s generalizing r with
  | nil => rfl
  | cons c t ih =>
    show crcRaw (byteStep r c) t = _
    rw [ih, byteStep_feed]
    show _ = feed r (byteBits c ++ bitsOf t)
    rw [feed_append]
theorem crcRaw_append (r : W32) (a b : Bs) : crcRaw r (a ++ b) = crcRaw (crcRaw r a) b := List.foldl_append
/-- The sum of bytes behind others. -/
def crcMore (sum : W32) (s : Bs) : W32 := ~~~ (crcRaw (~~~ sum) s)
theorem crcMore_append (sum : W32) (a b : Bs) : crcMore sum (a ++ b) = crcMore (crcMore sum a) b := by
  unfold crcMore; rw [crcRaw_append, BitVec.not_not]
theorem crcMore_nil (sum : W32) : crcMore sum [] = sum := by unfold crcMore crcRaw; simp
def crcSum (s : Bs) : W32 := crcMore 0#32 s
theorem bitsOf_length (s : Bs) : (bitsOf s).length = 8 * s.length := by
  induction s with
  | nil => rfl
  | cons c t ih => simp only [bitsOf, List.flatMap_cons, List.length_append, List.length_cons] at ih ⊢; rw [ih]; simp [byteBits]; omega
theorem bitsOf_get (s : Bs) (i : Nat) : (bitsOf s).getD i false = ((s.getD (i / 8) 0).toNat.testBit (i % 8)) := by
  induction s generalizing i with
  | nil => simp [bitsOf]
  | cons c t ih =>
    have e : bitsOf (c :: t) = byteBits c ++ bitsOf t := rfl
    rw [e, List.getD_eq_getElem?_getD]
    have hl : (byteBits c).length = 8 := by simp [byteBits]
    by_cases h : i < 8
    · rw [List.getElem?_append_left (by omega)]
      have h0 : i / 8 = 0 := by omega
      have h1 : i % 8 = i := by omega
      rw [h0, h1]
      simp [byteBits, h]
    · rw [List.getElem?_append_right (by omega), hl, ← List.getD_eq_getElem?_getD, ih]
      obtain ⟨q, hq⟩ : ∃ q, i / 8 = q + 1 := ⟨i / 8 - 1, by omega⟩
      rw [show (i - 8) / 8 = q by omega, show (i - 8) % 8 = i % 8 by omega, hq]
      simp
theorem bitsOf_inj {a b : Bs} (h : bitsOf a = bitsOf b) : a = b := by
  have hl : a.length = b.length := by have := congrArg List.length h; rw [bitsOf_length, bitsOf_length] at this; omega
  apply List.ext_getElem hl
  intro i h1 h2
  apply UInt8.toNat_inj.1
  apply Nat.eq_of_testBit_eq
  intro j
  by_cases hj : j < 8
  · have h3 := bitsOf_get a (8 * i + j)
    have h4 := bitsOf_get b (8 * i + j)
    rw [h, h4] at h3
    rw [show (8 * i + j) / 8 = i by omega, show (8 * i + j) % 8 = j by omega, List.getD_eq_getElem?_getD, List.getD_eq_getElem?_getD, List.getElem?_eq_getElem h1, List.getElem?_eq_getElem h2] at h3
    exact h3.symm
  · rw [Nat.testBit_lt_two_pow (Nat.lt_of_lt_of_le a[i].toNat_lt (Nat.pow_le_pow_right (by decide) (by omega))), Nat.testBit_lt_two_pow (Nat.lt_of_lt_of_le b[i].toNat_lt (Nat.pow_le_pow_right (by decide) (by omega)))]
/-- Bytes that differ within 32 bits in a row have unlike sums. -/
theorem crc_burst (sum : W32) (a b : Bs) (first : Nat) (hl : a.length = b.length) (hd : ∀ i, (i < first ∨ first + 32 ≤ i) → (bitsOf a).getD i false = (bitsOf b).getD i false) (h : crcMore sum a = crcMore sum b) : a = b := by
  unfold crcMore at h
  have h2 := congrArg (~~~ ·) h
  simp only [BitVec.not_not, crcRaw_feed] at h2
  exact bitsOf_inj (feed_burst _ _ _ first (by rw [bitsOf_length, bitsOf_length, hl]) hd h2)

end Go.Proofs.Ytcjgdlfcfcabiaa
