/- A text. -/
import Derived.Test.YtnnnglklgofabaaGProduceBatches1
import Derived.Test.YtnnnglklgofabaaGProduceBatches2
import Derived.RegionTactic
import Derived.Deep.DeepCutAuto
import Derived.Deep.RegionHeld3
import Derived.Test.YtnnnglklgofabaaRec1
import Derived.Test.YtnnnglklgofabaaDec1P
import Derived.Test.YtnnnglklgofabaaRec6
import Derived.Test.YtnnnglklgofabaaBase
import Derived.Test.YtnnnglklgofabaaS1
import Derived.Deep.RegionWith
import Derived.Test.YtnnnglklgofabaaSep
import Derived.Deep.MidRow
/- A text. -/
namespace Go.Proofs.Ytnnnglklgofabaa
open Go.RowKit

set_option maxHeartbeats 1000000 in
set_option maxRecDepth 100000 in
theorem bat_checkRows (base leader : Int) (app txn ctl : Bool) (last first maxt prod epoch sq : Int) (l : List (RecS × Value)) (q : Option Addr) (cap : Nat) (e : Int) (he : BatS.rows ⟨base, leader, app, txn, ctl, last, first, maxt, prod, epoch, sq, l.map (·.1)⟩ = e) (hf : 0 ≤ first ∧ first ≤ 9223372036854775807) (hfit : FitB l) (hll : l.length ≤ 1000000) {W0 w : World} {K : Know} {L : List Res} (hk : K.has (Know.recs (.slice q l.length cap) l)) (h : St W0 w K L) :
  Calls Try.prog 55 #[.agg #[.int .i64 base, .int .i64 leader, .bool app, .bool txn, .bool ctl, .int .i64 last, .int .i64 first, .int .i64 maxt, .int .i64 prod, .int .i64 epoch, .int .i64 sq, .slice q l.length cap]] w fun en w' => en = .returned (.int .i64 e) ∧ St W0 w' K L := by
 obtain ⟨tot, htot⟩ : ∃ t, rowsC first last (l.map (·.1)) (-1) first = t := ⟨_, rfl⟩
 have HE := Lib.hid (show rowsE app maxt tot = e by rw [← he, ← htot]; rfl)
 have HT := Lib.hid htot
 have HK := Lib.hid hk
 have HFT := Lib.hid hfit
 have HF := Lib.hid hf
 obtain ⟨nf, hnf⟩ : ∃ m, -first = m := ⟨_, rfl⟩
 obtain ⟨mf, hmf⟩ : ∃ m, 9223372036854775807 - first = m := ⟨_, rfl⟩
 have HNF := Lib.hid hnf
 have HMF := Lib.hid hmf
 have n1 : wrap64 (-first) = nf := by rw [← hnf]; unfold wrap64; omega
 have n2 : IntKind.i64.wrap (-first) = nf := by rw [← hnf]; exact IntWalk.i64_in _ (by omega)
 have m1 : wrap64 (9223372036854775807 - first) = mf := by rw [← hmf]; unfold wrap64; omega
 have m2 : IntKind.i64.wrap (9223372036854775807 - first) = mf := by rw [← hmf]; exact IntWalk.i64_in _ (by omega)
 have h1 := h.allocRaw #[.int .i64 base, .int .i64 leader, .bool app, .bool txn, .bool ctl, .int .i64 last, .int .i64 first, .int .i64 maxt, .int .i64 prod, .int .i64 epoch, .int .i64 sq, .slice q l.length cap] 39
 obtain ⟨hb, hhb⟩ : ∃ b, w.heap.size = b := ⟨_, rfl⟩
 rw [hhb] at h1
 obtain ⟨x0, x1, x2, x3, x4, x5, x6, x7, x8, x9, x10, x11, y0, y1, y2, y3, y4, y5, y6, y7, y8, y9, y10, y11⟩ := raw12 (b := hb) (h1)
 have H := Lib.hid h1
 clear h h1 hk hfit he htot hnf hmf hf
 go_enter Try.func55, Try.ntmps55
 go_upto_region 1 with (fail)
 have hs := H.out.drew
 clear H
 have H := Lib.hid hs
 clear hs
 go_region
 clear x0 y0 x1 y1 x2 y2 x3 y3 x4 y4 x5 y5 x6 y6 x7 y7 x8 y8 x9 y9 x10 y10 x11 y11
 obtain ⟨x0, x1, x2, x3, x4, x5, x6, x7, x8, x9, x10, x11, y0, y1, y2, y3, y4, y5, y6, y7, y8, y9, y10, y11⟩ := raw12 (b := hb) (H.out)
 go_wp2
 clear x0 y0 x1 y1 x2 y2 x3 y3 x4 y4 x5 y5 x6 y6 x7 y7 x8 y8 x9 y9 x10 y10 x11 y11
 go_loopw [3, 4, 6, 12] (fun av gv _ iv wr => ∃ (k : Nat) (ah g : Int), k ≤ l.length ∧ av = .int .i64 ah ∧ gv = .int .i64 g ∧ iv = .int .i64 k ∧ Hid (rowsC first last ((l.map (·.1)).drop k) ah g = tot) ∧ St W0 wr K (.raw hb #[.int .i64 base, .int .i64 leader, .bool app, .bool txn, .bool ctl, .int .i64 last, .int .i64 first, .int .i64 maxt, .int .i64 prod, .int .i64 epoch, .int .i64 sq, .slice q l.length cap] 39 :: L)) (fun _ _ _ iv _ => l.length - (intOf iv).toNat)
 case atStart => exact ⟨0, -1, first, Nat.zero_le _, rfl, rfl, rfl, HT, H.out⟩
 case round =>
  obtain ⟨k, ah, g, hkl, rfl, rfl, rfl, HC, hst⟩ := hrel
  clear H
  have H := Lib.hid hst
  clear hst
  by_cases hlt : k < l.length
  · have hd := drop_recs l k hlt _ rfl
    obtain ⟨b, off, hqq⟩ := recs_at HK.out H.out (by omega)
    subst hqq
    obtain ⟨⟨x, vx⟩, hx⟩ : ∃ x, l[k] = x := ⟨_, rfl⟩
    have cc := recs_cell HK.out H.out k hlt (x, vx) hx
    have hmem : (x, vx) ∈ l := hx ▸ List.getElem_mem hlt
    have xf : x.R ∧ HFit x.hdrs ∧ x.sum ≤ 1000000 := HFT.out (x, vx) hmem
    have xk : K.has (Know.flat RHdr vx 3 x.hdrs) := recs_hdrs HK.out hmem
    obtain ⟨qx, capx, hvx⟩ := flat_form xk H.out
    subst hvx
    simp only at cc
    obtain ⟨c0, c1, c2, c3, c4, c5, c6⟩ := cc
    rw [← Nat.add_assoc] at c1 c2 c3 c4 c5 c6
    have hx1 : l[k].1 = x := by rw [hx]
    have XF := Lib.hid xf
    have XK := Lib.hid xk
    have HX := Lib.hid hx1
    clear xf xk hx1 hx hmem
    obtain ⟨wE, hwE⟩ : ∃ b, wr.heap.size = b := ⟨_, rfl⟩
    have hki : (k : Int) < (l.length : Int) := by omega
    have h := H.out.allocRaw #[.int .i64 x.time, .int .i64 x.off, .bool x.key.null, .string (bb x.key.data), .bool x.val.null, .string (bb x.val.data), .slice qx x.hdrs.length capx] 81
    rw [hwE] at h
    clear H
    have H := Lib.hid h
    clear h
    rw [HX.out] at hd
    have hc := HC.out
    rw [hd, rowsC_cons] at hc
    obtain ⟨ec0, ec1, ec2, ec3, ec4, ec5, ec6, ef0, ef1, ef2, ef3, ef4, ef5, ef6⟩ := raw7 (b := wE) (H.out)
    obtain ⟨x0, x1, x2, x3, x4, x5, x6, x7, x8, x9, x10, x11, y0, y1, y2, y3, y4, y5, y6, y7, y8, y9, y10, y11⟩ := raw12 (b := hb) (H.out.p1)
    clear hd
    by_cases c1 : x.off ≤ ah
    · have d1 : decide (x.off ≤ ah) = true := decide_eq_true c1
      rw [if_pos (.inl c1)] at hc
      obtain rfl : 13 = e := by have := HE.out; rw [← hc] at this; exact this
      clear c1 hc
      go_wp2
      go_ret
      exact ⟨rfl, H.out.drop.drop⟩
    · have d1 : decide (x.off ≤ ah) = false := decide_eq_false c1
      by_cases c2 : last < x.off
      · have d2 : decide (last < x.off) = true := decide_eq_true c2
        rw [if_pos (.inr c2)] at hc
        obtain rfl : 13 = e := by have := HE.out; rw [← hc] at this; exact this
        clear c1 c2 hc
        go_wp2
        go_ret
        exact ⟨rfl, H.out.drop.drop⟩
      · have d2 : decide (last < x.off) = false := decide_eq_false c2
        rw [if_neg (by rintro (h | h); exact c1 h; exact c2 h)] at hc
        clear c1 c2
        by_cases c3 : x.time < -first ∨ 9223372036854775807 - first < x.time
        · rw [if_pos c3] at hc
          obtain rfl : 11 = e := by have := HE.out; rw [← hc] at this; exact this
          have HW := Lib.hid (show decide (nf ≤ x.time ∧ x.time ≤ mf) = false by
           rw [← HNF.out, ← HMF.out]
           exact decide_eq_false (by omega))
          clear c3 hc
          go_wp2_with (go_at_call 76; (with_reducible refine (bat_within x.time nf mf false HW.out H.out).mono ?_); rintro e_ wn ⟨rfl, h⟩; replace H := Lib.hid h; clear h; obtain ⟨ec0, ec1, ec2, ec3, ec4, ec5, ec6, ef0, ef1, ef2, ef3, ef4, ef5, ef6⟩ := raw7 (b := wE) (H.out); obtain ⟨x0, x1, x2, x3, x4, x5, x6, x7, x8, x9, x10, x11, y0, y1, y2, y3, y4, y5, y6, y7, y8, y9, y10, y11⟩ := raw12 (b := hb) (H.out.p1))
          go_ret
          exact ⟨rfl, H.out.drop.drop⟩
        · rw [if_neg c3] at hc
          have HW := Lib.hid (show decide (nf ≤ x.time ∧ x.time ≤ mf) = true by
           rw [← HNF.out, ← HMF.out]
           exact decide_eq_true (by omega))
          obtain ⟨ft, hft⟩ : ∃ t, first + x.time = t := ⟨_, rfl⟩
          have f1 : wrap64 (first + x.time) = ft := by have := HF.out; rw [← hft]; unfold wrap64; omega
          have f2 : IntKind.i64.wrap (first + x.time) = ft := by have := HF.out; rw [← hft]; exact IntWalk.i64_in _ (by omega)
          rw [hft] at hc
          have HC2 := Lib.hid hc
          have EM := Lib.hid (show max g ft = (if g < ft then ft else g) by rw [Int.max_def]; split <;> split <;> omega)
          clear c3 hc hft
          go_upto_region 9 with (go_at_call 76; (with_reducible refine (bat_within x.time nf mf true HW.out H.out).mono ?_); rintro e_ wn ⟨rfl, h⟩; replace H := Lib.hid h; clear h; obtain ⟨ec0, ec1, ec2, ec3, ec4, ec5, ec6, ef0, ef1, ef2, ef3, ef4, ef5, ef6⟩ := raw7 (b := wE) (H.out); obtain ⟨x0, x1, x2, x3, x4, x5, x6, x7, x8, x9, x10, x11, y0, y1, y2, y3, y4, y5, y6, y7, y8, y9, y10, y11⟩ := raw12 (b := hb) (H.out.p1))
          have hs := H.out.drew
          clear H
          have H := Lib.hid hs
          clear hs x0 y0 x1 y1 x2 y2 x3 y3 x4 y4 x5 y5 x6 y6 x7 y7 x8 y8 x9 y9 x10 y10 x11 y11 ec0 ef0 ec1 ef1 ec2 ef2 ec3 ef3 ec4 ef4 ec5 ef5 ec6 ef6
          obtain ⟨ec0, ec1, ec2, ec3, ec4, ec5, ec6, ef0, ef1, ef2, ef3, ef4, ef5, ef6⟩ := raw7 (b := wE) (H.out)
          obtain ⟨x0, x1, x2, x3, x4, x5, x6, x7, x8, x9, x10, x11, y0, y1, y2, y3, y4, y5, y6, y7, y8, y9, y10, y11⟩ := raw12 (b := hb) (H.out.p1)
          refine wp_region_held_drew (S := fun w' => w'.cell? ⟨wE, 0, none⟩ = some (.int .i64 x.time) ∧ w'.cell? ⟨wE, 1, none⟩ = some (.int .i64 x.off) ∧ w'.cell? ⟨hb, 6, none⟩ = some (.int .i64 first)) (by kernel_rfl) ⟨ec0, ec1, x6⟩ (fun hHeld => ?_)
          clear x0 y0 x1 y1 x2 y2 x3 y3 x4 y4 x5 y5 x6 y6 x7 y7 x8 y8 x9 y9 x10 y10 x11 y11 ec0 ef0 ec1 ef1 ec2 ef2 ec3 ef3 ec4 ef4 ec5 ef5 ec6 ef6 c0 c1 c2 c3 c4 c5 c6
          refine tQ 0 ⟨some 37, .fieldAddr 81 (.tmp 6) 1, 0, "check.go:75", #[], none⟩ ?_; simp only [Act.put, sA, sB, sC]
          refine tQ 1 ⟨some 38, .load 3 (.tmp 37), 3, "check.go:75", #[.mk 0 .data], none⟩ ?_; simp only [Act.put, sA, sB, sC]
          refine tQ 2 ⟨some 39, .move (.tmp 4), 3, "check.go:75", #[], none⟩ ?_; simp only [Act.put, sA, sB, sC]
          refine tQ 3 ⟨some 40, .fieldAddr 39 (.tmp 1) 6, 0, "check.go:75", #[], none⟩ ?_; simp only [Act.put, sA, sB, sC]
          refine tQ 4 ⟨some 41, .load 3 (.tmp 40), 3, "check.go:75", #[.mk 3 .data], none⟩ ?_; simp only [Act.put, sA, sB, sC]
          refine tQ 5 ⟨some 42, .fieldAddr 81 (.tmp 6) 0, 0, "check.go:75", #[], none⟩ ?_; simp only [Act.put, sA, sB, sC]
          refine tQ 6 ⟨some 43, .load 3 (.tmp 42), 3, "check.go:75", #[.mk 5 .data], none⟩ ?_; simp only [Act.put, sA, sB, sC]
          refine tQ 7 ⟨some 44, .binOp .add 3 (.tmp 41) (.tmp 43) 3, 3, "check.go:75", #[.mk 4 .data, .mk 6 .data], none⟩ ?_; simp only [Act.put, sA, sB, sC]
          refine tQ 8 ⟨some 45, .call { callee := .builtin .max, args := #[.tmp 39, .tmp 44], argTypes := #[3, 3] }, 3, "check.go:75", #[.mk 2 .data, .mk 7 .data], none⟩ ?_; simp only [Act.put, sA, sB, sC]
          refine tQ 9 ⟨some 3, .assign (.tmp 38), 3, "check.go:75", #[.mk 1 .data, .mk 0 .phase, .mk 1 .phase, { on := 2, ground := Ground.textOnly Departure.lateStores }, { on := 3, ground := Ground.textOnly Departure.lateStores }, { on := 4, ground := Ground.textOnly Departure.lateStores }, { on := 5, ground := Ground.textOnly Departure.lateStores }, { on := 6, ground := Ground.textOnly Departure.lateStores }, { on := 7, ground := Ground.textOnly Departure.lateStores }, { on := 8, ground := Ground.textOnly Departure.lateStoresUnsure }], none⟩ ?_; simp only [Act.put, sA, sB, sC]
          refine tQ 10 ⟨some 4, .assign (.tmp 45), 3, "check.go:75", #[.mk 8 .data, .mk 9 .chain, .mk 0 .phase, .mk 1 .phase, .mk 2 .phase, .mk 3 .phase, .mk 4 .phase, .mk 5 .phase, .mk 6 .phase, .mk 7 .phase, .mk 8 .phase, .mk 9 .phase], none⟩ ?_; simp only [Act.put, sA, sB, sC]
          refine wpAnyH_done (by kernel_rfl) ?_ _
          clear hHeld
          go_wp2_with fail
          go_roundw
          case rel => exact ⟨k + 1, x.off, _, hlt, rfl, rfl, by go_num, Lib.hid (by rw [← EM.out]; exact HC2.out), H.out.drop⟩
          case measure => first | (simp [intOf]; done) | (simp [intOf]; omega)
  · obtain rfl : l.length = k := by omega
    have hc := HC.out
    rw [List.drop_of_length_le (by simp)] at hc
    have hc : Except.ok g = tot := hc
    have hee := HE.out
    rw [← hc] at hee
    simp only [rowsE] at hee
    obtain ⟨x0, x1, x2, x3, x4, x5, x6, x7, x8, x9, x10, x11, y0, y1, y2, y3, y4, y5, y6, y7, y8, y9, y10, y11⟩ := raw12 (b := hb) (H.out)
    cases app with
    | true =>
      obtain rfl : 0 = e := by rw [← hee]; rfl
      clear hc hee
      go_wp2
      go_ret
      exact ⟨rfl, H.out.drop⟩
    | false =>
      by_cases c1 : maxt = g
      · subst c1
        obtain rfl : 0 = e := by rw [← hee]; simp
        clear hc hee
        go_wp2
        go_ret
        exact ⟨rfl, H.out.drop⟩
      · obtain rfl : 11 = e := by rw [← hee]; simp [c1]
        have b1 : (maxt == g) = false := by rw [beq_eq_false_iff_ne]; exact c1
        clear hc hee c1
        go_wp2
        go_ret
        exact ⟨rfl, H.out.drop⟩
set_option maxHeartbeats 1000000 in
set_option maxRecDepth 100000 in
theorem bat_check (base leader : Int) (app txn ctl : Bool) (last first maxt prod epoch sq : Int) (l : List (RecS × Value)) (q : Option Addr) (cap : Nat) (e : Int) (he : batErr ⟨base, leader, app, txn, ctl, last, first, maxt, prod, epoch, sq, l.map (·.1)⟩ = e) (hmx : first ≤ 9223372036854775807) (hfit : FitB l) (hll : l.length ≤ 1000000) {W0 w : World} {K : Know} {L : List Res} (hk : K.has (Know.recs (.slice q l.length cap) l)) (h : St W0 w K L) :
    Calls Try.prog 25 #[.agg #[.int .i64 base, .int .i64 leader, .bool app, .bool txn, .bool ctl, .int .i64 last, .int .i64 first, .int .i64 maxt, .int .i64 prod, .int .i64 epoch, .int .i64 sq, .slice q l.length cap]] w fun en w' => en = .returned (.int .i64 e) ∧ St W0 w' K L := by
  have HK := Lib.hid hk
  have HFT := Lib.hid hfit
  have HLL := Lib.hid hll
  have h1 := h.allocRaw #[.int .i64 base, .int .i64 leader, .bool app, .bool txn, .bool ctl, .int .i64 last, .int .i64 first, .int .i64 maxt, .int .i64 prod, .int .i64 epoch, .int .i64 sq, .slice q l.length cap] 39
  obtain ⟨hb, hhb⟩ : ∃ b, w.heap.size = b := ⟨_, rfl⟩
  rw [hhb] at h1
  obtain ⟨x0, x1, x2, x3, x4, x5, x6, x7, x8, x9, x10, x11, y0, y1, y2, y3, y4, y5, y6, y7, y8, y9, y10, y11⟩ := raw12 (b := hb) (h1)
  have H := Lib.hid h1
  clear h h1 hk hfit
  unfold batErr at he
  simp only [List.length_map] at he
  by_cases p1 : BatS.placed ⟨base, leader, app, txn, ctl, last, first, maxt, prod, epoch, sq, l.map (·.1)⟩ = false
  · rw [if_pos p1] at he
    subst he
    have HP := Lib.hid (show decide (0 ≤ base ∧ (-1 ≤ leader ∧ leader ≤ 2147483647) ∧ (0 ≤ last ∧ last ≤ 2147483647) ∧ base ≤ 9223372036854775807 - last ∧ 0 ≤ first ∧ 0 ≤ maxt) = false from p1)
    clear p1 hmx hll
    go_enter Try.func25, Try.ntmps25
    go_wp2_with (go_at_call 51; (with_reducible refine (bat_placed _ _ _ _ _ _ _ _ _ _ _ _ _ HP.out H.out).mono ?_); rintro e_ wn ⟨rfl, h⟩; replace H := Lib.hid h; clear h; obtain ⟨x0, x1, x2, x3, x4, x5, x6, x7, x8, x9, x10, x11, y0, y1, y2, y3, y4, y5, y6, y7, y8, y9, y10, y11⟩ := raw12 (b := hb) (H.out))
    go_ret
    exact ⟨rfl, H.out.drop⟩
  rw [if_neg p1] at he
  have p2 : BatS.placed ⟨base, leader, app, txn, ctl, last, first, maxt, prod, epoch, sq, l.map (·.1)⟩ = true := by cases hh : BatS.placed ⟨base, leader, app, txn, ctl, last, first, maxt, prod, epoch, sq, l.map (·.1)⟩ with
    | false => exact absurd hh p1
    | true => rfl
  have HP := Lib.hid (show decide (0 ≤ base ∧ (-1 ≤ leader ∧ leader ≤ 2147483647) ∧ (0 ≤ last ∧ last ≤ 2147483647) ∧ base ≤ 9223372036854775807 - last ∧ 0 ≤ first ∧ 0 ≤ maxt) = true from p2)
  have HFP := Lib.hid (show 0 ≤ first ∧ first ≤ 9223372036854775807 from ⟨(of_decide_eq_true (show decide (0 ≤ base ∧ (-1 ≤ leader ∧ leader ≤ 2147483647) ∧ (0 ≤ last ∧ last ≤ 2147483647) ∧ base ≤ 9223372036854775807 - last ∧ 0 ≤ first ∧ 0 ≤ maxt) = true from p2)).2.2.2.2.1, hmx⟩)
  clear p1 p2 hmx
  by_cases c1 : ctl = true ∧ txn = false
  · rw [if_pos c1] at he
    subst he
    obtain ⟨rfl, rfl⟩ := c1
    clear hll
    go_enter Try.func25, Try.ntmps25
    go_wp2_with (go_at_call 51; (with_reducible refine (bat_placed _ _ _ _ _ _ _ _ _ _ _ _ _ HP.out H.out).mono ?_); rintro e_ wn ⟨rfl, h⟩; replace H := Lib.hid h; clear h; obtain ⟨x0, x1, x2, x3, x4, x5, x6, x7, x8, x9, x10, x11, y0, y1, y2, y3, y4, y5, y6, y7, y8, y9, y10, y11⟩ := raw12 (b := hb) (H.out))
    go_ret
    exact ⟨rfl, H.out.drop⟩
  rw [if_neg c1] at he
  by_cases s1 : BatS.signed ⟨base, leader, app, txn, ctl, last, first, maxt, prod, epoch, sq, l.map (·.1)⟩ = false
  · rw [if_pos s1] at he
    subst he
    have HS := Lib.hid (show (if prod = -1 then decide (epoch = -1 ∧ sq = -1 ∧ txn = false) else if prod < 0 ∨ ¬ (0 ≤ epoch ∧ epoch ≤ 32767) then false else if ctl then decide (sq = -1) else decide (0 ≤ sq ∧ sq ≤ 2147483647)) = false from s1)
    clear s1 hll
    cases ctl with
    | false =>
      go_enter Try.func25, Try.ntmps25
      go_wp2_with (first
    | (go_at_call 51; (with_reducible refine (bat_placed _ _ _ _ _ _ _ _ _ _ _ _ _ HP.out H.out).mono ?_); rintro e_ wn ⟨rfl, h⟩; replace H := Lib.hid h; clear h; obtain ⟨x0, x1, x2, x3, x4, x5, x6, x7, x8, x9, x10, x11, y0, y1, y2, y3, y4, y5, y6, y7, y8, y9, y10, y11⟩ := raw12 (b := hb) (H.out))
    | (go_at_call 52; (with_reducible refine (bat_signed _ _ _ _ _ _ _ _ _ _ _ _ _ HS.out H.out).mono ?_); rintro e_ wn ⟨rfl, h⟩; replace H := Lib.hid h; clear h; obtain ⟨x0, x1, x2, x3, x4, x5, x6, x7, x8, x9, x10, x11, y0, y1, y2, y3, y4, y5, y6, y7, y8, y9, y10, y11⟩ := raw12 (b := hb) (H.out)))
      go_ret
      exact ⟨rfl, H.out.drop⟩
    | true =>
      cases txn with
      | false => exact absurd ⟨rfl, rfl⟩ c1
      | true =>
        clear c1
        go_enter Try.func25, Try.ntmps25
        go_wp2_with (first
    | (go_at_call 51; (with_reducible refine (bat_placed _ _ _ _ _ _ _ _ _ _ _ _ _ HP.out H.out).mono ?_); rintro e_ wn ⟨rfl, h⟩; replace H := Lib.hid h; clear h; obtain ⟨x0, x1, x2, x3, x4, x5, x6, x7, x8, x9, x10, x11, y0, y1, y2, y3, y4, y5, y6, y7, y8, y9, y10, y11⟩ := raw12 (b := hb) (H.out))
    | (go_at_call 52; (with_reducible refine (bat_signed _ _ _ _ _ _ _ _ _ _ _ _ _ HS.out H.out).mono ?_); rintro e_ wn ⟨rfl, h⟩; replace H := Lib.hid h; clear h; obtain ⟨x0, x1, x2, x3, x4, x5, x6, x7, x8, x9, x10, x11, y0, y1, y2, y3, y4, y5, y6, y7, y8, y9, y10, y11⟩ := raw12 (b := hb) (H.out)))
        go_ret
        exact ⟨rfl, H.out.drop⟩
  rw [if_neg s1] at he
  have s2 : BatS.signed ⟨base, leader, app, txn, ctl, last, first, maxt, prod, epoch, sq, l.map (·.1)⟩ = true := by cases hh : BatS.signed ⟨base, leader, app, txn, ctl, last, first, maxt, prod, epoch, sq, l.map (·.1)⟩ with
    | false => exact absurd hh s1
    | true => rfl
  have HS := Lib.hid (show (if prod = -1 then decide (epoch = -1 ∧ sq = -1 ∧ txn = false) else if prod < 0 ∨ ¬ (0 ≤ epoch ∧ epoch ≤ 32767) then false else if ctl then decide (sq = -1) else decide (0 ≤ sq ∧ sq ≤ 2147483647)) = true from s2)
  clear s1 s2
  cases ctl with
  | false =>
    rw [if_neg (fun h => by cases h.1)] at he
    obtain ⟨tot, htot⟩ : ∃ t, recsC (l.map (·.1)) = t := ⟨_, rfl⟩
    rw [htot] at he
    have HTE := Lib.hid (show tot ≠ 0 → tot = e from fun h => by rw [if_pos h] at he; exact he)
    have HTZ := Lib.hid (show tot = 0 → BatS.rows ⟨base, leader, app, txn, false, last, first, maxt, prod, epoch, sq, l.map (·.1)⟩ = e from fun h => by rw [if_neg (fun x => x h), if_neg (fun h => by cases h.1)] at he; exact he)
    have HT := Lib.hid htot
    clear he htot c1
    go_enter Try.func25, Try.ntmps25
    go_wp2_with (first
        | (go_at_call 51; (with_reducible refine (bat_placed _ _ _ _ _ _ _ _ _ _ _ _ _ HP.out H.out).mono ?_); rintro e_ wn ⟨rfl, h⟩; replace H := Lib.hid h; clear h; obtain ⟨x0, x1, x2, x3, x4, x5, x6, x7, x8, x9, x10, x11, y0, y1, y2, y3, y4, y5, y6, y7, y8, y9, y10, y11⟩ := raw12 (b := hb) (H.out))
        | (go_at_call 52; (with_reducible refine (bat_signed _ _ _ _ _ _ _ _ _ _ _ _ _ HS.out H.out).mono ?_); rintro e_ wn ⟨rfl, h⟩; replace H := Lib.hid h; clear h; obtain ⟨x0, x1, x2, x3, x4, x5, x6, x7, x8, x9, x10, x11, y0, y1, y2, y3, y4, y5, y6, y7, y8, y9, y10, y11⟩ := raw12 (b := hb) (H.out)))
    go_loopw [4, 5, 33] (fun _ _ iv wr => ∃ k : Nat, k ≤ l.length ∧ iv = .int .i64 k ∧ Hid (recsC ((l.map (·.1)).drop k) = tot) ∧ St W0 wr K (.raw hb #[.int .i64 base, .int .i64 leader, .bool app, .bool txn, .bool false, .int .i64 last, .int .i64 first, .int .i64 maxt, .int .i64 prod, .int .i64 epoch, .int .i64 sq, .slice q l.length cap] 39 :: L)) (fun _ _ iv _ => l.length - (intOf iv).toNat)
    case atStart => exact ⟨0, Nat.zero_le _, rfl, HT, H.out⟩
    case round =>
      clear x0 y0 x1 y1 x2 y2 x3 y3 x4 y4 x5 y5 x6 y6 x7 y7 x8 y8 x9 y9 x10 y10 x11 y11
      obtain ⟨k, hkl, rfl, HC, hst⟩ := hrel
      clear H
      have H := Lib.hid hst
      clear hst
      by_cases hlt : k < l.length
      · have hd := drop_recs l k hlt _ rfl
        obtain ⟨b, off, hqq⟩ := recs_at HK.out H.out (by omega)
        subst hqq
        obtain ⟨⟨x, vx⟩, hx⟩ : ∃ x, l[k] = x := ⟨_, rfl⟩
        have cc := recs_cell HK.out H.out k hlt (x, vx) hx
        have hmem : (x, vx) ∈ l := hx ▸ List.getElem_mem hlt
        have xf : x.R ∧ HFit x.hdrs ∧ x.sum ≤ 1000000 := HFT.out (x, vx) hmem
        have xk : K.has (Know.flat RHdr vx 3 x.hdrs) := recs_hdrs HK.out hmem
        obtain ⟨qx, capx, hvx⟩ := flat_form xk H.out
        subst hvx
        simp only at cc
        obtain ⟨c0, c1, c2, c3, c4, c5, c6⟩ := cc
        rw [← Nat.add_assoc] at c1 c2 c3 c4 c5 c6
        have hx1 : l[k].1 = x := by rw [hx]
        have XF := Lib.hid xf
        have XK := Lib.hid xk
        have HX := Lib.hid hx1
        clear xf xk hx1 hx hmem
        obtain ⟨wE, hwE⟩ : ∃ b, wr.heap.size = b := ⟨_, rfl⟩
        have hki : (k : Int) < (l.length : Int) := by omega
        have h := H.out.allocRaw #[.int .i64 x.time, .int .i64 x.off, .bool x.key.null, .string (bb x.key.data), .bool x.val.null, .string (bb x.val.data), .slice qx x.hdrs.length capx] 81
        rw [hwE] at h
        clear H
        have H := Lib.hid h
        clear h
        rw [HX.out] at hd
        have hc := HC.out
        rw [hd] at hc
        have hc : (if recOk x = 0 then recsC ((l.map (·.1)).drop (k + 1)) else recOk x) = tot := hc
        have XL := Lib.hid (sum_hdrs XF.out.2.2)
        obtain ⟨ec0, ec1, ec2, ec3, ec4, ec5, ec6, ef0, ef1, ef2, ef3, ef4, ef5, ef6⟩ := raw7 (b := wE) (H.out)
        obtain ⟨x0, x1, x2, x3, x4, x5, x6, x7, x8, x9, x10, x11, y0, y1, y2, y3, y4, y5, y6, y7, y8, y9, y10, y11⟩ := raw12 (b := hb) (H.out.p1)
        clear hd
        by_cases c1 : recOk x = 0
        · rw [if_pos c1] at hc
          have HC2 := Lib.hid hc
          have ER := Lib.hid c1
          clear hc c1
          go_wp2_with (go_at_call 53; (with_reducible refine (rec_right x (.slice qx x.hdrs.length capx) _ ER.out XL.out XK.out H.out).mono ?_); rintro e_ wn ⟨rfl, h⟩; replace H := Lib.hid h; clear h; obtain ⟨ec0, ec1, ec2, ec3, ec4, ec5, ec6, ef0, ef1, ef2, ef3, ef4, ef5, ef6⟩ := raw7 (b := wE) (H.out); obtain ⟨x0, x1, x2, x3, x4, x5, x6, x7, x8, x9, x10, x11, y0, y1, y2, y3, y4, y5, y6, y7, y8, y9, y10, y11⟩ := raw12 (b := hb) (H.out.p1))
          go_roundw
          case rel => exact ⟨k + 1, hlt, by go_num, HC2.out, H.out.drop⟩
          case measure => first | (simp [intOf]; done) | (simp [intOf]; omega)
        · rw [if_neg c1] at hc
          have ER := Lib.hid hc
          have gz : (tot == 0) = false := by rw [beq_eq_false_iff_ne, ← hc]; exact c1
          obtain rfl : tot = e := HTE.out (by rw [← hc]; exact c1)
          clear hc c1
          go_wp2_with (go_at_call 53; (with_reducible refine (rec_right x (.slice qx x.hdrs.length capx) _ ER.out XL.out XK.out H.out).mono ?_); rintro e_ wn ⟨rfl, h⟩; replace H := Lib.hid h; clear h; obtain ⟨ec0, ec1, ec2, ec3, ec4, ec5, ec6, ef0, ef1, ef2, ef3, ef4, ef5, ef6⟩ := raw7 (b := wE) (H.out); obtain ⟨x0, x1, x2, x3, x4, x5, x6, x7, x8, x9, x10, x11, y0, y1, y2, y3, y4, y5, y6, y7, y8, y9, y10, y11⟩ := raw12 (b := hb) (H.out.p1))
          go_ret
          exact ⟨rfl, H.out.drop.drop⟩
      · obtain rfl : l.length = k := by omega
        have hc := HC.out
        rw [List.drop_of_length_le (by simp)] at hc
        obtain rfl : 0 = tot := hc
        obtain ⟨x0, x1, x2, x3, x4, x5, x6, x7, x8, x9, x10, x11, y0, y1, y2, y3, y4, y5, y6, y7, y8, y9, y10, y11⟩ := raw12 (b := hb) (H.out)
        have HROW := Lib.hid (HTZ.out rfl)
        go_wp2_with (go_at_call 55; (with_reducible refine (bat_checkRows _ _ _ _ _ _ _ _ _ _ _ l _ _ _ HROW.out HFP.out HFT.out HLL.out HK.out H.out).mono ?_); rintro e_ wn ⟨rfl, h⟩; replace H := Lib.hid h; clear h)
        go_ret
        exact ⟨rfl, H.out.drop⟩

  | true =>
    cases txn with
    | false => exact absurd ⟨rfl, rfl⟩ c1
    | true =>
      clear c1
      by_cases c2 : l.length = 1
      · rw [if_neg (fun h => h.2 c2)] at he
        have HLEN := Lib.hid c2
        have bl : ((l.length : Int) == 1) = true := by rw [c2]; rfl
        have bl2 : ((l.length : Int) != 1) = false := by rw [c2]; rfl
        obtain ⟨tot, htot⟩ : ∃ t, recsC (l.map (·.1)) = t := ⟨_, rfl⟩
        rw [htot] at he
        have HTE := Lib.hid (show tot ≠ 0 → tot = e from fun h => by rw [if_pos h] at he; exact he)
        have HEN := Lib.hid (show ∀ (x : RecS) (h0 : 0 < l.length), (l[0]'h0).1 = x → ((ctlOf x).2.2 ≠ 0 → tot = 0 → (ctlOf x).2.2 = e) ∧ ((ctlOf x).2.2 = 0 → tot = 0 → BatS.rows ⟨base, leader, app, true, true, last, first, maxt, prod, epoch, sq, l.map (·.1)⟩ = e) from fun x h0 hx => by
          have hm : l.map (·.1) = x :: (l.map (·.1)).drop 1 := by have := drop_recs l 0 (by omega) x hx; simpa using this
          have hens : BatS.ends ⟨base, leader, app, true, true, last, first, maxt, prod, epoch, sq, l.map (·.1)⟩ = (ctlOf x).2.2 := by unfold BatS.ends; simp only; rw [hm]
          rw [hens] at he
          refine ⟨fun h h2 => ?_, fun h h2 => ?_⟩
          · rw [if_neg (fun y => y h2), if_pos ⟨rfl, h⟩] at he; exact he
          · rw [if_neg (fun y => y h2), if_neg (fun y => y.2 h)] at he; exact he)
        have HT := Lib.hid htot
        clear he htot c2
        go_enter Try.func25, Try.ntmps25
        go_wp2_with (first
            | (go_at_call 51; (with_reducible refine (bat_placed _ _ _ _ _ _ _ _ _ _ _ _ _ HP.out H.out).mono ?_); rintro e_ wn ⟨rfl, h⟩; replace H := Lib.hid h; clear h; obtain ⟨x0, x1, x2, x3, x4, x5, x6, x7, x8, x9, x10, x11, y0, y1, y2, y3, y4, y5, y6, y7, y8, y9, y10, y11⟩ := raw12 (b := hb) (H.out))
            | (go_at_call 52; (with_reducible refine (bat_signed _ _ _ _ _ _ _ _ _ _ _ _ _ HS.out H.out).mono ?_); rintro e_ wn ⟨rfl, h⟩; replace H := Lib.hid h; clear h; obtain ⟨x0, x1, x2, x3, x4, x5, x6, x7, x8, x9, x10, x11, y0, y1, y2, y3, y4, y5, y6, y7, y8, y9, y10, y11⟩ := raw12 (b := hb) (H.out)))
        go_loopw [4, 5, 33] (fun _ _ iv wr => ∃ k : Nat, k ≤ l.length ∧ iv = .int .i64 k ∧ Hid (recsC ((l.map (·.1)).drop k) = tot) ∧ St W0 wr K (.raw hb #[.int .i64 base, .int .i64 leader, .bool app, .bool true, .bool true, .int .i64 last, .int .i64 first, .int .i64 maxt, .int .i64 prod, .int .i64 epoch, .int .i64 sq, .slice q l.length cap] 39 :: L)) (fun _ _ iv _ => l.length - (intOf iv).toNat)
        case atStart => exact ⟨0, Nat.zero_le _, rfl, HT, H.out⟩
        case round =>
          clear x0 y0 x1 y1 x2 y2 x3 y3 x4 y4 x5 y5 x6 y6 x7 y7 x8 y8 x9 y9 x10 y10 x11 y11
          obtain ⟨k, hkl, rfl, HC, hst⟩ := hrel
          clear H
          have H := Lib.hid hst
          clear hst
          by_cases hlt : k < l.length
          · have hd := drop_recs l k hlt _ rfl
            obtain ⟨b, off, hqq⟩ := recs_at HK.out H.out (by omega)
            subst hqq
            obtain ⟨⟨x, vx⟩, hx⟩ : ∃ x, l[k] = x := ⟨_, rfl⟩
            have cc := recs_cell HK.out H.out k hlt (x, vx) hx
            have hmem : (x, vx) ∈ l := hx ▸ List.getElem_mem hlt
            have xf : x.R ∧ HFit x.hdrs ∧ x.sum ≤ 1000000 := HFT.out (x, vx) hmem
            have xk : K.has (Know.flat RHdr vx 3 x.hdrs) := recs_hdrs HK.out hmem
            obtain ⟨qx, capx, hvx⟩ := flat_form xk H.out
            subst hvx
            simp only at cc
            obtain ⟨c0, c1, c2, c3, c4, c5, c6⟩ := cc
            rw [← Nat.add_assoc] at c1 c2 c3 c4 c5 c6
            have hx1 : l[k].1 = x := by rw [hx]
            have XF := Lib.hid xf
            have XK := Lib.hid xk
            have HX := Lib.hid hx1
            clear xf xk hx1 hx hmem
            obtain ⟨wE, hwE⟩ : ∃ b, wr.heap.size = b := ⟨_, rfl⟩
            have hki : (k : Int) < (l.length : Int) := by omega
            have h := H.out.allocRaw #[.int .i64 x.time, .int .i64 x.off, .bool x.key.null, .string (bb x.key.data), .bool x.val.null, .string (bb x.val.data), .slice qx x.hdrs.length capx] 81
            rw [hwE] at h
            clear H
            have H := Lib.hid h
            clear h
            rw [HX.out] at hd
            have hc := HC.out
            rw [hd] at hc
            have hc : (if recOk x = 0 then recsC ((l.map (·.1)).drop (k + 1)) else recOk x) = tot := hc
            have XL := Lib.hid (sum_hdrs XF.out.2.2)
            obtain ⟨ec0, ec1, ec2, ec3, ec4, ec5, ec6, ef0, ef1, ef2, ef3, ef4, ef5, ef6⟩ := raw7 (b := wE) (H.out)
            obtain ⟨x0, x1, x2, x3, x4, x5, x6, x7, x8, x9, x10, x11, y0, y1, y2, y3, y4, y5, y6, y7, y8, y9, y10, y11⟩ := raw12 (b := hb) (H.out.p1)
            clear hd
            by_cases c1 : recOk x = 0
            · rw [if_pos c1] at hc
              have HC2 := Lib.hid hc
              have ER := Lib.hid c1
              clear hc c1
              go_wp2_with (go_at_call 53; (with_reducible refine (rec_right x (.slice qx x.hdrs.length capx) _ ER.out XL.out XK.out H.out).mono ?_); rintro e_ wn ⟨rfl, h⟩; replace H := Lib.hid h; clear h; obtain ⟨ec0, ec1, ec2, ec3, ec4, ec5, ec6, ef0, ef1, ef2, ef3, ef4, ef5, ef6⟩ := raw7 (b := wE) (H.out); obtain ⟨x0, x1, x2, x3, x4, x5, x6, x7, x8, x9, x10, x11, y0, y1, y2, y3, y4, y5, y6, y7, y8, y9, y10, y11⟩ := raw12 (b := hb) (H.out.p1))
              go_roundw
              case rel => exact ⟨k + 1, hlt, by go_num, HC2.out, H.out.drop⟩
              case measure => first | (simp [intOf]; done) | (simp [intOf]; omega)
            · rw [if_neg c1] at hc
              have ER := Lib.hid hc
              have gz : (tot == 0) = false := by rw [beq_eq_false_iff_ne, ← hc]; exact c1
              obtain rfl : tot = e := HTE.out (by rw [← hc]; exact c1)
              clear hc c1
              go_wp2_with (go_at_call 53; (with_reducible refine (rec_right x (.slice qx x.hdrs.length capx) _ ER.out XL.out XK.out H.out).mono ?_); rintro e_ wn ⟨rfl, h⟩; replace H := Lib.hid h; clear h; obtain ⟨ec0, ec1, ec2, ec3, ec4, ec5, ec6, ef0, ef1, ef2, ef3, ef4, ef5, ef6⟩ := raw7 (b := wE) (H.out); obtain ⟨x0, x1, x2, x3, x4, x5, x6, x7, x8, x9, x10, x11, y0, y1, y2, y3, y4, y5, y6, y7, y8, y9, y10, y11⟩ := raw12 (b := hb) (H.out.p1))
              go_ret
              exact ⟨rfl, H.out.drop.drop⟩
          · obtain rfl : l.length = k := by omega
            have hc := HC.out
            rw [List.drop_of_length_le (by simp)] at hc
            obtain rfl : 0 = tot := hc
            obtain ⟨x0, x1, x2, x3, x4, x5, x6, x7, x8, x9, x10, x11, y0, y1, y2, y3, y4, y5, y6, y7, y8, y9, y10, y11⟩ := raw12 (b := hb) (H.out)
            obtain ⟨b, off, hqq⟩ := recs_at HK.out H.out (by rw [HLEN.out]; decide)
            subst hqq
            obtain ⟨⟨x, vx⟩, hx⟩ : ∃ x, l[0]'(by rw [HLEN.out]; decide) = x := ⟨_, rfl⟩
            have cc := recs_cell HK.out H.out 0 (by rw [HLEN.out]; decide) (x, vx) hx
            have hmem : (x, vx) ∈ l := hx ▸ List.getElem_mem _
            have xf : x.R ∧ HFit x.hdrs ∧ x.sum ≤ 1000000 := HFT.out (x, vx) hmem
            have xk : K.has (Know.flat RHdr vx 3 x.hdrs) := recs_hdrs HK.out hmem
            obtain ⟨qx, capx, hvx⟩ := flat_form xk H.out
            subst hvx
            simp only [Nat.zero_mul, Nat.zero_add, Nat.add_zero] at cc
            obtain ⟨c0, c1, c2, c3, c4, c5, c6⟩ := cc
            have XD := Lib.hid (sum_data xf.2.2)
            have hl0 : (0 : Int) < (l.length : Int) := by have := HLEN.out; omega
            obtain ⟨⟨i1, i2, i3⟩, hi⟩ : ∃ r, ctlOf x = r := ⟨_, rfl⟩
            have EC := Lib.hid (show ctlRead x.key.null x.val.null x.key.data x.val.data x.hdrs.length x.off = (i1, i2, i3) from hi)
            have hen := HEN.out x (by rw [HLEN.out]; decide) (by rw [hx])
            rw [hi] at hen
            clear hx hmem xf xk hi
            by_cases c9 : i3 = 0
            · subst c9
              have HROW := Lib.hid (hen.2 rfl rfl)
              clear hen
              go_wp2_with (first
            | (go_at_call 54; (with_reducible refine (ctl_read x.time x.off x.key.null x.val.null x.key.data x.val.data qx x.hdrs.length capx (i1, i2, _) EC.out XD.out.1 XD.out.2 H.out).mono ?_); rintro e_ wn ⟨rfl, h⟩; replace H := Lib.hid h; clear h; obtain ⟨x0, x1, x2, x3, x4, x5, x6, x7, x8, x9, x10, x11, y0, y1, y2, y3, y4, y5, y6, y7, y8, y9, y10, y11⟩ := raw12 (b := hb) (H.out))
            | (go_at_call 55; (with_reducible refine (bat_checkRows _ _ _ _ _ _ _ _ _ _ _ l _ _ _ HROW.out HFP.out HFT.out HLL.out HK.out H.out).mono ?_); rintro e_ wn ⟨rfl, h⟩; replace H := Lib.hid h; clear h))
              go_ret
              exact ⟨rfl, H.out.drop⟩
            · have gz : (i3 == 0) = false := by rw [beq_eq_false_iff_ne]; exact c9
              obtain rfl : i3 = e := hen.1 c9 rfl
              clear hen c9
              go_wp2_with (go_at_call 54; (with_reducible refine (ctl_read x.time x.off x.key.null x.val.null x.key.data x.val.data qx x.hdrs.length capx (i1, i2, _) EC.out XD.out.1 XD.out.2 H.out).mono ?_); rintro e_ wn ⟨rfl, h⟩; replace H := Lib.hid h; clear h; obtain ⟨x0, x1, x2, x3, x4, x5, x6, x7, x8, x9, x10, x11, y0, y1, y2, y3, y4, y5, y6, y7, y8, y9, y10, y11⟩ := raw12 (b := hb) (H.out))
              go_ret
              exact ⟨rfl, H.out.drop⟩

      · rw [if_pos ⟨rfl, c2⟩] at he
        subst he
        have bl : ((l.length : Int) == 1) = false := by rw [beq_eq_false_iff_ne]; omega
        clear c2 hll
        go_enter Try.func25, Try.ntmps25
        go_wp2_with (first
    | (go_at_call 51; (with_reducible refine (bat_placed _ _ _ _ _ _ _ _ _ _ _ _ _ HP.out H.out).mono ?_); rintro e_ wn ⟨rfl, h⟩; replace H := Lib.hid h; clear h; obtain ⟨x0, x1, x2, x3, x4, x5, x6, x7, x8, x9, x10, x11, y0, y1, y2, y3, y4, y5, y6, y7, y8, y9, y10, y11⟩ := raw12 (b := hb) (H.out))
    | (go_at_call 52; (with_reducible refine (bat_signed _ _ _ _ _ _ _ _ _ _ _ _ _ HS.out H.out).mono ?_); rintro e_ wn ⟨rfl, h⟩; replace H := Lib.hid h; clear h; obtain ⟨x0, x1, x2, x3, x4, x5, x6, x7, x8, x9, x10, x11, y0, y1, y2, y3, y4, y5, y6, y7, y8, y9, y10, y11⟩ := raw12 (b := hb) (H.out)))
        go_ret
        exact ⟨rfl, H.out.drop⟩
set_option maxHeartbeats 2000000 in
set_option maxRecDepth 100000 in
theorem bat_unpack_err (rows : Bs) (n : Nat) (hn : n ≤ 2147483647) (hsl : rows.length ≤ 140737488355328) (e : Int) (he0 : e ≠ 0) (hu : unp n ⟨rows, 0, 0⟩ = .error e) {W0 w : World} {K : Know} {L : List Res} (h : St W0 w K L) :
  Calls Try.prog 88 #[.string (bb rows), .int .i64 n] w fun en w' => en = .returned (.tuple #[.slice none 0 0, .int .i64 e]) ∧ St W0 w' K L := by
 obtain ⟨tot, htot⟩ : ∃ t, unp n ⟨rows, 0, 0⟩ = t := ⟨_, rfl⟩
 have HTT := Lib.hid (htot.symm.trans hu)
 have HT := Lib.hid (show preU [] (unp (n - 0) ⟨rows, 0, 0⟩) = tot by rw [preU_nil]; exact htot)
 have HSL := Lib.hid hsl
 have HNB := Lib.hid hn
 have H := Lib.hid h
 clear h hu htot hsl hn he0
 go_enter Try.func88, Try.ntmps88
 go_wp2_with (go_at_call 6; (with_reducible refine (s_new rows HSL.out H.out).mono ?_); rintro e_ wn ⟨bi, rfl, h⟩; replace H := Lib.hid h; clear h)
 go_loopw [7, 11] (fun lv iv wr => ∃ (k : Nat) (acc : List (RecS × Value)) (i2 : InS) (K2 : Know), k ≤ n ∧ iv = .int .i64 k ∧ acc.length = k ∧ Hid (preU (acc.map (·.1)) (unp (n - k) i2) = tot) ∧ Hid (K2.has K) ∧ Hid (∀ x ∈ acc, K2.has (Know.flat RHdr x.2 3 x.1.hdrs)) ∧ St W0 wr K2 (.row lv 81 7 acc.length (acc.flatMap rcells) :: .inp bi i2 :: L)) (fun _ iv _ => n - (intOf iv).toNat)
 case atStart => exact ⟨0, [], _, K, Nat.zero_le _, rfl, rfl, HT, Lib.hid (Know.has_refl _), Lib.hid (fun x h => by cases h), H.out.nilRow 81 7⟩
 case round =>
  obtain ⟨k, acc, i2, K2, hk, rfl, hacc, HC, HK2, HALL, hst⟩ := hrel
  have HACC := Lib.hid hacc
  have HKB := Lib.hid (show k ≤ 2147483647 by have := HNB.out; omega)
  clear H hacc
  have H := Lib.hid hst
  clear hst
  obtain ⟨lf, hlf⟩ : ∃ m, i2.left = m := ⟨_, rfl⟩
  have HLF := Lib.hid hlf
  by_cases hlt : k < n
  · have hc := HC.out
    rw [show n - k = (n - (k + 1)) + 1 by omega] at hc
    have hc : preU (acc.map (·.1)) (if i2.left = 0 then .error 10 else if i2.record.2.err = 0 then consE i2.record.1 (unp (n - (k + 1)) i2.record.2) else .error i2.record.2.err) = tot := hc
    have hki : (k : Int) < (n : Int) := by omega
    have hnb : (n : Int) ≤ 2147483647 := by have := HNB.out; omega
    rw [hlf] at hc
    by_cases c1 : lf = 0
    · rw [if_pos c1] at hc
      have hc2 : Except.error 10 = tot := hc
      have hc3 := hc2.trans HTT.out
      obtain rfl : 10 = e := by injection hc3
      subst c1
      clear hc hc2 hc3 hlf
      go_wp2_with (go_at_call 48; (with_reducible refine (s_leftQ bi i2 _ HLF.out H.out.p1).mono ?_); rintro e_ wn ⟨rfl, h⟩; replace H := Lib.hid h; clear h; replace H := Lib.hid H.out.p1)
      go_ret2
      exact ⟨rfl, H.out.drop.drop.know HK2.out⟩
    · rw [if_neg c1] at hc
      obtain ⟨⟨x, i3⟩, hx⟩ : ∃ r, i2.record = r := ⟨_, rfl⟩
      have HRD := Lib.hid hx
      rw [hx] at hc
      simp only at hc
      have bl : ((lf : Int) == 0) = false := by rw [beq_eq_false_iff_ne]; omega
      have bl2 : ¬ (lf = 0) := c1
      by_cases c2 : i3.err = 0
      · rw [if_pos c2, ← preU_snoc] at hc
        have HER := Lib.hid c2
        have HC2 := Lib.hid hc
        clear hc hx c1 c2 hlf
        go_wp2_with (first
  | (go_at_call 48; (with_reducible refine (s_leftQ bi i2 _ HLF.out H.out.p1).mono ?_); rintro e_ wn ⟨rfl, h⟩; replace H := Lib.hid h; clear h; replace H := Lib.hid H.out.p1)
  | (go_at_call 100; (with_reducible refine (rec_readQ bi i2 x i3 HRD.out H.out.p1).mono ?_); rintro e_ wn ⟨v1, rfl, h⟩; obtain ⟨q1, c1, hv1⟩ := flat_form (Know.has_right (Know.has_refl _)) h; subst hv1; replace H := Lib.hid h; clear h; replace H := Lib.hid H.out.p1)
  | (at_builtin; refine wpl_app1_st rfl _ _ 37 rfl 81 Try.underlying37 elem_rec _ _ _ rfl H.out [.int .i64 x.time, .int .i64 x.off, .bool x.key.null, .string (bb x.key.data), .bool x.val.null, .string (bb x.val.data), .slice q1 x.hdrs.length c1] 81 rfl rfl (by simp [Value.oneCell']) (by have := HACC.out; have := HKB.out; unfold maxLen; omega) (by have := HACC.out; have := HKB.out; omega) ?_; intro v' w' h; replace H := Lib.hid h; clear h)
  | (go_at_call 23; (with_reducible refine (s_errE bi i3 _ HER.out H.out.p1).mono ?_); rintro e_ wn ⟨rfl, h⟩; replace H := Lib.hid h; clear h; replace H := Lib.hid H.out.p1))
        go_roundw
        case rel => exact ⟨k + 1, acc ++ [(x, .slice q1 x.hdrs.length c1)], i3, K2.and (Know.flat RHdr (.slice q1 x.hdrs.length c1) 3 x.hdrs), hlt, by go_num, by rw [List.length_append, HACC.out]; rfl, Lib.hid (by rw [List.map_append]; exact HC2.out), Lib.hid (Know.has_trans (Know.has_left (Know.has_refl _)) HK2.out), Lib.hid (fun y hy => by
         rcases List.mem_append.1 hy with hy | hy
         · exact Know.has_trans (Know.has_left (Know.has_refl _)) (HALL.out y hy)
         · rw [List.mem_singleton.1 hy]; exact Know.has_right (Know.has_refl _)), by rw [List.length_append, List.flatMap_append]; simpa [rcells] using H.out⟩
        case measure => first | (simp [intOf]; done) | (simp [intOf]; omega)
      · rw [if_neg c2] at hc
        have hc2 : Except.error i3.err = tot := hc
        have hc3 := hc2.trans HTT.out
        have HER := Lib.hid (show i3.err = e by injection hc3)
        have gz : (e == 0) = false := by rw [beq_eq_false_iff_ne, ← HER.out]; exact c2
        clear hc hx c1 c2 hlf hc2 hc3
        go_wp2_with (first
  | (go_at_call 48; (with_reducible refine (s_leftQ bi i2 _ HLF.out H.out.p1).mono ?_); rintro e_ wn ⟨rfl, h⟩; replace H := Lib.hid h; clear h; replace H := Lib.hid H.out.p1)
  | (go_at_call 100; (with_reducible refine (rec_readQ bi i2 x i3 HRD.out H.out.p1).mono ?_); rintro e_ wn ⟨v1, rfl, h⟩; obtain ⟨q1, c1, hv1⟩ := flat_form (Know.has_right (Know.has_refl _)) h; subst hv1; replace H := Lib.hid h; clear h; replace H := Lib.hid H.out.p1)
  | (at_builtin; refine wpl_app1_st rfl _ _ 37 rfl 81 Try.underlying37 elem_rec _ _ _ rfl H.out [.int .i64 x.time, .int .i64 x.off, .bool x.key.null, .string (bb x.key.data), .bool x.val.null, .string (bb x.val.data), .slice q1 x.hdrs.length c1] 81 rfl rfl (by simp [Value.oneCell']) (by have := HACC.out; have := HKB.out; unfold maxLen; omega) (by have := HACC.out; have := HKB.out; omega) ?_; intro v' w' h; replace H := Lib.hid h; clear h)
  | (go_at_call 23; (with_reducible refine (s_errE bi i3 _ HER.out H.out.p1).mono ?_); rintro e_ wn ⟨rfl, h⟩; replace H := Lib.hid h; clear h; replace H := Lib.hid H.out.p1))
        go_ret2
        exact ⟨rfl, H.out.drop.drop.know (Know.has_trans (Know.has_left (Know.has_refl _)) HK2.out)⟩
  · obtain rfl : n = k := by omega
    have hc := HC.out
    rw [Nat.sub_self] at hc
    have hc : preU (acc.map (·.1)) (if i2.left = 0 then .ok [] else .error 10) = tot := hc
    rw [hlf] at hc
    by_cases c1 : lf = 0
    · rw [if_pos c1] at hc
      have hc2 : Except.ok (acc.map (·.1) ++ []) = tot := hc
      have hc3 := hc2.trans HTT.out
      cases hc3
    · rw [if_neg c1] at hc
      have hc2 : Except.error 10 = tot := hc
      have hc3 := hc2.trans HTT.out
      obtain rfl : 10 = e := by injection hc3
      have bl : decide ((0 : Int) < (lf : Int)) = true := decide_eq_true (by omega)
      have bl2 : decide (0 < lf) = true := decide_eq_true (by omega)
      clear hc hc2 hc3 hlf c1
      go_wp2_with (go_at_call 48; (with_reducible refine (s_leftQ bi i2 _ HLF.out H.out.p1).mono ?_); rintro e_ wn ⟨rfl, h⟩; replace H := Lib.hid h; clear h; replace H := Lib.hid H.out.p1)
      go_ret2
      exact ⟨rfl, H.out.drop.drop.know HK2.out⟩

set_option maxHeartbeats 2000000 in
set_option maxRecDepth 100000 in
theorem bat_unpack_ok (rows : Bs) (n : Nat) (hn : n ≤ 2147483647) (hsl : rows.length ≤ 140737488355328) (rs : List RecS) (hu : unp n ⟨rows, 0, 0⟩ = .ok rs) {W0 w : World} {K : Know} {L : List Res} (h : St W0 w K L) :
  Calls Try.prog 88 #[.string (bb rows), .int .i64 n] w fun en w' => ∃ (v : Value) (l : List (RecS × Value)), en = .returned (.tuple #[v, .int .i64 0]) ∧ l.map (·.1) = rs ∧ St W0 w' (K.and (Know.recs v l)) L := by
 obtain ⟨tot, htot⟩ : ∃ t, unp n ⟨rows, 0, 0⟩ = t := ⟨_, rfl⟩
 have HTT := Lib.hid (htot.symm.trans hu)
 have HT := Lib.hid (show preU [] (unp (n - 0) ⟨rows, 0, 0⟩) = tot by rw [preU_nil]; exact htot)
 have HSL := Lib.hid hsl
 have HNB := Lib.hid hn
 have H := Lib.hid h
 clear h hu htot hsl hn 
 go_enter Try.func88, Try.ntmps88
 go_wp2_with (go_at_call 6; (with_reducible refine (s_new rows HSL.out H.out).mono ?_); rintro e_ wn ⟨bi, rfl, h⟩; replace H := Lib.hid h; clear h)
 go_loopw [7, 11] (fun lv iv wr => ∃ (k : Nat) (acc : List (RecS × Value)) (i2 : InS) (K2 : Know), k ≤ n ∧ iv = .int .i64 k ∧ acc.length = k ∧ Hid (preU (acc.map (·.1)) (unp (n - k) i2) = tot) ∧ Hid (K2.has K) ∧ Hid (∀ x ∈ acc, K2.has (Know.flat RHdr x.2 3 x.1.hdrs)) ∧ St W0 wr K2 (.row lv 81 7 acc.length (acc.flatMap rcells) :: .inp bi i2 :: L)) (fun _ iv _ => n - (intOf iv).toNat)
 case atStart => exact ⟨0, [], _, K, Nat.zero_le _, rfl, rfl, HT, Lib.hid (Know.has_refl _), Lib.hid (fun x h => by cases h), H.out.nilRow 81 7⟩
 case round =>
  obtain ⟨k, acc, i2, K2, hk, rfl, hacc, HC, HK2, HALL, hst⟩ := hrel
  have HACC := Lib.hid hacc
  have HKB := Lib.hid (show k ≤ 2147483647 by have := HNB.out; omega)
  clear H hacc
  have H := Lib.hid hst
  clear hst
  obtain ⟨lf, hlf⟩ : ∃ m, i2.left = m := ⟨_, rfl⟩
  have HLF := Lib.hid hlf
  by_cases hlt : k < n
  · have hc := HC.out
    rw [show n - k = (n - (k + 1)) + 1 by omega] at hc
    have hc : preU (acc.map (·.1)) (if i2.left = 0 then .error 10 else if i2.record.2.err = 0 then consE i2.record.1 (unp (n - (k + 1)) i2.record.2) else .error i2.record.2.err) = tot := hc
    have hki : (k : Int) < (n : Int) := by omega
    have hnb : (n : Int) ≤ 2147483647 := by have := HNB.out; omega
    rw [hlf] at hc
    by_cases c1 : lf = 0
    · rw [if_pos c1] at hc
      have hc2 : Except.error 10 = tot := hc
      have hc3 := hc2.trans HTT.out
      cases hc3
    · rw [if_neg c1] at hc
      obtain ⟨⟨x, i3⟩, hx⟩ : ∃ r, i2.record = r := ⟨_, rfl⟩
      have HRD := Lib.hid hx
      rw [hx] at hc
      simp only at hc
      have bl : ((lf : Int) == 0) = false := by rw [beq_eq_false_iff_ne]; omega
      have bl2 : ¬ (lf = 0) := c1
      by_cases c2 : i3.err = 0
      · rw [if_pos c2, ← preU_snoc] at hc
        have HER := Lib.hid c2
        have HC2 := Lib.hid hc
        clear hc hx c1 c2 hlf
        go_wp2_with (first
  | (go_at_call 48; (with_reducible refine (s_leftQ bi i2 _ HLF.out H.out.p1).mono ?_); rintro e_ wn ⟨rfl, h⟩; replace H := Lib.hid h; clear h; replace H := Lib.hid H.out.p1)
  | (go_at_call 100; (with_reducible refine (rec_readQ bi i2 x i3 HRD.out H.out.p1).mono ?_); rintro e_ wn ⟨v1, rfl, h⟩; obtain ⟨q1, c1, hv1⟩ := flat_form (Know.has_right (Know.has_refl _)) h; subst hv1; replace H := Lib.hid h; clear h; replace H := Lib.hid H.out.p1)
  | (at_builtin; refine wpl_app1_st rfl _ _ 37 rfl 81 Try.underlying37 elem_rec _ _ _ rfl H.out [.int .i64 x.time, .int .i64 x.off, .bool x.key.null, .string (bb x.key.data), .bool x.val.null, .string (bb x.val.data), .slice q1 x.hdrs.length c1] 81 rfl rfl (by simp [Value.oneCell']) (by have := HACC.out; have := HKB.out; unfold maxLen; omega) (by have := HACC.out; have := HKB.out; omega) ?_; intro v' w' h; replace H := Lib.hid h; clear h)
  | (go_at_call 23; (with_reducible refine (s_errE bi i3 _ HER.out H.out.p1).mono ?_); rintro e_ wn ⟨rfl, h⟩; replace H := Lib.hid h; clear h; replace H := Lib.hid H.out.p1))
        go_roundw
        case rel => exact ⟨k + 1, acc ++ [(x, .slice q1 x.hdrs.length c1)], i3, K2.and (Know.flat RHdr (.slice q1 x.hdrs.length c1) 3 x.hdrs), hlt, by go_num, by rw [List.length_append, HACC.out]; rfl, Lib.hid (by rw [List.map_append]; exact HC2.out), Lib.hid (Know.has_trans (Know.has_left (Know.has_refl _)) HK2.out), Lib.hid (fun y hy => by
         rcases List.mem_append.1 hy with hy | hy
         · exact Know.has_trans (Know.has_left (Know.has_refl _)) (HALL.out y hy)
         · rw [List.mem_singleton.1 hy]; exact Know.has_right (Know.has_refl _)), by rw [List.length_append, List.flatMap_append]; simpa [rcells] using H.out⟩
        case measure => first | (simp [intOf]; done) | (simp [intOf]; omega)
      · rw [if_neg c2] at hc
        have hc2 : Except.error i3.err = tot := hc
        have hc3 := hc2.trans HTT.out
        cases hc3
  · obtain rfl : n = k := by omega
    have hc := HC.out
    rw [Nat.sub_self] at hc
    have hc : preU (acc.map (·.1)) (if i2.left = 0 then .ok [] else .error 10) = tot := hc
    rw [hlf] at hc
    by_cases c1 : lf = 0
    · rw [if_pos c1] at hc
      have hc2 : Except.ok (acc.map (·.1) ++ []) = tot := hc
      have hc3 := hc2.trans HTT.out
      subst c1
      have HRS := Lib.hid (show acc.map (·.1) = rs by injection hc3 with h; rw [List.append_nil] at h; exact h)
      clear hc hc2 hc3 hlf
      go_wp2_with (go_at_call 48; (with_reducible refine (s_leftQ bi i2 _ HLF.out H.out.p1).mono ?_); rintro e_ wn ⟨rfl, h⟩; replace H := Lib.hid h; clear h; replace H := Lib.hid H.out.p1)
      go_ret2
      have hf := (H.out.freezeRow (R := RRec) (fun y _ => ⟨rfl, rfl⟩)).drop
      exact ⟨_, acc, rfl, HRS.out, hf.know (fun w F hh => ⟨HK2.out _ _ hh.1, hh.2, fun y hy => HALL.out y hy _ _ hh.1⟩)⟩
    · rw [if_neg c1] at hc
      have hc2 : Except.error 10 = tot := hc
      have hc3 := hc2.trans HTT.out
      cases hc3
abbrev W32 := BitVec 32
def cP : W32 := 0x82F63B78#32
def step (r : W32) : W32 := (r >>> 1) ^^^ (if r.getLsbD 0 then cP else 0#32)
def stepN : Nat → W32 → W32
  | 0, r => r
  | n + 1, r => stepN n (step r)

def byteBits (c : UInt8) : List Bool := (List.range 8).map (fun i => c.toNat.testBit i)
def bitsOf (s : Bs) : List Bool := s.flatMap byteBits
def tab (n : Nat) : W32 := stepN 8 (BitVec.ofNat 32 n)
def byteStep (r : W32) (c : UInt8) : W32 := tab (r.toNat % 256 ^^^ c.toNat) ^^^ (r >>> 8)
def crcRaw (r : W32) (s : Bs) : W32 := s.foldl byteStep r
theorem crcRaw_append (r : W32) (a b : Bs) : crcRaw r (a ++ b) = crcRaw (crcRaw r a) b := List.foldl_append
def crcMore (sum : W32) (s : Bs) : W32 := ~~~ (crcRaw (~~~ sum) s)
theorem crcMore_append (sum : W32) (a b : Bs) : crcMore sum (a ++ b) = crcMore (crcMore sum a) b := by
 unfold crcMore; rw [crcRaw_append, BitVec.not_not]
theorem crcMore_nil (sum : W32) : crcMore sum [] = sum := by unfold crcMore crcRaw; simp
theorem xor_u32 (a b : W32) : bits .xor .u32 (a.toNat : Int) (b.toNat : Int) = ((a ^^^ b).toNat : Int) := by
 have ha := a.isLt
 have hb := b.isLt
 have hab := (a ^^^ b).isLt
 rw [bits_xor_u32, BitVec.toNat_xor] at *
 have e1 : ((a.toNat : Int) % 4294967296).toNat = a.toNat := by omega
 have e2 : ((b.toNat : Int) % 4294967296).toNat = b.toNat := by omega
 rw [e1, e2, IntKind.wrap_u32]
 omega
theorem and1_u32 (a : W32) : bits .and .u32 (a.toNat : Int) 1 = if a.getLsbD 0 then 1 else 0 := by
 have ha := a.isLt
 rw [bits_and_u32]
 have e1 : ((a.toNat : Int) % 4294967296).toNat = a.toNat := by omega
 have e2 : ((1 : Int) % 4294967296).toNat = 1 := by decide
 rw [e1, e2, Nat.and_one_is_mod, IntKind.wrap_u32]
 have : a.getLsbD 0 = decide (a.toNat % 2 = 1) := by rw [BitVec.getLsbD, Nat.testBit_zero]
 rw [this]
 by_cases h : a.toNat % 2 = 1 <;> simp [h]
 omega
theorem xor_u32_lit (a : W32) : bits .xor .u32 (a.toNat : Int) 2197175160 = ((a ^^^ cP).toNat : Int) := xor_u32 a cP
theorem shr1_u32 (a : W32) : (a.toNat : Int) / 2 = ((a >>> 1).toNat : Int) := by
 rw [BitVec.toNat_ushiftRight, Nat.shiftRight_eq_div_pow]; omega
theorem shr8_u32 (a : W32) : (a.toNat : Int) / 256 = ((a >>> 8).toNat : Int) := by
 rw [BitVec.toNat_ushiftRight, Nat.shiftRight_eq_div_pow]; omega
theorem not_u32 (a : W32) : bits .xor .u32 IntKind.u32.max (a.toNat : Int) = ((~~~ a).toNat : Int) := by
 have e : IntKind.u32.max = ((BitVec.allOnes 32).toNat : Int) := by decide
 rw [e, xor_u32, BitVec.xor_comm, BitVec.xor_allOnes]

set_option maxHeartbeats 1000000 in
set_option maxRecDepth 100000 in
theorem crc_remainder (r : W32) (w : World) :
  Calls Try.prog 84 #[.int .u32 r.toNat] w fun en w' => en = .returned (.int .u32 (stepN 8 r).toNat) ∧ w = w' := by
 go_enter Try.func84, Try.ntmps84
 go_wp2
 go_loop [0, 4] (fun rv kv => ∃ (k : Nat) (x : W32), k ≤ 8 ∧ kv = .int .i64 k ∧ rv = .int .u32 x.toNat ∧ stepN (8 - k) x = stepN 8 r) (fun _ kv => 8 - (intOf kv).toNat)
 case atStart => exact ⟨0, r, by decide, rfl, rfl, rfl⟩
 case round =>
  obtain ⟨k, x, hk, rfl, rfl, hx⟩ := hrel
  have HX := Lib.hid hx
  clear hx
  by_cases h8 : k < 8
  · have ha := and1_u32 x
    have hs := shr1_u32 x
    have hx := x.isLt
    cases hb : x.getLsbD 0
    all_goals
     rw [hb] at ha
     go_wp2
     go_round
     case rel =>
      refine ⟨k + 1, step x, by omega, by go_num, ?_, ?_⟩
      · refine congrArg _ ?_
        unfold step
        rw [hb]
        first
         | (rw [if_pos rfl, ← xor_u32_lit]; exact congrArg (bits .xor .u32 · 2197175160) hs)
         | exact hs.trans (by simp)
      · rw [← HX.out, show 8 - k = (8 - (k + 1)) + 1 by omega]
        rfl
     case measure => first | (simp [intOf]; done) | (simp [intOf]; omega)
  · have hk8 : k = 8 := by omega
    subst hk8
    go_wp2
    go_ret
    rw [← HX.out]
    exact ⟨rfl, rfl⟩

theorem crc_rem (k : Nat) (hk : k < 256) (w : World) :
  Calls Try.prog 84 #[.int .u32 (k : Int)] w fun en w' => en = .returned (.int .u32 (tab k).toNat) ∧ w = w' := by
 have h := crc_remainder (BitVec.ofNat 32 k) w
 have hn : (BitVec.ofNat 32 k).toNat = k := by simp; omega
 rw [hn] at h
 exact h

def tabC (n : Nat) : Array Value := ((List.range 256).map fun j => if j < n then Value.int .u32 (tab j).toNat else Value.int .u32 0).toArray
theorem tabC_size (n : Nat) : (tabC n).size = 256 := by simp [tabC]
theorem tabC_get (n j : Nat) (h : j < 256) : (tabC n)[j]? = some (if j < n then Value.int .u32 (tab j).toNat else Value.int .u32 0) := by
 simp [tabC, h]
theorem tabC_set (n : Nat) (h : n < 256) : (tabC n).setIfInBounds n (.int .u32 (tab n).toNat) = tabC (n + 1) := by
 apply Array.ext_getElem?
 intro j
 by_cases hj : j < 256
 · rw [tabC_get (n + 1) j hj, Array.getElem?_setIfInBounds]
   by_cases e : n = j
   · subst e
     simp [tabC_size, hj]
   · rw [if_neg e, tabC_get n j hj]
     by_cases h1 : j < n
     · rw [if_pos h1, if_pos (by omega)]
     · rw [if_neg h1, if_neg (by omega)]
 · rw [Array.getElem?_eq_none (by simp [tabC_size]; omega), Array.getElem?_eq_none (by rw [tabC_size]; omega)]
theorem zero_tab : Try.zeroCells139 = tabC 0 := by kernel_rfl
def bIx (m : Nat) (c : UInt8) : Nat := m ^^^ c.toNat
def xor32 (a b : W32) : Nat := (a ^^^ b).toNat
theorem bIx_lt {m : Nat} (hm : m < 256) (c : UInt8) : bIx m c < 256 := Nat.xor_lt_two_pow (n := 8) hm c.toNat_lt
theorem bIx_xor {m : Nat} (hm : m < 256) (c : UInt8) : bits .xor .u8 (m : Int) (c.toNat : Int) = (bIx m c : Int) := by
 have hc := c.toNat_lt
 have hq := bIx_lt hm c
 unfold bIx at *
 rw [bits_xor_u8]
 have e1 : ((m : Int) % 256).toNat = m := by omega
 have e2 : ((c.toNat : Int) % 256).toNat = c.toNat := by omega
 rw [e1, e2, IntKind.wrap_u8]
 omega
abbrev tabPtr (b : Nat) : Value := .pointer (some ⟨b, 0, none⟩)

set_option maxHeartbeats 1000000 in
set_option maxRecDepth 100000 in
theorem crc_new {W0 w : World} {K : Know} {L : List Res} (h : St W0 w K L) :
  Calls Try.prog 59 #[] w fun en w' => ∃ b, en = .returned (tabPtr b) ∧ St W0 w' K (.raw b (tabC 256) 139 :: L) := by
 have H := Lib.hid h
 clear h
 go_enter Try.func59, Try.ntmps59
 go_wp2
 rw [zero_tab]
 go_loopw [4] (fun iv wr => ∃ k : Nat, k ≤ 256 ∧ iv = .int .i64 k ∧ St W0 wr K (.raw w.heap.size (tabC k) 139 :: L)) (fun iv _ => 256 - (intOf iv).toNat)
 case atStart => exact ⟨0, by decide, rfl, H.out.allocRaw _ _⟩
 case round =>
  obtain ⟨k, hk, rfl, hs⟩ := hrel
  have HS := Lib.hid hs
  clear hs
  by_cases hlt : k < 256
  · have hc := HS.out.rawCell k
    rw [tabC_get k k hlt, if_neg (by omega)] at hc
    have hf := HS.out.rawFree k
    have hw : IntKind.u32.wrap (k : Int) = (k : Int) := by rw [IntKind.wrap_u32]; omega
    have hlt2 : (k : Int) < 256 := by omega
    have hk0 : (0 : Int) ≤ (k : Int) := by omega
    go_wp2_with fail
    go_region_with (go_at_call 84; refine (crc_rem k hlt _).mono ?_; rintro e wn ⟨rfl, rfl⟩)
    go_wp2
    go_roundw
    case rel =>
     refine ⟨k + 1, by omega, by go_num, ?_⟩
     have h2 := (HS.out.drew).rawSet k (.int .u32 (tab k).toNat)
     rw [tabC_set k hlt] at h2
     exact h2
    case measure => first | (simp [intOf]; done) | (simp [intOf]; omega)
  · have hk : k = 256 := by omega
    subst hk
    go_wp2
    go_ret
    exact ⟨_, rfl, HS.out⟩

set_option maxHeartbeats 1000000 in
set_option maxRecDepth 100000 in
theorem crc_more (b : Nat) (sum : W32) (s : Bs) (hs : s.length ≤ 140737488355328) {W0 w : World} {K : Know} {L : List Res} (h : St W0 w K (.raw b (tabC 256) 139 :: L)) :
  Calls Try.prog 85 #[tabPtr b, .int .u32 sum.toNat, .string (bb s)] w fun en w' => en = .returned (.int .u32 (crcMore sum s).toNat) ∧ St W0 w' K (.raw b (tabC 256) 139 :: L) := by
 have H := Lib.hid h
 have hsum := sum.isLt
 obtain ⟨nb, hnb⟩ : ∃ nb, ~~~ sum = nb := ⟨_, rfl⟩
 have hn := not_u32 sum
 rw [hnb] at hn
 have HNB := Lib.hid hnb
 clear h hnb
 go_enter Try.func85, Try.ntmps85
 go_wp2
 go_loopw [7, 13] (fun rv kv wr => ∃ k : Nat, k ≤ s.length ∧ kv = .int .i64 k ∧ rv = .int .u32 (crcRaw nb (s.take k)).toNat ∧ St W0 wr K (.raw b (tabC 256) 139 :: L)) (fun _ kv _ => s.length - (intOf kv).toNat)
 case atStart => exact ⟨0, Nat.zero_le _, rfl, rfl, H.out⟩
 case round =>
  obtain ⟨k, hk, rfl, rfl, hst⟩ := hrel
  have HS := Lib.hid hst
  clear hst
  obtain ⟨r, hr⟩ : ∃ r, crcRaw nb (s.take k) = r := ⟨_, rfl⟩
  rw [hr]
  have HR := Lib.hid hr
  clear hr
  by_cases hlt : k < s.length
  · have hrl := r.isLt
    have hstep : crcRaw nb (s.take (k + 1)) = byteStep r s[k] := by
     rw [List.take_succ_eq_append_getElem hlt, crcRaw_append, HR.out]; rfl
    have HST := Lib.hid hstep
    clear hstep
    obtain ⟨m, hm⟩ : ∃ m, r.toNat % 256 = m := ⟨_, rfl⟩
    obtain ⟨y, hy⟩ : ∃ y, r >>> 8 = y := ⟨_, rfl⟩
    have hm0 : m < 256 := by omega
    have hcell : ∀ c : UInt8, wr.cell? ⟨b, bIx m c, none⟩ = some (.int .u32 (tab (bIx m c)).toNat) := fun c => by
     have h := HS.out.rawCell (bIx m c)
     rw [tabC_get 256 _ (bIx_lt hm0 c), if_pos (bIx_lt hm0 c)] at h
     exact h
    have hx := bIx_xor hm0
    have hm2 : IntKind.u8.wrap (r.toNat : Int) = (m : Int) := by rw [IntKind.wrap_u8]; omega
    have hs8 := shr8_u32 r
    rw [hy] at hs8
    have hxz : ∀ t : W32, bits .xor .u32 (t.toNat : Int) (y.toNat : Int) = (xor32 t y : Int) := fun t => xor_u32 t y
    have hq0 : ∀ c : UInt8, (0 : Int) ≤ (bIx m c : Int) := fun c => by omega
    have hq1 : ∀ c : UInt8, (bIx m c : Int) < 256 := fun c => by have := bIx_lt hm0 c; omega
    have HZ := Lib.hid (show (byteStep r s[k]).toNat = xor32 (tab (bIx m s[k])) y by unfold byteStep xor32 bIx; rw [hm, hy])
    clear hm hy hrl hm0
    have hk0 : (0 : Int) ≤ (k : Int) := by omega
    have hk1 : (k : Int) < s.length := by omega
    go_wp2_with fail
    go_quiet (fail)
    go_wp2
    go_roundw
    case rel =>
     refine ⟨k + 1, hlt, by go_num, ?_, HS.out.drewN _⟩
     rw [HST.out, HZ.out]
     exact congrArg (Value.int .u32) ((congrArg (bits .xor .u32 _) hs8).trans (hxz _))
    case measure => first | (simp [intOf]; done) | (simp [intOf]; omega)
  · have hk : k = s.length := by omega
    subst hk
    obtain ⟨nr, hnr⟩ : ∃ nr, ~~~ r = nr := ⟨_, rfl⟩
    have hn2 := not_u32 r
    rw [hnr] at hn2
    have HNR := Lib.hid hnr
    clear hnr
    rw [List.take_length] at HR
    go_wp2
    go_ret
    refine ⟨?_, HS.out⟩
    unfold crcMore
    rw [HNB.out, HR.out, HNR.out]
    rfl

def RStr (_ : World) (cs : List Value) (x : Bs) : Prop := cs = [.string (bb x)]
def strRows (D : Nat → Prop) (w : World) (v : Value) (l : List Bs) : Prop := RowsOf RStr D w v 1 l
theorem rstr_keep {D : Nat → Prop} {w w' : World} {v : Value} {l : List Bs} (h : strRows D w v l) (hs : w.heap.size ≤ w'.heap.size) (hk : ∀ k, k < w.heap.size → D k → w'.heap[k]? = w.heap[k]?) : strRows D w' v l := by
 obtain ⟨p, cap, rfl, h⟩ := h
 refine ⟨p, cap, rfl, fun h0 => ?_⟩
 obtain ⟨b, off, rfl, hb, hlt, hc⟩ := h h0
 refine ⟨b, off, rfl, hb, Nat.lt_of_lt_of_le hlt hs, fun i hi => ?_⟩
 obtain ⟨cs, h1, h2, h3⟩ := hc i hi
 exact ⟨cs, h1, h2, fun f u hu => (World.cell?_of_block (w := w) (a := ⟨b, off + (i * 1 + f), none⟩) (hk b hlt hb)).trans (h3 f u hu)⟩
def Know.strs (v : Value) (l : List Bs) : Know := ⟨fun w F => strRows F w v l, fun _ _ _ h hs hk => rstr_keep h hs hk, fun _ _ _ h hs => h.mono (fun _ _ h => hs _ h) (fun _ _ h => h)⟩
theorem strRows.at {D : Nat → Prop} {w : World} {v : Value} {l : List Bs} (h : strRows D w v l) :
  ∃ p cap, v = .slice p l.length cap ∧ (0 < l.length → ∃ b off, p = some ⟨b, off, none⟩ ∧ ∀ i (h : i < l.length), w.cell? ⟨b, off + i, none⟩ = some (.string (bb l[i]))) := by
 obtain ⟨p, cap, rfl, h⟩ := h
 refine ⟨p, cap, rfl, fun h0 => ?_⟩
 obtain ⟨b, off, rfl, _, _, hc⟩ := h h0
 refine ⟨b, off, rfl, fun i hi => ?_⟩
 obtain ⟨cs, h1, h2, h3⟩ := hc i hi
 unfold RStr at h2
 subst h2
 have := h3 0 _ rfl
 simpa using this
def crcParts (sum : W32) (l : List Bs) : W32 := l.foldl crcMore sum
theorem crcParts_snoc (sum : W32) (l : List Bs) (s : Bs) : crcParts sum (l ++ [s]) = crcMore (crcParts sum l) s := List.foldl_append
theorem crcParts_flat (sum : W32) (l : List Bs) : crcParts sum l = crcMore sum l.flatten := by
 induction l generalizing sum with
 | nil => exact (crcMore_nil sum).symm
 | cons a t ih =>
  show crcParts (crcMore sum a) t = _
  rw [ih, List.flatten_cons, crcMore_append]

set_option maxHeartbeats 1000000 in
set_option maxRecDepth 100000 in
theorem crc_sum (b : Nat) (v : Value) (l : List Bs) (hl : l.length ≤ 9223372036854775807) (hs : ∀ s ∈ l, s.length ≤ 140737488355328) {W0 w : World} {K : Know} {L : List Res} (hk : K.has (Know.strs v l)) (h : St W0 w K (.raw b (tabC 256) 139 :: L)) :
  Calls Try.prog 60 #[tabPtr b, v] w fun en w' => en = .returned (.int .u32 (crcParts 0#32 l).toNat) ∧ St W0 w' K (.raw b (tabC 256) 139 :: L) := by
 have H := Lib.hid h
 have HS := Lib.hid hs
 have HK := Lib.hid hk
 obtain ⟨F, hF, _⟩ := h.get
 obtain ⟨p, cap, rfl, _⟩ := (hk _ _ hF).at
 clear h hs hk hF
 go_enter Try.func60, Try.ntmps60
 go_wp2
 go_loopw [5, 10] (fun rv kv wr => ∃ k : Nat, k ≤ l.length ∧ kv = .int .i64 k ∧ rv = .int .u32 (crcParts 0#32 (l.take k)).toNat ∧ St W0 wr K (.raw b (tabC 256) 139 :: L)) (fun _ kv _ => l.length - (intOf kv).toNat)
 case atStart => exact ⟨0, Nat.zero_le _, rfl, rfl, H.out⟩
 case round =>
  obtain ⟨k, hk, rfl, rfl, hst⟩ := hrel
  have HST := Lib.hid hst
  obtain ⟨F2, hF2, _⟩ := hst.get
  obtain ⟨p2, cap2, hv2, hrow⟩ := (HK.out _ _ hF2).at
  clear hst hF2
  obtain ⟨r, hr⟩ : ∃ r, crcParts 0#32 (l.take k) = r := ⟨_, rfl⟩
  rw [hr]
  have HR := Lib.hid hr
  clear hr
  by_cases hlt : k < l.length
  · obtain ⟨bb', off, hp, hcells⟩ := hrow (by omega)
    have hpp : p = some ⟨bb', off, none⟩ := by simp at hv2; rw [hv2.1, hp]
    subst hpp
    have hc := hcells k hlt
    have HL := Lib.hid (HS.out l[k] (List.getElem_mem hlt))
    have HN := Lib.hid (show crcParts 0#32 (l.take (k + 1)) = crcMore r l[k] by rw [List.take_succ_eq_append_getElem hlt, crcParts_snoc, HR.out])
    clear hcells hv2 hp hrow
    generalize l[k] = s at *
    go_wp2_with (go_at_call 85; refine (crc_more b r s HL.out HST.out).mono ?_; rintro e wn ⟨rfl, h⟩; have H2 := Lib.hid h; clear h)
    go_roundw
    case rel => exact ⟨k + 1, hlt, by go_num, by rw [HN.out], H2.out⟩
    case measure => first | (simp [intOf]; done) | (simp [intOf]; omega)
  · have hk : k = l.length := by omega
    subst hk
    rw [List.take_length] at HR
    go_wp2
    go_ret
    exact ⟨by rw [HR.out]; rfl, HST.out⟩
theorem St.freezeStrs {W0 w : World} {K : Know} {L : List Res} {r : Nat} (l : List Bs) (h : St W0 w K (.raw r (l.map fun s => Value.string (bb s)).toArray 9 :: L)) : St W0 w (K.and (Know.strs (.slice (some ⟨r, 0, none⟩) l.length l.length) l)) L := by
 refine h.freeze fun F S1 _ h1 => ?_
 have hlt := heap_lt h1.1
 refine ⟨some ⟨r, 0, none⟩, l.length, rfl, fun _ => ⟨r, 0, rfl, .inr ⟨(h1.2 r).2 rfl, hlt⟩, hlt, fun i hi => ?_⟩⟩
 refine ⟨[.string (bb l[i])], rfl, rfl, fun f u hu => ?_⟩
 rw [cell_at h1.1]
 cases f with
 | zero =>
  simp at hu
  subst hu
  simp [hi]
 | succ f => simp at hu
theorem crc_sumR (b r n : Nat) (l : List Bs) (x : Nat) (hn : l.length = n) (hx : (crcParts 0#32 l).toNat = x) (hs : ∀ s ∈ l, s.length ≤ 140737488355328) (hl : l.length ≤ 9223372036854775807) {W0 w : World} {K : Know} {L : List Res} (h : St W0 w K (.raw r (l.map fun s => Value.string (bb s)).toArray 9 :: .raw b (tabC 256) 139 :: L)) :
  Calls Try.prog 60 #[tabPtr b, .slice (some ⟨r, 0, none⟩) n n] w fun en w' => en = .returned (.int .u32 x) ∧ St W0 w' K (.raw b (tabC 256) 139 :: L) := by
 subst hn; subst hx
 exact (crc_sum b _ l hl hs (Know.has_right (Know.has_refl _)) (h.freezeStrs l)).mono fun en w' hh => ⟨hh.1, hh.2.know (Know.has_left (Know.has_refl _))⟩
def setAll : Array Value → Nat → List Value → Array Value
  | c, _, [] => c
  | c, o, v :: r => setAll (c.setIfInBounds o v) (o + 1) r
theorem St.there {W0 w : World} {K : Know} {L : List Res} {b : Nat} {c : Array Value} {T : TypeId} (h : St W0 w K (.raw b c T :: L)) : w.there b 0 c.size := fun j hj => by
  rw [Nat.zero_add]
  exact ⟨by rw [h.rawCell j, Array.getElem?_eq_getElem hj]; rfl, h.rawFree j⟩
theorem St.rawSets {W0 : World} {K : Know} {L : List Res} {b : Nat} {T : TypeId} : ∀ (vs : List Value) (o : Nat) (c : Array Value) (w : World), St W0 w K (.raw b c T :: L) → St W0 (w.setCells b o vs) K (.raw b (setAll c o vs) T :: L)
  | [], _, _, _, h => h
  | v :: r, o, _, _, h => St.rawSets r (o + 1) _ _ (h.rawSet o v)
theorem St.storeEx {W0 w : World} {K : Know} {L : List Res} {b : Nat} {c : Array Value} {T : TypeId} (h : St W0 w K (.raw b c T :: L)) (cs : Array Value) : ∃ wz, w.setCells b 0 cs.toList = wz ∧ St W0 wz K (.raw b (setAll c 0 cs.toList) T :: L) := ⟨_, rfl, h.rawSets _ _ _ _⟩
theorem St.allocEx {W0 w : World} {K : Know} {L : List Res} (h : St W0 w K L) (c : Array Value) (T : TypeId) : ∃ wy b, w.alloc (.cells c T (0, 0)) = wy ∧ w.heap.size = b ∧ St W0 wy K (.raw b c T :: L) := ⟨_, _, rfl, rfl, h.allocRaw c T⟩
theorem crc_two (a c : Bs) : (crcParts 0#32 [a, c]).toNat = (crcMore 0#32 (a ++ c)).toNat := by
 rw [crcParts_flat]
 simp
theorem crc_sum2 (b r : Nat) (a c : Bs) (x : Nat) (hx : (crcParts 0#32 [a, c]).toNat = x) (hs : ∀ s ∈ [a, c], s.length ≤ 140737488355328) (hl : [a, c].length ≤ 9223372036854775807) {W0 w : World} {K : Know} {L : List Res} (h : St W0 w K (.raw r #[.string (bb a), .string (bb c)] 9 :: .raw b (tabC 256) 139 :: L)) :
 Calls Try.prog 60 #[tabPtr b, .slice (some ⟨r, 0, none⟩) 2 2] w fun en w' => en = .returned (.int .u32 x) ∧ St W0 w' K (.raw b (tabC 256) 139 :: L) := crc_sumR b r 2 [a, c] x rfl hx hs hl h
set_option maxHeartbeats 1000000 in
set_option maxRecDepth 100000 in
theorem bat_sum (said rows : Bs) (x : Nat) (hx : (crcMore 0#32 (said.drop 21 ++ rows)).toNat = x) (hl : 21 ≤ said.length) (hl2 : said.length ≤ 140737488355328) (hr : rows.length ≤ 140737488355328) {W0 w : World} {K : Know} {L : List Res} (h : St W0 w K L) :
   Calls Try.prog 29 #[.string (bb said), .string (bb rows)] w fun en w' => en = .returned (.int .i64 x) ∧ St W0 w' K L := by
 have H := Lib.hid h
 have HX := Lib.hid (show (crcParts 0#32 [said.drop 21, rows]).toNat = x by rw [crc_two]; exact hx)
 have HSS := Lib.hid (show ∀ s ∈ [said.drop 21, rows], s.length ≤ 140737488355328 by
   intro s hs
   simp only [List.mem_cons, List.not_mem_nil, or_false] at hs
   rcases hs with rfl | rfl
   · rw [List.length_drop]; omega
   · exact hr)
 have HLS := Lib.hid (show [said.drop 21, rows].length ≤ 9223372036854775807 by simp)
 have HT := Lib.hid (show List.take (said.length - 21) (List.drop 21 said) = said.drop 21 from List.take_of_length_le (by rw [List.length_drop]; omega))
 have hx32 : x < 4294967296 := by rw [← hx]; exact (crcMore 0#32 (said.drop 21 ++ rows)).isLt
 have l21 : (21 : Int) ≤ (said.length : Int) := by omega
 have w1 : IntKind.i64.wrap (x : Int) = (x : Int) := IntWalk.i64_in _ (by omega)
 have w2 : wrap64 (x : Int) = (x : Int) := by unfold wrap64; omega
 clear h hx hl hl2 hr hx32
 go_enter Try.func29, Try.ntmps29
 go_upto_region 1 with (fail)
 have hs := H.out.drew
 refine wp_region_held_drew (S := fun _ => True) (by kernel_rfl) trivial (fun hHeld => ?_)
 clear H
 generalize w.drew = wd at hs ⊢
 refine tQ 1 ⟨some 6, .move (.tmp 0), 9, "batch.go:63", #[], none⟩ ?_; simp only [Act.put, sA, sB, sC]
 refine tQ 2 ⟨some 7, .slice 9 (.tmp 6) (some (.const (Value.int IntKind.i64 21))) none none, 9, "batch.go:63", #[.mk 1 .data], none⟩ ?_; simp only [Act.put, sA, sB, sC]
 refine tQ 3 ⟨some 8, .move (.tmp 1), 9, "batch.go:63", #[], none⟩ ?_; simp only [Act.put, sA, sB, sC]
 refine wpAnyH_ready (rs := [0, 4]) (by kernel_rfl) (by simp) (AllReadyH.cons (o := ⟨some 5, .call { callee := .value (.func 59), args := #[], argTypes := #[] }, 110, "batch.go:63", #[], none⟩) rfl (fun KK hK => ?_) (AllReadyH.cons (o := ⟨some 9, .buildSlice 141 2 #[(0, .tmp 7), (1, .tmp 8)], 141, "batch.go:63", #[.mk 2 .data, .mk 3 .data], none⟩) rfl (fun KK hK => ?_) AllReadyH.nil))
 · go_simp
   go_at_call 59
   with_reducible refine (crc_new hs).mono ?_
   rintro e wq ⟨bt, rfl, hs⟩
   refine hK.out _ _ (trivial) (fun hHeld => ?_)
   clear hK KK
   try simp only [Act.put, sA, sB, sC]
   refine wpAnyH_ready (rs := [4]) (by kernel_rfl) (by simp) (AllReadyH.cons (o := ⟨some 9, .buildSlice 141 2 #[(0, .tmp 7), (1, .tmp 8)], 141, "batch.go:63", #[.mk 2 .data, .mk 3 .data], none⟩) rfl (fun KK hK => ?_) AllReadyH.nil)
   · obtain ⟨wy, bS, ey, eb, hs⟩ := hs.allocEx #[.string (bb (said.drop 21)), .string (bb rows)] 9
     go_simp
     try rw [HT.out]
     try rw [ey]
     try rw [eb]
     clear ey eb
     refine hK.out _ _ (trivial) (fun hHeld => ?_)
     clear hK KK
     try simp only [Act.put, sA, sB, sC]
     refine wpAnyH_ready (rs := [5]) (by kernel_rfl) (by simp) (AllReadyH.cons (o := ⟨some 10, .call { callee := .value (.func 60), args := #[.tmp 5, .tmp 9], argTypes := #[110, 141] }, 109, "batch.go:63", #[.mk 0 .data, .mk 4 .data, .mk 0 .chain], none⟩) rfl (fun KK hK => ?_) AllReadyH.nil)
     · go_simp
       go_at_call 60
       with_reducible refine (crc_sum2 bt bS (said.drop 21) rows x HX.out HSS.out HLS.out (hs)).mono ?_
       rintro e wq ⟨rfl, hs⟩
       refine hK.out _ _ (trivial) (fun hHeld => ?_)
       clear hK KK
       try simp only [Act.put, sA, sB, sC]
       refine tQ 6 ⟨some 11, .convert 109 3 (.tmp 10), 3, "batch.go:63", #[.mk 5 .data], none⟩ ?_; simp only [Act.put, sA, sB, sC]
       refine tQ 7 ⟨some 4, .assign (.tmp 11), 3, "batch.go:63", #[.mk 6 .data, .mk 5 .chain, .mk 0 .phase, .mk 1 .phase, .mk 2 .phase, .mk 3 .phase, .mk 4 .phase, .mk 5 .phase, .mk 6 .phase], none⟩ ?_; simp only [Act.put, sA, sB, sC]
       refine wpAnyH_done (by kernel_rfl) ?_ _
       clear hHeld
       go_wp2_with fail
       go_ret
       exact ⟨rfl, hs.drop⟩
 · obtain ⟨wy, bS, ey, eb, hs⟩ := hs.allocEx #[.string (bb (said.drop 21)), .string (bb rows)] 9
   go_simp
   try rw [HT.out]
   try rw [ey]
   try rw [eb]
   clear ey eb
   refine hK.out _ _ (trivial) (fun hHeld => ?_)
   clear hK KK
   try simp only [Act.put, sA, sB, sC]
   refine wpAnyH_ready (rs := [0]) (by kernel_rfl) (by simp) (AllReadyH.cons (o := ⟨some 5, .call { callee := .value (.func 59), args := #[], argTypes := #[] }, 110, "batch.go:63", #[], none⟩) rfl (fun KK hK => ?_) AllReadyH.nil)
   · go_simp
     go_at_call 59
     with_reducible refine (crc_new hs).mono ?_
     rintro e wq ⟨bt, rfl, hs⟩
     refine hK.out _ _ (trivial) (fun hHeld => ?_)
     clear hK KK
     try simp only [Act.put, sA, sB, sC]
     refine wpAnyH_ready (rs := [5]) (by kernel_rfl) (by simp) (AllReadyH.cons (o := ⟨some 10, .call { callee := .value (.func 60), args := #[.tmp 5, .tmp 9], argTypes := #[110, 141] }, 109, "batch.go:63", #[.mk 0 .data, .mk 4 .data, .mk 0 .chain], none⟩) rfl (fun KK hK => ?_) AllReadyH.nil)
     · go_simp
       go_at_call 60
       with_reducible refine (crc_sum2 bt bS (said.drop 21) rows x HX.out HSS.out HLS.out (hs.p1)).mono ?_
       rintro e wq ⟨rfl, hs⟩
       refine hK.out _ _ (trivial) (fun hHeld => ?_)
       clear hK KK
       try simp only [Act.put, sA, sB, sC]
       refine tQ 6 ⟨some 11, .convert 109 3 (.tmp 10), 3, "batch.go:63", #[.mk 5 .data], none⟩ ?_; simp only [Act.put, sA, sB, sC]
       refine tQ 7 ⟨some 4, .assign (.tmp 11), 3, "batch.go:63", #[.mk 6 .data, .mk 5 .chain, .mk 0 .phase, .mk 1 .phase, .mk 2 .phase, .mk 3 .phase, .mk 4 .phase, .mk 5 .phase, .mk 6 .phase], none⟩ ?_; simp only [Act.put, sA, sB, sC]
       refine wpAnyH_done (by kernel_rfl) ?_ _
       clear hHeld
       go_wp2_with fail
       go_ret
       exact ⟨rfl, hs.drop⟩
def bitAt (n : Int) (i : Nat) : Bool := decide (n / 2 ^ i % 2 = 1)
def R64 (n : Int) : Prop := -9223372036854775808 ≤ n ∧ n < 9223372036854775808
theorem wrap_nat0 (k : Nat) (h : k < 18446744073709551616) : IntKind.i64.wrap (k : Int) = 0 ↔ k = 0 := by
 rw [IntKind.wrap_i64]; omega
theorem ofInt64_toNat (n : Int) : ((BitVec.ofInt 64 n).toNat : Int) = n % 18446744073709551616 := by
 rw [BitVec.toNat_ofInt]
 have : (0 : Int) ≤ n % ((2 ^ 64 : Nat) : Int) := Int.emod_nonneg _ (by decide)
 rw [Int.toNat_of_nonneg this]
 rfl
theorem ofInt64_bit (n : Int) (i : Nat) (hi : i < 64) : (BitVec.ofInt 64 n).toNat.testBit i = bitAt n i := by
 obtain ⟨m, hm⟩ : ∃ m, (BitVec.ofInt 64 n).toNat = m := ⟨_, rfl⟩
 have h := ofInt64_toNat n
 rw [hm] at h
 rw [hm, Nat.testBit_eq_decide_div_mod_eq]
 unfold bitAt
 apply decide_eq_decide.mpr
 have hd : ((2 : Int) ^ i) * (2 * 2 ^ (63 - i)) = 18446744073709551616 := by
  rw [← Int.mul_assoc, Int.mul_comm _ 2, Int.mul_assoc, ← Int.pow_add, show i + (63 - i) = 63 by omega]; decide
 have hp : (0 : Int) < 2 ^ i := Int.pow_pos (by decide)
 have e : n = (m : Int) + 2 ^ i * (2 * (2 ^ (63 - i) * (n / 18446744073709551616))) := by
  have h1 := Int.mul_ediv_add_emod n 18446744073709551616
  rw [← Int.mul_assoc 2, ← Int.mul_assoc (2 ^ i), hd]
  omega
 have e2 : n / 2 ^ i = (m : Int) / 2 ^ i + 2 * (2 ^ (63 - i) * (n / 18446744073709551616)) := by
  have := Int.add_mul_ediv_left (m : Int) (2 * (2 ^ (63 - i) * (n / 18446744073709551616))) (Int.ne_of_gt hp)
  rw [← e] at this
  exact this
 have e3 : ((m : Int) / 2 ^ i) = ((m / 2 ^ i : Nat) : Int) := by
  rw [Int.natCast_ediv, Int.natCast_pow]; rfl
 rw [e2, e3, Int.add_mul_emod_self_left]
 omega
theorem and_pow (n : Int) (i : Nat) (hi : i < 63) (m : Int) (hm : BitVec.ofInt 64 m = BitVec.twoPow 64 i) : (bits .and .i64 n m != 0) = bitAt n i := by
 have e : bits .and .i64 n m = IntKind.i64.wrap ((BitVec.ofInt 64 n &&& BitVec.ofInt 64 m).toNat : Int) := rfl
 have hb : (BitVec.ofInt 64 n).getLsbD i = bitAt n i := ofInt64_bit n i (by omega)
 have hp : 2 ^ i < 2 ^ 64 := Nat.pow_lt_pow_right (by decide) (by omega)
 rw [e, hm, BitVec.and_twoPow, hb]
 cases bitAt n i
 · rw [if_neg (by decide)]
   decide
 · rw [if_pos rfl, bne_iff_ne, Ne, wrap_nat0 _ (BitVec.isLt _), BitVec.toNat_twoPow, Nat.mod_eq_of_lt hp]
   exact Nat.ne_of_gt (Nat.two_pow_pos i)
theorem and7 (n : Int) : (bits .and .i64 n 7 != 0) = (bitAt n 0 || bitAt n 1 || bitAt n 2) := by
 have e : bits .and .i64 n 7 = IntKind.i64.wrap ((BitVec.ofInt 64 n &&& BitVec.ofInt 64 7).toNat : Int) := rfl
 have hlt := (BitVec.ofInt 64 n &&& BitVec.ofInt 64 7).isLt
 have hz := wrap_nat0 _ hlt
 have h2 : (BitVec.ofInt 64 n &&& BitVec.ofInt 64 7).toNat = (BitVec.ofInt 64 n).toNat % 8 := by
  rw [BitVec.toNat_and, show (BitVec.ofInt 64 7).toNat = 2 ^ 3 - 1 by decide, Nat.and_two_pow_sub_one_eq_mod]
 have h3 := ofInt64_toNat n
 rw [h2] at e hz
 rw [Bool.eq_iff_iff, bne_iff_ne, e, Ne, hz]
 unfold bitAt
 simp
 omega
theorem andNot56 (n : Int) (hn : R64 n) (h : (bitAt n 0 || bitAt n 1 || bitAt n 2) = false) : (bits .andNot .i64 n 56 != 0) = (decide (n < 0) || decide (63 < n)) := by
 have h8 : n % 8 = 0 := by unfold bitAt at h; simp at h; omega
 by_cases h1 : 0 ≤ n ∧ n ≤ 63
 · rw [decide_eq_false (by omega), decide_eq_false (by omega)]
   obtain ⟨q, hq⟩ : ∃ q, n = 8 * q := ⟨n / 8, by omega⟩
   rcases (by omega : q = 0 ∨ q = 1 ∨ q = 2 ∨ q = 3 ∨ q = 4 ∨ q = 5 ∨ q = 6 ∨ q = 7) with h | h | h | h | h | h | h | h <;> (subst h; subst hq; decide)
 · have hr : (decide (n < 0) || decide (63 < n)) = true := by simp; omega
   rw [hr, bne_iff_ne]
   intro h0
   have e : bits .andNot .i64 n 56 = IntKind.i64.wrap ((BitVec.ofInt 64 n &&& ~~~ BitVec.ofInt 64 56).toNat : Int) := rfl
   rw [e, wrap_nat0 _ (BitVec.isLt _)] at h0
   have h2 : ∀ i, 6 ≤ i → (BitVec.ofInt 64 n).toNat.testBit i = false := by
    intro i hi
    by_cases h64 : i < 64
    · have h4 := congrArg (fun k => Nat.testBit k i) h0
      have h5 : (BitVec.ofInt 64 n &&& ~~~ BitVec.ofInt 64 56).getLsbD i = false := by
       have : (BitVec.ofInt 64 n &&& ~~~ BitVec.ofInt 64 56).toNat.testBit i = false := by rw [h0]; exact Nat.zero_testBit i
       exact this
      rw [BitVec.getLsbD_and, BitVec.getLsbD_not] at h5
      have h6 : (BitVec.ofInt 64 56).getLsbD i = false := by
       have : (BitVec.ofInt 64 56).toNat = 56 := by decide
       unfold BitVec.getLsbD
       rw [this]
       exact Nat.testBit_lt_two_pow (Nat.lt_of_lt_of_le (by decide : 56 < 2 ^ 6) (Nat.pow_le_pow_right (by decide) hi))
      rw [h6] at h5
      have h11 : (BitVec.ofInt 64 n).getLsbD i = false := by cases hc : (BitVec.ofInt 64 n).getLsbD i <;> simp_all
      exact h11
    · exact BitVec.getLsbD_of_ge _ _ (by omega)
   have h7 : (BitVec.ofInt 64 n).toNat < 2 ^ 6 := Nat.lt_pow_two_of_testBit _ h2
   have h8 := ofInt64_toNat n
   have h9 := hn.1
   have h10 := hn.2
   omega
def chk (n : Int) : Int := if (bitAt n 0 || bitAt n 1 || bitAt n 2) = true then 9 else if (decide (n < 0) || decide (63 < n) || (bitAt n 5 && !bitAt n 4)) = true then 8 else 0
def attrN (a t c : Bool) (k : Nat) : Int := (if a && decide (0 < k) then 8 else 0) + (if t && decide (1 < k) then 16 else 0) + (if c && decide (2 < k) then 32 else 0)
theorem and8 (n : Int) : (bits .and .i64 n 8 != 0) = bitAt n 3 := and_pow n 3 (by decide) 8 (by decide)
theorem and16 (n : Int) : (bits .and .i64 n 16 != 0) = bitAt n 4 := and_pow n 4 (by decide) 16 (by decide)
theorem and32 (n : Int) : (bits .and .i64 n 32 != 0) = bitAt n 5 := and_pow n 5 (by decide) 32 (by decide)
theorem and16z (n : Int) : (bits .and .i64 n 16 == 0) = !bitAt n 4 := by rw [← and16]; simp [bne]
set_option maxHeartbeats 1000000 in
set_option maxRecDepth 100000 in
theorem attr_read (n : Int) (w : World) :
  Calls Try.prog 89 #[.int .i64 n] w fun en w' => en = .returned (.tuple #[.bool (bitAt n 3), .bool (bitAt n 4), .bool (bitAt n 5)]) ∧ w = w' := by
 have h1 := and8 n
 have h2 := and16 n
 have h3 := and32 n
 go_enter Try.func89, Try.ntmps89
 go_wp2
 go_ret3
 rw [← h1, ← h2, ← h3]
 exact ⟨rfl, rfl⟩
set_option maxHeartbeats 1000000 in
set_option maxRecDepth 100000 in
theorem attr_check (n : Int) (hn : R64 n) (w : World) :
   Calls Try.prog 87 #[.int .i64 n] w fun en w' => en = .returned (.int .i64 (chk n)) ∧ w = w' := by
 have a7 := and7 n
 have a56 := andNot56 n hn
 have a16 := and16z n
 have a32 := and32 n
 clear hn
 have hc : chk n = chk n := rfl
 conv at hc => rhs; unfold chk
 cases hb : (bitAt n 0 || bitAt n 1 || bitAt n 2)
 · rw [hb] at a7 hc
   rw [hb] at a56
   replace a56 := a56 rfl
   cases hd : (decide (n < 0) || decide (63 < n))
   · rw [hd] at a56 hc
     cases h5 : bitAt n 5
     · rw [h5] at a32 hc
       have HC := Lib.hid (show chk n = 0 from hc)
       clear hc hd hb h5
       go_enter Try.func87, Try.ntmps87
       go_wp2
       go_ret
       rw [HC.out]
       exact ⟨rfl, rfl⟩
     · rw [h5] at a32 hc
       cases h4 : bitAt n 4
       · rw [h4] at a16 hc
         have HC := Lib.hid (show chk n = 8 from hc)
         clear hc hd hb h5 h4
         go_enter Try.func87, Try.ntmps87
         go_wp2
         go_ret
         rw [HC.out]
         exact ⟨rfl, rfl⟩
       · rw [h4] at a16 hc
         have HC := Lib.hid (show chk n = 0 from hc)
         clear hc hd hb h5 h4
         go_enter Try.func87, Try.ntmps87
         go_wp2
         go_ret
         rw [HC.out]
         exact ⟨rfl, rfl⟩
   · rw [hd] at a56 hc
     have HC := Lib.hid (show chk n = 8 from hc)
     clear hc hd hb
     go_enter Try.func87, Try.ntmps87
     go_wp2
     go_ret
     rw [HC.out]
     exact ⟨rfl, rfl⟩
 · rw [hb] at a7 hc
   have HC := Lib.hid (show chk n = 9 from hc)
   clear hc hb a56
   go_enter Try.func87, Try.ntmps87
   go_wp2
   go_ret
   rw [HC.out]
   exact ⟨rfl, rfl⟩

abbrev aBatch (base leader : Int) (a t c : Bool) (last first max prod epoch sq : Int) (ro : Option Addr) (e k : Nat) : Value :=
  .agg #[.int .i64 base, .int .i64 leader, .bool a, .bool t, .bool c, .int .i64 last, .int .i64 first, .int .i64 max, .int .i64 prod, .int .i64 epoch, .int .i64 sq, .slice ro e k]
set_option maxHeartbeats 1000000 in
set_option maxRecDepth 100000 in
theorem attr_of (base leader : Int) (a t c : Bool) (last first max prod epoch sq : Int) (ro : Option Addr) (e k : Nat) {W0 w : World} {K : Know} {L : List Res} (h : St W0 w K L) :
  Calls Try.prog 57 #[aBatch base leader a t c last first max prod epoch sq ro e k] w fun en w' => en = .returned (.int .i64 (attrN a t c 3)) ∧ St W0 w' K L := by
 have H := Lib.hid h
 clear h
 go_enter Try.func57, Try.ntmps57
 go_wp2
 go_loop [4, 15] (fun nv kv => ∃ (k : Nat), k ≤ 3 ∧ kv = .int .i64 k ∧ nv = .int .i64 (attrN a t c k)) (fun _ kv => 3 - (intOf kv).toNat)
 case atStart => exact ⟨0, by decide, rfl, by simp [attrN]⟩
 case round =>
  obtain ⟨k, hk, rfl, rfl⟩ := hrel
  have e1 : attrN true t c 1 = bits .or .i64 (attrN true t c 0) 8 := by cases t <;> cases c <;> decide
  have e2 : attrN a true c 2 = bits .or .i64 (attrN a true c 1) 16 := by cases a <;> cases c <;> decide
  have e3 : attrN a t true 3 = bits .or .i64 (attrN a t true 2) 32 := by cases a <;> cases t <;> decide
  have f1 : attrN false t c 1 = attrN false t c 0 := by cases t <;> cases c <;> decide
  have f2 : attrN a false c 2 = attrN a false c 1 := by cases a <;> cases c <;> decide
  have f3 : attrN a t false 3 = attrN a t false 2 := by cases a <;> cases t <;> decide
  have E := Lib.hid (And.intro e1 (And.intro e2 (And.intro e3 (And.intro f1 (And.intro f2 f3)))))
  clear e1 e2 e3 f1 f2 f3
  have i0 : ∀ w : World, (Instr.index 137 (.agg #[.bool a, .bool t, .bool c]) (.int .i64 0)).run Try.prog w = .ok (.bool a) w := fun _ => by kernel_rfl
  have i1 : ∀ w : World, (Instr.index 137 (.agg #[.bool a, .bool t, .bool c]) (.int .i64 1)).run Try.prog w = .ok (.bool t) w := fun _ => by kernel_rfl
  have i2 : ∀ w : World, (Instr.index 137 (.agg #[.bool a, .bool t, .bool c]) (.int .i64 2)).run Try.prog w = .ok (.bool c) w := fun _ => by kernel_rfl
  rcases (by omega : k = 0 ∨ k = 1 ∨ k = 2 ∨ k = 3) with h | h | h | h
  · subst h
    cases a
    all_goals
     go_wp2
     go_round
     case rel => exact ⟨1, by decide, rfl, congrArg (Value.int .i64) (by first | exact E.out.2.2.2.1.symm | exact E.out.1.symm)⟩
     case measure => decide
  · subst h
    cases t
    all_goals
     go_wp2
     go_round
     case rel => exact ⟨2, by decide, rfl, congrArg (Value.int .i64) (by first | exact E.out.2.2.2.2.1.symm | exact E.out.2.1.symm)⟩
     case measure => decide
  · subst h
    cases c
    all_goals
     go_wp2
     go_round
     case rel => exact ⟨3, by decide, rfl, congrArg (Value.int .i64) (by first | exact E.out.2.2.2.2.2.symm | exact E.out.2.2.1.symm)⟩
     case measure => decide
  · subst h
    go_wp2
    go_ret
    exact ⟨rfl, (H.out.alloc _).alloc _⟩
theorem rc_cell_tmp {P : Program} {fn : Func} {p t : Tmp} {ty : TypeId} (h : fn.results = #[.cell p ty, .tmp t]) (tmps : Array Value) (w : World) (b : Nat) (cs : List Value) (d : TypeDesc)
    (hp : tmps.getD p undef = .pointer (some ⟨b, 0, none⟩)) (hc : w.rangeAt b 0 cs) (hu : P.underlying ty = some d) (hd : d.isRow = true) (hi : (P.info? ty).map (·.size) = some cs.length) :
    (results fn tmps).run P w = .ok (.tuple #[.agg cs.toArray, tmps.getD t undef]) w := by
  have hp' : tmps[p]?.getD undef = .pointer (some ⟨b, 0, none⟩) := by simpa using hp
  simp [results, h, hp', asAddr, run_loadVar_mid w b 0 ty cs d hc hu hd hi]
theorem rc_cell_only {P : Program} {fn : Func} {p : Tmp} {ty : TypeId} (h : fn.results = #[.cell p ty]) (tmps : Array Value) (w : World) (b : Nat) (cs : List Value) (d : TypeDesc)
    (hp : tmps.getD p undef = .pointer (some ⟨b, 0, none⟩)) (hc : w.rangeAt b 0 cs) (hu : P.underlying ty = some d) (hd : d.isRow = true) (hi : (P.info? ty).map (·.size) = some cs.length) :
    (results fn tmps).run P w = .ok (.agg cs.toArray) w := by
  have hp' : tmps[p]?.getD undef = .pointer (some ⟨b, 0, none⟩) := by simpa using hp
  simp [results, h, hp', asAddr, run_loadVar_mid w b 0 ty cs d hc hu hd hi]
theorem rc_range {W0 w : World} {K : Know} {L : List Res} {b : Nat} {c : List Value} {T : TypeId} (h : St W0 w K (.raw b c.toArray T :: L)) : w.rangeAt b 0 c := by
 intro j v hv
 rw [Nat.zero_add, h.rawCell j]
 simpa using hv
theorem St.sets12 {W0 w : World} {K : Know} {L : List Res} {b : Nat} {T : TypeId} {a0 a1 a2 a3 a4 a5 a6 a7 a8 a9 a10 a11 : Value} (v0 v1 v2 v3 v4 v5 v6 v7 v8 v9 v10 v11 : Value) (h : St W0 w K (.raw b #[a0, a1, a2, a3, a4, a5, a6, a7, a8, a9, a10, a11] T :: L)) : St W0 ((((((((((((w.setCell ⟨b, 0, none⟩ v0).setCell ⟨b, 1, none⟩ v1).setCell ⟨b, 2, none⟩ v2).setCell ⟨b, 3, none⟩ v3).setCell ⟨b, 4, none⟩ v4).setCell ⟨b, 5, none⟩ v5).setCell ⟨b, 6, none⟩ v6).setCell ⟨b, 7, none⟩ v7).setCell ⟨b, 8, none⟩ v8).setCell ⟨b, 9, none⟩ v9).setCell ⟨b, 10, none⟩ v10).setCell ⟨b, 11, none⟩ v11) K (.raw b #[v0, v1, v2, v3, v4, v5, v6, v7, v8, v9, v10, v11] T :: L) := by
 have h : St W0 _ K (.raw b #[v0, a1, a2, a3, a4, a5, a6, a7, a8, a9, a10, a11] T :: L) := h.rawSet 0 v0
 have h : St W0 _ K (.raw b #[v0, v1, a2, a3, a4, a5, a6, a7, a8, a9, a10, a11] T :: L) := h.rawSet 1 v1
 have h : St W0 _ K (.raw b #[v0, v1, v2, a3, a4, a5, a6, a7, a8, a9, a10, a11] T :: L) := h.rawSet 2 v2
 have h : St W0 _ K (.raw b #[v0, v1, v2, v3, a4, a5, a6, a7, a8, a9, a10, a11] T :: L) := h.rawSet 3 v3
 have h : St W0 _ K (.raw b #[v0, v1, v2, v3, v4, a5, a6, a7, a8, a9, a10, a11] T :: L) := h.rawSet 4 v4
 have h : St W0 _ K (.raw b #[v0, v1, v2, v3, v4, v5, a6, a7, a8, a9, a10, a11] T :: L) := h.rawSet 5 v5
 have h : St W0 _ K (.raw b #[v0, v1, v2, v3, v4, v5, v6, a7, a8, a9, a10, a11] T :: L) := h.rawSet 6 v6
 have h : St W0 _ K (.raw b #[v0, v1, v2, v3, v4, v5, v6, v7, a8, a9, a10, a11] T :: L) := h.rawSet 7 v7
 have h : St W0 _ K (.raw b #[v0, v1, v2, v3, v4, v5, v6, v7, v8, a9, a10, a11] T :: L) := h.rawSet 8 v8
 have h : St W0 _ K (.raw b #[v0, v1, v2, v3, v4, v5, v6, v7, v8, v9, a10, a11] T :: L) := h.rawSet 9 v9
 have h : St W0 _ K (.raw b #[v0, v1, v2, v3, v4, v5, v6, v7, v8, v9, v10, a11] T :: L) := h.rawSet 10 v10
 have h : St W0 _ K (.raw b #[v0, v1, v2, v3, v4, v5, v6, v7, v8, v9, v10, v11] T :: L) := h.rawSet 11 v11
 exact h
end Go.Proofs.Ytnnnglklgofabaa
