/- How any batch ends a transaction, or that it doesn't, is the document's: proved of every batch. -/
import Derived.Test.YtcjgdlfcfcabiaaGMarkerReads3
import Derived.Test.YtcjgdlfcfcabiaaGMarkerReads4
import Derived.Test.YtcjgdlfcfcabiaaArgs
import Derived.SizedLaws
import Derived.Deep.Slices
import Derived.Test.YtcjgdlfcfcabiaaL06F
import Derived.Test.YtcjgdlfcfcabiaaRec6
import Derived.Deep.RegionHeld3
import Derived.Deep.DeepCutAuto
import Derived.Test.YtcjgdlfcfcabiaaRec8
import Derived.Lib.SmallJoins
import Derived.Test.YtcjgdlfcfcabiaaRecs
import Derived.Test.YtcjgdlfcfcabiaaBatP
/- Layer 12, walked: MarkerReads: no ends. -/
namespace Go.Proofs.Ytcjgdlfcfcabiaa
open Go.RowKit

set_option maxHeartbeats 2000000 in
set_option maxRecDepth 100000 in
theorem mr_long (base leader : Int) (app txn ctl : Bool) (last first maxt prod epoch sq : Int) (l : List (RecS × Value)) (q : Option Addr) (cap : Nat) (hmx : first ≤ 9223372036854775807) (hrb : Rn base) (hfw : FitW l) (hs : smallB (l.map (·.1)) = false) {W0 w : World} {K : Know} (hk : K.has (Know.recs (.slice q l.length cap) l)) (h : St W0 w K []) :
    Calls Try.prog 10 #[.agg #[.int .i64 base, .int .i64 leader, .bool app, .bool txn, .bool ctl, .int .i64 last, .int .i64 first, .int .i64 maxt, .int .i64 prod, .int .i64 epoch, .int .i64 sq, .slice q l.length cap]] w fun en w' => en = .returned (.bool true) ∧ Below W0.heap.size W0 w' := by
  have HK := Lib.hid hk
  have HFW := Lib.hid hfw
  have HMX := Lib.hid hmx
  have HRB := Lib.hid hrb
  have h1 := h.allocRaw #[.int .i64 base, .int .i64 leader, .bool app, .bool txn, .bool ctl, .int .i64 last, .int .i64 first, .int .i64 maxt, .int .i64 prod, .int .i64 epoch, .int .i64 sq, .slice q l.length cap] 32
  obtain ⟨hb, hhb⟩ : ∃ b, w.heap.size = b := ⟨_, rfl⟩
  rw [hhb] at h1
  obtain ⟨x0, x1, x2, x3, x4, x5, x6, x7, x8, x9, x10, x11, y0, y1, y2, y3, y4, y5, y6, y7, y8, y9, y10, y11⟩ := raw12 (b := hb) (h1)
  have H := Lib.hid h1
  have HSM := Lib.hid hs
  clear h h1 hk hfw hmx hrb hs
  go_enter Try.func10, Try.ntmps10
  go_wp2_with (first
    | (go_at_call 38; (with_reducible refine (speaks12 H.out).mono ?_); rintro e_ wn ⟨rfl, K2, hk2, h⟩; have HK2 := Lib.hid (Know.has_trans hk2 HK.out); clear hk2 HK; replace H := Lib.hid h; clear h; obtain ⟨x0, x1, x2, x3, x4, x5, x6, x7, x8, x9, x10, x11, y0, y1, y2, y3, y4, y5, y6, y7, y8, y9, y10, y11⟩ := raw12 (b := hb) (H.out))
    | (go_at_call 31; (with_reducible refine (l11_small _ _ _ _ _ _ _ _ _ _ _ l _ _ false HSM.out HFW.out HK2.out H.out).mono ?_); rintro e_ wn ⟨rfl, h⟩; replace H := Lib.hid h; clear h; obtain ⟨x0, x1, x2, x3, x4, x5, x6, x7, x8, x9, x10, x11, y0, y1, y2, y3, y4, y5, y6, y7, y8, y9, y10, y11⟩ := raw12 (b := hb) (H.out)))
  go_ret
  exact ⟨rfl, H.out.below⟩

set_option maxHeartbeats 2000000 in
set_option maxRecDepth 100000 in
theorem mr_bad (base leader : Int) (app txn ctl : Bool) (last first maxt prod epoch sq : Int) (l : List (RecS × Value)) (q : Option Addr) (cap : Nat) (hmx : first ≤ 9223372036854775807) (hrb : Rn base) (hfw : FitW l) (hs : smallB (l.map (·.1)) = true) (e : Int) (he : batErr ⟨base, leader, app, txn, ctl, last, first, maxt, prod, epoch, sq, l.map (·.1)⟩ = e) (h0 : e ≠ 0) {W0 w : World} {K : Know} (hk : K.has (Know.recs (.slice q l.length cap) l)) (h : St W0 w K []) :
    Calls Try.prog 10 #[.agg #[.int .i64 base, .int .i64 leader, .bool app, .bool txn, .bool ctl, .int .i64 last, .int .i64 first, .int .i64 maxt, .int .i64 prod, .int .i64 epoch, .int .i64 sq, .slice q l.length cap]] w fun en w' => en = .returned (.bool true) ∧ Below W0.heap.size W0 w' := by
  have HK := Lib.hid hk
  have HFW := Lib.hid hfw
  have HMX := Lib.hid hmx
  have HRB := Lib.hid hrb
  have h1 := h.allocRaw #[.int .i64 base, .int .i64 leader, .bool app, .bool txn, .bool ctl, .int .i64 last, .int .i64 first, .int .i64 maxt, .int .i64 prod, .int .i64 epoch, .int .i64 sq, .slice q l.length cap] 32
  obtain ⟨hb, hhb⟩ : ∃ b, w.heap.size = b := ⟨_, rfl⟩
  rw [hhb] at h1
  obtain ⟨x0, x1, x2, x3, x4, x5, x6, x7, x8, x9, x10, x11, y0, y1, y2, y3, y4, y5, y6, y7, y8, y9, y10, y11⟩ := raw12 (b := hb) (h1)
  have H := Lib.hid h1
  have HSM := Lib.hid hs
  have HFT := Lib.hid (FitW.fit hfw hs)
  have HLL := Lib.hid (show l.length ≤ 1000000 by have := smallB_len hs; omega)
  have HE := Lib.hid he
  have HEN := Lib.hid (show endOf ⟨base, leader, app, txn, ctl, last, first, maxt, prod, epoch, sq, l.map (·.1)⟩ = (0, 0, 0, 0, 0, false) from if_neg (fun x => h0 (he ▸ x.2)))
  have gz : (e == 0) = false := by rw [beq_eq_false_iff_ne]; exact h0
  have gz3 : (e != 0) = true := by simp [bne, gz]
  clear h h1 hk hfw hmx hrb hs he h0
  go_enter Try.func10, Try.ntmps10
  go_wp2_with (first
    | (go_at_call 38; (with_reducible refine (speaks12 H.out).mono ?_); rintro e_ wn ⟨rfl, K2, hk2, h⟩; have HK2 := Lib.hid (Know.has_trans hk2 HK.out); clear hk2 HK; replace H := Lib.hid h; clear h; obtain ⟨x0, x1, x2, x3, x4, x5, x6, x7, x8, x9, x10, x11, y0, y1, y2, y3, y4, y5, y6, y7, y8, y9, y10, y11⟩ := raw12 (b := hb) (H.out))
    | (go_at_call 31; (with_reducible refine (l11_small _ _ _ _ _ _ _ _ _ _ _ l _ _ true HSM.out HFW.out HK2.out H.out).mono ?_); rintro e_ wn ⟨rfl, h⟩; replace H := Lib.hid h; clear h; obtain ⟨x0, x1, x2, x3, x4, x5, x6, x7, x8, x9, x10, x11, y0, y1, y2, y3, y4, y5, y6, y7, y8, y9, y10, y11⟩ := raw12 (b := hb) (H.out))
    | (go_at_call 39; (with_reducible refine (mrk_read _ _ _ _ _ _ _ _ _ _ _ l _ _ _ _ _ _ _ _ HEN.out HMX.out HFT.out HLL.out HK2.out H.out).mono ?_); rintro e_ wn ⟨rfl, h⟩; have h := h.allocRaw #[.int .i64 0, .int .i64 0, .int .i64 0, .int .i64 0, .int .i64 0] 75; obtain ⟨xb, hxb⟩ : ∃ b, wn.heap.size = b := ⟨_, rfl⟩; rw [hxb] at h; obtain ⟨x0, x1, x2, x3, x4, x5, x6, x7, x8, x9, x10, x11, y0, y1, y2, y3, y4, y5, y6, y7, y8, y9, y10, y11⟩ := raw12 (b := hb) (h.p1); obtain ⟨⟨p0, p1, p2, p3, p4⟩, u0, u1, u2, u3, u4⟩ := raw5e (b := xb) (h); replace H := Lib.hid h; clear h)
    | (go_at_call 32; (with_reducible refine (ref11_check _ _ _ _ _ _ _ _ _ _ _ l _ _ e HE.out HMX.out HRB.out HFT.out HLL.out HK2.out H.out).mono ?_); rintro e_ wn ⟨rfl, h⟩; obtain ⟨x0, x1, x2, x3, x4, x5, x6, x7, x8, x9, x10, x11, y0, y1, y2, y3, y4, y5, y6, y7, y8, y9, y10, y11⟩ := raw12 (b := hb) (h.p1); obtain ⟨⟨p0, p1, p2, p3, p4⟩, u0, u1, u2, u3, u4⟩ := raw5e (b := xb) (h); replace H := Lib.hid h; clear h))
  go_ret
  exact ⟨rfl, H.out.below⟩

set_option maxHeartbeats 2000000 in
set_option maxRecDepth 100000 in
theorem mr_none (base leader : Int) (app txn ctl : Bool) (last first maxt prod epoch sq : Int) (l : List (RecS × Value)) (q : Option Addr) (cap : Nat) (hmx : first ≤ 9223372036854775807) (hrb : Rn base) (hfw : FitW l) (hs : smallB (l.map (·.1)) = true) (he : batErr ⟨base, leader, app, txn, ctl, last, first, maxt, prod, epoch, sq, l.map (·.1)⟩ = 0) (hc : ctl = false) {W0 w : World} {K : Know} (hk : K.has (Know.recs (.slice q l.length cap) l)) (h : St W0 w K []) :
    Calls Try.prog 10 #[.agg #[.int .i64 base, .int .i64 leader, .bool app, .bool txn, .bool ctl, .int .i64 last, .int .i64 first, .int .i64 maxt, .int .i64 prod, .int .i64 epoch, .int .i64 sq, .slice q l.length cap]] w fun en w' => en = .returned (.bool true) ∧ Below W0.heap.size W0 w' := by
  have HK := Lib.hid hk
  have HFW := Lib.hid hfw
  have HMX := Lib.hid hmx
  have HRB := Lib.hid hrb
  have h1 := h.allocRaw #[.int .i64 base, .int .i64 leader, .bool app, .bool txn, .bool ctl, .int .i64 last, .int .i64 first, .int .i64 maxt, .int .i64 prod, .int .i64 epoch, .int .i64 sq, .slice q l.length cap] 32
  obtain ⟨hb, hhb⟩ : ∃ b, w.heap.size = b := ⟨_, rfl⟩
  rw [hhb] at h1
  obtain ⟨x0, x1, x2, x3, x4, x5, x6, x7, x8, x9, x10, x11, y0, y1, y2, y3, y4, y5, y6, y7, y8, y9, y10, y11⟩ := raw12 (b := hb) (h1)
  have H := Lib.hid h1
  have HSM := Lib.hid hs
  have HFT := Lib.hid (FitW.fit hfw hs)
  have HLL := Lib.hid (show l.length ≤ 1000000 by have := smallB_len hs; omega)
  have HE := Lib.hid he
  subst hc
  have HEN := Lib.hid (show endOf ⟨base, leader, app, txn, false, last, first, maxt, prod, epoch, sq, l.map (·.1)⟩ = (0, 0, 0, 0, 0, false) from if_neg (fun x => by cases x.1))
  clear h h1 hk hfw hmx hrb hs he
  go_enter Try.func10, Try.ntmps10
  go_wp2_with (first
    | (go_at_call 38; (with_reducible refine (speaks12 H.out).mono ?_); rintro e_ wn ⟨rfl, K2, hk2, h⟩; have HK2 := Lib.hid (Know.has_trans hk2 HK.out); clear hk2 HK; replace H := Lib.hid h; clear h; obtain ⟨x0, x1, x2, x3, x4, x5, x6, x7, x8, x9, x10, x11, y0, y1, y2, y3, y4, y5, y6, y7, y8, y9, y10, y11⟩ := raw12 (b := hb) (H.out))
    | (go_at_call 31; (with_reducible refine (l11_small _ _ _ _ _ _ _ _ _ _ _ l _ _ true HSM.out HFW.out HK2.out H.out).mono ?_); rintro e_ wn ⟨rfl, h⟩; replace H := Lib.hid h; clear h; obtain ⟨x0, x1, x2, x3, x4, x5, x6, x7, x8, x9, x10, x11, y0, y1, y2, y3, y4, y5, y6, y7, y8, y9, y10, y11⟩ := raw12 (b := hb) (H.out))
    | (go_at_call 39; (with_reducible refine (mrk_read _ _ _ _ _ _ _ _ _ _ _ l _ _ _ _ _ _ _ _ HEN.out HMX.out HFT.out HLL.out HK2.out H.out).mono ?_); rintro e_ wn ⟨rfl, h⟩; have h := h.allocRaw #[.int .i64 0, .int .i64 0, .int .i64 0, .int .i64 0, .int .i64 0] 75; obtain ⟨xb, hxb⟩ : ∃ b, wn.heap.size = b := ⟨_, rfl⟩; rw [hxb] at h; obtain ⟨x0, x1, x2, x3, x4, x5, x6, x7, x8, x9, x10, x11, y0, y1, y2, y3, y4, y5, y6, y7, y8, y9, y10, y11⟩ := raw12 (b := hb) (h.p1); obtain ⟨⟨p0, p1, p2, p3, p4⟩, u0, u1, u2, u3, u4⟩ := raw5e (b := xb) (h); replace H := Lib.hid h; clear h)
    | (go_at_call 32; (with_reducible refine (ref11_check _ _ _ _ _ _ _ _ _ _ _ l _ _ 0 HE.out HMX.out HRB.out HFT.out HLL.out HK2.out H.out).mono ?_); rintro e_ wn ⟨rfl, h⟩; obtain ⟨x0, x1, x2, x3, x4, x5, x6, x7, x8, x9, x10, x11, y0, y1, y2, y3, y4, y5, y6, y7, y8, y9, y10, y11⟩ := raw12 (b := hb) (h.p1); obtain ⟨⟨p0, p1, p2, p3, p4⟩, u0, u1, u2, u3, u4⟩ := raw5e (b := xb) (h); replace H := Lib.hid h; clear h))
  go_ret
  exact ⟨rfl, H.out.below⟩

end Go.Proofs.Ytcjgdlfcfcabiaa

/- Layer 12, walked: MarkerReads. -/
namespace Go.Proofs.Ytcjgdlfcfcabiaa
open Go.RowKit

set_option maxHeartbeats 2000000 in
set_option maxRecDepth 100000 in
theorem mr_end (base leader : Int) (app txn ctl : Bool) (last first maxt prod epoch sq : Int) (l : List (RecS × Value)) (q : Option Addr) (cap : Nat) (hmx : first ≤ 9223372036854775807) (hrb : Rn base) (hfw : FitW l) (hs : smallB (l.map (·.1)) = true) (he : batErr ⟨base, leader, app, txn, ctl, last, first, maxt, prod, epoch, sq, l.map (·.1)⟩ = 0) (hc : ctl = true) {W0 w : World} {K : Know} (hk : K.has (Know.recs (.slice q l.length cap) l)) (h : St W0 w K []) :
    Calls Try.prog 10 #[.agg #[.int .i64 base, .int .i64 leader, .bool app, .bool txn, .bool ctl, .int .i64 last, .int .i64 first, .int .i64 maxt, .int .i64 prod, .int .i64 epoch, .int .i64 sq, .slice q l.length cap]] w fun en w' => en = .returned (.bool true) ∧ Below W0.heap.size W0 w' := by
  have HK := Lib.hid hk
  have HFW := Lib.hid hfw
  have HMX := Lib.hid hmx
  have HRB := Lib.hid hrb
  have h1 := h.allocRaw #[.int .i64 base, .int .i64 leader, .bool app, .bool txn, .bool ctl, .int .i64 last, .int .i64 first, .int .i64 maxt, .int .i64 prod, .int .i64 epoch, .int .i64 sq, .slice q l.length cap] 32
  obtain ⟨hb, hhb⟩ : ∃ b, w.heap.size = b := ⟨_, rfl⟩
  rw [hhb] at h1
  obtain ⟨x0, x1, x2, x3, x4, x5, x6, x7, x8, x9, x10, x11, y0, y1, y2, y3, y4, y5, y6, y7, y8, y9, y10, y11⟩ := raw12 (b := hb) (h1)
  have H := Lib.hid h1
  have HSM := Lib.hid hs
  have HFT := Lib.hid (FitW.fit hfw hs)
  have HLL := Lib.hid (show l.length ≤ 1000000 by have := smallB_len hs; omega)
  subst hc
  have HE := Lib.hid he
  obtain ⟨z, hz, hz2, hz3, hz4⟩ := batErr_ctl _ he rfl
  simp only at hz hz3 hz4
  have hlen : l.length = 1 := by have := congrArg List.length hz; simpa using this
  have h00 : 0 < l.length := by omega
  obtain ⟨b, off, hqq⟩ := recs_at hk h h00
  subst hqq
  obtain ⟨⟨x, vx⟩, hx⟩ : ∃ x, l[0]'h00 = x := ⟨_, rfl⟩
  have hmem : (x, vx) ∈ l := hx ▸ List.getElem_mem _
  obtain rfl : x = z := by
    have h1 := List.getElem_map (·.1) (l := l) (i := 0) (h := by rw [List.length_map]; omega)
    have h2 : (l.map (·.1))[0]'(by rw [List.length_map]; omega) = z := by simp only [hz]; rfl
    rw [h2, hx] at h1
    exact h1.symm
  have xf : x.R ∧ HFit x.hdrs ∧ x.sum ≤ 1000000 := HFT.out (x, vx) hmem
  have xk : K.has (Know.flat RHdr vx 3 x.hdrs) := recs_hdrs hk hmem
  obtain ⟨qx, capx, hvx⟩ := flat_form xk h
  subst hvx
  have XD := Lib.hid (sum_data xf.2.2)
  have hl0 : (0 : Int) < (l.length : Int) := by omega
  obtain ⟨⟨i1, i2, i3⟩, hi⟩ : ∃ r, ctlOf x = r := ⟨_, rfl⟩
  rw [hi] at hz2
  simp only at hz2
  subst hz2
  obtain ⟨n4, hft⟩ : ∃ t, first + x.time = t := ⟨_, rfl⟩
  have HEN := Lib.hid (show endOf ⟨base, leader, app, txn, true, last, first, maxt, prod, epoch, sq, l.map (·.1)⟩ = (prod, epoch, i1, n4, i2, true) by
    unfold endOf
    rw [if_pos ⟨rfl, he⟩]
    simp only
    rw [hz]
    simp only
    rw [hi, hft])
  have EC := Lib.hid (show ctlRead x.key.null x.val.null x.key.data x.val.data x.hdrs.length x.off = (i1, i2, 0) from hi)
  have f1 : wrap64 (first + x.time) = n4 := by rw [← hft]; unfold wrap64; omega
  have f2 : IntKind.i64.wrap (first + x.time) = n4 := by rw [← hft]; exact IntWalk.i64_in _ (by omega)
  have HX := Lib.hid hx
  clear hz hz3 hz4 hmem xf xk hi hft hlen hx h h1 hk hfw hmx hrb hs he
  go_enter Try.func10, Try.ntmps10
  go_upto_region 9 with (first
    | (go_at_call 38; (with_reducible refine (speaks12 H.out).mono ?_); rintro e_ wn ⟨rfl, K2, hk2, h⟩; have HK2 := Lib.hid (Know.has_trans hk2 HK.out); clear hk2 HK; replace H := Lib.hid h; clear h; obtain ⟨x0, x1, x2, x3, x4, x5, x6, x7, x8, x9, x10, x11, y0, y1, y2, y3, y4, y5, y6, y7, y8, y9, y10, y11⟩ := raw12 (b := hb) (H.out))
    | (go_at_call 31; (with_reducible refine (l11_small _ _ _ _ _ _ _ _ _ _ _ l _ _ true HSM.out HFW.out HK2.out H.out).mono ?_); rintro e_ wn ⟨rfl, h⟩; replace H := Lib.hid h; clear h; obtain ⟨x0, x1, x2, x3, x4, x5, x6, x7, x8, x9, x10, x11, y0, y1, y2, y3, y4, y5, y6, y7, y8, y9, y10, y11⟩ := raw12 (b := hb) (H.out))
    | (go_at_call 39; (with_reducible refine (mrk_read _ _ _ _ _ _ _ _ _ _ _ l _ _ _ _ _ _ _ _ HEN.out HMX.out HFT.out HLL.out HK2.out H.out).mono ?_); rintro e_ wn ⟨rfl, h⟩; have h := h.allocRaw #[.int .i64 prod, .int .i64 epoch, .int .i64 i1, .int .i64 n4, .int .i64 i2] 75; obtain ⟨xb, hxb⟩ : ∃ b, wn.heap.size = b := ⟨_, rfl⟩; rw [hxb] at h; obtain ⟨x0, x1, x2, x3, x4, x5, x6, x7, x8, x9, x10, x11, y0, y1, y2, y3, y4, y5, y6, y7, y8, y9, y10, y11⟩ := raw12 (b := hb) (h.p1); obtain ⟨⟨p0, p1, p2, p3, p4⟩, u0, u1, u2, u3, u4⟩ := raw5e (b := xb) (h); replace H := Lib.hid h; clear h)
    | (go_at_call 32; (with_reducible refine (ref11_check _ _ _ _ _ _ _ _ _ _ _ l _ _ 0 HE.out HMX.out HRB.out HFT.out HLL.out HK2.out H.out).mono ?_); rintro e_ wn ⟨rfl, h⟩; obtain ⟨x0, x1, x2, x3, x4, x5, x6, x7, x8, x9, x10, x11, y0, y1, y2, y3, y4, y5, y6, y7, y8, y9, y10, y11⟩ := raw12 (b := hb) (h.p1); obtain ⟨⟨p0, p1, p2, p3, p4⟩, u0, u1, u2, u3, u4⟩ := raw5e (b := xb) (h); have cc := recs_cell HK2.out h 0 h00 (x, .slice qx x.hdrs.length capx) HX.out; simp only [Nat.zero_mul, Nat.zero_add, Nat.add_zero] at cc; obtain ⟨c0, c1, c2, c3, c4, c5, c6⟩ := cc; replace H := Lib.hid h; clear h)
    | (go_at_call 40; (with_reducible refine (ref08_read x.time x.off x.key.null x.val.null x.key.data x.val.data qx x.hdrs.length capx (i1, i2, 0) EC.out XD.out.1 XD.out.2 H.out).mono ?_); rintro e_ wn ⟨rfl, h⟩; obtain ⟨x0, x1, x2, x3, x4, x5, x6, x7, x8, x9, x10, x11, y0, y1, y2, y3, y4, y5, y6, y7, y8, y9, y10, y11⟩ := raw12 (b := hb) (h.p1); obtain ⟨⟨p0, p1, p2, p3, p4⟩, u0, u1, u2, u3, u4⟩ := raw5e (b := xb) (h); have cc := recs_cell HK2.out h 0 h00 (x, .slice qx x.hdrs.length capx) HX.out; simp only [Nat.zero_mul, Nat.zero_add, Nat.add_zero] at cc; obtain ⟨c0, c1, c2, c3, c4, c5, c6⟩ := cc; replace H := Lib.hid h; clear h))
  refine wp_region_held_drew (S := fun w' => w'.cell? ⟨xb, 0, none⟩ = some (.int .i64 prod) ∧ w'.cell? ⟨xb, 1, none⟩ = some (.int .i64 epoch) ∧ w'.cell? ⟨xb, 2, none⟩ = some (.int .i64 i1) ∧ w'.cell? ⟨xb, 3, none⟩ = some (.int .i64 n4) ∧ w'.cell? ⟨xb, 4, none⟩ = some (.int .i64 i2) ∧ w'.cell? ⟨hb, 8, none⟩ = some (.int .i64 prod) ∧ w'.cell? ⟨hb, 9, none⟩ = some (.int .i64 epoch) ∧ w'.cell? ⟨hb, 6, none⟩ = some (.int .i64 first) ∧ w'.cell? ⟨hb, 11, none⟩ = some (.slice (some ⟨b, off, none⟩) l.length cap) ∧ w'.cell? ⟨b, off, none⟩ = some (.int .i64 x.time)) (by kernel_rfl) ⟨p0, p1, p2, p3, p4, x8, x9, x6, x11, c0⟩ (fun hHeld => ?_)
  clear x0 y0 x1 y1 x2 y2 x3 y3 x4 y4 x5 y5 x6 y6 x7 y7 x8 y8 x9 y9 x10 y10 x11 y11 p0 p1 p2 p3 p4 u0 u1 u2 u3 u4 c0 c1 c2 c3 c4 c5 c6
  replace H := Lib.hid H.out.drew
  refine wpAnyH_take (i := 0) (oi := { dst := some 42, op := Op.move (Operand.tmp 4), type := 4, pos := "law.go:62", after := #[], guard := none }) (v := ?_) rfl (by kernel_rfl) (by kernel_rfl) (by kernel_rfl) (fun _ _ _ h => h) (Or.inl ⟨by rfl, ?_⟩) (by assumption) ?_
  rotate_left
  · intro w hSw; (try dsimp only at hSw); go_simp; try with_reducible rfl
  simp only [Act.put, List.setIfInBounds_toArray, List.set_cons_zero, List.set_cons_succ]
  refine wpAnyH_take (i := 1) (oi := { dst := some 43, op := Op.move (Operand.tmp 42), type := 4, pos := "law.go:62", after := #[{ on := 0, ground := Ground.data }], guard := none }) (v := ?_) rfl (by kernel_rfl) (by kernel_rfl) (by kernel_rfl) (fun _ _ _ h => h) (Or.inl ⟨by rfl, ?_⟩) (by assumption) ?_
  rotate_left
  · intro w hSw; (try dsimp only at hSw); go_simp; try with_reducible rfl
  simp only [Act.put, List.setIfInBounds_toArray, List.set_cons_zero, List.set_cons_succ]
  refine wpAnyH_take (i := 2) (oi := { dst := some 44, op := Op.load 75 (Operand.tmp 3), type := 75, pos := "law.go:62", after := #[{ on := 1, ground := Ground.guard }], guard := some (1, true) }) (v := ?_) rfl (by kernel_rfl) (by kernel_rfl) (by kernel_rfl) (fun _ _ _ h => h) (Or.inl ⟨by rfl, ?_⟩) (by assumption) ?_
  rotate_left
  · intro w hSw; (try dsimp only at hSw); go_simp; try with_reducible rfl
  simp only [Act.put, List.setIfInBounds_toArray, List.set_cons_zero, List.set_cons_succ]
  refine wpAnyH_take (i := 3) (oi := { dst := some 45, op := Op.fieldAddr 32 (Operand.tmp 1) 8, type := 0, pos := "law.go:62", after := #[{ on := 1, ground := Ground.guard }], guard := some (1, true) }) (v := ?_) rfl (by kernel_rfl) (by kernel_rfl) (by kernel_rfl) (fun _ _ _ h => h) (Or.inl ⟨by rfl, ?_⟩) (by assumption) ?_
  rotate_left
  · intro w hSw; (try dsimp only at hSw); go_simp; try with_reducible rfl
  simp only [Act.put, List.setIfInBounds_toArray, List.set_cons_zero, List.set_cons_succ]
  refine wpAnyH_take (i := 4) (oi := { dst := some 46, op := Op.load 3 (Operand.tmp 45), type := 3, pos := "law.go:62", after := #[{ on := 3, ground := Ground.data }, { on := 1, ground := Ground.guard }], guard := some (1, true) }) (v := ?_) rfl (by kernel_rfl) (by kernel_rfl) (by kernel_rfl) (fun _ _ _ h => h) (Or.inl ⟨by rfl, ?_⟩) (by assumption) ?_
  rotate_left
  · intro w hSw; (try dsimp only at hSw); go_simp; try with_reducible rfl
  simp only [Act.put, List.setIfInBounds_toArray, List.set_cons_zero, List.set_cons_succ]
  refine wpAnyH_take (i := 5) (oi := { dst := some 47, op := Op.fieldAddr 32 (Operand.tmp 1) 9, type := 0, pos := "law.go:62", after := #[{ on := 1, ground := Ground.guard }], guard := some (1, true) }) (v := ?_) rfl (by kernel_rfl) (by kernel_rfl) (by kernel_rfl) (fun _ _ _ h => h) (Or.inl ⟨by rfl, ?_⟩) (by assumption) ?_
  rotate_left
  · intro w hSw; (try dsimp only at hSw); go_simp; try with_reducible rfl
  simp only [Act.put, List.setIfInBounds_toArray, List.set_cons_zero, List.set_cons_succ]
  refine wpAnyH_take (i := 6) (oi := { dst := some 48, op := Op.load 3 (Operand.tmp 47), type := 3, pos := "law.go:62", after := #[{ on := 5, ground := Ground.data }, { on := 1, ground := Ground.guard }], guard := some (1, true) }) (v := ?_) rfl (by kernel_rfl) (by kernel_rfl) (by kernel_rfl) (fun _ _ _ h => h) (Or.inl ⟨by rfl, ?_⟩) (by assumption) ?_
  rotate_left
  · intro w hSw; (try dsimp only at hSw); go_simp; try with_reducible rfl
  simp only [Act.put, List.setIfInBounds_toArray, List.set_cons_zero, List.set_cons_succ]
  refine wpAnyH_take (i := 7) (oi := { dst := some 49, op := Op.move (Operand.tmp 5), type := 3, pos := "law.go:62", after := #[{ on := 1, ground := Ground.guard }], guard := some (1, true) }) (v := ?_) rfl (by kernel_rfl) (by kernel_rfl) (by kernel_rfl) (fun _ _ _ h => h) (Or.inl ⟨by rfl, ?_⟩) (by assumption) ?_
  rotate_left
  · intro w hSw; (try dsimp only at hSw); go_simp; try with_reducible rfl
  simp only [Act.put, List.setIfInBounds_toArray, List.set_cons_zero, List.set_cons_succ]
  refine wpAnyH_take (i := 8) (oi := { dst := some 50, op := Op.fieldAddr 32 (Operand.tmp 1) 6, type := 0, pos := "law.go:62", after := #[{ on := 1, ground := Ground.guard }], guard := some (1, true) }) (v := ?_) rfl (by kernel_rfl) (by kernel_rfl) (by kernel_rfl) (fun _ _ _ h => h) (Or.inl ⟨by rfl, ?_⟩) (by assumption) ?_
  rotate_left
  · intro w hSw; (try dsimp only at hSw); go_simp; try with_reducible rfl
  simp only [Act.put, List.setIfInBounds_toArray, List.set_cons_zero, List.set_cons_succ]
  refine wpAnyH_take (i := 9) (oi := { dst := some 51, op := Op.load 3 (Operand.tmp 50), type := 3, pos := "law.go:62", after := #[{ on := 8, ground := Ground.data }, { on := 1, ground := Ground.guard }], guard := some (1, true) }) (v := ?_) rfl (by kernel_rfl) (by kernel_rfl) (by kernel_rfl) (fun _ _ _ h => h) (Or.inl ⟨by rfl, ?_⟩) (by assumption) ?_
  rotate_left
  · intro w hSw; (try dsimp only at hSw); go_simp; try with_reducible rfl
  simp only [Act.put, List.setIfInBounds_toArray, List.set_cons_zero, List.set_cons_succ]
  refine wpAnyH_take (i := 10) (oi := { dst := some 52, op := Op.fieldAddr 32 (Operand.tmp 1) 11, type := 0, pos := "law.go:62", after := #[{ on := 1, ground := Ground.guard }], guard := some (1, true) }) (v := ?_) rfl (by kernel_rfl) (by kernel_rfl) (by kernel_rfl) (fun _ _ _ h => h) (Or.inl ⟨by rfl, ?_⟩) (by assumption) ?_
  rotate_left
  · intro w hSw; (try dsimp only at hSw); go_simp; try with_reducible rfl
  simp only [Act.put, List.setIfInBounds_toArray, List.set_cons_zero, List.set_cons_succ]
  refine wpAnyH_take (i := 11) (oi := { dst := some 53, op := Op.load 30 (Operand.tmp 52), type := 30, pos := "law.go:62", after := #[{ on := 10, ground := Ground.data }, { on := 1, ground := Ground.guard }], guard := some (1, true) }) (v := ?_) rfl (by kernel_rfl) (by kernel_rfl) (by kernel_rfl) (fun _ _ _ h => h) (Or.inl ⟨by rfl, ?_⟩) (by assumption) ?_
  rotate_left
  · intro w hSw; (try dsimp only at hSw); go_simp; try with_reducible rfl
  simp only [Act.put, List.setIfInBounds_toArray, List.set_cons_zero, List.set_cons_succ]
  refine wpAnyH_take (i := 12) (oi := { dst := some 54, op := Op.indexAddr 30 (Operand.tmp 53) (Operand.const (Value.int IntKind.i64 0)), type := 0, pos := "law.go:62", after := #[{ on := 11, ground := Ground.data }, { on := 1, ground := Ground.guard }], guard := some (1, true) }) (v := ?_) rfl (by kernel_rfl) (by kernel_rfl) (by kernel_rfl) (fun _ _ _ h => h) (Or.inl ⟨by rfl, ?_⟩) (by assumption) ?_
  rotate_left
  · intro w hSw; (try dsimp only at hSw); go_simp; try with_reducible rfl
  simp only [Act.put, List.setIfInBounds_toArray, List.set_cons_zero, List.set_cons_succ]
  refine wpAnyH_take (i := 13) (oi := { dst := some 55, op := Op.fieldAddr 64 (Operand.tmp 54) 0, type := 0, pos := "law.go:62", after := #[{ on := 12, ground := Ground.data }, { on := 1, ground := Ground.guard }], guard := some (1, true) }) (v := ?_) rfl (by kernel_rfl) (by kernel_rfl) (by kernel_rfl) (fun _ _ _ h => h) (Or.inl ⟨by rfl, ?_⟩) (by assumption) ?_
  rotate_left
  · intro w hSw; (try dsimp only at hSw); go_simp; try with_reducible rfl
  simp only [Act.put, List.setIfInBounds_toArray, List.set_cons_zero, List.set_cons_succ]
  refine wpAnyH_take (i := 14) (oi := { dst := some 56, op := Op.load 3 (Operand.tmp 55), type := 3, pos := "law.go:62", after := #[{ on := 13, ground := Ground.data }, { on := 1, ground := Ground.guard }], guard := some (1, true) }) (v := ?_) rfl (by kernel_rfl) (by kernel_rfl) (by kernel_rfl) (fun _ _ _ h => h) (Or.inl ⟨by rfl, ?_⟩) (by assumption) ?_
  rotate_left
  · intro w hSw; (try dsimp only at hSw); go_simp; try with_reducible rfl
  simp only [Act.put, List.setIfInBounds_toArray, List.set_cons_zero, List.set_cons_succ]
  refine wpAnyH_take (i := 15) (oi := { dst := some 57, op := Op.binOp BinOp.add 3 (Operand.tmp 51) (Operand.tmp 56) 3, type := 3, pos := "law.go:62", after := #[{ on := 9, ground := Ground.data }, { on := 14, ground := Ground.data }, { on := 1, ground := Ground.guard }], guard := some (1, true) }) (v := ?_) rfl (by kernel_rfl) (by kernel_rfl) (by kernel_rfl) (fun _ _ _ h => h) (Or.inl ⟨by rfl, ?_⟩) (by assumption) ?_
  rotate_left
  · intro w hSw; (try dsimp only at hSw); go_simp; try with_reducible rfl
  simp only [Act.put, List.setIfInBounds_toArray, List.set_cons_zero, List.set_cons_succ]
  refine wpAnyH_take (i := 16) (oi := { dst := some 58, op := Op.move (Operand.tmp 6), type := 3, pos := "law.go:62", after := #[{ on := 1, ground := Ground.guard }], guard := some (1, true) }) (v := ?_) rfl (by kernel_rfl) (by kernel_rfl) (by kernel_rfl) (fun _ _ _ h => h) (Or.inl ⟨by rfl, ?_⟩) (by assumption) ?_
  rotate_left
  · intro w hSw; (try dsimp only at hSw); go_simp; try with_reducible rfl
  simp only [Act.put, List.setIfInBounds_toArray, List.set_cons_zero, List.set_cons_succ]
  refine wpAnyH_take (i := 17) (oi := { dst := some 59, op := Op.build 75 #[(0, Operand.tmp 46), (1, Operand.tmp 48), (2, Operand.tmp 49), (3, Operand.tmp 57), (4, Operand.tmp 58)], type := 75, pos := "law.go:62", after := #[{ on := 4, ground := Ground.data }, { on := 6, ground := Ground.data }, { on := 7, ground := Ground.data }, { on := 15, ground := Ground.data }, { on := 16, ground := Ground.data }, { on := 1, ground := Ground.guard }], guard := some (1, true) }) (v := ?_) rfl (by kernel_rfl) (by kernel_rfl) (by kernel_rfl) (fun _ _ _ h => h) (Or.inl ⟨by rfl, ?_⟩) (by assumption) ?_
  rotate_left
  · intro w hSw; (try dsimp only at hSw); go_simp; try with_reducible rfl
  simp only [Act.put, List.setIfInBounds_toArray, List.set_cons_zero, List.set_cons_succ]
  refine wpAnyH_take (i := 18) (oi := { dst := some 60, op := Op.binOp BinOp.eql 75 (Operand.tmp 44) (Operand.tmp 59) 75, type := 4, pos := "law.go:62", after := #[{ on := 2, ground := Ground.data }, { on := 17, ground := Ground.data }, { on := 1, ground := Ground.guard }], guard := some (1, true) }) (v := ?_) rfl (by kernel_rfl) (by kernel_rfl) (by kernel_rfl) (fun _ _ _ h => h) (Or.inl ⟨by rfl, ?_⟩) (by assumption) ?_
  rotate_left
  · intro w hSw; (try dsimp only at hSw); go_simp; try with_reducible rfl
  simp only [Act.put, List.setIfInBounds_toArray, List.set_cons_zero, List.set_cons_succ]
  refine wpAnyH_take (i := 19) (oi := { dst := some 61, op := Op.pick (Operand.tmp 43) (Operand.tmp 60) (Operand.const (Value.bool false)), type := 4, pos := "law.go:62", after := #[{ on := 1, ground := Ground.data }, { on := 18, ground := Ground.data }], guard := none }) (v := ?_) rfl (by kernel_rfl) (by kernel_rfl) (by kernel_rfl) (fun _ _ _ h => h) (Or.inl ⟨by rfl, ?_⟩) (by assumption) ?_
  rotate_left
  · intro w hSw; (try dsimp only at hSw); go_simp; try with_reducible rfl
  simp only [Act.put, List.setIfInBounds_toArray, List.set_cons_zero, List.set_cons_succ]
  refine wpAnyH_take (i := 20) (oi := { dst := some 2, op := Op.assign (Operand.tmp 61), type := 4, pos := "law.go:62", after := #[{ on := 19, ground := Ground.data }, { on := 1, ground := Ground.chain }, { on := 0, ground := Ground.phase }, { on := 1, ground := Ground.phase }, { on := 2, ground := Ground.phase }, { on := 3, ground := Ground.phase }, { on := 4, ground := Ground.phase }, { on := 5, ground := Ground.phase }, { on := 6, ground := Ground.phase }, { on := 7, ground := Ground.phase }, { on := 8, ground := Ground.phase }, { on := 9, ground := Ground.phase }, { on := 10, ground := Ground.phase }, { on := 11, ground := Ground.phase }, { on := 12, ground := Ground.phase }, { on := 13, ground := Ground.phase }, { on := 14, ground := Ground.phase }, { on := 15, ground := Ground.phase }, { on := 16, ground := Ground.phase }, { on := 17, ground := Ground.phase }, { on := 18, ground := Ground.phase }, { on := 19, ground := Ground.phase }], guard := none }) (v := ?_) rfl (by kernel_rfl) (by kernel_rfl) (by kernel_rfl) (fun _ _ _ h => h) (Or.inl ⟨by rfl, ?_⟩) (by assumption) ?_
  rotate_left
  · intro w hSw; (try dsimp only at hSw); go_simp; try with_reducible rfl
  simp only [Act.put, List.setIfInBounds_toArray, List.set_cons_zero, List.set_cons_succ]
  refine wpAnyH_done (by kernel_rfl) ?_ _
  clear hHeld
  go_wp2_with fail
  go_ret
  exact ⟨rfl, H.out.below⟩
theorem markerReads_any (base leader : Int) (app txn ctl : Bool) (last first maxt prod epoch sq : Int) (l : List (RecS × Value)) (q : Option Addr) (cap : Nat) (hmx : first ≤ 9223372036854775807) (hrb : Rn base) (hfw : FitW l) {W0 w : World} {K : Know} (hk : K.has (Know.recs (.slice q l.length cap) l)) (h : St W0 w K []) :
    Calls Try.prog 10 #[.agg #[.int .i64 base, .int .i64 leader, .bool app, .bool txn, .bool ctl, .int .i64 last, .int .i64 first, .int .i64 maxt, .int .i64 prod, .int .i64 epoch, .int .i64 sq, .slice q l.length cap]] w fun en w' => en = .returned (.bool true) ∧ Below W0.heap.size W0 w' := by
  cases hs : smallB (l.map (·.1)) with
  | false => exact mr_long _ _ _ _ _ _ _ _ _ _ _ l q cap hmx hrb hfw hs hk h
  | true =>
    by_cases he : batErr ⟨base, leader, app, txn, ctl, last, first, maxt, prod, epoch, sq, l.map (·.1)⟩ = 0
    · cases ctl with
      | false => exact mr_none _ _ _ _ _ _ _ _ _ _ _ l q cap hmx hrb hfw hs he rfl hk h
      | true => exact mr_end _ _ _ _ _ _ _ _ _ _ _ l q cap hmx hrb hfw hs he rfl hk h
    · exact mr_bad _ _ _ _ _ _ _ _ _ _ _ l q cap hmx hrb hfw hs _ rfl he hk h

end Go.Proofs.Ytcjgdlfcfcabiaa

/- Lists of cells. -/
namespace Go.Proofs.Ytcjgdlfcfcabiaa
open Go.RowKit

theorem cells_u8 : Try.prog.cellsOf 5 = 1 := by kernel_rfl
theorem cells_int : Try.prog.cellsOf 3 = 1 := by kernel_rfl
theorem cells_str : Try.prog.cellsOf 9 = 1 := by kernel_rfl
theorem len2 {α : Type} {l : List α} (h : l.length = 2) : ∃ a b, l = [a, b] := by
  match l, h with
  | [a, b], _ => exact ⟨a, b, rfl⟩
theorem len3 {α : Type} {l : List α} (h : l.length = 3) : ∃ a b c, l = [a, b, c] := by
  match l, h with
  | [a, b, c], _ => exact ⟨a, b, c, rfl⟩
theorem len4 {α : Type} {l : List α} (h : l.length = 4) : ∃ a b c d, l = [a, b, c, d] := by
  match l, h with
  | [a, b, c, d], _ => exact ⟨a, b, c, d, rfl⟩

end Go.Proofs.Ytcjgdlfcfcabiaa

/- What arguments are made of, with the reach of each part. -/
namespace Go.Proofs.Ytcjgdlfcfcabiaa
open Go.RowKit
open Go.ChangeShapes Go.WideShapes Go.ChangeAt Go.Deep

/-- No part is beyond all reach. -/
def Light {H : Type} (t : TypeId) (d : DataW H) : Prop := ∀ k ∈ d.weights Try.prog t, k ≤ reachBytes
theorem reach_eq : reachBytes = 140737488351232 := rfl

section
variable {H : Type} {enc : TypeId × Value → H} {w : World} {spare : Nat → Bool} {held : Bool}

theorem light_arg {ts : List TypeId} {ds : List (DataW H)} (h : (DataW.weightsEach Try.prog ts ds).all (· ≤ reachBytes) = true) {j : Nat} {t : TypeId} {d : DataW H} (ht : ts[j]? = some t) (hd : ds[j]? = some d) : Light t d := by
  intro k hk
  have := List.all_eq_true.1 h k (DataW.weights_mem_each ht hd k hk)
  simpa using this

theorem opens_field {t : TypeId} {fs : Array Field} {n N : Nat} {cs : List Value} {y : DataW H × List MemPlace} (ht : Try.prog.underlying t = some (.struct fs)) (h : DataW.trod enc Try.prog w 0 spare held n t cs = some y) (hl : Light t y.1) (hN : ∀ x ∈ y.2, x.block < N) :
    cs.length = Try.prog.cellsOf t ∧ ∃ m, ∀ (i : Nat) (f : Field), fs[i]? = some f → ∃ z, DataW.trod enc Try.prog w 0 spare held m f.type ((cs.drop f.offset).take (Try.prog.cellsOf f.type)) = some z ∧ Light f.type z.1 ∧ ∀ x ∈ z.2, x.block < N := by
  obtain ⟨xs, m, _, rfl, hc, hxl, hg⟩ := DataW.trod_struct ht h
  refine ⟨hc, m, fun i f hf => ?_⟩
  have hi : i < fs.size := (Array.getElem?_eq_some_iff.1 hf).1
  have hx : xs[i]? = some (xs[i]'(by omega)) := List.getElem?_eq_getElem (by omega)
  refine ⟨_, (hg i f hf).trans hx, ?_, fun x hxx => hN x (List.mem_flatMap.2 ⟨_, List.getElem_mem _, hxx⟩)⟩
  intro k hk
  refine hl k ?_
  simp only [DataW.weights, ht]
  exact DataW.weights_mem_each (j := i) (by rw [List.getElem?_map, Array.getElem?_toList, hf]; rfl) (by rw [List.getElem?_map, hx]; rfl) k hk

theorem opens_str {t : TypeId} {n : Nat} {cs : List Value} {y : DataW H × List MemPlace} (ht : Try.prog.underlying t = some .string) (h : DataW.trod enc Try.prog w 0 spare held n t cs = some y) (hl : Light t y.1) : ∃ s : Bs, cs = [.string (bb s)] ∧ s.length ≤ 140737488351232 := by
  obtain ⟨s, e, e2, q⟩ := DataW.trod_string ht h
  refine ⟨s.data.toList, e, ?_⟩
  subst e2
  have := hl s.data.toList.length (by simp [DataW.weights])
  rw [reach_eq] at this
  exact this
theorem opens_i64 {t : TypeId} {n : Nat} {cs : List Value} {y : DataW H × List MemPlace} (ht : Try.prog.underlying t = some (.int .i64)) (h : DataW.trod enc Try.prog w 0 spare held n t cs = some y) : ∃ x : Int, cs = [.int .i64 x] ∧ -9223372036854775808 ≤ x ∧ x < 9223372036854775808 := by
  obtain ⟨x, e, _, q⟩ := DataW.trod_int ht h
  exact ⟨x, e, wf_i64 q⟩
theorem opens_bool {t : TypeId} {n : Nat} {cs : List Value} {y : DataW H × List MemPlace} (ht : Try.prog.underlying t = some .bool) (h : DataW.trod enc Try.prog w 0 spare held n t cs = some y) : ∃ x : Bool, cs = [.bool x] := by
  obtain ⟨x, e, _⟩ := DataW.trod_bool ht h
  exact ⟨x, e⟩

theorem weightsAll_mem' {P : Program} {e : TypeId} : ∀ {l : List (DataW H)} {d : DataW H}, d ∈ l → ∀ k ∈ d.weights P e, k ∈ DataW.weightsAll P e l
  | a :: l, d, hd, k, hk => by
    simp only [DataW.weightsAll, List.mem_append]
    rcases List.mem_cons.1 hd with rfl | hd
    · exact .inl hk
    · exact .inr (weightsAll_mem' hd k hk)

theorem opens_rows {α : Type} {R : World → List Value → α → Prop} {t e : TypeId} {sz N : Nat} (ht : Try.prog.underlying t = some (.slice e)) (hC : Try.prog.cellsOf e = sz) (hsz : 0 < sz)
    (hR : ∀ n cs y, DataW.trod enc Try.prog w 0 spare held n e cs = some y → Light e y.1 → (∀ x ∈ y.2, x.block < N) → ∃ x, R w cs x)
    {fuel : Nat} {cs : List Value} {x : DataW H × List MemPlace} (h : DataW.trod enc Try.prog w 0 spare held fuel t cs = some x) (hl : Light t x.1) (hlt : ∀ y ∈ x.2, y.block < N) (hN : N ≤ w.heap.size) :
    ∃ v l, cs = [v] ∧ RowsOf R (· < N) w v sz l ∧ l.length * Try.prog.bytesOf e ≤ 140737488351232 ∧ l.length ≤ maxLen := by
  rcases open_slice ht h with ⟨rfl, rfl⟩ | ⟨a, len, cap, m, n, D, Pl, rfl, hb, hlc, hm, hmm, hx, hi⟩
  · exact ⟨_, [], rfl, ⟨none, 0, rfl, fun h => absurd h (by simp)⟩, by simp, by simp⟩
  · have hlm : len ≤ m := by rw [hmm]; split <;> omega
    have hp2 : x.2 = MemPlace.row a (m * Try.prog.cellsOf e) ++ (List.range m).flatMap Pl := by rw [hx]
    have hx1 : x.1 = .slice ((List.range len).map D) ((List.range (m - len)).map fun j => D (len + j)) := by rw [hx]
    have hsum : len * Try.prog.bytesOf e ≤ 140737488351232 := by
      have := hl (((List.range len).map D).length * Try.prog.bytesOf e + ((List.range (m - len)).map fun j => D (len + j)).length * Try.prog.bytesOf e) (by rw [hx1]; simp [DataW.weights, ht, Nat.add_mul])
      rw [reach_eq] at this
      simp only [List.length_map, List.length_range] at this
      omega
    have hle : ∀ i, i < len → Light e (D i) := by
      intro i hil k hk
      refine hl k ?_
      rw [hx1]
      simp only [DataW.weights, ht, List.mem_cons, List.mem_append]
      exact .inr (.inl (weightsAll_mem' (List.mem_map.2 ⟨i, List.mem_range.2 hil, rfl⟩) k hk))
    have key : ∀ i, i < len → ∃ y : α, ∃ cs', cs'.length = sz ∧ R w cs' y ∧ (∀ f u, cs'[f]? = some u → w.cell? ((a.add (i * sz)).add f) = some u) := by
      intro i hil
      obtain ⟨cs', hc, htr⟩ := hi i (by omega)
      obtain ⟨_, hcl, hat⟩ := World.cells?_some hc
      obtain ⟨y, hy⟩ := hR n cs' _ htr (hle i hil) (fun z hz => hlt z (by rw [hp2, List.mem_append]; exact .inr (List.mem_flatMap.2 ⟨i, by simp; omega, hz⟩)))
      rw [hC] at hcl hat
      refine ⟨y, cs', hcl, hy, fun f u hu => ?_⟩
      have hf : f < sz := by rw [← hcl]; exact (List.getElem?_eq_some_iff.1 hu).1
      rw [hat f hf, hu]
    obtain ⟨l, hll, hq⟩ := list_of len _ key
    refine ⟨_, l, rfl, ⟨some a, cap, by rw [hll], fun h0 => ?_⟩, by rw [hll]; exact hsum, by omega⟩
    obtain ⟨cs0, h1, h2, h3⟩ := hq 0 h0
    have hc0 : w.cell? a = some (cs0[0]'(by omega)) := by
      have := h3 0 _ (List.getElem?_eq_getElem (by omega))
      simpa [Addr.add] using this
    have hsp : a.spot = none := by
      cases hs : a.spot with
      | none => rfl
      | some s =>
        unfold World.cell? at hc0
        split at hc0 <;> simp_all
    obtain ⟨ab, ao, asp⟩ := a
    simp only at hsp
    subst hsp
    have hlt0 : ab < N := hlt (.cell ab ao) (by
      rw [hp2, List.mem_append]
      left
      simp only [MemPlace.row, List.mem_map, List.mem_range]
      exact ⟨0, by rw [hC]; exact Nat.mul_pos (by omega) hsz, by simp⟩)
    refine ⟨ab, ao, rfl, hlt0, Nat.lt_of_lt_of_le hlt0 hN, fun i hi => ?_⟩
    obtain ⟨cs', g1, g2, g3⟩ := hq i hi
    refine ⟨cs', g1, g2, fun f u hu => ?_⟩
    have := g3 f u hu
    have e1 : ∀ (o q : Nat), (⟨ab, o, none⟩ : Addr).add q = ⟨ab, o + q, none⟩ := by intro o q; unfold Addr.add; split <;> simp_all
    rw [e1, e1, Nat.add_assoc] at this
    exact this
end

/-- Of a row's things, what is said of each, apart. -/
theorem RowsOf.part {α : Type} {R : World → List Value → α → Prop} {Q : α → Prop} {D : Nat → Prop} {w : World} {v : Value} {sz : Nat} {l : List α} (h : RowsOf (fun w cs x => R w cs x ∧ Q x) D w v sz l) : RowsOf R D w v sz l ∧ ∀ x ∈ l, Q x := by
  refine ⟨h.mono (fun _ _ h => h) (fun _ _ h => h.1), fun x hx => ?_⟩
  obtain ⟨i, hi, rfl⟩ := List.mem_iff_getElem.1 hx
  obtain ⟨p, cap, rfl, h⟩ := h
  obtain ⟨b, off, rfl, _, _, hc⟩ := h (by omega)
  obtain ⟨cs, _, h2, _⟩ := hc i hi
  exact h2.2

end Go.Proofs.Ytcjgdlfcfcabiaa

/- The elements of arguments, opened: headers. -/
namespace Go.Proofs.Ytcjgdlfcfcabiaa
open Go.RowKit

open Go.ChangeShapes Go.WideShapes Go.ChangeAt Go.Deep

theorem cells_hdr : Try.prog.cellsOf 96 = 3 := by kernel_rfl
theorem cells_blob : Try.prog.cellsOf 61 = 2 := by kernel_rfl
theorem cells_bool : Try.prog.cellsOf 4 = 1 := by kernel_rfl
section
variable {H : Type} {enc : TypeId × Value → H} {w : World} {spare : Nat → Bool} {held : Bool}
set_option maxRecDepth 100000 in
theorem blob_open : ∀ n a b y, DataW.trod enc Try.prog w 0 spare held n 61 [a, b] = some y → ∃ (nl : Bool) (d : ByteArray), a = .bool nl ∧ b = .string d ∧ d.size ≤ maxLen := by
  intro n a b y h
  obtain ⟨xs, n', _, hx, hl, hxl, hg⟩ := DataW.trod_struct Try.underlying61 h
  have g0 : DataW.trod enc Try.prog w 0 spare held n' 4 (List.take (Try.prog.cellsOf 4) (List.drop 0 [a, b])) = xs[0]? := hg 0 _ rfl
  have g1 : DataW.trod enc Try.prog w 0 spare held n' 9 (List.take (Try.prog.cellsOf 9) (List.drop 1 [a, b])) = xs[1]? := hg 1 _ rfl
  rw [cells_bool] at g0
  rw [cells_str] at g1
  obtain ⟨y0, y1, rfl⟩ := len2 hxl
  obtain ⟨x0, e0, _⟩ := DataW.trod_bool Try.underlying4 g0
  obtain ⟨x1, e1, _, q1⟩ := DataW.trod_string Try.underlying9 g1
  simp at e0 e1
  exact ⟨x0, x1, e0, e1, q1⟩
set_option maxRecDepth 100000 in
theorem rhdr_open {N : Nat} : ∀ n cs y, DataW.trod enc Try.prog w 0 spare held n 96 cs = some y → (∀ x ∈ y.2, x.block < N) → ∃ x : HdrS, RHdr cs x := by
  intro n cs y h _
  obtain ⟨xs, n', _, hx, hl, hxl, hg⟩ := DataW.trod_struct Try.underlying96 h
  rw [cells_hdr] at hl
  obtain ⟨a, b, c, rfl⟩ := len3 hl
  have g0 : DataW.trod enc Try.prog w 0 spare held n' 9 (List.take (Try.prog.cellsOf 9) (List.drop 0 [a, b, c])) = xs[0]? := hg 0 _ rfl
  have g1 : DataW.trod enc Try.prog w 0 spare held n' 61 (List.take (Try.prog.cellsOf 61) (List.drop 1 [a, b, c])) = xs[1]? := hg 1 _ rfl
  rw [cells_str] at g0
  rw [cells_blob] at g1
  obtain ⟨y0, y1, rfl⟩ := len2 hxl
  obtain ⟨x0, e0, _, q0⟩ := DataW.trod_string Try.underlying9 g0
  obtain ⟨nl, d, e1, e2, _⟩ := blob_open _ _ _ _ g1
  simp at e0
  subst e0 e1 e2
  exact ⟨⟨x0.data.toList, ⟨nl, d.data.toList⟩⟩, rfl⟩
end

end Go.Proofs.Ytcjgdlfcfcabiaa

/- The elements of arguments, opened, with their reach: headers. -/
namespace Go.Proofs.Ytcjgdlfcfcabiaa
open Go.RowKit
open Go.ChangeShapes Go.WideShapes Go.ChangeAt Go.Deep

section
variable {H : Type} {enc : TypeId × Value → H} {w : World} {spare : Nat → Bool} {held : Bool}
set_option maxRecDepth 100000 in
theorem blob_opens {N : Nat} : ∀ n cs y, DataW.trod enc Try.prog w 0 spare held n 61 cs = some y → Light 61 y.1 → (∀ x ∈ y.2, x.block < N) → ∃ x : BlobS, cs = [.bool x.null, .string (bb x.data)] ∧ x.data.length ≤ 140737488351232 := by
  intro n cs y h hl hN
  obtain ⟨hc, m, hf⟩ := opens_field Try.underlying61 h hl hN
  rw [cells_blob] at hc
  obtain ⟨a, b, rfl⟩ := len2 hc
  obtain ⟨z0, g0, l0, _⟩ := hf 0 _ rfl
  obtain ⟨z1, g1, l1, _⟩ := hf 1 _ rfl
  have g0 : DataW.trod enc Try.prog w 0 spare held m 4 (List.take (Try.prog.cellsOf 4) (List.drop 0 [a, b])) = some z0 := g0
  have g1 : DataW.trod enc Try.prog w 0 spare held m 9 (List.take (Try.prog.cellsOf 9) (List.drop 1 [a, b])) = some z1 := g1
  rw [cells_bool] at g0
  rw [cells_str] at g1
  obtain ⟨x, e0⟩ := opens_bool Try.underlying4 g0
  obtain ⟨s, e1, hs⟩ := opens_str Try.underlying9 g1 l1
  simp at e0 e1
  subst e0 e1
  exact ⟨⟨x, s⟩, rfl, hs⟩
set_option maxRecDepth 100000 in
theorem rhdr_opens {N : Nat} : ∀ n cs y, DataW.trod enc Try.prog w 0 spare held n 96 cs = some y → Light 96 y.1 → (∀ x ∈ y.2, x.block < N) → ∃ x : HdrS, RHdr cs x ∧ (x.key.length ≤ 140737488351232 ∧ x.val.data.length ≤ 140737488351232) := by
  intro n cs y h hl hN
  obtain ⟨hc, m, hf⟩ := opens_field Try.underlying96 h hl hN
  rw [cells_hdr] at hc
  obtain ⟨a, b, c, rfl⟩ := len3 hc
  obtain ⟨z0, g0, l0, n0⟩ := hf 0 _ rfl
  obtain ⟨z1, g1, l1, n1⟩ := hf 1 _ rfl
  have g0 : DataW.trod enc Try.prog w 0 spare held m 9 (List.take (Try.prog.cellsOf 9) (List.drop 0 [a, b, c])) = some z0 := g0
  have g1 : DataW.trod enc Try.prog w 0 spare held m 61 (List.take (Try.prog.cellsOf 61) (List.drop 1 [a, b, c])) = some z1 := g1
  rw [cells_str] at g0
  rw [cells_blob] at g1
  obtain ⟨s, e0, hs⟩ := opens_str Try.underlying9 g0 l0
  obtain ⟨x, e1, hx⟩ := blob_opens _ _ _ g1 l1 n1
  simp at e0 e1
  obtain ⟨e1, e2⟩ := e1
  subst e0 e1 e2
  exact ⟨⟨s, x⟩, rfl, hs, hx⟩
end

end Go.Proofs.Ytcjgdlfcfcabiaa

/- Contracts: writing a record, by the document. -/
namespace Go.Proofs.Ytcjgdlfcfcabiaa
open Go.RowKit

theorem raw7S {W0 w : World} {K : Know} {L : List Res} {b : Nat} {T : TypeId} {v0 v1 v2 v3 v4 v5 v6 : Value} (h : St W0 w K (.raw b #[v0, v1, v2, v3, v4, v5, v6] T :: L)) :
    (w.cell? ⟨b, 0, none⟩ = some v0 ∧ w.cell? ⟨b, 1, none⟩ = some v1 ∧ w.cell? ⟨b, 2, none⟩ = some v2 ∧ w.cell? ⟨b, 3, none⟩ = some v3 ∧ w.cell? ⟨b, 4, none⟩ = some v4 ∧ w.cell? ⟨b, 5, none⟩ = some v5 ∧ w.cell? ⟨b, 6, none⟩ = some v6) ∧ St W0 w K (.raw b #[v0, v1, v2, v3, v4, v5, v6] T :: L) :=
  ⟨⟨h.rawCell 0, h.rawCell 1, h.rawCell 2, h.rawCell 3, h.rawCell 4, h.rawCell 5, h.rawCell 6⟩, h⟩
theorem conv_zero {W0 w : World} {K : Know} {L : List Res} {b : Nat} {T : TypeId} (h : St W0 w K (.raw b #[.int .u8 0] T :: L)) :
    (convert 36 9 (.slice (some ⟨b, 0, none⟩) 1 1)).run Try.prog w = .ok (.string ⟨#[0]⟩) w := by
  refine run_convert_bytes_back (P := Try.prog) w 36 9 5 ⟨b, 0, none⟩ 1 [0] Try.underlying36 Try.underlying5 Try.underlying9 (fun j hj => ?_)
  have hj : j = 0 := by simp at hj; exact hj
  subst hj
  exact h.rawCell 0
end Go.Proofs.Ytcjgdlfcfcabiaa

/- Layer 7, walked: RecordEncodes. -/
namespace Go.Proofs.Ytcjgdlfcfcabiaa
open Go.RowKit

end Go.Proofs.Ytcjgdlfcfcabiaa

/- The elements of arguments, opened, with their reach: a record. -/
namespace Go.Proofs.Ytcjgdlfcfcabiaa
open Go.Joins Go.RowKit
open Go.ChangeShapes Go.WideShapes Go.ChangeAt Go.Deep

theorem cells_rec : Try.prog.cellsOf 64 = 7 := by kernel_rfl
theorem cells_hdrs : Try.prog.cellsOf 62 = 1 := by kernel_rfl
section
variable {H : Type} {enc : TypeId × Value → H} {w : World} {spare : Nat → Bool} {held : Bool}
set_option maxHeartbeats 1000000 in
set_option maxRecDepth 100000 in
theorem rec_open {r : Reach} {b0 N : Nat} {v : Value} {d : DataW H} {p : List MemPlace} (hv : Value.okWide Try.prog w r b0 64 v) (h : DataW.Trod enc Try.prog w 0 spare held 64 v d p) (hl : Light 64 d) (hN : ∀ x ∈ p, x.block < N) (hNw : N ≤ w.heap.size) :
    ∃ (x : RecS) (v6 : Value), v = .agg #[.int .i64 x.time, .int .i64 x.off, .bool x.key.null, .string (bb x.key.data), .bool x.val.null, .string (bb x.val.data), v6] ∧ x.R ∧ RowsOf (fun _ cs x => RHdr cs x) (· < N) w v6 3 x.hdrs ∧ x.hdrs.length ≤ maxLen ∧ HFit x.hdrs ∧ x.key.data.length ≤ 140737488351232 ∧ x.val.data.length ≤ 140737488351232 := by
  obtain ⟨cs, rfl, hsz⟩ := okWide_struct Try.underlying64 hv
  obtain ⟨l⟩ := cs
  match l, hsz.trans cells_rec with
  | [c0, c1, c2, c3, c4, c5, c6], _ =>
    obtain ⟨fuel, hf⟩ := h
    obtain ⟨hc, m, hg⟩ := opens_field Try.underlying64 hf hl hN
    obtain ⟨z0, g0, l0, n0⟩ := hg 0 _ rfl
    have g0 : DataW.trod enc Try.prog w 0 spare held m 3 (List.take (Try.prog.cellsOf 3) (List.drop 0 [c0, c1, c2, c3, c4, c5, c6])) = some z0 := g0
    rw [cells_int] at g0
    obtain ⟨z1, g1, l1, n1⟩ := hg 1 _ rfl
    have g1 : DataW.trod enc Try.prog w 0 spare held m 3 (List.take (Try.prog.cellsOf 3) (List.drop 1 [c0, c1, c2, c3, c4, c5, c6])) = some z1 := g1
    rw [cells_int] at g1
    obtain ⟨z2, g2, l2, n2⟩ := hg 2 _ rfl
    have g2 : DataW.trod enc Try.prog w 0 spare held m 61 (List.take (Try.prog.cellsOf 61) (List.drop 2 [c0, c1, c2, c3, c4, c5, c6])) = some z2 := g2
    rw [cells_blob] at g2
    obtain ⟨z3, g3, l3, n3⟩ := hg 3 _ rfl
    have g3 : DataW.trod enc Try.prog w 0 spare held m 61 (List.take (Try.prog.cellsOf 61) (List.drop 4 [c0, c1, c2, c3, c4, c5, c6])) = some z3 := g3
    rw [cells_blob] at g3
    obtain ⟨z4, g4, l4, n4⟩ := hg 4 _ rfl
    have g4 : DataW.trod enc Try.prog w 0 spare held m 62 (List.take (Try.prog.cellsOf 62) (List.drop 6 [c0, c1, c2, c3, c4, c5, c6])) = some z4 := g4
    rw [cells_hdrs] at g4
    obtain ⟨x0, e0, r0⟩ := opens_i64 Try.underlying3 g0
    obtain ⟨x1, e1, r1⟩ := opens_i64 Try.underlying3 g1
    obtain ⟨x2, e2, s2⟩ := blob_opens _ _ _ g2 l2 n2
    obtain ⟨x3, e3, s3⟩ := blob_opens _ _ _ g3 l3 n3
    obtain ⟨v6, x4, e4, hr, _, hm⟩ := opens_rows (R := fun w cs x => (fun _ cs x => RHdr cs x) w cs x ∧ (fun x : HdrS => x.key.length ≤ 140737488351232 ∧ x.val.data.length ≤ 140737488351232) x) (N := N) Try.underlying62 cells_hdr (by decide) rhdr_opens g4 l4 n4 hNw
    obtain ⟨hr1, hq⟩ := hr.part
    simp at e0 e1 e2 e3 e4
    obtain ⟨e2a, e2b⟩ := e2
    obtain ⟨e3a, e3b⟩ := e3
    subst e0 e1 e2a e2b e3a e3b e4
    exact ⟨⟨x0, x1, x2, x3, x4⟩, _, rfl, ⟨r0, r1⟩, hr1, hm, hq, s2, s3⟩
end
end Go.Proofs.Ytcjgdlfcfcabiaa

/- Layer 7, walked: RecordRows: what it stands on. -/
namespace Go.Proofs.Ytcjgdlfcfcabiaa
open Go.RowKit

def GoodR (l : List (RecS × Value)) : Prop := ∀ x ∈ l, smallR x.1 = 1 ∧ recOk x.1 = 0
theorem GoodR.nil : GoodR [] := fun _ h => by cases h
theorem GoodR.snoc {l : List (RecS × Value)} {k : Nat} (h : GoodR (l.take k)) (hk : k < l.length) (h1 : smallR l[k].1 = 1) (h2 : recOk l[k].1 = 0) : GoodR (l.take (k + 1)) := by
  intro x hx
  rw [List.take_succ_eq_append_getElem hk] at hx
  rcases List.mem_append.1 hx with hx | hx
  · exact h x hx
  · simp at hx; subst hx; exact ⟨h1, h2⟩
/-- What is known of records that came in. -/
def FitR (l : List (RecS × Value)) : Prop := ∀ x ∈ l, x.1.R ∧ x.1.hdrs.length ≤ 9223372036854775807 ∧ HFit x.1.hdrs ∧ x.1.key.data.length ≤ 140737488351232 ∧ x.1.val.data.length ≤ 140737488351232
theorem smallR_sum {x : RecS} (h : smallR x = 1) : x.sum ≤ 3000 := by
  unfold smallR at h
  split at h
  · cases h
  · unfold smallN at h
    split at h
    · unfold RecS.sum; omega
    · cases h
theorem smallR_one (x : RecS) (h : ¬ smallR x = 1) : smallR x = 0 := by
  unfold smallR at *
  split
  · rfl
  · rename_i h1
    rw [if_neg h1] at h
    unfold smallN at *
    split
    · rename_i h2; rw [if_pos h2] at h; exact absurd rfl h
    · rfl
theorem putRec_ok (o : Bs) (x : RecS) (h : recOk x = 0) : (⟨o, 0⟩ : OutS).putRec x = ⟨o ++ encR x, 0⟩ := by
  unfold OutS.putRec
  rw [if_pos h]
  rfl

end Go.Proofs.Ytcjgdlfcfcabiaa

/- The elements of arguments, opened, with their reach: rows of records. -/
namespace Go.Proofs.Ytcjgdlfcfcabiaa
open Go.Joins Go.RowKit
open Go.ChangeShapes Go.WideShapes Go.ChangeAt Go.Deep

/-- What is known of a record that came in. -/
def QRec (W : World) (x : RecS × Value) : Prop := RowsOf (fun _ cs x => RHdr cs x) (· < W.heap.size) W x.2 3 x.1.hdrs ∧ x.1.R ∧ x.1.hdrs.length ≤ 9223372036854775807 ∧ HFit x.1.hdrs ∧ x.1.key.data.length ≤ 140737488351232 ∧ x.1.val.data.length ≤ 140737488351232
theorem QRec.fit {W : World} {l : List (RecS × Value)} (h : ∀ x ∈ l, QRec W x) : FitR l := fun x hx => (h x hx).2
theorem QRec.start {W : World} {v : Value} {l : List (RecS × Value)} (hr : RowsOf (fun _ cs x => RRec cs x) (· < W.heap.size) W v 7 l) (h : ∀ x ∈ l, QRec W x) : St W W (Know.recs v l) [] := St.start ⟨hr, fun x hx => (h x hx).1⟩
section
variable {H : Type} {enc : TypeId × Value → H} {w : World} {spare : Nat → Bool} {held : Bool}
set_option maxHeartbeats 1000000 in
set_option maxRecDepth 100000 in
theorem rrec_opens : ∀ n cs y, DataW.trod enc Try.prog w 0 spare held n 64 cs = some y → Light 64 y.1 → (∀ x ∈ y.2, x.block < w.heap.size) → ∃ x : RecS × Value, RRec cs x ∧ QRec w x := by
  intro n cs y hf hl hN
  have hNw : w.heap.size ≤ w.heap.size := Nat.le_refl _
  obtain ⟨hc, m, hg⟩ := opens_field Try.underlying64 hf hl hN
  rw [cells_rec] at hc
  match cs, hc with
  | [c0, c1, c2, c3, c4, c5, c6], _ =>
    obtain ⟨z0, g0, l0, n0⟩ := hg 0 _ rfl
    have g0 : DataW.trod enc Try.prog w 0 spare held m 3 (List.take (Try.prog.cellsOf 3) (List.drop 0 [c0, c1, c2, c3, c4, c5, c6])) = some z0 := g0
    rw [cells_int] at g0
    obtain ⟨z1, g1, l1, n1⟩ := hg 1 _ rfl
    have g1 : DataW.trod enc Try.prog w 0 spare held m 3 (List.take (Try.prog.cellsOf 3) (List.drop 1 [c0, c1, c2, c3, c4, c5, c6])) = some z1 := g1
    rw [cells_int] at g1
    obtain ⟨z2, g2, l2, n2⟩ := hg 2 _ rfl
    have g2 : DataW.trod enc Try.prog w 0 spare held m 61 (List.take (Try.prog.cellsOf 61) (List.drop 2 [c0, c1, c2, c3, c4, c5, c6])) = some z2 := g2
    rw [cells_blob] at g2
    obtain ⟨z3, g3, l3, n3⟩ := hg 3 _ rfl
    have g3 : DataW.trod enc Try.prog w 0 spare held m 61 (List.take (Try.prog.cellsOf 61) (List.drop 4 [c0, c1, c2, c3, c4, c5, c6])) = some z3 := g3
    rw [cells_blob] at g3
    obtain ⟨z4, g4, l4, n4⟩ := hg 4 _ rfl
    have g4 : DataW.trod enc Try.prog w 0 spare held m 62 (List.take (Try.prog.cellsOf 62) (List.drop 6 [c0, c1, c2, c3, c4, c5, c6])) = some z4 := g4
    rw [cells_hdrs] at g4
    obtain ⟨x0, e0, r0⟩ := opens_i64 Try.underlying3 g0
    obtain ⟨x1, e1, r1⟩ := opens_i64 Try.underlying3 g1
    obtain ⟨x2, e2, s2⟩ := blob_opens _ _ _ g2 l2 n2
    obtain ⟨x3, e3, s3⟩ := blob_opens _ _ _ g3 l3 n3
    obtain ⟨v6, x4, e4, hr, _, hm⟩ := opens_rows (R := fun w cs x => (fun _ cs x => RHdr cs x) w cs x ∧ (fun x : HdrS => x.key.length ≤ 140737488351232 ∧ x.val.data.length ≤ 140737488351232) x) (N := w.heap.size) Try.underlying62 cells_hdr (by decide) rhdr_opens g4 l4 n4 hNw
    obtain ⟨hr1, hq⟩ := hr.part
    simp at e0 e1 e2 e3 e4
    obtain ⟨e2a, e2b⟩ := e2
    obtain ⟨e3a, e3b⟩ := e3
    subst e0 e1 e2a e2b e3a e3b e4
    have hm2 : x4.length ≤ 9223372036854775807 := hm
    exact ⟨(⟨x0, x1, x2, x3, x4⟩, _), rfl, hr1, ⟨r0, r1⟩, hm2, hq, s2, s3⟩
end
end Go.Proofs.Ytcjgdlfcfcabiaa

/- The elements of arguments, opened, with their reach: a batch. -/
namespace Go.Proofs.Ytcjgdlfcfcabiaa
open Go.Joins Go.RowKit
open Go.ChangeShapes Go.WideShapes Go.ChangeAt Go.Deep

theorem cells_bat : Try.prog.cellsOf 32 = 12 := by kernel_rfl
theorem cells_recs : Try.prog.cellsOf 30 = 1 := by kernel_rfl
section
variable {H : Type} {enc : TypeId × Value → H} {w : World} {spare : Nat → Bool} {held : Bool}
set_option maxHeartbeats 2000000 in
set_option maxRecDepth 100000 in
theorem bat_opens : ∀ n cs y, DataW.trod enc Try.prog w 0 spare held n 32 cs = some y → Light 32 y.1 → (∀ x ∈ y.2, x.block < w.heap.size) →
    ∃ (base leader : Int) (app txn ctl : Bool) (last first maxt prod epoch sq : Int) (l : List (RecS × Value)) (rv : Value), cs = [.int .i64 base, .int .i64 leader, .bool app, .bool txn, .bool ctl, .int .i64 last, .int .i64 first, .int .i64 maxt, .int .i64 prod, .int .i64 epoch, .int .i64 sq, rv] ∧
      BatS.R ⟨base, leader, app, txn, ctl, last, first, maxt, prod, epoch, sq, l.map (·.1)⟩ ∧ RowsOf (fun _ cs x => RRec cs x) (· < w.heap.size) w rv 7 l ∧ (∀ x ∈ l, QRec w x) := by
  intro n cs y hf hl hN
  obtain ⟨hc, m, hg⟩ := opens_field Try.underlying32 hf hl hN
  rw [cells_bat] at hc
  match cs, hc with
  | [c0, c1, c2, c3, c4, c5, c6, c7, c8, c9, c10, c11], _ =>
    obtain ⟨z0, g0, l0, n0⟩ := hg 0 _ rfl
    have g0 : DataW.trod enc Try.prog w 0 spare held m 3 (List.take (Try.prog.cellsOf 3) (List.drop 0 [c0, c1, c2, c3, c4, c5, c6, c7, c8, c9, c10, c11])) = some z0 := g0
    rw [cells_int] at g0
    obtain ⟨z1, g1, l1, n1⟩ := hg 1 _ rfl
    have g1 : DataW.trod enc Try.prog w 0 spare held m 3 (List.take (Try.prog.cellsOf 3) (List.drop 1 [c0, c1, c2, c3, c4, c5, c6, c7, c8, c9, c10, c11])) = some z1 := g1
    rw [cells_int] at g1
    obtain ⟨z2, g2, l2, n2⟩ := hg 2 _ rfl
    have g2 : DataW.trod enc Try.prog w 0 spare held m 4 (List.take (Try.prog.cellsOf 4) (List.drop 2 [c0, c1, c2, c3, c4, c5, c6, c7, c8, c9, c10, c11])) = some z2 := g2
    rw [cells_bool] at g2
    obtain ⟨z3, g3, l3, n3⟩ := hg 3 _ rfl
    have g3 : DataW.trod enc Try.prog w 0 spare held m 4 (List.take (Try.prog.cellsOf 4) (List.drop 3 [c0, c1, c2, c3, c4, c5, c6, c7, c8, c9, c10, c11])) = some z3 := g3
    rw [cells_bool] at g3
    obtain ⟨z4, g4, l4, n4⟩ := hg 4 _ rfl
    have g4 : DataW.trod enc Try.prog w 0 spare held m 4 (List.take (Try.prog.cellsOf 4) (List.drop 4 [c0, c1, c2, c3, c4, c5, c6, c7, c8, c9, c10, c11])) = some z4 := g4
    rw [cells_bool] at g4
    obtain ⟨z5, g5, l5, n5⟩ := hg 5 _ rfl
    have g5 : DataW.trod enc Try.prog w 0 spare held m 3 (List.take (Try.prog.cellsOf 3) (List.drop 5 [c0, c1, c2, c3, c4, c5, c6, c7, c8, c9, c10, c11])) = some z5 := g5
    rw [cells_int] at g5
    obtain ⟨z6, g6, l6, n6⟩ := hg 6 _ rfl
    have g6 : DataW.trod enc Try.prog w 0 spare held m 3 (List.take (Try.prog.cellsOf 3) (List.drop 6 [c0, c1, c2, c3, c4, c5, c6, c7, c8, c9, c10, c11])) = some z6 := g6
    rw [cells_int] at g6
    obtain ⟨z7, g7, l7, n7⟩ := hg 7 _ rfl
    have g7 : DataW.trod enc Try.prog w 0 spare held m 3 (List.take (Try.prog.cellsOf 3) (List.drop 7 [c0, c1, c2, c3, c4, c5, c6, c7, c8, c9, c10, c11])) = some z7 := g7
    rw [cells_int] at g7
    obtain ⟨z8, g8, l8, n8⟩ := hg 8 _ rfl
    have g8 : DataW.trod enc Try.prog w 0 spare held m 3 (List.take (Try.prog.cellsOf 3) (List.drop 8 [c0, c1, c2, c3, c4, c5, c6, c7, c8, c9, c10, c11])) = some z8 := g8
    rw [cells_int] at g8
    obtain ⟨z9, g9, l9, n9⟩ := hg 9 _ rfl
    have g9 : DataW.trod enc Try.prog w 0 spare held m 3 (List.take (Try.prog.cellsOf 3) (List.drop 9 [c0, c1, c2, c3, c4, c5, c6, c7, c8, c9, c10, c11])) = some z9 := g9
    rw [cells_int] at g9
    obtain ⟨z10, g10, l10, n10⟩ := hg 10 _ rfl
    have g10 : DataW.trod enc Try.prog w 0 spare held m 3 (List.take (Try.prog.cellsOf 3) (List.drop 10 [c0, c1, c2, c3, c4, c5, c6, c7, c8, c9, c10, c11])) = some z10 := g10
    rw [cells_int] at g10
    obtain ⟨z11, g11, l11, n11⟩ := hg 11 _ rfl
    have g11 : DataW.trod enc Try.prog w 0 spare held m 30 (List.take (Try.prog.cellsOf 30) (List.drop 11 [c0, c1, c2, c3, c4, c5, c6, c7, c8, c9, c10, c11])) = some z11 := g11
    rw [cells_recs] at g11
    obtain ⟨x0, e0, r0⟩ := opens_i64 Try.underlying3 g0
    obtain ⟨x1, e1, r1⟩ := opens_i64 Try.underlying3 g1
    obtain ⟨x2, e2⟩ := opens_bool Try.underlying4 g2
    obtain ⟨x3, e3⟩ := opens_bool Try.underlying4 g3
    obtain ⟨x4, e4⟩ := opens_bool Try.underlying4 g4
    obtain ⟨x5, e5, r5⟩ := opens_i64 Try.underlying3 g5
    obtain ⟨x6, e6, r6⟩ := opens_i64 Try.underlying3 g6
    obtain ⟨x7, e7, r7⟩ := opens_i64 Try.underlying3 g7
    obtain ⟨x8, e8, r8⟩ := opens_i64 Try.underlying3 g8
    obtain ⟨x9, e9, r9⟩ := opens_i64 Try.underlying3 g9
    obtain ⟨x10, e10, r10⟩ := opens_i64 Try.underlying3 g10
    obtain ⟨v11, x11, e11, hrq, _, _⟩ := opens_rows (R := fun w' cs x => (fun _ cs x => RRec cs x) w' cs x ∧ QRec w x) (N := w.heap.size) Try.underlying30 cells_rec (by decide) rrec_opens g11 l11 n11 (Nat.le_refl _)
    obtain ⟨hr, hq⟩ := hrq.part
    simp at e0 e1 e2 e3 e4 e5 e6 e7 e8 e9 e10 e11
    subst e0 e1 e2 e3 e4 e5 e6 e7 e8 e9 e10 e11
    exact ⟨x0, x1, x2, x3, x4, x5, x6, x7, x8, x9, x10, x11, _, rfl, ⟨r0, r1, r5, r6, r7, r8, r9, r10⟩, hr, hq⟩
set_option maxHeartbeats 2000000 in
set_option maxRecDepth 100000 in
theorem bat_open {r : Reach} {b0 : Nat} {v : Value} {d : DataW H} {p : List MemPlace} (hv : Value.okWide Try.prog w r b0 32 v) (h : DataW.Trod enc Try.prog w 0 spare held 32 v d p) (hl : Light 32 d) (hN : ∀ x ∈ p, x.block < w.heap.size) :
    ∃ (base leader : Int) (app txn ctl : Bool) (last first maxt prod epoch sq : Int) (l : List (RecS × Value)) (q : Option Addr) (cap : Nat), v = .agg #[.int .i64 base, .int .i64 leader, .bool app, .bool txn, .bool ctl, .int .i64 last, .int .i64 first, .int .i64 maxt, .int .i64 prod, .int .i64 epoch, .int .i64 sq, .slice q l.length cap] ∧
      BatS.R ⟨base, leader, app, txn, ctl, last, first, maxt, prod, epoch, sq, l.map (·.1)⟩ ∧ FitW l ∧ St w w (Know.recs (.slice q l.length cap) l) [] := by
  obtain ⟨cs, rfl, hsz⟩ := okWide_struct Try.underlying32 hv
  obtain ⟨fuel, hf⟩ := h
  obtain ⟨base, leader, app, txn, ctl, last, first, maxt, prod, epoch, sq, l, rv, e, hR, hr, hq⟩ := bat_opens _ _ _ hf hl hN
  obtain ⟨c⟩ := cs
  have e : c = _ := e
  subst e
  obtain ⟨q, cap, hrv⟩ : ∃ q cap, rv = .slice q l.length cap := by obtain ⟨p, cap, hv, _⟩ := hr; exact ⟨p, cap, hv⟩
  subst hrv
  exact ⟨_, _, _, _, _, _, _, _, _, _, _, l, q, cap, rfl, hR, fun x hx => (hq x hx).2, QRec.start hr hq⟩
end
end Go.Proofs.Ytcjgdlfcfcabiaa

/- How any batch ends a transaction, or that it doesn't, is the document's: proved of every batch. -/
namespace Go.Proofs.Ytcjgdlfcfcabiaa
open Go.ChangeShapes Go.WideShapes Go.ChangeAt Go.ChangeMaps Go.RowKit

set_option maxRecDepth 100000 in
theorem markerReads_lifted (os : Os) (started : os.Started) (H : Type) (enc : TypeId × Value → H) :
    ReturnsInHanded {} Try.checked os 10 .any (Rows.markerReadsSpec.pre6 enc Try.prog Try.f10 Rows.markerReadsRow.domain false) (Rows.markerReadsSpec.post enc Try.prog Try.f10 false true false false) := by
  refine returnsInHanded_of_change_sized (C := Try.checked) Try.own started (by as_aux_lemma => kernel_rfl) Try.func10
    (ChangeSpec.witness6 (enc := enc) (C := Try.checked) false ⟨#[], #[.agg #[.int .i64 0, .int .i64 0, .bool false, .bool false, .bool false, .int .i64 0, .int .i64 0, .int .i64 0, .int .i64 0, .int .i64 0, .int .i64 0, .slice none 0 0]], []⟩ 8 (by as_aux_lemma => kernel_rfl) (by as_aux_lemma => kernel_rfl) (by as_aux_lemma => kernel_rfl) (by as_aux_lemma => kernel_rfl)) ?_
  intro W base args ds gs before hval0 hW hcnd hsz0 _
  have hval : ∀ (j : Nat) t v, Try.f10.params[j]? = some t → args[j]? = some v → Value.okWide Try.prog W .any base t v := hval0
  clear hval0
  refine law_contract (n := 1) (tb := 4) rfl rfl rfl Try.underlying4 (by intro ds h; match ds, h with | [d0], _ => rfl) (by as_aux_lemma => kernel_rfl) hW ?_
  intro p hA0 hlt
  have hA : DataW.TrodAll enc Try.prog W 0 (fun _ => true) true Try.f10.params.toList args.toList ds p := hA0
  clear hA0
  rw [Try.params10] at hA hval
  obtain ⟨v0, d0, rfl, rfl, h0⟩ := trodAll_one hA
  have hsz : (DataW.weightsEach Try.prog (Try.f10.params.toList ++ Rows.markerReadsSpec.plain.varTypes Try.prog) ([d0] ++ gs)).all (· ≤ reachBytes) = true := hsz0
  rw [Try.params10] at hsz
  have lg0 : Light 32 d0 := light_arg hsz (j := 0) rfl rfl
  obtain ⟨base, leader, app, txn, ctl, last, first, maxt, prod, epoch, sq, l, q, cap, rfl, hR, hfw, hst⟩ := bat_open (hval 0 32 v0 rfl rfl) h0 lg0 (fun y hy => hlt y (by simp [hy]))
  exact markerReads_any base leader app txn ctl last first maxt prod epoch sq l q cap (by have h9 : first < 9223372036854775808 := hR.2.2.2.1.2; omega) hR.1 hfw (Know.has_refl _) hst

theorem markerReads_holds : Rows.MarkerReadsSaid :=
  OpenClaim.holds_of_wide 10 Try.f10 rfl rfl rfl rfl rfl rfl rfl ⟨rfl, rfl, rfl, rfl, rfl⟩ rfl rfl rfl rfl rfl (by as_aux_lemma => kernel_rfl) Try.func10 (by as_aux_lemma => kernel_rfl)
    (of_decide_eq_true (by as_aux_lemma => kernel_rfl)) (by as_aux_lemma => (unfold Func.isWrapper; rw [if_neg (by as_aux_lemma => decide +kernel)]; exact ⟨rfl, rfl⟩))
    (fun os started H enc _ => markerReads_lifted os started H enc)

end Go.Proofs.Ytcjgdlfcfcabiaa
