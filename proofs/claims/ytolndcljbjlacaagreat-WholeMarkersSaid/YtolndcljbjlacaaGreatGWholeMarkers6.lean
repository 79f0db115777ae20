/- A text. -/
import Derived.Test.YtolndcljbjlacaaGreatGWholeMarkers5
import Derived.Test.YtolndcljbjlacaaGreatGWholeMarkers4
import Derived.Test.YtolndcljbjlacaaGreatRecs
import Derived.Test.YtolndcljbjlacaaGreatRec5
import Derived.Test.YtolndcljbjlacaaGreatGWholeMarkers2
import Derived.Deep.RegionHeld3
import Derived.Test.YtolndcljbjlacaaGreatGWholeMarkers3
import Derived.Test.YtolndcljbjlacaaGreatSep
import Derived.Deep.OwnRows
import Derived.Deep.DeepCutAuto
import Derived.IntWalk
/- A text. -/
namespace Go.Proofs.YtolndcljbjlacaaGreat
open Go.RowKit

set_option maxHeartbeats 2000000 in
set_option maxRecDepth 100000 in
theorem mrk_batch_bad (base leader : Int) (n1 n2 n3 n4 n5 : Int) (hn3 : Rn n3) (hn5 : Rn n5) (hmx : n4 ≤ 9223372036854775807) (ks vs : Bs) (hks : ctlKey n3 = (ks, 0)) (hvs : ctlVal n5 = (vs, 0)) (hfr : (⟨0, 0, ⟨false, ks⟩, ⟨false, vs⟩, []⟩ : RecS).R ∧ HFit (⟨0, 0, ⟨false, ks⟩, ⟨false, vs⟩, []⟩ : RecS).hdrs ∧ (⟨0, 0, ⟨false, ks⟩, ⟨false, vs⟩, []⟩ : RecS).sum ≤ 1000000) (e : Int) (h0 : e ≠ 0) (he : batErr (⟨base, leader, false, true, true, 0, n4, n4, n1, n2, -1, [(⟨0, 0, ⟨false, ks⟩, ⟨false, vs⟩, []⟩ : RecS)]⟩ : BatS) = e) {W0 w : World} {K : Know} {L : List Res} (h : St W0 w K L) :
  Calls Tryz.prog 8 #[.int .i64 base, .int .i64 leader, .agg #[.int .i64 n1, .int .i64 n2, .int .i64 n3, .int .i64 n4, .int .i64 n5]] w fun en w' => en = .returned (.tuple #[.agg #[.int .i64 0, .int .i64 0, .bool false, .bool false, .bool false, .int .i64 0, .int .i64 0, .int .i64 0, .int .i64 0, .int .i64 0, .int .i64 0, .slice none 0 0], .int .i64 e]) ∧ St W0 w' K L := by
 have g1 := h.allocRaw #[.int .i64 n1, .int .i64 n2, .int .i64 n3, .int .i64 n4, .int .i64 n5] 35
 have g2 := g1.allocRaw #[.int .i64 0, .int .i64 0, .bool false, .bool false, .bool false, .int .i64 0, .int .i64 0, .int .i64 0, .int .i64 0, .int .i64 0, .int .i64 0, .slice none 0 0] 26
 obtain ⟨eb, heb⟩ : ∃ b, w.heap.size = b := ⟨_, rfl⟩
 obtain ⟨rb, hrb⟩ : ∃ b, eb + 1 = b := ⟨_, rfl⟩
 simp only [World.size_alloc, heb, hrb] at g2
 obtain ⟨p0, p1, p2, p3, p4, p5, p6, p7, p8, p9, p10, p11, u0, u1, u2, u3, u4, u5, u6, u7, u8, u9, u10, u11⟩ := raw12 (b := rb) (g2)
 obtain ⟨⟨x0, x1, x2, x3, x4⟩, y0, y1, y2, y3, y4⟩ := raw5e (b := eb) (g2.p1)
 have H := Lib.hid g2
 have HN3 := Lib.hid (show -9223372036854775808 ≤ n3 ∧ n3 < 9223372036854775808 from hn3)
 have HN5 := Lib.hid (show -9223372036854775808 ≤ n5 ∧ n5 < 9223372036854775808 from hn5)
 clear h g1 g2 hn3 hn5
 have HE := Lib.hid he
 have HMX := Lib.hid hmx
 have HKS := Lib.hid hks
 have HVS := Lib.hid hvs
 have HFR := Lib.hid hfr
 have gz : (e == 0) = false := by rw [beq_eq_false_iff_ne]; exact h0
 clear he hmx hks hvs hfr h0
 go_enter Tryz.func8, Tryz.ntmps8
 go_wp2_with (first
  | (go_at_call 25; (with_reducible refine (ctl_record_ok n3 n5 ks vs HKS.out HVS.out HN3.out HN5.out H.out).mono ?_); rintro e_ wn ⟨rfl, h⟩; obtain ⟨⟨x0, x1, x2, x3, x4⟩, y0, y1, y2, y3, y4⟩ := raw5e (b := eb) (h.p1); obtain ⟨wA, hwA⟩ : ∃ b, wn.heap.size = b := ⟨_, rfl⟩; obtain ⟨sl, hsl⟩ : ∃ b, wA + 1 = b := ⟨_, rfl⟩; obtain ⟨bB, hbB⟩ : ∃ b, sl + 1 = b := ⟨_, rfl⟩; have h1 := h.allocRaw #[.int .i64 0, .int .i64 0, .bool false, .string (bb ks), .bool false, .string (bb vs), .slice none 0 0] 51; rw [hwA] at h1; obtain ⟨ec0, ec1, ec2, ec3, ec4, ec5, ec6, ef0, ef1, ef2, ef3, ef4, ef5, ef6⟩ := raw7 (b := wA) (h1); obtain ⟨⟨k0, k1, k2, k3, k4⟩, m0, m1, m2, m3, m4⟩ := raw5e (b := eb) (h1.p2); have h2 := h1.allocRaw #[.int .i64 0, .int .i64 0, .bool false, .string (bb ks), .bool false, .string (bb vs), .slice none 0 0] 51; simp only [World.size_alloc, hwA, hsl] at h2; have h3 := h2.allocRaw #[.int .i64 base, .int .i64 leader, .bool false, .bool true, .bool true, .int .i64 0, .int .i64 n4, .int .i64 n4, .int .i64 n1, .int .i64 n2, .int .i64 (-1), .slice (some ⟨sl, 0, none⟩) 1 1] 26; simp only [World.size_alloc, hwA, hsl, hbB] at h3; have h4 := freezeRec1 (⟨0, 0, ⟨false, ks⟩, ⟨false, vs⟩, []⟩ : RecS) (.slice none 0 0) (know_none0 RHdr 3 K) h3.p1; obtain ⟨a0, a1, a2, a3, a4, a5, a6, a7, a8, a9, a10, a11, f0, f1, f2, f3, f4, f5, f6, f7, f8, f9, f10, f11⟩ := raw12 (b := bB) (h4); clear h1 h2 h3; have H2 := Lib.hid h4; clear h4 h H; have H := H2; clear H2)
  | (go_at_call 26; (with_reducible refine (bat_check1 base leader false true true 0 n4 n4 n1 n2 (-1) (⟨0, 0, ⟨false, ks⟩, ⟨false, vs⟩, []⟩ : RecS) (.slice none 0 0) _ _ e HE.out HMX.out HFR.out (Know.has_right (Know.has_refl _)) H.out).mono ?_); rintro e_ wn ⟨rfl, h⟩; obtain ⟨a0, a1, a2, a3, a4, a5, a6, a7, a8, a9, a10, a11, f0, f1, f2, f3, f4, f5, f6, f7, f8, f9, f10, f11⟩ := raw12 (b := bB) (h); obtain ⟨p0, p1, p2, p3, p4, p5, p6, p7, p8, p9, p10, p11, u0, u1, u2, u3, u4, u5, u6, u7, u8, u9, u10, u11⟩ := raw12 (b := rb) (h.p2); replace H := Lib.hid h; clear h))
 have hz : St W0 _ _ (.raw rb #[.int .i64 0, .int .i64 0, .bool false, .bool false, .bool false, .int .i64 0, .int .i64 0, .int .i64 0, .int .i64 0, .int .i64 0, .int .i64 0, .slice none 0 0] 26 :: _) := St.sets12 _ _ _ _ _ _ _ _ _ _ _ _ (H.out.p2)
 refine bodyPost_ret (rc_cell_tmp rfl _ _ rb [.int .i64 0, .int .i64 0, .bool false, .bool false, .bool false, .int .i64 0, .int .i64 0, .int .i64 0, .int .i64 0, .int .i64 0, .int .i64 0, .slice none 0 0] _ rfl (rc_range hz) Tryz.underlying26 rfl (by kernel_rfl)) rfl ?_
 exact ⟨rfl, (hz.drop.drop.drop.drop).know (Know.has_left (Know.has_refl _))⟩

set_option maxHeartbeats 2000000 in
set_option maxRecDepth 100000 in
theorem mrk_batch_ok (base leader : Int) (n1 n2 n3 n4 n5 : Int) (hn3 : Rn n3) (hn5 : Rn n5) (hmx : n4 ≤ 9223372036854775807) (ks vs : Bs) (hks : ctlKey n3 = (ks, 0)) (hvs : ctlVal n5 = (vs, 0)) (hfr : (⟨0, 0, ⟨false, ks⟩, ⟨false, vs⟩, []⟩ : RecS).R ∧ HFit (⟨0, 0, ⟨false, ks⟩, ⟨false, vs⟩, []⟩ : RecS).hdrs ∧ (⟨0, 0, ⟨false, ks⟩, ⟨false, vs⟩, []⟩ : RecS).sum ≤ 1000000) (he : batErr (⟨base, leader, false, true, true, 0, n4, n4, n1, n2, -1, [(⟨0, 0, ⟨false, ks⟩, ⟨false, vs⟩, []⟩ : RecS)]⟩ : BatS) = 0) {W0 w : World} {K : Know} {L : List Res} (h : St W0 w K L) :
  Calls Tryz.prog 8 #[.int .i64 base, .int .i64 leader, .agg #[.int .i64 n1, .int .i64 n2, .int .i64 n3, .int .i64 n4, .int .i64 n5]] w fun en w' => ∃ q, en = .returned (.tuple #[.agg #[.int .i64 base, .int .i64 leader, .bool false, .bool true, .bool true, .int .i64 0, .int .i64 n4, .int .i64 n4, .int .i64 n1, .int .i64 n2, .int .i64 (-1), .slice q 1 1], .int .i64 0]) ∧ St W0 w' (K.and (Know.recs (.slice q 1 1) [((⟨0, 0, ⟨false, ks⟩, ⟨false, vs⟩, []⟩ : RecS), .slice none 0 0)])) L := by
 have g1 := h.allocRaw #[.int .i64 n1, .int .i64 n2, .int .i64 n3, .int .i64 n4, .int .i64 n5] 35
 have g2 := g1.allocRaw #[.int .i64 0, .int .i64 0, .bool false, .bool false, .bool false, .int .i64 0, .int .i64 0, .int .i64 0, .int .i64 0, .int .i64 0, .int .i64 0, .slice none 0 0] 26
 obtain ⟨eb, heb⟩ : ∃ b, w.heap.size = b := ⟨_, rfl⟩
 obtain ⟨rb, hrb⟩ : ∃ b, eb + 1 = b := ⟨_, rfl⟩
 simp only [World.size_alloc, heb, hrb] at g2
 obtain ⟨p0, p1, p2, p3, p4, p5, p6, p7, p8, p9, p10, p11, u0, u1, u2, u3, u4, u5, u6, u7, u8, u9, u10, u11⟩ := raw12 (b := rb) (g2)
 obtain ⟨⟨x0, x1, x2, x3, x4⟩, y0, y1, y2, y3, y4⟩ := raw5e (b := eb) (g2.p1)
 have H := Lib.hid g2
 have HN3 := Lib.hid (show -9223372036854775808 ≤ n3 ∧ n3 < 9223372036854775808 from hn3)
 have HN5 := Lib.hid (show -9223372036854775808 ≤ n5 ∧ n5 < 9223372036854775808 from hn5)
 clear h g1 g2 hn3 hn5
 have HE := Lib.hid he
 have HMX := Lib.hid hmx
 have HKS := Lib.hid hks
 have HVS := Lib.hid hvs
 have HFR := Lib.hid hfr
 clear he hmx hks hvs hfr 
 go_enter Tryz.func8, Tryz.ntmps8
 go_wp2_with (first
  | (go_at_call 25; (with_reducible refine (ctl_record_ok n3 n5 ks vs HKS.out HVS.out HN3.out HN5.out H.out).mono ?_); rintro e_ wn ⟨rfl, h⟩; obtain ⟨⟨x0, x1, x2, x3, x4⟩, y0, y1, y2, y3, y4⟩ := raw5e (b := eb) (h.p1); obtain ⟨wA, hwA⟩ : ∃ b, wn.heap.size = b := ⟨_, rfl⟩; obtain ⟨sl, hsl⟩ : ∃ b, wA + 1 = b := ⟨_, rfl⟩; obtain ⟨bB, hbB⟩ : ∃ b, sl + 1 = b := ⟨_, rfl⟩; have h1 := h.allocRaw #[.int .i64 0, .int .i64 0, .bool false, .string (bb ks), .bool false, .string (bb vs), .slice none 0 0] 51; rw [hwA] at h1; obtain ⟨ec0, ec1, ec2, ec3, ec4, ec5, ec6, ef0, ef1, ef2, ef3, ef4, ef5, ef6⟩ := raw7 (b := wA) (h1); obtain ⟨⟨k0, k1, k2, k3, k4⟩, m0, m1, m2, m3, m4⟩ := raw5e (b := eb) (h1.p2); have h2 := h1.allocRaw #[.int .i64 0, .int .i64 0, .bool false, .string (bb ks), .bool false, .string (bb vs), .slice none 0 0] 51; simp only [World.size_alloc, hwA, hsl] at h2; have h3 := h2.allocRaw #[.int .i64 base, .int .i64 leader, .bool false, .bool true, .bool true, .int .i64 0, .int .i64 n4, .int .i64 n4, .int .i64 n1, .int .i64 n2, .int .i64 (-1), .slice (some ⟨sl, 0, none⟩) 1 1] 26; simp only [World.size_alloc, hwA, hsl, hbB] at h3; have h4 := freezeRec1 (⟨0, 0, ⟨false, ks⟩, ⟨false, vs⟩, []⟩ : RecS) (.slice none 0 0) (know_none0 RHdr 3 K) h3.p1; obtain ⟨a0, a1, a2, a3, a4, a5, a6, a7, a8, a9, a10, a11, f0, f1, f2, f3, f4, f5, f6, f7, f8, f9, f10, f11⟩ := raw12 (b := bB) (h4); clear h1 h2 h3; have H2 := Lib.hid h4; clear h4 h H; have H := H2; clear H2)
  | (go_at_call 26; (with_reducible refine (bat_check1 base leader false true true 0 n4 n4 n1 n2 (-1) (⟨0, 0, ⟨false, ks⟩, ⟨false, vs⟩, []⟩ : RecS) (.slice none 0 0) _ _ 0 HE.out HMX.out HFR.out (Know.has_right (Know.has_refl _)) H.out).mono ?_); rintro e_ wn ⟨rfl, h⟩; obtain ⟨a0, a1, a2, a3, a4, a5, a6, a7, a8, a9, a10, a11, f0, f1, f2, f3, f4, f5, f6, f7, f8, f9, f10, f11⟩ := raw12 (b := bB) (h); obtain ⟨p0, p1, p2, p3, p4, p5, p6, p7, p8, p9, p10, p11, u0, u1, u2, u3, u4, u5, u6, u7, u8, u9, u10, u11⟩ := raw12 (b := rb) (h.p2); replace H := Lib.hid h; clear h))
 have hz : St W0 _ _ (.raw rb #[.int .i64 base, .int .i64 leader, .bool false, .bool true, .bool true, .int .i64 0, .int .i64 n4, .int .i64 n4, .int .i64 n1, .int .i64 n2, .int .i64 (-1), .slice (some ⟨sl, 0, none⟩) 1 1] 26 :: _) := St.sets12 _ _ _ _ _ _ _ _ _ _ _ _ (H.out.p2)
 refine bodyPost_ret (rc_cell_tmp rfl _ _ rb [.int .i64 base, .int .i64 leader, .bool false, .bool true, .bool true, .int .i64 0, .int .i64 n4, .int .i64 n4, .int .i64 n1, .int .i64 n2, .int .i64 (-1), .slice (some ⟨sl, 0, none⟩) 1 1] _ rfl (rc_range hz) Tryz.underlying26 rfl (by kernel_rfl)) rfl ?_
 exact ⟨_, rfl, hz.drop.drop.drop.drop⟩
theorem recs_nilK (K : Know) : K.has (Know.recs (.slice none 0 0) []) := fun _ _ _ => ⟨⟨none, 0, rfl, fun h => absurd h (by decide)⟩, fun x h => by cases h⟩
theorem map_ne_of_get (l m : List (RecS × Value)) (k : Nat) (h1 : k < l.length) (h2 : k < m.length) (x y : RecS) (hx : l[k].1 = x) (hy : m[k].1 = y) (h : x ≠ y) : l.map (·.1) ≠ m.map (·.1) := by
 intro hh
 have e1 : (l.map (·.1))[k]? = (m.map (·.1))[k]? := by rw [hh]
 rw [List.getElem?_map, List.getElem?_map, List.getElem?_eq_getElem h1, List.getElem?_eq_getElem h2] at e1
 simp at e1
 exact h (hx ▸ hy ▸ e1)
set_option maxHeartbeats 4000000 in
set_option maxRecDepth 100000 in
theorem ref11_sameT0 (base : Int) (leader : Int) (app : Bool) (txn : Bool) (ctl : Bool) (last : Int) (first : Int) (maxt : Int) (prod : Int) (epoch : Int) (seq : Int) (l1 l2 : List (RecS × Value)) (q1 q2 : Option Addr) (cap1 cap2 : Nat) (hn : l1.length ≤ 1000000) (hr : l1.map (·.1) = l2.map (·.1)) (hf1 : ∀ x ∈ l1, x.1.hdrs.length ≤ 9223372036854775807) (hf2 : ∀ x ∈ l2, x.1.hdrs.length ≤ 9223372036854775807) {W0 w : World} {K : Know} {L : List Res} (hk1 : K.has (Know.recs (.slice q1 l1.length cap1) l1)) (hk2 : K.has (Know.recs (.slice q2 l2.length cap2) l2)) (h : St W0 w K L) :
  Calls Tryz.prog 13 #[.agg #[.int .i64 base, .int .i64 leader, .bool app, .bool txn, .bool ctl, .int .i64 last, .int .i64 first, .int .i64 maxt, .int .i64 prod, .int .i64 epoch, .int .i64 seq, .slice q1 l1.length cap1], .agg #[.int .i64 base, .int .i64 leader, .bool app, .bool txn, .bool ctl, .int .i64 last, .int .i64 first, .int .i64 maxt, .int .i64 prod, .int .i64 epoch, .int .i64 seq, .slice q2 l2.length cap2]] w fun en w' => en = .returned (.bool true) ∧ St W0 w' K L := by
 obtain ⟨hb, hhb⟩ : ∃ b, w.heap.size = b := ⟨_, rfl⟩
 have h1 := (h.allocRaw #[.int .i64 base, .int .i64 leader, .bool app, .bool txn, .bool ctl, .int .i64 last, .int .i64 first, .int .i64 maxt, .int .i64 prod, .int .i64 epoch, .int .i64 seq, .slice q1 l1.length cap1] 26).allocRaw #[.int .i64 base, .int .i64 leader, .bool app, .bool txn, .bool ctl, .int .i64 last, .int .i64 first, .int .i64 maxt, .int .i64 prod, .int .i64 epoch, .int .i64 seq, .slice q2 l2.length cap2] 26
 rw [World.size_alloc, hhb] at h1
 obtain ⟨hc, hhc⟩ : ∃ b, hb + 1 = b := ⟨_, rfl⟩
 rw [hhc] at h1
 obtain ⟨b0, b1, b2, b3, b4, b5, b6, b7, b8, b9, b10, b11, fb0, fb1, fb2, fb3, fb4, fb5, fb6, fb7, fb8, fb9, fb10, fb11⟩ := raw12 (b := hc) h1
 obtain ⟨a0, a1, a2, a3, a4, a5, a6, a7, a8, a9, a10, a11, fa0, fa1, fa2, fa3, fa4, fa5, fa6, fa7, fa8, fa9, fa10, fa11⟩ := raw12 (b := hb) h1.p1
 have H := Lib.hid h1
 have HK1 := Lib.hid hk1
 have HK2 := Lib.hid hk2
 have hni : (l1.length : Int) ≤ 1000000 := by omega
 have HF1 := Lib.hid hf1
 have HF2 := Lib.hid hf2
 have hlen : l1.length = l2.length := by have := congrArg List.length hr; simpa using this
 have HLEN := Lib.hid hlen
 have HR := Lib.hid hr
 have g1 : ((l1.length : Int) == (l2.length : Int)) = true := by rw [hlen]; exact beq_self_eq_true _
 have g2 : ((l1.length : Int) != (l2.length : Int)) = false := by simp [bne, g1]
 have g3 : (l2.length : Int) = (l1.length : Int) := by omega
 clear h h1 hk1 hk2 hf1 hf2 hr hlen fa0 fb0 fa1 fb1 fa2 fb2 fa3 fb3 fa4 fb4 fa5 fb5 fa6 fb6 fa7 fb7 fa8 fb8 fa9 fb9 fa10 fb10 fa11 fb11
 go_enter Tryz.func13, Tryz.ntmps13
 go_wp2
 clear g1 g2 g3
 clear a0 b0 a1 b1 a2 b2 a3 b3 a4 b4 a5 b5 a6 b6 a7 b7 a8 b8 a9 b9 a10 b10 a11 b11
 go_loopw [5] (fun iv wr => ∃ k : Nat, k ≤ l1.length ∧ iv = .int .i64 k ∧ St W0 wr K (.raw hc #[.int .i64 base, .int .i64 leader, .bool app, .bool txn, .bool ctl, .int .i64 last, .int .i64 first, .int .i64 maxt, .int .i64 prod, .int .i64 epoch, .int .i64 seq, .slice q2 l2.length cap2] 26 :: .raw hb #[.int .i64 base, .int .i64 leader, .bool app, .bool txn, .bool ctl, .int .i64 last, .int .i64 first, .int .i64 maxt, .int .i64 prod, .int .i64 epoch, .int .i64 seq, .slice q1 l1.length cap1] 26 :: L)) (fun iv _ => l1.length - (intOf iv).toNat)
 case atStart => exact ⟨0, Nat.zero_le _, rfl, H.out⟩
 case round =>
  obtain ⟨k, hkl, rfl, hst⟩ := hrel
  clear H
  have H := Lib.hid hst
  clear hst
  have b11 : wr.cell? ⟨hc, 11, none⟩ = some (.slice q2 l2.length cap2) := H.out.rawCell 11
  have a11 : wr.cell? ⟨hb, 11, none⟩ = some (.slice q1 l1.length cap1) := H.out.p1.rawCell 11
  by_cases hlt : k < l1.length
  · have hlt2 : k < l2.length := by have := HLEN.out; omega
    obtain ⟨b1', off1, hqq1⟩ := recs_at HK1.out H.out (by omega)
    subst hqq1
    obtain ⟨⟨x1, v1⟩, hx1⟩ : ∃ x, l1[k] = x := ⟨_, rfl⟩
    have cc1 := recs_cell HK1.out H.out k (by omega) (x1, v1) hx1
    have hmem1 : (x1, v1) ∈ l1 := hx1 ▸ List.getElem_mem _
    have XF1 := Lib.hid (show x1.hdrs.length ≤ 9223372036854775807 from HF1.out (x1, v1) hmem1)
    have XK1 := Lib.hid (show K.has (Know.flat RHdr v1 3 x1.hdrs) from recs_hdrs HK1.out hmem1)
    simp only at cc1
    obtain ⟨c10, c11, c12, c13, c14, c15, c16⟩ := cc1
    rw [← Nat.add_assoc] at c11 c12 c13 c14 c15 c16
    have HX1 := Lib.hid (show l1[k].1 = x1 by rw [hx1])
    have HXX1 := Lib.hid hx1
    clear hmem1 hx1
    obtain ⟨b2', off2, hqq2⟩ := recs_at HK2.out H.out (by omega)
    subst hqq2
    obtain ⟨⟨x2, v2⟩, hx2⟩ : ∃ x, l2[k] = x := ⟨_, rfl⟩
    have cc2 := recs_cell HK2.out H.out k (by omega) (x2, v2) hx2
    have hmem2 : (x2, v2) ∈ l2 := hx2 ▸ List.getElem_mem _
    have XF2 := Lib.hid (show x2.hdrs.length ≤ 9223372036854775807 from HF2.out (x2, v2) hmem2)
    have XK2 := Lib.hid (show K.has (Know.flat RHdr v2 3 x2.hdrs) from recs_hdrs HK2.out hmem2)
    simp only at cc2
    obtain ⟨c20, c21, c22, c23, c24, c25, c26⟩ := cc2
    rw [← Nat.add_assoc] at c21 c22 c23 c24 c25 c26
    have HX2 := Lib.hid (show l2[k].1 = x2 by rw [hx2])
    have HXX2 := Lib.hid hx2
    clear hmem2 hx2
    have hki : (k : Int) < (l1.length : Int) := by omega
    have hki2 : (k : Int) < (l2.length : Int) := by omega
    have hk0 : (0 : Int) ≤ (k : Int) := Int.natCast_nonneg _
    have E1 := Lib.hid (show decide (x1 = x2) = true from decide_eq_true (Decidable.byContradiction fun hne => map_ne_of_get l1 l2 k hlt hlt2 x1 x2 HX1.out HX2.out hne HR.out))
    have hkeep : ∀ w', St W0 w' K (.raw hc #[.int .i64 base, .int .i64 leader, .bool app, .bool txn, .bool ctl, .int .i64 last, .int .i64 first, .int .i64 maxt, .int .i64 prod, .int .i64 epoch, .int .i64 seq, .slice (some ⟨b2', off2, none⟩) l2.length cap2] 26 :: .raw hb #[.int .i64 base, .int .i64 leader, .bool app, .bool txn, .bool ctl, .int .i64 last, .int .i64 first, .int .i64 maxt, .int .i64 prod, .int .i64 epoch, .int .i64 seq, .slice (some ⟨b1', off1, none⟩) l1.length cap1] 26 :: L) → ((w'.cell? ⟨hb, 11, none⟩ = some (.slice (some ⟨b1', off1, none⟩) l1.length cap1)) ∧ (w'.cell? ⟨hc, 11, none⟩ = some (.slice (some ⟨b2', off2, none⟩) l2.length cap2)) ∧ (w'.cell? ⟨b1', off1 + k * 7, none⟩ = some (.int .i64 x1.time) ∧ w'.cell? ⟨b1', off1 + k * 7 + 1, none⟩ = some (.int .i64 x1.off) ∧ w'.cell? ⟨b1', off1 + k * 7 + 2, none⟩ = some (.bool x1.key.null) ∧ w'.cell? ⟨b1', off1 + k * 7 + 3, none⟩ = some (.string (bb x1.key.data)) ∧ w'.cell? ⟨b1', off1 + k * 7 + 4, none⟩ = some (.bool x1.val.null) ∧ w'.cell? ⟨b1', off1 + k * 7 + 5, none⟩ = some (.string (bb x1.val.data)) ∧ w'.cell? ⟨b1', off1 + k * 7 + 6, none⟩ = some (v1)) ∧ (w'.cell? ⟨b2', off2 + k * 7, none⟩ = some (.int .i64 x2.time) ∧ w'.cell? ⟨b2', off2 + k * 7 + 1, none⟩ = some (.int .i64 x2.off) ∧ w'.cell? ⟨b2', off2 + k * 7 + 2, none⟩ = some (.bool x2.key.null) ∧ w'.cell? ⟨b2', off2 + k * 7 + 3, none⟩ = some (.string (bb x2.key.data)) ∧ w'.cell? ⟨b2', off2 + k * 7 + 4, none⟩ = some (.bool x2.val.null) ∧ w'.cell? ⟨b2', off2 + k * 7 + 5, none⟩ = some (.string (bb x2.val.data)) ∧ w'.cell? ⟨b2', off2 + k * 7 + 6, none⟩ = some (v2))) := fun w' hs => by
      have r1 := recs_cell HK1.out hs k hlt (x1, v1) HXX1.out
      have r2 := recs_cell HK2.out hs k hlt2 (x2, v2) HXX2.out
      simp only [← Nat.add_assoc] at r1 r2
      exact ⟨hs.p1.rawCell 11, hs.rawCell 11, r1, r2⟩
    have HKP := Lib.hid hkeep
    clear hkeep HX1 HX2 HXX1 HXX2
    clear hlt2
    go_upto_region 6 with (fail)
    have hs := H.out.drew
    refine wp_region_held_drew (S := fun w' => (w'.cell? ⟨hb, 11, none⟩ = some (.slice (some ⟨b1', off1, none⟩) l1.length cap1)) ∧ (w'.cell? ⟨hc, 11, none⟩ = some (.slice (some ⟨b2', off2, none⟩) l2.length cap2)) ∧ (w'.cell? ⟨b1', off1 + k * 7, none⟩ = some (.int .i64 x1.time) ∧ w'.cell? ⟨b1', off1 + k * 7 + 1, none⟩ = some (.int .i64 x1.off) ∧ w'.cell? ⟨b1', off1 + k * 7 + 2, none⟩ = some (.bool x1.key.null) ∧ w'.cell? ⟨b1', off1 + k * 7 + 3, none⟩ = some (.string (bb x1.key.data)) ∧ w'.cell? ⟨b1', off1 + k * 7 + 4, none⟩ = some (.bool x1.val.null) ∧ w'.cell? ⟨b1', off1 + k * 7 + 5, none⟩ = some (.string (bb x1.val.data)) ∧ w'.cell? ⟨b1', off1 + k * 7 + 6, none⟩ = some (v1)) ∧ (w'.cell? ⟨b2', off2 + k * 7, none⟩ = some (.int .i64 x2.time) ∧ w'.cell? ⟨b2', off2 + k * 7 + 1, none⟩ = some (.int .i64 x2.off) ∧ w'.cell? ⟨b2', off2 + k * 7 + 2, none⟩ = some (.bool x2.key.null) ∧ w'.cell? ⟨b2', off2 + k * 7 + 3, none⟩ = some (.string (bb x2.key.data)) ∧ w'.cell? ⟨b2', off2 + k * 7 + 4, none⟩ = some (.bool x2.val.null) ∧ w'.cell? ⟨b2', off2 + k * 7 + 5, none⟩ = some (.string (bb x2.val.data)) ∧ w'.cell? ⟨b2', off2 + k * 7 + 6, none⟩ = some (v2))) (by kernel_rfl) (HKP.out _ hs) (fun hHeld => ?_)
    refine tQ 0 ⟨some 97, .fieldAddr 26 (.tmp 2) 11, 0, "ref.go:180", #[], none⟩ ?_; simp only [Act.put, sA, sB, sC]
    refine tQ 1 ⟨some 98, .load 24 (.tmp 97), 24, "ref.go:180", #[.mk 0 .data], none⟩ ?_; simp only [Act.put, sA, sB, sC]
    refine tQ 2 ⟨some 99, .move (.tmp 5), 3, "ref.go:180", #[], none⟩ ?_; simp only [Act.put, sA, sB, sC]
    refine tQ 3 ⟨some 100, .indexAddr 24 (.tmp 98) (.tmp 99), 0, "ref.go:180", #[.mk 1 .data, .mk 2 .data], none⟩ ?_; simp only [Act.put, sA, sB, sC]
    refine tQ 4 ⟨some 101, .load 51 (.tmp 100), 51, "ref.go:180", #[.mk 3 .data], none⟩ ?_; simp only [Act.put, sA, sB, sC]
    refine tQ 5 ⟨some 102, .fieldAddr 26 (.tmp 3) 11, 0, "ref.go:180", #[], none⟩ ?_; simp only [Act.put, sA, sB, sC]
    refine tQ 6 ⟨some 103, .load 24 (.tmp 102), 24, "ref.go:180", #[.mk 5 .data], none⟩ ?_; simp only [Act.put, sA, sB, sC]
    refine tQ 7 ⟨some 104, .move (.tmp 5), 3, "ref.go:180", #[], none⟩ ?_; simp only [Act.put, sA, sB, sC]
    refine tQ 8 ⟨some 105, .indexAddr 24 (.tmp 103) (.tmp 104), 0, "ref.go:180", #[.mk 6 .data, .mk 7 .data], none⟩ ?_; simp only [Act.put, sA, sB, sC]
    refine tQ 9 ⟨some 106, .load 51 (.tmp 105), 51, "ref.go:180", #[.mk 8 .data], none⟩ ?_; simp only [Act.put, sA, sB, sC]
    refine wpAnyH_ready (rs := [10]) (by kernel_rfl) (by simp) (AllReadyH.cons (o := ⟨some 107, .call { callee := .value (.func 33), args := #[.tmp 101, .tmp 106], argTypes := #[51, 51] }, 4, "ref.go:180", #[.mk 4 .data, .mk 9 .data], none⟩) rfl (fun KK hK => ?_) AllReadyH.nil)
    · go_simp
      go_at_call 33
      with_reducible refine (ref07_sameV x1 x2 v1 v2 true E1.out XF1.out XF2.out XK1.out XK2.out hs).mono ?_
      rintro e wq ⟨rfl, hs⟩
      refine hK.out _ _ (HKP.out _ hs) (fun hHeld => ?_)
      clear hK KK
      try simp only [Act.put, sA, sB, sC]
      refine tQ 11 ⟨some 108, .unOp UnOp.not 4 (.tmp 107), 4, "ref.go:180", #[.mk 10 .data], none⟩ ?_; simp only [Act.put, sA, sB, sC]
      refine wpAnyH_done (by kernel_rfl) ?_ _
      go_wp2_with fail
      go_roundw
      case rel => exact ⟨k + 1, hlt, by go_num, hs⟩
      case measure => first | (simp [intOf]; done) | (simp [intOf]; omega)
  · obtain rfl : k = l1.length := by omega
    go_wp2
    go_ret
    exact ⟨rfl, H.out.drop.drop⟩
theorem mark_R (ks vs : Bs) : (⟨0, 0, ⟨false, ks⟩, ⟨false, vs⟩, []⟩ : RecS).R := ⟨⟨by show (-9223372036854775808 : Int) ≤ 0; decide, by show (0 : Int) < 9223372036854775808; decide⟩, ⟨by show (-9223372036854775808 : Int) ≤ 0; decide, by show (0 : Int) < 9223372036854775808; decide⟩⟩
theorem smallOk_mark (base leader : Int) (n1 n2 n3 n4 n5 : Int) (ks vs : Bs) (hks : ctlKey n3 = (ks, 0)) (hvs : ctlVal n5 = (vs, 0)) (hR : BatS.R (⟨base, leader, false, true, true, 0, n4, n4, n1, n2, -1, [(⟨0, 0, ⟨false, ks⟩, ⟨false, vs⟩, []⟩ : RecS)]⟩ : BatS)) (he : batErr (⟨base, leader, false, true, true, 0, n4, n4, n1, n2, -1, [(⟨0, 0, ⟨false, ks⟩, ⟨false, vs⟩, []⟩ : RecS)]⟩ : BatS) = 0) : SmallOk (⟨base, leader, false, true, true, 0, n4, n4, n1, n2, -1, [(⟨0, 0, ⟨false, ks⟩, ⟨false, vs⟩, []⟩ : RecS)]⟩ : BatS) where
 fit := by
  intro x hx
  obtain rfl : x = (⟨0, 0, ⟨false, ks⟩, ⟨false, vs⟩, []⟩ : RecS) := by simpa using hx
  have hr := (batErr_zero he).2.2.2
  have hk : ks.length = 4 := by unfold ctlKey at hks; split at hks <;> cases hks; exact verB_len _ _
  have hv : vs.length = 6 := by unfold ctlVal at hvs; split at hvs <;> cases hvs; exact verB_len _ _
  refine ⟨mark_R ks vs, recsC_ok _ hr _ (by simp), ?_⟩
  unfold RecS.sum
  simp [hsum, hk, hv]
 len := by simp
 err := he
 rng := hR
theorem bat_encode1 (base leader : Int) (n1 n2 n3 n4 n5 : Int) (ks vs s : Bs) (hs : BatS.enc (⟨base, leader, false, true, true, 0, n4, n4, n1, n2, -1, [(⟨0, 0, ⟨false, ks⟩, ⟨false, vs⟩, []⟩ : RecS)]⟩ : BatS) = s) (so : SmallOk (⟨base, leader, false, true, true, 0, n4, n4, n1, n2, -1, [(⟨0, 0, ⟨false, ks⟩, ⟨false, vs⟩, []⟩ : RecS)]⟩ : BatS)) (q : Option Addr) (cap : Nat) {W0 w : World} {K : Know} {L : List Res} (hk : K.has (Know.recs (.slice q 1 cap) [((⟨0, 0, ⟨false, ks⟩, ⟨false, vs⟩, []⟩ : RecS), .slice none 0 0)])) (h : St W0 w K L) :
  Calls Tryz.prog 15 #[.agg #[.int .i64 base, .int .i64 leader, .bool false, .bool true, .bool true, .int .i64 0, .int .i64 n4, .int .i64 n4, .int .i64 n1, .int .i64 n2, .int .i64 (-1), .slice q 1 cap]] w fun en w' => en = .returned (.tuple #[.string (bb s), .int .i64 0]) ∧ St W0 w' K L :=
 bat_encode_encE (⟨base, leader, false, true, true, 0, n4, n4, n1, n2, -1, [(⟨0, 0, ⟨false, ks⟩, ⟨false, vs⟩, []⟩ : RecS)]⟩ : BatS) s hs [((⟨0, 0, ⟨false, ks⟩, ⟨false, vs⟩, []⟩ : RecS), .slice none 0 0)] q cap rfl so hk h
set_option maxHeartbeats 1000000 in
set_option maxRecDepth 100000 in
theorem mrk_encode_rec (base leader : Int) (n1 n2 n3 n4 n5 : Int) (hn3 : Rn n3) (hn5 : Rn n5) (e : Int) (he : recErr n3 n5 = e) (h0 : e ≠ 0) {W0 w : World} {K : Know} {L : List Res} (h : St W0 w K L) :
  Calls Tryz.prog 9 #[.int .i64 base, .int .i64 leader, .agg #[.int .i64 n1, .int .i64 n2, .int .i64 n3, .int .i64 n4, .int .i64 n5]] w fun en w' => en = .returned (.tuple #[.string ⟨#[]⟩, .int .i64 e]) ∧ St W0 w' K L := by
 have g1 := h.allocRaw #[.int .i64 n1, .int .i64 n2, .int .i64 n3, .int .i64 n4, .int .i64 n5] 35
 obtain ⟨eb, heb⟩ : ∃ b, w.heap.size = b := ⟨_, rfl⟩
 rw [heb] at g1
 obtain ⟨⟨x0, x1, x2, x3, x4⟩, y0, y1, y2, y3, y4⟩ := raw5e (b := eb) (g1)
 have H := Lib.hid g1
 have HN3 := Lib.hid hn3
 have HN5 := Lib.hid hn5
 clear h g1 hn3 hn5
 have HE := Lib.hid he
 have H0 := Lib.hid h0
 have gz : (e == 0) = false := by rw [beq_eq_false_iff_ne]; exact h0
 have gz3 : (e != 0) = true := by simp [bne, gz]
 clear he h0
 go_enter Tryz.func9, Tryz.ntmps9
 go_wp2_with (first
  | (go_at_call 8; clear x0 x1 x2 x3 x4 y0 y1 y2 y3 y4; (with_reducible refine (mrk_batch_rec base leader n1 n2 n3 n4 n5 HN3.out HN5.out e HE.out H0.out H.out).mono ?_); rintro e_ wn ⟨rfl, h⟩; obtain ⟨bb_, hbb⟩ : ∃ b, wn.heap.size = b := ⟨_, rfl⟩; have h := h.allocRaw #[.int .i64 0, .int .i64 0, .bool false, .bool false, .bool false, .int .i64 0, .int .i64 0, .int .i64 0, .int .i64 0, .int .i64 0, .int .i64 0, .slice none 0 0] 26; rw [hbb] at h; replace H := Lib.hid h; clear h; obtain ⟨⟨x0, x1, x2, x3, x4⟩, y0, y1, y2, y3, y4⟩ := raw5e (b := eb) (H.out.p1); obtain ⟨z0, z1, z2, z3, z4, z5, z6, z7, z8, z9, z10, z11, v0, v1, v2, v3, v4, v5, v6, v7, v8, v9, v10, v11⟩ := raw12 (b := bb_) (H.out)))
 go_ret2
 exact ⟨rfl, H.out.drop.drop⟩
set_option maxHeartbeats 1000000 in
set_option maxRecDepth 100000 in
theorem mrk_encode_bad (base leader : Int) (n1 n2 n3 n4 n5 : Int) (hn3 : Rn n3) (hn5 : Rn n5) (hmx : n4 ≤ 9223372036854775807) (ks vs : Bs) (hks : ctlKey n3 = (ks, 0)) (hvs : ctlVal n5 = (vs, 0)) (hfr : (⟨0, 0, ⟨false, ks⟩, ⟨false, vs⟩, []⟩ : RecS).R ∧ HFit (⟨0, 0, ⟨false, ks⟩, ⟨false, vs⟩, []⟩ : RecS).hdrs ∧ (⟨0, 0, ⟨false, ks⟩, ⟨false, vs⟩, []⟩ : RecS).sum ≤ 1000000) (e : Int) (h0 : e ≠ 0) (he : batErr (⟨base, leader, false, true, true, 0, n4, n4, n1, n2, -1, [(⟨0, 0, ⟨false, ks⟩, ⟨false, vs⟩, []⟩ : RecS)]⟩ : BatS) = e) {W0 w : World} {K : Know} {L : List Res} (h : St W0 w K L) :
  Calls Tryz.prog 9 #[.int .i64 base, .int .i64 leader, .agg #[.int .i64 n1, .int .i64 n2, .int .i64 n3, .int .i64 n4, .int .i64 n5]] w fun en w' => en = .returned (.tuple #[.string ⟨#[]⟩, .int .i64 e]) ∧ St W0 w' K L := by
 have g1 := h.allocRaw #[.int .i64 n1, .int .i64 n2, .int .i64 n3, .int .i64 n4, .int .i64 n5] 35
 obtain ⟨eb, heb⟩ : ∃ b, w.heap.size = b := ⟨_, rfl⟩
 rw [heb] at g1
 obtain ⟨⟨x0, x1, x2, x3, x4⟩, y0, y1, y2, y3, y4⟩ := raw5e (b := eb) (g1)
 have H := Lib.hid g1
 have HN3 := Lib.hid hn3
 have HN5 := Lib.hid hn5
 clear h g1 hn3 hn5
 have HE := Lib.hid he
 have H0 := Lib.hid h0
 have gz : (e == 0) = false := by rw [beq_eq_false_iff_ne]; exact h0
 have gz3 : (e != 0) = true := by simp [bne, gz]
 have HMX := Lib.hid hmx
 have HKS := Lib.hid hks
 have HVS := Lib.hid hvs
 have HFR := Lib.hid hfr
 clear he h0 hmx hks hvs hfr
 go_enter Tryz.func9, Tryz.ntmps9
 go_wp2_with (first
  | (go_at_call 8; clear x0 x1 x2 x3 x4 y0 y1 y2 y3 y4; (with_reducible refine (mrk_batch_bad base leader n1 n2 n3 n4 n5 HN3.out HN5.out HMX.out ks vs HKS.out HVS.out HFR.out e H0.out HE.out H.out).mono ?_); rintro e_ wn ⟨rfl, h⟩; obtain ⟨bb_, hbb⟩ : ∃ b, wn.heap.size = b := ⟨_, rfl⟩; have h := h.allocRaw #[.int .i64 0, .int .i64 0, .bool false, .bool false, .bool false, .int .i64 0, .int .i64 0, .int .i64 0, .int .i64 0, .int .i64 0, .int .i64 0, .slice none 0 0] 26; rw [hbb] at h; replace H := Lib.hid h; clear h; obtain ⟨⟨x0, x1, x2, x3, x4⟩, y0, y1, y2, y3, y4⟩ := raw5e (b := eb) (H.out.p1); obtain ⟨z0, z1, z2, z3, z4, z5, z6, z7, z8, z9, z10, z11, v0, v1, v2, v3, v4, v5, v6, v7, v8, v9, v10, v11⟩ := raw12 (b := bb_) (H.out)))
 go_ret2
 exact ⟨rfl, H.out.drop.drop⟩
set_option maxHeartbeats 1000000 in
set_option maxRecDepth 100000 in
theorem mrk_encode_ok (base leader : Int) (n1 n2 n3 n4 n5 : Int) (hn3 : Rn n3) (hn5 : Rn n5) (hmx : n4 ≤ 9223372036854775807) (ks vs : Bs) (hks : ctlKey n3 = (ks, 0)) (hvs : ctlVal n5 = (vs, 0)) (hfr : (⟨0, 0, ⟨false, ks⟩, ⟨false, vs⟩, []⟩ : RecS).R ∧ HFit (⟨0, 0, ⟨false, ks⟩, ⟨false, vs⟩, []⟩ : RecS).hdrs ∧ (⟨0, 0, ⟨false, ks⟩, ⟨false, vs⟩, []⟩ : RecS).sum ≤ 1000000) (he : batErr (⟨base, leader, false, true, true, 0, n4, n4, n1, n2, -1, [(⟨0, 0, ⟨false, ks⟩, ⟨false, vs⟩, []⟩ : RecS)]⟩ : BatS) = 0) (so : SmallOk (⟨base, leader, false, true, true, 0, n4, n4, n1, n2, -1, [(⟨0, 0, ⟨false, ks⟩, ⟨false, vs⟩, []⟩ : RecS)]⟩ : BatS)) (s : Bs) (hs : BatS.enc (⟨base, leader, false, true, true, 0, n4, n4, n1, n2, -1, [(⟨0, 0, ⟨false, ks⟩, ⟨false, vs⟩, []⟩ : RecS)]⟩ : BatS) = s) {W0 w : World} {K : Know} {L : List Res} (h : St W0 w K L) :
  Calls Tryz.prog 9 #[.int .i64 base, .int .i64 leader, .agg #[.int .i64 n1, .int .i64 n2, .int .i64 n3, .int .i64 n4, .int .i64 n5]] w fun en w' => en = .returned (.tuple #[.string (bb s), .int .i64 0]) ∧ St W0 w' K L := by
 have g1 := h.allocRaw #[.int .i64 n1, .int .i64 n2, .int .i64 n3, .int .i64 n4, .int .i64 n5] 35
 obtain ⟨eb, heb⟩ : ∃ b, w.heap.size = b := ⟨_, rfl⟩
 rw [heb] at g1
 obtain ⟨⟨x0, x1, x2, x3, x4⟩, y0, y1, y2, y3, y4⟩ := raw5e (b := eb) (g1)
 have H := Lib.hid g1
 have HN3 := Lib.hid hn3
 have HN5 := Lib.hid hn5
 clear h g1 hn3 hn5
 have HE := Lib.hid he
 have HS := Lib.hid hs
 have HSO := Lib.hid so
 have HMX := Lib.hid hmx
 have HKS := Lib.hid hks
 have HVS := Lib.hid hvs
 have HFR := Lib.hid hfr
 clear he so hs hmx hks hvs hfr
 go_enter Tryz.func9, Tryz.ntmps9
 go_wp2_with (first
  | (go_at_call 8; clear x0 x1 x2 x3 x4 y0 y1 y2 y3 y4; (with_reducible refine (mrk_batch_ok base leader n1 n2 n3 n4 n5 HN3.out HN5.out HMX.out ks vs HKS.out HVS.out HFR.out HE.out H.out).mono ?_); rintro e_ wn ⟨q, rfl, h⟩; obtain ⟨bb_, hbb⟩ : ∃ b, wn.heap.size = b := ⟨_, rfl⟩; have h := h.allocRaw #[.int .i64 base, .int .i64 leader, .bool false, .bool true, .bool true, .int .i64 0, .int .i64 n4, .int .i64 n4, .int .i64 n1, .int .i64 n2, .int .i64 (-1), .slice q 1 1] 26; rw [hbb] at h; replace H := Lib.hid h; clear h; obtain ⟨⟨x0, x1, x2, x3, x4⟩, y0, y1, y2, y3, y4⟩ := raw5e (b := eb) (H.out.p1); obtain ⟨z0, z1, z2, z3, z4, z5, z6, z7, z8, z9, z10, z11, v0, v1, v2, v3, v4, v5, v6, v7, v8, v9, v10, v11⟩ := raw12 (b := bb_) (H.out))
  | (go_at_call 15; clear z0 v0 z1 v1 z2 v2 z3 v3 z4 v4 z5 v5 z6 v6 z7 v7 z8 v8 z9 v9 z10 v10 z11 v11; (with_reducible refine (bat_encode1 base leader n1 n2 n3 n4 n5 ks vs s HS.out HSO.out q 1 (Know.has_right (Know.has_refl _)) H.out).mono ?_); rintro e_ wn ⟨rfl, h⟩; replace H := Lib.hid h; clear h))
 go_ret2
 exact ⟨rfl, (H.out.drop.drop).know (Know.has_left (Know.has_refl _))⟩
def pw (n : Nat) : Bool := decide (n ∈ [28, 27, 26, 25, 23, 22, 20, 19, 18, 14, 13, 11, 10, 9, 8, 6, 0])
theorem pw_cP : ∀ j, j < 32 → pw (31 - j) = cP.getLsbD j := by decide
def inner (m : List Bool) (i : Nat) : Nat → List Bool
  | 0 => m
  | k + 1 => (inner m i k).set (i + (k + 1)) ((inner m i k).getD (i + (k + 1)) false ^^ pw (31 - k))
def outer (m : List Bool) : Nat → List Bool
  | 0 => m
  | i + 1 => if (outer m i).getD i false then inner (outer m i) i 32 else outer m i
def turned : Nat → List Bool → List Bool
  | 0, m => m
  | k + 1, m => (turned k m).set k (!(turned k m).getD k false)
theorem inner_len (m : List Bool) (i k : Nat) : (inner m i k).length = m.length := by
 induction k with
 | zero => rfl
 | succ k ih => show (List.set _ _ _).length = _; rw [List.length_set, ih]
theorem outer_len (m : List Bool) (i : Nat) : (outer m i).length = m.length := by
 induction i with
 | zero => rfl
 | succ i ih =>
  show (if _ then _ else _ : List Bool).length = _
  split
  · rw [inner_len, ih]
  · exact ih
theorem turned_len (m : List Bool) (k : Nat) : (turned k m).length = m.length := by
 induction k with
 | zero => rfl
 | succ k ih => show (List.set _ _ _).length = _; rw [List.length_set, ih]
theorem getD_set (m : List Bool) (i x : Nat) (b : Bool) (h : i < m.length) : (m.set i b).getD x false = if x = i then b else m.getD x false := by
 rw [List.getD_eq_getElem?_getD, List.getD_eq_getElem?_getD, List.getElem?_set]
 by_cases hx : i = x
 · subst hx; simp [h]
 · have hx2 : ¬ x = i := fun e => hx e.symm
   simp [hx, hx2]
theorem turned_get (m : List Bool) (k : Nat) (h : k ≤ m.length) (x : Nat) : (turned k m).getD x false = if x < k then !m.getD x false else m.getD x false := by
 induction k with
 | zero => simp [turned]
 | succ k ih =>
  have ih := ih (by omega)
  show ((turned k m).set k (!(turned k m).getD k false)).getD x false = _
  rw [getD_set _ _ _ _ (by rw [turned_len]; omega)]
  by_cases hx : x = k
  · subst hx
    rw [if_pos rfl, ih, if_neg (by omega), if_pos (by omega)]
  · rw [if_neg hx, ih]
    by_cases h2 : x < k
    · rw [if_pos h2, if_pos (by omega)]
    · rw [if_neg h2, if_neg (by omega)]
theorem inner_get (m : List Bool) (i k : Nat) (h : i + k < m.length) (x : Nat) : (inner m i k).getD x false = if i < x ∧ x ≤ i + k then (m.getD x false ^^ pw (32 - (x - i))) else m.getD x false := by
 induction k generalizing x with
 | zero =>
  show m.getD x false = _
  rw [if_neg (by omega)]
 | succ k ih =>
  have ih := fun x => ih (by omega) x
  show ((inner m i k).set (i + (k + 1)) ((inner m i k).getD (i + (k + 1)) false ^^ pw (31 - k))).getD x false = _
  rw [getD_set _ _ _ _ (by rw [inner_len]; omega)]
  by_cases hx : x = i + (k + 1)
  · subst hx
    rw [if_pos rfl, ih, if_neg (by omega), if_pos (by omega), show 32 - (i + (k + 1) - i) = 31 - k by omega]
  · rw [if_neg hx, ih]
    by_cases h2 : i < x ∧ x ≤ i + k
    · rw [if_pos h2, if_pos (by omega)]
    · rw [if_neg h2, if_neg (by omega)]
theorem b2w_bit (b : Bool) (j : Nat) : (b2w b).getLsbD j = (decide (j = 0) && b) := by
 cases b
 · simp [b2w]
 · cases j with
   | zero => rfl
   | succ j => simp [b2w]
theorem step_bit (r : W32) (j : Nat) (hj : j < 32) : (step r).getLsbD j = (r.getLsbD (j + 1) ^^ (r.getLsbD 0 && pw (31 - j))) := by
 unfold step
 rw [BitVec.getLsbD_xor, BitVec.getLsbD_ushiftRight, Nat.add_comm 1 j, pw_cP j hj]
 cases r.getLsbD 0 <;> simp
theorem outer_feed (b : List Bool) (r : W32) (m : List Bool) (hm : m.length = b.length + 32) (h0 : ∀ x, m.getD x false = if x < 32 then (r.getLsbD x ^^ b.getD x false) else b.getD x false) :
  ∀ i, i ≤ b.length → ∀ x, i ≤ x → (outer m i).getD x false = if x < i + 32 then ((feed r (b.take i)).getLsbD (x - i) ^^ b.getD x false) else b.getD x false := by
 intro i
 induction i with
 | zero =>
  intro _ x _
  show m.getD x false = _
  rw [h0 x, Nat.zero_add, Nat.sub_zero, List.take_zero]
  rfl
 | succ i ih =>
  intro hi x hx
  have ih := ih (by omega)
  have hb : i < b.length := by omega
  have hf : feed r (b.take (i + 1)) = step (feed r (b.take i) ^^^ b2w b[i]) := by
    rw [List.take_succ_eq_append_getElem hb, feed_append]
    rfl
  have hbi : b.getD i false = b[i] := by rw [List.getD_eq_getElem?_getD, List.getElem?_eq_getElem hb]; rfl
  have hi0 := ih i (Nat.le_refl _)
  rw [if_pos (by omega), Nat.sub_self, hbi] at hi0
  have hx0 := ih x (by omega)
  have hq : (outer m (i + 1)).getD x false = ((outer m i).getD x false ^^ ((outer m i).getD i false && (decide (x ≤ i + 32) && pw (32 - (x - i))))) := by
    show (if (outer m i).getD i false then inner (outer m i) i 32 else outer m i).getD x false = _
    cases hc : (outer m i).getD i false with
    | false => simp
    | true =>
      rw [if_pos rfl, inner_get _ _ _ (by rw [outer_len]; omega)]
      by_cases h2 : x ≤ i + 32
      · rw [if_pos ⟨by omega, h2⟩]; simp [h2]
      · rw [if_neg (by omega)]; simp [h2]
  rw [hq, hi0, hf]
  generalize feed r (b.take i) = R at hx0 ⊢
  generalize b[i] = c
  by_cases h1 : x < i + 1 + 32
  · have hj : x - (i + 1) < 32 := by omega
    rw [if_pos h1, step_bit _ _ hj, BitVec.getLsbD_xor, BitVec.getLsbD_xor, b2w_bit, b2w_bit, show x - (i + 1) + 1 = x - i by omega, show 31 - (x - (i + 1)) = 32 - (x - i) by omega]
    have e1 : decide (x ≤ i + 32) = true := decide_eq_true (by omega)
    have e2 : decide (x - i = 0) = false := decide_eq_false (by omega)
    rw [e1, e2, hx0]
    by_cases h3 : x < i + 32
    · rw [if_pos h3]
      cases R.getLsbD (x - i) <;> cases b.getD x false <;> cases R.getLsbD 0 <;> cases c <;> simp
    · rw [if_neg h3]
      have e3 : R.getLsbD (x - i) = false := BitVec.getLsbD_of_ge _ _ (by omega)
      rw [e3]
      cases b.getD x false <;> cases R.getLsbD 0 <;> cases c <;> simp
  · rw [if_neg h1, hx0, if_neg (by omega)]
    have e1 : decide (x ≤ i + 32) = false := decide_eq_false (by omega)
    rw [e1]
    simp
def readOut (f : Nat → Bool) : Nat → Nat
  | 0 => 0
  | k + 1 => readOut f k * 2 + (if f (31 - k) then 1 else 0)
def rowOf (s : Bs) : List Bool := bitsOf s ++ List.replicate 32 false
def divided (s : Bs) : List Bool := outer (turned 32 (rowOf s)) (8 * s.length)
theorem rowOf_len (s : Bs) : (rowOf s).length = 8 * s.length + 32 := by unfold rowOf; rw [List.length_append, bitsOf_length, List.length_replicate]
theorem rowOf_get (s : Bs) (x : Nat) : (rowOf s).getD x false = (bitsOf s).getD x false := by
 unfold rowOf
 rw [List.getD_eq_getElem?_getD, List.getD_eq_getElem?_getD, List.getElem?_append]
 split
 · rfl
 · next h =>
   rw [List.getElem?_eq_none (l := bitsOf s) (by omega), List.getElem?_replicate]
   split <;> rfl
theorem divided_get (s : Bs) (j : Nat) (hj : j < 32) : (divided s).getD (8 * s.length + j) false = !((crcMore 0#32 s).getLsbD j) := by
 have hl := bitsOf_length s
 have h := outer_feed (bitsOf s) (BitVec.allOnes 32) (turned 32 (rowOf s)) (by rw [turned_len, rowOf_len, hl]) (fun x => by
  rw [turned_get _ _ (by rw [rowOf_len]; omega), rowOf_get]
  by_cases hx : x < 32
  · rw [if_pos hx, if_pos hx, BitVec.getLsbD_allOnes]; simp [hx]
  · rw [if_neg hx, if_neg hx]) (8 * s.length) (by omega) (8 * s.length + j) (by omega)
 unfold divided
 rw [h, if_pos (by omega), Nat.add_sub_cancel_left, List.take_of_length_le (by omega)]
 have hz : (bitsOf s).getD (8 * s.length + j) false = false := by rw [List.getD_eq_getElem?_getD, List.getElem?_eq_none (by omega)]; rfl
 rw [hz]
 unfold crcMore
 rw [crcRaw_feed, BitVec.getLsbD_not]
 simp [hj]

theorem readOut_bits (r : W32) : ∀ k, k ≤ 32 → readOut (fun j => r.getLsbD j) k = r.toNat / 2 ^ (32 - k)
  | 0, _ => by
    show 0 = _
    rw [Nat.sub_zero, Nat.div_eq_of_lt r.isLt]
  | k + 1, hk => by
    have ih := readOut_bits r k (by omega)
    show readOut (fun j => r.getLsbD j) k * 2 + (if r.getLsbD (31 - k) then 1 else 0) = _
    rw [ih, show 32 - k = 31 - k + 1 by omega, show 32 - (k + 1) = 31 - k by omega, Nat.pow_succ, ← Nat.div_div_eq_div_mul]
    have hb : r.getLsbD (31 - k) = decide (r.toNat / 2 ^ (31 - k) % 2 = 1) := by
      rw [BitVec.getLsbD, Nat.testBit_eq_decide_div_mod_eq]
    rw [hb]
    generalize r.toNat / 2 ^ (31 - k) = a
    by_cases h : a % 2 = 1
    · simp [h]; omega
    · simp [h]; omega
theorem readOut_ext (f g : Nat → Bool) (h : ∀ j, j < 32 → f j = g j) : ∀ k, k ≤ 32 → readOut f k = readOut g k
  | 0, _ => rfl
  | k + 1, hk => by
    show readOut f k * 2 + _ = readOut g k * 2 + _
    rw [readOut_ext f g h k (by omega), h (31 - k) (by omega)]
theorem divided_sum (s : Bs) : readOut (fun j => !(divided s).getD (8 * s.length + j) false) 32 = (crcMore 0#32 s).toNat := by
 rw [readOut_ext _ (fun j => (crcMore 0#32 s).getLsbD j) (fun j hj => by rw [divided_get s j hj]; simp) 32 (Nat.le_refl _), readOut_bits _ 32 (Nat.le_refl _)]
 simp
theorem readOut_lt (f : Nat → Bool) : ∀ k, readOut f k < 2 ^ k
  | 0 => by show 0 < 2 ^ 0; omega
  | k + 1 => by
    have := readOut_lt f k
    show readOut f k * 2 + _ < _
    rw [Nat.pow_succ]
    split <;> omega
def bitN (b : Bool) : Nat := if b then 1 else 0

def pwL : List Nat := [28, 27, 26, 25, 23, 22, 20, 19, 18, 14, 13, 11, 10, 9, 8, 6, 0]
def pwC : Array Value := #[.int .i64 28, .int .i64 27, .int .i64 26, .int .i64 25, .int .i64 23, .int .i64 22, .int .i64 20, .int .i64 19, .int .i64 18, .int .i64 14, .int .i64 13, .int .i64 11, .int .i64 10, .int .i64 9, .int .i64 8, .int .i64 6, .int .i64 0]
theorem pw_cell : ∀ k, k < 17 → pwC[k]? = some (.int .i64 ((pwL.getD k 0 : Nat) : Int))
  | 0, _ => rfl
  | 1, _ => rfl
  | 2, _ => rfl
  | 3, _ => rfl
  | 4, _ => rfl
  | 5, _ => rfl
  | 6, _ => rfl
  | 7, _ => rfl
  | 8, _ => rfl
  | 9, _ => rfl
  | 10, _ => rfl
  | 11, _ => rfl
  | 12, _ => rfl
  | 13, _ => rfl
  | 14, _ => rfl
  | 15, _ => rfl
  | 16, _ => rfl
  | k + 17, h => absurd h (by omega)
theorem pw_yes : ∀ k, k < 17 → pw (pwL.getD k 0) = true := by decide
theorem pw_no (n : Nat) (h : ∀ j, j < 17 → pwL.getD j 0 ≠ n) : pw n = false := by
 unfold pw
 rw [decide_eq_false_iff_not]
 intro hm
 have e : pwL = [28, 27, 26, 25, 23, 22, 20, 19, 18, 14, 13, 11, 10, 9, 8, 6, 0] := rfl
 rw [← e] at hm
 obtain ⟨j, hj, hg⟩ := List.getElem_of_mem hm
 exact h j hj (by rw [List.getD_eq_getElem?_getD, List.getElem?_eq_getElem hj]; exact hg)
theorem bit_div (s : Bs) (i : Nat) (hi : i < 8 * s.length) (h : i / 8 < s.length) : (s[i / 8].toNat / 2 ^ (i % 8)) % 2 = bitN ((bitsOf s).getD i false) := by
 rw [bitsOf_get]
 have e : s.getD (i / 8) 0 = s[i / 8] := by rw [List.getD_eq_getElem?_getD, List.getElem?_eq_getElem h]; rfl
 rw [e, Nat.testBit_eq_decide_div_mod_eq]
 generalize s[i / 8].toNat / 2 ^ (i % 8) = a
 unfold bitN
 by_cases h : a % 2 = 1
 · simp [h]
 · simp [h]; omega
set_option maxHeartbeats 1000000 in
set_option maxRecDepth 100000 in
theorem ref05_power (n : Nat) (hn : n < 32) {W0 w : World} {K : Know} {L : List Res} (h : St W0 w K L) :
  Calls Tryz.prog 50 #[.int .i64 n] w fun en w' => en = .returned (.int .i64 (bitN (pw n))) ∧ St W0 w' K L := by
 have H := Lib.hid h
 clear h
 go_enter Tryz.func50, Tryz.ntmps50
 go_wp2
 have hal := H.out.allocRaw pwC 3
 obtain ⟨bP, hbP⟩ : ∃ b, w.heap.size = b := ⟨_, rfl⟩
 rw [hbP] at hal
 clear H
 have H := Lib.hid hal
 clear hal
 go_loopw [2, 4] (fun s2 iv wr => ∃ k : Nat, k ≤ 17 ∧ s2 = .int .i64 0 ∧ iv = .int .i64 k ∧ (∀ j, j < k → pwL.getD j 0 ≠ n) ∧ St W0 wr K (.raw bP pwC 3 :: L)) (fun _ iv _ => 17 - (intOf iv).toNat)
 case atStart => exact ⟨0, by omega, rfl, rfl, (fun j h => absurd h (by omega)), H.out⟩
 case round =>
  obtain ⟨k, hk, rfl, rfl, hno, hst⟩ := hrel
  clear H
  have H := Lib.hid hst
  have HNO := Lib.hid hno
  clear hst hno
  by_cases hlt : k < 17
  · have c0 := H.out.rawCell k
    rw [pw_cell k hlt] at c0
    obtain ⟨m, hm⟩ : ∃ m, pwL.getD k 0 = m := ⟨_, rfl⟩
    rw [hm] at c0
    have hki : (k : Int) < 17 := by omega
    by_cases he : m = n
    · subst he
      have HY := Lib.hid (show pw m = true by rw [← hm]; exact pw_yes k hlt)
      clear hm
      go_wp2
      go_ret
      exact ⟨by rw [HY.out]; rfl, H.out.drop⟩
    · have he2 : ((m : Int) == (n : Int)) = false := by rw [beq_eq_false_iff_ne]; omega
      have HN2 := Lib.hid (show ∀ j, j < k + 1 → pwL.getD j 0 ≠ n by
       intro j hj
       by_cases hjk : j = k
       · subst hjk; rw [hm]; exact he
       · exact HNO.out j (by omega))
      clear hm
      go_wp2
      go_roundw
      case rel => exact ⟨k + 1, hlt, rfl, by go_num, HN2.out, H.out⟩
      case measure => first | (simp [intOf]; done) | (simp [intOf]; omega)
  · have hkl : k = 17 := by omega
    subst hkl
    go_wp2
    go_ret
    exact ⟨by rw [pw_no n HNO.out]; rfl, H.out.drop⟩
set_option maxHeartbeats 1000000 in
set_option maxRecDepth 100000 in
theorem ref05_bit (s : Bs) (i : Nat) (hi : i < 8 * s.length) (hs : s.length ≤ 1000000) {W0 w : World} {K : Know} {L : List Res} (h : St W0 w K L) :
  Calls Tryz.prog 49 #[.string (bb s), .int .i64 i] w fun en w' => en = .returned (.int .i64 (bitN ((bitsOf s).getD i false))) ∧ St W0 w' K L := by
 have H := Lib.hid h
 clear h
 obtain ⟨q, hq⟩ : ∃ q, i / 8 = q := ⟨_, rfl⟩
 obtain ⟨r, hr⟩ : ∃ r, i % 8 = r := ⟨_, rfl⟩
 have t1 : (i : Int).tdiv 8 = (q : Int) := by rw [← hq]; rfl
 have t2 : (i : Int).tmod 8 = (r : Int) := by rw [← hr]; rfl
 have hqs : q < s.length := by omega
 have hr8 : r < 8 := by omega
 have HB := Lib.hid (show (s[q].toNat / 2 ^ r) % 2 = bitN ((bitsOf s).getD i false) by have := bit_div s i hi (by omega); simp only [hq, hr] at this; exact this)
 clear hq hr
 go_enter Tryz.func49, Tryz.ntmps49
 go_wp2
 go_loopw [5, 6] (fun c iv wr => ∃ k : Nat, k ≤ r ∧ c = .int .i64 ((s[q].toNat / 2 ^ k : Nat) : Int) ∧ iv = .int .i64 k ∧ St W0 wr K L) (fun _ iv _ => r - (intOf iv).toNat)
 case atStart => exact ⟨0, Nat.zero_le _, by have h8 := s[q].toNat_lt; simp; unfold wrap64; omega, rfl, H.out⟩
 case round =>
  obtain ⟨k, hk, rfl, rfl, hst⟩ := hrel
  clear H
  have H := Lib.hid hst
  clear hst
  obtain ⟨c, hc⟩ : ∃ c, s[q].toNat / 2 ^ k = c := ⟨_, rfl⟩
  have hc8 : c < 256 := by
    have h1 : s[q].toNat / 2 ^ k ≤ s[q].toNat := Nat.div_le_self _ _
    have h2 := s[q].toNat_lt
    omega
  rw [hc]
  by_cases hlt : k < r
  · have hki : (k : Int) < (r : Int) := by omega
    have HC := Lib.hid (show s[q].toNat / 2 ^ (k + 1) = c / 2 by rw [Nat.pow_succ, ← Nat.div_div_eq_div_mul, hc])
    have t3 : (c : Int).tdiv 2 = ((c / 2 : Nat) : Int) := rfl
    clear hc
    go_wp2
    go_roundw
    case rel => exact ⟨k + 1, hlt, by rw [HC.out]; rfl, by go_num, H.out⟩
    case measure => first | (simp [intOf]; done) | (simp [intOf]; omega)
  · have hkl : k = r := by omega
    subst hkl
    rw [hc] at HB
    have t3 : (c : Int).tmod 2 = ((c % 2 : Nat) : Int) := rfl
    clear hc
    go_wp2
    go_ret
    exact ⟨by rw [← HB.out]; rfl, H.out⟩
def cellsB (l : List Bool) : Array Value := (l.map fun b => Value.int .i64 (bitN b)).toArray
theorem cellsB_get (l : List Bool) (j : Nat) (h : j < l.length) : (cellsB l)[j]? = some (.int .i64 (bitN (l.getD j false))) := by
 unfold cellsB
 rw [List.getElem?_toArray, List.getElem?_map, List.getD_eq_getElem?_getD, List.getElem?_eq_getElem h]
 rfl
theorem cellsB_set (l : List Bool) (k : Nat) (b : Bool) (x : Int) (hx : ((bitN b : Nat) : Int) = x) : (cellsB l).setIfInBounds k (.int .i64 x) = cellsB (l.set k b) := by
 subst hx
 unfold cellsB
 rw [List.setIfInBounds_toArray, List.map_set]
theorem cellsB_made (n : Nat) : madeCells #[.int .i64 0] n = cellsB (List.replicate n false) := by
 refine Array.ext_getElem? fun i => ?_
 by_cases hi : i < n
 · rw [cellsB_get _ _ (by simpa using hi), List.getD_eq_getElem?_getD, List.getElem?_replicate, if_pos hi]
   simp [madeCells, hi, Nat.mod_one, bitN]
 · rw [Array.getElem?_eq_none (by rw [size_madeCells]; first | omega | (simp; omega)), Array.getElem?_eq_none (by simp [cellsB]; omega)]
theorem ext_getD {a b : List Bool} (hl : a.length = b.length) (h : ∀ x, x < a.length → a.getD x false = b.getD x false) : a = b := by
 refine List.ext_getElem hl fun i h1 h2 => ?_
 have := h i h1
 rw [List.getD_eq_getElem?_getD, List.getD_eq_getElem?_getD, List.getElem?_eq_getElem h1, List.getElem?_eq_getElem h2] at this
 exact this
def fillB (s : Bs) (m : Nat) : Nat → List Bool
  | 0 => List.replicate m false
  | k + 1 => (fillB s m k).set k ((bitsOf s).getD k false)
theorem fillB_len (s : Bs) (m k : Nat) : (fillB s m k).length = m := by
 induction k with
 | zero => show (List.replicate _ _).length = _; rw [List.length_replicate]
 | succ k ih => show (List.set _ _ _).length = _; rw [List.length_set, ih]
theorem fillB_get (s : Bs) (m k : Nat) (h : k ≤ m) (x : Nat) : (fillB s m k).getD x false = if x < k then (bitsOf s).getD x false else false := by
 induction k with
 | zero =>
  show (List.replicate _ _).getD x false = _
  rw [List.getD_eq_getElem?_getD, List.getElem?_replicate]
  split <;> rfl
 | succ k ih =>
  have ih := ih (by omega)
  show ((fillB s m k).set k _).getD x false = _
  rw [getD_set _ _ _ _ (by rw [fillB_len]; omega)]
  by_cases hx : x = k
  · subst hx; rw [if_pos rfl, if_pos (by omega)]
  · rw [if_neg hx, ih]
    by_cases h2 : x < k
    · rw [if_pos h2, if_pos (by omega)]
    · rw [if_neg h2, if_neg (by omega)]
theorem fillB_row (s : Bs) (n : Nat) (h : 8 * s.length = n) : fillB s (n + 32) n = rowOf s := by
 refine ext_getD (by rw [fillB_len, rowOf_len, h]) fun x _ => ?_
 rw [fillB_get _ _ _ (by omega), rowOf_get]
 split
 · rfl
 · next hx =>
   rw [List.getD_eq_getElem?_getD, List.getElem?_eq_none (by rw [bitsOf_length]; omega)]
   rfl
theorem St.bitCell {W0 w : World} {K : Know} {L : List Res} {b : Nat} {l : List Bool} {T : TypeId} (h : St W0 w K (.raw b (cellsB l) T :: L)) (k : Nat) (hk : k < l.length) (c : Bool) (hc : l.getD k false = c) : w.cell? ⟨b, k, none⟩ = some (.int .i64 (bitN c)) := by
 rw [h.rawCell k, cellsB_get l k hk, hc]
theorem St.bitSet {W0 w : World} {K : Know} {L : List Res} {b : Nat} {l : List Bool} {T : TypeId} (h : St W0 w K (.raw b (cellsB l) T :: L)) (k : Nat) (c : Bool) (x : Int) (hx : ((bitN c : Nat) : Int) = x) : St W0 (w.setCell ⟨b, k, none⟩ (.int .i64 x)) K (.raw b (cellsB (l.set k c)) T :: L) := by
 rw [← cellsB_set l k c x hx]
 exact h.rawSet k _
theorem make_bits (n N : Nat) (h : n + 32 = N) (hn : N ≤ 9000000) (w : World) : (Instr.makeSlice 62 (.int .i64 (N : Int)) (.int .i64 (N : Int))).run Tryz.prog w = .ok (.slice (some ⟨w.heap.size, 0, none⟩) N N) (w.alloc (.cells (cellsB (List.replicate N false)) 3 (0, 0))) := by
 rw [← cellsB_made]
 exact run_make_row' 62 3 (.int .i64 0) 8 Tryz.underlying62 (by kernel_rfl) rfl .i64 .i64 N (by omega) (by omega) w
theorem ref05_powerQ (n : Nat) (hn : n < 32) (c : Bool) (hc : pw n = c) {W0 w : World} {K : Know} {L : List Res} (h : St W0 w K L) :
  Calls Tryz.prog 50 #[.int .i64 n] w fun en w' => en = .returned (.int .i64 (bitN c)) ∧ St W0 w' K L := by
 subst hc
 exact ref05_power n hn h
theorem ref05_bitQ (s : Bs) (i : Nat) (hi : i < 8 * s.length) (hs : s.length ≤ 1000000) (c : Bool) (hc : (bitsOf s).getD i false = c) {W0 w : World} {K : Know} {L : List Res} (h : St W0 w K L) :
  Calls Tryz.prog 49 #[.string (bb s), .int .i64 i] w fun en w' => en = .returned (.int .i64 (bitN c)) ∧ St W0 w' K L := by
 subst hc
 exact ref05_bit s i hi hs h
set_option maxHeartbeats 1000000 in
set_option maxRecDepth 100000 in
theorem ref05_sumW (s : Bs) (hs : s.length ≤ 1000000) {W0 w : World} {K : Know} {L : List Res} (h : St W0 w K L) :
  Calls Tryz.prog 24 #[.string (bb s)] w fun en w' => en = .returned (.int .u32 (crcMore 0#32 s).toNat) ∧ St W0 w' K L := by
 have H := Lib.hid h
 clear h
 obtain ⟨n, hn⟩ : ∃ n, 8 * s.length = n := ⟨_, rfl⟩
 obtain ⟨N, hN⟩ : ∃ N, n + 32 = N := ⟨_, rfl⟩
 have e8 : (8 : Int) * (s.length : Int) = (n : Int) := by omega
 have eN : (n : Int) + 32 = (N : Int) := by omega
 have hn2 : n ≤ 8000000 := by omega
 have hmk := make_bits n N hN (by omega)
 have HN := Lib.hid hn
 have HN2 := Lib.hid hN
 have HS := Lib.hid hs
 clear hn hN hs
 go_enter Tryz.func24, Tryz.ntmps24
 go_wp2
 have hal := H.out.allocRaw (cellsB (List.replicate N false)) 3
 obtain ⟨bL, hbL⟩ : ∃ b, w.heap.size = b := ⟨_, rfl⟩
 rw [hbL] at hal ⊢
 clear H hmk hbL
 have H := Lib.hid hal
 clear hal
 go_loopw [5] (fun iv wr => ∃ k : Nat, k ≤ n ∧ iv = .int .i64 k ∧ St W0 wr K (.raw bL (cellsB (fillB s N k)) 3 :: L)) (fun iv _ => n - (intOf iv).toNat)
 case atStart => exact ⟨0, Nat.zero_le _, rfl, H.out⟩
 case round =>
  obtain ⟨k, hk, rfl, hst⟩ := hrel
  clear H
  have H := Lib.hid hst
  clear hst
  by_cases hlt : k < n
  · have hki : (k : Int) < (n : Int) := by omega
    have hkN : (k : Int) < (N : Int) := by omega
    have HI := Lib.hid (show k < 8 * s.length by rw [HN.out]; exact hlt)
    have HI2 := Lib.hid (show k < (fillB s N k).length by rw [fillB_len]; omega)
    obtain ⟨c, hc⟩ : ∃ c, (bitsOf s).getD k false = c := ⟨_, rfl⟩
    have HC := Lib.hid hc
    clear hc
    go_wp2_with (go_at_call 49; (with_reducible refine (ref05_bitQ s k HI.out HS.out c HC.out H.out).mono ?_); rintro e wn ⟨rfl, h⟩; replace H := Lib.hid h; clear h; have c0 := H.out.bitCell k HI2.out _ rfl; have f0 := H.out.rawFree k)
    go_roundw
    case rel =>
     have e : fillB s N (k + 1) = (fillB s N k).set k c := by rw [← HC.out]; rfl
     exact ⟨k + 1, hlt, by go_num, by rw [e]; exact H.out.bitSet k c _ rfl⟩
    case measure => first | (simp [intOf]; done) | (simp [intOf]; omega)
  · obtain rfl : n = k := by omega
    have h := H.out
    have e : fillB s N n = rowOf s := by have := fillB_row s n HN.out; rw [HN2.out] at this; exact this
    rw [e] at h
    have HRL := Lib.hid (show (rowOf s).length = N by rw [rowOf_len, HN.out, HN2.out])
    clear H
    have H := Lib.hid h
    clear h
    clear hlt e hk
    have hN2 : (32 : Int) ≤ (N : Int) := by omega
    go_wp2
    go_loopw [6] (fun iv wr => ∃ k : Nat, k ≤ 32 ∧ iv = .int .i64 k ∧ St W0 wr K (.raw bL (cellsB (turned k (rowOf s))) 3 :: L)) (fun iv _ => 32 - (intOf iv).toNat)
    case atStart => exact ⟨0, Nat.zero_le _, rfl, H.out⟩
    case round =>
     obtain ⟨k, hk, rfl, hst⟩ := hrel
     clear H
     have H := Lib.hid hst
     clear hst
     by_cases hlt : k < 32
     · have hki : (k : Int) < 32 := by omega
       have hkN : (k : Int) < (N : Int) := by omega
       obtain ⟨c, hc⟩ : ∃ c, (turned k (rowOf s)).getD k false = c := ⟨_, rfl⟩
       have hkl : k < (turned k (rowOf s)).length := by rw [turned_len, HRL.out]; omega
       have c0 := H.out.bitCell k hkl c hc
       have f0 := H.out.rawFree k
       have HE := Lib.hid (show turned (k + 1) (rowOf s) = (turned k (rowOf s)).set k (!c) by rw [← hc]; rfl)
       clear hc hkl
       cases c
       all_goals
        simp only [bitN, Bool.false_eq_true, if_false, if_true] at c0
        go_wp2
        go_roundw
        case rel => exact ⟨k + 1, hlt, by go_num, by rw [HE.out]; exact H.out.bitSet k _ _ rfl⟩
        case measure => first | (simp [intOf]; done) | (simp [intOf]; omega)
     · obtain rfl : k = 32 := by omega
       obtain ⟨M, hM⟩ : ∃ M, turned 32 (rowOf s) = M := ⟨_, rfl⟩
       have h := H.out
       rw [hM] at h
       have HML := Lib.hid (show M.length = N by rw [← hM, turned_len]; exact HRL.out)
       have HM := Lib.hid hM
       clear H hlt hk hM
       have H := Lib.hid h
       clear h
       go_wp2
       go_loopw [7] (fun iv wr => ∃ k : Nat, k ≤ n ∧ iv = .int .i64 k ∧ St W0 wr K (.raw bL (cellsB (outer M k)) 3 :: L)) (fun iv _ => n - (intOf iv).toNat)
       case atStart => exact ⟨0, Nat.zero_le _, rfl, H.out⟩
       case round =>
        obtain ⟨i, hi, rfl, hst⟩ := hrel
        clear H
        have H := Lib.hid hst
        clear hst
        by_cases hlt : i < n
        · have hki : (i : Int) < (n : Int) := by omega
          have hkN : (i : Int) < (N : Int) := by omega
          obtain ⟨c, hc⟩ : ∃ c, (outer M i).getD i false = c := ⟨_, rfl⟩
          have c0 := H.out.bitCell i (by rw [outer_len, HML.out]; omega) c hc
          cases c
          · have HE := Lib.hid (show outer M (i + 1) = outer M i by show (if (outer M i).getD i false then _ else _ : List Bool) = _; rw [hc]; rfl)
            clear hc
            simp only [bitN, Bool.false_eq_true, if_false, if_true] at c0
            go_wp2
            go_roundw
            case rel => exact ⟨i + 1, hlt, by go_num, by rw [HE.out]; exact H.out⟩
            case measure => first | (simp [intOf]; done) | (simp [intOf]; omega)
          · have HE := Lib.hid (show outer M (i + 1) = inner (outer M i) i 32 by show (if (outer M i).getD i false then _ else _ : List Bool) = _; rw [hc]; rfl)
            clear hc
            simp only [bitN, Bool.false_eq_true, if_false, if_true] at c0
            obtain ⟨B, hB⟩ : ∃ B, outer M i = B := ⟨_, rfl⟩
            have h := H.out
            rw [hB] at HE h
            have HBL := Lib.hid (show B.length = N by rw [← hB, outer_len]; exact HML.out)
            clear H hB
            have H := Lib.hid h
            clear h
            go_wp2
            clear c0
            go_loopw [8] (fun kv wr => ∃ q : Nat, q ≤ 32 ∧ kv = .int .i64 ((q : Int) + 1) ∧ St W0 wr K (.raw bL (cellsB (inner B i q)) 3 :: L)) (fun kv _ => 33 - (intOf kv).toNat)
            case atStart => exact ⟨0, Nat.zero_le _, rfl, H.out⟩
            case round =>
             obtain ⟨q, hq, rfl, hst⟩ := hrel
             clear H
             have H := Lib.hid hst
             clear hst
             by_cases hlt2 : q < 32
             · obtain ⟨p, hp⟩ : ∃ p, 31 - q = p := ⟨_, rfl⟩
               obtain ⟨x, hx⟩ : ∃ x, i + (q + 1) = x := ⟨_, rfl⟩
               obtain ⟨kk, hkk⟩ : ∃ kk, q + 1 = kk := ⟨_, rfl⟩
               have e1 : (q : Int) + 1 = (kk : Int) := by omega
               rw [e1]
               have e2 : (i : Int) + (kk : Int) = (x : Int) := by omega
               have e3 : (32 : Int) - (kk : Int) = (p : Int) := by omega
               have b1 : (kk : Int) ≤ 32 := by omega
               have b2 : (x : Int) < (N : Int) := by omega
               have b3 : (p : Int) < 32 := by omega
               have HX := Lib.hid (show x < (inner B i q).length by rw [inner_len, HBL.out]; omega)
               obtain ⟨a, ha⟩ : ∃ a, (inner B i q).getD x false = a := ⟨_, rfl⟩
               obtain ⟨d, hd⟩ : ∃ d, pw p = d := ⟨_, rfl⟩
               have HP := Lib.hid (show p < 32 by omega)
               have HA := Lib.hid ha
               have HD := Lib.hid hd
               have HN3 := Lib.hid (show inner B i (q + 1) = (inner B i q).set x (a ^^ d) by
                 show (inner B i q).set (i + (q + 1)) ((inner B i q).getD (i + (q + 1)) false ^^ pw (31 - q)) = _
                 rw [hx, hp, ha, hd])
               have HQ := Lib.hid e1
               have h1 : (bitN a : Int) ≤ 1 := by cases a <;> decide
               have h2 : (bitN d : Int) ≤ 1 := by cases d <;> decide
               have h3 : ((bitN a : Int) + (bitN d : Int)).tmod 2 = (bitN (a ^^ d) : Int) := by cases a <;> cases d <;> rfl
               obtain ⟨va, hva⟩ : ∃ v, bitN a = v := ⟨_, rfl⟩
               obtain ⟨vd, hvd⟩ : ∃ v, bitN d = v := ⟨_, rfl⟩
               obtain ⟨vx, hvx⟩ : ∃ v, bitN (a ^^ d) = v := ⟨_, rfl⟩
               rw [hva] at h1 h3
               rw [hvd] at h2 h3
               rw [hvx] at h3
               have HVA := Lib.hid hva
               have HVD := Lib.hid hvd
               have HVX := Lib.hid (show ((bitN (a ^^ d) : Nat) : Int) = (vx : Int) by rw [hvx])
               have w1 : IntKind.i64.wrap (x : Int) = (x : Int) := IntWalk.i64_in _ (by omega)
               have w2 : IntKind.i64.wrap (p : Int) = (p : Int) := IntWalk.i64_in _ (by omega)
               have w3 : IntKind.i64.wrap ((va : Int) + (vd : Int)) = (va : Int) + (vd : Int) := IntWalk.i64_in _ (by omega)
               have h4 : ((bitN (a ^^ d) : Nat) : Int) ≤ 1 := by cases a <;> cases d <;> decide
               rw [HVX.out] at h4
               have w4 : IntKind.i64.wrap (vx : Int) = (vx : Int) := IntWalk.i64_in _ (by omega)
               clear hp hx hkk ha hd hva hvd hvx
               go_upto_region 18 with (fail)
               have hs := H.out.drew
               refine wp_region_held_drew (S := fun _ => True) (by kernel_rfl) trivial (fun hHeld => ?_)
               refine tQ 0 ⟨some 54, .move (.tmp 4), 62, "ref.go:37", #[], none⟩ ?_; simp only [Act.put, sA, sB, sC]
               refine tQ 1 ⟨some 55, .move (.tmp 7), 3, "ref.go:37", #[], none⟩ ?_; simp only [Act.put, sA, sB, sC]
               refine tQ 2 ⟨some 56, .move (.tmp 8), 3, "ref.go:37", #[], none⟩ ?_; simp only [Act.put, sA, sB, sC]
               refine tQ 3 ⟨some 57, .binOp .add 3 (.tmp 55) (.tmp 56) 3, 3, "ref.go:37", #[.mk 1 .data, .mk 2 .data], none⟩ ?_; simp only [Act.put, sA, sB, sC]
               refine tQ 4 ⟨some 58, .move (.tmp 4), 62, "ref.go:37", #[], none⟩ ?_; simp only [Act.put, sA, sB, sC]
               refine tQ 5 ⟨some 59, .move (.tmp 7), 3, "ref.go:37", #[], none⟩ ?_; simp only [Act.put, sA, sB, sC]
               refine tQ 6 ⟨some 60, .move (.tmp 8), 3, "ref.go:37", #[], none⟩ ?_; simp only [Act.put, sA, sB, sC]
               refine tQ 7 ⟨some 61, .binOp .add 3 (.tmp 59) (.tmp 60) 3, 3, "ref.go:37", #[.mk 5 .data, .mk 6 .data], none⟩ ?_; simp only [Act.put, sA, sB, sC]
               refine tQ 8 ⟨some 62, .indexAddr 62 (.tmp 58) (.tmp 61), 0, "ref.go:37", #[.mk 4 .data, .mk 7 .data], none⟩ ?_; simp only [Act.put, sA, sB, sC]
               refine tQ 10 ⟨some 64, .move (.tmp 8), 3, "ref.go:37", #[], none⟩ ?_; simp only [Act.put, sA, sB, sC]
               refine tQ 11 ⟨some 65, .binOp .sub 3 (.const (Value.int IntKind.i64 32)) (.tmp 64) 3, 3, "ref.go:37", #[.mk 10 .data], none⟩ ?_; simp only [Act.put, sA, sB, sC]
               refine wpAnyH_ready (rs := [9, 12]) (by kernel_rfl) (by simp) (AllReadyH.cons (o := ⟨some 63, .load 3 (.tmp 62), 3, "ref.go:37", #[.mk 8 .data], none⟩) rfl (fun KK hK => ?_) (AllReadyH.cons (o := ⟨some 66, .call { callee := .value (.func 50), args := #[.tmp 65], argTypes := #[3] }, 3, "ref.go:37", #[.mk 11 .data], none⟩) rfl (fun KK hK => ?_) AllReadyH.nil))
               · have c0 := hs.bitCell x HX.out a HA.out
                 rw [HVA.out] at c0
                 go_simp
                 refine hK.out _ _ (trivial) (fun hHeld => ?_)
                 clear hK KK
                 try simp only [Act.put, sA, sB, sC]
                 refine wpAnyH_ready (rs := [12]) (by kernel_rfl) (by simp) (AllReadyH.cons (o := ⟨some 66, .call { callee := .value (.func 50), args := #[.tmp 65], argTypes := #[3] }, 3, "ref.go:37", #[.mk 11 .data], none⟩) rfl (fun KK hK => ?_) AllReadyH.nil)
                 · go_simp
                   go_at_call 50
                   with_reducible refine (ref05_powerQ p HP.out d HD.out hs).mono ?_
                   rw [HVD.out]
                   rintro e wq ⟨rfl, hs⟩
                   refine hK.out _ _ (trivial) (fun hHeld => ?_)
                   clear hK KK
                   try simp only [Act.put, sA, sB, sC]
                   refine tQ 13 ⟨some 67, .binOp .add 3 (.tmp 63) (.tmp 66) 3, 3, "ref.go:37", #[.mk 9 .data, .mk 12 .data], none⟩ ?_; simp only [Act.put, sA, sB, sC]
                   refine tQ 14 ⟨some 68, .binOp .rem 3 (.tmp 67) (.const (Value.int IntKind.i64 2)) 3, 3, "ref.go:37", #[.mk 13 .data], none⟩ ?_; simp only [Act.put, sA, sB, sC]
                   refine tQ 15 ⟨some 69, .indexAddr 62 (.tmp 54) (.tmp 57), 0, "ref.go:37", #[.mk 0 .data, .mk 3 .data, .mk 0 .phase, .mk 1 .phase, .mk 2 .phase, .mk 3 .phase, .mk 4 .phase, .mk 5 .phase, .mk 6 .phase, .mk 7 .phase, .mk 8 .phase, .mk 9 .phase, .mk 10 .phase, .mk 11 .phase, .mk 12 .phase, .mk 13 .phase, .mk 14 .phase], none⟩ ?_; simp only [Act.put, sA, sB, sC]
                   refine wpAnyH_ready (rs := [16]) (by kernel_rfl) (by simp) (AllReadyH.cons (o := ⟨none, .store 3 (.tmp 69) (.tmp 68), 0, "ref.go:37", #[.mk 15 .data, .mk 14 .data, .mk 12 .chain, .mk 0 .phase, .mk 1 .phase, .mk 2 .phase, .mk 3 .phase, .mk 4 .phase, .mk 5 .phase, .mk 6 .phase, .mk 7 .phase, .mk 8 .phase, .mk 9 .phase, .mk 10 .phase, .mk 11 .phase, .mk 12 .phase, .mk 13 .phase, .mk 14 .phase], none⟩) rfl (fun KK hK => ?_) AllReadyH.nil)
                   · have f0 := hs.rawFree x
                     have c0 := hs.bitCell x HX.out a HA.out
                     go_simp
                     refine hK.out _ _ (trivial) (fun hHeld => ?_)
                     clear hK KK
                     try simp only [Act.put, sA, sB, sC]
                     have hs := hs.bitSet x (a ^^ d) (vx : Int) HVX.out
                     refine wpAnyH_done (by kernel_rfl) ?_ _
                     rw [← HN3.out] at hs
                     go_wp2_with fail
                     go_roundw
                     case rel =>
                      clear hHeld c0 f0
                      exact ⟨_, _, _, _, _, _, _, _, _, _, _, _, _, _, _, _, _, _, _, _, _, ⟨q + 1, hlt2, by rw [← HQ.out]; go_num, hs⟩, rfl⟩
                     case measure => first | (simp [intOf]; done) | (simp [intOf]; omega)
               · go_simp
                 go_at_call 50
                 with_reducible refine (ref05_powerQ p HP.out d HD.out hs).mono ?_
                 rw [HVD.out]
                 rintro e wq ⟨rfl, hs⟩
                 refine hK.out _ _ (trivial) (fun hHeld => ?_)
                 clear hK KK
                 try simp only [Act.put, sA, sB, sC]
                 refine wpAnyH_ready (rs := [9]) (by kernel_rfl) (by simp) (AllReadyH.cons (o := ⟨some 63, .load 3 (.tmp 62), 3, "ref.go:37", #[.mk 8 .data], none⟩) rfl (fun KK hK => ?_) AllReadyH.nil)
                 · have c0 := hs.bitCell x HX.out a HA.out
                   rw [HVA.out] at c0
                   go_simp
                   refine hK.out _ _ (trivial) (fun hHeld => ?_)
                   clear hK KK
                   try simp only [Act.put, sA, sB, sC]
                   refine tQ 13 ⟨some 67, .binOp .add 3 (.tmp 63) (.tmp 66) 3, 3, "ref.go:37", #[.mk 9 .data, .mk 12 .data], none⟩ ?_; simp only [Act.put, sA, sB, sC]
                   refine tQ 14 ⟨some 68, .binOp .rem 3 (.tmp 67) (.const (Value.int IntKind.i64 2)) 3, 3, "ref.go:37", #[.mk 13 .data], none⟩ ?_; simp only [Act.put, sA, sB, sC]
                   refine tQ 15 ⟨some 69, .indexAddr 62 (.tmp 54) (.tmp 57), 0, "ref.go:37", #[.mk 0 .data, .mk 3 .data, .mk 0 .phase, .mk 1 .phase, .mk 2 .phase, .mk 3 .phase, .mk 4 .phase, .mk 5 .phase, .mk 6 .phase, .mk 7 .phase, .mk 8 .phase, .mk 9 .phase, .mk 10 .phase, .mk 11 .phase, .mk 12 .phase, .mk 13 .phase, .mk 14 .phase], none⟩ ?_; simp only [Act.put, sA, sB, sC]
                   refine wpAnyH_ready (rs := [16]) (by kernel_rfl) (by simp) (AllReadyH.cons (o := ⟨none, .store 3 (.tmp 69) (.tmp 68), 0, "ref.go:37", #[.mk 15 .data, .mk 14 .data, .mk 12 .chain, .mk 0 .phase, .mk 1 .phase, .mk 2 .phase, .mk 3 .phase, .mk 4 .phase, .mk 5 .phase, .mk 6 .phase, .mk 7 .phase, .mk 8 .phase, .mk 9 .phase, .mk 10 .phase, .mk 11 .phase, .mk 12 .phase, .mk 13 .phase, .mk 14 .phase], none⟩) rfl (fun KK hK => ?_) AllReadyH.nil)
                   · have f0 := hs.rawFree x
                     have c0 := hs.bitCell x HX.out a HA.out
                     go_simp
                     refine hK.out _ _ (trivial) (fun hHeld => ?_)
                     clear hK KK
                     try simp only [Act.put, sA, sB, sC]
                     have hs := hs.bitSet x (a ^^ d) (vx : Int) HVX.out
                     refine wpAnyH_done (by kernel_rfl) ?_ _
                     rw [← HN3.out] at hs
                     go_wp2_with fail
                     go_roundw
                     case rel =>
                      clear hHeld c0 f0
                      exact ⟨_, _, _, _, _, _, _, _, _, _, _, _, _, _, _, _, _, _, _, _, _, ⟨q + 1, hlt2, by rw [← HQ.out]; go_num, hs⟩, rfl⟩
                     case measure => first | (simp [intOf]; done) | (simp [intOf]; omega)
             · obtain rfl : q = 32 := by omega
               have h := H.out
               rw [← HE.out] at h
               clear H
               have H := Lib.hid h
               clear h
               go_wp2
               go_roundw
               case rel => exact ⟨i + 1, hlt, by go_num, H.out⟩
               case measure => first | (simp [intOf]; done) | (simp [intOf]; omega)
        · obtain rfl : n = i := by omega
          have HF := Lib.hid (show readOut (fun j => !(outer M n).getD (n + j) false) 32 = (crcMore 0#32 s).toNat by
            have := divided_sum s
            unfold divided at this
            rw [HN.out, HM.out] at this
            exact this)
          obtain ⟨D, hD⟩ : ∃ D, outer M n = D := ⟨_, rfl⟩
          have h := H.out
          rw [hD] at HF h
          have HDL := Lib.hid (show D.length = N by rw [← hD, outer_len]; exact HML.out)
          clear H hD
          have H := Lib.hid h
          clear h hlt
          go_wp2
          go_loopw [10, 9] (fun iv ov wr => ∃ j : Nat, j ≤ 32 ∧ iv = .int .i64 ((j : Int) - 1) ∧ ov = .int .u32 (readOut (fun j => !D.getD (n + j) false) (32 - j) : Nat) ∧ St W0 wr K (.raw bL (cellsB (D)) 3 :: L)) (fun iv _ _ => (intOf iv + 1).toNat)
          case atStart => exact ⟨32, Nat.le_refl _, rfl, rfl, H.out⟩
          case round =>
            obtain ⟨j, hj, rfl, rfl, hst⟩ := hrel
            clear H
            have H := Lib.hid hst
            clear hst
            match j with
            | 0 =>
             rw [show (((0 : Nat) : Int) - 1) = -1 from rfl, show 32 - 0 = 32 from rfl, HF.out]
             go_wp2
             go_ret
             exact ⟨rfl, H.out.drop⟩
            | j + 1 =>
             rw [show (((j + 1 : Nat) : Int) - 1) = (j : Int) by omega]
             obtain ⟨x, hx⟩ : ∃ x, n + j = x := ⟨_, rfl⟩
             have e2 : (n : Int) + (j : Int) = (x : Int) := by omega
             have b2 : (x : Int) < (N : Int) := by omega
             have b1 : (j : Int) < 32 := by omega
             obtain ⟨c, hc⟩ : ∃ c, D.getD x false = c := ⟨_, rfl⟩
             have c0 := H.out.bitCell x (by rw [HDL.out]; have := HN2.out; omega) c hc
             obtain ⟨R, hR⟩ : ∃ R, readOut (fun j => !D.getD (n + j) false) (32 - (j + 1)) = R := ⟨_, rfl⟩
             have HR := Lib.hid (show readOut (fun j => !D.getD (n + j) false) (32 - j) = R * 2 + (if c then 0 else 1) by
               rw [show 32 - j = 32 - (j + 1) + 1 by omega]
               show readOut _ _ * 2 + (if !D.getD (n + (31 - (32 - (j + 1)))) false then 1 else 0) = _
               rw [hR, show 31 - (32 - (j + 1)) = j by omega, hx, hc]
               cases c <;> rfl)
             have hb : R < 2147483648 := by
               have h1 := readOut_lt (fun j => !D.getD (n + j) false) (32 - (j + 1))
               rw [hR] at h1
               have h2 : 2 ^ (32 - (j + 1)) ≤ 2 ^ 31 := Nat.pow_le_pow_right (by decide) (by omega)
               omega
             rw [hR]
             clear hx hc hR
             cases c
             all_goals
               simp only [bitN, Bool.false_eq_true, if_false, if_true] at c0 HR
               go_wp2
               go_roundw
               case rel => exact ⟨j, by omega, rfl, by rw [HR.out]; go_num, H.out⟩
               case measure => first | (simp [intOf]; done) | (simp [intOf]; omega)

end Go.Proofs.YtolndcljbjlacaaGreat
