/- The elements of arguments, opened, with their reach: a batch. -/
import Derived.Test.YtcjgdlfcfcabiaaGBatchHarms10
import Derived.Test.YtcjgdlfcfcabiaaHdr3
import Derived.Test.YtcjgdlfcfcabiaaGBatchHarms8
import Derived.Test.YtcjgdlfcfcabiaaGBatchHarms5
import Derived.Test.YtcjgdlfcfcabiaaGBatchHarms9
import Derived.Deep.RegionHeld3
import Derived.Deep.DeepCutAuto
import Derived.IntWalk
import Derived.RegionTactic
import Derived.Test.YtcjgdlfcfcabiaaArgs
import Derived.SizedLaws
import Derived.Deep.Slices
import Derived.Test.YtcjgdlfcfcabiaaL06F
import Derived.Test.YtcjgdlfcfcabiaaRec6
import Derived.Test.YtcjgdlfcfcabiaaRec8
import Derived.Lib.SmallJoins
import Derived.Test.YtcjgdlfcfcabiaaRecs
import Derived.Test.YtcjgdlfcfcabiaaGBatchHarms1
/- Batches: which are small. -/
namespace Go.Proofs.Ytcjgdlfcfcabiaa
open Go.RowKit

set_option maxHeartbeats 1000000 in
set_option maxRecDepth 100000 in
theorem l11_small (base leader : Int) (app txn ctl : Bool) (last first maxt prod epoch sq : Int) (l : List (RecS × Value)) (q : Option Addr) (cap : Nat) (r : Bool) (hr : smallB (l.map (·.1)) = r) (hfit : FitW l) {W0 w : World} {K : Know} {L : List Res} (hk : K.has (Know.recs (.slice q l.length cap) l)) (h : St W0 w K L) :
    Calls Try.prog 31 #[.agg #[.int .i64 base, .int .i64 leader, .bool app, .bool txn, .bool ctl, .int .i64 last, .int .i64 first, .int .i64 maxt, .int .i64 prod, .int .i64 epoch, .int .i64 sq, .slice q l.length cap]] w fun en w' => en = .returned (.int .i64 (if r then 1 else 0)) ∧ St W0 w' K L := by
  have HK := Lib.hid hk
  have HFT := Lib.hid hfit
  have h1 := h.allocRaw #[.int .i64 base, .int .i64 leader, .bool app, .bool txn, .bool ctl, .int .i64 last, .int .i64 first, .int .i64 maxt, .int .i64 prod, .int .i64 epoch, .int .i64 sq, .slice q l.length cap] 32
  obtain ⟨hb, hhb⟩ : ∃ b, w.heap.size = b := ⟨_, rfl⟩
  rw [hhb] at h1
  obtain ⟨x0, x1, x2, x3, x4, x5, x6, x7, x8, x9, x10, x11, y0, y1, y2, y3, y4, y5, y6, y7, y8, y9, y10, y11⟩ := raw12 (b := hb) (h1)
  have H := Lib.hid h1
  clear h h1 hk hfit
  unfold smallB at hr
  rw [List.length_map] at hr
  by_cases hl : 12 < l.length
  · have dl : decide ((12 : Int) < (l.length : Int)) = true := decide_eq_true (by omega)
    obtain rfl : false = r := by rw [← hr, decide_eq_false (by omega)]; rfl
    clear hr hl
    go_enter Try.func31, Try.ntmps31
    go_wp2
    go_ret
    exact ⟨rfl, H.out.drop⟩
  have dl : decide ((12 : Int) < (l.length : Int)) = false := decide_eq_false (by omega)
  have hll : (l.length : Int) ≤ 12 := by omega
  rw [decide_eq_true (by omega), Bool.true_and] at hr
  have HR := Lib.hid hr
  clear hr hl
  go_enter Try.func31, Try.ntmps31
  go_wp2
  clear x0 y0 x1 y1 x2 y2 x3 y3 x4 y4 x5 y5 x6 y6 x7 y7 x8 y8 x9 y9 x10 y10 x11 y11
  go_loopw [4, 6, 14] (fun _ _ iv wr => ∃ k : Nat, k ≤ l.length ∧ iv = .int .i64 k ∧ Hid (rAll ((l.map (·.1)).drop k) = r) ∧ St W0 wr K (.raw hb #[.int .i64 base, .int .i64 leader, .bool app, .bool txn, .bool ctl, .int .i64 last, .int .i64 first, .int .i64 maxt, .int .i64 prod, .int .i64 epoch, .int .i64 sq, .slice q l.length cap] 32 :: L)) (fun _ _ iv _ => l.length - (intOf iv).toNat)
  case atStart => exact ⟨0, Nat.zero_le _, rfl, HR, H.out⟩
  case round =>
    obtain ⟨k, hkl, rfl, HC, hst⟩ := hrel
    clear H
    have H := Lib.hid hst
    clear hst
    by_cases hlt : k < l.length
    · have hd := drop_recs l k hlt _ rfl
      obtain ⟨b, off, hqq⟩ := recs_at HK.out H.out (by omega)
      subst hqq
      obtain ⟨⟨x, vx⟩, hx⟩ : ∃ x, l[k] = x := ⟨_, rfl⟩
      have cc := recs_cell HK.out H.out k hlt (x, vx) hx
      have hmem : (x, vx) ∈ l := hx ▸ List.getElem_mem hlt
      have xf : x.R ∧ x.hdrs.length ≤ 9223372036854775807 ∧ HFit x.hdrs ∧ x.key.data.length ≤ 140737488351232 ∧ x.val.data.length ≤ 140737488351232 := HFT.out (x, vx) hmem
      have xk : K.has (Know.flat RHdr vx 3 x.hdrs) := recs_hdrs HK.out hmem
      obtain ⟨qx, capx, hvx⟩ := flat_form xk H.out
      subst hvx
      simp only at cc
      obtain ⟨c0, c1, c2, c3, c4, c5, c6⟩ := cc
      rw [← Nat.add_assoc] at c1 c2 c3 c4 c5 c6
      have hx1 : l[k].1 = x := by rw [hx]
      have XF := Lib.hid xf
      have XK := Lib.hid xk
      have HX := Lib.hid hx1
      clear xf xk hx1 hx hmem
      obtain ⟨wE, hwE⟩ : ∃ b, wr.heap.size = b := ⟨_, rfl⟩
      have hki : (k : Int) < (l.length : Int) := by omega
      have h := H.out.allocRaw #[.int .i64 x.time, .int .i64 x.off, .bool x.key.null, .string (bb x.key.data), .bool x.val.null, .string (bb x.val.data), .slice qx x.hdrs.length capx] 64
      rw [hwE] at h
      clear H
      have H := Lib.hid h
      clear h
      rw [HX.out] at hd
      have hc := HC.out
      rw [hd] at hc
      have hc : (smallRec x && rAll ((l.map (·.1)).drop (k + 1))) = r := hc
      unfold smallRec at hc
      obtain ⟨ec0, ec1, ec2, ec3, ec4, ec5, ec6, ef0, ef1, ef2, ef3, ef4, ef5, ef6⟩ := raw7 (b := wE) (H.out)
      have xf2 := XF.out
      obtain ⟨_, hxl, _, hkl2, hvl2⟩ := xf2
      have ws : wrap64 ((x.key.data.length : Int) + (x.val.data.length : Int)) = (x.key.data.length : Int) + (x.val.data.length : Int) := by unfold wrap64; omega
      clear hd hxl hkl2 hvl2
      by_cases c1 : 100 < x.key.data.length + x.val.data.length
      · have d1 : decide ((100 : Int) < (x.key.data.length : Int) + (x.val.data.length : Int)) = true := decide_eq_true (by omega)
        have hfin : false = r := by rw [← hc, decide_eq_false (by omega)]; rfl
        clear hc c1
        obtain rfl : false = r := hfin
        go_wp2
        go_ret
        exact ⟨rfl, H.out.drop.drop⟩
      have d1 : decide ((100 : Int) < (x.key.data.length : Int) + (x.val.data.length : Int)) = false := decide_eq_false (by omega)
      rw [decide_eq_true (by omega), Bool.true_and] at hc
      by_cases c2 : 6 < x.hdrs.length
      · have d2 : decide ((6 : Int) < (x.hdrs.length : Int)) = true := decide_eq_true (by omega)
        have hfin : false = r := by rw [← hc, decide_eq_false (by omega)]; rfl
        clear hc c1 c2
        obtain rfl : false = r := hfin
        go_wp2
        go_ret
        exact ⟨rfl, H.out.drop.drop⟩
      have d2 : decide ((6 : Int) < (x.hdrs.length : Int)) = false := decide_eq_false (by omega)
      rw [decide_eq_true (by omega), Bool.true_and] at hc
      have hh6 : (x.hdrs.length : Int) ≤ 6 := by omega
      have HC1 := Lib.hid hc
      clear hc c1 c2
      go_wp2
      clear ec0 ef0 ec1 ef1 ec2 ef2 ec3 ef3 ec4 ef4 ec5 ef5 ec6 ef6 c0 c3 c4 c5 c6
      go_loopw [6, 37] (fun _ iv wr => ∃ j : Nat, j ≤ x.hdrs.length ∧ iv = .int .i64 j ∧ Hid ((hAll (x.hdrs.drop j) && rAll ((l.map (·.1)).drop (k + 1))) = r) ∧ St W0 wr K (.raw wE #[.int .i64 x.time, .int .i64 x.off, .bool x.key.null, .string (bb x.key.data), .bool x.val.null, .string (bb x.val.data), .slice qx x.hdrs.length capx] 64 :: .raw hb #[.int .i64 base, .int .i64 leader, .bool app, .bool txn, .bool ctl, .int .i64 last, .int .i64 first, .int .i64 maxt, .int .i64 prod, .int .i64 epoch, .int .i64 sq, .slice (some ⟨b, off, none⟩) l.length cap] 32 :: L)) (fun _ iv _ => x.hdrs.length - (intOf iv).toNat)
      case atStart => exact ⟨0, Nat.zero_le _, rfl, HC1, H.out⟩
      case round =>
        obtain ⟨j, hjl, rfl, HJ, hst⟩ := hrel
        clear H
        have H := Lib.hid hst
        clear hst
        by_cases hjt : j < x.hdrs.length
        · obtain ⟨bh, oh, hqh, g0, g1, g2⟩ := hdr_cells XK.out H.out j hjt
          subst hqh
          have hhf := XF.out.2.2.1 _ (List.getElem_mem hjt)
          obtain ⟨⟨hk, ⟨hu, hv⟩⟩, hx⟩ : ∃ y, x.hdrs[j] = y := ⟨_, rfl⟩
          have hj := HJ.out
          rw [drop_hdrs _ _ hjt] at hj
          rw [hx] at g0 g1 g2 hhf hj
          have hj : ((decide (hk.length + hv.length ≤ 100) && hAll (x.hdrs.drop (j + 1))) && rAll ((l.map (·.1)).drop (k + 1))) = r := hj
          simp only at g0 g1 g2 hhf
          obtain ⟨b1, b2⟩ := hhf
          have hji : (j : Int) < (x.hdrs.length : Int) := by omega
          have ws2 : wrap64 ((hk.length : Int) + (hv.length : Int)) = (hk.length : Int) + (hv.length : Int) := by unfold wrap64; omega
          clear b1 b2
          have h := H.out.allocRaw #[.string (bb hk), .bool hu, .string (bb hv)] 96
          obtain ⟨wH, hwH⟩ : ∃ b, wr.heap.size = b := ⟨_, rfl⟩
          rw [hwH] at h
          have u0 := h.rawCell 0; have u1 := h.rawCell 1; have u2 := h.rawCell 2
          simp at u0 u1 u2
          clear H
          have H := Lib.hid h
          clear h hx
          by_cases c1 : 100 < hk.length + hv.length
          · have d1 : decide ((100 : Int) < (hk.length : Int) + (hv.length : Int)) = true := decide_eq_true (by omega)
            have hfin : false = r := by rw [← hj, decide_eq_false (by omega)]; rfl
            clear hj c1
            obtain rfl : false = r := hfin
            go_wp2
            go_ret
            exact ⟨rfl, H.out.drop.drop.drop⟩
          · have d1 : decide ((100 : Int) < (hk.length : Int) + (hv.length : Int)) = false := decide_eq_false (by omega)
            rw [decide_eq_true (by omega), Bool.true_and] at hj
            have HJ2 := Lib.hid hj
            clear hj c1
            go_wp2
            go_roundw
            case rel => exact ⟨j + 1, hjt, by go_num, HJ2, H.out.drop⟩
            case measure => first | (simp [intOf]; done) | (simp [intOf]; omega)
        · obtain rfl : x.hdrs.length = j := by omega
          have hj := HJ.out
          rw [List.drop_of_length_le (Nat.le_refl _)] at hj
          have HC2 := Lib.hid (show rAll ((l.map (·.1)).drop (k + 1)) = r from hj)
          clear hj
          go_wp2
          go_roundw
          case rel => exact ⟨k + 1, hlt, by go_num, HC2, H.out.drop⟩
          case measure => first | (simp [intOf]; done) | (simp [intOf]; omega)
    · obtain rfl : l.length = k := by omega
      have hc := HC.out
      rw [List.drop_of_length_le (by simp)] at hc
      obtain rfl : true = r := hc
      go_wp2
      go_ret
      exact ⟨rfl, H.out.drop⟩

end Go.Proofs.Ytcjgdlfcfcabiaa

/- Batches: there and back, small ones (pure). -/
namespace Go.Proofs.Ytcjgdlfcfcabiaa
open Go.RowKit

theorem encR_small (x : RecS) (hx : x.R) (hs : x.sum ≤ 1000) : (encR x).length ≤ 33000 := by
  have h1 := recF_le x hx (by omega)
  have h2 := encV_le ⟨false, recF x⟩ (by simp only; omega)
  simp only at h2
  unfold encR
  omega
theorem rows_small : ∀ (l : List RecS) (n : Nat), (∀ x ∈ l, (encR x).length ≤ n) → (l.flatMap encR).length ≤ n * l.length
  | [], _, _ => by simp
  | x :: t, n, h => by
    rw [List.flatMap_cons, List.length_append, List.length_cons, Nat.mul_succ]
    have h1 := rows_small t n (fun y hy => h y (by simp [hy]))
    have h2 := h x (by simp)
    omega
theorem encAll_rows : ∀ (l : List (RecS × Value)), encAll l = (l.map (·.1)).flatMap encR
  | [] => rfl
  | x :: t => by
    have := encAll_rows t
    unfold encAll at *
    rw [List.flatMap_cons, List.map_cons, List.flatMap_cons, this]
/-- What a batch that may be, small, is to its bytes. -/
structure SmallOk (b : BatS) : Prop where
  fit : ∀ x ∈ b.recs, x.R ∧ recOk x = 0 ∧ x.sum ≤ 1000
  len : b.recs.length ≤ 12
  err : batErr b = 0
  rng : b.R
theorem SmallOk.rows {b : BatS} (h : SmallOk b) : b.rowsB.length ≤ 400000 := by
  have := rows_small b.recs 33000 (fun x hx => encR_small x (h.fit x hx).1 (h.fit x hx).2.2)
  have h2 := h.len
  unfold BatS.rowsB
  omega
theorem SmallOk.recs {b : BatS} (h : SmallOk b) : ∀ x ∈ b.recs, x.R ∧ recOk x = 0 ∧ x.sum ≤ 1000000 := fun x hx => ⟨(h.fit x hx).1, (h.fit x hx).2.1, by have := (h.fit x hx).2.2; omega⟩
theorem SmallOk.back {b : BatS} (h : SmallOk b) (t : Bs) : reBat (b.enc ++ t) = .ok (b, b.enc.length) :=
  reBat_back h.err h.rng h.recs (by have := h.rows; omega) (by have := h.len; omega) t
theorem BatS.enc_len (b : BatS) : b.enc.length = 61 + b.rowsB.length := by unfold BatS.enc; rw [List.length_append, items_len]
theorem SmallOk.elen {b : BatS} (h : SmallOk b) : b.enc.length ≤ 401000 := by rw [b.enc_len]; have := h.rows; omega
theorem SmallOk.of {b : BatS} {l : List (RecS × Value)} (hl : b.recs = l.map (·.1)) (hw : FitW l) (hs : smallB (l.map (·.1)) = true) (he : batErr b = 0) (hR : b.R) : SmallOk b where
  fit := by
    intro x hx
    rw [hl] at hx
    have hf := hw.fit hs
    obtain ⟨y, hy, rfl⟩ := List.mem_map.1 hx
    have hr := recsC_ok _ (batErr_zero he).2.2.2
    have hss := hs
    unfold smallB at hss
    simp only [Bool.and_eq_true] at hss
    exact ⟨(hf y hy).1, hr y.1 (by rw [hl]; exact hx), smallRec_sum (rAll_mem _ hss.2 y.1 hx)⟩
  len := by rw [hl, List.length_map]; exact smallB_len hs
  err := he
  rng := hR
theorem ints_items {x : PreS} (h : FitsAll x.items) : (⟨[], 0⟩ : OutS).ints x.items = ⟨encInts x.items, 0⟩ := by
  rw [OutS.ints_put _ _ h]
  rfl

end Go.Proofs.Ytcjgdlfcfcabiaa

/- Batches harmed (pure). -/
namespace Go.Proofs.Ytcjgdlfcfcabiaa
open Go.RowKit

theorem win_eq (s : Bs) (a n m : Nat) (h : a + n ≤ m) : (s.drop a).take n = ((s.take m).drop a).take n := by
  rw [List.drop_take, List.take_take, Nat.min_eq_left (by omega)]
theorem win0_eq (s : Bs) (n m : Nat) (h : n ≤ m) : s.take n = (s.take m).take n := by
  rw [List.take_take, Nat.min_eq_left h]
theorem preX_head {s t : Bs} (h : s.take 21 = t.take 21) : (preX s).2 = (preX t).2 ∧ (preX s).1.len = (preX t).1.len ∧ (preX s).1.sum = (preX t).1.sum := by
  rw [preX_eq, preX_eq]
  refine ⟨?_, ?_, ?_⟩
  · show sInt ((s.drop 16).take 1) = sInt ((t.drop 16).take 1)
    rw [win_eq s 16 1 21 (by decide), win_eq t 16 1 21 (by decide), h]
  · show sInt ((s.drop 8).take 4) = sInt ((t.drop 8).take 4)
    rw [win_eq s 8 4 21 (by decide), win_eq t 8 4 21 (by decide), h]
  · show sInt ((s.drop 17).take 4) % 4294967296 = sInt ((t.drop 17).take 4) % 4294967296
    rw [win_eq s 17 4 21 (by decide), win_eq t 17 4 21 (by decide), h]
theorem SmallOk.preX {b : BatS} (so : SmallOk b) : (Go.Proofs.Ytcjgdlfcfcabiaa.preX b.enc).1 = b.pre b.crc ∧ (Go.Proofs.Ytcjgdlfcfcabiaa.preX b.enc).2 = 2 ∧ rePre b.enc = .ok (b.pre b.crc) := by
  have hb := so.back []
  rw [List.append_nil] at hb
  obtain ⟨x, hx, _⟩ := reBat_ok hb
  have hrow := so.rows
  have hlen := so.len
  have hcr := b.crc_lt
  have f1 := BatS.fitsAll so.err so.rng b.crc (by omega) (by omega) (by omega)
  have hp := rePre_enc (b.pre b.crc) f1 (show (49 : Int) ≤ 49 + (b.rowsB.length : Int) by omega) (show (0 : Int) ≤ (b.recs.length : Int) by omega) b.rowsB
  have hp : rePre b.enc = .ok (b.pre b.crc) := hp
  obtain ⟨_, h2, h3, _⟩ := rePre_ok hp
  exact ⟨h2, h3, hp⟩
/-- Bytes of a batch that are harmed within 32 bits in a row, behind what isn't summed, are none. -/
theorem harm_pure {b : BatS} (so : SmallOk b) (y : Bs) (hl : y.length = b.enc.length) (ht : y.take 21 = b.enc.take 21) (f : Nat) (ag : ∀ i, (i < f ∨ f + 32 ≤ i) → (bitsOf (b.enc.drop 21)).getD i false = (bitsOf (y.drop 21)).getD i false) (hne : y ≠ b.enc) : batD y = .error 5 ∨ batD y = .error 10 := by
  obtain ⟨p1, p2, p3⟩ := so.preX
  obtain ⟨q1, q2, q3⟩ := preX_head ht
  rw [p1] at q2 q3
  rw [p2] at q1
  have hel := b.enc_len
  have hlen : (Go.Proofs.Ytcjgdlfcfcabiaa.preX y).1.len = 49 + (b.rowsB.length : Int) := q2
  have hsum : (Go.Proofs.Ytcjgdlfcfcabiaa.preX y).1.sum = (b.crc : Int) := q3
  by_cases hc : (Go.Proofs.Ytcjgdlfcfcabiaa.preX y).1.count < 0
  · right
    have hr : rePre y = .error 10 := by
      unfold rePre
      rw [if_neg (by omega), if_pos q1, if_neg (by omega), if_pos hc]
    unfold batD reBat
    rw [hr]
  · left
    have hr : rePre y = .ok (Go.Proofs.Ytcjgdlfcfcabiaa.preX y).1 := by
      unfold rePre
      rw [if_neg (by omega), if_pos q1, if_neg (by omega), if_neg hc]
    have hn : ((Go.Proofs.Ytcjgdlfcfcabiaa.preX y).1.len - 49).toNat = b.rowsB.length := by rw [hlen]; omega
    have hcat : (y.take 61).drop 21 ++ (y.drop 61).take b.rowsB.length = y.drop 21 := by
      rw [List.drop_take, List.take_of_length_le (l := y.drop 61) (by rw [List.length_drop]; omega)]
      have : y.drop 61 = (y.drop 21).drop 40 := by rw [List.drop_drop]
      rw [this]
      exact List.take_append_drop 40 (y.drop 21)
    have hd : b.enc.drop 21 = b.back ++ b.rowsB := by
      unfold BatS.enc
      rw [List.drop_append_of_le_length (by rw [items_len]; decide), b.pre_drop]
    have ha : asmB (Go.Proofs.Ytcjgdlfcfcabiaa.preX y).1 (y.take 61) ((y.drop 61).take b.rowsB.length) = .error 5 := by
      unfold asmB
      rw [hcat, hsum, if_pos]
      intro h5
      have h6 : crcMore 0#32 (b.enc.drop 21) = crcMore 0#32 (y.drop 21) := by
        rw [hd]
        apply BitVec.eq_of_toNat_eq
        have : ((crcMore 0#32 (y.drop 21)).toNat : Int) = ((crcMore 0#32 (b.back ++ b.rowsB)).toNat : Int) := h5
        omega
      have h7 := crc_burst 0#32 (b.enc.drop 21) (y.drop 21) f (by rw [List.length_drop, List.length_drop, hl]) ag h6
      apply hne
      rw [← List.take_append_drop 21 y, ht, ← h7, List.take_append_drop]
    unfold batD reBat
    rw [hr]
    simp only
    rw [hn, if_neg (by omega), ha]
theorem short_pure {b : BatS} (so : SmallOk b) (k : Nat) (hk : k < b.enc.length) : batD (b.enc.take k) = .error 1 := by
  obtain ⟨_, _, p3⟩ := so.preX
  have hl : (b.enc.take k).length = k := by rw [List.length_take]; omega
  unfold batD reBat
  by_cases h61 : k < 61
  · rw [rePre_short (by omega)]
  · have hr : rePre (b.enc.take k) = .ok (b.pre b.crc) := by
      rw [← rePre_take (b.enc.take k) (by omega), List.take_take, Nat.min_eq_left (by omega), rePre_take _ (by have := b.enc_len; omega), p3]
    have hn : ((b.pre b.crc).len - 49).toNat = b.rowsB.length := by show ((49 + (b.rowsB.length : Int)) - 49).toNat = _; omega
    rw [hr]
    simp only
    rw [hn, if_pos (by have := b.enc_len; omega)]
theorem long_pure {b : BatS} (so : SmallOk b) (t : Bs) (ht : 0 < t.length) : batD (b.enc ++ t) = .error 2 := by
  unfold batD
  rw [so.back t]
  simp only
  rw [if_pos (by rw [List.length_append]; omega)]
theorem own_pure {b : BatS} (so : SmallOk b) : batD b.enc = .ok b := by
  have h := so.back []
  rw [List.append_nil] at h
  unfold batD
  rw [h]
  simp only
  rw [if_neg (by omega)]

end Go.Proofs.Ytcjgdlfcfcabiaa

/- Batches: encoded, small ones. -/
namespace Go.Proofs.Ytcjgdlfcfcabiaa
open Go.RowKit

theorem bat_encode_enc (b : BatS) (l : List (RecS × Value)) (q : Option Addr) (cap : Nat) (hl : l.map (·.1) = b.recs) (so : SmallOk b) {W0 w : World} {K : Know} {L : List Res} (hk : K.has (Know.recs (.slice q l.length cap) l)) (h : St W0 w K L) :
    Calls Try.prog 33 #[.agg #[.int .i64 b.base, .int .i64 b.leader, .bool b.app, .bool b.txn, .bool b.ctl, .int .i64 b.last, .int .i64 b.first, .int .i64 b.maxt, .int .i64 b.prod, .int .i64 b.epoch, .int .i64 b.seq, .slice q l.length cap]] w fun en w' => en = .returned (.tuple #[.string (bb b.enc), .int .i64 0]) ∧ St W0 w' K L := by
  have hrow := so.rows
  have hlen := so.len
  have hcr := b.crc_lt
  have hml : l.length = b.recs.length := by rw [← hl, List.length_map]
  have f0 := BatS.fitsAll so.err so.rng 0 (by decide) (by omega) (by omega)
  have f1 := BatS.fitsAll so.err so.rng b.crc (by omega) (by omega) (by omega)
  have r0 := BatS.pre_R so.err so.rng 0 (by decide) (by omega) (by omega)
  have r1 := BatS.pre_R so.err so.rng b.crc (by omega) (by omega) (by omega)
  have hmx : b.first ≤ 9223372036854775807 := by have := so.rng.2.2.2.1.2; omega
  have e0 : b.pre 0 = (⟨b.base, 49 + (b.rowsB.length : Int), b.leader, 0, attrN b.app b.txn b.ctl 3, b.last, b.first, b.maxt, b.prod, b.epoch, b.seq, (l.length : Int)⟩ : PreS) := by unfold BatS.pre; rw [hml]
  have e1 : b.pre b.crc = (⟨b.base, 49 + (b.rowsB.length : Int), b.leader, (b.crc : Int), attrN b.app b.txn b.ctl 3, b.last, b.first, b.maxt, b.prod, b.epoch, b.seq, (l.length : Int)⟩ : PreS) := by unfold BatS.pre; rw [hml]
  have i0 := ints_items f0
  have i1 := ints_items f1
  have hd0 := b.pre_drop 0
  have l0 := items_len (b.pre 0)
  have l1 := items_len (b.pre b.crc)
  have he : batErr ⟨b.base, b.leader, b.app, b.txn, b.ctl, b.last, b.first, b.maxt, b.prod, b.epoch, b.seq, l.map (·.1)⟩ = 0 := by rw [hl]; exact so.err
  have hrc : recsC (l.map (·.1)) = 0 := by rw [hl]; exact (batErr_zero so.err).2.2.2
  have hrw : encAll l = b.rowsB := by rw [encAll_rows, hl]; rfl
  have hfb : FitB l := by
    intro x hx
    obtain ⟨a, c, d⟩ := so.fit x.1 (by rw [← hl]; exact List.mem_map.2 ⟨x, hx, rfl⟩)
    have := hsum_fit x.1.hdrs 1000 (by unfold RecS.sum at d; omega)
    exact ⟨a, fun y hy => by have := this y hy; omega, by omega⟩
  have hall : encInts (b.pre b.crc).items ++ b.rowsB = b.enc := rfl
  have hx : (crcMore 0#32 ((encInts (b.pre 0).items).drop 21 ++ b.rowsB)).toNat = b.crc := by rw [hd0]; rfl
  rw [e0] at r0 i0
  rw [e1] at r1 i1
  obtain ⟨s0, hs0⟩ : ∃ s, encInts (b.pre 0).items = s := ⟨_, rfl⟩
  obtain ⟨s1, hs1⟩ : ∃ s, encInts (b.pre b.crc).items = s := ⟨_, rfl⟩
  have g0 : encInts (⟨b.base, 49 + (b.rowsB.length : Int), b.leader, 0, attrN b.app b.txn b.ctl 3, b.last, b.first, b.maxt, b.prod, b.epoch, b.seq, (l.length : Int)⟩ : PreS).items = s0 := e0 ▸ hs0
  have g1 : encInts (⟨b.base, 49 + (b.rowsB.length : Int), b.leader, (b.crc : Int), attrN b.app b.txn b.ctl 3, b.last, b.first, b.maxt, b.prod, b.epoch, b.seq, (l.length : Int)⟩ : PreS).items = s1 := e1 ▸ hs1
  rw [g0] at i0
  rw [g1] at i1
  rw [hs0] at hx l0
  rw [hs1] at hall l1
  exact bat_encode_ok b.base b.leader b.app b.txn b.ctl b.last b.first b.maxt b.prod b.epoch b.seq l q cap he hmx hfb (by omega) b.rowsB s0 s1 b.enc b.crc (attrN b.app b.txn b.ctl 3) hrc hrw (by omega) rfl r0 r1 i0 i1 l0 l1 hx hall hk h

end Go.Proofs.Ytcjgdlfcfcabiaa

/- Batches harmed: bits. -/
namespace Go.Proofs.Ytcjgdlfcfcabiaa
open Go.RowKit

theorem flip_bitB (d : UInt8) (r q : Nat) (hr : r < 8) (hq : q ≠ r) : (d ^^^ UInt8.ofNat (2 ^ r)).toNat.testBit q = d.toNat.testBit q := by
  have h2 : (UInt8.ofNat (2 ^ r)).toNat = 2 ^ r := by
    have : 2 ^ r < 2 ^ 8 := Nat.pow_lt_pow_right (by decide) hr
    simp
    omega
  rw [UInt8.toNat_xor, h2, Nat.testBit_xor, Nat.testBit_two_pow_of_ne (fun h => hq h.symm), Bool.xor_false]
/-- Bits that are the same outside of what is harmed, behind what isn't summed. -/
def AgreeB (a b : Bs) (first n : Nat) : Prop := b.take 21 = a.take 21 ∧ ∀ i, (i < first ∨ first + n ≤ i) → (bitsOf (a.drop 21)).getD i false = (bitsOf (b.drop 21)).getD i false
theorem AgreeB.refl (a : Bs) (f : Nat) : AgreeB a a f 0 := ⟨rfl, fun _ _ => rfl⟩
theorem AgreeB.step {a b : Bs} {f n : Nat} (h : AgreeB a b f n) : AgreeB a b f (n + 1) := ⟨h.1, fun i hi => h.2 i (by omega)⟩
theorem AgreeB.flip {a b : Bs} {f n : Nat} (h : AgreeB a b f n) (c : UInt8) (hk : 21 + (f + n) / 8 < b.length) (hc : ∀ q, q ≠ (f + n) % 8 → c.toNat.testBit q = (b[21 + (f + n) / 8]).toNat.testBit q) : AgreeB a (b.set (21 + (f + n) / 8) c) f (n + 1) := by
  refine ⟨by rw [List.take_set_of_le (by omega)]; exact h.1, fun i hi => ?_⟩
  rw [h.2 i (by omega)]
  have hds : (b.set (21 + (f + n) / 8) c).drop 21 = (b.drop 21).set ((f + n) / 8) c := by
    rw [List.drop_set, if_neg (by omega), Nat.add_sub_cancel_left]
  rw [hds, bitsOf_get, bitsOf_get]
  have hk2 : (f + n) / 8 < (b.drop 21).length := by rw [List.length_drop]; omega
  have hget : (b.drop 21)[(f + n) / 8] = b[21 + (f + n) / 8] := List.getElem_drop ..
  by_cases he : i / 8 = (f + n) / 8
  · have hq : i % 8 ≠ (f + n) % 8 := by omega
    have e1 : ((b.drop 21).set ((f + n) / 8) c).getD (i / 8) 0 = c := by rw [he, List.getD_eq_getElem?_getD, List.getElem?_set_self hk2]; rfl
    have e2 : (b.drop 21).getD (i / 8) 0 = b[21 + (f + n) / 8] := by rw [he, List.getD_eq_getElem?_getD, List.getElem?_eq_getElem hk2, hget]; rfl
    rw [e1, e2, hc _ hq]
  · rw [List.getD_eq_getElem?_getD, List.getD_eq_getElem?_getD, List.getElem?_set_ne (fun h => he h.symm)]
theorem conv_stB {W0 w : World} {K : Know} {L : List Res} (_h : St W0 w K L) (s : Bs) :
    ∃ C cap, s.length ≤ C.size ∧ (∀ j (h : j < s.length), C[j]? = some (.int .u8 (s[j].toNat : Int))) ∧
      (convert 9 36 (.string (bb s))).run Try.prog w = .ok (.slice (some ⟨w.heap.size, 0, none⟩) s.length cap) (w.drew.alloc (.cells C 5 (C.size, C.size + 1))) := conv_bytes' w s
theorem bat_encode_encE (b : BatS) (s : Bs) (hs : b.enc = s) (l : List (RecS × Value)) (q : Option Addr) (cap : Nat) (hl : l.map (·.1) = b.recs) (so : SmallOk b) {W0 w : World} {K : Know} {L : List Res} (hk : K.has (Know.recs (.slice q l.length cap) l)) (h : St W0 w K L) :
    Calls Try.prog 33 #[.agg #[.int .i64 b.base, .int .i64 b.leader, .bool b.app, .bool b.txn, .bool b.ctl, .int .i64 b.last, .int .i64 b.first, .int .i64 b.maxt, .int .i64 b.prod, .int .i64 b.epoch, .int .i64 b.seq, .slice q l.length cap]] w fun en w' => en = .returned (.tuple #[.string (bb s), .int .i64 0]) ∧ St W0 w' K L := by
  subst hs; exact bat_encode_enc b l q cap hl so hk h

end Go.Proofs.Ytcjgdlfcfcabiaa

/- Layer 11, walked: BatchHarms. -/
namespace Go.Proofs.Ytcjgdlfcfcabiaa
open Go.RowKit

set_option maxHeartbeats 4000000 in
set_option maxRecDepth 100000 in
theorem bh_main (b : BatS) (l : List (RecS × Value)) (q : Option Addr) (cap : Nat) (at' m : Int) (hat : 0 ≤ at' ∧ at' < 65536) (hm : 0 ≤ m ∧ m < 4294967296) (hl : l.map (·.1) = b.recs) (hR : b.R) (hfw : FitW l) (hs : smallB (l.map (·.1)) = true) (he : batErr ⟨b.base, b.leader, b.app, b.txn, b.ctl, b.last, b.first, b.maxt, b.prod, b.epoch, b.seq, l.map (·.1)⟩ = 0) (so : SmallOk b) {W0 w : World} {K : Know} (hk : K.has (Know.recs (.slice q l.length cap) l)) (h : St W0 w K []) :
    Calls Try.prog 8 #[.agg #[.int .i64 b.base, .int .i64 b.leader, .bool b.app, .bool b.txn, .bool b.ctl, .int .i64 b.last, .int .i64 b.first, .int .i64 b.maxt, .int .i64 b.prod, .int .i64 b.epoch, .int .i64 b.seq, .slice q l.length cap], .int .u16 at', .int .u32 m] w fun en w' => en = .returned (.bool true) ∧ Below W0.heap.size W0 w' := by
  have HK := Lib.hid hk
  have HFW := Lib.hid hfw
  have HMX := Lib.hid (show b.first ≤ 9223372036854775807 by have := hR.2.2.2.1.2; omega)
  have HRB := Lib.hid hR.1
  obtain ⟨hb, hhb⟩ : ∃ b, w.heap.size = b := ⟨_, rfl⟩
  have h1 := h.allocRaw #[.int .i64 b.base, .int .i64 b.leader, .bool b.app, .bool b.txn, .bool b.ctl, .int .i64 b.last, .int .i64 b.first, .int .i64 b.maxt, .int .i64 b.prod, .int .i64 b.epoch, .int .i64 b.seq, .slice q l.length cap] 32
  rw [hhb] at h1
  obtain ⟨x0, x1, x2, x3, x4, x5, x6, x7, x8, x9, x10, x11, y0, y1, y2, y3, y4, y5, y6, y7, y8, y9, y10, y11⟩ := raw12 (b := hb) (h1)
  have H := Lib.hid h1
  have HSM := Lib.hid hs
  have HFT := Lib.hid (FitW.fit hfw hs)
  have HLL := Lib.hid (show l.length ≤ 1000000 by have := smallB_len hs; omega)
  have HE := Lib.hid he
  have HSO := Lib.hid so
  have HBR := Lib.hid hl
  obtain ⟨s, hss⟩ : ∃ s, b.enc = s := ⟨_, rfl⟩
  have HS := Lib.hid hss
  have hsl : s.length ≤ 401000 := by rw [← hss]; exact so.elen
  obtain ⟨M, hM, hM1⟩ : ∃ M, s.length = M + 21 ∧ 40 ≤ M := ⟨s.length - 21, by rw [← hss, b.enc_len]; omega, by rw [← hss, b.enc_len]; omega⟩
  have f0 : wrap64 ((s.length : Int) - 21) = (M : Int) := by unfold wrap64; omega
  have f1 : IntKind.i64.wrap ((s.length : Int) - 21) = (M : Int) := by rw [show (s.length : Int) - 21 = (M : Int) by omega]; exact IntWalk.i64_in _ (by omega)
  have f2 : wrap64 (8 * (M : Int)) = 8 * (M : Int) := by unfold wrap64; omega
  have f3 : IntKind.i64.wrap (8 * (M : Int)) = 8 * (M : Int) := IntWalk.i64_in _ (by omega)
  have hz0 : ((8 * (M : Int)) == 0) = false := by rw [beq_eq_false_iff_ne]; omega
  obtain ⟨f, hf⟩ : ∃ f : Nat, at' % (8 * (M : Int)) = f := ⟨(at' % (8 * (M : Int))).toNat, by have := Int.emod_nonneg at' (show 8 * (M : Int) ≠ 0 by omega); omega⟩
  have hf2 : f < 8 * M := by have := Int.emod_lt_of_pos at' (show (0 : Int) < 8 * (M : Int) by omega); omega
  obtain ⟨ha0, ha1⟩ := hat
  obtain ⟨hm0, hm1⟩ := hm
  have HM := Lib.hid hM
  have hMM : M ≤ 401000 := by omega
  clear h h1 hk hfw hs he hR hl so hss hM
  go_enter Try.func8, Try.ntmps8
  go_upto_region 8 with (first
    | (go_at_call 29; clear x0 y0 x1 y1 x2 y2 x3 y3 x4 y4 x5 y5 x6 y6 x7 y7 x8 y8 x9 y9 x10 y10 x11 y11; (with_reducible refine (speaks11 H.out).mono ?_); rintro e_ wn ⟨rfl, K2, hk2, h⟩; have HK2 := Lib.hid (Know.has_trans hk2 HK.out); clear hk2 HK; replace H := Lib.hid h; clear h; obtain ⟨x0, x1, x2, x3, x4, x5, x6, x7, x8, x9, x10, x11, y0, y1, y2, y3, y4, y5, y6, y7, y8, y9, y10, y11⟩ := raw12 (b := hb) (H.out))
    | (go_at_call 31; clear x0 y0 x1 y1 x2 y2 x3 y3 x4 y4 x5 y5 x6 y6 x7 y7 x8 y8 x9 y9 x10 y10 x11 y11; (with_reducible refine (l11_small _ _ _ _ _ _ _ _ _ _ _ l _ _ true HSM.out HFW.out HK2.out H.out).mono ?_); rintro e_ wn ⟨rfl, h⟩; replace H := Lib.hid h; clear h; obtain ⟨x0, x1, x2, x3, x4, x5, x6, x7, x8, x9, x10, x11, y0, y1, y2, y3, y4, y5, y6, y7, y8, y9, y10, y11⟩ := raw12 (b := hb) (H.out))
    | (go_at_call 32; clear x0 y0 x1 y1 x2 y2 x3 y3 x4 y4 x5 y5 x6 y6 x7 y7 x8 y8 x9 y9 x10 y10 x11 y11; (with_reducible refine (ref11_check _ _ _ _ _ _ _ _ _ _ _ l _ _ 0 HE.out HMX.out HRB.out HFT.out HLL.out HK2.out H.out).mono ?_); rintro e_ wn ⟨rfl, h⟩; replace H := Lib.hid h; clear h; obtain ⟨x0, x1, x2, x3, x4, x5, x6, x7, x8, x9, x10, x11, y0, y1, y2, y3, y4, y5, y6, y7, y8, y9, y10, y11⟩ := raw12 (b := hb) (H.out))
    | (go_at_call 33; (with_reducible refine (bat_encode_encE b s HS.out l _ _ HBR.out HSO.out HK2.out H.out).mono ?_); rintro e_ wn ⟨rfl, h⟩; replace H := Lib.hid h; clear h))
  clear x0 y0 x1 y1 x2 y2 x3 y3 x4 y4 x5 y5 x6 y6 x7 y7 x8 y8 x9 y9 x10 y10 x11 y11
  go_cut [9] (fun s9 wx => ∃ bx cap : Nat, s9 = .slice (some ⟨bx, 0, none⟩) s.length cap ∧ ∃ K2, St W0 wx K2 [.gen (bRow bx s)])
  case first =>
    have H9 := H.out.drop
    obtain ⟨C, cap, hsz, hC, hrun⟩ := conv_stB H9 s
    have H2 := (H9.bytesNew hsz hC).drew
    go_wp2
    go_meet
    exact ⟨_, cap, rfl, _, H2⟩
  obtain ⟨bx, cap, rfl, K2, h⟩ := hcut
  clear H
  have H := Lib.hid h
  clear h
  go_wp2_with (fail)
  rw [hf]
  have HF := Lib.hid hf
  have HSL := Lib.hid hsl
  have HF3 := Lib.hid (show f ≤ 3300000 by omega)
  clear hf f0 f1 f2 f3 hz0 hsl hM1 hMM
  go_loopw [12, 13, 47] (fun _ _ iv wr => ∃ (i : Nat) (y : Bs), i ≤ 32 ∧ iv = .int .i64 i ∧ y.length = s.length ∧ AgreeB s y f i ∧ St W0 wr K2 [.gen (bRow bx y)]) (fun _ _ iv _ => 32 - (intOf iv).toNat)
  case atStart => exact ⟨0, s, by decide, rfl, rfl, AgreeB.refl s f, H.out⟩
  case round =>
    obtain ⟨i, y, hi, rfl, hyl, hag, hst⟩ := hrel
    have HY := Lib.hid hyl
    have HA := Lib.hid hag
    clear H
    have H := Lib.hid hst
    clear hyl hag hst
    by_cases hlt : i < 32
    · as_aux_lemma =>
      have hf3 := HF3.out
      clear hf2
      go_upto_region 15 with (fail)
      have HF4 := Lib.hid hf3
      clear hf3 ha0 ha1 hi hm0 hm1
      go_upto_region 16 with (fail)
      · have hlt2 : (f : Int) + (i : Int) < 8 * (M : Int) := by assumption
        have hM := HM.out
        have hsl := HSL.out
        have hf4 := HF4.out
        obtain ⟨k, hk⟩ : ∃ k, f + i = k := ⟨_, rfl⟩
        have hki : (f : Int) + (i : Int) = (k : Int) := by omega
        rw [hki]
        obtain ⟨q8, hq⟩ : ∃ q, k / 8 = q := ⟨_, rfl⟩
        obtain ⟨q, hqq⟩ : ∃ q, 21 + q8 = q := ⟨_, rfl⟩
        obtain ⟨r, hr⟩ : ∃ r, k % 8 = r := ⟨_, rfl⟩
        have hql : q < y.length := by have := HY.out; omega
        have hr8 : r < 8 := by omega
        have dq : (k : Int) / 8 = (q8 : Int) := by omega
        have dqq : (21 : Int) + (q8 : Int) = (q : Int) := by omega
        have dr : (k : Int) % 8 = (r : Int) := by omega
        have t1 : (k : Int).tdiv 8 = (q8 : Int) := by rw [← hq]; rfl
        have t2 : (k : Int).tmod 8 = (r : Int) := by rw [← hr]; rfl
        obtain ⟨z1, z2⟩ := H.out.bytesCell q hql
        obtain ⟨d, hd⟩ : ∃ d, y[q] = d := ⟨_, rfl⟩
        rw [hd] at z1
        have HD := Lib.hid hd
        have HQ := Lib.hid (And.intro hk (And.intro hq (And.intro hqq hr)))
        have hqi : (q : Int) < (s.length : Int) := by have := HY.out; omega
        have wq : IntKind.i64.wrap (q8 : Int) = (q8 : Int) := IntWalk.i64_in _ (by omega)
        have wqq : IntKind.i64.wrap (q : Int) = (q : Int) := IntWalk.i64_in _ (by omega)
        have wqw : wrap64 (q : Int) = (q : Int) := by unfold wrap64; omega
        have wr' : IntKind.i64.wrap (r : Int) = (r : Int) := IntWalk.i64_in _ (by omega)
        obtain ⟨mk, hmk⟩ : ∃ mk, UInt8.ofNat (2 ^ r) = mk := ⟨_, rfl⟩
        have hmi : ((mk.toNat : Nat) : Int) = (2 : Int) ^ r % 256 := by rw [← hmk]; simp
        have hxor := xor_u8m d mk
        rw [hmi] at hxor
        obtain ⟨c, hc⟩ : ∃ c, d ^^^ mk = c := ⟨_, rfl⟩
        rw [hc] at hxor
        have hxor2 : bits BinOp.xor IntKind.u8 (d.toNat : Int) (IntKind.u8.wrap ((2 : Int) ^ r)) = (c.toNat : Int) := hxor
        have HC := Lib.hid (show c = d ^^^ UInt8.ofNat (2 ^ r) by rw [hmk]; exact hc.symm)
        clear hmk hc hmi
        have q0 : (0 : Int) ≤ (q : Int) := Int.natCast_nonneg _
        have r0 : (0 : Int) ≤ (r : Int) := Int.natCast_nonneg _
        clear hd hk hq hqq hr hki hlt2 hM hsl hf4
        have HQL := Lib.hid hql
        clear z1 z2
        have hs := H.out.drew
        refine wp_region_held_drew (S := fun _ => True) (by kernel_rfl) trivial (fun hHeld => ?_)
        refine wpAnyH_take (i := 0) (oi := { dst := some 63, op := Op.move (Operand.tmp 9), type := 36, pos := "law.go:120", after := #[], guard := none }) (v := ?_) rfl (by kernel_rfl) (by kernel_rfl) (by kernel_rfl) (fun _ _ _ h => h) (Or.inl ⟨by rfl, ?_⟩) (by assumption) ?_
        rotate_left
        · intro w hSw; (try dsimp only at hSw); go_simp; try with_reducible rfl
        simp only [Act.put, List.setIfInBounds_toArray, List.set_cons_zero, List.set_cons_succ]
        refine wpAnyH_take (i := 1) (oi := { dst := some 64, op := Op.move (Operand.tmp 13), type := 3, pos := "law.go:120", after := #[], guard := none }) (v := ?_) rfl (by kernel_rfl) (by kernel_rfl) (by kernel_rfl) (fun _ _ _ h => h) (Or.inl ⟨by rfl, ?_⟩) (by assumption) ?_
        rotate_left
        · intro w hSw; (try dsimp only at hSw); go_simp; try with_reducible rfl
        simp only [Act.put, List.setIfInBounds_toArray, List.set_cons_zero, List.set_cons_succ]
        refine wpAnyH_take (i := 2) (oi := { dst := some 65, op := Op.binOp BinOp.quo 3 (Operand.tmp 64) (Operand.const (Value.int IntKind.i64 8)) 3, type := 3, pos := "law.go:120", after := #[{ on := 1, ground := Ground.data }], guard := none }) (v := ?_) rfl (by kernel_rfl) (by kernel_rfl) (by kernel_rfl) (fun _ _ _ h => h) (Or.inl ⟨by rfl, ?_⟩) (by assumption) ?_
        rotate_left
        · intro w hSw; (try dsimp only at hSw); go_simp; try with_reducible rfl
        simp only [Act.put, List.setIfInBounds_toArray, List.set_cons_zero, List.set_cons_succ]
        refine wpAnyH_take (i := 3) (oi := { dst := some 66, op := Op.binOp BinOp.add 3 (Operand.const (Value.int IntKind.i64 21)) (Operand.tmp 65) 3, type := 3, pos := "law.go:120", after := #[{ on := 2, ground := Ground.data }], guard := none }) (v := ?_) rfl (by kernel_rfl) (by kernel_rfl) (by kernel_rfl) (fun _ _ _ h => h) (Or.inl ⟨by rfl, ?_⟩) (by assumption) ?_
        rotate_left
        · intro w hSw; (try dsimp only at hSw); go_simp; try with_reducible rfl
        simp only [Act.put, List.setIfInBounds_toArray, List.set_cons_zero, List.set_cons_succ]
        refine wpAnyH_take (i := 4) (oi := { dst := some 67, op := Op.indexAddr 36 (Operand.tmp 63) (Operand.tmp 66), type := 0, pos := "law.go:120", after := #[{ on := 0, ground := Ground.data }, { on := 3, ground := Ground.data }], guard := none }) (v := ?_) rfl (by kernel_rfl) (by kernel_rfl) (by kernel_rfl) (fun _ _ _ h => h) (Or.inl ⟨by rfl, ?_⟩) (by assumption) ?_
        rotate_left
        · intro w hSw; (try dsimp only at hSw); go_simp; try with_reducible rfl
        simp only [Act.put, List.setIfInBounds_toArray, List.set_cons_zero, List.set_cons_succ]
        refine wpAnyH_take (i := 6) (oi := { dst := some 69, op := Op.move (Operand.tmp 13), type := 3, pos := "law.go:120", after := #[], guard := none }) (v := ?_) rfl (by kernel_rfl) (by kernel_rfl) (by kernel_rfl) (fun _ _ _ h => h) (Or.inl ⟨by rfl, ?_⟩) (by assumption) ?_
        rotate_left
        · intro w hSw; (try dsimp only at hSw); go_simp; try with_reducible rfl
        simp only [Act.put, List.setIfInBounds_toArray, List.set_cons_zero, List.set_cons_succ]
        refine wpAnyH_take (i := 7) (oi := { dst := some 70, op := Op.binOp BinOp.rem 3 (Operand.tmp 69) (Operand.const (Value.int IntKind.i64 8)) 3, type := 3, pos := "law.go:120", after := #[{ on := 6, ground := Ground.data }], guard := none }) (v := ?_) rfl (by kernel_rfl) (by kernel_rfl) (by kernel_rfl) (fun _ _ _ h => h) (Or.inl ⟨by rfl, ?_⟩) (by assumption) ?_
        rotate_left
        · intro w hSw; (try dsimp only at hSw); go_simp; try with_reducible rfl
        simp only [Act.put, List.setIfInBounds_toArray, List.set_cons_zero, List.set_cons_succ]
        refine wpAnyH_take (i := 8) (oi := { dst := some 71, op := Op.binOp BinOp.shl 5 (Operand.const (Value.int IntKind.u8 1)) (Operand.tmp 70) 3, type := 5, pos := "law.go:120", after := #[{ on := 7, ground := Ground.data }], guard := none }) (v := ?_) rfl (by kernel_rfl) (by kernel_rfl) (by kernel_rfl) (fun _ _ _ h => h) (Or.inl ⟨by rfl, ?_⟩) (by assumption) ?_
        rotate_left
        · intro w hSw; (try dsimp only at hSw); go_simp; try with_reducible rfl
        simp only [Act.put, List.setIfInBounds_toArray, List.set_cons_zero, List.set_cons_succ]
        refine wpAnyH_ready (rs := [5]) (by kernel_rfl) (by simp) (AllReadyH.cons (o := { dst := some 68, op := Op.load 5 (Operand.tmp 67), type := 5, pos := "law.go:120", after := #[{ on := 4, ground := Ground.data }], guard := none }) rfl (fun KK hK => ?_) AllReadyH.nil)
        · obtain ⟨c0, c1⟩ := hs.bytesCell q HQL.out
          rw [HD.out] at c0
          go_simp
          refine hK.out _ _ (trivial) (fun hHeld => ?_)
          clear hK KK
          try simp only [Act.put, List.setIfInBounds_toArray, List.set_cons_zero, List.set_cons_succ]
          refine wpAnyH_take (i := 9) (oi := { dst := some 72, op := Op.binOp BinOp.xor 5 (Operand.tmp 68) (Operand.tmp 71) 5, type := 5, pos := "law.go:120", after := #[{ on := 5, ground := Ground.data }, { on := 8, ground := Ground.data }], guard := none }) (v := ?_) rfl (by kernel_rfl) (by kernel_rfl) (by kernel_rfl) (fun _ _ _ h => h) (Or.inl ⟨by rfl, ?_⟩) (by assumption) ?_
          rotate_left
          · intro w hSw; (try dsimp only at hSw); go_simp; try with_reducible rfl
          simp only [Act.put, List.setIfInBounds_toArray, List.set_cons_zero, List.set_cons_succ]
          refine wpAnyH_take (i := 10) (oi := { dst := some 73, op := Op.indexAddr 36 (Operand.tmp 63) (Operand.tmp 66), type := 0, pos := "law.go:120", after := #[{ on := 0, ground := Ground.data }, { on := 3, ground := Ground.data }, { on := 0, ground := Ground.phase }, { on := 1, ground := Ground.phase }, { on := 2, ground := Ground.phase }, { on := 3, ground := Ground.phase }, { on := 4, ground := Ground.phase }, { on := 5, ground := Ground.phase }, { on := 6, ground := Ground.phase }, { on := 7, ground := Ground.phase }, { on := 8, ground := Ground.phase }, { on := 9, ground := Ground.phase }], guard := none }) (v := ?_) rfl (by kernel_rfl) (by kernel_rfl) (by kernel_rfl) (fun _ _ _ h => h) (Or.inl ⟨by rfl, ?_⟩) (by assumption) ?_
          rotate_left
          · intro w hSw; (try dsimp only at hSw); go_simp; try with_reducible rfl
          simp only [Act.put, List.setIfInBounds_toArray, List.set_cons_zero, List.set_cons_succ]
          refine wpAnyH_ready (rs := [11]) (by kernel_rfl) (by simp) (AllReadyH.cons (o := { dst := none, op := Op.store 5 (Operand.tmp 73) (Operand.tmp 72), type := 0, pos := "law.go:120", after := #[{ on := 10, ground := Ground.data }, { on := 9, ground := Ground.data }, { on := 0, ground := Ground.phase }, { on := 1, ground := Ground.phase }, { on := 2, ground := Ground.phase }, { on := 3, ground := Ground.phase }, { on := 4, ground := Ground.phase }, { on := 5, ground := Ground.phase }, { on := 6, ground := Ground.phase }, { on := 7, ground := Ground.phase }, { on := 8, ground := Ground.phase }, { on := 9, ground := Ground.phase }], guard := none }) rfl (fun KK hK => ?_) AllReadyH.nil)
          · obtain ⟨c0, c1⟩ := hs.bytesCell q HQL.out
            rw [HD.out] at c0
            go_simp
            refine hK.out _ _ (trivial) (fun hHeld => ?_)
            clear hK KK
            try simp only [Act.put, List.setIfInBounds_toArray, List.set_cons_zero, List.set_cons_succ]
            try rw [hxor2]
            have hs := (H.out.bytesSet q c (c.toNat : Int) rfl).drew
            refine wpAnyH_done (by kernel_rfl) ?_ _
            have HR8 := Lib.hid hr8
            clear c0 c1 hxor hxor2 wr' wqw wqq wq dq dqq dr t1 t2 hqi q0 r0 hr8 hHeld
            generalize (wr.setCell ⟨bx, q, none⟩ (.int .u8 (c.toNat : Int))).drew = wy at hs ⊢
            go_wp2_with fail
            go_roundw
            case rel =>
              have hk := HQ.out.1
              have hq := HQ.out.2.1
              have hqq := HQ.out.2.2.1
              have hr := HQ.out.2.2.2
              subst hk hq hqq hr
              exact ⟨i + 1, y.set (21 + (f + i) / 8) c, by omega, by go_num, by rw [List.length_set]; exact HY.out, HA.out.flip c HQL.out (fun q hq => by rw [HC.out, flip_bitB d _ q HR8.out hq, ← HD.out]), hs⟩
            case measure => first | (simp [intOf]; done) | (simp [intOf]; omega)
      all_goals
        go_roundw
        case rel => exact ⟨i + 1, y, by omega, by go_num, HY.out, HA.out.step, H.out⟩
        case measure => first | (simp [intOf]; done) | (simp [intOf]; omega)
    · obtain rfl : i = 32 := by omega
      have hyl := HY.out
      have hsl := HSL.out
      obtain ⟨so, hss⟩ := And.intro HSO.out HS.out
      obtain ⟨k, hk⟩ : ∃ k : Nat, at' % (s.length : Int) = k := ⟨(at' % (s.length : Int)).toNat, by have := HM.out; have := Int.emod_nonneg at' (show (s.length : Int) ≠ 0 by omega); omega⟩
      have hk2 : k < s.length := by have := HM.out; have := Int.emod_lt_of_pos at' (show (0 : Int) < (s.length : Int) by omega); omega
      have hz1 : ((s.length : Int) == 0) = false := by rw [beq_eq_false_iff_ne]; have := HM.out; omega
      obtain ⟨sk, hsk⟩ : ∃ t, s.take k = t := ⟨_, rfl⟩
      obtain ⟨ss, hs2⟩ : ∃ t, s ++ s = t := ⟨_, rfl⟩
      have HD2 := Lib.hid (show batD sk = .error 1 by rw [← hsk, ← hss]; exact short_pure so k (by rw [hss]; exact hk2))
      have HD3 := Lib.hid (show batD ss = .error 2 by rw [← hs2, ← hss]; exact long_pure so _ (by rw [b.enc_len]; omega))
      have HKM := Lib.hid (show sk.length ≤ 1000000 by rw [← hsk, List.length_take]; omega)
      have HSM2 := Lib.hid (show ss.length ≤ 1000000 by rw [← hs2, List.length_append]; omega)
      have HYM := Lib.hid (show y.length ≤ 1000000 by omega)
      have HYS := Lib.hid hyl.symm
      have hcat : bb s ++ bb s = bb ss := by rw [← hs2]; exact bb_append _ _
      have hg : ¬ (9223372036854775807 < s.length + s.length) := by omega
      have HSK := Lib.hid hsk
      have hkn : ¬ (s = []) := by intro hh; rw [hh] at hk2; simp at hk2
      have hk0 : (0 : Int) ≤ (k : Int) := Int.natCast_nonneg _
      have hkl : (k : Int) ≤ (s.length : Int) := by omega
      have hkl2 : k ≤ s.length := by omega
      have cv := H.out.bytesText _ HYS.out cap
      by_cases hys : y = s
      · as_aux_lemma =>
        have HD1 := Lib.hid (show batD y = .ok b by rw [hys, ← hss]; exact own_pure so)
        have gy : (y == s) = true := by rw [hys]; exact beq_self_eq_true _
        clear hyl hsl so hss hk2 hs2 hlt hi hf2 hm0 hm1 hys
        go_wp2_with (first
          | (go_at_call 30; (with_reducible refine (bat_decode_ok y HYM.out b HD1.out H.out).mono ?_); rintro e_ wn ⟨q1, l1, cap1, rfl, _, h⟩; have h := (h.allocRaw #[.int .i64 b.base, .int .i64 b.leader, .bool b.app, .bool b.txn, .bool b.ctl, .int .i64 b.last, .int .i64 b.first, .int .i64 b.maxt, .int .i64 b.prod, .int .i64 b.epoch, .int .i64 b.seq, .slice q1 l1.length cap1] 32).drop; clear cv; have cv := h.bytesText _ HYS.out cap; replace H := Lib.hid h; clear h)
          | (go_at_call 30; (with_reducible refine (bat_decode_bad sk HKM.out 1 HD2.out H.out).mono ?_); rintro e_ wn ⟨rfl, h⟩; have h := (h.allocRaw #[.int .i64 0, .int .i64 0, .bool false, .bool false, .bool false, .int .i64 0, .int .i64 0, .int .i64 0, .int .i64 0, .int .i64 0, .int .i64 0, .slice none 0 0] 32).drop; clear cv; have cv := h.bytesText _ HYS.out cap; replace H := Lib.hid h; clear h)
          | (go_at_call 30; (with_reducible refine (bat_decode_bad ss HSM2.out 2 HD3.out H.out).mono ?_); rintro e_ wn ⟨rfl, h⟩; have h := (h.allocRaw #[.int .i64 0, .int .i64 0, .bool false, .bool false, .bool false, .int .i64 0, .int .i64 0, .int .i64 0, .int .i64 0, .int .i64 0, .int .i64 0, .slice none 0 0] 32).drop; clear cv; have cv := h.bytesText _ HYS.out cap; replace H := Lib.hid h; clear h))
        go_ret
        exact ⟨rfl, H.out.below⟩
      · have hp := harm_pure so y (by rw [hss]; exact hyl) (by rw [hss]; exact HA.out.1) f (by rw [hss]; exact HA.out.2) (by rw [hss]; exact hys)
        have gy : (y == s) = false := by rw [beq_eq_false_iff_ne]; exact hys
        have gy2 : (y != s) = true := by simp [bne, gy]
        rcases hp with HD0 | HD0
        · as_aux_lemma =>
          have HD1 := Lib.hid HD0
          clear hyl hsl so hss hk2 hs2 hlt hi hf2 hm0 hm1 hys HD0
          go_wp2_with (first
            | (go_at_call 30; (with_reducible refine (bat_decode_bad y HYM.out 5 HD1.out H.out).mono ?_); rintro e_ wn ⟨rfl, h⟩; have h := (h.allocRaw #[.int .i64 0, .int .i64 0, .bool false, .bool false, .bool false, .int .i64 0, .int .i64 0, .int .i64 0, .int .i64 0, .int .i64 0, .int .i64 0, .slice none 0 0] 32).drop; clear cv; have cv := h.bytesText _ HYS.out cap; replace H := Lib.hid h; clear h)
            | (go_at_call 30; (with_reducible refine (bat_decode_bad sk HKM.out 1 HD2.out H.out).mono ?_); rintro e_ wn ⟨rfl, h⟩; have h := (h.allocRaw #[.int .i64 0, .int .i64 0, .bool false, .bool false, .bool false, .int .i64 0, .int .i64 0, .int .i64 0, .int .i64 0, .int .i64 0, .int .i64 0, .slice none 0 0] 32).drop; clear cv; have cv := h.bytesText _ HYS.out cap; replace H := Lib.hid h; clear h)
            | (go_at_call 30; (with_reducible refine (bat_decode_bad ss HSM2.out 2 HD3.out H.out).mono ?_); rintro e_ wn ⟨rfl, h⟩; have h := (h.allocRaw #[.int .i64 0, .int .i64 0, .bool false, .bool false, .bool false, .int .i64 0, .int .i64 0, .int .i64 0, .int .i64 0, .int .i64 0, .int .i64 0, .slice none 0 0] 32).drop; clear cv; have cv := h.bytesText _ HYS.out cap; replace H := Lib.hid h; clear h))
          go_ret
          exact ⟨rfl, H.out.below⟩
        · as_aux_lemma =>
          have HD1 := Lib.hid HD0
          clear hyl hsl so hss hk2 hs2 hlt hi hf2 hm0 hm1 hys HD0
          go_wp2_with (first
            | (go_at_call 30; (with_reducible refine (bat_decode_bad y HYM.out 10 HD1.out H.out).mono ?_); rintro e_ wn ⟨rfl, h⟩; have h := (h.allocRaw #[.int .i64 0, .int .i64 0, .bool false, .bool false, .bool false, .int .i64 0, .int .i64 0, .int .i64 0, .int .i64 0, .int .i64 0, .int .i64 0, .slice none 0 0] 32).drop; clear cv; have cv := h.bytesText _ HYS.out cap; replace H := Lib.hid h; clear h)
            | (go_at_call 30; (with_reducible refine (bat_decode_bad sk HKM.out 1 HD2.out H.out).mono ?_); rintro e_ wn ⟨rfl, h⟩; have h := (h.allocRaw #[.int .i64 0, .int .i64 0, .bool false, .bool false, .bool false, .int .i64 0, .int .i64 0, .int .i64 0, .int .i64 0, .int .i64 0, .int .i64 0, .slice none 0 0] 32).drop; clear cv; have cv := h.bytesText _ HYS.out cap; replace H := Lib.hid h; clear h)
            | (go_at_call 30; (with_reducible refine (bat_decode_bad ss HSM2.out 2 HD3.out H.out).mono ?_); rintro e_ wn ⟨rfl, h⟩; have h := (h.allocRaw #[.int .i64 0, .int .i64 0, .bool false, .bool false, .bool false, .int .i64 0, .int .i64 0, .int .i64 0, .int .i64 0, .int .i64 0, .int .i64 0, .slice none 0 0] 32).drop; clear cv; have cv := h.bytesText _ HYS.out cap; replace H := Lib.hid h; clear h))
          go_ret
          exact ⟨rfl, H.out.below⟩

end Go.Proofs.Ytcjgdlfcfcabiaa

/- Layer 11, walked: BatchHarms: what is not looked at. -/
namespace Go.Proofs.Ytcjgdlfcfcabiaa
open Go.RowKit

set_option maxHeartbeats 4000000 in
set_option maxRecDepth 100000 in
theorem bh_long (b : BatS) (l : List (RecS × Value)) (q : Option Addr) (cap : Nat) (at' m : Int) (hat : 0 ≤ at' ∧ at' < 65536) (hm : 0 ≤ m ∧ m < 4294967296) (hl : l.map (·.1) = b.recs) (hR : b.R) (hfw : FitW l) (hs : smallB (l.map (·.1)) = false) {W0 w : World} {K : Know} (hk : K.has (Know.recs (.slice q l.length cap) l)) (h : St W0 w K []) :
    Calls Try.prog 8 #[.agg #[.int .i64 b.base, .int .i64 b.leader, .bool b.app, .bool b.txn, .bool b.ctl, .int .i64 b.last, .int .i64 b.first, .int .i64 b.maxt, .int .i64 b.prod, .int .i64 b.epoch, .int .i64 b.seq, .slice q l.length cap], .int .u16 at', .int .u32 m] w fun en w' => en = .returned (.bool true) ∧ Below W0.heap.size W0 w' := by
  have HK := Lib.hid hk
  have HFW := Lib.hid hfw
  have HMX := Lib.hid (show b.first ≤ 9223372036854775807 by have := hR.2.2.2.1.2; omega)
  have HRB := Lib.hid hR.1
  obtain ⟨hb, hhb⟩ : ∃ b, w.heap.size = b := ⟨_, rfl⟩
  have h1 := h.allocRaw #[.int .i64 b.base, .int .i64 b.leader, .bool b.app, .bool b.txn, .bool b.ctl, .int .i64 b.last, .int .i64 b.first, .int .i64 b.maxt, .int .i64 b.prod, .int .i64 b.epoch, .int .i64 b.seq, .slice q l.length cap] 32
  rw [hhb] at h1
  obtain ⟨x0, x1, x2, x3, x4, x5, x6, x7, x8, x9, x10, x11, y0, y1, y2, y3, y4, y5, y6, y7, y8, y9, y10, y11⟩ := raw12 (b := hb) (h1)
  have H := Lib.hid h1
  have HSM := Lib.hid hs
  clear h h1 hk hfw hs hR hl hat hm
  go_enter Try.func8, Try.ntmps8
  go_wp2_with (first
    | (go_at_call 29; clear x0 y0 x1 y1 x2 y2 x3 y3 x4 y4 x5 y5 x6 y6 x7 y7 x8 y8 x9 y9 x10 y10 x11 y11; (with_reducible refine (speaks11 H.out).mono ?_); rintro e_ wn ⟨rfl, K2, hk2, h⟩; have HK2 := Lib.hid (Know.has_trans hk2 HK.out); clear hk2 HK; replace H := Lib.hid h; clear h; obtain ⟨x0, x1, x2, x3, x4, x5, x6, x7, x8, x9, x10, x11, y0, y1, y2, y3, y4, y5, y6, y7, y8, y9, y10, y11⟩ := raw12 (b := hb) (H.out))
    | (go_at_call 31; clear x0 y0 x1 y1 x2 y2 x3 y3 x4 y4 x5 y5 x6 y6 x7 y7 x8 y8 x9 y9 x10 y10 x11 y11; (with_reducible refine (l11_small _ _ _ _ _ _ _ _ _ _ _ l _ _ false HSM.out HFW.out HK2.out H.out).mono ?_); rintro e_ wn ⟨rfl, h⟩; replace H := Lib.hid h; clear h; obtain ⟨x0, x1, x2, x3, x4, x5, x6, x7, x8, x9, x10, x11, y0, y1, y2, y3, y4, y5, y6, y7, y8, y9, y10, y11⟩ := raw12 (b := hb) (H.out)))
  go_ret
  exact ⟨rfl, H.out.below⟩

set_option maxHeartbeats 4000000 in
set_option maxRecDepth 100000 in
theorem bh_bad (b : BatS) (l : List (RecS × Value)) (q : Option Addr) (cap : Nat) (at' m : Int) (hat : 0 ≤ at' ∧ at' < 65536) (hm : 0 ≤ m ∧ m < 4294967296) (hl : l.map (·.1) = b.recs) (hR : b.R) (hfw : FitW l) (hs : smallB (l.map (·.1)) = true) (e : Int) (he : batErr ⟨b.base, b.leader, b.app, b.txn, b.ctl, b.last, b.first, b.maxt, b.prod, b.epoch, b.seq, l.map (·.1)⟩ = e) (h0 : e ≠ 0) {W0 w : World} {K : Know} (hk : K.has (Know.recs (.slice q l.length cap) l)) (h : St W0 w K []) :
    Calls Try.prog 8 #[.agg #[.int .i64 b.base, .int .i64 b.leader, .bool b.app, .bool b.txn, .bool b.ctl, .int .i64 b.last, .int .i64 b.first, .int .i64 b.maxt, .int .i64 b.prod, .int .i64 b.epoch, .int .i64 b.seq, .slice q l.length cap], .int .u16 at', .int .u32 m] w fun en w' => en = .returned (.bool true) ∧ Below W0.heap.size W0 w' := by
  have HK := Lib.hid hk
  have HFW := Lib.hid hfw
  have HMX := Lib.hid (show b.first ≤ 9223372036854775807 by have := hR.2.2.2.1.2; omega)
  have HRB := Lib.hid hR.1
  obtain ⟨hb, hhb⟩ : ∃ b, w.heap.size = b := ⟨_, rfl⟩
  have h1 := h.allocRaw #[.int .i64 b.base, .int .i64 b.leader, .bool b.app, .bool b.txn, .bool b.ctl, .int .i64 b.last, .int .i64 b.first, .int .i64 b.maxt, .int .i64 b.prod, .int .i64 b.epoch, .int .i64 b.seq, .slice q l.length cap] 32
  rw [hhb] at h1
  obtain ⟨x0, x1, x2, x3, x4, x5, x6, x7, x8, x9, x10, x11, y0, y1, y2, y3, y4, y5, y6, y7, y8, y9, y10, y11⟩ := raw12 (b := hb) (h1)
  have H := Lib.hid h1
  have HSM := Lib.hid hs
  have HFT := Lib.hid (FitW.fit hfw hs)
  have HLL := Lib.hid (show l.length ≤ 1000000 by have := smallB_len hs; omega)
  have HE := Lib.hid he
  have gz : (e == 0) = false := by rw [beq_eq_false_iff_ne]; exact h0
  have gz3 : (e != 0) = true := by simp [bne, gz]
  clear h h1 hk hfw hs he h0 hR hl hat hm
  go_enter Try.func8, Try.ntmps8
  go_wp2_with (first
    | (go_at_call 29; clear x0 y0 x1 y1 x2 y2 x3 y3 x4 y4 x5 y5 x6 y6 x7 y7 x8 y8 x9 y9 x10 y10 x11 y11; (with_reducible refine (speaks11 H.out).mono ?_); rintro e_ wn ⟨rfl, K2, hk2, h⟩; have HK2 := Lib.hid (Know.has_trans hk2 HK.out); clear hk2 HK; replace H := Lib.hid h; clear h; obtain ⟨x0, x1, x2, x3, x4, x5, x6, x7, x8, x9, x10, x11, y0, y1, y2, y3, y4, y5, y6, y7, y8, y9, y10, y11⟩ := raw12 (b := hb) (H.out))
    | (go_at_call 31; clear x0 y0 x1 y1 x2 y2 x3 y3 x4 y4 x5 y5 x6 y6 x7 y7 x8 y8 x9 y9 x10 y10 x11 y11; (with_reducible refine (l11_small _ _ _ _ _ _ _ _ _ _ _ l _ _ true HSM.out HFW.out HK2.out H.out).mono ?_); rintro e_ wn ⟨rfl, h⟩; replace H := Lib.hid h; clear h; obtain ⟨x0, x1, x2, x3, x4, x5, x6, x7, x8, x9, x10, x11, y0, y1, y2, y3, y4, y5, y6, y7, y8, y9, y10, y11⟩ := raw12 (b := hb) (H.out))
    | (go_at_call 32; clear x0 y0 x1 y1 x2 y2 x3 y3 x4 y4 x5 y5 x6 y6 x7 y7 x8 y8 x9 y9 x10 y10 x11 y11; (with_reducible refine (ref11_check _ _ _ _ _ _ _ _ _ _ _ l _ _ e HE.out HMX.out HRB.out HFT.out HLL.out HK2.out H.out).mono ?_); rintro e_ wn ⟨rfl, h⟩; replace H := Lib.hid h; clear h; obtain ⟨x0, x1, x2, x3, x4, x5, x6, x7, x8, x9, x10, x11, y0, y1, y2, y3, y4, y5, y6, y7, y8, y9, y10, y11⟩ := raw12 (b := hb) (H.out)))
  go_ret
  exact ⟨rfl, H.out.below⟩

end Go.Proofs.Ytcjgdlfcfcabiaa

/- Layer 11, walked: BatchHarms, any. -/
namespace Go.Proofs.Ytcjgdlfcfcabiaa
open Go.RowKit

theorem batchHarms_any (base leader : Int) (app txn ctl : Bool) (last first maxt prod epoch sq : Int) (l : List (RecS × Value)) (q : Option Addr) (cap : Nat) (at' m : Int) (hat : 0 ≤ at' ∧ at' < 65536) (hm : 0 ≤ m ∧ m < 4294967296) (bb0 : BatS) (hbb : bb0 = ⟨base, leader, app, txn, ctl, last, first, maxt, prod, epoch, sq, l.map (·.1)⟩) (hR : bb0.R) (hfw : FitW l) {W0 w : World} {K : Know} (hk : K.has (Know.recs (.slice q l.length cap) l)) (h : St W0 w K []) :
    Calls Try.prog 8 #[.agg #[.int .i64 base, .int .i64 leader, .bool app, .bool txn, .bool ctl, .int .i64 last, .int .i64 first, .int .i64 maxt, .int .i64 prod, .int .i64 epoch, .int .i64 sq, .slice q l.length cap], .int .u16 at', .int .u32 m] w fun en w' => en = .returned (.bool true) ∧ Below W0.heap.size W0 w' := by
  have hb1 : l.map (·.1) = bb0.recs := by rw [hbb]
  have hb2 : (⟨bb0.base, bb0.leader, bb0.app, bb0.txn, bb0.ctl, bb0.last, bb0.first, bb0.maxt, bb0.prod, bb0.epoch, bb0.seq, l.map (·.1)⟩ : BatS) = bb0 := by rw [hb1]
  have key : Calls Try.prog 8 #[.agg #[.int .i64 bb0.base, .int .i64 bb0.leader, .bool bb0.app, .bool bb0.txn, .bool bb0.ctl, .int .i64 bb0.last, .int .i64 bb0.first, .int .i64 bb0.maxt, .int .i64 bb0.prod, .int .i64 bb0.epoch, .int .i64 bb0.seq, .slice q l.length cap], .int .u16 at', .int .u32 m] w fun en w' => en = .returned (.bool true) ∧ Below W0.heap.size W0 w' := by
    cases hs : smallB (l.map (·.1)) with
    | false => exact bh_long bb0 l q cap at' m hat hm hb1 hR hfw hs hk h
    | true =>
      by_cases he : batErr bb0 = 0
      · exact bh_main bb0 l q cap at' m hat hm hb1 hR hfw hs (by rw [hb2]; exact he) (SmallOk.of hb1.symm hfw hs he hR) hk h
      · exact bh_bad bb0 l q cap at' m hat hm hb1 hR hfw hs (batErr bb0) (by rw [hb2]) he hk h
  subst hbb
  exact key

end Go.Proofs.Ytcjgdlfcfcabiaa

/- Lists of cells. -/
namespace Go.Proofs.Ytcjgdlfcfcabiaa
open Go.RowKit

theorem cells_u8 : Try.prog.cellsOf 5 = 1 := by kernel_rfl
theorem cells_int : Try.prog.cellsOf 3 = 1 := by kernel_rfl
theorem cells_str : Try.prog.cellsOf 9 = 1 := by kernel_rfl
theorem len2 {α : Type} {l : List α} (h : l.length = 2) : ∃ a b, l = [a, b] := by
  match l, h with
  | [a, b], _ => exact ⟨a, b, rfl⟩
theorem len3 {α : Type} {l : List α} (h : l.length = 3) : ∃ a b c, l = [a, b, c] := by
  match l, h with
  | [a, b, c], _ => exact ⟨a, b, c, rfl⟩
theorem len4 {α : Type} {l : List α} (h : l.length = 4) : ∃ a b c d, l = [a, b, c, d] := by
  match l, h with
  | [a, b, c, d], _ => exact ⟨a, b, c, d, rfl⟩

end Go.Proofs.Ytcjgdlfcfcabiaa

/- What arguments are made of, with the reach of each part. -/
namespace Go.Proofs.Ytcjgdlfcfcabiaa
open Go.RowKit
open Go.ChangeShapes Go.WideShapes Go.ChangeAt Go.Deep

/-- No part is beyond all reach. -/
def Light {H : Type} (t : TypeId) (d : DataW H) : Prop := ∀ k ∈ d.weights Try.prog t, k ≤ reachBytes
theorem reach_eq : reachBytes = 140737488351232 := rfl

section
variable {H : Type} {enc : TypeId × Value → H} {w : World} {spare : Nat → Bool} {held : Bool}

theorem light_arg {ts : List TypeId} {ds : List (DataW H)} (h : (DataW.weightsEach Try.prog ts ds).all (· ≤ reachBytes) = true) {j : Nat} {t : TypeId} {d : DataW H} (ht : ts[j]? = some t) (hd : ds[j]? = some d) : Light t d := by
  intro k hk
  have := List.all_eq_true.1 h k (DataW.weights_mem_each ht hd k hk)
  simpa using this

theorem opens_field {t : TypeId} {fs : Array Field} {n N : Nat} {cs : List Value} {y : DataW H × List MemPlace} (ht : Try.prog.underlying t = some (.struct fs)) (h : DataW.trod enc Try.prog w 0 spare held n t cs = some y) (hl : Light t y.1) (hN : ∀ x ∈ y.2, x.block < N) :
    cs.length = Try.prog.cellsOf t ∧ ∃ m, ∀ (i : Nat) (f : Field), fs[i]? = some f → ∃ z, DataW.trod enc Try.prog w 0 spare held m f.type ((cs.drop f.offset).take (Try.prog.cellsOf f.type)) = some z ∧ Light f.type z.1 ∧ ∀ x ∈ z.2, x.block < N := by
  obtain ⟨xs, m, _, rfl, hc, hxl, hg⟩ := DataW.trod_struct ht h
  refine ⟨hc, m, fun i f hf => ?_⟩
  have hi : i < fs.size := (Array.getElem?_eq_some_iff.1 hf).1
  have hx : xs[i]? = some (xs[i]'(by omega)) := List.getElem?_eq_getElem (by omega)
  refine ⟨_, (hg i f hf).trans hx, ?_, fun x hxx => hN x (List.mem_flatMap.2 ⟨_, List.getElem_mem _, hxx⟩)⟩
  intro k hk
  refine hl k ?_
  simp only [DataW.weights, ht]
  exact DataW.weights_mem_each (j := i) (by rw [List.getElem?_map, Array.getElem?_toList, hf]; rfl) (by rw [List.getElem?_map, hx]; rfl) k hk

theorem opens_str {t : TypeId} {n : Nat} {cs : List Value} {y : DataW H × List MemPlace} (ht : Try.prog.underlying t = some .string) (h : DataW.trod enc Try.prog w 0 spare held n t cs = some y) (hl : Light t y.1) : ∃ s : Bs, cs = [.string (bb s)] ∧ s.length ≤ 140737488351232 := by
  obtain ⟨s, e, e2, q⟩ := DataW.trod_string ht h
  refine ⟨s.data.toList, e, ?_⟩
  subst e2
  have := hl s.data.toList.length (by simp [DataW.weights])
  rw [reach_eq] at this
  exact this
theorem opens_i64 {t : TypeId} {n : Nat} {cs : List Value} {y : DataW H × List MemPlace} (ht : Try.prog.underlying t = some (.int .i64)) (h : DataW.trod enc Try.prog w 0 spare held n t cs = some y) : ∃ x : Int, cs = [.int .i64 x] ∧ -9223372036854775808 ≤ x ∧ x < 9223372036854775808 := by
  obtain ⟨x, e, _, q⟩ := DataW.trod_int ht h
  exact ⟨x, e, wf_i64 q⟩
theorem opens_bool {t : TypeId} {n : Nat} {cs : List Value} {y : DataW H × List MemPlace} (ht : Try.prog.underlying t = some .bool) (h : DataW.trod enc Try.prog w 0 spare held n t cs = some y) : ∃ x : Bool, cs = [.bool x] := by
  obtain ⟨x, e, _⟩ := DataW.trod_bool ht h
  exact ⟨x, e⟩

theorem weightsAll_mem' {P : Program} {e : TypeId} : ∀ {l : List (DataW H)} {d : DataW H}, d ∈ l → ∀ k ∈ d.weights P e, k ∈ DataW.weightsAll P e l
  | a :: l, d, hd, k, hk => by
    simp only [DataW.weightsAll, List.mem_append]
    rcases List.mem_cons.1 hd with rfl | hd
    · exact .inl hk
    · exact .inr (weightsAll_mem' hd k hk)

theorem opens_rows {α : Type} {R : World → List Value → α → Prop} {t e : TypeId} {sz N : Nat} (ht : Try.prog.underlying t = some (.slice e)) (hC : Try.prog.cellsOf e = sz) (hsz : 0 < sz)
    (hR : ∀ n cs y, DataW.trod enc Try.prog w 0 spare held n e cs = some y → Light e y.1 → (∀ x ∈ y.2, x.block < N) → ∃ x, R w cs x)
    {fuel : Nat} {cs : List Value} {x : DataW H × List MemPlace} (h : DataW.trod enc Try.prog w 0 spare held fuel t cs = some x) (hl : Light t x.1) (hlt : ∀ y ∈ x.2, y.block < N) (hN : N ≤ w.heap.size) :
    ∃ v l, cs = [v] ∧ RowsOf R (· < N) w v sz l ∧ l.length * Try.prog.bytesOf e ≤ 140737488351232 ∧ l.length ≤ maxLen := by
  rcases open_slice ht h with ⟨rfl, rfl⟩ | ⟨a, len, cap, m, n, D, Pl, rfl, hb, hlc, hm, hmm, hx, hi⟩
  · exact ⟨_, [], rfl, ⟨none, 0, rfl, fun h => absurd h (by simp)⟩, by simp, by simp⟩
  · have hlm : len ≤ m := by rw [hmm]; split <;> omega
    have hp2 : x.2 = MemPlace.row a (m * Try.prog.cellsOf e) ++ (List.range m).flatMap Pl := by rw [hx]
    have hx1 : x.1 = .slice ((List.range len).map D) ((List.range (m - len)).map fun j => D (len + j)) := by rw [hx]
    have hsum : len * Try.prog.bytesOf e ≤ 140737488351232 := by
      have := hl (((List.range len).map D).length * Try.prog.bytesOf e + ((List.range (m - len)).map fun j => D (len + j)).length * Try.prog.bytesOf e) (by rw [hx1]; simp [DataW.weights, ht, Nat.add_mul])
      rw [reach_eq] at this
      simp only [List.length_map, List.length_range] at this
      omega
    have hle : ∀ i, i < len → Light e (D i) := by
      intro i hil k hk
      refine hl k ?_
      rw [hx1]
      simp only [DataW.weights, ht, List.mem_cons, List.mem_append]
      exact .inr (.inl (weightsAll_mem' (List.mem_map.2 ⟨i, List.mem_range.2 hil, rfl⟩) k hk))
    have key : ∀ i, i < len → ∃ y : α, ∃ cs', cs'.length = sz ∧ R w cs' y ∧ (∀ f u, cs'[f]? = some u → w.cell? ((a.add (i * sz)).add f) = some u) := by
      intro i hil
      obtain ⟨cs', hc, htr⟩ := hi i (by omega)
      obtain ⟨_, hcl, hat⟩ := World.cells?_some hc
      obtain ⟨y, hy⟩ := hR n cs' _ htr (hle i hil) (fun z hz => hlt z (by rw [hp2, List.mem_append]; exact .inr (List.mem_flatMap.2 ⟨i, by simp; omega, hz⟩)))
      rw [hC] at hcl hat
      refine ⟨y, cs', hcl, hy, fun f u hu => ?_⟩
      have hf : f < sz := by rw [← hcl]; exact (List.getElem?_eq_some_iff.1 hu).1
      rw [hat f hf, hu]
    obtain ⟨l, hll, hq⟩ := list_of len _ key
    refine ⟨_, l, rfl, ⟨some a, cap, by rw [hll], fun h0 => ?_⟩, by rw [hll]; exact hsum, by omega⟩
    obtain ⟨cs0, h1, h2, h3⟩ := hq 0 h0
    have hc0 : w.cell? a = some (cs0[0]'(by omega)) := by
      have := h3 0 _ (List.getElem?_eq_getElem (by omega))
      simpa [Addr.add] using this
    have hsp : a.spot = none := by
      cases hs : a.spot with
      | none => rfl
      | some s =>
        unfold World.cell? at hc0
        split at hc0 <;> simp_all
    obtain ⟨ab, ao, asp⟩ := a
    simp only at hsp
    subst hsp
    have hlt0 : ab < N := hlt (.cell ab ao) (by
      rw [hp2, List.mem_append]
      left
      simp only [MemPlace.row, List.mem_map, List.mem_range]
      exact ⟨0, by rw [hC]; exact Nat.mul_pos (by omega) hsz, by simp⟩)
    refine ⟨ab, ao, rfl, hlt0, Nat.lt_of_lt_of_le hlt0 hN, fun i hi => ?_⟩
    obtain ⟨cs', g1, g2, g3⟩ := hq i hi
    refine ⟨cs', g1, g2, fun f u hu => ?_⟩
    have := g3 f u hu
    have e1 : ∀ (o q : Nat), (⟨ab, o, none⟩ : Addr).add q = ⟨ab, o + q, none⟩ := by intro o q; unfold Addr.add; split <;> simp_all
    rw [e1, e1, Nat.add_assoc] at this
    exact this
end

/-- Of a row's things, what is said of each, apart. -/
theorem RowsOf.part {α : Type} {R : World → List Value → α → Prop} {Q : α → Prop} {D : Nat → Prop} {w : World} {v : Value} {sz : Nat} {l : List α} (h : RowsOf (fun w cs x => R w cs x ∧ Q x) D w v sz l) : RowsOf R D w v sz l ∧ ∀ x ∈ l, Q x := by
  refine ⟨h.mono (fun _ _ h => h) (fun _ _ h => h.1), fun x hx => ?_⟩
  obtain ⟨i, hi, rfl⟩ := List.mem_iff_getElem.1 hx
  obtain ⟨p, cap, rfl, h⟩ := h
  obtain ⟨b, off, rfl, _, _, hc⟩ := h (by omega)
  obtain ⟨cs, _, h2, _⟩ := hc i hi
  exact h2.2

end Go.Proofs.Ytcjgdlfcfcabiaa

/- The elements of arguments, opened: headers. -/
namespace Go.Proofs.Ytcjgdlfcfcabiaa
open Go.RowKit

open Go.ChangeShapes Go.WideShapes Go.ChangeAt Go.Deep

theorem cells_hdr : Try.prog.cellsOf 96 = 3 := by kernel_rfl
theorem cells_blob : Try.prog.cellsOf 61 = 2 := by kernel_rfl
theorem cells_bool : Try.prog.cellsOf 4 = 1 := by kernel_rfl
section
variable {H : Type} {enc : TypeId × Value → H} {w : World} {spare : Nat → Bool} {held : Bool}
set_option maxRecDepth 100000 in
theorem blob_open : ∀ n a b y, DataW.trod enc Try.prog w 0 spare held n 61 [a, b] = some y → ∃ (nl : Bool) (d : ByteArray), a = .bool nl ∧ b = .string d ∧ d.size ≤ maxLen := by
  intro n a b y h
  obtain ⟨xs, n', _, hx, hl, hxl, hg⟩ := DataW.trod_struct Try.underlying61 h
  have g0 : DataW.trod enc Try.prog w 0 spare held n' 4 (List.take (Try.prog.cellsOf 4) (List.drop 0 [a, b])) = xs[0]? := hg 0 _ rfl
  have g1 : DataW.trod enc Try.prog w 0 spare held n' 9 (List.take (Try.prog.cellsOf 9) (List.drop 1 [a, b])) = xs[1]? := hg 1 _ rfl
  rw [cells_bool] at g0
  rw [cells_str] at g1
  obtain ⟨y0, y1, rfl⟩ := len2 hxl
  obtain ⟨x0, e0, _⟩ := DataW.trod_bool Try.underlying4 g0
  obtain ⟨x1, e1, _, q1⟩ := DataW.trod_string Try.underlying9 g1
  simp at e0 e1
  exact ⟨x0, x1, e0, e1, q1⟩
set_option maxRecDepth 100000 in
theorem rhdr_open {N : Nat} : ∀ n cs y, DataW.trod enc Try.prog w 0 spare held n 96 cs = some y → (∀ x ∈ y.2, x.block < N) → ∃ x : HdrS, RHdr cs x := by
  intro n cs y h _
  obtain ⟨xs, n', _, hx, hl, hxl, hg⟩ := DataW.trod_struct Try.underlying96 h
  rw [cells_hdr] at hl
  obtain ⟨a, b, c, rfl⟩ := len3 hl
  have g0 : DataW.trod enc Try.prog w 0 spare held n' 9 (List.take (Try.prog.cellsOf 9) (List.drop 0 [a, b, c])) = xs[0]? := hg 0 _ rfl
  have g1 : DataW.trod enc Try.prog w 0 spare held n' 61 (List.take (Try.prog.cellsOf 61) (List.drop 1 [a, b, c])) = xs[1]? := hg 1 _ rfl
  rw [cells_str] at g0
  rw [cells_blob] at g1
  obtain ⟨y0, y1, rfl⟩ := len2 hxl
  obtain ⟨x0, e0, _, q0⟩ := DataW.trod_string Try.underlying9 g0
  obtain ⟨nl, d, e1, e2, _⟩ := blob_open _ _ _ _ g1
  simp at e0
  subst e0 e1 e2
  exact ⟨⟨x0.data.toList, ⟨nl, d.data.toList⟩⟩, rfl⟩
end

end Go.Proofs.Ytcjgdlfcfcabiaa

/- The elements of arguments, opened, with their reach: headers. -/
namespace Go.Proofs.Ytcjgdlfcfcabiaa
open Go.RowKit
open Go.ChangeShapes Go.WideShapes Go.ChangeAt Go.Deep

section
variable {H : Type} {enc : TypeId × Value → H} {w : World} {spare : Nat → Bool} {held : Bool}
set_option maxRecDepth 100000 in
theorem blob_opens {N : Nat} : ∀ n cs y, DataW.trod enc Try.prog w 0 spare held n 61 cs = some y → Light 61 y.1 → (∀ x ∈ y.2, x.block < N) → ∃ x : BlobS, cs = [.bool x.null, .string (bb x.data)] ∧ x.data.length ≤ 140737488351232 := by
  intro n cs y h hl hN
  obtain ⟨hc, m, hf⟩ := opens_field Try.underlying61 h hl hN
  rw [cells_blob] at hc
  obtain ⟨a, b, rfl⟩ := len2 hc
  obtain ⟨z0, g0, l0, _⟩ := hf 0 _ rfl
  obtain ⟨z1, g1, l1, _⟩ := hf 1 _ rfl
  have g0 : DataW.trod enc Try.prog w 0 spare held m 4 (List.take (Try.prog.cellsOf 4) (List.drop 0 [a, b])) = some z0 := g0
  have g1 : DataW.trod enc Try.prog w 0 spare held m 9 (List.take (Try.prog.cellsOf 9) (List.drop 1 [a, b])) = some z1 := g1
  rw [cells_bool] at g0
  rw [cells_str] at g1
  obtain ⟨x, e0⟩ := opens_bool Try.underlying4 g0
  obtain ⟨s, e1, hs⟩ := opens_str Try.underlying9 g1 l1
  simp at e0 e1
  subst e0 e1
  exact ⟨⟨x, s⟩, rfl, hs⟩
set_option maxRecDepth 100000 in
theorem rhdr_opens {N : Nat} : ∀ n cs y, DataW.trod enc Try.prog w 0 spare held n 96 cs = some y → Light 96 y.1 → (∀ x ∈ y.2, x.block < N) → ∃ x : HdrS, RHdr cs x ∧ (x.key.length ≤ 140737488351232 ∧ x.val.data.length ≤ 140737488351232) := by
  intro n cs y h hl hN
  obtain ⟨hc, m, hf⟩ := opens_field Try.underlying96 h hl hN
  rw [cells_hdr] at hc
  obtain ⟨a, b, c, rfl⟩ := len3 hc
  obtain ⟨z0, g0, l0, n0⟩ := hf 0 _ rfl
  obtain ⟨z1, g1, l1, n1⟩ := hf 1 _ rfl
  have g0 : DataW.trod enc Try.prog w 0 spare held m 9 (List.take (Try.prog.cellsOf 9) (List.drop 0 [a, b, c])) = some z0 := g0
  have g1 : DataW.trod enc Try.prog w 0 spare held m 61 (List.take (Try.prog.cellsOf 61) (List.drop 1 [a, b, c])) = some z1 := g1
  rw [cells_str] at g0
  rw [cells_blob] at g1
  obtain ⟨s, e0, hs⟩ := opens_str Try.underlying9 g0 l0
  obtain ⟨x, e1, hx⟩ := blob_opens _ _ _ g1 l1 n1
  simp at e0 e1
  obtain ⟨e1, e2⟩ := e1
  subst e0 e1 e2
  exact ⟨⟨s, x⟩, rfl, hs, hx⟩
end

end Go.Proofs.Ytcjgdlfcfcabiaa

/- Contracts: writing a record, by the document. -/
namespace Go.Proofs.Ytcjgdlfcfcabiaa
open Go.RowKit

theorem raw7S {W0 w : World} {K : Know} {L : List Res} {b : Nat} {T : TypeId} {v0 v1 v2 v3 v4 v5 v6 : Value} (h : St W0 w K (.raw b #[v0, v1, v2, v3, v4, v5, v6] T :: L)) :
    (w.cell? ⟨b, 0, none⟩ = some v0 ∧ w.cell? ⟨b, 1, none⟩ = some v1 ∧ w.cell? ⟨b, 2, none⟩ = some v2 ∧ w.cell? ⟨b, 3, none⟩ = some v3 ∧ w.cell? ⟨b, 4, none⟩ = some v4 ∧ w.cell? ⟨b, 5, none⟩ = some v5 ∧ w.cell? ⟨b, 6, none⟩ = some v6) ∧ St W0 w K (.raw b #[v0, v1, v2, v3, v4, v5, v6] T :: L) :=
  ⟨⟨h.rawCell 0, h.rawCell 1, h.rawCell 2, h.rawCell 3, h.rawCell 4, h.rawCell 5, h.rawCell 6⟩, h⟩
theorem conv_zero {W0 w : World} {K : Know} {L : List Res} {b : Nat} {T : TypeId} (h : St W0 w K (.raw b #[.int .u8 0] T :: L)) :
    (convert 36 9 (.slice (some ⟨b, 0, none⟩) 1 1)).run Try.prog w = .ok (.string ⟨#[0]⟩) w := by
  refine run_convert_bytes_back (P := Try.prog) w 36 9 5 ⟨b, 0, none⟩ 1 [0] Try.underlying36 Try.underlying5 Try.underlying9 (fun j hj => ?_)
  have hj : j = 0 := by simp at hj; exact hj
  subst hj
  exact h.rawCell 0
end Go.Proofs.Ytcjgdlfcfcabiaa

/- Layer 7, walked: RecordEncodes. -/
namespace Go.Proofs.Ytcjgdlfcfcabiaa
open Go.RowKit

end Go.Proofs.Ytcjgdlfcfcabiaa

/- The elements of arguments, opened, with their reach: a record. -/
namespace Go.Proofs.Ytcjgdlfcfcabiaa
open Go.Joins Go.RowKit
open Go.ChangeShapes Go.WideShapes Go.ChangeAt Go.Deep

theorem cells_rec : Try.prog.cellsOf 64 = 7 := by kernel_rfl
theorem cells_hdrs : Try.prog.cellsOf 62 = 1 := by kernel_rfl
section
variable {H : Type} {enc : TypeId × Value → H} {w : World} {spare : Nat → Bool} {held : Bool}
set_option maxHeartbeats 1000000 in
set_option maxRecDepth 100000 in
theorem rec_open {r : Reach} {b0 N : Nat} {v : Value} {d : DataW H} {p : List MemPlace} (hv : Value.okWide Try.prog w r b0 64 v) (h : DataW.Trod enc Try.prog w 0 spare held 64 v d p) (hl : Light 64 d) (hN : ∀ x ∈ p, x.block < N) (hNw : N ≤ w.heap.size) :
    ∃ (x : RecS) (v6 : Value), v = .agg #[.int .i64 x.time, .int .i64 x.off, .bool x.key.null, .string (bb x.key.data), .bool x.val.null, .string (bb x.val.data), v6] ∧ x.R ∧ RowsOf (fun _ cs x => RHdr cs x) (· < N) w v6 3 x.hdrs ∧ x.hdrs.length ≤ maxLen ∧ HFit x.hdrs ∧ x.key.data.length ≤ 140737488351232 ∧ x.val.data.length ≤ 140737488351232 := by
  obtain ⟨cs, rfl, hsz⟩ := okWide_struct Try.underlying64 hv
  obtain ⟨l⟩ := cs
  match l, hsz.trans cells_rec with
  | [c0, c1, c2, c3, c4, c5, c6], _ =>
    obtain ⟨fuel, hf⟩ := h
    obtain ⟨hc, m, hg⟩ := opens_field Try.underlying64 hf hl hN
    obtain ⟨z0, g0, l0, n0⟩ := hg 0 _ rfl
    have g0 : DataW.trod enc Try.prog w 0 spare held m 3 (List.take (Try.prog.cellsOf 3) (List.drop 0 [c0, c1, c2, c3, c4, c5, c6])) = some z0 := g0
    rw [cells_int] at g0
    obtain ⟨z1, g1, l1, n1⟩ := hg 1 _ rfl
    have g1 : DataW.trod enc Try.prog w 0 spare held m 3 (List.take (Try.prog.cellsOf 3) (List.drop 1 [c0, c1, c2, c3, c4, c5, c6])) = some z1 := g1
    rw [cells_int] at g1
    obtain ⟨z2, g2, l2, n2⟩ := hg 2 _ rfl
    have g2 : DataW.trod enc Try.prog w 0 spare held m 61 (List.take (Try.prog.cellsOf 61) (List.drop 2 [c0, c1, c2, c3, c4, c5, c6])) = some z2 := g2
    rw [cells_blob] at g2
    obtain ⟨z3, g3, l3, n3⟩ := hg 3 _ rfl
    have g3 : DataW.trod enc Try.prog w 0 spare held m 61 (List.take (Try.prog.cellsOf 61) (List.drop 4 [c0, c1, c2, c3, c4, c5, c6])) = some z3 := g3
    rw [cells_blob] at g3
    obtain ⟨z4, g4, l4, n4⟩ := hg 4 _ rfl
    have g4 : DataW.trod enc Try.prog w 0 spare held m 62 (List.take (Try.prog.cellsOf 62) (List.drop 6 [c0, c1, c2, c3, c4, c5, c6])) = some z4 := g4
    rw [cells_hdrs] at g4
    obtain ⟨x0, e0, r0⟩ := opens_i64 Try.underlying3 g0
    obtain ⟨x1, e1, r1⟩ := opens_i64 Try.underlying3 g1
    obtain ⟨x2, e2, s2⟩ := blob_opens _ _ _ g2 l2 n2
    obtain ⟨x3, e3, s3⟩ := blob_opens _ _ _ g3 l3 n3
    obtain ⟨v6, x4, e4, hr, _, hm⟩ := opens_rows (R := fun w cs x => (fun _ cs x => RHdr cs x) w cs x ∧ (fun x : HdrS => x.key.length ≤ 140737488351232 ∧ x.val.data.length ≤ 140737488351232) x) (N := N) Try.underlying62 cells_hdr (by decide) rhdr_opens g4 l4 n4 hNw
    obtain ⟨hr1, hq⟩ := hr.part
    simp at e0 e1 e2 e3 e4
    obtain ⟨e2a, e2b⟩ := e2
    obtain ⟨e3a, e3b⟩ := e3
    subst e0 e1 e2a e2b e3a e3b e4
    exact ⟨⟨x0, x1, x2, x3, x4⟩, _, rfl, ⟨r0, r1⟩, hr1, hm, hq, s2, s3⟩
end
end Go.Proofs.Ytcjgdlfcfcabiaa

/- Layer 7, walked: RecordRows: what it stands on. -/
namespace Go.Proofs.Ytcjgdlfcfcabiaa
open Go.RowKit

def GoodR (l : List (RecS × Value)) : Prop := ∀ x ∈ l, smallR x.1 = 1 ∧ recOk x.1 = 0
theorem GoodR.nil : GoodR [] := fun _ h => by cases h
theorem GoodR.snoc {l : List (RecS × Value)} {k : Nat} (h : GoodR (l.take k)) (hk : k < l.length) (h1 : smallR l[k].1 = 1) (h2 : recOk l[k].1 = 0) : GoodR (l.take (k + 1)) := by
  intro x hx
  rw [List.take_succ_eq_append_getElem hk] at hx
  rcases List.mem_append.1 hx with hx | hx
  · exact h x hx
  · simp at hx; subst hx; exact ⟨h1, h2⟩
/-- What is known of records that came in. -/
def FitR (l : List (RecS × Value)) : Prop := ∀ x ∈ l, x.1.R ∧ x.1.hdrs.length ≤ 9223372036854775807 ∧ HFit x.1.hdrs ∧ x.1.key.data.length ≤ 140737488351232 ∧ x.1.val.data.length ≤ 140737488351232
theorem smallR_sum {x : RecS} (h : smallR x = 1) : x.sum ≤ 3000 := by
  unfold smallR at h
  split at h
  · cases h
  · unfold smallN at h
    split at h
    · unfold RecS.sum; omega
    · cases h
theorem smallR_one (x : RecS) (h : ¬ smallR x = 1) : smallR x = 0 := by
  unfold smallR at *
  split
  · rfl
  · rename_i h1
    rw [if_neg h1] at h
    unfold smallN at *
    split
    · rename_i h2; rw [if_pos h2] at h; exact absurd rfl h
    · rfl
theorem putRec_ok (o : Bs) (x : RecS) (h : recOk x = 0) : (⟨o, 0⟩ : OutS).putRec x = ⟨o ++ encR x, 0⟩ := by
  unfold OutS.putRec
  rw [if_pos h]
  rfl

end Go.Proofs.Ytcjgdlfcfcabiaa

/- The elements of arguments, opened, with their reach: rows of records. -/
namespace Go.Proofs.Ytcjgdlfcfcabiaa
open Go.Joins Go.RowKit
open Go.ChangeShapes Go.WideShapes Go.ChangeAt Go.Deep

/-- What is known of a record that came in. -/
def QRec (W : World) (x : RecS × Value) : Prop := RowsOf (fun _ cs x => RHdr cs x) (· < W.heap.size) W x.2 3 x.1.hdrs ∧ x.1.R ∧ x.1.hdrs.length ≤ 9223372036854775807 ∧ HFit x.1.hdrs ∧ x.1.key.data.length ≤ 140737488351232 ∧ x.1.val.data.length ≤ 140737488351232
theorem QRec.fit {W : World} {l : List (RecS × Value)} (h : ∀ x ∈ l, QRec W x) : FitR l := fun x hx => (h x hx).2
theorem QRec.start {W : World} {v : Value} {l : List (RecS × Value)} (hr : RowsOf (fun _ cs x => RRec cs x) (· < W.heap.size) W v 7 l) (h : ∀ x ∈ l, QRec W x) : St W W (Know.recs v l) [] := St.start ⟨hr, fun x hx => (h x hx).1⟩
section
variable {H : Type} {enc : TypeId × Value → H} {w : World} {spare : Nat → Bool} {held : Bool}
set_option maxHeartbeats 1000000 in
set_option maxRecDepth 100000 in
theorem rrec_opens : ∀ n cs y, DataW.trod enc Try.prog w 0 spare held n 64 cs = some y → Light 64 y.1 → (∀ x ∈ y.2, x.block < w.heap.size) → ∃ x : RecS × Value, RRec cs x ∧ QRec w x := by
  intro n cs y hf hl hN
  have hNw : w.heap.size ≤ w.heap.size := Nat.le_refl _
  obtain ⟨hc, m, hg⟩ := opens_field Try.underlying64 hf hl hN
  rw [cells_rec] at hc
  match cs, hc with
  | [c0, c1, c2, c3, c4, c5, c6], _ =>
    obtain ⟨z0, g0, l0, n0⟩ := hg 0 _ rfl
    have g0 : DataW.trod enc Try.prog w 0 spare held m 3 (List.take (Try.prog.cellsOf 3) (List.drop 0 [c0, c1, c2, c3, c4, c5, c6])) = some z0 := g0
    rw [cells_int] at g0
    obtain ⟨z1, g1, l1, n1⟩ := hg 1 _ rfl
    have g1 : DataW.trod enc Try.prog w 0 spare held m 3 (List.take (Try.prog.cellsOf 3) (List.drop 1 [c0, c1, c2, c3, c4, c5, c6])) = some z1 := g1
    rw [cells_int] at g1
    obtain ⟨z2, g2, l2, n2⟩ := hg 2 _ rfl
    have g2 : DataW.trod enc Try.prog w 0 spare held m 61 (List.take (Try.prog.cellsOf 61) (List.drop 2 [c0, c1, c2, c3, c4, c5, c6])) = some z2 := g2
    rw [cells_blob] at g2
    obtain ⟨z3, g3, l3, n3⟩ := hg 3 _ rfl
    have g3 : DataW.trod enc Try.prog w 0 spare held m 61 (List.take (Try.prog.cellsOf 61) (List.drop 4 [c0, c1, c2, c3, c4, c5, c6])) = some z3 := g3
    rw [cells_blob] at g3
    obtain ⟨z4, g4, l4, n4⟩ := hg 4 _ rfl
    have g4 : DataW.trod enc Try.prog w 0 spare held m 62 (List.take (Try.prog.cellsOf 62) (List.drop 6 [c0, c1, c2, c3, c4, c5, c6])) = some z4 := g4
    rw [cells_hdrs] at g4
    obtain ⟨x0, e0, r0⟩ := opens_i64 Try.underlying3 g0
    obtain ⟨x1, e1, r1⟩ := opens_i64 Try.underlying3 g1
    obtain ⟨x2, e2, s2⟩ := blob_opens _ _ _ g2 l2 n2
    obtain ⟨x3, e3, s3⟩ := blob_opens _ _ _ g3 l3 n3
    obtain ⟨v6, x4, e4, hr, _, hm⟩ := opens_rows (R := fun w cs x => (fun _ cs x => RHdr cs x) w cs x ∧ (fun x : HdrS => x.key.length ≤ 140737488351232 ∧ x.val.data.length ≤ 140737488351232) x) (N := w.heap.size) Try.underlying62 cells_hdr (by decide) rhdr_opens g4 l4 n4 hNw
    obtain ⟨hr1, hq⟩ := hr.part
    simp at e0 e1 e2 e3 e4
    obtain ⟨e2a, e2b⟩ := e2
    obtain ⟨e3a, e3b⟩ := e3
    subst e0 e1 e2a e2b e3a e3b e4
    have hm2 : x4.length ≤ 9223372036854775807 := hm
    exact ⟨(⟨x0, x1, x2, x3, x4⟩, _), rfl, hr1, ⟨r0, r1⟩, hm2, hq, s2, s3⟩
end
end Go.Proofs.Ytcjgdlfcfcabiaa

/- The elements of arguments, opened, with their reach: a batch. -/
namespace Go.Proofs.Ytcjgdlfcfcabiaa
open Go.Joins Go.RowKit
open Go.ChangeShapes Go.WideShapes Go.ChangeAt Go.Deep

theorem cells_bat : Try.prog.cellsOf 32 = 12 := by kernel_rfl
theorem cells_recs : Try.prog.cellsOf 30 = 1 := by kernel_rfl
section
variable {H : Type} {enc : TypeId × Value → H} {w : World} {spare : Nat → Bool} {held : Bool}
set_option maxHeartbeats 2000000 in
set_option maxRecDepth 100000 in
theorem bat_opens : ∀ n cs y, DataW.trod enc Try.prog w 0 spare held n 32 cs = some y → Light 32 y.1 → (∀ x ∈ y.2, x.block < w.heap.size) →
    ∃ (base leader : Int) (app txn ctl : Bool) (last first maxt prod epoch sq : Int) (l : List (RecS × Value)) (rv : Value), cs = [.int .i64 base, .int .i64 leader, .bool app, .bool txn, .bool ctl, .int .i64 last, .int .i64 first, .int .i64 maxt, .int .i64 prod, .int .i64 epoch, .int .i64 sq, rv] ∧
      BatS.R ⟨base, leader, app, txn, ctl, last, first, maxt, prod, epoch, sq, l.map (·.1)⟩ ∧ RowsOf (fun _ cs x => RRec cs x) (· < w.heap.size) w rv 7 l ∧ (∀ x ∈ l, QRec w x) := by
  intro n cs y hf hl hN
  obtain ⟨hc, m, hg⟩ := opens_field Try.underlying32 hf hl hN
  rw [cells_bat] at hc
  match cs, hc with
  | [c0, c1, c2, c3, c4, c5, c6, c7, c8, c9, c10, c11], _ =>
    obtain ⟨z0, g0, l0, n0⟩ := hg 0 _ rfl
    have g0 : DataW.trod enc Try.prog w 0 spare held m 3 (List.take (Try.prog.cellsOf 3) (List.drop 0 [c0, c1, c2, c3, c4, c5, c6, c7, c8, c9, c10, c11])) = some z0 := g0
    rw [cells_int] at g0
    obtain ⟨z1, g1, l1, n1⟩ := hg 1 _ rfl
    have g1 : DataW.trod enc Try.prog w 0 spare held m 3 (List.take (Try.prog.cellsOf 3) (List.drop 1 [c0, c1, c2, c3, c4, c5, c6, c7, c8, c9, c10, c11])) = some z1 := g1
    rw [cells_int] at g1
    obtain ⟨z2, g2, l2, n2⟩ := hg 2 _ rfl
    have g2 : DataW.trod enc Try.prog w 0 spare held m 4 (List.take (Try.prog.cellsOf 4) (List.drop 2 [c0, c1, c2, c3, c4, c5, c6, c7, c8, c9, c10, c11])) = some z2 := g2
    rw [cells_bool] at g2
    obtain ⟨z3, g3, l3, n3⟩ := hg 3 _ rfl
    have g3 : DataW.trod enc Try.prog w 0 spare held m 4 (List.take (Try.prog.cellsOf 4) (List.drop 3 [c0, c1, c2, c3, c4, c5, c6, c7, c8, c9, c10, c11])) = some z3 := g3
    rw [cells_bool] at g3
    obtain ⟨z4, g4, l4, n4⟩ := hg 4 _ rfl
    have g4 : DataW.trod enc Try.prog w 0 spare held m 4 (List.take (Try.prog.cellsOf 4) (List.drop 4 [c0, c1, c2, c3, c4, c5, c6, c7, c8, c9, c10, c11])) = some z4 := g4
    rw [cells_bool] at g4
    obtain ⟨z5, g5, l5, n5⟩ := hg 5 _ rfl
    have g5 : DataW.trod enc Try.prog w 0 spare held m 3 (List.take (Try.prog.cellsOf 3) (List.drop 5 [c0, c1, c2, c3, c4, c5, c6, c7, c8, c9, c10, c11])) = some z5 := g5
    rw [cells_int] at g5
    obtain ⟨z6, g6, l6, n6⟩ := hg 6 _ rfl
    have g6 : DataW.trod enc Try.prog w 0 spare held m 3 (List.take (Try.prog.cellsOf 3) (List.drop 6 [c0, c1, c2, c3, c4, c5, c6, c7, c8, c9, c10, c11])) = some z6 := g6
    rw [cells_int] at g6
    obtain ⟨z7, g7, l7, n7⟩ := hg 7 _ rfl
    have g7 : DataW.trod enc Try.prog w 0 spare held m 3 (List.take (Try.prog.cellsOf 3) (List.drop 7 [c0, c1, c2, c3, c4, c5, c6, c7, c8, c9, c10, c11])) = some z7 := g7
    rw [cells_int] at g7
    obtain ⟨z8, g8, l8, n8⟩ := hg 8 _ rfl
    have g8 : DataW.trod enc Try.prog w 0 spare held m 3 (List.take (Try.prog.cellsOf 3) (List.drop 8 [c0, c1, c2, c3, c4, c5, c6, c7, c8, c9, c10, c11])) = some z8 := g8
    rw [cells_int] at g8
    obtain ⟨z9, g9, l9, n9⟩ := hg 9 _ rfl
    have g9 : DataW.trod enc Try.prog w 0 spare held m 3 (List.take (Try.prog.cellsOf 3) (List.drop 9 [c0, c1, c2, c3, c4, c5, c6, c7, c8, c9, c10, c11])) = some z9 := g9
    rw [cells_int] at g9
    obtain ⟨z10, g10, l10, n10⟩ := hg 10 _ rfl
    have g10 : DataW.trod enc Try.prog w 0 spare held m 3 (List.take (Try.prog.cellsOf 3) (List.drop 10 [c0, c1, c2, c3, c4, c5, c6, c7, c8, c9, c10, c11])) = some z10 := g10
    rw [cells_int] at g10
    obtain ⟨z11, g11, l11, n11⟩ := hg 11 _ rfl
    have g11 : DataW.trod enc Try.prog w 0 spare held m 30 (List.take (Try.prog.cellsOf 30) (List.drop 11 [c0, c1, c2, c3, c4, c5, c6, c7, c8, c9, c10, c11])) = some z11 := g11
    rw [cells_recs] at g11
    obtain ⟨x0, e0, r0⟩ := opens_i64 Try.underlying3 g0
    obtain ⟨x1, e1, r1⟩ := opens_i64 Try.underlying3 g1
    obtain ⟨x2, e2⟩ := opens_bool Try.underlying4 g2
    obtain ⟨x3, e3⟩ := opens_bool Try.underlying4 g3
    obtain ⟨x4, e4⟩ := opens_bool Try.underlying4 g4
    obtain ⟨x5, e5, r5⟩ := opens_i64 Try.underlying3 g5
    obtain ⟨x6, e6, r6⟩ := opens_i64 Try.underlying3 g6
    obtain ⟨x7, e7, r7⟩ := opens_i64 Try.underlying3 g7
    obtain ⟨x8, e8, r8⟩ := opens_i64 Try.underlying3 g8
    obtain ⟨x9, e9, r9⟩ := opens_i64 Try.underlying3 g9
    obtain ⟨x10, e10, r10⟩ := opens_i64 Try.underlying3 g10
    obtain ⟨v11, x11, e11, hrq, _, _⟩ := opens_rows (R := fun w' cs x => (fun _ cs x => RRec cs x) w' cs x ∧ QRec w x) (N := w.heap.size) Try.underlying30 cells_rec (by decide) rrec_opens g11 l11 n11 (Nat.le_refl _)
    obtain ⟨hr, hq⟩ := hrq.part
    simp at e0 e1 e2 e3 e4 e5 e6 e7 e8 e9 e10 e11
    subst e0 e1 e2 e3 e4 e5 e6 e7 e8 e9 e10 e11
    exact ⟨x0, x1, x2, x3, x4, x5, x6, x7, x8, x9, x10, x11, _, rfl, ⟨r0, r1, r5, r6, r7, r8, r9, r10⟩, hr, hq⟩
set_option maxHeartbeats 2000000 in
set_option maxRecDepth 100000 in
theorem bat_open {r : Reach} {b0 : Nat} {v : Value} {d : DataW H} {p : List MemPlace} (hv : Value.okWide Try.prog w r b0 32 v) (h : DataW.Trod enc Try.prog w 0 spare held 32 v d p) (hl : Light 32 d) (hN : ∀ x ∈ p, x.block < w.heap.size) :
    ∃ (base leader : Int) (app txn ctl : Bool) (last first maxt prod epoch sq : Int) (l : List (RecS × Value)) (q : Option Addr) (cap : Nat), v = .agg #[.int .i64 base, .int .i64 leader, .bool app, .bool txn, .bool ctl, .int .i64 last, .int .i64 first, .int .i64 maxt, .int .i64 prod, .int .i64 epoch, .int .i64 sq, .slice q l.length cap] ∧
      BatS.R ⟨base, leader, app, txn, ctl, last, first, maxt, prod, epoch, sq, l.map (·.1)⟩ ∧ FitW l ∧ St w w (Know.recs (.slice q l.length cap) l) [] := by
  obtain ⟨cs, rfl, hsz⟩ := okWide_struct Try.underlying32 hv
  obtain ⟨fuel, hf⟩ := h
  obtain ⟨base, leader, app, txn, ctl, last, first, maxt, prod, epoch, sq, l, rv, e, hR, hr, hq⟩ := bat_opens _ _ _ hf hl hN
  obtain ⟨c⟩ := cs
  have e : c = _ := e
  subst e
  obtain ⟨q, cap, hrv⟩ : ∃ q cap, rv = .slice q l.length cap := by obtain ⟨p, cap, hv, _⟩ := hr; exact ⟨p, cap, hv⟩
  subst hrv
  exact ⟨_, _, _, _, _, _, _, _, _, _, _, l, q, cap, rfl, hR, fun x hx => (hq x hx).2, QRec.start hr hq⟩
end
end Go.Proofs.Ytcjgdlfcfcabiaa
