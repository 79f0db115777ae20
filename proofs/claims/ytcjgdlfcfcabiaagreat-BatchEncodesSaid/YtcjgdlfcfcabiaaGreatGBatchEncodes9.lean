/- Are two batches one: those that are: the program. -/
import Derived.Test.YtcjgdlfcfcabiaaGreatGBatchEncodes8
import Derived.Test.YtcjgdlfcfcabiaaGreatHdr3
import Derived.Test.YtcjgdlfcfcabiaaGreatGBatchEncodes6
import Derived.Test.YtcjgdlfcfcabiaaGreatGBatchEncodes5
import Derived.Test.YtcjgdlfcfcabiaaGreatGBatchEncodes1
import Derived.Test.YtcjgdlfcfcabiaaGreatRec5
import Derived.Test.YtcjgdlfcfcabiaaGreatGBatchEncodes3
import Derived.Deep.RegionHeld3
import Derived.Deep.DeepCutAuto
/- Batches: which are small. -/
namespace Go.Proofs.YtcjgdlfcfcabiaaGreat
open Go.RowKit

set_option maxHeartbeats 1000000 in
set_option maxRecDepth 100000 in
theorem l11_small (base leader : Int) (app txn ctl : Bool) (last first maxt prod epoch sq : Int) (l : List (RecS × Value)) (q : Option Addr) (cap : Nat) (r : Bool) (hr : smallB (l.map (·.1)) = r) (hfit : FitW l) {W0 w : World} {K : Know} {L : List Res} (hk : K.has (Know.recs (.slice q l.length cap) l)) (h : St W0 w K L) :
    Calls Tryz.prog 7 #[.agg #[.int .i64 base, .int .i64 leader, .bool app, .bool txn, .bool ctl, .int .i64 last, .int .i64 first, .int .i64 maxt, .int .i64 prod, .int .i64 epoch, .int .i64 sq, .slice q l.length cap]] w fun en w' => en = .returned (.int .i64 (if r then 1 else 0)) ∧ St W0 w' K L := by
  have HK := Lib.hid hk
  have HFT := Lib.hid hfit
  have h1 := h.allocRaw #[.int .i64 base, .int .i64 leader, .bool app, .bool txn, .bool ctl, .int .i64 last, .int .i64 first, .int .i64 maxt, .int .i64 prod, .int .i64 epoch, .int .i64 sq, .slice q l.length cap] 24
  obtain ⟨hb, hhb⟩ : ∃ b, w.heap.size = b := ⟨_, rfl⟩
  rw [hhb] at h1
  obtain ⟨x0, x1, x2, x3, x4, x5, x6, x7, x8, x9, x10, x11, y0, y1, y2, y3, y4, y5, y6, y7, y8, y9, y10, y11⟩ := raw12 (b := hb) (h1)
  have H := Lib.hid h1
  clear h h1 hk hfit
  unfold smallB at hr
  rw [List.length_map] at hr
  by_cases hl : 12 < l.length
  · have dl : decide ((12 : Int) < (l.length : Int)) = true := decide_eq_true (by omega)
    obtain rfl : false = r := by rw [← hr, decide_eq_false (by omega)]; rfl
    clear hr hl
    go_enter Tryz.func7, Tryz.ntmps7
    go_wp2
    go_ret
    exact ⟨rfl, H.out.drop⟩
  have dl : decide ((12 : Int) < (l.length : Int)) = false := decide_eq_false (by omega)
  have hll : (l.length : Int) ≤ 12 := by omega
  rw [decide_eq_true (by omega), Bool.true_and] at hr
  have HR := Lib.hid hr
  clear hr hl
  go_enter Tryz.func7, Tryz.ntmps7
  go_wp2
  clear x0 y0 x1 y1 x2 y2 x3 y3 x4 y4 x5 y5 x6 y6 x7 y7 x8 y8 x9 y9 x10 y10 x11 y11
  go_loopw [4, 6, 14] (fun _ _ iv wr => ∃ k : Nat, k ≤ l.length ∧ iv = .int .i64 k ∧ Hid (rAll ((l.map (·.1)).drop k) = r) ∧ St W0 wr K (.raw hb #[.int .i64 base, .int .i64 leader, .bool app, .bool txn, .bool ctl, .int .i64 last, .int .i64 first, .int .i64 maxt, .int .i64 prod, .int .i64 epoch, .int .i64 sq, .slice q l.length cap] 24 :: L)) (fun _ _ iv _ => l.length - (intOf iv).toNat)
  case atStart => exact ⟨0, Nat.zero_le _, rfl, HR, H.out⟩
  case round =>
    obtain ⟨k, hkl, rfl, HC, hst⟩ := hrel
    clear H
    have H := Lib.hid hst
    clear hst
    by_cases hlt : k < l.length
    · have hd := drop_recs l k hlt _ rfl
      obtain ⟨b, off, hqq⟩ := recs_at HK.out H.out (by omega)
      subst hqq
      obtain ⟨⟨x, vx⟩, hx⟩ : ∃ x, l[k] = x := ⟨_, rfl⟩
      have cc := recs_cell HK.out H.out k hlt (x, vx) hx
      have hmem : (x, vx) ∈ l := hx ▸ List.getElem_mem hlt
      have xf : x.R ∧ x.hdrs.length ≤ 9223372036854775807 ∧ HFit x.hdrs ∧ x.key.data.length ≤ 140737488351232 ∧ x.val.data.length ≤ 140737488351232 := HFT.out (x, vx) hmem
      have xk : K.has (Know.flat RHdr vx 3 x.hdrs) := recs_hdrs HK.out hmem
      obtain ⟨qx, capx, hvx⟩ := flat_form xk H.out
      subst hvx
      simp only at cc
      obtain ⟨c0, c1, c2, c3, c4, c5, c6⟩ := cc
      rw [← Nat.add_assoc] at c1 c2 c3 c4 c5 c6
      have hx1 : l[k].1 = x := by rw [hx]
      have XF := Lib.hid xf
      have XK := Lib.hid xk
      have HX := Lib.hid hx1
      clear xf xk hx1 hx hmem
      obtain ⟨wE, hwE⟩ : ∃ b, wr.heap.size = b := ⟨_, rfl⟩
      have hki : (k : Int) < (l.length : Int) := by omega
      have h := H.out.allocRaw #[.int .i64 x.time, .int .i64 x.off, .bool x.key.null, .string (bb x.key.data), .bool x.val.null, .string (bb x.val.data), .slice qx x.hdrs.length capx] 45
      rw [hwE] at h
      clear H
      have H := Lib.hid h
      clear h
      rw [HX.out] at hd
      have hc := HC.out
      rw [hd] at hc
      have hc : (smallRec x && rAll ((l.map (·.1)).drop (k + 1))) = r := hc
      unfold smallRec at hc
      obtain ⟨ec0, ec1, ec2, ec3, ec4, ec5, ec6, ef0, ef1, ef2, ef3, ef4, ef5, ef6⟩ := raw7 (b := wE) (H.out)
      have xf2 := XF.out
      obtain ⟨_, hxl, _, hkl2, hvl2⟩ := xf2
      have ws : wrap64 ((x.key.data.length : Int) + (x.val.data.length : Int)) = (x.key.data.length : Int) + (x.val.data.length : Int) := by unfold wrap64; omega
      clear hd hxl hkl2 hvl2
      by_cases c1 : 100 < x.key.data.length + x.val.data.length
      · have d1 : decide ((100 : Int) < (x.key.data.length : Int) + (x.val.data.length : Int)) = true := decide_eq_true (by omega)
        have hfin : false = r := by rw [← hc, decide_eq_false (by omega)]; rfl
        clear hc c1
        obtain rfl : false = r := hfin
        go_wp2
        go_ret
        exact ⟨rfl, H.out.drop.drop⟩
      have d1 : decide ((100 : Int) < (x.key.data.length : Int) + (x.val.data.length : Int)) = false := decide_eq_false (by omega)
      rw [decide_eq_true (by omega), Bool.true_and] at hc
      by_cases c2 : 6 < x.hdrs.length
      · have d2 : decide ((6 : Int) < (x.hdrs.length : Int)) = true := decide_eq_true (by omega)
        have hfin : false = r := by rw [← hc, decide_eq_false (by omega)]; rfl
        clear hc c1 c2
        obtain rfl : false = r := hfin
        go_wp2
        go_ret
        exact ⟨rfl, H.out.drop.drop⟩
      have d2 : decide ((6 : Int) < (x.hdrs.length : Int)) = false := decide_eq_false (by omega)
      rw [decide_eq_true (by omega), Bool.true_and] at hc
      have hh6 : (x.hdrs.length : Int) ≤ 6 := by omega
      have HC1 := Lib.hid hc
      clear hc c1 c2
      go_wp2
      clear ec0 ef0 ec1 ef1 ec2 ef2 ec3 ef3 ec4 ef4 ec5 ef5 ec6 ef6 c0 c3 c4 c5 c6
      go_loopw [6, 37] (fun _ iv wr => ∃ j : Nat, j ≤ x.hdrs.length ∧ iv = .int .i64 j ∧ Hid ((hAll (x.hdrs.drop j) && rAll ((l.map (·.1)).drop (k + 1))) = r) ∧ St W0 wr K (.raw wE #[.int .i64 x.time, .int .i64 x.off, .bool x.key.null, .string (bb x.key.data), .bool x.val.null, .string (bb x.val.data), .slice qx x.hdrs.length capx] 45 :: .raw hb #[.int .i64 base, .int .i64 leader, .bool app, .bool txn, .bool ctl, .int .i64 last, .int .i64 first, .int .i64 maxt, .int .i64 prod, .int .i64 epoch, .int .i64 sq, .slice (some ⟨b, off, none⟩) l.length cap] 24 :: L)) (fun _ iv _ => x.hdrs.length - (intOf iv).toNat)
      case atStart => exact ⟨0, Nat.zero_le _, rfl, HC1, H.out⟩
      case round =>
        obtain ⟨j, hjl, rfl, HJ, hst⟩ := hrel
        clear H
        have H := Lib.hid hst
        clear hst
        by_cases hjt : j < x.hdrs.length
        · obtain ⟨bh, oh, hqh, g0, g1, g2⟩ := hdr_cells XK.out H.out j hjt
          subst hqh
          have hhf := XF.out.2.2.1 _ (List.getElem_mem hjt)
          obtain ⟨⟨hk, ⟨hu, hv⟩⟩, hx⟩ : ∃ y, x.hdrs[j] = y := ⟨_, rfl⟩
          have hj := HJ.out
          rw [drop_hdrs _ _ hjt] at hj
          rw [hx] at g0 g1 g2 hhf hj
          have hj : ((decide (hk.length + hv.length ≤ 100) && hAll (x.hdrs.drop (j + 1))) && rAll ((l.map (·.1)).drop (k + 1))) = r := hj
          simp only at g0 g1 g2 hhf
          obtain ⟨b1, b2⟩ := hhf
          have hji : (j : Int) < (x.hdrs.length : Int) := by omega
          have ws2 : wrap64 ((hk.length : Int) + (hv.length : Int)) = (hk.length : Int) + (hv.length : Int) := by unfold wrap64; omega
          clear b1 b2
          have h := H.out.allocRaw #[.string (bb hk), .bool hu, .string (bb hv)] 59
          obtain ⟨wH, hwH⟩ : ∃ b, wr.heap.size = b := ⟨_, rfl⟩
          rw [hwH] at h
          have u0 := h.rawCell 0; have u1 := h.rawCell 1; have u2 := h.rawCell 2
          simp at u0 u1 u2
          clear H
          have H := Lib.hid h
          clear h hx
          by_cases c1 : 100 < hk.length + hv.length
          · have d1 : decide ((100 : Int) < (hk.length : Int) + (hv.length : Int)) = true := decide_eq_true (by omega)
            have hfin : false = r := by rw [← hj, decide_eq_false (by omega)]; rfl
            clear hj c1
            obtain rfl : false = r := hfin
            go_wp2
            go_ret
            exact ⟨rfl, H.out.drop.drop.drop⟩
          · have d1 : decide ((100 : Int) < (hk.length : Int) + (hv.length : Int)) = false := decide_eq_false (by omega)
            rw [decide_eq_true (by omega), Bool.true_and] at hj
            have HJ2 := Lib.hid hj
            clear hj c1
            go_wp2
            go_roundw
            case rel => exact ⟨j + 1, hjt, by go_num, HJ2, H.out.drop⟩
            case measure => first | (simp [intOf]; done) | (simp [intOf]; omega)
        · obtain rfl : x.hdrs.length = j := by omega
          have hj := HJ.out
          rw [List.drop_of_length_le (Nat.le_refl _)] at hj
          have HC2 := Lib.hid (show rAll ((l.map (·.1)).drop (k + 1)) = r from hj)
          clear hj
          go_wp2
          go_roundw
          case rel => exact ⟨k + 1, hlt, by go_num, HC2, H.out.drop⟩
          case measure => first | (simp [intOf]; done) | (simp [intOf]; omega)
    · obtain rfl : l.length = k := by omega
      have hc := HC.out
      rw [List.drop_of_length_le (by simp)] at hc
      obtain rfl : true = r := hc
      go_wp2
      go_ret
      exact ⟨rfl, H.out.drop⟩

end Go.Proofs.YtcjgdlfcfcabiaaGreat

/- Batches: there and back, small ones (pure). -/
namespace Go.Proofs.YtcjgdlfcfcabiaaGreat
open Go.RowKit

theorem encR_small (x : RecS) (hx : x.R) (hs : x.sum ≤ 1000) : (encR x).length ≤ 33000 := by
  have h1 := recF_le x hx (by omega)
  have h2 := encV_le ⟨false, recF x⟩ (by simp only; omega)
  simp only at h2
  unfold encR
  omega
theorem rows_small : ∀ (l : List RecS) (n : Nat), (∀ x ∈ l, (encR x).length ≤ n) → (l.flatMap encR).length ≤ n * l.length
  | [], _, _ => by simp
  | x :: t, n, h => by
    rw [List.flatMap_cons, List.length_append, List.length_cons, Nat.mul_succ]
    have h1 := rows_small t n (fun y hy => h y (by simp [hy]))
    have h2 := h x (by simp)
    omega
theorem encAll_rows : ∀ (l : List (RecS × Value)), encAll l = (l.map (·.1)).flatMap encR
  | [] => rfl
  | x :: t => by
    have := encAll_rows t
    unfold encAll at *
    rw [List.flatMap_cons, List.map_cons, List.flatMap_cons, this]
/-- What a batch that may be, small, is to its bytes. -/
structure SmallOk (b : BatS) : Prop where
  fit : ∀ x ∈ b.recs, x.R ∧ recOk x = 0 ∧ x.sum ≤ 1000
  len : b.recs.length ≤ 12
  err : batErr b = 0
  rng : b.R
theorem SmallOk.rows {b : BatS} (h : SmallOk b) : b.rowsB.length ≤ 400000 := by
  have := rows_small b.recs 33000 (fun x hx => encR_small x (h.fit x hx).1 (h.fit x hx).2.2)
  have h2 := h.len
  unfold BatS.rowsB
  omega
theorem SmallOk.recs {b : BatS} (h : SmallOk b) : ∀ x ∈ b.recs, x.R ∧ recOk x = 0 ∧ x.sum ≤ 1000000 := fun x hx => ⟨(h.fit x hx).1, (h.fit x hx).2.1, by have := (h.fit x hx).2.2; omega⟩
theorem SmallOk.back {b : BatS} (h : SmallOk b) (t : Bs) : reBat (b.enc ++ t) = .ok (b, b.enc.length) :=
  reBat_back h.err h.rng h.recs (by have := h.rows; omega) (by have := h.len; omega) t
theorem BatS.enc_len (b : BatS) : b.enc.length = 61 + b.rowsB.length := by unfold BatS.enc; rw [List.length_append, items_len]
theorem SmallOk.elen {b : BatS} (h : SmallOk b) : b.enc.length ≤ 401000 := by rw [b.enc_len]; have := h.rows; omega
theorem SmallOk.of {b : BatS} {l : List (RecS × Value)} (hl : b.recs = l.map (·.1)) (hw : FitW l) (hs : smallB (l.map (·.1)) = true) (he : batErr b = 0) (hR : b.R) : SmallOk b where
  fit := by
    intro x hx
    rw [hl] at hx
    have hf := hw.fit hs
    obtain ⟨y, hy, rfl⟩ := List.mem_map.1 hx
    have hr := recsC_ok _ (batErr_zero he).2.2.2
    have hss := hs
    unfold smallB at hss
    simp only [Bool.and_eq_true] at hss
    exact ⟨(hf y hy).1, hr y.1 (by rw [hl]; exact hx), smallRec_sum (rAll_mem _ hss.2 y.1 hx)⟩
  len := by rw [hl, List.length_map]; exact smallB_len hs
  err := he
  rng := hR
theorem ints_items {x : PreS} (h : FitsAll x.items) : (⟨[], 0⟩ : OutS).ints x.items = ⟨encInts x.items, 0⟩ := by
  rw [OutS.ints_put _ _ h]
  rfl

end Go.Proofs.YtcjgdlfcfcabiaaGreat

/- Batches harmed (pure). -/
namespace Go.Proofs.YtcjgdlfcfcabiaaGreat
open Go.RowKit

theorem win_eq (s : Bs) (a n m : Nat) (h : a + n ≤ m) : (s.drop a).take n = ((s.take m).drop a).take n := by
  rw [List.drop_take, List.take_take, Nat.min_eq_left (by omega)]
theorem win0_eq (s : Bs) (n m : Nat) (h : n ≤ m) : s.take n = (s.take m).take n := by
  rw [List.take_take, Nat.min_eq_left h]
theorem preX_head {s t : Bs} (h : s.take 21 = t.take 21) : (preX s).2 = (preX t).2 ∧ (preX s).1.len = (preX t).1.len ∧ (preX s).1.sum = (preX t).1.sum := by
  rw [preX_eq, preX_eq]
  refine ⟨?_, ?_, ?_⟩
  · show sInt ((s.drop 16).take 1) = sInt ((t.drop 16).take 1)
    rw [win_eq s 16 1 21 (by decide), win_eq t 16 1 21 (by decide), h]
  · show sInt ((s.drop 8).take 4) = sInt ((t.drop 8).take 4)
    rw [win_eq s 8 4 21 (by decide), win_eq t 8 4 21 (by decide), h]
  · show sInt ((s.drop 17).take 4) % 4294967296 = sInt ((t.drop 17).take 4) % 4294967296
    rw [win_eq s 17 4 21 (by decide), win_eq t 17 4 21 (by decide), h]
theorem SmallOk.preX {b : BatS} (so : SmallOk b) : (Go.Proofs.YtcjgdlfcfcabiaaGreat.preX b.enc).1 = b.pre b.crc ∧ (Go.Proofs.YtcjgdlfcfcabiaaGreat.preX b.enc).2 = 2 ∧ rePre b.enc = .ok (b.pre b.crc) := by
  have hb := so.back []
  rw [List.append_nil] at hb
  obtain ⟨x, hx, _⟩ := reBat_ok hb
  have hrow := so.rows
  have hlen := so.len
  have hcr := b.crc_lt
  have f1 := BatS.fitsAll so.err so.rng b.crc (by omega) (by omega) (by omega)
  have hp := rePre_enc (b.pre b.crc) f1 (show (49 : Int) ≤ 49 + (b.rowsB.length : Int) by omega) (show (0 : Int) ≤ (b.recs.length : Int) by omega) b.rowsB
  have hp : rePre b.enc = .ok (b.pre b.crc) := hp
  obtain ⟨_, h2, h3, _⟩ := rePre_ok hp
  exact ⟨h2, h3, hp⟩
/-- Bytes of a batch that are harmed within 32 bits in a row, behind what isn't summed, are none. -/
theorem harm_pure {b : BatS} (so : SmallOk b) (y : Bs) (hl : y.length = b.enc.length) (ht : y.take 21 = b.enc.take 21) (f : Nat) (ag : ∀ i, (i < f ∨ f + 32 ≤ i) → (bitsOf (b.enc.drop 21)).getD i false = (bitsOf (y.drop 21)).getD i false) (hne : y ≠ b.enc) : batD y = .error 5 ∨ batD y = .error 10 := by
  obtain ⟨p1, p2, p3⟩ := so.preX
  obtain ⟨q1, q2, q3⟩ := preX_head ht
  rw [p1] at q2 q3
  rw [p2] at q1
  have hel := b.enc_len
  have hlen : (Go.Proofs.YtcjgdlfcfcabiaaGreat.preX y).1.len = 49 + (b.rowsB.length : Int) := q2
  have hsum : (Go.Proofs.YtcjgdlfcfcabiaaGreat.preX y).1.sum = (b.crc : Int) := q3
  by_cases hc : (Go.Proofs.YtcjgdlfcfcabiaaGreat.preX y).1.count < 0
  · right
    have hr : rePre y = .error 10 := by
      unfold rePre
      rw [if_neg (by omega), if_pos q1, if_neg (by omega), if_pos hc]
    unfold batD reBat
    rw [hr]
  · left
    have hr : rePre y = .ok (Go.Proofs.YtcjgdlfcfcabiaaGreat.preX y).1 := by
      unfold rePre
      rw [if_neg (by omega), if_pos q1, if_neg (by omega), if_neg hc]
    have hn : ((Go.Proofs.YtcjgdlfcfcabiaaGreat.preX y).1.len - 49).toNat = b.rowsB.length := by rw [hlen]; omega
    have hcat : (y.take 61).drop 21 ++ (y.drop 61).take b.rowsB.length = y.drop 21 := by
      rw [List.drop_take, List.take_of_length_le (l := y.drop 61) (by rw [List.length_drop]; omega)]
      have : y.drop 61 = (y.drop 21).drop 40 := by rw [List.drop_drop]
      rw [this]
      exact List.take_append_drop 40 (y.drop 21)
    have hd : b.enc.drop 21 = b.back ++ b.rowsB := by
      unfold BatS.enc
      rw [List.drop_append_of_le_length (by rw [items_len]; decide), b.pre_drop]
    have ha : asmB (Go.Proofs.YtcjgdlfcfcabiaaGreat.preX y).1 (y.take 61) ((y.drop 61).take b.rowsB.length) = .error 5 := by
      unfold asmB
      rw [hcat, hsum, if_pos]
      intro h5
      have h6 : crcMore 0#32 (b.enc.drop 21) = crcMore 0#32 (y.drop 21) := by
        rw [hd]
        apply BitVec.eq_of_toNat_eq
        have : ((crcMore 0#32 (y.drop 21)).toNat : Int) = ((crcMore 0#32 (b.back ++ b.rowsB)).toNat : Int) := h5
        omega
      have h7 := crc_burst 0#32 (b.enc.drop 21) (y.drop 21) f (by rw [List.length_drop, List.length_drop, hl]) ag h6
      apply hne
      rw [← List.take_append_drop 21 y, ht, ← h7, List.take_append_drop]
    unfold batD reBat
    rw [hr]
    simp only
    rw [hn, if_neg (by omega), ha]
theorem short_pure {b : BatS} (so : SmallOk b) (k : Nat) (hk : k < b.enc.length) : batD (b.enc.take k) = .error 1 := by
  obtain ⟨_, _, p3⟩ := so.preX
  have hl : (b.enc.take k).length = k := by rw [List.length_take]; omega
  unfold batD reBat
  by_cases h61 : k < 61
  · rw [rePre_short (by omega)]
  · have hr : rePre (b.enc.take k) = .ok (b.pre b.crc) := by
      rw [← rePre_take (b.enc.take k) (by omega), List.take_take, Nat.min_eq_left (by omega), rePre_take _ (by have := b.enc_len; omega), p3]
    have hn : ((b.pre b.crc).len - 49).toNat = b.rowsB.length := by show ((49 + (b.rowsB.length : Int)) - 49).toNat = _; omega
    rw [hr]
    simp only
    rw [hn, if_pos (by have := b.enc_len; omega)]
theorem long_pure {b : BatS} (so : SmallOk b) (t : Bs) (ht : 0 < t.length) : batD (b.enc ++ t) = .error 2 := by
  unfold batD
  rw [so.back t]
  simp only
  rw [if_pos (by rw [List.length_append]; omega)]
theorem own_pure {b : BatS} (so : SmallOk b) : batD b.enc = .ok b := by
  have h := so.back []
  rw [List.append_nil] at h
  unfold batD
  rw [h]
  simp only
  rw [if_neg (by omega)]

end Go.Proofs.YtcjgdlfcfcabiaaGreat

/- Batches: encoded, small ones. -/
namespace Go.Proofs.YtcjgdlfcfcabiaaGreat
open Go.RowKit

theorem bat_encode_enc (b : BatS) (l : List (RecS × Value)) (q : Option Addr) (cap : Nat) (hl : l.map (·.1) = b.recs) (so : SmallOk b) {W0 w : World} {K : Know} {L : List Res} (hk : K.has (Know.recs (.slice q l.length cap) l)) (h : St W0 w K L) :
    Calls Tryz.prog 8 #[.agg #[.int .i64 b.base, .int .i64 b.leader, .bool b.app, .bool b.txn, .bool b.ctl, .int .i64 b.last, .int .i64 b.first, .int .i64 b.maxt, .int .i64 b.prod, .int .i64 b.epoch, .int .i64 b.seq, .slice q l.length cap]] w fun en w' => en = .returned (.tuple #[.string (bb b.enc), .int .i64 0]) ∧ St W0 w' K L := by
  have hrow := so.rows
  have hlen := so.len
  have hcr := b.crc_lt
  have hml : l.length = b.recs.length := by rw [← hl, List.length_map]
  have f0 := BatS.fitsAll so.err so.rng 0 (by decide) (by omega) (by omega)
  have f1 := BatS.fitsAll so.err so.rng b.crc (by omega) (by omega) (by omega)
  have r0 := BatS.pre_R so.err so.rng 0 (by decide) (by omega) (by omega)
  have r1 := BatS.pre_R so.err so.rng b.crc (by omega) (by omega) (by omega)
  have hmx : b.first ≤ 9223372036854775807 := by have := so.rng.2.2.2.1.2; omega
  have e0 : b.pre 0 = (⟨b.base, 49 + (b.rowsB.length : Int), b.leader, 0, attrN b.app b.txn b.ctl 3, b.last, b.first, b.maxt, b.prod, b.epoch, b.seq, (l.length : Int)⟩ : PreS) := by unfold BatS.pre; rw [hml]
  have e1 : b.pre b.crc = (⟨b.base, 49 + (b.rowsB.length : Int), b.leader, (b.crc : Int), attrN b.app b.txn b.ctl 3, b.last, b.first, b.maxt, b.prod, b.epoch, b.seq, (l.length : Int)⟩ : PreS) := by unfold BatS.pre; rw [hml]
  have i0 := ints_items f0
  have i1 := ints_items f1
  have hd0 := b.pre_drop 0
  have l0 := items_len (b.pre 0)
  have l1 := items_len (b.pre b.crc)
  have he : batErr ⟨b.base, b.leader, b.app, b.txn, b.ctl, b.last, b.first, b.maxt, b.prod, b.epoch, b.seq, l.map (·.1)⟩ = 0 := by rw [hl]; exact so.err
  have hrc : recsC (l.map (·.1)) = 0 := by rw [hl]; exact (batErr_zero so.err).2.2.2
  have hrw : encAll l = b.rowsB := by rw [encAll_rows, hl]; rfl
  have hfb : FitB l := by
    intro x hx
    obtain ⟨a, c, d⟩ := so.fit x.1 (by rw [← hl]; exact List.mem_map.2 ⟨x, hx, rfl⟩)
    have := hsum_fit x.1.hdrs 1000 (by unfold RecS.sum at d; omega)
    exact ⟨a, fun y hy => by have := this y hy; omega, by omega⟩
  have hall : encInts (b.pre b.crc).items ++ b.rowsB = b.enc := rfl
  have hx : (crcMore 0#32 ((encInts (b.pre 0).items).drop 21 ++ b.rowsB)).toNat = b.crc := by rw [hd0]; rfl
  rw [e0] at r0 i0
  rw [e1] at r1 i1
  obtain ⟨s0, hs0⟩ : ∃ s, encInts (b.pre 0).items = s := ⟨_, rfl⟩
  obtain ⟨s1, hs1⟩ : ∃ s, encInts (b.pre b.crc).items = s := ⟨_, rfl⟩
  have g0 : encInts (⟨b.base, 49 + (b.rowsB.length : Int), b.leader, 0, attrN b.app b.txn b.ctl 3, b.last, b.first, b.maxt, b.prod, b.epoch, b.seq, (l.length : Int)⟩ : PreS).items = s0 := e0 ▸ hs0
  have g1 : encInts (⟨b.base, 49 + (b.rowsB.length : Int), b.leader, (b.crc : Int), attrN b.app b.txn b.ctl 3, b.last, b.first, b.maxt, b.prod, b.epoch, b.seq, (l.length : Int)⟩ : PreS).items = s1 := e1 ▸ hs1
  rw [g0] at i0
  rw [g1] at i1
  rw [hs0] at hx l0
  rw [hs1] at hall l1
  exact bat_encode_ok b.base b.leader b.app b.txn b.ctl b.last b.first b.maxt b.prod b.epoch b.seq l q cap he hmx hfb (by omega) b.rowsB s0 s1 b.enc b.crc (attrN b.app b.txn b.ctl 3) hrc hrw (by omega) rfl r0 r1 i0 i1 l0 l1 hx hall hk h

end Go.Proofs.YtcjgdlfcfcabiaaGreat

/- Batches harmed: bits. -/
namespace Go.Proofs.YtcjgdlfcfcabiaaGreat
open Go.RowKit

theorem flip_bitB (d : UInt8) (r q : Nat) (hr : r < 8) (hq : q ≠ r) : (d ^^^ UInt8.ofNat (2 ^ r)).toNat.testBit q = d.toNat.testBit q := by
  have h2 : (UInt8.ofNat (2 ^ r)).toNat = 2 ^ r := by
    have : 2 ^ r < 2 ^ 8 := Nat.pow_lt_pow_right (by decide) hr
    simp
    omega
  rw [UInt8.toNat_xor, h2, Nat.testBit_xor, Nat.testBit_two_pow_of_ne (fun h => hq h.symm), Bool.xor_false]
/-- Bits that are the same outside of what is harmed, behind what isn't summed. -/
def AgreeB (a b : Bs) (first n : Nat) : Prop := b.take 21 = a.take 21 ∧ ∀ i, (i < first ∨ first + n ≤ i) → (bitsOf (a.drop 21)).getD i false = (bitsOf (b.drop 21)).getD i false
theorem AgreeB.refl (a : Bs) (f : Nat) : AgreeB a a f 0 := ⟨rfl, fun _ _ => rfl⟩
theorem AgreeB.step {a b : Bs} {f n : Nat} (h : AgreeB a b f n) : AgreeB a b f (n + 1) := ⟨h.1, fun i hi => h.2 i (by omega)⟩
theorem AgreeB.flip {a b : Bs} {f n : Nat} (h : AgreeB a b f n) (c : UInt8) (hk : 21 + (f + n) / 8 < b.length) (hc : ∀ q, q ≠ (f + n) % 8 → c.toNat.testBit q = (b[21 + (f + n) / 8]).toNat.testBit q) : AgreeB a (b.set (21 + (f + n) / 8) c) f (n + 1) := by
  refine ⟨by rw [List.take_set_of_le (by omega)]; exact h.1, fun i hi => ?_⟩
  rw [h.2 i (by omega)]
  have hds : (b.set (21 + (f + n) / 8) c).drop 21 = (b.drop 21).set ((f + n) / 8) c := by
    rw [List.drop_set, if_neg (by omega), Nat.add_sub_cancel_left]
  rw [hds, bitsOf_get, bitsOf_get]
  have hk2 : (f + n) / 8 < (b.drop 21).length := by rw [List.length_drop]; omega
  have hget : (b.drop 21)[(f + n) / 8] = b[21 + (f + n) / 8] := List.getElem_drop ..
  by_cases he : i / 8 = (f + n) / 8
  · have hq : i % 8 ≠ (f + n) % 8 := by omega
    have e1 : ((b.drop 21).set ((f + n) / 8) c).getD (i / 8) 0 = c := by rw [he, List.getD_eq_getElem?_getD, List.getElem?_set_self hk2]; rfl
    have e2 : (b.drop 21).getD (i / 8) 0 = b[21 + (f + n) / 8] := by rw [he, List.getD_eq_getElem?_getD, List.getElem?_eq_getElem hk2, hget]; rfl
    rw [e1, e2, hc _ hq]
  · rw [List.getD_eq_getElem?_getD, List.getD_eq_getElem?_getD, List.getElem?_set_ne (fun h => he h.symm)]
theorem conv_stB {W0 w : World} {K : Know} {L : List Res} (_h : St W0 w K L) (s : Bs) :
    ∃ C cap, s.length ≤ C.size ∧ (∀ j (h : j < s.length), C[j]? = some (.int .u8 (s[j].toNat : Int))) ∧
      (convert 9 91 (.string (bb s))).run Tryz.prog w = .ok (.slice (some ⟨w.heap.size, 0, none⟩) s.length cap) (w.drew.alloc (.cells C 5 (C.size, C.size + 1))) := conv_bytes' w s
theorem bat_encode_encE (b : BatS) (s : Bs) (hs : b.enc = s) (l : List (RecS × Value)) (q : Option Addr) (cap : Nat) (hl : l.map (·.1) = b.recs) (so : SmallOk b) {W0 w : World} {K : Know} {L : List Res} (hk : K.has (Know.recs (.slice q l.length cap) l)) (h : St W0 w K L) :
    Calls Tryz.prog 8 #[.agg #[.int .i64 b.base, .int .i64 b.leader, .bool b.app, .bool b.txn, .bool b.ctl, .int .i64 b.last, .int .i64 b.first, .int .i64 b.maxt, .int .i64 b.prod, .int .i64 b.epoch, .int .i64 b.seq, .slice q l.length cap]] w fun en w' => en = .returned (.tuple #[.string (bb s), .int .i64 0]) ∧ St W0 w' K L := by
  subst hs; exact bat_encode_enc b l q cap hl so hk h

end Go.Proofs.YtcjgdlfcfcabiaaGreat

/- Rows of batches. -/
namespace Go.Proofs.YtcjgdlfcfcabiaaGreat
open Go.RowKit

/-- A batch, and where its records lie. -/
structure BatR where
  b : BatS
  l : List (RecS × Value)
  q : Option Addr
  cap : Nat
def RBat (cs : List Value) (x : BatR) : Prop := cs = [.int .i64 x.b.base, .int .i64 x.b.leader, .bool x.b.app, .bool x.b.txn, .bool x.b.ctl, .int .i64 x.b.last, .int .i64 x.b.first, .int .i64 x.b.maxt, .int .i64 x.b.prod, .int .i64 x.b.epoch, .int .i64 x.b.seq, .slice x.q x.l.length x.cap]
def BatR.Fit (x : BatR) : Prop := x.b.R ∧ FitW x.l ∧ x.l.map (·.1) = x.b.recs
def Know.bats (v : Value) (l : List BatR) : Know := (Know.flat RBat v 12 l).and (Know.all l fun x => Know.recs (.slice x.q x.l.length x.cap) x.l)
theorem bats_flat {K : Know} {v : Value} {l : List BatR} (h : K.has (Know.bats v l)) : K.has (Know.flat RBat v 12 l) := fun w F x => (h w F x).1
theorem bats_recs {K : Know} {v : Value} {l : List BatR} (h : K.has (Know.bats v l)) {x : BatR} (hx : x ∈ l) : K.has (Know.recs (.slice x.q x.l.length x.cap) x.l) := fun w F y => (h w F y).2 x hx
theorem bats_at {W0 w : World} {K : Know} {L : List Res} {q : Option Addr} {n cap : Nat} {l : List BatR} (hk : K.has (Know.bats (.slice q n cap) l)) (h : St W0 w K L) (h0 : 0 < l.length) : ∃ b off, q = some ⟨b, off, none⟩ := by
  obtain ⟨F, hF, _⟩ := h.get
  obtain ⟨q2, cap2, hv, hr⟩ := (bats_flat hk _ _ hF).at
  obtain ⟨b, off, hq, _⟩ := hr h0
  simp at hv
  exact ⟨b, off, hv.1.trans hq⟩
theorem bats_cell {W0 w : World} {K : Know} {L : List Res} {b off n cap : Nat} {l : List BatR} (hk : K.has (Know.bats (.slice (some ⟨b, off, none⟩) n cap) l)) (h : St W0 w K L) (i : Nat) (hi : i < l.length) (x : BatR) (hx : l[i] = x) :
    w.cell? ⟨b, off + i * 12, none⟩ = some (.int .i64 x.b.base) ∧ w.cell? ⟨b, off + i * 12 + 1, none⟩ = some (.int .i64 x.b.leader) ∧ w.cell? ⟨b, off + i * 12 + 2, none⟩ = some (.bool x.b.app) ∧ w.cell? ⟨b, off + i * 12 + 3, none⟩ = some (.bool x.b.txn) ∧ w.cell? ⟨b, off + i * 12 + 4, none⟩ = some (.bool x.b.ctl) ∧ w.cell? ⟨b, off + i * 12 + 5, none⟩ = some (.int .i64 x.b.last) ∧ w.cell? ⟨b, off + i * 12 + 6, none⟩ = some (.int .i64 x.b.first) ∧ w.cell? ⟨b, off + i * 12 + 7, none⟩ = some (.int .i64 x.b.maxt) ∧ w.cell? ⟨b, off + i * 12 + 8, none⟩ = some (.int .i64 x.b.prod) ∧ w.cell? ⟨b, off + i * 12 + 9, none⟩ = some (.int .i64 x.b.epoch) ∧ w.cell? ⟨b, off + i * 12 + 10, none⟩ = some (.int .i64 x.b.seq) ∧ w.cell? ⟨b, off + i * 12 + 11, none⟩ = some (.slice x.q x.l.length x.cap) := by
  subst hx
  obtain ⟨F, hF, _⟩ := h.get
  obtain ⟨q2, cap2, hv, hr⟩ := (bats_flat hk _ _ hF).at
  obtain ⟨b2, off2, hq, hc⟩ := hr (by omega)
  rw [hq] at hv
  simp at hv
  obtain ⟨⟨rfl, rfl⟩, _, _⟩ := hv
  obtain ⟨cs, _, hR, hcs⟩ := hc i hi
  unfold RBat at hR
  subst hR
  refine ⟨?_, ?_, ?_, ?_, ?_, ?_, ?_, ?_, ?_, ?_, ?_, ?_⟩
  · exact hcs 0 _ rfl
  · rw [Nat.add_assoc]; exact hcs 1 _ rfl
  · rw [Nat.add_assoc]; exact hcs 2 _ rfl
  · rw [Nat.add_assoc]; exact hcs 3 _ rfl
  · rw [Nat.add_assoc]; exact hcs 4 _ rfl
  · rw [Nat.add_assoc]; exact hcs 5 _ rfl
  · rw [Nat.add_assoc]; exact hcs 6 _ rfl
  · rw [Nat.add_assoc]; exact hcs 7 _ rfl
  · rw [Nat.add_assoc]; exact hcs 8 _ rfl
  · rw [Nat.add_assoc]; exact hcs 9 _ rfl
  · rw [Nat.add_assoc]; exact hcs 10 _ rfl
  · rw [Nat.add_assoc]; exact hcs 11 _ rfl
theorem fit_of_recs {b : BatS} (so : SmallOk b) {l : List (RecS × Value)} (h : l.map (·.1) = b.recs) : ∀ x ∈ l, x.1.hdrs.length ≤ 9223372036854775807 := by
  intro x hx
  have hm : x.1 ∈ b.recs := h ▸ List.mem_map_of_mem hx
  have := sum_hdrs (so.recs x.1 hm).2.2
  omega
theorem len_of_recs {b : BatS} (so : SmallOk b) {l : List (RecS × Value)} (h : l.map (·.1) = b.recs) : l.length ≤ 1000000 := by
  have h1 := congrArg List.length h
  rw [List.length_map] at h1
  have := so.len
  omega
/-- The error of the first of batches that may not be. -/
def errB : List BatR → Int
  | [] => 0
  | x :: t => if batErr x.b = 0 then errB t else batErr x.b
def encB (l : List BatR) : Bs := l.flatMap fun x => x.b.enc
def allB (l : List BatR) : Bs × Int := if errB l = 0 then (encB l, 0) else ([], errB l)
theorem encB_append (l m : List BatR) : encB (l ++ m) = encB l ++ encB m := List.flatMap_append
theorem encB_one (x : BatR) : encB [x] = x.b.enc := by unfold encB; rw [List.flatMap_cons, List.flatMap_nil, List.append_nil]
theorem encB_cons (x : BatR) (t : List BatR) : encB (x :: t) = x.b.enc ++ encB t := rfl
theorem encB_split (l : List BatR) (k : Nat) : encB l = encB (l.take k) ++ encB (l.drop k) := by rw [← encB_append, List.take_append_drop]
theorem encB_take (l : List BatR) (k : Nat) (h : k < l.length) : encB (l.take (k + 1)) = encB (l.take k) ++ l[k].b.enc := by
  rw [List.take_succ_eq_append_getElem h, encB_append, encB_one]
theorem errB_append (l m : List BatR) (h : errB l = 0) : errB (l ++ m) = errB m := by
  induction l with
  | nil => rfl
  | cons x t ih =>
    have hx : (if batErr x.b = 0 then errB t else batErr x.b) = 0 := h
    show (if batErr x.b = 0 then errB (t ++ m) else batErr x.b) = _
    by_cases h1 : batErr x.b = 0
    · rw [if_pos h1] at hx ⊢; exact ih hx
    · rw [if_neg h1] at hx; exact absurd hx h1
theorem errB_append_ne (l m : List BatR) (h : errB l ≠ 0) : errB (l ++ m) = errB l := by
  induction l with
  | nil => exact absurd rfl h
  | cons x t ih =>
    have hx : (if batErr x.b = 0 then errB t else batErr x.b) ≠ 0 := h
    show (if batErr x.b = 0 then errB (t ++ m) else batErr x.b) = if batErr x.b = 0 then errB t else batErr x.b
    by_cases h1 : batErr x.b = 0
    · rw [if_pos h1] at hx; rw [if_pos h1, if_pos h1]; exact ih hx
    · rw [if_neg h1, if_neg h1]
theorem errB_step (l : List BatR) (k : Nat) (h : k < l.length) (h0 : errB (l.take k) = 0) : errB (l.take (k + 1)) = batErr l[k].b := by
  rw [List.take_succ_eq_append_getElem h, errB_append _ _ h0]
  show (if batErr l[k].b = 0 then 0 else batErr l[k].b) = _
  by_cases h1 : batErr l[k].b = 0
  · rw [if_pos h1, h1]
  · rw [if_neg h1]
theorem errB_step_ne (l : List BatR) (k : Nat) (h : k < l.length) (h0 : errB (l.take k) ≠ 0) : errB (l.take (k + 1)) = errB (l.take k) := by
  rw [List.take_succ_eq_append_getElem h, errB_append_ne _ _ h0]
theorem errB_at (l : List BatR) (k : Nat) (h : k < l.length) (h0 : errB (l.take k) = 0) (h1 : batErr l[k].b ≠ 0) : errB l = batErr l[k].b := by
  have e : errB l = errB (l.take (k + 1) ++ l.drop (k + 1)) := by rw [List.take_append_drop]
  have h2 := errB_step l k h h0
  rw [e, errB_append_ne _ _ (by rw [h2]; exact h1), h2]
theorem errB_mem : ∀ (l : List BatR), errB l = 0 → ∀ x ∈ l, batErr x.b = 0
  | [], _, _, h => by cases h
  | y :: t, hh, x, hx => by
    have hh : (if batErr y.b = 0 then errB t else batErr y.b) = 0 := hh
    by_cases h1 : batErr y.b = 0
    · rw [if_pos h1] at hh
      rcases List.mem_cons.1 hx with rfl | hx
      · exact h1
      · exact errB_mem t hh x hx
    · rw [if_neg h1] at hh; exact absurd hh h1
theorem encB_le : ∀ (l : List BatR), (∀ x ∈ l, x.b.enc.length ≤ 401000) → (encB l).length ≤ 401000 * l.length
  | [], _ => by simp [encB]
  | x :: t, h => by
    have h1 := encB_le t (fun y hy => h y (by simp [hy]))
    have h2 := h x (by simp)
    have e : encB (x :: t) = x.b.enc ++ encB t := rfl
    rw [e, List.length_append, List.length_cons]
    omega
theorem BatR.small {x : BatR} (hf : x.Fit) (hs : smallB (x.l.map (·.1)) = true) (he : batErr x.b = 0) : SmallOk x.b := SmallOk.of hf.2.2.symm hf.2.1 hs he hf.1
/-- Behind the first batches the next one is read. -/
theorem encB_next (l : List BatR) (k : Nat) (h : k < l.length) (so : SmallOk l[k].b) : reBat ((encB l).drop (encB (l.take k)).length) = .ok (l[k].b, l[k].b.enc.length) := by
  have e : encB l = encB (l.take k) ++ (l[k].b.enc ++ encB (l.drop (k + 1))) := by
    rw [← encB_cons, ← List.drop_eq_getElem_cons h]
    exact encB_split l k
  rw [e, List.drop_left]
  exact so.back _
theorem encR_small2 (x : RecS) (hx : x.R) (hs : smallRec x = true) : (encR x).length ≤ 1100 := by
  unfold smallRec at hs
  simp only [Bool.and_eq_true, decide_eq_true_eq] at hs
  obtain ⟨s1, s2, s3⟩ := hs
  have hm := hAll_sum _ s3
  have h0 := hsum_le x.hdrs
  have h1 := encI_le x.time hx.1
  have h2 := encI_le x.off hx.2
  have h3 := encV_le x.key (by omega)
  have h4 := encV_le x.val (by omega)
  have h5 := encHs_le x.hdrs (by omega)
  have h8 := encI_le x.hdrs.length (by omega)
  have h6 : (recF x).length ≤ 1060 := by
    unfold recF encHs
    simp only [List.length_append, List.length_cons, List.length_nil]
    omega
  have h7 := encV_le ⟨false, recF x⟩ (by simp only; omega)
  simp only at h7
  unfold encR
  omega
theorem BatR.elen {x : BatR} (hf : x.Fit) (hs : smallB (x.l.map (·.1)) = true) : x.b.enc.length ≤ 14000 := by
  rw [x.b.enc_len]
  unfold smallB at hs
  simp only [Bool.and_eq_true, decide_eq_true_eq] at hs
  rw [hf.2.2] at hs
  have h1 := rows_small x.b.recs 1100 (fun y hy => encR_small2 y (by
    have hy2 : y ∈ x.l.map (·.1) := hf.2.2 ▸ hy
    obtain ⟨z, hz, rfl⟩ := List.mem_map.1 hy2
    exact (hf.2.1 z hz).1) (rAll_mem _ hs.2 y hy))
  unfold BatS.rowsB
  omega
theorem encB_le2 : ∀ (l : List BatR), (∀ x ∈ l, x.Fit) → (∀ x ∈ l, smallB (x.l.map (·.1)) = true) → (encB l).length ≤ 14000 * l.length
  | [], _, _ => by simp [encB]
  | x :: t, hf, hs => by
    have h1 := encB_le2 t (fun y hy => hf y (by simp [hy])) (fun y hy => hs y (by simp [hy]))
    have h2 := BatR.elen (hf x (by simp)) (hs x (by simp))
    have e : encB (x :: t) = x.b.enc ++ encB t := rfl
    rw [e, List.length_append, List.length_cons]
    omega
theorem encB_take_le (l : List BatR) (k : Nat) : (encB (l.take k)).length ≤ (encB l).length := by
  rw [encB_split l k, List.length_append]
  omega

end Go.Proofs.YtcjgdlfcfcabiaaGreat

/- Are two batches one: pure. -/
namespace Go.Proofs.YtcjgdlfcfcabiaaGreat
open Go.RowKit

theorem batS_ne {a b : BatS} (h : ¬ a = b) {r : Bool} (hr : decide (a = b) = r) : r = false := by rw [← hr]; exact decide_eq_false h
theorem batS_recs (base1 : Int) (leader1 : Int) (app1 : Bool) (txn1 : Bool) (ctl1 : Bool) (last1 : Int) (first1 : Int) (maxt1 : Int) (prod1 : Int) (epoch1 : Int) (seq1 : Int) (base2 : Int) (leader2 : Int) (app2 : Bool) (txn2 : Bool) (ctl2 : Bool) (last2 : Int) (first2 : Int) (maxt2 : Int) (prod2 : Int) (epoch2 : Int) (seq2 : Int) (l1 l2 : List RecS) (h : l1 ≠ l2) : ((⟨base1, leader1, app1, txn1, ctl1, last1, first1, maxt1, prod1, epoch1, seq1, l1⟩ : BatS)) ≠ (⟨base2, leader2, app2, txn2, ctl2, last2, first2, maxt2, prod2, epoch2, seq2, l2⟩ : BatS) := by intro hh; injection hh; contradiction
theorem map_take_succ (l : List (RecS × Value)) (k : Nat) (h : k < l.length) (x : RecS) (hx : l[k].1 = x) : (l.map (·.1)).take (k + 1) = (l.map (·.1)).take k ++ [x] := by
  subst hx
  rw [List.take_succ_eq_append_getElem (by simpa using h)]
  simp
theorem map_ne_of_get (l m : List (RecS × Value)) (k : Nat) (h1 : k < l.length) (h2 : k < m.length) (x y : RecS) (hx : l[k].1 = x) (hy : m[k].1 = y) (h : x ≠ y) : l.map (·.1) ≠ m.map (·.1) := by
  intro hh
  have e1 : (l.map (·.1))[k]? = (m.map (·.1))[k]? := by rw [hh]
  rw [List.getElem?_map, List.getElem?_map, List.getElem?_eq_getElem h1, List.getElem?_eq_getElem h2] at e1
  simp at e1
  exact h (hx ▸ hy ▸ e1)
theorem map_len_ne (l m : List (RecS × Value)) (h : l.length ≠ m.length) : l.map (·.1) ≠ m.map (·.1) := fun hh => h (by have := congrArg List.length hh; simpa using this)

end Go.Proofs.YtcjgdlfcfcabiaaGreat

/- Are two batches one: those that are: the document. -/
namespace Go.Proofs.YtcjgdlfcfcabiaaGreat
open Go.RowKit

set_option maxHeartbeats 4000000 in
set_option maxRecDepth 100000 in
theorem ref11_sameT0 (base : Int) (leader : Int) (app : Bool) (txn : Bool) (ctl : Bool) (last : Int) (first : Int) (maxt : Int) (prod : Int) (epoch : Int) (seq : Int) (l1 l2 : List (RecS × Value)) (q1 q2 : Option Addr) (cap1 cap2 : Nat) (hn : l1.length ≤ 1000000) (hr : l1.map (·.1) = l2.map (·.1)) (hf1 : ∀ x ∈ l1, x.1.hdrs.length ≤ 9223372036854775807) (hf2 : ∀ x ∈ l2, x.1.hdrs.length ≤ 9223372036854775807) {W0 w : World} {K : Know} {L : List Res} (hk1 : K.has (Know.recs (.slice q1 l1.length cap1) l1)) (hk2 : K.has (Know.recs (.slice q2 l2.length cap2) l2)) (h : St W0 w K L) :
    Calls Tryz.prog 13 #[.agg #[.int .i64 base, .int .i64 leader, .bool app, .bool txn, .bool ctl, .int .i64 last, .int .i64 first, .int .i64 maxt, .int .i64 prod, .int .i64 epoch, .int .i64 seq, .slice q1 l1.length cap1], .agg #[.int .i64 base, .int .i64 leader, .bool app, .bool txn, .bool ctl, .int .i64 last, .int .i64 first, .int .i64 maxt, .int .i64 prod, .int .i64 epoch, .int .i64 seq, .slice q2 l2.length cap2]] w fun en w' => en = .returned (.bool true) ∧ St W0 w' K L := by
  obtain ⟨hb, hhb⟩ : ∃ b, w.heap.size = b := ⟨_, rfl⟩
  have h1 := (h.allocRaw #[.int .i64 base, .int .i64 leader, .bool app, .bool txn, .bool ctl, .int .i64 last, .int .i64 first, .int .i64 maxt, .int .i64 prod, .int .i64 epoch, .int .i64 seq, .slice q1 l1.length cap1] 24).allocRaw #[.int .i64 base, .int .i64 leader, .bool app, .bool txn, .bool ctl, .int .i64 last, .int .i64 first, .int .i64 maxt, .int .i64 prod, .int .i64 epoch, .int .i64 seq, .slice q2 l2.length cap2] 24
  rw [World.size_alloc, hhb] at h1
  obtain ⟨hc, hhc⟩ : ∃ b, hb + 1 = b := ⟨_, rfl⟩
  rw [hhc] at h1
  obtain ⟨b0, b1, b2, b3, b4, b5, b6, b7, b8, b9, b10, b11, fb0, fb1, fb2, fb3, fb4, fb5, fb6, fb7, fb8, fb9, fb10, fb11⟩ := raw12 (b := hc) h1
  obtain ⟨a0, a1, a2, a3, a4, a5, a6, a7, a8, a9, a10, a11, fa0, fa1, fa2, fa3, fa4, fa5, fa6, fa7, fa8, fa9, fa10, fa11⟩ := raw12 (b := hb) h1.p1
  have H := Lib.hid h1
  have HK1 := Lib.hid hk1
  have HK2 := Lib.hid hk2
  have hni : (l1.length : Int) ≤ 1000000 := by omega
  have HF1 := Lib.hid hf1
  have HF2 := Lib.hid hf2
  have hlen : l1.length = l2.length := by have := congrArg List.length hr; simpa using this
  have HLEN := Lib.hid hlen
  have HR := Lib.hid hr
  have g1 : ((l1.length : Int) == (l2.length : Int)) = true := by rw [hlen]; exact beq_self_eq_true _
  have g2 : ((l1.length : Int) != (l2.length : Int)) = false := by simp [bne, g1]
  have g3 : (l2.length : Int) = (l1.length : Int) := by omega
  clear h h1 hk1 hk2 hf1 hf2 hr hlen fa0 fb0 fa1 fb1 fa2 fb2 fa3 fb3 fa4 fb4 fa5 fb5 fa6 fb6 fa7 fb7 fa8 fb8 fa9 fb9 fa10 fb10 fa11 fb11
  go_enter Tryz.func13, Tryz.ntmps13
  go_wp2
  clear g1 g2 g3
  clear a0 b0 a1 b1 a2 b2 a3 b3 a4 b4 a5 b5 a6 b6 a7 b7 a8 b8 a9 b9 a10 b10 a11 b11
  go_loopw [5] (fun iv wr => ∃ k : Nat, k ≤ l1.length ∧ iv = .int .i64 k ∧ St W0 wr K (.raw hc #[.int .i64 base, .int .i64 leader, .bool app, .bool txn, .bool ctl, .int .i64 last, .int .i64 first, .int .i64 maxt, .int .i64 prod, .int .i64 epoch, .int .i64 seq, .slice q2 l2.length cap2] 24 :: .raw hb #[.int .i64 base, .int .i64 leader, .bool app, .bool txn, .bool ctl, .int .i64 last, .int .i64 first, .int .i64 maxt, .int .i64 prod, .int .i64 epoch, .int .i64 seq, .slice q1 l1.length cap1] 24 :: L)) (fun iv _ => l1.length - (intOf iv).toNat)
  case atStart => exact ⟨0, Nat.zero_le _, rfl, H.out⟩
  case round =>
    obtain ⟨k, hkl, rfl, hst⟩ := hrel
    clear H
    have H := Lib.hid hst
    clear hst
    have b11 : wr.cell? ⟨hc, 11, none⟩ = some (.slice q2 l2.length cap2) := H.out.rawCell 11
    have a11 : wr.cell? ⟨hb, 11, none⟩ = some (.slice q1 l1.length cap1) := H.out.p1.rawCell 11
    by_cases hlt : k < l1.length
    · have hlt2 : k < l2.length := by have := HLEN.out; omega
      obtain ⟨b1', off1, hqq1⟩ := recs_at HK1.out H.out (by omega)
      subst hqq1
      obtain ⟨⟨x1, v1⟩, hx1⟩ : ∃ x, l1[k] = x := ⟨_, rfl⟩
      have cc1 := recs_cell HK1.out H.out k (by omega) (x1, v1) hx1
      have hmem1 : (x1, v1) ∈ l1 := hx1 ▸ List.getElem_mem _
      have XF1 := Lib.hid (show x1.hdrs.length ≤ 9223372036854775807 from HF1.out (x1, v1) hmem1)
      have XK1 := Lib.hid (show K.has (Know.flat RHdr v1 3 x1.hdrs) from recs_hdrs HK1.out hmem1)
      simp only at cc1
      obtain ⟨c10, c11, c12, c13, c14, c15, c16⟩ := cc1
      rw [← Nat.add_assoc] at c11 c12 c13 c14 c15 c16
      have HX1 := Lib.hid (show l1[k].1 = x1 by rw [hx1])
      have HXX1 := Lib.hid hx1
      clear hmem1 hx1
      obtain ⟨b2', off2, hqq2⟩ := recs_at HK2.out H.out (by omega)
      subst hqq2
      obtain ⟨⟨x2, v2⟩, hx2⟩ : ∃ x, l2[k] = x := ⟨_, rfl⟩
      have cc2 := recs_cell HK2.out H.out k (by omega) (x2, v2) hx2
      have hmem2 : (x2, v2) ∈ l2 := hx2 ▸ List.getElem_mem _
      have XF2 := Lib.hid (show x2.hdrs.length ≤ 9223372036854775807 from HF2.out (x2, v2) hmem2)
      have XK2 := Lib.hid (show K.has (Know.flat RHdr v2 3 x2.hdrs) from recs_hdrs HK2.out hmem2)
      simp only at cc2
      obtain ⟨c20, c21, c22, c23, c24, c25, c26⟩ := cc2
      rw [← Nat.add_assoc] at c21 c22 c23 c24 c25 c26
      have HX2 := Lib.hid (show l2[k].1 = x2 by rw [hx2])
      have HXX2 := Lib.hid hx2
      clear hmem2 hx2
      have hki : (k : Int) < (l1.length : Int) := by omega
      have hki2 : (k : Int) < (l2.length : Int) := by omega
      have hk0 : (0 : Int) ≤ (k : Int) := Int.natCast_nonneg _
      have E1 := Lib.hid (show decide (x1 = x2) = true from decide_eq_true (Decidable.byContradiction fun hne => map_ne_of_get l1 l2 k hlt hlt2 x1 x2 HX1.out HX2.out hne HR.out))
      have hkeep : ∀ w', St W0 w' K (.raw hc #[.int .i64 base, .int .i64 leader, .bool app, .bool txn, .bool ctl, .int .i64 last, .int .i64 first, .int .i64 maxt, .int .i64 prod, .int .i64 epoch, .int .i64 seq, .slice (some ⟨b2', off2, none⟩) l2.length cap2] 24 :: .raw hb #[.int .i64 base, .int .i64 leader, .bool app, .bool txn, .bool ctl, .int .i64 last, .int .i64 first, .int .i64 maxt, .int .i64 prod, .int .i64 epoch, .int .i64 seq, .slice (some ⟨b1', off1, none⟩) l1.length cap1] 24 :: L) → ((w'.cell? ⟨hb, 11, none⟩ = some (.slice (some ⟨b1', off1, none⟩) l1.length cap1)) ∧ (w'.cell? ⟨hc, 11, none⟩ = some (.slice (some ⟨b2', off2, none⟩) l2.length cap2)) ∧ (w'.cell? ⟨b1', off1 + k * 7, none⟩ = some (.int .i64 x1.time) ∧ w'.cell? ⟨b1', off1 + k * 7 + 1, none⟩ = some (.int .i64 x1.off) ∧ w'.cell? ⟨b1', off1 + k * 7 + 2, none⟩ = some (.bool x1.key.null) ∧ w'.cell? ⟨b1', off1 + k * 7 + 3, none⟩ = some (.string (bb x1.key.data)) ∧ w'.cell? ⟨b1', off1 + k * 7 + 4, none⟩ = some (.bool x1.val.null) ∧ w'.cell? ⟨b1', off1 + k * 7 + 5, none⟩ = some (.string (bb x1.val.data)) ∧ w'.cell? ⟨b1', off1 + k * 7 + 6, none⟩ = some (v1)) ∧ (w'.cell? ⟨b2', off2 + k * 7, none⟩ = some (.int .i64 x2.time) ∧ w'.cell? ⟨b2', off2 + k * 7 + 1, none⟩ = some (.int .i64 x2.off) ∧ w'.cell? ⟨b2', off2 + k * 7 + 2, none⟩ = some (.bool x2.key.null) ∧ w'.cell? ⟨b2', off2 + k * 7 + 3, none⟩ = some (.string (bb x2.key.data)) ∧ w'.cell? ⟨b2', off2 + k * 7 + 4, none⟩ = some (.bool x2.val.null) ∧ w'.cell? ⟨b2', off2 + k * 7 + 5, none⟩ = some (.string (bb x2.val.data)) ∧ w'.cell? ⟨b2', off2 + k * 7 + 6, none⟩ = some (v2))) := fun w' hs => by
        have r1 := recs_cell HK1.out hs k hlt (x1, v1) HXX1.out
        have r2 := recs_cell HK2.out hs k hlt2 (x2, v2) HXX2.out
        simp only [← Nat.add_assoc] at r1 r2
        exact ⟨hs.p1.rawCell 11, hs.rawCell 11, r1, r2⟩
      have HKP := Lib.hid hkeep
      clear hkeep HX1 HX2 HXX1 HXX2
      clear hlt2
      go_upto_region 6 with (fail)
      have hs := H.out.drew
      refine wp_region_held_drew (S := fun w' => (w'.cell? ⟨hb, 11, none⟩ = some (.slice (some ⟨b1', off1, none⟩) l1.length cap1)) ∧ (w'.cell? ⟨hc, 11, none⟩ = some (.slice (some ⟨b2', off2, none⟩) l2.length cap2)) ∧ (w'.cell? ⟨b1', off1 + k * 7, none⟩ = some (.int .i64 x1.time) ∧ w'.cell? ⟨b1', off1 + k * 7 + 1, none⟩ = some (.int .i64 x1.off) ∧ w'.cell? ⟨b1', off1 + k * 7 + 2, none⟩ = some (.bool x1.key.null) ∧ w'.cell? ⟨b1', off1 + k * 7 + 3, none⟩ = some (.string (bb x1.key.data)) ∧ w'.cell? ⟨b1', off1 + k * 7 + 4, none⟩ = some (.bool x1.val.null) ∧ w'.cell? ⟨b1', off1 + k * 7 + 5, none⟩ = some (.string (bb x1.val.data)) ∧ w'.cell? ⟨b1', off1 + k * 7 + 6, none⟩ = some (v1)) ∧ (w'.cell? ⟨b2', off2 + k * 7, none⟩ = some (.int .i64 x2.time) ∧ w'.cell? ⟨b2', off2 + k * 7 + 1, none⟩ = some (.int .i64 x2.off) ∧ w'.cell? ⟨b2', off2 + k * 7 + 2, none⟩ = some (.bool x2.key.null) ∧ w'.cell? ⟨b2', off2 + k * 7 + 3, none⟩ = some (.string (bb x2.key.data)) ∧ w'.cell? ⟨b2', off2 + k * 7 + 4, none⟩ = some (.bool x2.val.null) ∧ w'.cell? ⟨b2', off2 + k * 7 + 5, none⟩ = some (.string (bb x2.val.data)) ∧ w'.cell? ⟨b2', off2 + k * 7 + 6, none⟩ = some (v2))) (by kernel_rfl) (HKP.out _ hs) (fun hHeld => ?_)
      refine wpAnyH_take (i := 0) (oi := { dst := some 97, op := Op.fieldAddr 24 (Operand.tmp 2) 11, type := 0, pos := "ref.go:180", after := #[], guard := none }) (v := ?_) rfl (by kernel_rfl) (by kernel_rfl) (by kernel_rfl) (fun _ _ _ h => h) (Or.inl ⟨by rfl, ?_⟩) (by assumption) ?_
      rotate_left
      · intro w hSw; (try dsimp only at hSw); go_simp; try with_reducible rfl
      simp only [Act.put, List.setIfInBounds_toArray, List.set_cons_zero, List.set_cons_succ]
      refine wpAnyH_take (i := 1) (oi := { dst := some 98, op := Op.load 22 (Operand.tmp 97), type := 22, pos := "ref.go:180", after := #[{ on := 0, ground := Ground.data }], guard := none }) (v := ?_) rfl (by kernel_rfl) (by kernel_rfl) (by kernel_rfl) (fun _ _ _ h => h) (Or.inl ⟨by rfl, ?_⟩) (by assumption) ?_
      rotate_left
      · intro w hSw; (try dsimp only at hSw); go_simp; try with_reducible rfl
      simp only [Act.put, List.setIfInBounds_toArray, List.set_cons_zero, List.set_cons_succ]
      refine wpAnyH_take (i := 2) (oi := { dst := some 99, op := Op.move (Operand.tmp 5), type := 3, pos := "ref.go:180", after := #[], guard := none }) (v := ?_) rfl (by kernel_rfl) (by kernel_rfl) (by kernel_rfl) (fun _ _ _ h => h) (Or.inl ⟨by rfl, ?_⟩) (by assumption) ?_
      rotate_left
      · intro w hSw; (try dsimp only at hSw); go_simp; try with_reducible rfl
      simp only [Act.put, List.setIfInBounds_toArray, List.set_cons_zero, List.set_cons_succ]
      refine wpAnyH_take (i := 3) (oi := { dst := some 100, op := Op.indexAddr 22 (Operand.tmp 98) (Operand.tmp 99), type := 0, pos := "ref.go:180", after := #[{ on := 1, ground := Ground.data }, { on := 2, ground := Ground.data }], guard := none }) (v := ?_) rfl (by kernel_rfl) (by kernel_rfl) (by kernel_rfl) (fun _ _ _ h => h) (Or.inl ⟨by rfl, ?_⟩) (by assumption) ?_
      rotate_left
      · intro w hSw; (try dsimp only at hSw); go_simp; try with_reducible rfl
      simp only [Act.put, List.setIfInBounds_toArray, List.set_cons_zero, List.set_cons_succ]
      refine wpAnyH_take (i := 4) (oi := { dst := some 101, op := Op.load 45 (Operand.tmp 100), type := 45, pos := "ref.go:180", after := #[{ on := 3, ground := Ground.data }], guard := none }) (v := ?_) rfl (by kernel_rfl) (by kernel_rfl) (by kernel_rfl) (fun _ _ _ h => h) (Or.inl ⟨by rfl, ?_⟩) (by assumption) ?_
      rotate_left
      · intro w hSw; (try dsimp only at hSw); go_simp; try with_reducible rfl
      simp only [Act.put, List.setIfInBounds_toArray, List.set_cons_zero, List.set_cons_succ]
      refine wpAnyH_take (i := 5) (oi := { dst := some 102, op := Op.fieldAddr 24 (Operand.tmp 3) 11, type := 0, pos := "ref.go:180", after := #[], guard := none }) (v := ?_) rfl (by kernel_rfl) (by kernel_rfl) (by kernel_rfl) (fun _ _ _ h => h) (Or.inl ⟨by rfl, ?_⟩) (by assumption) ?_
      rotate_left
      · intro w hSw; (try dsimp only at hSw); go_simp; try with_reducible rfl
      simp only [Act.put, List.setIfInBounds_toArray, List.set_cons_zero, List.set_cons_succ]
      refine wpAnyH_take (i := 6) (oi := { dst := some 103, op := Op.load 22 (Operand.tmp 102), type := 22, pos := "ref.go:180", after := #[{ on := 5, ground := Ground.data }], guard := none }) (v := ?_) rfl (by kernel_rfl) (by kernel_rfl) (by kernel_rfl) (fun _ _ _ h => h) (Or.inl ⟨by rfl, ?_⟩) (by assumption) ?_
      rotate_left
      · intro w hSw; (try dsimp only at hSw); go_simp; try with_reducible rfl
      simp only [Act.put, List.setIfInBounds_toArray, List.set_cons_zero, List.set_cons_succ]
      refine wpAnyH_take (i := 7) (oi := { dst := some 104, op := Op.move (Operand.tmp 5), type := 3, pos := "ref.go:180", after := #[], guard := none }) (v := ?_) rfl (by kernel_rfl) (by kernel_rfl) (by kernel_rfl) (fun _ _ _ h => h) (Or.inl ⟨by rfl, ?_⟩) (by assumption) ?_
      rotate_left
      · intro w hSw; (try dsimp only at hSw); go_simp; try with_reducible rfl
      simp only [Act.put, List.setIfInBounds_toArray, List.set_cons_zero, List.set_cons_succ]
      refine wpAnyH_take (i := 8) (oi := { dst := some 105, op := Op.indexAddr 22 (Operand.tmp 103) (Operand.tmp 104), type := 0, pos := "ref.go:180", after := #[{ on := 6, ground := Ground.data }, { on := 7, ground := Ground.data }], guard := none }) (v := ?_) rfl (by kernel_rfl) (by kernel_rfl) (by kernel_rfl) (fun _ _ _ h => h) (Or.inl ⟨by rfl, ?_⟩) (by assumption) ?_
      rotate_left
      · intro w hSw; (try dsimp only at hSw); go_simp; try with_reducible rfl
      simp only [Act.put, List.setIfInBounds_toArray, List.set_cons_zero, List.set_cons_succ]
      refine wpAnyH_take (i := 9) (oi := { dst := some 106, op := Op.load 45 (Operand.tmp 105), type := 45, pos := "ref.go:180", after := #[{ on := 8, ground := Ground.data }], guard := none }) (v := ?_) rfl (by kernel_rfl) (by kernel_rfl) (by kernel_rfl) (fun _ _ _ h => h) (Or.inl ⟨by rfl, ?_⟩) (by assumption) ?_
      rotate_left
      · intro w hSw; (try dsimp only at hSw); go_simp; try with_reducible rfl
      simp only [Act.put, List.setIfInBounds_toArray, List.set_cons_zero, List.set_cons_succ]
      refine wpAnyH_ready (rs := [10]) (by kernel_rfl) (by simp) (AllReadyH.cons (o := { dst := some 107, op := Op.call { callee := Callee.value (Operand.func 43), args := #[Operand.tmp 101, Operand.tmp 106], argTypes := #[45, 45] }, type := 4, pos := "ref.go:180", after := #[{ on := 4, ground := Ground.data }, { on := 9, ground := Ground.data }], guard := none }) rfl (fun KK hK => ?_) AllReadyH.nil)
      · go_simp
        go_at_call 43
        with_reducible refine (ref07_sameV x1 x2 v1 v2 true E1.out XF1.out XF2.out XK1.out XK2.out hs).mono ?_
        rintro e wq ⟨rfl, hs⟩
        refine hK.out _ _ (HKP.out _ hs) (fun hHeld => ?_)
        clear hK KK
        try simp only [Act.put, List.setIfInBounds_toArray, List.set_cons_zero, List.set_cons_succ]
        refine wpAnyH_take (i := 11) (oi := { dst := some 108, op := Op.unOp UnOp.not 4 (Operand.tmp 107), type := 4, pos := "ref.go:180", after := #[{ on := 10, ground := Ground.data }], guard := none }) (v := ?_) rfl (by kernel_rfl) (by kernel_rfl) (by kernel_rfl) (fun _ _ _ h => h) (Or.inl ⟨by rfl, ?_⟩) (by assumption) ?_
        rotate_left
        · intro w hSw; (try dsimp only at hSw); go_simp; try with_reducible rfl
        simp only [Act.put, List.setIfInBounds_toArray, List.set_cons_zero, List.set_cons_succ]
        refine wpAnyH_done (by kernel_rfl) ?_ _
        go_wp2_with fail
        go_roundw
        case rel => exact ⟨k + 1, hlt, by go_num, hs⟩
        case measure => first | (simp [intOf]; done) | (simp [intOf]; omega)
    · obtain rfl : k = l1.length := by omega
      go_wp2
      go_ret
      exact ⟨rfl, H.out.drop.drop⟩
theorem ref11_sameT (x : BatS) (l1 l2 : List (RecS × Value)) (q1 q2 : Option Addr) (cap1 cap2 : Nat) (hn : l1.length ≤ 1000000) (hx : l1.map (·.1) = x.recs) (hy : l2.map (·.1) = x.recs) (hf1 : ∀ x ∈ l1, x.1.hdrs.length ≤ 9223372036854775807) (hf2 : ∀ x ∈ l2, x.1.hdrs.length ≤ 9223372036854775807) {W0 w : World} {K : Know} {L : List Res} (hk1 : K.has (Know.recs (.slice q1 l1.length cap1) l1)) (hk2 : K.has (Know.recs (.slice q2 l2.length cap2) l2)) (h : St W0 w K L) :
    Calls Tryz.prog 13 #[.agg #[.int .i64 x.base, .int .i64 x.leader, .bool x.app, .bool x.txn, .bool x.ctl, .int .i64 x.last, .int .i64 x.first, .int .i64 x.maxt, .int .i64 x.prod, .int .i64 x.epoch, .int .i64 x.seq, .slice q1 l1.length cap1], .agg #[.int .i64 x.base, .int .i64 x.leader, .bool x.app, .bool x.txn, .bool x.ctl, .int .i64 x.last, .int .i64 x.first, .int .i64 x.maxt, .int .i64 x.prod, .int .i64 x.epoch, .int .i64 x.seq, .slice q2 l2.length cap2]] w fun en w' => en = .returned (.bool true) ∧ St W0 w' K L :=
  ref11_sameT0 x.base x.leader x.app x.txn x.ctl x.last x.first x.maxt x.prod x.epoch x.seq l1 l2 q1 q2 cap1 cap2 hn (hx.trans hy.symm) hf1 hf2 hk1 hk2 h

end Go.Proofs.YtcjgdlfcfcabiaaGreat

/- Are two batches one: without their records. -/
namespace Go.Proofs.YtcjgdlfcfcabiaaGreat
open Go.RowKit

theorem wpl_take {P : Program} {ops : Array Oper} {Q : Exit → Act → World → Prop} {a : Act} {w : World} {rest : List Oper} {o : Oper} (v : Value) (hw : Region.wanted o (yielded ops a.tmps) = true) (hr : (execOp a.eval o).run P w = .ok (.value v) w) (h : wpList P ops Q rest (a.put o.dst v) w) : wpList P ops Q (o :: rest) a w := by
  unfold wpList
  rw [if_pos hw]
  refine .inl ?_
  unfold Oper.wp
  rw [hr]
  exact h
theorem wpl_skip {P : Program} {ops : Array Oper} {Q : Exit → Act → World → Prop} {a : Act} {w : World} {rest : List Oper} {o : Oper} (hw : Region.wanted o (yielded ops a.tmps) = false) (h : wpList P ops Q rest (a.put o.dst undef) w) : wpList P ops Q (o :: rest) a w := by
  unfold wpList
  rw [if_neg (by rw [hw]; decide)]
  exact h
theorem xload_int (b j : Nat) (n : Int) (w : World) (h : w.cell? ⟨b, j, none⟩ = some (.int .i64 n)) : (execOp (fun _ => Value.pointer (some ⟨b, j, none⟩)) ⟨none, .load 3 (.tmp 0), 3, "", #[], none⟩).run Tryz.prog w = .ok (.value (.int .i64 n)) w := by go_simp
theorem xload_bool (b j : Nat) (n : Bool) (w : World) (h : w.cell? ⟨b, j, none⟩ = some (.bool n)) : (execOp (fun _ => Value.pointer (some ⟨b, j, none⟩)) ⟨none, .load 4 (.tmp 0), 4, "", #[], none⟩).run Tryz.prog w = .ok (.value (.bool n)) w := by go_simp
theorem xload_recs (b j : Nat) (q : Option Addr) (n cap : Nat) (w : World) (h : w.cell? ⟨b, j, none⟩ = some (.slice q n cap)) : (execOp (fun _ => Value.pointer (some ⟨b, j, none⟩)) ⟨none, .load 22 (.tmp 0), 22, "", #[], none⟩).run Tryz.prog w = .ok (.value (.slice q n cap)) w := by go_simp
theorem res_bool {x y : Bool} (w : World) (h : x = y) : (Result.ok (Next.value (Value.bool x)) w : Result Next) = .ok (.value (.bool y)) w := by rw [h]

theorem bat_head0 (base leader : Int) (app txn ctl : Bool) (last first maxt prod epoch sq : Int)  {W0 w : World} {K : Know} {L : List Res} (h : St W0 w K L) :
    Calls Tryz.prog 26 #[.agg #[.int .i64 base, .int .i64 leader, .bool app, .bool txn, .bool ctl, .int .i64 last, .int .i64 first, .int .i64 maxt, .int .i64 prod, .int .i64 epoch, .int .i64 sq, .slice none 0 0], .int .i64 0] w fun en w' => en = .returned (.agg #[.int .i64 base, .int .i64 49, .int .i64 leader, .int .i64 0, .int .i64 (attrN app txn ctl 3), .int .i64 last, .int .i64 first, .int .i64 maxt, .int .i64 prod, .int .i64 epoch, .int .i64 sq, .int .i64 0]) ∧ St W0 w' K L :=
  bat_head base leader app txn ctl last first maxt prod epoch sq [] none 0 0 (by decide) h
set_option maxHeartbeats 2000000 in
set_option maxRecDepth 100000 in
theorem bat_bare (base leader : Int) (app txn ctl : Bool) (last first maxt prod epoch sq : Int)  (rv : Value) {W0 w : World} {K : Know} {L : List Res} (h : St W0 w K L) :
    Calls Tryz.prog 44 #[.agg #[.int .i64 base, .int .i64 leader, .bool app, .bool txn, .bool ctl, .int .i64 last, .int .i64 first, .int .i64 maxt, .int .i64 prod, .int .i64 epoch, .int .i64 sq, rv]] w fun en w' => en = .returned (.agg #[.int .i64 base, .int .i64 49, .int .i64 leader, .int .i64 0, .int .i64 (attrN app txn ctl 3), .int .i64 last, .int .i64 first, .int .i64 maxt, .int .i64 prod, .int .i64 epoch, .int .i64 sq, .int .i64 0]) ∧ St W0 w' K L := by
  have g1 := h.allocRaw #[.int .i64 base, .int .i64 leader, .bool app, .bool txn, .bool ctl, .int .i64 last, .int .i64 first, .int .i64 maxt, .int .i64 prod, .int .i64 epoch, .int .i64 sq, rv] 24
  have g2 := g1.allocRaw #[.int .i64 0, .int .i64 0, .int .i64 0, .int .i64 0, .int .i64 0, .int .i64 0, .int .i64 0, .int .i64 0, .int .i64 0, .int .i64 0, .int .i64 0, .int .i64 0] 62
  obtain ⟨hb, hhb⟩ : ∃ b, w.heap.size = b := ⟨_, rfl⟩
  obtain ⟨rb, hrb⟩ : ∃ b, hb + 1 = b := ⟨_, rfl⟩
  simp only [World.size_alloc, hhb, hrb] at g2
  have g3 := (g2.p1.rawSet 11 (.slice none 0 0)).p1
  have f1 := g2.p1.rawFree 11
  have c1 := (g2.p1.rawCell 11).trans (show _ = some rv from rfl)
  have H := Lib.hid g3
  clear g1 g2 g3 h
  go_enter Tryz.func44, Tryz.ntmps44
  go_upto_region 2 with (fail)
  have h3 : St W0 _ K (.raw hb #[.int .i64 base, .int .i64 leader, .bool app, .bool txn, .bool ctl, .int .i64 last, .int .i64 first, .int .i64 maxt, .int .i64 prod, .int .i64 epoch, .int .i64 sq, .slice none 0 0] 24 :: .raw rb #[.int .i64 0, .int .i64 0, .int .i64 0, .int .i64 0, .int .i64 0, .int .i64 0, .int .i64 0, .int .i64 0, .int .i64 0, .int .i64 0, .int .i64 0, .int .i64 0] 62 :: L) := H.out.p1
  clear H f1 c1
  generalize World.setCell _ _ _ = wx at h3 ⊢
  obtain ⟨x0, x1, x2, x3, x4, x5, x6, x7, x8, x9, x10, x11, y0, y1, y2, y3, y4, y5, y6, y7, y8, y9, y10, y11⟩ := raw12 (b := hb) (h3)
  refine wp_region_list ?_
  refine wpl_take (.agg #[.int .i64 base, .int .i64 leader, .bool app, .bool txn, .bool ctl, .int .i64 last, .int .i64 first, .int .i64 maxt, .int .i64 prod, .int .i64 epoch, .int .i64 sq, .slice none 0 0]) (by kernel_rfl) (by go_simp) ?_
  simp only [Act.put, List.setIfInBounds_toArray, List.set_cons_zero, List.set_cons_succ]
  refine wpList_plain rfl (fun KK hK => ?_)
  go_simp
  go_at_call 26
  clear x0 y0 x1 y1 x2 y2 x3 y3 x4 y4 x5 y5 x6 y6 x7 y7 x8 y8 x9 y9 x10 y10 x11 y11
  with_reducible refine (bat_head0 _ _ _ _ _ _ _ _ _ _ _ h3).mono ?_
  rintro e wq ⟨rfl, hs⟩
  refine hK _ _ ?_
  clear hK KK
  try simp only [Act.put, List.setIfInBounds_toArray, List.set_cons_zero, List.set_cons_succ]
  have hs := hs.p1
  refine wpList_plain rfl (fun KK hK => ?_)
  refine wp_store_mid 62 (.tmp 2) (.tmp 5) rfl rb 0 #[.int .i64 base, .int .i64 49, .int .i64 leader, .int .i64 0, .int .i64 (attrN app txn ctl 3), .int .i64 last, .int .i64 first, .int .i64 maxt, .int .i64 prod, .int .i64 epoch, .int .i64 sq, .int .i64 0] (by rfl) (by rfl) hs.there (by kernel_rfl) (by simp [Value.oneCell']) ?_
  obtain ⟨wz, ez, hs⟩ := hs.storeEx #[.int .i64 base, .int .i64 49, .int .i64 leader, .int .i64 0, .int .i64 (attrN app txn ctl 3), .int .i64 last, .int .i64 first, .int .i64 maxt, .int .i64 prod, .int .i64 epoch, .int .i64 sq, .int .i64 0]
  rw [ez]
  clear ez
  refine hK _ _ ?_
  clear hK KK
  rw [setAll_all] at hs
  rotate_left
  · rfl
  refine wpList_nil ?_
  have hz : St W0 _ K (.raw rb #[.int .i64 base, .int .i64 49, .int .i64 leader, .int .i64 0, .int .i64 (attrN app txn ctl 3), .int .i64 last, .int .i64 first, .int .i64 maxt, .int .i64 prod, .int .i64 epoch, .int .i64 sq, .int .i64 0] 62 :: _) := hs
  go_wp2_with fail
  refine bodyPost_ret (rc_cell_only rfl _ _ rb [.int .i64 base, .int .i64 49, .int .i64 leader, .int .i64 0, .int .i64 (attrN app txn ctl 3), .int .i64 last, .int .i64 first, .int .i64 maxt, .int .i64 prod, .int .i64 epoch, .int .i64 sq, .int .i64 0] _ rfl (rc_range hz) Tryz.underlying62 rfl (by kernel_rfl)) rfl ?_
  exact ⟨rfl, hz.drop.drop⟩

end Go.Proofs.YtcjgdlfcfcabiaaGreat

/- Are two batches one: their records. -/
namespace Go.Proofs.YtcjgdlfcfcabiaaGreat
open Go.RowKit

set_option maxHeartbeats 2000000 in
set_option maxRecDepth 100000 in
theorem sl_eqf (l1 l2 : List (RecS × Value)) (q1 q2 : Option Addr) (cap1 cap2 : Nat) (hn : l1.length ≤ 1000000) (r : Bool) (hr : decide (l1.map (·.1) = l2.map (·.1)) = r) (hf1 : ∀ x ∈ l1, x.1.hdrs.length ≤ 9223372036854775807) (hf2 : ∀ x ∈ l2, x.1.hdrs.length ≤ 9223372036854775807) {W0 w : World} {K : Know} {L : List Res} (hk1 : K.has (Know.recs (.slice q1 l1.length cap1) l1)) (hk2 : K.has (Know.recs (.slice q2 l2.length cap2) l2)) (h : St W0 w K L) :
    Calls Tryz.prog 45 #[.slice q1 l1.length cap1, .slice q2 l2.length cap2, .func (.func 46) #[] #[]] w fun en w' => en = .returned (.bool r) ∧ St W0 w' K L := by
  have H := Lib.hid h
  have HK1 := Lib.hid hk1
  have HK2 := Lib.hid hk2
  have hni : (l1.length : Int) ≤ 1000000 := by omega
  have HF1 := Lib.hid hf1
  have HF2 := Lib.hid hf2
  clear h hk1 hk2 hf1 hf2
  by_cases hlen : l1.length = l2.length
  rotate_left
  · as_aux_lemma =>
    have hr2 : r = false := by rw [← hr]; exact decide_eq_false (map_len_ne _ _ hlen)
    have g1 : ((l1.length : Int) == (l2.length : Int)) = false := by rw [beq_eq_false_iff_ne]; omega
    have g2 : ((l1.length : Int) != (l2.length : Int)) = true := by simp [bne, g1]
    have g3 : ¬ ((l1.length : Int) = (l2.length : Int)) := by omega
    subst hr2
    clear hlen hr
    go_enter Tryz.func45, Tryz.ntmps45
    go_wp2
    go_ret
    exact ⟨rfl, H.out⟩
  have HLEN := Lib.hid hlen
  have HR := Lib.hid hr
  have g1 : ((l1.length : Int) == (l2.length : Int)) = true := by rw [hlen]; exact beq_self_eq_true _
  have g2 : ((l1.length : Int) != (l2.length : Int)) = false := by simp [bne, g1]
  have g3 : (l2.length : Int) = (l1.length : Int) := by omega
  clear hr hlen
  go_enter Tryz.func45, Tryz.ntmps45
  go_wp2
  clear g1 g2 g3
  go_loopw [7, 8, 9, 17] (fun _ _ _ iv wr => ∃ k : Nat, k ≤ l1.length ∧ iv = .int .i64 k ∧ Hid ((l1.map (·.1)).take k = (l2.map (·.1)).take k) ∧ St W0 wr K L) (fun _ _ _ iv _ => l1.length - (intOf iv).toNat)
  case atStart => exact ⟨0, Nat.zero_le _, rfl, Lib.hid (by simp), H.out⟩
  case round =>
    obtain ⟨k, hkl, rfl, heq, hst⟩ := hrel
    clear H
    have H := Lib.hid hst
    clear hst
    by_cases hlt : k < l1.length
    · have hlt2 : k < l2.length := by have := HLEN.out; omega
      obtain ⟨b1', off1, hqq1⟩ := recs_at HK1.out H.out (by omega)
      subst hqq1
      obtain ⟨⟨x1, v1⟩, hx1⟩ : ∃ x, l1[k] = x := ⟨_, rfl⟩
      have cc1 := recs_cell HK1.out H.out k (by omega) (x1, v1) hx1
      have hmem1 : (x1, v1) ∈ l1 := hx1 ▸ List.getElem_mem _
      have XF1 := Lib.hid (show x1.hdrs.length ≤ 9223372036854775807 from HF1.out (x1, v1) hmem1)
      have XK1 := Lib.hid (show K.has (Know.flat RHdr v1 3 x1.hdrs) from recs_hdrs HK1.out hmem1)
      simp only at cc1
      obtain ⟨c10, c11, c12, c13, c14, c15, c16⟩ := cc1
      rw [← Nat.add_assoc] at c11 c12 c13 c14 c15 c16
      have HX1 := Lib.hid (show l1[k].1 = x1 by rw [hx1])
      have HXX1 := Lib.hid hx1
      clear hmem1 hx1
      obtain ⟨qx1, capx1, hv1⟩ := flat_form XK1.out H.out
      subst hv1
      obtain ⟨b2', off2, hqq2⟩ := recs_at HK2.out H.out (by omega)
      subst hqq2
      obtain ⟨⟨x2, v2⟩, hx2⟩ : ∃ x, l2[k] = x := ⟨_, rfl⟩
      have cc2 := recs_cell HK2.out (H.out.allocRaw #[.int .i64 x1.time, .int .i64 x1.off, .bool x1.key.null, .string (bb x1.key.data), .bool x1.val.null, .string (bb x1.val.data), .slice qx1 x1.hdrs.length capx1] 45) k (by omega) (x2, v2) hx2
      have hmem2 : (x2, v2) ∈ l2 := hx2 ▸ List.getElem_mem _
      have XF2 := Lib.hid (show x2.hdrs.length ≤ 9223372036854775807 from HF2.out (x2, v2) hmem2)
      have XK2 := Lib.hid (show K.has (Know.flat RHdr v2 3 x2.hdrs) from recs_hdrs HK2.out hmem2)
      simp only at cc2
      obtain ⟨c20, c21, c22, c23, c24, c25, c26⟩ := cc2
      rw [← Nat.add_assoc] at c21 c22 c23 c24 c25 c26
      have HX2 := Lib.hid (show l2[k].1 = x2 by rw [hx2])
      have HXX2 := Lib.hid hx2
      clear hmem2 hx2
      obtain ⟨qx2, capx2, hv2⟩ := flat_form XK2.out H.out
      subst hv2
      have hki : (k : Int) < (l1.length : Int) := by omega
      have hki2 : (k : Int) < (l2.length : Int) := by omega
      have NX := Lib.hid (show x1 ≠ x2 → l1.map (·.1) ≠ l2.map (·.1) from map_ne_of_get l1 l2 k hlt hlt2 x1 x2 HX1.out HX2.out)
      have NT := Lib.hid (show x1 = x2 → (l1.map (·.1)).take (k + 1) = (l2.map (·.1)).take (k + 1) from fun e => by rw [map_take_succ l1 k hlt x1 HX1.out, map_take_succ l2 k hlt2 x2 HX2.out, heq.out, e])
      obtain ⟨wE, hwE⟩ : ∃ b, wr.heap.size = b := ⟨_, rfl⟩
      obtain ⟨wG, hwG⟩ : ∃ b, wE + 1 = b := ⟨_, rfl⟩
      have h := (H.out.allocRaw #[.int .i64 x1.time, .int .i64 x1.off, .bool x1.key.null, .string (bb x1.key.data), .bool x1.val.null, .string (bb x1.val.data), .slice qx1 x1.hdrs.length capx1] 45).allocRaw #[.int .i64 x2.time, .int .i64 x2.off, .bool x2.key.null, .string (bb x2.key.data), .bool x2.val.null, .string (bb x2.val.data), .slice qx2 x2.hdrs.length capx2] 45
      rw [World.size_alloc, hwE, hwG] at h
      clear H
      have H := Lib.hid h
      clear h HX1 HX2 HXX1 HXX2
      clear hlt2
      obtain ⟨eb0, eb1, eb2, eb3, eb4, eb5, eb6, fb0, fb1, fb2, fb3, fb4, fb5, fb6⟩ := raw7 (b := wG) (H.out)
      obtain ⟨ea0, ea1, ea2, ea3, ea4, ea5, ea6, fa0, fa1, fa2, fa3, fa4, fa5, fa6⟩ := raw7 (b := wE) (H.out.p1)
      by_cases hxy : x1 = x2
      · have E1 := Lib.hid (decide_eq_true hxy)
        have NT2 := Lib.hid (NT.out hxy)
        clear hxy NX NT
        go_wp2_with (go_at_call 46; (with_reducible refine (rec_sameV x1 x2 (.slice qx1 x1.hdrs.length capx1) (.slice qx2 x2.hdrs.length capx2) true E1.out XF1.out XF2.out XK1.out XK2.out H.out).mono ?_); rintro e_ wn ⟨rfl, h⟩; replace H := Lib.hid h; clear h)
        go_roundw
        case rel => exact ⟨k + 1, hlt, by go_num, NT2, H.out.drop.drop⟩
        case measure => first | (simp [intOf]; done) | (simp [intOf]; omega)
      · have E1 := Lib.hid (decide_eq_false hxy)
        have HRF := Lib.hid (show r = false by rw [← HR.out]; exact decide_eq_false (NX.out hxy))
        clear hxy NX NT
        go_wp2_with (go_at_call 46; (with_reducible refine (rec_sameV x1 x2 (.slice qx1 x1.hdrs.length capx1) (.slice qx2 x2.hdrs.length capx2) false E1.out XF1.out XF2.out XK1.out XK2.out H.out).mono ?_); rintro e_ wn ⟨rfl, h⟩; replace H := Lib.hid h; clear h)
        go_ret
        exact ⟨ret_bool HRF.out.symm, H.out.drop.drop⟩
    · obtain rfl : k = l1.length := by omega
      have hall : l1.map (·.1) = l2.map (·.1) := by
        have h := heq.out
        rwa [List.take_of_length_le (by simp), List.take_of_length_le (by have := HLEN.out; simp; omega)] at h
      have HRT := Lib.hid (show r = true by rw [← HR.out, hall]; exact decide_eq_true rfl)
      clear hall
      go_wp2
      go_ret
      exact ⟨ret_bool HRT.out.symm, H.out⟩

end Go.Proofs.YtcjgdlfcfcabiaaGreat

/- Are two batches one: those that are: the program. -/
namespace Go.Proofs.YtcjgdlfcfcabiaaGreat
open Go.RowKit

set_option maxHeartbeats 4000000 in
set_option maxRecDepth 100000 in
theorem bat_sameT0 (base : Int) (leader : Int) (app : Bool) (txn : Bool) (ctl : Bool) (last : Int) (first : Int) (maxt : Int) (prod : Int) (epoch : Int) (seq : Int) (l1 l2 : List (RecS × Value)) (q1 q2 : Option Addr) (cap1 cap2 : Nat) (hn : l1.length ≤ 1000000) (hr : l1.map (·.1) = l2.map (·.1)) (hf1 : ∀ x ∈ l1, x.1.hdrs.length ≤ 9223372036854775807) (hf2 : ∀ x ∈ l2, x.1.hdrs.length ≤ 9223372036854775807) {W0 w : World} {K : Know} {L : List Res} (hk1 : K.has (Know.recs (.slice q1 l1.length cap1) l1)) (hk2 : K.has (Know.recs (.slice q2 l2.length cap2) l2)) (h : St W0 w K L) :
    Calls Tryz.prog 14 #[.agg #[.int .i64 base, .int .i64 leader, .bool app, .bool txn, .bool ctl, .int .i64 last, .int .i64 first, .int .i64 maxt, .int .i64 prod, .int .i64 epoch, .int .i64 seq, .slice q1 l1.length cap1], .agg #[.int .i64 base, .int .i64 leader, .bool app, .bool txn, .bool ctl, .int .i64 last, .int .i64 first, .int .i64 maxt, .int .i64 prod, .int .i64 epoch, .int .i64 seq, .slice q2 l2.length cap2]] w fun en w' => en = .returned (.bool true) ∧ St W0 w' K L := by
  obtain ⟨hb, hhb⟩ : ∃ b, w.heap.size = b := ⟨_, rfl⟩
  have h1 := (h.allocRaw #[.int .i64 base, .int .i64 leader, .bool app, .bool txn, .bool ctl, .int .i64 last, .int .i64 first, .int .i64 maxt, .int .i64 prod, .int .i64 epoch, .int .i64 seq, .slice q1 l1.length cap1] 24).allocRaw #[.int .i64 base, .int .i64 leader, .bool app, .bool txn, .bool ctl, .int .i64 last, .int .i64 first, .int .i64 maxt, .int .i64 prod, .int .i64 epoch, .int .i64 seq, .slice q2 l2.length cap2] 24
  rw [World.size_alloc, hhb] at h1
  obtain ⟨hc, hhc⟩ : ∃ b, hb + 1 = b := ⟨_, rfl⟩
  rw [hhc] at h1
  have H := Lib.hid h1
  have HK1 := Lib.hid hk1
  have HK2 := Lib.hid hk2
  have HN := Lib.hid hn
  have HF1 := Lib.hid hf1
  have HF2 := Lib.hid hf2
  have HE := Lib.hid (decide_eq_true hr)
  have hkeep : ∀ w', St W0 w' K (.raw hc #[.int .i64 base, .int .i64 leader, .bool app, .bool txn, .bool ctl, .int .i64 last, .int .i64 first, .int .i64 maxt, .int .i64 prod, .int .i64 epoch, .int .i64 seq, .slice q2 l2.length cap2] 24 :: .raw hb #[.int .i64 base, .int .i64 leader, .bool app, .bool txn, .bool ctl, .int .i64 last, .int .i64 first, .int .i64 maxt, .int .i64 prod, .int .i64 epoch, .int .i64 seq, .slice q1 l1.length cap1] 24 :: L) → ((w'.cell? ⟨hb, 0, none⟩ = some (.int .i64 base) ∧ w'.cell? ⟨hb, 1, none⟩ = some (.int .i64 leader) ∧ w'.cell? ⟨hb, 2, none⟩ = some (.bool app) ∧ w'.cell? ⟨hb, 3, none⟩ = some (.bool txn) ∧ w'.cell? ⟨hb, 4, none⟩ = some (.bool ctl) ∧ w'.cell? ⟨hb, 5, none⟩ = some (.int .i64 last) ∧ w'.cell? ⟨hb, 6, none⟩ = some (.int .i64 first) ∧ w'.cell? ⟨hb, 7, none⟩ = some (.int .i64 maxt) ∧ w'.cell? ⟨hb, 8, none⟩ = some (.int .i64 prod) ∧ w'.cell? ⟨hb, 9, none⟩ = some (.int .i64 epoch) ∧ w'.cell? ⟨hb, 10, none⟩ = some (.int .i64 seq) ∧ w'.cell? ⟨hb, 11, none⟩ = some (.slice q1 l1.length cap1)) ∧ (w'.cell? ⟨hc, 0, none⟩ = some (.int .i64 base) ∧ w'.cell? ⟨hc, 1, none⟩ = some (.int .i64 leader) ∧ w'.cell? ⟨hc, 2, none⟩ = some (.bool app) ∧ w'.cell? ⟨hc, 3, none⟩ = some (.bool txn) ∧ w'.cell? ⟨hc, 4, none⟩ = some (.bool ctl) ∧ w'.cell? ⟨hc, 5, none⟩ = some (.int .i64 last) ∧ w'.cell? ⟨hc, 6, none⟩ = some (.int .i64 first) ∧ w'.cell? ⟨hc, 7, none⟩ = some (.int .i64 maxt) ∧ w'.cell? ⟨hc, 8, none⟩ = some (.int .i64 prod) ∧ w'.cell? ⟨hc, 9, none⟩ = some (.int .i64 epoch) ∧ w'.cell? ⟨hc, 10, none⟩ = some (.int .i64 seq) ∧ w'.cell? ⟨hc, 11, none⟩ = some (.slice q2 l2.length cap2))) := fun w' hs => ⟨⟨hs.p1.rawCell 0, hs.p1.rawCell 1, hs.p1.rawCell 2, hs.p1.rawCell 3, hs.p1.rawCell 4, hs.p1.rawCell 5, hs.p1.rawCell 6, hs.p1.rawCell 7, hs.p1.rawCell 8, hs.p1.rawCell 9, hs.p1.rawCell 10, hs.p1.rawCell 11⟩, ⟨hs.rawCell 0, hs.rawCell 1, hs.rawCell 2, hs.rawCell 3, hs.rawCell 4, hs.rawCell 5, hs.rawCell 6, hs.rawCell 7, hs.rawCell 8, hs.rawCell 9, hs.rawCell 10, hs.rawCell 11⟩⟩
  have HKP := Lib.hid hkeep
  clear h h1 hk1 hk2 hf1 hf2 hr hn hkeep
  go_enter Tryz.func14, Tryz.ntmps14
  go_upto_region 2 with (fail)
  have hs := H.out.drew
  refine wp_region_held_drew (S := fun w' => (w'.cell? ⟨hb, 0, none⟩ = some (.int .i64 base) ∧ w'.cell? ⟨hb, 1, none⟩ = some (.int .i64 leader) ∧ w'.cell? ⟨hb, 2, none⟩ = some (.bool app) ∧ w'.cell? ⟨hb, 3, none⟩ = some (.bool txn) ∧ w'.cell? ⟨hb, 4, none⟩ = some (.bool ctl) ∧ w'.cell? ⟨hb, 5, none⟩ = some (.int .i64 last) ∧ w'.cell? ⟨hb, 6, none⟩ = some (.int .i64 first) ∧ w'.cell? ⟨hb, 7, none⟩ = some (.int .i64 maxt) ∧ w'.cell? ⟨hb, 8, none⟩ = some (.int .i64 prod) ∧ w'.cell? ⟨hb, 9, none⟩ = some (.int .i64 epoch) ∧ w'.cell? ⟨hb, 10, none⟩ = some (.int .i64 seq) ∧ w'.cell? ⟨hb, 11, none⟩ = some (.slice q1 l1.length cap1)) ∧ (w'.cell? ⟨hc, 0, none⟩ = some (.int .i64 base) ∧ w'.cell? ⟨hc, 1, none⟩ = some (.int .i64 leader) ∧ w'.cell? ⟨hc, 2, none⟩ = some (.bool app) ∧ w'.cell? ⟨hc, 3, none⟩ = some (.bool txn) ∧ w'.cell? ⟨hc, 4, none⟩ = some (.bool ctl) ∧ w'.cell? ⟨hc, 5, none⟩ = some (.int .i64 last) ∧ w'.cell? ⟨hc, 6, none⟩ = some (.int .i64 first) ∧ w'.cell? ⟨hc, 7, none⟩ = some (.int .i64 maxt) ∧ w'.cell? ⟨hc, 8, none⟩ = some (.int .i64 prod) ∧ w'.cell? ⟨hc, 9, none⟩ = some (.int .i64 epoch) ∧ w'.cell? ⟨hc, 10, none⟩ = some (.int .i64 seq) ∧ w'.cell? ⟨hc, 11, none⟩ = some (.slice q2 l2.length cap2))) (by kernel_rfl) (HKP.out _ hs) (fun hHeld => ?_)
  refine wpAnyH_take (i := 0) (oi := { dst := some 6, op := Op.move (Operand.tmp 5), type := 80, pos := "batch.go:144", after := #[], guard := none }) (v := ?_) rfl (by kernel_rfl) (by kernel_rfl) (by kernel_rfl) (fun _ _ _ h => h) (Or.inl ⟨by rfl, ?_⟩) (by assumption) ?_
  rotate_left
  · intro w hSw; (try dsimp only at hSw); go_simp; try with_reducible rfl
  simp only [Act.put, List.setIfInBounds_toArray, List.set_cons_zero, List.set_cons_succ]
  refine wpAnyH_take (i := 1) (oi := { dst := some 7, op := Op.load 24 (Operand.tmp 2), type := 24, pos := "batch.go:144", after := #[], guard := none }) (v := ?_) rfl (by kernel_rfl) (by kernel_rfl) (by kernel_rfl) (fun _ _ _ h => h) (Or.inl ⟨by rfl, ?_⟩) (by assumption) ?_
  rotate_left
  · intro w hSw; (try dsimp only at hSw); go_simp; try with_reducible rfl
  simp only [Act.put, List.setIfInBounds_toArray, List.set_cons_zero, List.set_cons_succ]
  refine wpAnyH_take (i := 3) (oi := { dst := some 9, op := Op.move (Operand.tmp 5), type := 80, pos := "batch.go:144", after := #[], guard := none }) (v := ?_) rfl (by kernel_rfl) (by kernel_rfl) (by kernel_rfl) (fun _ _ _ h => h) (Or.inl ⟨by rfl, ?_⟩) (by assumption) ?_
  rotate_left
  · intro w hSw; (try dsimp only at hSw); go_simp; try with_reducible rfl
  simp only [Act.put, List.setIfInBounds_toArray, List.set_cons_zero, List.set_cons_succ]
  refine wpAnyH_take (i := 4) (oi := { dst := some 10, op := Op.load 24 (Operand.tmp 3), type := 24, pos := "batch.go:144", after := #[], guard := none }) (v := ?_) rfl (by kernel_rfl) (by kernel_rfl) (by kernel_rfl) (fun _ _ _ h => h) (Or.inl ⟨by rfl, ?_⟩) (by assumption) ?_
  rotate_left
  · intro w hSw; (try dsimp only at hSw); go_simp; try with_reducible rfl
  simp only [Act.put, List.setIfInBounds_toArray, List.set_cons_zero, List.set_cons_succ]
  refine wpAnyH_ready (rs := [2]) (by kernel_rfl) (by simp) (AllReadyH.cons (o := { dst := some 8, op := Op.call { callee := Callee.value (Operand.tmp 6), args := #[Operand.tmp 7], argTypes := #[24] }, type := 62, pos := "batch.go:144", after := #[{ on := 0, ground := Ground.data }, { on := 1, ground := Ground.data }], guard := none }) rfl (fun KK hK => ?_) AllReadyH.nil)
  · go_simp
    go_at_call 44
    with_reducible refine (bat_bare base leader app txn ctl last first maxt prod epoch seq (.slice q1 l1.length cap1) hs).mono ?_
    rintro e wq ⟨rfl, hs⟩
    refine hK.out _ _ (HKP.out _ hs) (fun hHeld => ?_)
    clear hK KK
    try simp only [Act.put, List.setIfInBounds_toArray, List.set_cons_zero, List.set_cons_succ]
    refine wpAnyH_ready (rs := [5]) (by kernel_rfl) (by simp) (AllReadyH.cons (o := { dst := some 11, op := Op.call { callee := Callee.value (Operand.tmp 9), args := #[Operand.tmp 10], argTypes := #[24] }, type := 62, pos := "batch.go:144", after := #[{ on := 3, ground := Ground.data }, { on := 4, ground := Ground.data }, { on := 2, ground := Ground.chain }], guard := none }) rfl (fun KK hK => ?_) AllReadyH.nil)
    · go_simp
      go_at_call 44
      with_reducible refine (bat_bare base leader app txn ctl last first maxt prod epoch seq (.slice q2 l2.length cap2) hs).mono ?_
      rintro e wq ⟨rfl, hs⟩
      refine hK.out _ _ (HKP.out _ hs) (fun hHeld => ?_)
      clear hK KK
      try simp only [Act.put, List.setIfInBounds_toArray, List.set_cons_zero, List.set_cons_succ]
      refine wpAnyH_take (i := 6) (oi := { dst := some 12, op := Op.binOp BinOp.eql 62 (Operand.tmp 8) (Operand.tmp 11) 62, type := 4, pos := "batch.go:144", after := #[{ on := 2, ground := Ground.data }, { on := 5, ground := Ground.data }], guard := none }) (v := ?_) rfl (by kernel_rfl) (by kernel_rfl) (by kernel_rfl) (fun _ _ _ h => h) (Or.inl ⟨by rfl, ?_⟩) (by assumption) ?_
      rotate_left
      · intro w hSw; (try dsimp only at hSw); go_simp; try with_reducible rfl
      simp only [Act.put, List.setIfInBounds_toArray, List.set_cons_zero, List.set_cons_succ]
      refine wpAnyH_take (i := 7) (oi := { dst := some 13, op := Op.move (Operand.tmp 12), type := 4, pos := "batch.go:144", after := #[{ on := 6, ground := Ground.data }, { on := 5, ground := Ground.chain }], guard := none }) (v := ?_) rfl (by kernel_rfl) (by kernel_rfl) (by kernel_rfl) (fun _ _ _ h => h) (Or.inl ⟨by rfl, ?_⟩) (by assumption) ?_
      rotate_left
      · intro w hSw; (try dsimp only at hSw); go_simp; try with_reducible rfl
      simp only [Act.put, List.setIfInBounds_toArray, List.set_cons_zero, List.set_cons_succ]
      refine wpAnyH_take (i := 8) (oi := { dst := some 14, op := Op.fieldAddr 24 (Operand.tmp 2) 11, type := 0, pos := "batch.go:144", after := #[{ on := 7, ground := Ground.guard }], guard := some (7, true) }) (v := ?_) rfl (by kernel_rfl) (by kernel_rfl) (by kernel_rfl) (fun _ _ _ h => h) (Or.inl ⟨by rfl, ?_⟩) (by assumption) ?_
      rotate_left
      · intro w hSw; (try dsimp only at hSw); go_simp; try with_reducible rfl
      simp only [Act.put, List.setIfInBounds_toArray, List.set_cons_zero, List.set_cons_succ]
      refine wpAnyH_take (i := 9) (oi := { dst := some 15, op := Op.load 22 (Operand.tmp 14), type := 22, pos := "batch.go:144", after := #[{ on := 8, ground := Ground.data }, { on := 7, ground := Ground.guard }], guard := some (7, true) }) (v := ?_) rfl (by kernel_rfl) (by kernel_rfl) (by kernel_rfl) (fun _ _ _ h => h) (Or.inl ⟨by rfl, ?_⟩) (by assumption) ?_
      rotate_left
      · intro w hSw; (try dsimp only at hSw); go_simp; try with_reducible rfl
      simp only [Act.put, List.setIfInBounds_toArray, List.set_cons_zero, List.set_cons_succ]
      refine wpAnyH_take (i := 10) (oi := { dst := some 16, op := Op.fieldAddr 24 (Operand.tmp 3) 11, type := 0, pos := "batch.go:144", after := #[{ on := 7, ground := Ground.guard }], guard := some (7, true) }) (v := ?_) rfl (by kernel_rfl) (by kernel_rfl) (by kernel_rfl) (fun _ _ _ h => h) (Or.inl ⟨by rfl, ?_⟩) (by assumption) ?_
      rotate_left
      · intro w hSw; (try dsimp only at hSw); go_simp; try with_reducible rfl
      simp only [Act.put, List.setIfInBounds_toArray, List.set_cons_zero, List.set_cons_succ]
      refine wpAnyH_take (i := 11) (oi := { dst := some 17, op := Op.load 22 (Operand.tmp 16), type := 22, pos := "batch.go:144", after := #[{ on := 10, ground := Ground.data }, { on := 7, ground := Ground.guard }], guard := some (7, true) }) (v := ?_) rfl (by kernel_rfl) (by kernel_rfl) (by kernel_rfl) (fun _ _ _ h => h) (Or.inl ⟨by rfl, ?_⟩) (by assumption) ?_
      rotate_left
      · intro w hSw; (try dsimp only at hSw); go_simp; try with_reducible rfl
      simp only [Act.put, List.setIfInBounds_toArray, List.set_cons_zero, List.set_cons_succ]
      refine wpAnyH_ready (rs := [12]) (by kernel_rfl) (by simp) (AllReadyH.cons (o := { dst := some 18, op := Op.call { callee := Callee.value (Operand.func 45), args := #[Operand.tmp 15, Operand.tmp 17, Operand.func 46], argTypes := #[22, 22, 79] }, type := 4, pos := "batch.go:144", after := #[{ on := 9, ground := Ground.data }, { on := 11, ground := Ground.data }, { on := 7, ground := Ground.chain }, { on := 7, ground := Ground.guard }], guard := some (7, true) }) rfl (fun KK hK => ?_) AllReadyH.nil)
      · go_simp
        go_at_call 45
        with_reducible refine (sl_eqf l1 l2 q1 q2 cap1 cap2 HN.out true HE.out HF1.out HF2.out HK1.out HK2.out hs).mono ?_
        rintro e wq ⟨rfl, hs⟩
        refine hK.out _ _ (HKP.out _ hs) (fun hHeld => ?_)
        clear hK KK
        try simp only [Act.put, List.setIfInBounds_toArray, List.set_cons_zero, List.set_cons_succ]
        refine wpAnyH_take (i := 13) (oi := { dst := some 19, op := Op.pick (Operand.tmp 13) (Operand.tmp 18) (Operand.const (Value.bool false)), type := 4, pos := "batch.go:144", after := #[{ on := 7, ground := Ground.data }, { on := 12, ground := Ground.data }], guard := none }) (v := ?_) rfl (by kernel_rfl) (by kernel_rfl) (by kernel_rfl) (fun _ _ _ h => h) (Or.inl ⟨by rfl, ?_⟩) (by assumption) ?_
        rotate_left
        · intro w hSw; (try dsimp only at hSw); go_simp; try with_reducible rfl
        simp only [Act.put, List.setIfInBounds_toArray, List.set_cons_zero, List.set_cons_succ]
        refine wpAnyH_take (i := 14) (oi := { dst := some 4, op := Op.assign (Operand.tmp 19), type := 4, pos := "batch.go:144", after := #[{ on := 13, ground := Ground.data }, { on := 12, ground := Ground.chain }, { on := 0, ground := Ground.phase }, { on := 1, ground := Ground.phase }, { on := 2, ground := Ground.phase }, { on := 3, ground := Ground.phase }, { on := 4, ground := Ground.phase }, { on := 5, ground := Ground.phase }, { on := 6, ground := Ground.phase }, { on := 7, ground := Ground.phase }, { on := 8, ground := Ground.phase }, { on := 9, ground := Ground.phase }, { on := 10, ground := Ground.phase }, { on := 11, ground := Ground.phase }, { on := 12, ground := Ground.phase }, { on := 13, ground := Ground.phase }], guard := none }) (v := ?_) rfl (by kernel_rfl) (by kernel_rfl) (by kernel_rfl) (fun _ _ _ h => h) (Or.inl ⟨by rfl, ?_⟩) (by assumption) ?_
        rotate_left
        · intro w hSw; (try dsimp only at hSw); go_simp; try with_reducible rfl
        simp only [Act.put, List.setIfInBounds_toArray, List.set_cons_zero, List.set_cons_succ]
        refine wpAnyH_done (by kernel_rfl) ?_ _
        go_wp2_with fail
        go_ret
        exact ⟨rfl, hs.drop.drop⟩
theorem bat_sameT (x : BatS) (l1 l2 : List (RecS × Value)) (q1 q2 : Option Addr) (cap1 cap2 : Nat) (hn : l1.length ≤ 1000000) (hx : l1.map (·.1) = x.recs) (hy : l2.map (·.1) = x.recs) (hf1 : ∀ x ∈ l1, x.1.hdrs.length ≤ 9223372036854775807) (hf2 : ∀ x ∈ l2, x.1.hdrs.length ≤ 9223372036854775807) {W0 w : World} {K : Know} {L : List Res} (hk1 : K.has (Know.recs (.slice q1 l1.length cap1) l1)) (hk2 : K.has (Know.recs (.slice q2 l2.length cap2) l2)) (h : St W0 w K L) :
    Calls Tryz.prog 14 #[.agg #[.int .i64 x.base, .int .i64 x.leader, .bool x.app, .bool x.txn, .bool x.ctl, .int .i64 x.last, .int .i64 x.first, .int .i64 x.maxt, .int .i64 x.prod, .int .i64 x.epoch, .int .i64 x.seq, .slice q1 l1.length cap1], .agg #[.int .i64 x.base, .int .i64 x.leader, .bool x.app, .bool x.txn, .bool x.ctl, .int .i64 x.last, .int .i64 x.first, .int .i64 x.maxt, .int .i64 x.prod, .int .i64 x.epoch, .int .i64 x.seq, .slice q2 l2.length cap2]] w fun en w' => en = .returned (.bool true) ∧ St W0 w' K L :=
  bat_sameT0 x.base x.leader x.app x.txn x.ctl x.last x.first x.maxt x.prod x.epoch x.seq l1 l2 q1 q2 cap1 cap2 hn (hx.trans hy.symm) hf1 hf2 hk1 hk2 h

end Go.Proofs.YtcjgdlfcfcabiaaGreat
