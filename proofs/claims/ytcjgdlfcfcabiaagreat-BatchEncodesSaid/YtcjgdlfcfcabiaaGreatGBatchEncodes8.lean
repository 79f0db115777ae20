/- Batches: the reference: which may be. -/
import Derived.Test.YtcjgdlfcfcabiaaGreatGBatchEncodes6
import Derived.Test.YtcjgdlfcfcabiaaGreatGBatchEncodes1
import Derived.Test.YtcjgdlfcfcabiaaGreatL06W
import Derived.Test.YtcjgdlfcfcabiaaGreatGBatchEncodes4
import Derived.Test.YtcjgdlfcfcabiaaGreatRec6
/- Batches: there and back (pure). -/
namespace Go.Proofs.YtcjgdlfcfcabiaaGreat
open Go.RowKit

theorem sumItem_mod6 (n : Int) (h : fits (sumItem n) 4) : sumItem n % 4294967296 = n := by
  by_cases h0 : n < 0 ∨ 4294967295 < n
  · exact absurd h (sumItem_bad n h0)
  · unfold sumItem
    rw [if_neg h0]
    split <;> omega
theorem preX_enc6 (x : PreS) (hf : FitsAll x.items) : preX (encInts x.items) = (x, 2) := by
  have h1 := intsOf_enc x.items [] hf
  rw [List.append_nil] at h1
  have h2 : x.items.map (·.2) = preSizes := rfl
  rw [h2] at h1
  have h3 := sumItem_mod6 x.sum (hf (sumItem x.sum, 4) (by simp [PreS.items]))
  unfold preX
  rw [h1]
  simp only [PreS.items, List.map_cons, List.map_nil, preOfL, h3]
theorem items_len (x : PreS) : (encInts x.items).length = 61 := by rw [encInts_length]; rfl
theorem rePre_enc (x : PreS) (hf : FitsAll x.items) (hl : 49 ≤ x.len) (hc : 0 ≤ x.count) (t : Bs) : rePre (encInts x.items ++ t) = .ok x := by
  have h := rePre_take (encInts x.items ++ t) (by rw [List.length_append, items_len]; omega)
  rw [List.take_left' (items_len x)] at h
  rw [← h]
  unfold rePre
  rw [preX_enc6 x hf, if_neg (by rw [items_len]; omega), if_pos rfl, if_neg (by simp only; omega), if_neg (by simp only; omega)]
/-- A batch's bytes. -/
def BatS.rowsB (b : BatS) : Bs := b.recs.flatMap encR
def BatS.pre (b : BatS) (sum : Int) : PreS := ⟨b.base, 49 + b.rowsB.length, b.leader, sum, attrN b.app b.txn b.ctl 3, b.last, b.first, b.maxt, b.prod, b.epoch, b.seq, b.recs.length⟩
def BatS.front (b : BatS) (sum : Int) : Bs := encInts [(b.base, 8), (49 + b.rowsB.length, 4), (b.leader, 4), (2, 1), (sumItem sum, 4)]
def BatS.back (b : BatS) : Bs := encInts [(attrN b.app b.txn b.ctl 3, 2), (b.last, 4), (b.first, 8), (b.maxt, 8), (b.prod, 8), (b.epoch, 2), (b.seq, 4), (b.recs.length, 4)]
def BatS.crc (b : BatS) : Nat := (crcMore 0#32 (b.back ++ b.rowsB)).toNat
def BatS.enc (b : BatS) : Bs := encInts (b.pre b.crc).items ++ b.rowsB
theorem BatS.pre_split (b : BatS) (s : Int) : encInts (b.pre s).items = b.front s ++ b.back := by
  have h : (b.pre s).items = [(b.base, 8), (49 + (b.rowsB.length : Int), 4), (b.leader, 4), (2, 1), (sumItem s, 4)] ++ [(attrN b.app b.txn b.ctl 3, 2), (b.last, 4), (b.first, 8), (b.maxt, 8), (b.prod, 8), (b.epoch, 2), (b.seq, 4), ((b.recs.length : Int), 4)] := rfl
  rw [h, encInts_append]
  rfl
theorem BatS.front_len (b : BatS) (s : Int) : (b.front s).length = 21 := by unfold BatS.front; rw [encInts_length]; rfl
theorem BatS.pre_drop (b : BatS) (s : Int) : (encInts (b.pre s).items).drop 21 = b.back := by rw [b.pre_split, List.drop_left' (b.front_len s)]
theorem BatS.crc_lt (b : BatS) : b.crc < 4294967296 := (crcMore 0#32 (b.back ++ b.rowsB)).isLt
theorem fits_of {n : Int} {k : Nat} (h1 : 1 ≤ k) (h8 : k ≤ 8) (lo : -half k ≤ n) (hi : n < half k) : fits n k := by
  refine ⟨by omega, by omega, ?_, ?_⟩ <;> rw [Int.toNat_natCast] <;> assumption
theorem batErr_zero {b : BatS} (h : batErr b = 0) : b.placed = true ∧ (b.ctl = true → b.txn = true) ∧ b.signed = true ∧ recsC b.recs = 0 := by
  unfold batErr at h
  by_cases p1 : b.placed = false
  · rw [if_pos p1] at h; cases h
  rw [if_neg p1] at h
  by_cases p2 : b.ctl = true ∧ b.txn = false
  · rw [if_pos p2] at h; cases h
  rw [if_neg p2] at h
  by_cases p3 : b.signed = false
  · rw [if_pos p3] at h; cases h
  rw [if_neg p3] at h
  by_cases p4 : b.ctl = true ∧ b.recs.length ≠ 1
  · rw [if_pos p4] at h; cases h
  rw [if_neg p4] at h
  by_cases p5 : recsC b.recs ≠ 0
  · rw [if_pos p5] at h; exact absurd h p5
  refine ⟨by simpa using p1, fun hc => ?_, by simpa using p3, Classical.not_not.1 p5⟩
  cases ht : b.txn with
  | true => rfl
  | false => exact absurd ⟨hc, ht⟩ p2
theorem signed_rng {b : BatS} (h : b.signed = true) : -1 ≤ b.prod ∧ (-1 ≤ b.epoch ∧ b.epoch ≤ 32767) ∧ (-1 ≤ b.seq ∧ b.seq ≤ 2147483647) := by
  unfold BatS.signed at h
  by_cases p : b.prod = -1
  · rw [if_pos p] at h
    have := of_decide_eq_true h
    omega
  rw [if_neg p] at h
  by_cases q : b.prod < 0 ∨ ¬ (0 ≤ b.epoch ∧ b.epoch ≤ 32767)
  · rw [if_pos q] at h; cases h
  rw [if_neg q] at h
  cases hc : b.ctl with
  | true =>
    rw [hc] at h
    have h : decide (b.seq = -1) = true := h
    have := of_decide_eq_true h
    omega
  | false =>
    rw [hc] at h
    have h : decide (0 ≤ b.seq ∧ b.seq ≤ 2147483647) = true := h
    have := of_decide_eq_true h
    omega
theorem attr_facts (a t c : Bool) : (0 ≤ attrN a t c 3 ∧ attrN a t c 3 ≤ 63) ∧ bitAt (attrN a t c 3) 3 = a ∧ bitAt (attrN a t c 3) 4 = t ∧ bitAt (attrN a t c 3) 5 = c ∧ ((c = true → t = true) → chk (attrN a t c 3) = 0) := by
  cases a <;> cases t <;> cases c <;> decide
theorem BatS.fitsAll {b : BatS} (h : batErr b = 0) (hR : b.R) (s : Int) (hs : 0 ≤ s ∧ s ≤ 4294967295) (hz : b.rowsB.length ≤ 1000000) (hn : b.recs.length ≤ 1000000) : FitsAll (b.pre s).items := by
  obtain ⟨p1, p2, p3, p4⟩ := batErr_zero h
  have q1 := of_decide_eq_true p1
  obtain ⟨q2, q3, q4⟩ := signed_rng p3
  obtain ⟨r1, r2, r3, r4, r5, r6, r7, r8⟩ := hR
  unfold Rn at r1 r2 r3 r4 r5 r6 r7 r8
  have qa := (attr_facts b.app b.txn b.ctl).1
  have h8 : half 8 = 9223372036854775808 := by decide
  have h4 : half 4 = 2147483648 := by decide
  have h2 : half 2 = 32768 := by decide
  have h1 : half 1 = 128 := by decide
  intro x hx
  simp only [PreS.items, BatS.pre, List.mem_cons, List.not_mem_nil, or_false] at hx
  rcases hx with rfl | rfl | rfl | rfl | rfl | rfl | rfl | rfl | rfl | rfl | rfl | rfl | rfl
  · exact fits_of (by simp only; decide) (by simp only; decide) (by rw [h8]; simp only; omega) (by rw [h8]; simp only; omega)
  · exact fits_of (by simp only; decide) (by simp only; decide) (by rw [h4]; simp only; omega) (by rw [h4]; simp only; omega)
  · exact fits_of (by simp only; decide) (by simp only; decide) (by rw [h4]; simp only; omega) (by rw [h4]; simp only; omega)
  · exact fits_of (by simp only; decide) (by simp only; decide) (by rw [h1]; simp only; omega) (by rw [h1]; simp only; omega)
  · exact sumItem_fits s (by omega) (by omega)
  · exact fits_of (by simp only; decide) (by simp only; decide) (by rw [h2]; simp only; omega) (by rw [h2]; simp only; omega)
  · exact fits_of (by simp only; decide) (by simp only; decide) (by rw [h4]; simp only; omega) (by rw [h4]; simp only; omega)
  · exact fits_of (by simp only; decide) (by simp only; decide) (by rw [h8]; simp only; omega) (by rw [h8]; simp only; omega)
  · exact fits_of (by simp only; decide) (by simp only; decide) (by rw [h8]; simp only; omega) (by rw [h8]; simp only; omega)
  · exact fits_of (by simp only; decide) (by simp only; decide) (by rw [h8]; simp only; omega) (by rw [h8]; simp only; omega)
  · exact fits_of (by simp only; decide) (by simp only; decide) (by rw [h2]; simp only; omega) (by rw [h2]; simp only; omega)
  · exact fits_of (by simp only; decide) (by simp only; decide) (by rw [h4]; simp only; omega) (by rw [h4]; simp only; omega)
  · exact fits_of (by simp only; decide) (by simp only; decide) (by rw [h4]; simp only; omega) (by rw [h4]; simp only; omega)
theorem BatS.pre_R {b : BatS} (h : batErr b = 0) (hR : b.R) (s : Int) (hs : 0 ≤ s ∧ s ≤ 4294967295) (hz : b.rowsB.length ≤ 1000000) (hn : b.recs.length ≤ 1000000) : (b.pre s).R := by
  have qa := (attr_facts b.app b.txn b.ctl).1
  obtain ⟨r1, r2, r3, r4, r5, r6, r7, r8⟩ := hR
  unfold Rn at r1 r2 r3 r4 r5 r6 r7 r8
  intro n hn
  simp only [PreS.list, BatS.pre, List.mem_cons, List.not_mem_nil, or_false] at hn
  rcases hn with rfl | rfl | rfl | rfl | rfl | rfl | rfl | rfl | rfl | rfl | rfl | rfl <;> omega
theorem unp_back : ∀ (rs : List RecS) (rows : Bs) (pos : Nat), pos ≤ rows.length → rows.drop pos = rs.flatMap encR → (∀ x ∈ rs, x.R ∧ recOk x = 0 ∧ x.sum ≤ 1000000) → unp rs.length ⟨rows, pos, 0⟩ = .ok rs
  | [], rows, pos, hp, hd, _ => by
    have hz : rows.length - pos = 0 := by rw [← List.length_drop, hd]; rfl
    show (if (⟨rows, pos, 0⟩ : InS).left = 0 then Except.ok [] else Except.error (10 : Int)) = Except.ok []
    rw [if_pos (by simp only [InS.left]; exact hz)]
  | x :: t, rows, pos, hp, hd, hx => by
    obtain ⟨hR, ho, hs⟩ := hx x (by simp)
    rw [List.flatMap_cons] at hd
    have hr := reRec_back x hR ho hs (t.flatMap encR)
    rw [← hd] at hr
    obtain ⟨hpm, hf⟩ := rds_rec.ok rows pos x _ hp hr
    have hpos := (reRec_one hr).2.2.2.2.1
    show (if (⟨rows, pos, 0⟩ : InS).left = 0 then Except.error (10 : Int) else if (⟨rows, pos, 0⟩ : InS).record.2.err = 0 then consE (⟨rows, pos, 0⟩ : InS).record.1 (unp t.length (⟨rows, pos, 0⟩ : InS).record.2) else Except.error (⟨rows, pos, 0⟩ : InS).record.2.err) = Except.ok (x :: t)
    rw [if_neg (by simp only [InS.left]; omega), hf]
    simp only [if_true]
    rw [unp_back t rows _ hpm (by rw [← List.drop_drop, hd, List.drop_left]) (fun y hy => hx y (by simp [hy]))]
    rfl
theorem asmB_back {b : BatS} (h : batErr b = 0) (hf : ∀ x ∈ b.recs, x.R ∧ recOk x = 0 ∧ x.sum ≤ 1000000) : asmB (b.pre b.crc) (encInts (b.pre b.crc).items) b.rowsB = .ok b := by
  obtain ⟨_, p2, _, _⟩ := batErr_zero h
  obtain ⟨_, a3, a4, a5, a6⟩ := attr_facts b.app b.txn b.ctl
  have hu := unp_back b.recs b.rowsB 0 (Nat.zero_le _) rfl hf
  unfold asmB
  rw [b.pre_drop]
  have e1 : ((crcMore 0#32 (b.back ++ b.rowsB)).toNat : Int) = (b.pre b.crc).sum := rfl
  have e2 : (b.pre b.crc).attr = attrN b.app b.txn b.ctl 3 := rfl
  have e3 : (b.pre b.crc).count.toNat = b.recs.length := rfl
  rw [if_neg (fun hh => hh e1), e2, if_neg (fun hh => hh (a6 p2)), e3, hu]
  simp only [a3, a4, a5]
  obtain ⟨base, leader, app, txn, ctl, last, first, maxt, prod, epoch, sq, rs⟩ := b
  exact if_pos h
theorem reBat_back {b : BatS} (h : batErr b = 0) (hR : b.R) (hf : ∀ x ∈ b.recs, x.R ∧ recOk x = 0 ∧ x.sum ≤ 1000000) (hz : b.rowsB.length ≤ 1000000) (hn : b.recs.length ≤ 1000000) (t : Bs) : reBat (b.enc ++ t) = .ok (b, b.enc.length) := by
  have hc := b.crc_lt
  have hfa := BatS.fitsAll h hR b.crc (by omega) hz hn
  have hp := rePre_enc (b.pre b.crc) hfa (show (49 : Int) ≤ 49 + (b.rowsB.length : Int) by omega) (show (0 : Int) ≤ (b.recs.length : Int) by omega) (b.rowsB ++ t)
  rw [← List.append_assoc] at hp
  have hle : b.enc.length = 61 + b.rowsB.length := by unfold BatS.enc; rw [List.length_append, items_len]
  have hl : ((b.pre b.crc).len - 49).toNat = b.rowsB.length := by show ((49 + (b.rowsB.length : Int)) - 49).toNat = _; omega
  unfold reBat
  have hp2 : rePre (b.enc ++ t) = .ok (b.pre b.crc) := hp
  rw [hp2]
  simp only
  rw [hl, if_neg (by rw [List.length_append, hle]; omega)]
  have t1 : (b.enc ++ t).take 61 = encInts (b.pre b.crc).items := by
    unfold BatS.enc
    rw [List.append_assoc, List.take_left' (items_len _)]
  have t2 : ((b.enc ++ t).drop 61).take b.rowsB.length = b.rowsB := by
    unfold BatS.enc
    rw [List.append_assoc, List.drop_left' (items_len _), List.take_left]
  rw [t1, t2, asmB_back h hf]
  simp only
  rw [hle]

end Go.Proofs.YtcjgdlfcfcabiaaGreat

/- Batches (pure): small ones. -/
namespace Go.Proofs.YtcjgdlfcfcabiaaGreat
open Go.RowKit

def FitW (l : List (RecS × Value)) : Prop := ∀ x ∈ l, x.1.R ∧ x.1.hdrs.length ≤ 9223372036854775807 ∧ HFit x.1.hdrs ∧ x.1.key.data.length ≤ 140737488351232 ∧ x.1.val.data.length ≤ 140737488351232
def hAll : List HdrS → Bool
  | [] => true
  | h :: t => decide (h.key.length + h.val.data.length ≤ 100) && hAll t
def smallRec (x : RecS) : Bool := decide (x.key.data.length + x.val.data.length ≤ 100) && (decide (x.hdrs.length ≤ 6) && hAll x.hdrs)
def rAll : List RecS → Bool
  | [] => true
  | r :: t => smallRec r && rAll t
def smallB (l : List RecS) : Bool := decide (l.length ≤ 12) && rAll l
theorem hAll_sum : ∀ (l : List HdrS), hAll l = true → hsum l ≤ 101 * l.length
  | [], _ => by simp [hsum]
  | h :: t, hh => by
    simp only [hAll, Bool.and_eq_true, decide_eq_true_eq] at hh
    have := hAll_sum t hh.2
    simp only [hsum, List.length_cons, List.map_cons, List.sum_cons] at *
    omega
theorem rAll_mem : ∀ (l : List RecS), rAll l = true → ∀ x ∈ l, smallRec x = true
  | [], _, _, h => by cases h
  | r :: t, hh, x, hx => by
    simp only [rAll, Bool.and_eq_true] at hh
    rcases List.mem_cons.1 hx with rfl | hx
    · exact hh.1
    · exact rAll_mem t hh.2 x hx
theorem smallRec_sum {x : RecS} (h : smallRec x = true) : x.sum ≤ 1000 := by
  unfold smallRec at h
  simp only [Bool.and_eq_true, decide_eq_true_eq] at h
  have := hAll_sum _ h.2.2
  unfold RecS.sum
  omega
theorem FitW.fit {l : List (RecS × Value)} (h : FitW l) (hs : smallB (l.map (·.1)) = true) : FitB l := by
  intro x hx
  unfold smallB at hs
  simp only [Bool.and_eq_true] at hs
  have h1 := smallRec_sum (rAll_mem _ hs.2 x.1 (List.mem_map.2 ⟨x, hx, rfl⟩))
  obtain ⟨a, b, c, _⟩ := h x hx
  exact ⟨a, c, by omega⟩
theorem smallB_len {l : List (RecS × Value)} (hs : smallB (l.map (·.1)) = true) : l.length ≤ 12 := by
  unfold smallB at hs
  simp only [Bool.and_eq_true, decide_eq_true_eq, List.length_map] at hs
  exact hs.1
theorem drop_hdrs (l : List HdrS) (k : Nat) (h : k < l.length) : l.drop k = l[k] :: l.drop (k + 1) := List.drop_eq_getElem_cons h

end Go.Proofs.YtcjgdlfcfcabiaaGreat

/- Batches: the reference: times. -/
namespace Go.Proofs.YtcjgdlfcfcabiaaGreat
open Go.RowKit

set_option maxHeartbeats 1000000 in
set_option maxRecDepth 100000 in
theorem ref11_times (base leader : Int) (app txn ctl : Bool) (last first maxt prod epoch sq : Int) (l : List (RecS × Value)) (q : Option Addr) (cap : Nat) (G : Int) (hG : rowsC first last (l.map (·.1)) (-1) first = .ok G) (hf : 0 ≤ first ∧ first ≤ 9223372036854775807) (hfit : FitB l) (hll : l.length ≤ 1000000) {W0 w : World} {K : Know} {L : List Res} (hk : K.has (Know.recs (.slice q l.length cap) l)) (h : St W0 w K L) :
    Calls Tryz.prog 65 #[.agg #[.int .i64 base, .int .i64 leader, .bool app, .bool txn, .bool ctl, .int .i64 last, .int .i64 first, .int .i64 maxt, .int .i64 prod, .int .i64 epoch, .int .i64 sq, .slice q l.length cap]] w fun en w' => en = .returned (.int .i64 G) ∧ St W0 w' K L := by
  have HT := Lib.hid hG
  have HK := Lib.hid hk
  have HFT := Lib.hid hfit
  have HF := Lib.hid hf
  obtain ⟨nf, hnf⟩ : ∃ m, -first = m := ⟨_, rfl⟩
  obtain ⟨mf, hmf⟩ : ∃ m, 9223372036854775807 - first = m := ⟨_, rfl⟩
  have HNF := Lib.hid hnf
  have HMF := Lib.hid hmf
  have n1 : wrap64 (-first) = nf := by rw [← hnf]; unfold wrap64; omega
  have n2 : IntKind.i64.wrap (-first) = nf := by rw [← hnf]; exact IntWalk.i64_in _ (by omega)
  have m1 : wrap64 (9223372036854775807 - first) = mf := by rw [← hmf]; unfold wrap64; omega
  have m2 : IntKind.i64.wrap (9223372036854775807 - first) = mf := by rw [← hmf]; exact IntWalk.i64_in _ (by omega)
  have h1 := h.allocRaw #[.int .i64 base, .int .i64 leader, .bool app, .bool txn, .bool ctl, .int .i64 last, .int .i64 first, .int .i64 maxt, .int .i64 prod, .int .i64 epoch, .int .i64 sq, .slice q l.length cap] 24
  obtain ⟨hb, hhb⟩ : ∃ b, w.heap.size = b := ⟨_, rfl⟩
  rw [hhb] at h1
  obtain ⟨x0, x1, x2, x3, x4, x5, x6, x7, x8, x9, x10, x11, y0, y1, y2, y3, y4, y5, y6, y7, y8, y9, y10, y11⟩ := raw12 (b := hb) (h1)
  have H := Lib.hid h1
  clear h h1 hk hfit hG hnf hmf hf
  go_enter Tryz.func65, Tryz.ntmps65
  go_wp2
  clear x0 y0 x1 y1 x2 y2 x3 y3 x4 y4 x5 y5 x6 y6 x7 y7 x8 y8 x9 y9 x10 y10 x11 y11
  go_loopw [3, 4, 5] (fun gv iv _ wr => ∃ (k : Nat) (ah g : Int), k ≤ l.length ∧ gv = .int .i64 g ∧ iv = .int .i64 k ∧ Hid (rowsC first last ((l.map (·.1)).drop k) ah g = .ok G) ∧ St W0 wr K (.raw hb #[.int .i64 base, .int .i64 leader, .bool app, .bool txn, .bool ctl, .int .i64 last, .int .i64 first, .int .i64 maxt, .int .i64 prod, .int .i64 epoch, .int .i64 sq, .slice q l.length cap] 24 :: L)) (fun _ iv _ _ => l.length - (intOf iv).toNat)
  case atStart => exact ⟨0, -1, first, Nat.zero_le _, rfl, rfl, HT, H.out⟩
  case round =>
    obtain ⟨k, ah, g, hkl, rfl, rfl, HC, hst⟩ := hrel
    clear H
    have H := Lib.hid hst
    clear hst
    obtain ⟨x0, x1, x2, x3, x4, x5, x6, x7, x8, x9, x10, x11, y0, y1, y2, y3, y4, y5, y6, y7, y8, y9, y10, y11⟩ := raw12 (b := hb) (H.out)
    by_cases hlt : k < l.length
    · have hd := drop_recs l k hlt _ rfl
      obtain ⟨b, off, hqq⟩ := recs_at HK.out H.out (by omega)
      subst hqq
      obtain ⟨⟨x, vx⟩, hx⟩ : ∃ x, l[k] = x := ⟨_, rfl⟩
      have cc := recs_cell HK.out H.out k hlt (x, vx) hx
      have hmem : (x, vx) ∈ l := hx ▸ List.getElem_mem hlt
      have xf : x.R ∧ HFit x.hdrs ∧ x.sum ≤ 1000000 := HFT.out (x, vx) hmem
      have xk : K.has (Know.flat RHdr vx 3 x.hdrs) := recs_hdrs HK.out hmem
      obtain ⟨qx, capx, hvx⟩ := flat_form xk H.out
      subst hvx
      simp only at cc
      obtain ⟨c0, c1, c2, c3, c4, c5, c6⟩ := cc
      rw [← Nat.add_assoc] at c1 c2 c3 c4 c5 c6
      have hx1 : l[k].1 = x := by rw [hx]
      have XF := Lib.hid xf
      have XK := Lib.hid xk
      have HX := Lib.hid hx1
      clear xf xk hx1 hx hmem
      have hki : (k : Int) < (l.length : Int) := by omega
      rw [HX.out] at hd
      have hc := HC.out
      rw [hd, rowsC_cons] at hc
      by_cases c1 : x.off ≤ ah ∨ last < x.off
      · rw [if_pos c1] at hc; cases hc
      rw [if_neg c1] at hc
      by_cases c3 : x.time < -first ∨ 9223372036854775807 - first < x.time
      · rw [if_pos c3] at hc; cases hc
      rw [if_neg c3] at hc
      have d1 : decide (mf < x.time) = false := by rw [← HMF.out]; exact decide_eq_false (by omega)
      have d2 : decide (x.time < nf) = false := by rw [← HNF.out]; exact decide_eq_false (by omega)
      obtain ⟨ft, hft⟩ : ∃ t, first + x.time = t := ⟨_, rfl⟩
      have f1 : wrap64 (first + x.time) = ft := by have := HF.out; rw [← hft]; unfold wrap64; omega
      have f2 : IntKind.i64.wrap (first + x.time) = ft := by have := HF.out; rw [← hft]; exact IntWalk.i64_in _ (by omega)
      rw [hft] at hc
      by_cases c4 : g < ft
      · have d4 : decide (g < ft) = true := decide_eq_true c4
        have HC2 := Lib.hid (show rowsC first last ((l.map (·.1)).drop (k + 1)) x.off ft = .ok G by rw [Int.max_eq_right (by omega)] at hc; exact hc)
        clear hd hc c1 c3 c4 hft
        go_wp2
        go_roundw
        case rel => exact ⟨k + 1, x.off, ft, hlt, rfl, by go_num, HC2, H.out⟩
        case measure => first | (simp [intOf]; done) | (simp [intOf]; omega)
      · have d4 : decide (g < ft) = false := decide_eq_false c4
        have HC2 := Lib.hid (show rowsC first last ((l.map (·.1)).drop (k + 1)) x.off g = .ok G by rw [Int.max_eq_left (by omega)] at hc; exact hc)
        clear hd hc c1 c3 c4 hft
        go_wp2
        go_roundw
        case rel => exact ⟨k + 1, x.off, g, hlt, rfl, by go_num, HC2, H.out⟩
        case measure => first | (simp [intOf]; done) | (simp [intOf]; omega)
    · obtain rfl : l.length = k := by omega
      have hc := HC.out
      rw [List.drop_of_length_le (by simp)] at hc
      obtain rfl : g = G := by have hc : Except.ok g = Except.ok G := hc; cases hc; rfl
      clear hc
      go_wp2
      go_ret
      exact ⟨rfl, H.out.drop⟩

end Go.Proofs.YtcjgdlfcfcabiaaGreat

/- Batches: the reference: rows. -/
namespace Go.Proofs.YtcjgdlfcfcabiaaGreat
open Go.RowKit

def PrevIs (l : List (RecS × Value)) (k : Nat) (ah : Int) : Prop := (k = 0 ∧ ah = -1) ∨ (∃ (j : Nat) (h : j < l.length), k = j + 1 ∧ (l[j]'h).1.off = ah ∧ 0 ≤ ah)
set_option maxHeartbeats 1000000 in
set_option maxRecDepth 100000 in
theorem ref11_orders (base leader : Int) (app txn ctl : Bool) (last first maxt prod epoch sq : Int) (l : List (RecS × Value)) (q : Option Addr) (cap : Nat) (e : Int) (he : BatS.rows ⟨base, leader, app, txn, ctl, last, first, maxt, prod, epoch, sq, l.map (·.1)⟩ = e) (hf : 0 ≤ first ∧ first ≤ 9223372036854775807) (hfit : FitB l) (hll : l.length ≤ 1000000) {W0 w : World} {K : Know} {L : List Res} (hk : K.has (Know.recs (.slice q l.length cap) l)) (h : St W0 w K L) :
    Calls Tryz.prog 33 #[.agg #[.int .i64 base, .int .i64 leader, .bool app, .bool txn, .bool ctl, .int .i64 last, .int .i64 first, .int .i64 maxt, .int .i64 prod, .int .i64 epoch, .int .i64 sq, .slice q l.length cap]] w fun en w' => en = .returned (.int .i64 e) ∧ St W0 w' K L := by
  obtain ⟨tot, htot⟩ : ∃ t, rowsC first last (l.map (·.1)) (-1) first = t := ⟨_, rfl⟩
  have HE := Lib.hid (show rowsE app maxt tot = e by rw [← he, ← htot]; rfl)
  have HT := Lib.hid htot
  have HLL := Lib.hid hll
  have HK := Lib.hid hk
  have HFT := Lib.hid hfit
  have HF := Lib.hid hf
  obtain ⟨nf, hnf⟩ : ∃ m, -first = m := ⟨_, rfl⟩
  obtain ⟨mf, hmf⟩ : ∃ m, 9223372036854775807 - first = m := ⟨_, rfl⟩
  have HNF := Lib.hid hnf
  have HMF := Lib.hid hmf
  have n1 : wrap64 (-first) = nf := by rw [← hnf]; unfold wrap64; omega
  have n2 : IntKind.i64.wrap (-first) = nf := by rw [← hnf]; exact IntWalk.i64_in _ (by omega)
  have m1 : wrap64 (9223372036854775807 - first) = mf := by rw [← hmf]; unfold wrap64; omega
  have m2 : IntKind.i64.wrap (9223372036854775807 - first) = mf := by rw [← hmf]; exact IntWalk.i64_in _ (by omega)
  have h1 := h.allocRaw #[.int .i64 base, .int .i64 leader, .bool app, .bool txn, .bool ctl, .int .i64 last, .int .i64 first, .int .i64 maxt, .int .i64 prod, .int .i64 epoch, .int .i64 sq, .slice q l.length cap] 24
  obtain ⟨hb, hhb⟩ : ∃ b, w.heap.size = b := ⟨_, rfl⟩
  rw [hhb] at h1
  obtain ⟨x0, x1, x2, x3, x4, x5, x6, x7, x8, x9, x10, x11, y0, y1, y2, y3, y4, y5, y6, y7, y8, y9, y10, y11⟩ := raw12 (b := hb) (h1)
  have H := Lib.hid h1
  have HP := Lib.hid (show PrevIs l 0 (-1) from .inl ⟨rfl, rfl⟩)
  clear h h1 hk hfit he htot hnf hmf hf
  go_enter Tryz.func33, Tryz.ntmps33
  go_wp2
  clear x0 y0 x1 y1 x2 y2 x3 y3 x4 y4 x5 y5 x6 y6 x7 y7 x8 y8 x9 y9 x10 y10 x11 y11
  go_loopw [3, 4, 5] (fun iv _ _ wr => ∃ (k : Nat) (ah g : Int), k ≤ l.length ∧ iv = .int .i64 k ∧ Hid (rowsC first last ((l.map (·.1)).drop k) ah g = tot) ∧ Hid (PrevIs l k ah) ∧ St W0 wr K (.raw hb #[.int .i64 base, .int .i64 leader, .bool app, .bool txn, .bool ctl, .int .i64 last, .int .i64 first, .int .i64 maxt, .int .i64 prod, .int .i64 epoch, .int .i64 sq, .slice q l.length cap] 24 :: L)) (fun iv _ _ _ => l.length - (intOf iv).toNat)
  case atStart => exact ⟨0, -1, first, Nat.zero_le _, rfl, HT, HP, H.out⟩
  case round =>
    obtain ⟨k, ah, g, hkl, rfl, HC, PR, hst⟩ := hrel
    clear H
    have H := Lib.hid hst
    clear hst
    obtain ⟨x0, x1, x2, x3, x4, x5, x6, x7, x8, x9, x10, x11, y0, y1, y2, y3, y4, y5, y6, y7, y8, y9, y10, y11⟩ := raw12 (b := hb) (H.out)
    by_cases hlt : k < l.length
    · have hd := drop_recs l k hlt _ rfl
      obtain ⟨b, off, hqq⟩ := recs_at HK.out H.out (by omega)
      subst hqq
      obtain ⟨⟨x, vx⟩, hx⟩ : ∃ x, l[k] = x := ⟨_, rfl⟩
      have cc := recs_cell HK.out H.out k hlt (x, vx) hx
      have hmem : (x, vx) ∈ l := hx ▸ List.getElem_mem hlt
      have xf : x.R ∧ HFit x.hdrs ∧ x.sum ≤ 1000000 := HFT.out (x, vx) hmem
      have xk : K.has (Know.flat RHdr vx 3 x.hdrs) := recs_hdrs HK.out hmem
      obtain ⟨qx, capx, hvx⟩ := flat_form xk H.out
      subst hvx
      simp only at cc
      obtain ⟨c0, c1, c2, c3, c4, c5, c6⟩ := cc
      rw [← Nat.add_assoc] at c1 c2 c3 c4 c5 c6
      have hx1 : l[k].1 = x := by rw [hx]
      have XF := Lib.hid xf
      have XK := Lib.hid xk
      have HX := Lib.hid hx1
      clear xf xk hx1 hx hmem
      have hki : (k : Int) < (l.length : Int) := by omega
      rw [HX.out] at hd
      have hc := HC.out
      rw [hd, rowsC_cons] at hc
      clear hd
      by_cases c2 : last < x.off
      · have d2 : decide (last < x.off) = true := decide_eq_true c2
        rw [if_pos (.inr c2)] at hc
        clear c2
        obtain rfl : 13 = e := by have := HE.out; rw [← hc] at this; exact this
        go_wp2
        go_ret
        exact ⟨rfl, H.out.drop⟩
      · have d2 : decide (last < x.off) = false := decide_eq_false c2
        have PR2 := Lib.hid (show 0 ≤ x.off → PrevIs l (k + 1) x.off from fun h0 => .inr ⟨k, hlt, rfl, by rw [HX.out], h0⟩)
        rcases PR.out with ⟨hk0, rfl⟩ | ⟨j, hj, hk1, hjo, ha0⟩
        · have dk : decide ((0 : Int) < (k : Int)) = false := decide_eq_false (by omega)
          have dk2 : decide (0 < k) = false := decide_eq_false (by omega)
          clear hk0
          by_cases c5 : x.off < 0
          · have d5 : decide (x.off < 0) = true := decide_eq_true c5
            rw [if_pos (.inl (by omega))] at hc
            clear c2 c5
            obtain rfl : 13 = e := by have := HE.out; rw [← hc] at this; exact this
            go_wp2
            go_ret
            exact ⟨rfl, H.out.drop⟩
          · have d5 : decide (x.off < 0) = false := decide_eq_false c5
            rw [if_neg (by omega)] at hc
            replace PR2 := Lib.hid (PR2.out (by omega))
            clear c2 c5
            by_cases c3 : 9223372036854775807 - first < x.time
            · have d3 : decide (mf < x.time) = true := by rw [← HMF.out]; exact decide_eq_true c3
              rw [if_pos (.inr c3)] at hc
              obtain rfl : 11 = e := by have := HE.out; rw [← hc] at this; exact this
              clear c3 hc
              go_wp2
              go_ret
              exact ⟨rfl, H.out.drop⟩
            · have d3 : decide (mf < x.time) = false := by rw [← HMF.out]; exact decide_eq_false c3
              by_cases c4 : x.time < -first
              · have d4 : decide (x.time < nf) = true := by rw [← HNF.out]; exact decide_eq_true c4
                rw [if_pos (.inl c4)] at hc
                obtain rfl : 11 = e := by have := HE.out; rw [← hc] at this; exact this
                clear c3 c4 hc
                go_wp2
                go_ret
                exact ⟨rfl, H.out.drop⟩
              · have d4 : decide (x.time < nf) = false := by rw [← HNF.out]; exact decide_eq_false c4
                rw [if_neg (by omega)] at hc
                have HC2 := Lib.hid hc
                clear c3 c4 hc
                go_wp2
                go_roundw
                case rel => exact ⟨k + 1, x.off, _, hlt, by go_num, HC2, PR2, H.out⟩
                case measure => first | (simp [intOf]; done) | (simp [intOf]; omega)
        · have dk : decide ((0 : Int) < (k : Int)) = true := decide_eq_true (by omega)
          have dk2 : decide (0 < k) = true := decide_eq_true (by omega)
          have kj : (k : Int) - 1 = (j : Int) := by omega
          obtain ⟨⟨y, vy⟩, hy⟩ : ∃ y, l[j] = y := ⟨_, rfl⟩
          have cy := recs_cell HK.out H.out j hj (y, vy) hy
          rw [hy] at hjo
          simp only at cy hjo
          obtain ⟨_, g1, _⟩ := cy
          rw [← Nat.add_assoc, hjo] at g1
          have hjl : (j : Int) < (l.length : Int) := by omega
          have hj0 : (0 : Int) ≤ (j : Int) := by omega
          clear hy hk1 hj
          by_cases c1 : x.off ≤ ah
          · have d1 : decide (x.off ≤ ah) = true := decide_eq_true c1
            rw [if_pos (.inl c1)] at hc
            clear c1 c2
            obtain rfl : 13 = e := by have := HE.out; rw [← hc] at this; exact this
            go_wp2
            go_ret
            exact ⟨rfl, H.out.drop⟩
          · have d1 : decide (x.off ≤ ah) = false := decide_eq_false c1
            have d5 : decide (x.off < 0) = false := decide_eq_false (by omega)
            rw [if_neg (by omega)] at hc
            replace PR2 := Lib.hid (PR2.out (by omega))
            clear c1 c2
            by_cases c3 : 9223372036854775807 - first < x.time
            · have d3 : decide (mf < x.time) = true := by rw [← HMF.out]; exact decide_eq_true c3
              rw [if_pos (.inr c3)] at hc
              obtain rfl : 11 = e := by have := HE.out; rw [← hc] at this; exact this
              clear c3 hc
              go_wp2
              go_ret
              exact ⟨rfl, H.out.drop⟩
            · have d3 : decide (mf < x.time) = false := by rw [← HMF.out]; exact decide_eq_false c3
              by_cases c4 : x.time < -first
              · have d4 : decide (x.time < nf) = true := by rw [← HNF.out]; exact decide_eq_true c4
                rw [if_pos (.inl c4)] at hc
                obtain rfl : 11 = e := by have := HE.out; rw [← hc] at this; exact this
                clear c3 c4 hc
                go_wp2
                go_ret
                exact ⟨rfl, H.out.drop⟩
              · have d4 : decide (x.time < nf) = false := by rw [← HNF.out]; exact decide_eq_false c4
                rw [if_neg (by omega)] at hc
                have HC2 := Lib.hid hc
                clear c3 c4 hc
                go_wp2
                go_roundw
                case rel => exact ⟨k + 1, x.off, _, hlt, by go_num, HC2, PR2, H.out⟩
                case measure => first | (simp [intOf]; done) | (simp [intOf]; omega)
    · obtain rfl : l.length = k := by omega
      have hc := HC.out
      rw [List.drop_of_length_le (by simp)] at hc
      obtain rfl : Except.ok g = tot := hc
      have hee := HE.out
      simp only [rowsE] at hee
      cases app with
      | true =>
        obtain rfl : 0 = e := by rw [← hee]; rfl
        clear hee
        go_upto_region 10 with (fail)
        have hs := H.out.drew
        refine wp_region_held_drew (S := fun w' => w'.cell? ⟨hb, 0, none⟩ = some (.int .i64 base) ∧ w'.cell? ⟨hb, 1, none⟩ = some (.int .i64 leader) ∧ w'.cell? ⟨hb, 2, none⟩ = some (.bool true) ∧ w'.cell? ⟨hb, 3, none⟩ = some (.bool txn) ∧ w'.cell? ⟨hb, 4, none⟩ = some (.bool ctl) ∧ w'.cell? ⟨hb, 5, none⟩ = some (.int .i64 last) ∧ w'.cell? ⟨hb, 6, none⟩ = some (.int .i64 first) ∧ w'.cell? ⟨hb, 7, none⟩ = some (.int .i64 maxt) ∧ w'.cell? ⟨hb, 8, none⟩ = some (.int .i64 prod) ∧ w'.cell? ⟨hb, 9, none⟩ = some (.int .i64 epoch) ∧ w'.cell? ⟨hb, 10, none⟩ = some (.int .i64 sq) ∧ w'.cell? ⟨hb, 11, none⟩ = some (.slice q l.length cap)) (by kernel_rfl) (let ⟨x0, x1, x2, x3, x4, x5, x6, x7, x8, x9, x10, x11, _⟩ := raw12 (b := hb) hs; ⟨x0, x1, x2, x3, x4, x5, x6, x7, x8, x9, x10, x11⟩) (fun hHeld => ?_)
        refine wpAnyH_take (i := 0) (oi := { dst := some 60, op := Op.fieldAddr 24 (Operand.tmp 1) 2, type := 0, pos := "ref.go:60", after := #[], guard := none }) (v := ?_) rfl (by kernel_rfl) (by kernel_rfl) (by kernel_rfl) (fun _ _ _ h => h) (Or.inl ⟨by rfl, ?_⟩) (by assumption) ?_
        rotate_left
        · intro w hSw; (try dsimp only at hSw); go_simp; try with_reducible rfl
        simp only [Act.put, List.setIfInBounds_toArray, List.set_cons_zero, List.set_cons_succ]
        refine wpAnyH_take (i := 1) (oi := { dst := some 61, op := Op.load 4 (Operand.tmp 60), type := 4, pos := "ref.go:60", after := #[{ on := 0, ground := Ground.data }], guard := none }) (v := ?_) rfl (by kernel_rfl) (by kernel_rfl) (by kernel_rfl) (fun _ _ _ h => h) (Or.inl ⟨by rfl, ?_⟩) (by assumption) ?_
        rotate_left
        · intro w hSw; (try dsimp only at hSw); go_simp; try with_reducible rfl
        simp only [Act.put, List.setIfInBounds_toArray, List.set_cons_zero, List.set_cons_succ]
        refine wpAnyH_take (i := 2) (oi := { dst := some 62, op := Op.unOp UnOp.not 4 (Operand.tmp 61), type := 4, pos := "ref.go:60", after := #[{ on := 1, ground := Ground.data }], guard := none }) (v := ?_) rfl (by kernel_rfl) (by kernel_rfl) (by kernel_rfl) (fun _ _ _ h => h) (Or.inl ⟨by rfl, ?_⟩) (by assumption) ?_
        rotate_left
        · intro w hSw; (try dsimp only at hSw); go_simp; try with_reducible rfl
        simp only [Act.put, List.setIfInBounds_toArray, List.set_cons_zero, List.set_cons_succ]
        refine wpAnyH_take (i := 3) (oi := { dst := some 63, op := Op.move (Operand.tmp 62), type := 4, pos := "ref.go:60", after := #[{ on := 2, ground := Ground.data }], guard := none }) (v := ?_) rfl (by kernel_rfl) (by kernel_rfl) (by kernel_rfl) (fun _ _ _ h => h) (Or.inl ⟨by rfl, ?_⟩) (by assumption) ?_
        rotate_left
        · intro w hSw; (try dsimp only at hSw); go_simp; try with_reducible rfl
        simp only [Act.put, List.setIfInBounds_toArray, List.set_cons_zero, List.set_cons_succ]
        refine wpAnyH_take (i := 4) (oi := { dst := some 64, op := Op.load 24 (Operand.tmp 1), type := 24, pos := "ref.go:60", after := #[{ on := 3, ground := Ground.guard }], guard := some (3, true) }) (v := undef) rfl (by kernel_rfl) (by kernel_rfl) (by kernel_rfl) (fun _ _ _ h => h) (Or.inr ⟨by rfl, rfl⟩) (by assumption) ?_
        simp only [Act.put, List.setIfInBounds_toArray, List.set_cons_zero, List.set_cons_succ]
        refine wpAnyH_take (i := 5) (oi := { dst := some 65, op := Op.call { callee := Callee.value (Operand.func 65), args := #[Operand.tmp 64], argTypes := #[24] }, type := 3, pos := "ref.go:60", after := #[{ on := 4, ground := Ground.data }, { on := 3, ground := Ground.chain }, { on := 3, ground := Ground.guard }], guard := some (3, true) }) (v := undef) rfl (by kernel_rfl) (by kernel_rfl) (by kernel_rfl) (fun _ _ _ h => h) (Or.inr ⟨by rfl, rfl⟩) (by assumption) ?_
        simp only [Act.put, List.setIfInBounds_toArray, List.set_cons_zero, List.set_cons_succ]
        refine wpAnyH_take (i := 6) (oi := { dst := some 66, op := Op.fieldAddr 24 (Operand.tmp 1) 7, type := 0, pos := "ref.go:60", after := #[{ on := 3, ground := Ground.guard }], guard := some (3, true) }) (v := undef) rfl (by kernel_rfl) (by kernel_rfl) (by kernel_rfl) (fun _ _ _ h => h) (Or.inr ⟨by rfl, rfl⟩) (by assumption) ?_
        simp only [Act.put, List.setIfInBounds_toArray, List.set_cons_zero, List.set_cons_succ]
        refine wpAnyH_take (i := 7) (oi := { dst := some 67, op := Op.load 3 (Operand.tmp 66), type := 3, pos := "ref.go:60", after := #[{ on := 6, ground := Ground.data }, { on := 3, ground := Ground.guard }], guard := some (3, true) }) (v := undef) rfl (by kernel_rfl) (by kernel_rfl) (by kernel_rfl) (fun _ _ _ h => h) (Or.inr ⟨by rfl, rfl⟩) (by assumption) ?_
        simp only [Act.put, List.setIfInBounds_toArray, List.set_cons_zero, List.set_cons_succ]
        refine wpAnyH_take (i := 8) (oi := { dst := some 68, op := Op.binOp BinOp.neq 3 (Operand.tmp 65) (Operand.tmp 67) 3, type := 4, pos := "ref.go:60", after := #[{ on := 5, ground := Ground.data }, { on := 7, ground := Ground.data }, { on := 3, ground := Ground.guard }], guard := some (3, true) }) (v := undef) rfl (by kernel_rfl) (by kernel_rfl) (by kernel_rfl) (fun _ _ _ h => h) (Or.inr ⟨by rfl, rfl⟩) (by assumption) ?_
        simp only [Act.put, List.setIfInBounds_toArray, List.set_cons_zero, List.set_cons_succ]
        refine wpAnyH_take (i := 9) (oi := { dst := some 69, op := Op.pick (Operand.tmp 63) (Operand.tmp 68) (Operand.const (Value.bool false)), type := 4, pos := "ref.go:60", after := #[{ on := 3, ground := Ground.data }, { on := 8, ground := Ground.data }], guard := none }) (v := ?_) rfl (by kernel_rfl) (by kernel_rfl) (by kernel_rfl) (fun _ _ _ h => h) (Or.inl ⟨by rfl, ?_⟩) (by assumption) ?_
        rotate_left
        · intro w hSw; (try dsimp only at hSw); go_simp; try with_reducible rfl
        simp only [Act.put, List.setIfInBounds_toArray, List.set_cons_zero, List.set_cons_succ]
        refine wpAnyH_done (by kernel_rfl) ?_ _
        clear hHeld
        go_wp2_with fail
        go_ret
        exact ⟨rfl, hs.drop⟩
      | false =>
        have HG := Lib.hid (show rowsC first last (l.map (·.1)) (-1) first = .ok g from HT.out)
        by_cases c1 : maxt = g
        · subst c1
          obtain rfl : 0 = e := by rw [← hee]; simp
          clear hee
          go_upto_region 10 with (fail)
          have hs := H.out.drew
          refine wp_region_held_drew (S := fun w' => w'.cell? ⟨hb, 0, none⟩ = some (.int .i64 base) ∧ w'.cell? ⟨hb, 1, none⟩ = some (.int .i64 leader) ∧ w'.cell? ⟨hb, 2, none⟩ = some (.bool false) ∧ w'.cell? ⟨hb, 3, none⟩ = some (.bool txn) ∧ w'.cell? ⟨hb, 4, none⟩ = some (.bool ctl) ∧ w'.cell? ⟨hb, 5, none⟩ = some (.int .i64 last) ∧ w'.cell? ⟨hb, 6, none⟩ = some (.int .i64 first) ∧ w'.cell? ⟨hb, 7, none⟩ = some (.int .i64 maxt) ∧ w'.cell? ⟨hb, 8, none⟩ = some (.int .i64 prod) ∧ w'.cell? ⟨hb, 9, none⟩ = some (.int .i64 epoch) ∧ w'.cell? ⟨hb, 10, none⟩ = some (.int .i64 sq) ∧ w'.cell? ⟨hb, 11, none⟩ = some (.slice q l.length cap)) (by kernel_rfl) (let ⟨x0, x1, x2, x3, x4, x5, x6, x7, x8, x9, x10, x11, _⟩ := raw12 (b := hb) hs; ⟨x0, x1, x2, x3, x4, x5, x6, x7, x8, x9, x10, x11⟩) (fun hHeld => ?_)
          refine wpAnyH_take (i := 0) (oi := { dst := some 60, op := Op.fieldAddr 24 (Operand.tmp 1) 2, type := 0, pos := "ref.go:60", after := #[], guard := none }) (v := ?_) rfl (by kernel_rfl) (by kernel_rfl) (by kernel_rfl) (fun _ _ _ h => h) (Or.inl ⟨by rfl, ?_⟩) (by assumption) ?_
          rotate_left
          · intro w hSw; (try dsimp only at hSw); go_simp; try with_reducible rfl
          simp only [Act.put, List.setIfInBounds_toArray, List.set_cons_zero, List.set_cons_succ]
          refine wpAnyH_take (i := 1) (oi := { dst := some 61, op := Op.load 4 (Operand.tmp 60), type := 4, pos := "ref.go:60", after := #[{ on := 0, ground := Ground.data }], guard := none }) (v := ?_) rfl (by kernel_rfl) (by kernel_rfl) (by kernel_rfl) (fun _ _ _ h => h) (Or.inl ⟨by rfl, ?_⟩) (by assumption) ?_
          rotate_left
          · intro w hSw; (try dsimp only at hSw); go_simp; try with_reducible rfl
          simp only [Act.put, List.setIfInBounds_toArray, List.set_cons_zero, List.set_cons_succ]
          refine wpAnyH_take (i := 2) (oi := { dst := some 62, op := Op.unOp UnOp.not 4 (Operand.tmp 61), type := 4, pos := "ref.go:60", after := #[{ on := 1, ground := Ground.data }], guard := none }) (v := ?_) rfl (by kernel_rfl) (by kernel_rfl) (by kernel_rfl) (fun _ _ _ h => h) (Or.inl ⟨by rfl, ?_⟩) (by assumption) ?_
          rotate_left
          · intro w hSw; (try dsimp only at hSw); go_simp; try with_reducible rfl
          simp only [Act.put, List.setIfInBounds_toArray, List.set_cons_zero, List.set_cons_succ]
          refine wpAnyH_take (i := 3) (oi := { dst := some 63, op := Op.move (Operand.tmp 62), type := 4, pos := "ref.go:60", after := #[{ on := 2, ground := Ground.data }], guard := none }) (v := ?_) rfl (by kernel_rfl) (by kernel_rfl) (by kernel_rfl) (fun _ _ _ h => h) (Or.inl ⟨by rfl, ?_⟩) (by assumption) ?_
          rotate_left
          · intro w hSw; (try dsimp only at hSw); go_simp; try with_reducible rfl
          simp only [Act.put, List.setIfInBounds_toArray, List.set_cons_zero, List.set_cons_succ]
          refine wpAnyH_take (i := 4) (oi := { dst := some 64, op := Op.load 24 (Operand.tmp 1), type := 24, pos := "ref.go:60", after := #[{ on := 3, ground := Ground.guard }], guard := some (3, true) }) (v := ?_) rfl (by kernel_rfl) (by kernel_rfl) (by kernel_rfl) (fun _ _ _ h => h) (Or.inl ⟨by rfl, ?_⟩) (by assumption) ?_
          rotate_left
          · intro w hSw; (try dsimp only at hSw); go_simp; try with_reducible rfl
          simp only [Act.put, List.setIfInBounds_toArray, List.set_cons_zero, List.set_cons_succ]
          refine wpAnyH_take (i := 6) (oi := { dst := some 66, op := Op.fieldAddr 24 (Operand.tmp 1) 7, type := 0, pos := "ref.go:60", after := #[{ on := 3, ground := Ground.guard }], guard := some (3, true) }) (v := ?_) rfl (by kernel_rfl) (by kernel_rfl) (by kernel_rfl) (fun _ _ _ h => h) (Or.inl ⟨by rfl, ?_⟩) (by assumption) ?_
          rotate_left
          · intro w hSw; (try dsimp only at hSw); go_simp; try with_reducible rfl
          simp only [Act.put, List.setIfInBounds_toArray, List.set_cons_zero, List.set_cons_succ]
          refine wpAnyH_take (i := 7) (oi := { dst := some 67, op := Op.load 3 (Operand.tmp 66), type := 3, pos := "ref.go:60", after := #[{ on := 6, ground := Ground.data }, { on := 3, ground := Ground.guard }], guard := some (3, true) }) (v := ?_) rfl (by kernel_rfl) (by kernel_rfl) (by kernel_rfl) (fun _ _ _ h => h) (Or.inl ⟨by rfl, ?_⟩) (by assumption) ?_
          rotate_left
          · intro w hSw; (try dsimp only at hSw); go_simp; try with_reducible rfl
          simp only [Act.put, List.setIfInBounds_toArray, List.set_cons_zero, List.set_cons_succ]
          refine wpAnyH_ready (rs := [5]) (by kernel_rfl) (by simp) (AllReadyH.cons (o := { dst := some 65, op := Op.call { callee := Callee.value (Operand.func 65), args := #[Operand.tmp 64], argTypes := #[24] }, type := 3, pos := "ref.go:60", after := #[{ on := 4, ground := Ground.data }, { on := 3, ground := Ground.chain }, { on := 3, ground := Ground.guard }], guard := some (3, true) }) rfl (fun KK hK => ?_) AllReadyH.nil)
          · go_simp
            go_at_call 65
            with_reducible refine (ref11_times base leader false txn ctl last first maxt prod epoch sq l _ _ _ HG.out HF.out HFT.out HLL.out HK.out hs).mono ?_
            rintro e wq ⟨rfl, hs⟩
            refine hK.out _ _ (let ⟨x0, x1, x2, x3, x4, x5, x6, x7, x8, x9, x10, x11, _⟩ := raw12 (b := hb) hs; ⟨x0, x1, x2, x3, x4, x5, x6, x7, x8, x9, x10, x11⟩) (fun hHeld => ?_)
            clear hK KK
            try simp only [Act.put, List.setIfInBounds_toArray, List.set_cons_zero, List.set_cons_succ]
            refine wpAnyH_take (i := 8) (oi := { dst := some 68, op := Op.binOp BinOp.neq 3 (Operand.tmp 65) (Operand.tmp 67) 3, type := 4, pos := "ref.go:60", after := #[{ on := 5, ground := Ground.data }, { on := 7, ground := Ground.data }, { on := 3, ground := Ground.guard }], guard := some (3, true) }) (v := ?_) rfl (by kernel_rfl) (by kernel_rfl) (by kernel_rfl) (fun _ _ _ h => h) (Or.inl ⟨by rfl, ?_⟩) (by assumption) ?_
            rotate_left
            · intro w hSw; (try dsimp only at hSw); go_simp; try with_reducible rfl
            simp only [Act.put, List.setIfInBounds_toArray, List.set_cons_zero, List.set_cons_succ]
            refine wpAnyH_take (i := 9) (oi := { dst := some 69, op := Op.pick (Operand.tmp 63) (Operand.tmp 68) (Operand.const (Value.bool false)), type := 4, pos := "ref.go:60", after := #[{ on := 3, ground := Ground.data }, { on := 8, ground := Ground.data }], guard := none }) (v := ?_) rfl (by kernel_rfl) (by kernel_rfl) (by kernel_rfl) (fun _ _ _ h => h) (Or.inl ⟨by rfl, ?_⟩) (by assumption) ?_
            rotate_left
            · intro w hSw; (try dsimp only at hSw); go_simp; try with_reducible rfl
            simp only [Act.put, List.setIfInBounds_toArray, List.set_cons_zero, List.set_cons_succ]
            refine wpAnyH_done (by kernel_rfl) ?_ _
            clear hHeld
            go_wp2_with fail
            go_ret
            exact ⟨rfl, hs.drop⟩
        · obtain rfl : 11 = e := by rw [← hee]; simp [c1]
          have b1 : (g == maxt) = false := by rw [beq_eq_false_iff_ne]; exact fun h => c1 h.symm
          have b2 : (g != maxt) = true := by simp [bne, b1]
          clear hee c1
          go_upto_region 10 with (fail)
          have hs := H.out.drew
          refine wp_region_held_drew (S := fun w' => w'.cell? ⟨hb, 0, none⟩ = some (.int .i64 base) ∧ w'.cell? ⟨hb, 1, none⟩ = some (.int .i64 leader) ∧ w'.cell? ⟨hb, 2, none⟩ = some (.bool false) ∧ w'.cell? ⟨hb, 3, none⟩ = some (.bool txn) ∧ w'.cell? ⟨hb, 4, none⟩ = some (.bool ctl) ∧ w'.cell? ⟨hb, 5, none⟩ = some (.int .i64 last) ∧ w'.cell? ⟨hb, 6, none⟩ = some (.int .i64 first) ∧ w'.cell? ⟨hb, 7, none⟩ = some (.int .i64 maxt) ∧ w'.cell? ⟨hb, 8, none⟩ = some (.int .i64 prod) ∧ w'.cell? ⟨hb, 9, none⟩ = some (.int .i64 epoch) ∧ w'.cell? ⟨hb, 10, none⟩ = some (.int .i64 sq) ∧ w'.cell? ⟨hb, 11, none⟩ = some (.slice q l.length cap)) (by kernel_rfl) (let ⟨x0, x1, x2, x3, x4, x5, x6, x7, x8, x9, x10, x11, _⟩ := raw12 (b := hb) hs; ⟨x0, x1, x2, x3, x4, x5, x6, x7, x8, x9, x10, x11⟩) (fun hHeld => ?_)
          refine wpAnyH_take (i := 0) (oi := { dst := some 60, op := Op.fieldAddr 24 (Operand.tmp 1) 2, type := 0, pos := "ref.go:60", after := #[], guard := none }) (v := ?_) rfl (by kernel_rfl) (by kernel_rfl) (by kernel_rfl) (fun _ _ _ h => h) (Or.inl ⟨by rfl, ?_⟩) (by assumption) ?_
          rotate_left
          · intro w hSw; (try dsimp only at hSw); go_simp; try with_reducible rfl
          simp only [Act.put, List.setIfInBounds_toArray, List.set_cons_zero, List.set_cons_succ]
          refine wpAnyH_take (i := 1) (oi := { dst := some 61, op := Op.load 4 (Operand.tmp 60), type := 4, pos := "ref.go:60", after := #[{ on := 0, ground := Ground.data }], guard := none }) (v := ?_) rfl (by kernel_rfl) (by kernel_rfl) (by kernel_rfl) (fun _ _ _ h => h) (Or.inl ⟨by rfl, ?_⟩) (by assumption) ?_
          rotate_left
          · intro w hSw; (try dsimp only at hSw); go_simp; try with_reducible rfl
          simp only [Act.put, List.setIfInBounds_toArray, List.set_cons_zero, List.set_cons_succ]
          refine wpAnyH_take (i := 2) (oi := { dst := some 62, op := Op.unOp UnOp.not 4 (Operand.tmp 61), type := 4, pos := "ref.go:60", after := #[{ on := 1, ground := Ground.data }], guard := none }) (v := ?_) rfl (by kernel_rfl) (by kernel_rfl) (by kernel_rfl) (fun _ _ _ h => h) (Or.inl ⟨by rfl, ?_⟩) (by assumption) ?_
          rotate_left
          · intro w hSw; (try dsimp only at hSw); go_simp; try with_reducible rfl
          simp only [Act.put, List.setIfInBounds_toArray, List.set_cons_zero, List.set_cons_succ]
          refine wpAnyH_take (i := 3) (oi := { dst := some 63, op := Op.move (Operand.tmp 62), type := 4, pos := "ref.go:60", after := #[{ on := 2, ground := Ground.data }], guard := none }) (v := ?_) rfl (by kernel_rfl) (by kernel_rfl) (by kernel_rfl) (fun _ _ _ h => h) (Or.inl ⟨by rfl, ?_⟩) (by assumption) ?_
          rotate_left
          · intro w hSw; (try dsimp only at hSw); go_simp; try with_reducible rfl
          simp only [Act.put, List.setIfInBounds_toArray, List.set_cons_zero, List.set_cons_succ]
          refine wpAnyH_take (i := 4) (oi := { dst := some 64, op := Op.load 24 (Operand.tmp 1), type := 24, pos := "ref.go:60", after := #[{ on := 3, ground := Ground.guard }], guard := some (3, true) }) (v := ?_) rfl (by kernel_rfl) (by kernel_rfl) (by kernel_rfl) (fun _ _ _ h => h) (Or.inl ⟨by rfl, ?_⟩) (by assumption) ?_
          rotate_left
          · intro w hSw; (try dsimp only at hSw); go_simp; try with_reducible rfl
          simp only [Act.put, List.setIfInBounds_toArray, List.set_cons_zero, List.set_cons_succ]
          refine wpAnyH_take (i := 6) (oi := { dst := some 66, op := Op.fieldAddr 24 (Operand.tmp 1) 7, type := 0, pos := "ref.go:60", after := #[{ on := 3, ground := Ground.guard }], guard := some (3, true) }) (v := ?_) rfl (by kernel_rfl) (by kernel_rfl) (by kernel_rfl) (fun _ _ _ h => h) (Or.inl ⟨by rfl, ?_⟩) (by assumption) ?_
          rotate_left
          · intro w hSw; (try dsimp only at hSw); go_simp; try with_reducible rfl
          simp only [Act.put, List.setIfInBounds_toArray, List.set_cons_zero, List.set_cons_succ]
          refine wpAnyH_take (i := 7) (oi := { dst := some 67, op := Op.load 3 (Operand.tmp 66), type := 3, pos := "ref.go:60", after := #[{ on := 6, ground := Ground.data }, { on := 3, ground := Ground.guard }], guard := some (3, true) }) (v := ?_) rfl (by kernel_rfl) (by kernel_rfl) (by kernel_rfl) (fun _ _ _ h => h) (Or.inl ⟨by rfl, ?_⟩) (by assumption) ?_
          rotate_left
          · intro w hSw; (try dsimp only at hSw); go_simp; try with_reducible rfl
          simp only [Act.put, List.setIfInBounds_toArray, List.set_cons_zero, List.set_cons_succ]
          refine wpAnyH_ready (rs := [5]) (by kernel_rfl) (by simp) (AllReadyH.cons (o := { dst := some 65, op := Op.call { callee := Callee.value (Operand.func 65), args := #[Operand.tmp 64], argTypes := #[24] }, type := 3, pos := "ref.go:60", after := #[{ on := 4, ground := Ground.data }, { on := 3, ground := Ground.chain }, { on := 3, ground := Ground.guard }], guard := some (3, true) }) rfl (fun KK hK => ?_) AllReadyH.nil)
          · go_simp
            go_at_call 65
            with_reducible refine (ref11_times base leader false txn ctl last first maxt prod epoch sq l _ _ _ HG.out HF.out HFT.out HLL.out HK.out hs).mono ?_
            rintro e wq ⟨rfl, hs⟩
            refine hK.out _ _ (let ⟨x0, x1, x2, x3, x4, x5, x6, x7, x8, x9, x10, x11, _⟩ := raw12 (b := hb) hs; ⟨x0, x1, x2, x3, x4, x5, x6, x7, x8, x9, x10, x11⟩) (fun hHeld => ?_)
            clear hK KK
            try simp only [Act.put, List.setIfInBounds_toArray, List.set_cons_zero, List.set_cons_succ]
            refine wpAnyH_take (i := 8) (oi := { dst := some 68, op := Op.binOp BinOp.neq 3 (Operand.tmp 65) (Operand.tmp 67) 3, type := 4, pos := "ref.go:60", after := #[{ on := 5, ground := Ground.data }, { on := 7, ground := Ground.data }, { on := 3, ground := Ground.guard }], guard := some (3, true) }) (v := ?_) rfl (by kernel_rfl) (by kernel_rfl) (by kernel_rfl) (fun _ _ _ h => h) (Or.inl ⟨by rfl, ?_⟩) (by assumption) ?_
            rotate_left
            · intro w hSw; (try dsimp only at hSw); go_simp; try with_reducible rfl
            simp only [Act.put, List.setIfInBounds_toArray, List.set_cons_zero, List.set_cons_succ]
            refine wpAnyH_take (i := 9) (oi := { dst := some 69, op := Op.pick (Operand.tmp 63) (Operand.tmp 68) (Operand.const (Value.bool false)), type := 4, pos := "ref.go:60", after := #[{ on := 3, ground := Ground.data }, { on := 8, ground := Ground.data }], guard := none }) (v := ?_) rfl (by kernel_rfl) (by kernel_rfl) (by kernel_rfl) (fun _ _ _ h => h) (Or.inl ⟨by rfl, ?_⟩) (by assumption) ?_
            rotate_left
            · intro w hSw; (try dsimp only at hSw); go_simp; try with_reducible rfl
            simp only [Act.put, List.setIfInBounds_toArray, List.set_cons_zero, List.set_cons_succ]
            refine wpAnyH_done (by kernel_rfl) ?_ _
            clear hHeld
            go_wp2_with fail
            go_ret
            exact ⟨rfl, hs.drop⟩

end Go.Proofs.YtcjgdlfcfcabiaaGreat

/- Batches: the reference: producers. -/
namespace Go.Proofs.YtcjgdlfcfcabiaaGreat
open Go.RowKit

set_option maxHeartbeats 1000000 in
set_option maxRecDepth 100000 in
theorem ref11_int32s (n lo : Int) (r : Bool) (hr : decide (lo ≤ n ∧ n ≤ 2147483647) = r) {W0 w : World} {K : Know} {L : List Res} (h : St W0 w K L) :
    Calls Tryz.prog 29 #[.int .i64 n, .int .i64 lo] w fun en w' => en = .returned (.bool r) ∧ St W0 w' K L := by
  have H := Lib.hid h
  clear h
  by_cases h1 : lo ≤ n
  · have d1 : decide (lo ≤ n) = true := decide_eq_true h1
    by_cases h2 : n ≤ 2147483647
    · have d2 : decide (n ≤ 2147483647) = true := decide_eq_true h2
      obtain rfl : true = r := (decide_eq_true ⟨h1, h2⟩).symm.trans hr
      clear h1 h2
      go_enter Tryz.func29, Tryz.ntmps29
      go_wp2
      go_ret
      exact ⟨rfl, H.out⟩
    · have d2 : decide (n ≤ 2147483647) = false := decide_eq_false h2
      obtain rfl : false = r := (decide_eq_false (fun x => h2 x.2)).symm.trans hr
      clear h1 h2
      go_enter Tryz.func29, Tryz.ntmps29
      go_wp2
      go_ret
      exact ⟨rfl, H.out⟩
  · have d1 : decide (lo ≤ n) = false := decide_eq_false h1
    obtain rfl : false = r := (decide_eq_false (fun x => h1 x.1)).symm.trans hr
    clear h1
    go_enter Tryz.func29, Tryz.ntmps29
    go_wp2
    go_ret
    exact ⟨rfl, H.out⟩

set_option maxHeartbeats 1000000 in
set_option maxRecDepth 100000 in
theorem ref11_producer (base leader : Int) (app txn ctl : Bool) (last first maxt prod epoch sq : Int) (rv : Value) (r : Bool) (hr : (if prod = -1 then decide (epoch = -1 ∧ sq = -1 ∧ txn = false) else if prod < 0 ∨ ¬ (0 ≤ epoch ∧ epoch ≤ 32767) then false else if ctl then decide (sq = -1) else decide (0 ≤ sq ∧ sq ≤ 2147483647)) = r) {W0 w : World} {K : Know} {L : List Res} (h : St W0 w K L) :
    Calls Tryz.prog 30 #[.agg #[.int .i64 base, .int .i64 leader, .bool app, .bool txn, .bool ctl, .int .i64 last, .int .i64 first, .int .i64 maxt, .int .i64 prod, .int .i64 epoch, .int .i64 sq, rv]] w fun en w' => en = .returned (.bool r) ∧ St W0 w' K L := by
  have h1 := h.allocRaw #[.int .i64 base, .int .i64 leader, .bool app, .bool txn, .bool ctl, .int .i64 last, .int .i64 first, .int .i64 maxt, .int .i64 prod, .int .i64 epoch, .int .i64 sq, rv] 24
  obtain ⟨hb, hhb⟩ : ∃ b, w.heap.size = b := ⟨_, rfl⟩
  rw [hhb] at h1
  obtain ⟨x0, x1, x2, x3, x4, x5, x6, x7, x8, x9, x10, x11, y0, y1, y2, y3, y4, y5, y6, y7, y8, y9, y10, y11⟩ := raw12 (b := hb) (h1)
  have H := Lib.hid h1
  clear h h1
  by_cases c0 : prod = -1
  · rw [if_pos c0] at hr
    subst c0
    by_cases c1 : epoch = -1
    · subst c1
      by_cases c2 : sq = -1
      · subst c2
        obtain rfl : (!txn) = r := by rw [← hr]; cases txn <;> rfl
        clear hr
        go_enter Tryz.func30, Tryz.ntmps30
        go_wp2
        go_ret
        exact ⟨rfl, H.out.drop⟩
      · obtain rfl : false = r := by rw [← hr]; exact (decide_eq_false (fun x => c2 x.2.1)).symm
        have b2 : (sq == -1) = false := by rw [beq_eq_false_iff_ne]; exact c2
        clear hr c2
        go_enter Tryz.func30, Tryz.ntmps30
        go_wp2
        go_ret
        exact ⟨rfl, H.out.drop⟩
    · obtain rfl : false = r := by rw [← hr]; exact (decide_eq_false (fun x => c1 x.1)).symm
      have b1 : (epoch == -1) = false := by rw [beq_eq_false_iff_ne]; exact c1
      clear hr c1
      go_enter Tryz.func30, Tryz.ntmps30
      go_wp2
      go_ret
      exact ⟨rfl, H.out.drop⟩
  · rw [if_neg c0] at hr
    have b0 : (prod == -1) = false := by rw [beq_eq_false_iff_ne]; exact c0
    by_cases c1 : prod < 0
    · rw [if_pos (.inl c1)] at hr
      subst hr
      have d1 : decide (prod < 0) = true := decide_eq_true c1
      clear c0 c1
      go_enter Tryz.func30, Tryz.ntmps30
      go_wp2
      go_ret
      exact ⟨rfl, H.out.drop⟩
    · have d1 : decide (prod < 0) = false := decide_eq_false c1
      by_cases c2 : epoch < 0
      · rw [if_pos (.inr (by omega))] at hr
        subst hr
        have d2 : decide (epoch < 0) = true := decide_eq_true c2
        clear c0 c1 c2
        go_enter Tryz.func30, Tryz.ntmps30
        go_wp2
        go_ret
        exact ⟨rfl, H.out.drop⟩
      · have d2 : decide (epoch < 0) = false := decide_eq_false c2
        by_cases c3 : 32767 < epoch
        · rw [if_pos (.inr (by omega))] at hr
          subst hr
          have d3 : decide ((32767 : Int) < epoch) = true := decide_eq_true c3
          clear c0 c1 c2 c3
          go_enter Tryz.func30, Tryz.ntmps30
          go_wp2
          go_ret
          exact ⟨rfl, H.out.drop⟩
        · have d3 : decide ((32767 : Int) < epoch) = false := decide_eq_false c3
          rw [if_neg (by rintro (x | x); exact c1 x; exact x (by omega))] at hr
          clear c0 c1 c2 c3
          cases ctl with
          | true =>
            obtain rfl : (sq == -1) = r := by rw [← hr]; rfl
            clear hr
            go_enter Tryz.func30, Tryz.ntmps30
            go_wp2
            go_ret
            exact ⟨rfl, H.out.drop⟩
          | false =>
            have HS := Lib.hid (show decide (0 ≤ sq ∧ sq ≤ 2147483647) = r from hr)
            clear hr
            go_enter Tryz.func30, Tryz.ntmps30
            go_wp2_with (go_at_call 29; (with_reducible refine (ref11_int32s sq 0 _ HS.out H.out).mono ?_); rintro e_ wn ⟨rfl, h⟩; replace H := Lib.hid h; clear h; obtain ⟨x0, x1, x2, x3, x4, x5, x6, x7, x8, x9, x10, x11, y0, y1, y2, y3, y4, y5, y6, y7, y8, y9, y10, y11⟩ := raw12 (b := hb) (H.out))
            go_ret
            exact ⟨rfl, H.out.drop⟩

end Go.Proofs.YtcjgdlfcfcabiaaGreat

/- Batches: the reference: which may be. -/
namespace Go.Proofs.YtcjgdlfcfcabiaaGreat
open Go.RowKit

set_option maxHeartbeats 1000000 in
set_option maxRecDepth 100000 in
theorem ref11_check (base leader : Int) (app txn ctl : Bool) (last first maxt prod epoch sq : Int) (l : List (RecS × Value)) (q : Option Addr) (cap : Nat) (e : Int) (he : batErr ⟨base, leader, app, txn, ctl, last, first, maxt, prod, epoch, sq, l.map (·.1)⟩ = e) (hmx : first ≤ 9223372036854775807) (hb0 : Rn base) (hfit : FitB l) (hll : l.length ≤ 1000000) {W0 w : World} {K : Know} {L : List Res} (hk : K.has (Know.recs (.slice q l.length cap) l)) (h : St W0 w K L) :
    Calls Tryz.prog 9 #[.agg #[.int .i64 base, .int .i64 leader, .bool app, .bool txn, .bool ctl, .int .i64 last, .int .i64 first, .int .i64 maxt, .int .i64 prod, .int .i64 epoch, .int .i64 sq, .slice q l.length cap]] w fun en w' => en = .returned (.int .i64 e) ∧ St W0 w' K L := by
  have HK := Lib.hid hk
  have HFT := Lib.hid hfit
  have HLL := Lib.hid hll
  unfold Rn at hb0
  have h1 := h.allocRaw #[.int .i64 base, .int .i64 leader, .bool app, .bool txn, .bool ctl, .int .i64 last, .int .i64 first, .int .i64 maxt, .int .i64 prod, .int .i64 epoch, .int .i64 sq, .slice q l.length cap] 24
  obtain ⟨hb, hhb⟩ : ∃ b, w.heap.size = b := ⟨_, rfl⟩
  rw [hhb] at h1
  obtain ⟨x0, x1, x2, x3, x4, x5, x6, x7, x8, x9, x10, x11, y0, y1, y2, y3, y4, y5, y6, y7, y8, y9, y10, y11⟩ := raw12 (b := hb) (h1)
  have H := Lib.hid h1
  clear h h1 hk hfit
  unfold batErr at he
  simp only [List.length_map] at he
  by_cases p1 : BatS.placed ⟨base, leader, app, txn, ctl, last, first, maxt, prod, epoch, sq, l.map (·.1)⟩ = false
  · rw [if_pos p1] at he
    subst he
    by_cases g0 : 0 ≤ base
    case neg =>
      have d0 : decide (base < 0) = true := decide_eq_true (by omega)
      clear g0
      clear p1 hmx hll hb0
      go_enter Tryz.func9, Tryz.ntmps9
      go_wp2_with (first
    | (go_at_call 29; (with_reducible refine (ref11_int32s leader (-1) _ HW1.out H.out).mono ?_); rintro e_ wn ⟨rfl, h⟩; replace H := Lib.hid h; clear h; obtain ⟨x0, x1, x2, x3, x4, x5, x6, x7, x8, x9, x10, x11, y0, y1, y2, y3, y4, y5, y6, y7, y8, y9, y10, y11⟩ := raw12 (b := hb) (H.out))
    | (go_at_call 29; (with_reducible refine (ref11_int32s last 0 _ HW2.out H.out).mono ?_); rintro e_ wn ⟨rfl, h⟩; replace H := Lib.hid h; clear h; obtain ⟨x0, x1, x2, x3, x4, x5, x6, x7, x8, x9, x10, x11, y0, y1, y2, y3, y4, y5, y6, y7, y8, y9, y10, y11⟩ := raw12 (b := hb) (H.out)))
      go_ret
      exact ⟨rfl, H.out.drop⟩
    by_cases g1 : -1 ≤ leader ∧ leader ≤ 2147483647
    case neg =>
      have d0 : decide (base < 0) = false := decide_eq_false (by omega)
      have HW1 := Lib.hid (show decide (-1 ≤ leader ∧ leader ≤ 2147483647) = false from decide_eq_false g1)
      clear g0 g1
      clear p1 hmx hll hb0
      go_enter Tryz.func9, Tryz.ntmps9
      go_wp2_with (first
    | (go_at_call 29; (with_reducible refine (ref11_int32s leader (-1) _ HW1.out H.out).mono ?_); rintro e_ wn ⟨rfl, h⟩; replace H := Lib.hid h; clear h; obtain ⟨x0, x1, x2, x3, x4, x5, x6, x7, x8, x9, x10, x11, y0, y1, y2, y3, y4, y5, y6, y7, y8, y9, y10, y11⟩ := raw12 (b := hb) (H.out))
    | (go_at_call 29; (with_reducible refine (ref11_int32s last 0 _ HW2.out H.out).mono ?_); rintro e_ wn ⟨rfl, h⟩; replace H := Lib.hid h; clear h; obtain ⟨x0, x1, x2, x3, x4, x5, x6, x7, x8, x9, x10, x11, y0, y1, y2, y3, y4, y5, y6, y7, y8, y9, y10, y11⟩ := raw12 (b := hb) (H.out)))
      go_ret
      exact ⟨rfl, H.out.drop⟩
    by_cases g2 : 0 ≤ last ∧ last ≤ 2147483647
    case neg =>
      have d0 : decide (base < 0) = false := decide_eq_false (by omega)
      have HW1 := Lib.hid (show decide (-1 ≤ leader ∧ leader ≤ 2147483647) = true from decide_eq_true g1)
      have HW2 := Lib.hid (show decide (0 ≤ last ∧ last ≤ 2147483647) = false from decide_eq_false g2)
      clear g0 g1 g2
      clear p1 hmx hll hb0
      go_enter Tryz.func9, Tryz.ntmps9
      go_wp2_with (first
    | (go_at_call 29; (with_reducible refine (ref11_int32s leader (-1) _ HW1.out H.out).mono ?_); rintro e_ wn ⟨rfl, h⟩; replace H := Lib.hid h; clear h; obtain ⟨x0, x1, x2, x3, x4, x5, x6, x7, x8, x9, x10, x11, y0, y1, y2, y3, y4, y5, y6, y7, y8, y9, y10, y11⟩ := raw12 (b := hb) (H.out))
    | (go_at_call 29; (with_reducible refine (ref11_int32s last 0 _ HW2.out H.out).mono ?_); rintro e_ wn ⟨rfl, h⟩; replace H := Lib.hid h; clear h; obtain ⟨x0, x1, x2, x3, x4, x5, x6, x7, x8, x9, x10, x11, y0, y1, y2, y3, y4, y5, y6, y7, y8, y9, y10, y11⟩ := raw12 (b := hb) (H.out)))
      go_ret
      exact ⟨rfl, H.out.drop⟩
    by_cases g3 : base ≤ 9223372036854775807 - last
    case neg =>
      have d0 : decide (base < 0) = false := decide_eq_false (by omega)
      have HW1 := Lib.hid (show decide (-1 ≤ leader ∧ leader ≤ 2147483647) = true from decide_eq_true g1)
      have HW2 := Lib.hid (show decide (0 ≤ last ∧ last ≤ 2147483647) = true from decide_eq_true g2)
      obtain ⟨ml, hml⟩ : ∃ ml, 9223372036854775807 - base = ml := ⟨_, rfl⟩
      have wl : wrap64 (9223372036854775807 - base) = ml := by rw [← hml]; unfold wrap64; omega
      have wl2 : IntKind.i64.wrap (9223372036854775807 - base) = ml := by rw [← hml]; exact IntWalk.i64_in _ (by omega)
      have d3 : decide (ml < last) = true := by rw [← hml]; exact decide_eq_true (by omega)
      clear g0 g1 g2 g3 hml
      clear p1 hmx hll hb0
      go_enter Tryz.func9, Tryz.ntmps9
      go_wp2_with (first
    | (go_at_call 29; (with_reducible refine (ref11_int32s leader (-1) _ HW1.out H.out).mono ?_); rintro e_ wn ⟨rfl, h⟩; replace H := Lib.hid h; clear h; obtain ⟨x0, x1, x2, x3, x4, x5, x6, x7, x8, x9, x10, x11, y0, y1, y2, y3, y4, y5, y6, y7, y8, y9, y10, y11⟩ := raw12 (b := hb) (H.out))
    | (go_at_call 29; (with_reducible refine (ref11_int32s last 0 _ HW2.out H.out).mono ?_); rintro e_ wn ⟨rfl, h⟩; replace H := Lib.hid h; clear h; obtain ⟨x0, x1, x2, x3, x4, x5, x6, x7, x8, x9, x10, x11, y0, y1, y2, y3, y4, y5, y6, y7, y8, y9, y10, y11⟩ := raw12 (b := hb) (H.out)))
      go_ret
      exact ⟨rfl, H.out.drop⟩
    by_cases g4 : 0 ≤ first
    case neg =>
      have d0 : decide (base < 0) = false := decide_eq_false (by omega)
      have HW1 := Lib.hid (show decide (-1 ≤ leader ∧ leader ≤ 2147483647) = true from decide_eq_true g1)
      have HW2 := Lib.hid (show decide (0 ≤ last ∧ last ≤ 2147483647) = true from decide_eq_true g2)
      obtain ⟨ml, hml⟩ : ∃ ml, 9223372036854775807 - base = ml := ⟨_, rfl⟩
      have wl : wrap64 (9223372036854775807 - base) = ml := by rw [← hml]; unfold wrap64; omega
      have wl2 : IntKind.i64.wrap (9223372036854775807 - base) = ml := by rw [← hml]; exact IntWalk.i64_in _ (by omega)
      have d3 : decide (ml < last) = false := by rw [← hml]; exact decide_eq_false (by omega)
      have d4 : decide (first < 0) = true := decide_eq_true (by omega)
      clear g0 g1 g2 g3 g4 hml
      clear p1 hmx hll hb0
      go_enter Tryz.func9, Tryz.ntmps9
      go_wp2_with (first
    | (go_at_call 29; (with_reducible refine (ref11_int32s leader (-1) _ HW1.out H.out).mono ?_); rintro e_ wn ⟨rfl, h⟩; replace H := Lib.hid h; clear h; obtain ⟨x0, x1, x2, x3, x4, x5, x6, x7, x8, x9, x10, x11, y0, y1, y2, y3, y4, y5, y6, y7, y8, y9, y10, y11⟩ := raw12 (b := hb) (H.out))
    | (go_at_call 29; (with_reducible refine (ref11_int32s last 0 _ HW2.out H.out).mono ?_); rintro e_ wn ⟨rfl, h⟩; replace H := Lib.hid h; clear h; obtain ⟨x0, x1, x2, x3, x4, x5, x6, x7, x8, x9, x10, x11, y0, y1, y2, y3, y4, y5, y6, y7, y8, y9, y10, y11⟩ := raw12 (b := hb) (H.out)))
      go_ret
      exact ⟨rfl, H.out.drop⟩
    by_cases g5 : 0 ≤ maxt
    case neg =>
      have d0 : decide (base < 0) = false := decide_eq_false (by omega)
      have HW1 := Lib.hid (show decide (-1 ≤ leader ∧ leader ≤ 2147483647) = true from decide_eq_true g1)
      have HW2 := Lib.hid (show decide (0 ≤ last ∧ last ≤ 2147483647) = true from decide_eq_true g2)
      obtain ⟨ml, hml⟩ : ∃ ml, 9223372036854775807 - base = ml := ⟨_, rfl⟩
      have wl : wrap64 (9223372036854775807 - base) = ml := by rw [← hml]; unfold wrap64; omega
      have wl2 : IntKind.i64.wrap (9223372036854775807 - base) = ml := by rw [← hml]; exact IntWalk.i64_in _ (by omega)
      have d3 : decide (ml < last) = false := by rw [← hml]; exact decide_eq_false (by omega)
      have d4 : decide (first < 0) = false := decide_eq_false (by omega)
      have d5 : decide (maxt < 0) = true := decide_eq_true (by omega)
      clear g0 g1 g2 g3 g4 g5 hml
      clear p1 hmx hll hb0
      go_enter Tryz.func9, Tryz.ntmps9
      go_wp2_with (first
    | (go_at_call 29; (with_reducible refine (ref11_int32s leader (-1) _ HW1.out H.out).mono ?_); rintro e_ wn ⟨rfl, h⟩; replace H := Lib.hid h; clear h; obtain ⟨x0, x1, x2, x3, x4, x5, x6, x7, x8, x9, x10, x11, y0, y1, y2, y3, y4, y5, y6, y7, y8, y9, y10, y11⟩ := raw12 (b := hb) (H.out))
    | (go_at_call 29; (with_reducible refine (ref11_int32s last 0 _ HW2.out H.out).mono ?_); rintro e_ wn ⟨rfl, h⟩; replace H := Lib.hid h; clear h; obtain ⟨x0, x1, x2, x3, x4, x5, x6, x7, x8, x9, x10, x11, y0, y1, y2, y3, y4, y5, y6, y7, y8, y9, y10, y11⟩ := raw12 (b := hb) (H.out)))
      go_ret
      exact ⟨rfl, H.out.drop⟩
    exact absurd (show BatS.placed ⟨base, leader, app, txn, ctl, last, first, maxt, prod, epoch, sq, l.map (·.1)⟩ = true from decide_eq_true ⟨g0, g1, g2, g3, g4, g5⟩) (by rw [p1]; decide)
  rw [if_neg p1] at he
  have p2 : BatS.placed ⟨base, leader, app, txn, ctl, last, first, maxt, prod, epoch, sq, l.map (·.1)⟩ = true := by cases hh : BatS.placed ⟨base, leader, app, txn, ctl, last, first, maxt, prod, epoch, sq, l.map (·.1)⟩ with
    | false => exact absurd hh p1
    | true => rfl
  obtain ⟨g0, g1, g2, g3, g4, g5⟩ := of_decide_eq_true (show decide (0 ≤ base ∧ (-1 ≤ leader ∧ leader ≤ 2147483647) ∧ (0 ≤ last ∧ last ≤ 2147483647) ∧ base ≤ 9223372036854775807 - last ∧ 0 ≤ first ∧ 0 ≤ maxt) = true from p2)
  have HFP := Lib.hid (show 0 ≤ first ∧ first ≤ 9223372036854775807 from ⟨g4, hmx⟩)
  have d0 : decide (base < 0) = false := decide_eq_false (by omega)
  have HW1 := Lib.hid (show decide (-1 ≤ leader ∧ leader ≤ 2147483647) = true from decide_eq_true g1)
  have HW2 := Lib.hid (show decide (0 ≤ last ∧ last ≤ 2147483647) = true from decide_eq_true g2)
  obtain ⟨ml, hml⟩ : ∃ ml, 9223372036854775807 - base = ml := ⟨_, rfl⟩
  have wl : wrap64 (9223372036854775807 - base) = ml := by rw [← hml]; unfold wrap64; omega
  have wl2 : IntKind.i64.wrap (9223372036854775807 - base) = ml := by rw [← hml]; exact IntWalk.i64_in _ (by omega)
  have d3 : decide (ml < last) = false := by rw [← hml]; exact decide_eq_false (by omega)
  have d4 : decide (first < 0) = false := decide_eq_false (by omega)
  have d5 : decide (maxt < 0) = false := decide_eq_false (by omega)
  clear g0 g1 g2 g3 g4 g5 hml
  clear p1 p2 hmx hb0
  by_cases c1 : ctl = true ∧ txn = false
  · rw [if_pos c1] at he
    subst he
    obtain ⟨rfl, rfl⟩ := c1
    clear hll
    go_enter Tryz.func9, Tryz.ntmps9
    go_wp2_with (first
    | (go_at_call 29; (with_reducible refine (ref11_int32s leader (-1) _ HW1.out H.out).mono ?_); rintro e_ wn ⟨rfl, h⟩; replace H := Lib.hid h; clear h; obtain ⟨x0, x1, x2, x3, x4, x5, x6, x7, x8, x9, x10, x11, y0, y1, y2, y3, y4, y5, y6, y7, y8, y9, y10, y11⟩ := raw12 (b := hb) (H.out))
    | (go_at_call 29; (with_reducible refine (ref11_int32s last 0 _ HW2.out H.out).mono ?_); rintro e_ wn ⟨rfl, h⟩; replace H := Lib.hid h; clear h; obtain ⟨x0, x1, x2, x3, x4, x5, x6, x7, x8, x9, x10, x11, y0, y1, y2, y3, y4, y5, y6, y7, y8, y9, y10, y11⟩ := raw12 (b := hb) (H.out)))
    go_ret
    exact ⟨rfl, H.out.drop⟩
  rw [if_neg c1] at he
  by_cases s1 : BatS.signed ⟨base, leader, app, txn, ctl, last, first, maxt, prod, epoch, sq, l.map (·.1)⟩ = false
  · rw [if_pos s1] at he
    subst he
    have HS := Lib.hid (show (if prod = -1 then decide (epoch = -1 ∧ sq = -1 ∧ txn = false) else if prod < 0 ∨ ¬ (0 ≤ epoch ∧ epoch ≤ 32767) then false else if ctl then decide (sq = -1) else decide (0 ≤ sq ∧ sq ≤ 2147483647)) = false from s1)
    clear s1 hll
    cases ctl with
    | false =>
      go_enter Tryz.func9, Tryz.ntmps9
      go_wp2_with (first
    | (go_at_call 29; (with_reducible refine (ref11_int32s leader (-1) _ HW1.out H.out).mono ?_); rintro e_ wn ⟨rfl, h⟩; replace H := Lib.hid h; clear h; obtain ⟨x0, x1, x2, x3, x4, x5, x6, x7, x8, x9, x10, x11, y0, y1, y2, y3, y4, y5, y6, y7, y8, y9, y10, y11⟩ := raw12 (b := hb) (H.out))
    | (go_at_call 29; (with_reducible refine (ref11_int32s last 0 _ HW2.out H.out).mono ?_); rintro e_ wn ⟨rfl, h⟩; replace H := Lib.hid h; clear h; obtain ⟨x0, x1, x2, x3, x4, x5, x6, x7, x8, x9, x10, x11, y0, y1, y2, y3, y4, y5, y6, y7, y8, y9, y10, y11⟩ := raw12 (b := hb) (H.out))
    | (go_at_call 30; (with_reducible refine (ref11_producer _ _ _ _ _ _ _ _ _ _ _ _ _ HS.out H.out).mono ?_); rintro e_ wn ⟨rfl, h⟩; replace H := Lib.hid h; clear h; obtain ⟨x0, x1, x2, x3, x4, x5, x6, x7, x8, x9, x10, x11, y0, y1, y2, y3, y4, y5, y6, y7, y8, y9, y10, y11⟩ := raw12 (b := hb) (H.out)))
      go_ret
      exact ⟨rfl, H.out.drop⟩
    | true =>
      cases txn with
      | false => exact absurd ⟨rfl, rfl⟩ c1
      | true =>
        clear c1
        go_enter Tryz.func9, Tryz.ntmps9
        go_wp2_with (first
    | (go_at_call 29; (with_reducible refine (ref11_int32s leader (-1) _ HW1.out H.out).mono ?_); rintro e_ wn ⟨rfl, h⟩; replace H := Lib.hid h; clear h; obtain ⟨x0, x1, x2, x3, x4, x5, x6, x7, x8, x9, x10, x11, y0, y1, y2, y3, y4, y5, y6, y7, y8, y9, y10, y11⟩ := raw12 (b := hb) (H.out))
    | (go_at_call 29; (with_reducible refine (ref11_int32s last 0 _ HW2.out H.out).mono ?_); rintro e_ wn ⟨rfl, h⟩; replace H := Lib.hid h; clear h; obtain ⟨x0, x1, x2, x3, x4, x5, x6, x7, x8, x9, x10, x11, y0, y1, y2, y3, y4, y5, y6, y7, y8, y9, y10, y11⟩ := raw12 (b := hb) (H.out))
    | (go_at_call 30; (with_reducible refine (ref11_producer _ _ _ _ _ _ _ _ _ _ _ _ _ HS.out H.out).mono ?_); rintro e_ wn ⟨rfl, h⟩; replace H := Lib.hid h; clear h; obtain ⟨x0, x1, x2, x3, x4, x5, x6, x7, x8, x9, x10, x11, y0, y1, y2, y3, y4, y5, y6, y7, y8, y9, y10, y11⟩ := raw12 (b := hb) (H.out)))
        go_ret
        exact ⟨rfl, H.out.drop⟩
  rw [if_neg s1] at he
  have s2 : BatS.signed ⟨base, leader, app, txn, ctl, last, first, maxt, prod, epoch, sq, l.map (·.1)⟩ = true := by cases hh : BatS.signed ⟨base, leader, app, txn, ctl, last, first, maxt, prod, epoch, sq, l.map (·.1)⟩ with
    | false => exact absurd hh s1
    | true => rfl
  have HS := Lib.hid (show (if prod = -1 then decide (epoch = -1 ∧ sq = -1 ∧ txn = false) else if prod < 0 ∨ ¬ (0 ≤ epoch ∧ epoch ≤ 32767) then false else if ctl then decide (sq = -1) else decide (0 ≤ sq ∧ sq ≤ 2147483647)) = true from s2)
  clear s1 s2
  cases ctl with
  | false =>
    rw [if_neg (fun h => by cases h.1)] at he
    obtain ⟨tot, htot⟩ : ∃ t, recsC (l.map (·.1)) = t := ⟨_, rfl⟩
    rw [htot] at he
    have HTE := Lib.hid (show tot ≠ 0 → tot = e from fun h => by rw [if_pos h] at he; exact he)
    have HTZ := Lib.hid (show tot = 0 → BatS.rows ⟨base, leader, app, txn, false, last, first, maxt, prod, epoch, sq, l.map (·.1)⟩ = e from fun h => by rw [if_neg (fun x => x h), if_neg (fun h => by cases h.1)] at he; exact he)
    have HT := Lib.hid htot
    clear he htot c1
    go_enter Tryz.func9, Tryz.ntmps9
    go_wp2_with (first
        | (go_at_call 29; (with_reducible refine (ref11_int32s leader (-1) _ HW1.out H.out).mono ?_); rintro e_ wn ⟨rfl, h⟩; replace H := Lib.hid h; clear h; obtain ⟨x0, x1, x2, x3, x4, x5, x6, x7, x8, x9, x10, x11, y0, y1, y2, y3, y4, y5, y6, y7, y8, y9, y10, y11⟩ := raw12 (b := hb) (H.out))
        | (go_at_call 29; (with_reducible refine (ref11_int32s last 0 _ HW2.out H.out).mono ?_); rintro e_ wn ⟨rfl, h⟩; replace H := Lib.hid h; clear h; obtain ⟨x0, x1, x2, x3, x4, x5, x6, x7, x8, x9, x10, x11, y0, y1, y2, y3, y4, y5, y6, y7, y8, y9, y10, y11⟩ := raw12 (b := hb) (H.out))
        | (go_at_call 30; (with_reducible refine (ref11_producer _ _ _ _ _ _ _ _ _ _ _ _ _ HS.out H.out).mono ?_); rintro e_ wn ⟨rfl, h⟩; replace H := Lib.hid h; clear h; obtain ⟨x0, x1, x2, x3, x4, x5, x6, x7, x8, x9, x10, x11, y0, y1, y2, y3, y4, y5, y6, y7, y8, y9, y10, y11⟩ := raw12 (b := hb) (H.out)))
    go_loopw [3, 4] (fun iv _ wr => ∃ k : Nat, k ≤ l.length ∧ iv = .int .i64 k ∧ Hid (recsC ((l.map (·.1)).drop k) = tot) ∧ St W0 wr K (.raw hb #[.int .i64 base, .int .i64 leader, .bool app, .bool txn, .bool false, .int .i64 last, .int .i64 first, .int .i64 maxt, .int .i64 prod, .int .i64 epoch, .int .i64 sq, .slice q l.length cap] 24 :: L)) (fun iv _ _ => l.length - (intOf iv).toNat)
    case atStart => exact ⟨0, Nat.zero_le _, rfl, HT, H.out⟩
    case round =>
      clear x0 y0 x1 y1 x2 y2 x3 y3 x4 y4 x5 y5 x6 y6 x7 y7 x8 y8 x9 y9 x10 y10 x11 y11
      obtain ⟨k, hkl, rfl, HC, hst⟩ := hrel
      clear H
      have H := Lib.hid hst
      clear hst
      obtain ⟨x0, x1, x2, x3, x4, x5, x6, x7, x8, x9, x10, x11, y0, y1, y2, y3, y4, y5, y6, y7, y8, y9, y10, y11⟩ := raw12 (b := hb) (H.out)
      by_cases hlt : k < l.length
      · have hd := drop_recs l k hlt _ rfl
        obtain ⟨b, off, hqq⟩ := recs_at HK.out H.out (by omega)
        subst hqq
        obtain ⟨⟨x, vx⟩, hx⟩ : ∃ x, l[k] = x := ⟨_, rfl⟩
        have cc := recs_cell HK.out H.out k hlt (x, vx) hx
        have hmem : (x, vx) ∈ l := hx ▸ List.getElem_mem hlt
        have xf : x.R ∧ HFit x.hdrs ∧ x.sum ≤ 1000000 := HFT.out (x, vx) hmem
        have xk : K.has (Know.flat RHdr vx 3 x.hdrs) := recs_hdrs HK.out hmem
        obtain ⟨qx, capx, hvx⟩ := flat_form xk H.out
        subst hvx
        simp only at cc
        obtain ⟨c0, c1, c2, c3, c4, c5, c6⟩ := cc
        rw [← Nat.add_assoc] at c1 c2 c3 c4 c5 c6
        have hx1 : l[k].1 = x := by rw [hx]
        have XF := Lib.hid xf
        have XK := Lib.hid xk
        have HX := Lib.hid hx1
        clear xf xk hx1 hx hmem
        have hki : (k : Int) < (l.length : Int) := by omega
        rw [HX.out] at hd
        have hc := HC.out
        rw [hd] at hc
        have hc : (if recOk x = 0 then recsC ((l.map (·.1)).drop (k + 1)) else recOk x) = tot := hc
        have XL := Lib.hid (show x.hdrs.length ≤ 9223372036854775807 by have := sum_hdrs XF.out.2.2; omega)
        clear hd
        by_cases c1 : recOk x = 0
        · rw [if_pos c1] at hc
          have HC2 := Lib.hid hc
          have ER := Lib.hid c1
          clear hc c1
          go_wp2_with (go_at_call 31; (with_reducible refine (ref07_right x (.slice qx x.hdrs.length capx) _ ER.out XL.out XK.out H.out).mono ?_); rintro e_ wn ⟨rfl, h⟩; replace H := Lib.hid h; clear h; obtain ⟨x0, x1, x2, x3, x4, x5, x6, x7, x8, x9, x10, x11, y0, y1, y2, y3, y4, y5, y6, y7, y8, y9, y10, y11⟩ := raw12 (b := hb) (H.out))
          go_roundw
          case rel => exact ⟨k + 1, hlt, by go_num, HC2.out, H.out⟩
          case measure => first | (simp [intOf]; done) | (simp [intOf]; omega)
        · rw [if_neg c1] at hc
          have ER := Lib.hid hc
          have gz : (tot == 0) = false := by rw [beq_eq_false_iff_ne, ← hc]; exact c1
          obtain rfl : tot = e := HTE.out (by rw [← hc]; exact c1)
          clear hc c1
          go_wp2_with (go_at_call 31; (with_reducible refine (ref07_right x (.slice qx x.hdrs.length capx) _ ER.out XL.out XK.out H.out).mono ?_); rintro e_ wn ⟨rfl, h⟩; replace H := Lib.hid h; clear h; obtain ⟨x0, x1, x2, x3, x4, x5, x6, x7, x8, x9, x10, x11, y0, y1, y2, y3, y4, y5, y6, y7, y8, y9, y10, y11⟩ := raw12 (b := hb) (H.out))
          go_ret
          exact ⟨rfl, H.out.drop⟩
      · obtain rfl : l.length = k := by omega
        have hc := HC.out
        rw [List.drop_of_length_le (by simp)] at hc
        obtain rfl : 0 = tot := hc
        have HROW := Lib.hid (HTZ.out rfl)
        go_wp2_with (go_at_call 33; (with_reducible refine (ref11_orders _ _ _ _ _ _ _ _ _ _ _ l _ _ _ HROW.out HFP.out HFT.out HLL.out HK.out H.out).mono ?_); rintro e_ wn ⟨rfl, h⟩; replace H := Lib.hid h; clear h)
        go_ret
        exact ⟨rfl, H.out.drop⟩

  | true =>
    cases txn with
    | false => exact absurd ⟨rfl, rfl⟩ c1
    | true =>
      clear c1
      by_cases c2 : l.length = 1
      · rw [if_neg (fun h => h.2 c2)] at he
        have HLEN := Lib.hid c2
        have bl : ((l.length : Int) == 1) = true := by rw [c2]; rfl
        have bl2 : ((l.length : Int) != 1) = false := by rw [c2]; rfl
        obtain ⟨tot, htot⟩ : ∃ t, recsC (l.map (·.1)) = t := ⟨_, rfl⟩
        rw [htot] at he
        have HTE := Lib.hid (show tot ≠ 0 → tot = e from fun h => by rw [if_pos h] at he; exact he)
        have HEN := Lib.hid (show ∀ (x : RecS) (h0 : 0 < l.length), (l[0]'h0).1 = x → ((ctlOf x).2.2 ≠ 0 → tot = 0 → (ctlOf x).2.2 = e) ∧ ((ctlOf x).2.2 = 0 → tot = 0 → BatS.rows ⟨base, leader, app, true, true, last, first, maxt, prod, epoch, sq, l.map (·.1)⟩ = e) from fun x h0 hx => by
          have hm : l.map (·.1) = x :: (l.map (·.1)).drop 1 := by have := drop_recs l 0 (by omega) x hx; simpa using this
          have hens : BatS.ends ⟨base, leader, app, true, true, last, first, maxt, prod, epoch, sq, l.map (·.1)⟩ = (ctlOf x).2.2 := by unfold BatS.ends; simp only; rw [hm]
          rw [hens] at he
          refine ⟨fun h h2 => ?_, fun h h2 => ?_⟩
          · rw [if_neg (fun y => y h2), if_pos ⟨rfl, h⟩] at he; exact he
          · rw [if_neg (fun y => y h2), if_neg (fun y => y.2 h)] at he; exact he)
        have HT := Lib.hid htot
        clear he htot c2
        go_enter Tryz.func9, Tryz.ntmps9
        go_wp2_with (first
            | (go_at_call 29; (with_reducible refine (ref11_int32s leader (-1) _ HW1.out H.out).mono ?_); rintro e_ wn ⟨rfl, h⟩; replace H := Lib.hid h; clear h; obtain ⟨x0, x1, x2, x3, x4, x5, x6, x7, x8, x9, x10, x11, y0, y1, y2, y3, y4, y5, y6, y7, y8, y9, y10, y11⟩ := raw12 (b := hb) (H.out))
            | (go_at_call 29; (with_reducible refine (ref11_int32s last 0 _ HW2.out H.out).mono ?_); rintro e_ wn ⟨rfl, h⟩; replace H := Lib.hid h; clear h; obtain ⟨x0, x1, x2, x3, x4, x5, x6, x7, x8, x9, x10, x11, y0, y1, y2, y3, y4, y5, y6, y7, y8, y9, y10, y11⟩ := raw12 (b := hb) (H.out))
            | (go_at_call 30; (with_reducible refine (ref11_producer _ _ _ _ _ _ _ _ _ _ _ _ _ HS.out H.out).mono ?_); rintro e_ wn ⟨rfl, h⟩; replace H := Lib.hid h; clear h; obtain ⟨x0, x1, x2, x3, x4, x5, x6, x7, x8, x9, x10, x11, y0, y1, y2, y3, y4, y5, y6, y7, y8, y9, y10, y11⟩ := raw12 (b := hb) (H.out)))
        go_loopw [3, 4] (fun iv _ wr => ∃ k : Nat, k ≤ l.length ∧ iv = .int .i64 k ∧ Hid (recsC ((l.map (·.1)).drop k) = tot) ∧ St W0 wr K (.raw hb #[.int .i64 base, .int .i64 leader, .bool app, .bool true, .bool true, .int .i64 last, .int .i64 first, .int .i64 maxt, .int .i64 prod, .int .i64 epoch, .int .i64 sq, .slice q l.length cap] 24 :: L)) (fun iv _ _ => l.length - (intOf iv).toNat)
        case atStart => exact ⟨0, Nat.zero_le _, rfl, HT, H.out⟩
        case round =>
          clear x0 y0 x1 y1 x2 y2 x3 y3 x4 y4 x5 y5 x6 y6 x7 y7 x8 y8 x9 y9 x10 y10 x11 y11
          obtain ⟨k, hkl, rfl, HC, hst⟩ := hrel
          clear H
          have H := Lib.hid hst
          clear hst
          obtain ⟨x0, x1, x2, x3, x4, x5, x6, x7, x8, x9, x10, x11, y0, y1, y2, y3, y4, y5, y6, y7, y8, y9, y10, y11⟩ := raw12 (b := hb) (H.out)
          by_cases hlt : k < l.length
          · have hd := drop_recs l k hlt _ rfl
            obtain ⟨b, off, hqq⟩ := recs_at HK.out H.out (by omega)
            subst hqq
            obtain ⟨⟨x, vx⟩, hx⟩ : ∃ x, l[k] = x := ⟨_, rfl⟩
            have cc := recs_cell HK.out H.out k hlt (x, vx) hx
            have hmem : (x, vx) ∈ l := hx ▸ List.getElem_mem hlt
            have xf : x.R ∧ HFit x.hdrs ∧ x.sum ≤ 1000000 := HFT.out (x, vx) hmem
            have xk : K.has (Know.flat RHdr vx 3 x.hdrs) := recs_hdrs HK.out hmem
            obtain ⟨qx, capx, hvx⟩ := flat_form xk H.out
            subst hvx
            simp only at cc
            obtain ⟨c0, c1, c2, c3, c4, c5, c6⟩ := cc
            rw [← Nat.add_assoc] at c1 c2 c3 c4 c5 c6
            have hx1 : l[k].1 = x := by rw [hx]
            have XF := Lib.hid xf
            have XK := Lib.hid xk
            have HX := Lib.hid hx1
            clear xf xk hx1 hx hmem
            have hki : (k : Int) < (l.length : Int) := by omega
            rw [HX.out] at hd
            have hc := HC.out
            rw [hd] at hc
            have hc : (if recOk x = 0 then recsC ((l.map (·.1)).drop (k + 1)) else recOk x) = tot := hc
            have XL := Lib.hid (show x.hdrs.length ≤ 9223372036854775807 by have := sum_hdrs XF.out.2.2; omega)
            clear hd
            by_cases c1 : recOk x = 0
            · rw [if_pos c1] at hc
              have HC2 := Lib.hid hc
              have ER := Lib.hid c1
              clear hc c1
              go_wp2_with (go_at_call 31; (with_reducible refine (ref07_right x (.slice qx x.hdrs.length capx) _ ER.out XL.out XK.out H.out).mono ?_); rintro e_ wn ⟨rfl, h⟩; replace H := Lib.hid h; clear h; obtain ⟨x0, x1, x2, x3, x4, x5, x6, x7, x8, x9, x10, x11, y0, y1, y2, y3, y4, y5, y6, y7, y8, y9, y10, y11⟩ := raw12 (b := hb) (H.out))
              go_roundw
              case rel => exact ⟨k + 1, hlt, by go_num, HC2.out, H.out⟩
              case measure => first | (simp [intOf]; done) | (simp [intOf]; omega)
            · rw [if_neg c1] at hc
              have ER := Lib.hid hc
              have gz : (tot == 0) = false := by rw [beq_eq_false_iff_ne, ← hc]; exact c1
              obtain rfl : tot = e := HTE.out (by rw [← hc]; exact c1)
              clear hc c1
              go_wp2_with (go_at_call 31; (with_reducible refine (ref07_right x (.slice qx x.hdrs.length capx) _ ER.out XL.out XK.out H.out).mono ?_); rintro e_ wn ⟨rfl, h⟩; replace H := Lib.hid h; clear h; obtain ⟨x0, x1, x2, x3, x4, x5, x6, x7, x8, x9, x10, x11, y0, y1, y2, y3, y4, y5, y6, y7, y8, y9, y10, y11⟩ := raw12 (b := hb) (H.out))
              go_ret
              exact ⟨rfl, H.out.drop⟩
          · obtain rfl : l.length = k := by omega
            have hc := HC.out
            rw [List.drop_of_length_le (by simp)] at hc
            obtain rfl : 0 = tot := hc
            obtain ⟨b, off, hqq⟩ := recs_at HK.out H.out (by rw [HLEN.out]; decide)
            subst hqq
            obtain ⟨⟨x, vx⟩, hx⟩ : ∃ x, l[0]'(by rw [HLEN.out]; decide) = x := ⟨_, rfl⟩
            have cc := recs_cell HK.out H.out 0 (by rw [HLEN.out]; decide) (x, vx) hx
            have hmem : (x, vx) ∈ l := hx ▸ List.getElem_mem _
            have xf : x.R ∧ HFit x.hdrs ∧ x.sum ≤ 1000000 := HFT.out (x, vx) hmem
            have xk : K.has (Know.flat RHdr vx 3 x.hdrs) := recs_hdrs HK.out hmem
            obtain ⟨qx, capx, hvx⟩ := flat_form xk H.out
            subst hvx
            simp only [Nat.zero_mul, Nat.zero_add, Nat.add_zero] at cc
            obtain ⟨c0, c1, c2, c3, c4, c5, c6⟩ := cc
            have XD := Lib.hid (sum_data xf.2.2)
            have hl0 : (0 : Int) < (l.length : Int) := by have := HLEN.out; omega
            obtain ⟨⟨i1, i2, i3⟩, hi⟩ : ∃ r, ctlOf x = r := ⟨_, rfl⟩
            have EC := Lib.hid (show ctlRead x.key.null x.val.null x.key.data x.val.data x.hdrs.length x.off = (i1, i2, i3) from hi)
            have hen := HEN.out x (by rw [HLEN.out]; decide) (by rw [hx])
            rw [hi] at hen
            clear hx hmem xf xk hi
            by_cases c9 : i3 = 0
            · subst c9
              have HROW := Lib.hid (hen.2 rfl rfl)
              clear hen
              go_wp2_with (first
            | (go_at_call 32; (with_reducible refine (ref08_read x.time x.off x.key.null x.val.null x.key.data x.val.data qx x.hdrs.length capx (i1, i2, _) EC.out XD.out.1 XD.out.2 H.out).mono ?_); rintro e_ wn ⟨rfl, h⟩; replace H := Lib.hid h; clear h; obtain ⟨x0, x1, x2, x3, x4, x5, x6, x7, x8, x9, x10, x11, y0, y1, y2, y3, y4, y5, y6, y7, y8, y9, y10, y11⟩ := raw12 (b := hb) (H.out))
            | (go_at_call 33; (with_reducible refine (ref11_orders _ _ _ _ _ _ _ _ _ _ _ l _ _ _ HROW.out HFP.out HFT.out HLL.out HK.out H.out).mono ?_); rintro e_ wn ⟨rfl, h⟩; replace H := Lib.hid h; clear h))
              go_ret
              exact ⟨rfl, H.out.drop⟩
            · have gz : (i3 == 0) = false := by rw [beq_eq_false_iff_ne]; exact c9
              obtain rfl : i3 = e := hen.1 c9 rfl
              clear hen c9
              go_wp2_with (go_at_call 32; (with_reducible refine (ref08_read x.time x.off x.key.null x.val.null x.key.data x.val.data qx x.hdrs.length capx (i1, i2, _) EC.out XD.out.1 XD.out.2 H.out).mono ?_); rintro e_ wn ⟨rfl, h⟩; replace H := Lib.hid h; clear h; obtain ⟨x0, x1, x2, x3, x4, x5, x6, x7, x8, x9, x10, x11, y0, y1, y2, y3, y4, y5, y6, y7, y8, y9, y10, y11⟩ := raw12 (b := hb) (H.out))
              go_ret
              exact ⟨rfl, H.out.drop⟩

      · rw [if_pos ⟨rfl, c2⟩] at he
        subst he
        have bl : ((l.length : Int) == 1) = false := by rw [beq_eq_false_iff_ne]; omega
        clear c2 hll
        go_enter Tryz.func9, Tryz.ntmps9
        go_wp2_with (first
    | (go_at_call 29; (with_reducible refine (ref11_int32s leader (-1) _ HW1.out H.out).mono ?_); rintro e_ wn ⟨rfl, h⟩; replace H := Lib.hid h; clear h; obtain ⟨x0, x1, x2, x3, x4, x5, x6, x7, x8, x9, x10, x11, y0, y1, y2, y3, y4, y5, y6, y7, y8, y9, y10, y11⟩ := raw12 (b := hb) (H.out))
    | (go_at_call 29; (with_reducible refine (ref11_int32s last 0 _ HW2.out H.out).mono ?_); rintro e_ wn ⟨rfl, h⟩; replace H := Lib.hid h; clear h; obtain ⟨x0, x1, x2, x3, x4, x5, x6, x7, x8, x9, x10, x11, y0, y1, y2, y3, y4, y5, y6, y7, y8, y9, y10, y11⟩ := raw12 (b := hb) (H.out))
    | (go_at_call 30; (with_reducible refine (ref11_producer _ _ _ _ _ _ _ _ _ _ _ _ _ HS.out H.out).mono ?_); rintro e_ wn ⟨rfl, h⟩; replace H := Lib.hid h; clear h; obtain ⟨x0, x1, x2, x3, x4, x5, x6, x7, x8, x9, x10, x11, y0, y1, y2, y3, y4, y5, y6, y7, y8, y9, y10, y11⟩ := raw12 (b := hb) (H.out)))
        go_ret
        exact ⟨rfl, H.out.drop⟩

end Go.Proofs.YtcjgdlfcfcabiaaGreat
