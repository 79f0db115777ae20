/- Each batch of a request that is read from any bytes is the very one that its bytes are read as, and none of them ends a transaction: proved of every text, in both versions. -/
import Derived.Test.YtnnnglklgofabaaGProduceBatches6
import Derived.Test.YtnnnglklgofabaaGProduceBatches4
import Derived.Test.YtnnnglklgofabaaRecs
import Derived.Test.YtnnnglklgofabaaRec5
import Derived.Test.YtnnnglklgofabaaGProduceBatches2
import Derived.Deep.RegionHeld3
import Derived.Test.YtnnnglklgofabaaGProduceBatches10
import Derived.Test.YtnnnglklgofabaaGProduceBatches5
import Derived.RegionTactic
import Derived.Deep.DeepCutAuto
import Derived.WalkMore
import Derived.Test.YtnnnglklgofabaaGProduceBatches7
import Derived.Test.YtnnnglklgofabaaArgs
/- A text. -/
namespace Go.Proofs.Ytnnnglklgofabaa
open Go.RowKit

theorem bat_encode_mid (b : BatS) (l : List (RecS × Value)) (q : Option Addr) (cap : Nat) (hl : l.map (·.1) = b.recs) (so : MidOk b) {W0 w : World} {K : Know} {L : List Res} (hk : K.has (Know.recs (.slice q l.length cap) l)) (h : St W0 w K L) :
  Calls Try.prog 8 #[.agg #[.int .i64 b.base, .int .i64 b.leader, .bool b.app, .bool b.txn, .bool b.ctl, .int .i64 b.last, .int .i64 b.first, .int .i64 b.maxt, .int .i64 b.prod, .int .i64 b.epoch, .int .i64 b.seq, .slice q l.length cap]] w fun en w' => en = .returned (.tuple #[.string (bb b.enc), .int .i64 0]) ∧ St W0 w' K L := by
 have hrow := so.rows
 have hlen := so.len
 have hcr := b.crc_lt
 have hml : l.length = b.recs.length := by rw [← hl, List.length_map]
 have f0 := BatS.fitsAll so.err so.rng 0 (by decide) (by omega) (by omega)
 have f1 := BatS.fitsAll so.err so.rng b.crc (by omega) (by omega) (by omega)
 have r0 := BatS.pre_R so.err so.rng 0 (by decide) (by omega) (by omega)
 have r1 := BatS.pre_R so.err so.rng b.crc (by omega) (by omega) (by omega)
 have hmx : b.first ≤ 9223372036854775807 := by have := so.rng.2.2.2.1.2; omega
 have e0 : b.pre 0 = (⟨b.base, 49 + (b.rowsB.length : Int), b.leader, 0, attrN b.app b.txn b.ctl 3, b.last, b.first, b.maxt, b.prod, b.epoch, b.seq, (l.length : Int)⟩ : PreS) := by unfold BatS.pre; rw [hml]
 have e1 : b.pre b.crc = (⟨b.base, 49 + (b.rowsB.length : Int), b.leader, (b.crc : Int), attrN b.app b.txn b.ctl 3, b.last, b.first, b.maxt, b.prod, b.epoch, b.seq, (l.length : Int)⟩ : PreS) := by unfold BatS.pre; rw [hml]
 have i0 := ints_items f0
 have i1 := ints_items f1
 have hd0 := b.pre_drop 0
 have l0 := items_len (b.pre 0)
 have l1 := items_len (b.pre b.crc)
 have he : batErr ⟨b.base, b.leader, b.app, b.txn, b.ctl, b.last, b.first, b.maxt, b.prod, b.epoch, b.seq, l.map (·.1)⟩ = 0 := by rw [hl]; exact so.err
 have hrc : recsC (l.map (·.1)) = 0 := by rw [hl]; exact (batErr_zero so.err).2.2.2
 have hrw : encAll l = b.rowsB := by rw [encAll_rows, hl]; rfl
 have hfb : FitB l := by
  intro x hx
  obtain ⟨a, c, d⟩ := so.fit x.1 (by rw [← hl]; exact List.mem_map.2 ⟨x, hx, rfl⟩)
  have := hsum_fit x.1.hdrs 2000 (by unfold RecS.sum at d; omega)
  exact ⟨a, fun y hy => by have := this y hy; omega, by omega⟩
 have hall : encInts (b.pre b.crc).items ++ b.rowsB = b.enc := rfl
 have hx : (crcMore 0#32 ((encInts (b.pre 0).items).drop 21 ++ b.rowsB)).toNat = b.crc := by rw [hd0]; rfl
 rw [e0] at r0 i0
 rw [e1] at r1 i1
 obtain ⟨s0, hs0⟩ : ∃ s, encInts (b.pre 0).items = s := ⟨_, rfl⟩
 obtain ⟨s1, hs1⟩ : ∃ s, encInts (b.pre b.crc).items = s := ⟨_, rfl⟩
 have g0 : encInts (⟨b.base, 49 + (b.rowsB.length : Int), b.leader, 0, attrN b.app b.txn b.ctl 3, b.last, b.first, b.maxt, b.prod, b.epoch, b.seq, (l.length : Int)⟩ : PreS).items = s0 := e0 ▸ hs0
 have g1 : encInts (⟨b.base, 49 + (b.rowsB.length : Int), b.leader, (b.crc : Int), attrN b.app b.txn b.ctl 3, b.last, b.first, b.maxt, b.prod, b.epoch, b.seq, (l.length : Int)⟩ : PreS).items = s1 := e1 ▸ hs1
 rw [g0] at i0
 rw [g1] at i1
 rw [hs0] at hx l0
 rw [hs1] at hall l1
 exact bat_encode_ok b.base b.leader b.app b.txn b.ctl b.last b.first b.maxt b.prod b.epoch b.seq l q cap he hmx hfb (by omega) b.rowsB s0 s1 b.enc b.crc (attrN b.app b.txn b.ctl 3) hrc hrw (by omega) rfl r0 r1 i0 i1 l0 l1 hx hall hk h

theorem bat_encode_midE (b : BatS) (s : Bs) (hs : b.enc = s) (l : List (RecS × Value)) (q : Option Addr) (cap : Nat) (hl : l.map (·.1) = b.recs) (so : MidOk b) {W0 w : World} {K : Know} {L : List Res} (hk : K.has (Know.recs (.slice q l.length cap) l)) (h : St W0 w K L) :
  Calls Try.prog 8 #[.agg #[.int .i64 b.base, .int .i64 b.leader, .bool b.app, .bool b.txn, .bool b.ctl, .int .i64 b.last, .int .i64 b.first, .int .i64 b.maxt, .int .i64 b.prod, .int .i64 b.epoch, .int .i64 b.seq, .slice q l.length cap]] w fun en w' => en = .returned (.tuple #[.string (bb s), .int .i64 0]) ∧ St W0 w' K L := by
 subst hs
 exact bat_encode_mid b l q cap hl so hk h
theorem MidOk.elen {b : BatS} (h : MidOk b) : b.enc.length ≤ 2061 := by rw [b.enc_len]; have := h.rows; omega
set_option maxHeartbeats 2000000 in
set_option maxRecDepth 100000 in
theorem bat_dec_ok (s : Bs) (hsl : s.length ≤ 1000000) (b : BatS) (n : Nat) (hr : reBat (s.drop 0) = .ok (b, n)) (hn : ¬ n < s.length) {W0 w : World} {K : Know} {L : List Res} (h : St W0 w K L) :
  Calls Try.prog 9 #[.string (bb s)] w fun en w' => ∃ (q : Option Addr) (l : List (RecS × Value)) (cap : Nat), en = .returned (.tuple #[.agg #[.int .i64 b.base, .int .i64 b.leader, .bool b.app, .bool b.txn, .bool b.ctl, .int .i64 b.last, .int .i64 b.first, .int .i64 b.maxt, .int .i64 b.prod, .int .i64 b.epoch, .int .i64 b.seq, .slice q l.length cap], .int .i64 0]) ∧ l.map (·.1) = b.recs ∧ St W0 w' (K.and (Know.recs (.slice q l.length cap) l)) L := by
 have g1 := h.allocRaw #[.int .i64 0, .int .i64 0, .bool false, .bool false, .bool false, .int .i64 0, .int .i64 0, .int .i64 0, .int .i64 0, .int .i64 0, .int .i64 0, .slice none 0 0] 39
 obtain ⟨rb, hrb⟩ : ∃ b, w.heap.size = b := ⟨_, rfl⟩
 rw [hrb] at g1
 have H := Lib.hid g1
 have HSL := Lib.hid (show s.length ≤ 140737488355328 by omega)
 have HSM := Lib.hid hsl
 have HR := Lib.hid hr
 have HC := Lib.hid (show (⟨s, n, 0⟩ : InS).close = ⟨s, n, 0⟩ from if_neg (show ¬ 0 < s.length - n by omega))
 clear h g1 hr hn
 go_enter Try.func9, Try.ntmps9
 go_wp2_with (first
  | (go_at_call 6; (with_reducible refine (s_new s HSL.out H.out).mono ?_); rintro e_ wn ⟨bi, rfl, h⟩; replace H := Lib.hid h; clear h)
  | (go_at_call 30; (with_reducible refine (bat_read_good bi s 0 HSM.out (Nat.zero_le _) b n HR.out H.out).mono ?_); rintro e_ wn ⟨q, l, cap, rfl, hl, h⟩; rw [Nat.zero_add] at h; have h := h.allocRaw #[.int .i64 b.base, .int .i64 b.leader, .bool b.app, .bool b.txn, .bool b.ctl, .int .i64 b.last, .int .i64 b.first, .int .i64 b.maxt, .int .i64 b.prod, .int .i64 b.epoch, .int .i64 b.seq, .slice q l.length cap] 39; obtain ⟨bB, hbB⟩ : ∃ b, wn.heap.size = b := ⟨_, rfl⟩; rw [hbB] at h; replace H := Lib.hid h; clear h)
  | (go_at_call 31; (with_reducible refine (s_closeE bi _ _ 0 (HC.out) (rfl) H.out.p1).mono ?_); rintro e_ wn ⟨rfl, h⟩; replace H := Lib.hid h; clear h; obtain ⟨c0, c1, c2, c3, c4, c5, c6, c7, c8, c9, c10, c11, g0, g1, g2, g3, g4, g5, g6, g7, g8, g9, g10, g11⟩ := raw12 (b := bB) (H.out.p1); obtain ⟨a0, a1, a2, a3, a4, a5, a6, a7, a8, a9, a10, a11, f0, f1, f2, f3, f4, f5, f6, f7, f8, f9, f10, f11⟩ := raw12 (b := rb) (H.out.p2)))
 have hz : St W0 _ _ (.raw rb #[.int .i64 b.base, .int .i64 b.leader, .bool b.app, .bool b.txn, .bool b.ctl, .int .i64 b.last, .int .i64 b.first, .int .i64 b.maxt, .int .i64 b.prod, .int .i64 b.epoch, .int .i64 b.seq, .slice q l.length cap] 39 :: _) := St.sets12 _ _ _ _ _ _ _ _ _ _ _ _ (H.out.p2)
 refine bodyPost_ret (rc_cell_tmp rfl _ _ rb [.int .i64 b.base, .int .i64 b.leader, .bool b.app, .bool b.txn, .bool b.ctl, .int .i64 b.last, .int .i64 b.first, .int .i64 b.maxt, .int .i64 b.prod, .int .i64 b.epoch, .int .i64 b.seq, .slice q l.length cap] _ rfl (rc_range hz) Try.underlying39 rfl (by kernel_rfl)) rfl ?_
 exact ⟨q, l, cap, rfl, hl, hz.drop.drop.drop⟩

theorem bat_decode_ok (s : Bs) (hsl : s.length ≤ 1000000) (b : BatS) (hd : batD s = .ok b) {W0 w : World} {K : Know} {L : List Res} (h : St W0 w K L) :
  Calls Try.prog 9 #[.string (bb s)] w fun en w' => ∃ (q : Option Addr) (l : List (RecS × Value)) (cap : Nat), en = .returned (.tuple #[.agg #[.int .i64 b.base, .int .i64 b.leader, .bool b.app, .bool b.txn, .bool b.ctl, .int .i64 b.last, .int .i64 b.first, .int .i64 b.maxt, .int .i64 b.prod, .int .i64 b.epoch, .int .i64 b.seq, .slice q l.length cap], .int .i64 0]) ∧ l.map (·.1) = b.recs ∧ St W0 w' (K.and (Know.recs (.slice q l.length cap) l)) L := by
 unfold batD at hd
 cases hr : reBat s with
 | error e => rw [hr] at hd; cases hd
 | ok y =>
  obtain ⟨c, n⟩ := y
  rw [hr] at hd
  simp only at hd
  by_cases hn : n < s.length
  · rw [if_pos hn] at hd; cases hd
  rw [if_neg hn] at hd
  cases hd
  exact bat_dec_ok s hsl b n hr hn h
theorem map_ne_of_get (l m : List (RecS × Value)) (k : Nat) (h1 : k < l.length) (h2 : k < m.length) (x y : RecS) (hx : l[k].1 = x) (hy : m[k].1 = y) (h : x ≠ y) : l.map (·.1) ≠ m.map (·.1) := by
 intro hh
 have e1 : (l.map (·.1))[k]? = (m.map (·.1))[k]? := by rw [hh]
 rw [List.getElem?_map, List.getElem?_map, List.getElem?_eq_getElem h1, List.getElem?_eq_getElem h2] at e1
 simp at e1
 exact h (hx ▸ hy ▸ e1)
set_option maxHeartbeats 4000000 in
set_option maxRecDepth 100000 in
theorem ref11_sameT0 (base : Int) (leader : Int) (app : Bool) (txn : Bool) (ctl : Bool) (last : Int) (first : Int) (maxt : Int) (prod : Int) (epoch : Int) (seq : Int) (l1 l2 : List (RecS × Value)) (q1 q2 : Option Addr) (cap1 cap2 : Nat) (hn : l1.length ≤ 1000000) (hr : l1.map (·.1) = l2.map (·.1)) (hf1 : ∀ x ∈ l1, x.1.hdrs.length ≤ 9223372036854775807) (hf2 : ∀ x ∈ l2, x.1.hdrs.length ≤ 9223372036854775807) {W0 w : World} {K : Know} {L : List Res} (hk1 : K.has (Know.recs (.slice q1 l1.length cap1) l1)) (hk2 : K.has (Know.recs (.slice q2 l2.length cap2) l2)) (h : St W0 w K L) :
  Calls Try.prog 10 #[.agg #[.int .i64 base, .int .i64 leader, .bool app, .bool txn, .bool ctl, .int .i64 last, .int .i64 first, .int .i64 maxt, .int .i64 prod, .int .i64 epoch, .int .i64 seq, .slice q1 l1.length cap1], .agg #[.int .i64 base, .int .i64 leader, .bool app, .bool txn, .bool ctl, .int .i64 last, .int .i64 first, .int .i64 maxt, .int .i64 prod, .int .i64 epoch, .int .i64 seq, .slice q2 l2.length cap2]] w fun en w' => en = .returned (.bool true) ∧ St W0 w' K L := by
 obtain ⟨hb, hhb⟩ : ∃ b, w.heap.size = b := ⟨_, rfl⟩
 have h1 := (h.allocRaw #[.int .i64 base, .int .i64 leader, .bool app, .bool txn, .bool ctl, .int .i64 last, .int .i64 first, .int .i64 maxt, .int .i64 prod, .int .i64 epoch, .int .i64 seq, .slice q1 l1.length cap1] 39).allocRaw #[.int .i64 base, .int .i64 leader, .bool app, .bool txn, .bool ctl, .int .i64 last, .int .i64 first, .int .i64 maxt, .int .i64 prod, .int .i64 epoch, .int .i64 seq, .slice q2 l2.length cap2] 39
 rw [World.size_alloc, hhb] at h1
 obtain ⟨hc, hhc⟩ : ∃ b, hb + 1 = b := ⟨_, rfl⟩
 rw [hhc] at h1
 obtain ⟨b0, b1, b2, b3, b4, b5, b6, b7, b8, b9, b10, b11, fb0, fb1, fb2, fb3, fb4, fb5, fb6, fb7, fb8, fb9, fb10, fb11⟩ := raw12 (b := hc) h1
 obtain ⟨a0, a1, a2, a3, a4, a5, a6, a7, a8, a9, a10, a11, fa0, fa1, fa2, fa3, fa4, fa5, fa6, fa7, fa8, fa9, fa10, fa11⟩ := raw12 (b := hb) h1.p1
 have H := Lib.hid h1
 have HK1 := Lib.hid hk1
 have HK2 := Lib.hid hk2
 have hni : (l1.length : Int) ≤ 1000000 := by omega
 have HF1 := Lib.hid hf1
 have HF2 := Lib.hid hf2
 have hlen : l1.length = l2.length := by have := congrArg List.length hr; simpa using this
 have HLEN := Lib.hid hlen
 have HR := Lib.hid hr
 have g1 : ((l1.length : Int) == (l2.length : Int)) = true := by rw [hlen]; exact beq_self_eq_true _
 have g2 : ((l1.length : Int) != (l2.length : Int)) = false := by simp [bne, g1]
 have g3 : (l2.length : Int) = (l1.length : Int) := by omega
 clear h h1 hk1 hk2 hf1 hf2 hr hlen fa0 fb0 fa1 fb1 fa2 fb2 fa3 fb3 fa4 fb4 fa5 fb5 fa6 fb6 fa7 fb7 fa8 fb8 fa9 fb9 fa10 fb10 fa11 fb11
 go_enter Try.func10, Try.ntmps10
 go_wp2
 clear g1 g2 g3
 clear a0 b0 a1 b1 a2 b2 a3 b3 a4 b4 a5 b5 a6 b6 a7 b7 a8 b8 a9 b9 a10 b10 a11 b11
 go_loopw [5] (fun iv wr => ∃ k : Nat, k ≤ l1.length ∧ iv = .int .i64 k ∧ St W0 wr K (.raw hc #[.int .i64 base, .int .i64 leader, .bool app, .bool txn, .bool ctl, .int .i64 last, .int .i64 first, .int .i64 maxt, .int .i64 prod, .int .i64 epoch, .int .i64 seq, .slice q2 l2.length cap2] 39 :: .raw hb #[.int .i64 base, .int .i64 leader, .bool app, .bool txn, .bool ctl, .int .i64 last, .int .i64 first, .int .i64 maxt, .int .i64 prod, .int .i64 epoch, .int .i64 seq, .slice q1 l1.length cap1] 39 :: L)) (fun iv _ => l1.length - (intOf iv).toNat)
 case atStart => exact ⟨0, Nat.zero_le _, rfl, H.out⟩
 case round =>
  obtain ⟨k, hkl, rfl, hst⟩ := hrel
  clear H
  have H := Lib.hid hst
  clear hst
  have b11 : wr.cell? ⟨hc, 11, none⟩ = some (.slice q2 l2.length cap2) := H.out.rawCell 11
  have a11 : wr.cell? ⟨hb, 11, none⟩ = some (.slice q1 l1.length cap1) := H.out.p1.rawCell 11
  by_cases hlt : k < l1.length
  · have hlt2 : k < l2.length := by have := HLEN.out; omega
    obtain ⟨b1', off1, hqq1⟩ := recs_at HK1.out H.out (by omega)
    subst hqq1
    obtain ⟨⟨x1, v1⟩, hx1⟩ : ∃ x, l1[k] = x := ⟨_, rfl⟩
    have cc1 := recs_cell HK1.out H.out k (by omega) (x1, v1) hx1
    have hmem1 : (x1, v1) ∈ l1 := hx1 ▸ List.getElem_mem _
    have XF1 := Lib.hid (show x1.hdrs.length ≤ 9223372036854775807 from HF1.out (x1, v1) hmem1)
    have XK1 := Lib.hid (show K.has (Know.flat RHdr v1 3 x1.hdrs) from recs_hdrs HK1.out hmem1)
    simp only at cc1
    obtain ⟨c10, c11, c12, c13, c14, c15, c16⟩ := cc1
    rw [← Nat.add_assoc] at c11 c12 c13 c14 c15 c16
    have HX1 := Lib.hid (show l1[k].1 = x1 by rw [hx1])
    have HXX1 := Lib.hid hx1
    clear hmem1 hx1
    obtain ⟨b2', off2, hqq2⟩ := recs_at HK2.out H.out (by omega)
    subst hqq2
    obtain ⟨⟨x2, v2⟩, hx2⟩ : ∃ x, l2[k] = x := ⟨_, rfl⟩
    have cc2 := recs_cell HK2.out H.out k (by omega) (x2, v2) hx2
    have hmem2 : (x2, v2) ∈ l2 := hx2 ▸ List.getElem_mem _
    have XF2 := Lib.hid (show x2.hdrs.length ≤ 9223372036854775807 from HF2.out (x2, v2) hmem2)
    have XK2 := Lib.hid (show K.has (Know.flat RHdr v2 3 x2.hdrs) from recs_hdrs HK2.out hmem2)
    simp only at cc2
    obtain ⟨c20, c21, c22, c23, c24, c25, c26⟩ := cc2
    rw [← Nat.add_assoc] at c21 c22 c23 c24 c25 c26
    have HX2 := Lib.hid (show l2[k].1 = x2 by rw [hx2])
    have HXX2 := Lib.hid hx2
    clear hmem2 hx2
    have hki : (k : Int) < (l1.length : Int) := by omega
    have hki2 : (k : Int) < (l2.length : Int) := by omega
    have hk0 : (0 : Int) ≤ (k : Int) := Int.natCast_nonneg _
    have E1 := Lib.hid (show decide (x1 = x2) = true from decide_eq_true (Decidable.byContradiction fun hne => map_ne_of_get l1 l2 k hlt hlt2 x1 x2 HX1.out HX2.out hne HR.out))
    have hkeep : ∀ w', St W0 w' K (.raw hc #[.int .i64 base, .int .i64 leader, .bool app, .bool txn, .bool ctl, .int .i64 last, .int .i64 first, .int .i64 maxt, .int .i64 prod, .int .i64 epoch, .int .i64 seq, .slice (some ⟨b2', off2, none⟩) l2.length cap2] 39 :: .raw hb #[.int .i64 base, .int .i64 leader, .bool app, .bool txn, .bool ctl, .int .i64 last, .int .i64 first, .int .i64 maxt, .int .i64 prod, .int .i64 epoch, .int .i64 seq, .slice (some ⟨b1', off1, none⟩) l1.length cap1] 39 :: L) → ((w'.cell? ⟨hb, 11, none⟩ = some (.slice (some ⟨b1', off1, none⟩) l1.length cap1)) ∧ (w'.cell? ⟨hc, 11, none⟩ = some (.slice (some ⟨b2', off2, none⟩) l2.length cap2)) ∧ (w'.cell? ⟨b1', off1 + k * 7, none⟩ = some (.int .i64 x1.time) ∧ w'.cell? ⟨b1', off1 + k * 7 + 1, none⟩ = some (.int .i64 x1.off) ∧ w'.cell? ⟨b1', off1 + k * 7 + 2, none⟩ = some (.bool x1.key.null) ∧ w'.cell? ⟨b1', off1 + k * 7 + 3, none⟩ = some (.string (bb x1.key.data)) ∧ w'.cell? ⟨b1', off1 + k * 7 + 4, none⟩ = some (.bool x1.val.null) ∧ w'.cell? ⟨b1', off1 + k * 7 + 5, none⟩ = some (.string (bb x1.val.data)) ∧ w'.cell? ⟨b1', off1 + k * 7 + 6, none⟩ = some (v1)) ∧ (w'.cell? ⟨b2', off2 + k * 7, none⟩ = some (.int .i64 x2.time) ∧ w'.cell? ⟨b2', off2 + k * 7 + 1, none⟩ = some (.int .i64 x2.off) ∧ w'.cell? ⟨b2', off2 + k * 7 + 2, none⟩ = some (.bool x2.key.null) ∧ w'.cell? ⟨b2', off2 + k * 7 + 3, none⟩ = some (.string (bb x2.key.data)) ∧ w'.cell? ⟨b2', off2 + k * 7 + 4, none⟩ = some (.bool x2.val.null) ∧ w'.cell? ⟨b2', off2 + k * 7 + 5, none⟩ = some (.string (bb x2.val.data)) ∧ w'.cell? ⟨b2', off2 + k * 7 + 6, none⟩ = some (v2))) := fun w' hs => by
      have r1 := recs_cell HK1.out hs k hlt (x1, v1) HXX1.out
      have r2 := recs_cell HK2.out hs k hlt2 (x2, v2) HXX2.out
      simp only [← Nat.add_assoc] at r1 r2
      exact ⟨hs.p1.rawCell 11, hs.rawCell 11, r1, r2⟩
    have HKP := Lib.hid hkeep
    clear hkeep HX1 HX2 HXX1 HXX2
    clear hlt2
    go_upto_region 6 with (fail)
    have hs := H.out.drew
    refine wp_region_held_drew (S := fun w' => (w'.cell? ⟨hb, 11, none⟩ = some (.slice (some ⟨b1', off1, none⟩) l1.length cap1)) ∧ (w'.cell? ⟨hc, 11, none⟩ = some (.slice (some ⟨b2', off2, none⟩) l2.length cap2)) ∧ (w'.cell? ⟨b1', off1 + k * 7, none⟩ = some (.int .i64 x1.time) ∧ w'.cell? ⟨b1', off1 + k * 7 + 1, none⟩ = some (.int .i64 x1.off) ∧ w'.cell? ⟨b1', off1 + k * 7 + 2, none⟩ = some (.bool x1.key.null) ∧ w'.cell? ⟨b1', off1 + k * 7 + 3, none⟩ = some (.string (bb x1.key.data)) ∧ w'.cell? ⟨b1', off1 + k * 7 + 4, none⟩ = some (.bool x1.val.null) ∧ w'.cell? ⟨b1', off1 + k * 7 + 5, none⟩ = some (.string (bb x1.val.data)) ∧ w'.cell? ⟨b1', off1 + k * 7 + 6, none⟩ = some (v1)) ∧ (w'.cell? ⟨b2', off2 + k * 7, none⟩ = some (.int .i64 x2.time) ∧ w'.cell? ⟨b2', off2 + k * 7 + 1, none⟩ = some (.int .i64 x2.off) ∧ w'.cell? ⟨b2', off2 + k * 7 + 2, none⟩ = some (.bool x2.key.null) ∧ w'.cell? ⟨b2', off2 + k * 7 + 3, none⟩ = some (.string (bb x2.key.data)) ∧ w'.cell? ⟨b2', off2 + k * 7 + 4, none⟩ = some (.bool x2.val.null) ∧ w'.cell? ⟨b2', off2 + k * 7 + 5, none⟩ = some (.string (bb x2.val.data)) ∧ w'.cell? ⟨b2', off2 + k * 7 + 6, none⟩ = some (v2))) (by kernel_rfl) (HKP.out _ hs) (fun hHeld => ?_)
    refine tQ 0 ⟨some 97, .fieldAddr 39 (.tmp 2) 11, 0, "ref.go:180", #[], none⟩ ?_; simp only [Act.put, sA, sB, sC]
    refine tQ 1 ⟨some 98, .load 37 (.tmp 97), 37, "ref.go:180", #[.mk 0 .data], none⟩ ?_; simp only [Act.put, sA, sB, sC]
    refine tQ 2 ⟨some 99, .move (.tmp 5), 3, "ref.go:180", #[], none⟩ ?_; simp only [Act.put, sA, sB, sC]
    refine tQ 3 ⟨some 100, .indexAddr 37 (.tmp 98) (.tmp 99), 0, "ref.go:180", #[.mk 1 .data, .mk 2 .data], none⟩ ?_; simp only [Act.put, sA, sB, sC]
    refine tQ 4 ⟨some 101, .load 81 (.tmp 100), 81, "ref.go:180", #[.mk 3 .data], none⟩ ?_; simp only [Act.put, sA, sB, sC]
    refine tQ 5 ⟨some 102, .fieldAddr 39 (.tmp 3) 11, 0, "ref.go:180", #[], none⟩ ?_; simp only [Act.put, sA, sB, sC]
    refine tQ 6 ⟨some 103, .load 37 (.tmp 102), 37, "ref.go:180", #[.mk 5 .data], none⟩ ?_; simp only [Act.put, sA, sB, sC]
    refine tQ 7 ⟨some 104, .move (.tmp 5), 3, "ref.go:180", #[], none⟩ ?_; simp only [Act.put, sA, sB, sC]
    refine tQ 8 ⟨some 105, .indexAddr 37 (.tmp 103) (.tmp 104), 0, "ref.go:180", #[.mk 6 .data, .mk 7 .data], none⟩ ?_; simp only [Act.put, sA, sB, sC]
    refine tQ 9 ⟨some 106, .load 81 (.tmp 105), 81, "ref.go:180", #[.mk 8 .data], none⟩ ?_; simp only [Act.put, sA, sB, sC]
    refine wpAnyH_ready (rs := [10]) (by kernel_rfl) (by simp) (AllReadyH.cons (o := ⟨some 107, .call { callee := .value (.func 32), args := #[.tmp 101, .tmp 106], argTypes := #[81, 81] }, 4, "ref.go:180", #[.mk 4 .data, .mk 9 .data], none⟩) rfl (fun KK hK => ?_) AllReadyH.nil)
    · go_simp
      go_at_call 32
      with_reducible refine (ref07_sameV x1 x2 v1 v2 true E1.out XF1.out XF2.out XK1.out XK2.out hs).mono ?_
      rintro e wq ⟨rfl, hs⟩
      refine hK.out _ _ (HKP.out _ hs) (fun hHeld => ?_)
      clear hK KK
      try simp only [Act.put, sA, sB, sC]
      refine tQ 11 ⟨some 108, .unOp UnOp.not 4 (.tmp 107), 4, "ref.go:180", #[.mk 10 .data], none⟩ ?_; simp only [Act.put, sA, sB, sC]
      refine wpAnyH_done (by kernel_rfl) ?_ _
      go_wp2_with fail
      go_roundw
      case rel => exact ⟨k + 1, hlt, by go_num, hs⟩
      case measure => first | (simp [intOf]; done) | (simp [intOf]; omega)
  · obtain rfl : k = l1.length := by omega
    go_wp2
    go_ret
    exact ⟨rfl, H.out.drop.drop⟩
theorem ref11_sameT (x : BatS) (l1 l2 : List (RecS × Value)) (q1 q2 : Option Addr) (cap1 cap2 : Nat) (hn : l1.length ≤ 1000000) (hx : l1.map (·.1) = x.recs) (hy : l2.map (·.1) = x.recs) (hf1 : ∀ x ∈ l1, x.1.hdrs.length ≤ 9223372036854775807) (hf2 : ∀ x ∈ l2, x.1.hdrs.length ≤ 9223372036854775807) {W0 w : World} {K : Know} {L : List Res} (hk1 : K.has (Know.recs (.slice q1 l1.length cap1) l1)) (hk2 : K.has (Know.recs (.slice q2 l2.length cap2) l2)) (h : St W0 w K L) :
  Calls Try.prog 10 #[.agg #[.int .i64 x.base, .int .i64 x.leader, .bool x.app, .bool x.txn, .bool x.ctl, .int .i64 x.last, .int .i64 x.first, .int .i64 x.maxt, .int .i64 x.prod, .int .i64 x.epoch, .int .i64 x.seq, .slice q1 l1.length cap1], .agg #[.int .i64 x.base, .int .i64 x.leader, .bool x.app, .bool x.txn, .bool x.ctl, .int .i64 x.last, .int .i64 x.first, .int .i64 x.maxt, .int .i64 x.prod, .int .i64 x.epoch, .int .i64 x.seq, .slice q2 l2.length cap2]] w fun en w' => en = .returned (.bool true) ∧ St W0 w' K L :=
 ref11_sameT0 x.base x.leader x.app x.txn x.ctl x.last x.first x.maxt x.prod x.epoch x.seq l1 l2 q1 q2 cap1 cap2 hn (hx.trans hy.symm) hf1 hf2 hk1 hk2 h
theorem mid_hdrs {b : BatS} (so : MidOk b) {l : List (RecS × Value)} (hl : l.map (·.1) = b.recs) : ∀ x ∈ l, x.1.hdrs.length ≤ 9223372036854775807 := fun x hx => by
  have h9 := (so.fit x.1 (by rw [← hl]; exact List.mem_map_of_mem hx)).2.2
  have h8 := sum_hdrs (Nat.le_trans h9 (by omega))
  omega
theorem mid_len {b : BatS} (so : MidOk b) {l : List (RecS × Value)} (hl : l.map (·.1) = b.recs) : l.length ≤ 1000000 := by
 have h9 := so.len
 rw [← hl, List.length_map] at h9
 omega
theorem enc14 (base leader : Int) (app txn : Bool) (last first maxt prod epoch sq : Int) (rcs : List RecS) (s : Bs) (hs : BatS.enc (⟨base, leader, app, txn, false, last, first, maxt, prod, epoch, sq, rcs⟩ : BatS) = s) (l : List (RecS × Value)) (q : Option Addr) (cap : Nat) (hl : l.map (·.1) = rcs) (so : MidOk (⟨base, leader, app, txn, false, last, first, maxt, prod, epoch, sq, rcs⟩ : BatS)) {W0 w : World} {K : Know} {L : List Res} (hk : K.has (Know.recs (.slice q l.length cap) l)) (h : St W0 w K L) :
 Calls Try.prog 8 #[.agg #[.int .i64 base, .int .i64 leader, .bool app, .bool txn, .bool false, .int .i64 last, .int .i64 first, .int .i64 maxt, .int .i64 prod, .int .i64 epoch, .int .i64 sq, .slice q l.length cap]] w fun en w' => en = .returned (.tuple #[.string (bb s), .int .i64 0]) ∧ St W0 w' K L := bat_encode_midE (⟨base, leader, app, txn, false, last, first, maxt, prod, epoch, sq, rcs⟩ : BatS) s hs l q cap hl so hk h
theorem dec14 (base leader : Int) (app txn : Bool) (last first maxt prod epoch sq : Int) (rcs : List RecS) (s : Bs) (hsl : s.length ≤ 1000000) (hd : batD s = .ok (⟨base, leader, app, txn, false, last, first, maxt, prod, epoch, sq, rcs⟩ : BatS)) {W0 w : World} {K : Know} {L : List Res} (h : St W0 w K L) :
 Calls Try.prog 9 #[.string (bb s)] w fun en w' => ∃ (q : Option Addr) (l : List (RecS × Value)) (cap : Nat), en = .returned (.tuple #[.agg #[.int .i64 base, .int .i64 leader, .bool app, .bool txn, .bool false, .int .i64 last, .int .i64 first, .int .i64 maxt, .int .i64 prod, .int .i64 epoch, .int .i64 sq, .slice q l.length cap], .int .i64 0]) ∧ l.map (·.1) = rcs ∧ St W0 w' (K.and (Know.recs (.slice q l.length cap) l)) L := bat_decode_ok s hsl (⟨base, leader, app, txn, false, last, first, maxt, prod, epoch, sq, rcs⟩ : BatS) hd h
theorem same14 (base leader : Int) (app txn : Bool) (last first maxt prod epoch sq : Int) (rcs : List RecS) (l1 l2 : List (RecS × Value)) (q1 q2 : Option Addr) (cap1 cap2 : Nat) (hl1 : l1.map (·.1) = rcs) (hl2 : l2.map (·.1) = rcs) (so : MidOk (⟨base, leader, app, txn, false, last, first, maxt, prod, epoch, sq, rcs⟩ : BatS)) {W0 w : World} {K : Know} {L : List Res} (hk1 : K.has (Know.recs (.slice q1 l1.length cap1) l1)) (hk2 : K.has (Know.recs (.slice q2 l2.length cap2) l2)) (h : St W0 w K L) :
 Calls Try.prog 10 #[.agg #[.int .i64 base, .int .i64 leader, .bool app, .bool txn, .bool false, .int .i64 last, .int .i64 first, .int .i64 maxt, .int .i64 prod, .int .i64 epoch, .int .i64 sq, .slice q1 l1.length cap1], .agg #[.int .i64 base, .int .i64 leader, .bool app, .bool txn, .bool false, .int .i64 last, .int .i64 first, .int .i64 maxt, .int .i64 prod, .int .i64 epoch, .int .i64 sq, .slice q2 l2.length cap2]] w fun en w' => en = .returned (.bool true) ∧ St W0 w' K L := ref11_sameT (⟨base, leader, app, txn, false, last, first, maxt, prod, epoch, sq, rcs⟩ : BatS) l1 l2 q1 q2 cap1 cap2 (mid_len so hl1) hl1 hl2 (mid_hdrs so hl1) (mid_hdrs so hl2) hk1 hk2 h
theorem read_req_law (p : Nat) (v : Int) (s : Bs) (hs : s.length ≤ 2000) {W0 w : World} {K : Know} {L : List Res} (h : St W0 w K (.inp p ⟨s, 0, 0⟩ :: L)) :
  Calls Try.prog 7 #[inPtr p, .int .i64 v] w fun en w' => ∃ (nl : Bool) (dd : Bs) (ac tm : Int) (q : Option Addr) (cap : Nat) (l : List PTop) (K2 : Know) (j : InS), en = .returned (.agg #[.bool nl, .string (bb dd), .int .i64 ac, .int .i64 tm, .slice q l.length cap]) ∧ (∀ x ∈ l, ∀ y ∈ x.l, ∀ z ∈ y.l, LawOk nl z) ∧ l.length ≤ 1000000 ∧ (∀ x ∈ l, CkT x) ∧ K2.has (Know.ptops (.slice q l.length cap) l) ∧ St W0 w' K2 (.inp p j :: L) := by
 obtain ⟨⟨⟨nu, dd⟩, i1⟩, h1⟩ : ∃ r, (⟨s, 0, 0⟩ : InS).fixed 2 = r := ⟨_, rfl⟩
 obtain ⟨⟨ac, i2⟩, h2⟩ : ∃ r, i1.int 2 = r := ⟨_, rfl⟩
 obtain ⟨⟨tm, i3⟩, h3⟩ : ∃ r, i2.int 4 = r := ⟨_, rfl⟩
 obtain ⟨⟨n, c⟩, h4⟩ : ∃ r, i3.cnt 6 = r := ⟨_, rfl⟩
 obtain ⟨⟨ts, j⟩, h5⟩ : ∃ r, InS.ptopsN n [] c = r := ⟨_, rfl⟩
 have hd : (⟨s, 0, 0⟩ : InS).s.length ≤ 1000000 := by show s.length ≤ 1000000; omega
 have hnil : ∀ K2 : Know, (K2.and (Know.ptops (.slice none 0 0) [])).has (Know.ptops (.slice none ([] : List PTop).length 0) []) := fun K2 => Know.has_right (Know.has_refl _)
 have hz : ∀ {K2 : Know} {W0 w : World} {L : List Res}, St W0 w K2 L → St W0 w (K2.and (Know.ptops (.slice none 0 0) [])) L := fun {K2} {_} {_} {_} g => g.know (K' := K2.and (Know.ptops (.slice none 0 0) [])) (fun w F hh => ⟨hh, ⟨⟨none, 0, rfl, fun h => absurd h (by simp)⟩, fun x hx => by cases hx⟩⟩)
 cases nu with
 | false =>
  refine (read_req_false p v _ i1 i2 i3 c j dd ac tm n ts h1 h2 h3 h4 h5 hd h).mono ?_
  rintro en w' (⟨_, K2, he, _, g⟩ | ⟨_, q, cap, lr, K2, _, _, hck, hll, hot, ⟨h0, he, hk, g⟩ | ⟨_, he, g⟩⟩)
  · exact ⟨false, [], 0, 0, none, 0, [], _, _, he, fun x hx => (by cases hx), Nat.zero_le _, fun x hx => (by cases hx), hnil K2, hz g⟩
  · exact ⟨false, dd, ac, tm, q, cap, lr, K2, _, he, law_ok hs h0 hot, hll, hck, hk, g⟩
  · exact ⟨false, [], 0, 0, none, 0, [], _, _, he, fun x hx => (by cases hx), Nat.zero_le _, fun x hx => (by cases hx), hnil K2, hz g⟩
 | true =>
  refine (read_req_true p v _ i1 i2 i3 c j dd ac tm n ts h1 h2 h3 h4 h5 hd h).mono ?_
  rintro en w' (⟨_, K2, he, _, g⟩ | ⟨_, q, cap, lr, K2, _, _, hck, hll, hot, ⟨h0, he, hk, g⟩ | ⟨_, he, g⟩⟩)
  · exact ⟨false, [], 0, 0, none, 0, [], _, _, he, fun x hx => (by cases hx), Nat.zero_le _, fun x hx => (by cases hx), hnil K2, hz g⟩
  · exact ⟨true, dd, ac, tm, q, cap, lr, K2, _, he, law_ok hs h0 hot, hll, hck, hk, g⟩
  · exact ⟨false, [], 0, 0, none, 0, [], _, _, he, fun x hx => (by cases hx), Nat.zero_le _, fun x hx => (by cases hx), hnil K2, hz g⟩
set_option maxHeartbeats 2000000 in
set_option maxRecDepth 100000 in
theorem put_part (po : Nat) (e e2 : Bs) (idx : Int) (l : List BatR) (q : Option Addr) (cap : Nat) (hp : PutP ⟨idx, l, q, cap⟩) (he : e ++ encPart ⟨idx, l, q, cap⟩ = e2) (hel : e.length ≤ 10000000) {W0 w : World} {K : Know} {L : List Res} (hk : K.has (Know.bats (.slice q l.length cap) l)) (h : St W0 w K (.out po ⟨e, 0⟩ :: L)) :
  Calls Try.prog 41 #[outPtr po, .agg #[.int .i64 idx, .slice q l.length cap]] w fun en w' => en = .returned (.tuple #[]) ∧ St W0 w' K (.out po ⟨e2, 0⟩ :: L) := by
 obtain ⟨rb, hrb⟩ : ∃ b, w.heap.size = b := ⟨_, rfl⟩
 have g1 := (h.allocRaw #[.int .i64 idx, .slice q l.length cap] 36).p1
 rw [hrb] at g1
 have y0 := g1.p1.rawCell 0
 have y1 := g1.p1.rawCell 1
 simp at y0 y1
 obtain ⟨s, hs⟩ : ∃ s, encB l = s := ⟨_, rfl⟩
 obtain ⟨e1, he1⟩ : ∃ x, e ++ beBytes idx (4 : Int).toNat = x := ⟨_, rfl⟩
 have hsl : s.length ≤ 280000 := by rw [← hs]; exact hp.len
 have H := Lib.hid g1
 have HK := Lib.hid hk
 have HSE := Lib.hid (show allB l = (s, 0) by rw [allB_good hp.err, hs])
 have HFT := Lib.hid (show ∀ x ∈ l, x.Fit from hp.fit)
 have HSM := Lib.hid (show ∀ x ∈ l, smallB (x.l.map (·.1)) = true from hp.small)
 have HLL := Lib.hid (show l.length ≤ 20 from hp.few)
 have HE1 := Lib.hid he1
 have HF4 := Lib.hid (pfits4 idx (by have h1 : 0 ≤ idx ∧ idx ≤ 2147483647 := hp.idx; omega))
 have HR8 := Lib.hid (show -9223372036854775808 ≤ idx ∧ idx < 9223372036854775808 by have h1 : 0 ≤ idx ∧ idx ≤ 2147483647 := hp.idx; omega)
 have HL0 := Lib.hid (show e.length ≤ 100000000000000 by omega)
 have HL1 := Lib.hid (show e1.length ≤ 100000000000000 by rw [← he1, List.length_append, beBytes_length]; show e.length + 4 ≤ _; omega)
 have HE2 := Lib.hid (show e1 ++ encF 4 ⟨false, s⟩ = e2 by
  rw [← he1, ← he, List.append_assoc, ← hs]
  rfl)
 have HSL := Lib.hid (show s.length ≤ 100000000 by omega)
 clear h g1 hk hp he he1 hel hs hsl
 go_enter Try.func41, Try.ntmps41
 go_wp2_with (first
  | (go_at_call 71; clear y0 y1; (with_reducible refine (bat_all l q cap s 0 HSE.out HFT.out HSM.out HLL.out HK.out H.out).mono ?_); rintro e_ wn ⟨rfl, h⟩; have y0 := h.p1.rawCell 0; have y1 := h.p1.rawCell 1; simp at y0 y1; replace H := Lib.hid h; clear h)
  | (go_at_call 39; (with_reducible refine (pso_int po e e1 idx 4 HE1.out HF4.out HR8.out HL0.out H.out).mono ?_); rintro e_ wn ⟨rfl, h⟩; replace H := Lib.hid h; clear h)
  | (go_at_call 70; (with_reducible refine (pblob_of s H.out).mono ?_); rintro e_ wn ⟨rfl, h⟩; replace H := Lib.hid h; clear h)
  | (go_at_call 38; (with_reducible refine (pblob_fixed4 po e1 e2 s HE2.out HSL.out HL1.out H.out).mono ?_); rintro e_ wn ⟨rfl, h⟩; replace H := Lib.hid h; clear h))
 go_end0
 exact ⟨rfl, H.out.p1.drop⟩
set_option maxHeartbeats 6000000 in
set_option maxRecDepth 100000 in
theorem preq_write_ok (po : Nat) (o : Bs) (nl : Bool) (dd : Bs) (ac tm v : Int) (l : List PTop) (q : Option Addr) (cap : Nat) (hdd : dd.length ≤ 140737488355328) (hf : ∀ x ∈ l, CkT x) (hll : l.length ≤ 1000000) (he : errReq ⟨nl, dd⟩ ac tm v l = 0) (o2 : Bs) (hs : o ++ encPReq nl dd ac tm l = o2) (h2 : o2.length ≤ 9000000) (hrt : (⟨nl, dd⟩ : BlobS).right = true) (hd2 : dd.length ≤ 32767) (hac : -32768 ≤ ac ∧ ac < 32768) (htm : 0 ≤ tm ∧ tm < 2147483648) (hpt : ∀ x ∈ l, PutT x) {W0 w : World} {K : Know} {L : List Res} (hk : K.has (Know.ptops (.slice q l.length cap) l)) (h : St W0 w K (.out po ⟨o, 0⟩ :: L)) :
  Calls Try.prog 16 #[.agg #[.bool nl, .string (bb dd), .int .i64 ac, .int .i64 tm, .slice q l.length cap], outPtr po, .int .i64 v] w fun en w' => en = .returned (.tuple #[]) ∧ St W0 w' K (.out po ⟨o2, 0⟩ :: L) := by
 obtain ⟨rb, hrb⟩ : ∃ b, w.heap.size = b := ⟨_, rfl⟩
 have g1 := (h.allocRaw #[.bool nl, .string (bb dd), .int .i64 ac, .int .i64 tm, .slice q l.length cap] 29).p1
 rw [hrb] at g1
 have z0 := g1.p1.rawCell 0; have z1 := g1.p1.rawCell 1; have z2 := g1.p1.rawCell 2; have z3 := g1.p1.rawCell 3; have z4 := g1.p1.rawCell 4; simp at z0 z1 z2 z3 z4
 have H := Lib.hid g1
 have HK := Lib.hid hk
 have HCF := Lib.hid hf
 have HLL := Lib.hid hll
 have HDD := Lib.hid hdd
 have HER := Lib.hid he
 obtain ⟨A1, hA1⟩ : ∃ A, o ++ encF 2 ⟨nl, dd⟩ = A := ⟨_, rfl⟩
 obtain ⟨A2, hA2⟩ : ∃ A, A1 ++ beBytes ac (2 : Int).toNat = A := ⟨_, rfl⟩
 obtain ⟨A3, hA3⟩ : ∃ A, A2 ++ beBytes tm (4 : Int).toNat = A := ⟨_, rfl⟩
 obtain ⟨A4, hA4⟩ : ∃ A, A3 ++ beBytes (l.length : Int) (4 : Int).toNat = A := ⟨_, rfl⟩
 have hR : A4 ++ (l.drop 0).flatMap encPTop = o2 := by
  rw [← hs, ← hA4, ← hA3, ← hA2, ← hA1, List.drop_zero]
  unfold encPReq
  simp only [List.append_assoc]
 have l4 := len_ahead hR h2
 have l3 := len_ahead hA4 l4
 have l2 := len_ahead hA3 l3
 have l1 := len_ahead hA2 l2
 have l0 := len_ahead hA1 l1
 have HA1 := Lib.hid hA1
 have HA2 := Lib.hid hA2
 have HA3 := Lib.hid hA3
 have HA4 := Lib.hid hA4
 have HR := Lib.hid hR
 have HO2 := Lib.hid h2
 have L0 := Lib.hid (show o.length ≤ 100000000000000 by omega)
 have L1 := Lib.hid (show A1.length ≤ 100000000000000 by omega)
 have L2 := Lib.hid (show A2.length ≤ 100000000000000 by omega)
 have L3 := Lib.hid (show A3.length ≤ 100000000000000 by omega)
 have HRT := Lib.hid hrt
 have HD2 := Lib.hid hd2
 have FA := Lib.hid (pfits2 ac hac)
 have FT := Lib.hid (pfits4 tm (by omega))
 have FL := Lib.hid (pfits4 (l.length : Int) (by omega))
 have RA := Lib.hid (show -9223372036854775808 ≤ ac ∧ ac < 9223372036854775808 by omega)
 have RT := Lib.hid (show -9223372036854775808 ≤ tm ∧ tm < 9223372036854775808 by omega)
 have RL := Lib.hid (show -9223372036854775808 ≤ (l.length : Int) ∧ (l.length : Int) < 9223372036854775808 by omega)
 have HPT := Lib.hid hpt
 have hni : (l.length : Int) ≤ 1000000 := by omega
 clear h g1 hk hf hll hdd he hs h2 hrt hd2 hac htm hpt hA1 hA2 hA3 hA4 hR l4 l3 l2 l1 l0
 go_enter Try.func16, Try.ntmps16
 go_wp2_with (first
  | (go_at_call 18; clear z0 z1 z2 z3 z4; (with_reducible refine (preq_check nl dd ac tm v l q cap HDD.out HCF.out HLL.out 0 HER.out HK.out H.out).mono ?_); rintro e_ wn ⟨rfl, h⟩; have z0 := h.p1.rawCell 0; have z1 := h.p1.rawCell 1; have z2 := h.p1.rawCell 2; have z3 := h.p1.rawCell 3; have z4 := h.p1.rawCell 4; simp at z0 z1 z2 z3 z4; replace H := Lib.hid h; clear h)
  | (go_at_call 38; clear z0 z1 z2 z3 z4; (with_reducible refine (pblob_fixed2 po o A1 nl dd HA1.out HRT.out HD2.out L0.out H.out).mono ?_); rintro e_ wn ⟨rfl, h⟩; have z0 := h.p1.rawCell 0; have z1 := h.p1.rawCell 1; have z2 := h.p1.rawCell 2; have z3 := h.p1.rawCell 3; have z4 := h.p1.rawCell 4; simp at z0 z1 z2 z3 z4; replace H := Lib.hid h; clear h)
  | (go_at_call 39; clear z0 z1 z2 z3 z4; (with_reducible refine (pso_int po A1 A2 ac 2 HA2.out FA.out RA.out L1.out H.out).mono ?_); rintro e_ wn ⟨rfl, h⟩; have z0 := h.p1.rawCell 0; have z1 := h.p1.rawCell 1; have z2 := h.p1.rawCell 2; have z3 := h.p1.rawCell 3; have z4 := h.p1.rawCell 4; simp at z0 z1 z2 z3 z4; replace H := Lib.hid h; clear h)
  | (go_at_call 39; clear z0 z1 z2 z3 z4; (with_reducible refine (pso_int po A2 A3 tm 4 HA3.out FT.out RT.out L2.out H.out).mono ?_); rintro e_ wn ⟨rfl, h⟩; have z0 := h.p1.rawCell 0; have z1 := h.p1.rawCell 1; have z2 := h.p1.rawCell 2; have z3 := h.p1.rawCell 3; have z4 := h.p1.rawCell 4; simp at z0 z1 z2 z3 z4; replace H := Lib.hid h; clear h)
  | (go_at_call 39; clear z0 z1 z2 z3 z4; (with_reducible refine (pso_int po A3 A4 l.length 4 HA4.out FL.out RL.out L3.out H.out).mono ?_); rintro e_ wn ⟨rfl, h⟩; have z0 := h.p1.rawCell 0; have z1 := h.p1.rawCell 1; have z2 := h.p1.rawCell 2; have z3 := h.p1.rawCell 3; have z4 := h.p1.rawCell 4; simp at z0 z1 z2 z3 z4; replace H := Lib.hid h; clear h))
 clear z0 z1 z2 z3 z4
 go_loopw [39] (fun iv wr => ∃ (k : Nat) (E : Bs), k ≤ l.length ∧ iv = .int .i64 k ∧ Hid (E ++ (l.drop k).flatMap encPTop = o2) ∧ St W0 wr K (.out po ⟨E, 0⟩ :: .raw rb #[.bool nl, .string (bb dd), .int .i64 ac, .int .i64 tm, .slice q l.length cap] 29 :: L)) (fun iv _ => l.length - (intOf iv).toNat)
 case atStart => exact ⟨0, A4, Nat.zero_le _, rfl, HR, H.out⟩
 case round =>
  obtain ⟨k, E, hkl, rfl, HE, hst⟩ := hrel
  clear H HR
  have H := Lib.hid hst
  clear hst
  by_cases hlt : k < l.length
  · obtain ⟨bk, off, hqq⟩ := ptops_at HK.out H.out (by omega)
    obtain ⟨x, hx⟩ : ∃ x, l[k] = x := ⟨_, rfl⟩
    have hmem : x ∈ l := hx ▸ List.getElem_mem hlt
    have hpx := HPT.out x hmem
    have HK' := HK.out
    rw [hqq] at HK'
    obtain ⟨c0, c1⟩ := ptops_cell HK' H.out k hlt x hx
    have HXK0 := ptops_parts HK.out hmem
    have he := HE.out
    rw [flat_cut encPTop l k hlt x hx] at he
    have hkn : (k : Int) < (l.length : Int) := by omega
    obtain ⟨nm, xl, xq, xcap⟩ := x
    simp only at c0 c1 HXK0
    obtain ⟨B1, hB1⟩ : ∃ B, E ++ encF 2 ⟨false, nm⟩ = B := ⟨_, rfl⟩
    obtain ⟨B2, hB2⟩ : ∃ B, B1 ++ beBytes (xl.length : Int) (4 : Int).toNat = B := ⟨_, rfl⟩
    have hI : B2 ++ ((xl.drop 0).flatMap encPart ++ (l.drop (k + 1)).flatMap encPTop) = o2 := by
     rw [← he, ← hB2, ← hB1, List.drop_zero]
     unfold encPTop
     simp only [List.append_assoc]
    have hxl : xl.length ≤ 100000 := hpx.few
    have hxi : (xl.length : Int) ≤ 100000 := by omega
    have l2 := len_ahead hI HO2.out
    have l1 := len_ahead hB2 l2
    have l0 := len_ahead hB1 l1
    have HB1 := Lib.hid hB1
    have HB2 := Lib.hid hB2
    have HI := Lib.hid hI
    have HNM := Lib.hid (show nm.length ≤ 32767 from hpx.name)
    have M0 := Lib.hid (show E.length ≤ 100000000000000 by omega)
    have M1 := Lib.hid (show B1.length ≤ 100000000000000 by omega)
    have FX := Lib.hid (pfits4 (xl.length : Int) (by omega))
    have RX := Lib.hid (show -9223372036854775808 ≤ (xl.length : Int) ∧ (xl.length : Int) < 9223372036854775808 by omega)
    have HXK := Lib.hid HXK0
    have HPP := Lib.hid (show ∀ y ∈ xl, PutP y from hpx.parts)
    subst hqq
    clear hx hmem hpx HK' HXK0 he hxl hB1 hB2 hI l2 l1 l0
    go_wp2_with (first
  | (go_at_call 40; (with_reducible refine (pblob_text po E B1 nm HB1.out HNM.out M0.out ((H.out.allocRaw #[.string (bb nm), .slice xq xl.length xcap] 33).p1)).mono ?_); rintro e_ wn ⟨rfl, h⟩; have y0 := h.p1.rawCell 0; have y1 := h.p1.rawCell 1; simp at y0 y1; replace H := Lib.hid h; clear h)
  | (go_at_call 39; clear y0 y1; (with_reducible refine (pso_int po B1 B2 xl.length 4 HB2.out FX.out RX.out M1.out H.out).mono ?_); rintro e_ wn ⟨rfl, h⟩; have y1 := h.p1.rawCell 1; simp at y1; replace H := Lib.hid h; clear h))
    clear y1
    go_loopw [55] (fun jv wr => ∃ (j : Nat) (G : Bs), j ≤ xl.length ∧ jv = .int .i64 j ∧ Hid (G ++ ((xl.drop j).flatMap encPart ++ (l.drop (k + 1)).flatMap encPTop) = o2) ∧ St W0 wr K (.out po ⟨G, 0⟩ :: .raw rb #[.bool nl, .string (bb dd), .int .i64 ac, .int .i64 tm, .slice (some ⟨bk, off, none⟩) l.length cap] 29 :: L)) (fun jv _ => xl.length - (intOf jv).toNat)
    case atStart => exact ⟨0, B2, Nat.zero_le _, rfl, HI, H.out.p1.drop⟩
    case round =>
     obtain ⟨j, G, hjl, rfl, HG, hst⟩ := hrel
     clear H HI c0 c1
     have H := Lib.hid hst
     clear hst
     by_cases hjt : j < xl.length
     · obtain ⟨pk, poff, hpq⟩ := pparts_at HXK.out H.out (by omega)
       subst hpq
       obtain ⟨y, hy⟩ : ∃ y, xl[j] = y := ⟨_, rfl⟩
       have hmem : y ∈ xl := hy ▸ List.getElem_mem hjt
       have hpy := HPP.out y hmem
       obtain ⟨d0, d1⟩ := pparts_cell HXK.out H.out j hjt y hy
       have HYK0 := pparts_bats HXK.out hmem
       have hg := HG.out
       rw [flat_cut encPart xl j hjt y hy] at hg
       have hjn : (j : Int) < (xl.length : Int) := by omega
       obtain ⟨yi, yl, yq, ycap⟩ := y
       simp only at d0 d1 HYK0
       obtain ⟨G2, hG2⟩ : ∃ B, G ++ encPart ⟨yi, yl, yq, ycap⟩ = B := ⟨_, rfl⟩
       have hI : G2 ++ ((xl.drop (j + 1)).flatMap encPart ++ (l.drop (k + 1)).flatMap encPTop) = o2 := by
        rw [← hg, ← hG2]
        simp only [List.append_assoc]
       have l1 := len_ahead hI HO2.out
       have l0 := len_ahead hG2 l1
       have HYK := Lib.hid HYK0
       have HPY := Lib.hid hpy
       have HG2 := Lib.hid hG2
       have HI2 := Lib.hid hI
       have M2 := Lib.hid (show G.length ≤ 10000000 by omega)
       clear hy hmem hpy HYK0 hg hG2 hI l1 l0
       go_wp2_with (go_at_call 41; (with_reducible refine (put_part po G G2 yi yl yq ycap HPY.out HG2.out M2.out HYK.out ((H.out.allocRaw #[.int .i64 yi, .slice yq yl.length ycap] 36).p1)).mono ?_); rintro e_ wn ⟨rfl, h⟩; have h := h.p1.drop; replace H := Lib.hid h; clear h)
       go_roundw
       case rel =>
        refine ⟨j + 1, G2, hjt, by go_num, HI2, ?_⟩
        exact H.out
       case measure => first | (simp [intOf]; done) | (simp [intOf]; omega)
     · obtain rfl : j = xl.length := by omega
       have HE2 := Lib.hid (show G ++ (l.drop (k + 1)).flatMap encPTop = o2 by have hg := HG.out; rw [List.drop_length] at hg; exact hg)
       go_wp2_with fail
       go_roundw
       case rel =>
        refine ⟨k + 1, G, hlt, by go_num, HE2, ?_⟩
        exact H.out
       case measure => first | (simp [intOf]; done) | (simp [intOf]; omega)
  · obtain rfl : k = l.length := by omega
    have he := HE.out
    rw [List.drop_length, List.flatMap_nil, List.append_nil] at he
    subst he
    go_wp2_with fail
    go_end0
    exact ⟨rfl, H.out.p1.drop⟩
theorem nob_call {W0 w : World} {K : Know} {L : List Res} (h : St W0 w K L) :
  Calls Try.prog 15 #[] w fun en w' => en = .returned (.agg #[.int .i64 0, .int .i64 0, .bool false, .bool false, .bool false, .int .i64 0, .int .i64 0, .int .i64 0, .int .i64 (-1), .int .i64 (-1), .int .i64 (-1), .slice none 0 0]) ∧ St W0 w' K L := by
 obtain ⟨rb, hrb⟩ : ∃ b, w.heap.size = b := ⟨_, rfl⟩
 have g2 := h.allocRaw #[.int .i64 0, .int .i64 0, .bool false, .bool false, .bool false, .int .i64 0, .int .i64 0, .int .i64 0, .int .i64 (-1), .int .i64 (-1), .int .i64 (-1), .slice none 0 0] 39
 rw [hrb] at g2
 have H := Lib.hid g2
 clear h g2
 go_enter Try.func15, Try.ntmps15
 go_wp2
 have hz := H.out
 refine bodyPost_ret (rc_cell_onlyP rfl _ _ rb [.int .i64 0, .int .i64 0, .bool false, .bool false, .bool false, .int .i64 0, .int .i64 0, .int .i64 0, .int .i64 (-1), .int .i64 (-1), .int .i64 (-1), .slice none 0 0] _ rfl (rc_rangeP hz) Try.underlying39 rfl (by kernel_rfl)) rfl ?_
 exact ⟨rfl, hz.drop⟩

theorem nob_write (po b p t : Nat) {W0 w : World} {K : Know} {L : List Res} (hk : K.has (Know.ptops (.slice (some ⟨t, 0, none⟩) 1 1) [nobTop 1 b p])) (h : St W0 w K (.out po ⟨[], 0⟩ :: L)) :
  Calls Try.prog 16 #[.agg #[.bool true, .string ⟨#[]⟩, .int .i64 0, .int .i64 0, .slice (some ⟨t, 0, none⟩) 1 1], outPtr po, .int .i64 3] w fun en w' => en = .returned (.tuple #[]) ∧ ∃ s : Bs, s.length = 88 ∧ St W0 w' K (.out po ⟨s, 0⟩ :: L) := by
 have hl := nob_bytes b p
 refine (preq_write_ok po [] true [] 0 0 3 [nobTop 1 b p] (some ⟨t, 0, none⟩) 1 (by decide) (fun x hx => by rw [List.mem_singleton.1 hx]; exact nob_ckT 1 b p (by decide)) (by show (1 : Nat) ≤ 1000000; decide) (nob_E1 b p 3) (encPReq true [] 0 0 [nobTop 1 b p]) rfl (by omega) rfl (by decide) (by decide) (by decide) (fun x hx => by rw [List.mem_singleton.1 hx]; exact nob_putT b p) hk h).mono ?_
 rintro en w' ⟨h1, h2⟩
 exact ⟨h1, _, hl, h2⟩
theorem nob_check3 (b p t : Nat) {W0 w : World} {K : Know} {L : List Res} (hk : K.has (Know.ptops (.slice (some ⟨t, 0, none⟩) 1 1) [nobTop 2 b p])) (h : St W0 w K L) :
  Calls Try.prog 18 #[.agg #[.bool true, .string ⟨#[]⟩, .int .i64 0, .int .i64 0, .slice (some ⟨t, 0, none⟩) 1 1], .int .i64 3] w fun en w' => en = .returned (.int .i64 10) ∧ St W0 w' K L :=
 preq_check true [] 0 0 3 [nobTop 2 b p] (some ⟨t, 0, none⟩) 1 (by decide) (fun x hx => by rw [List.mem_singleton.1 hx]; exact nob_ckT 2 b p (by decide)) (by show (1 : Nat) ≤ 1000000; decide) 10 (nob_E2 b p) hk h
theorem nob_check4 (b p t : Nat) {W0 w : World} {K : Know} {L : List Res} (hk : K.has (Know.ptops (.slice (some ⟨t, 0, none⟩) 1 1) [nobTop 2 b p])) (h : St W0 w K L) :
  Calls Try.prog 18 #[.agg #[.bool true, .string ⟨#[]⟩, .int .i64 0, .int .i64 0, .slice (some ⟨t, 0, none⟩) 1 1], .int .i64 4] w fun en w' => en = .returned (.int .i64 0) ∧ St W0 w' K L :=
 preq_check true [] 0 0 4 [nobTop 2 b p] (some ⟨t, 0, none⟩) 1 (by decide) (fun x hx => by rw [List.mem_singleton.1 hx]; exact nob_ckT 2 b p (by decide)) (by show (1 : Nat) ≤ 1000000; decide) 0 (nob_E3 b p) hk h

set_option maxHeartbeats 4000000 in
set_option maxRecDepth 100000 in
theorem speaks20 {W0 w : World} {K : Know} {L : List Res} (h : St W0 w K L) :
   Calls Try.prog 5 #[] w fun en w' => en = .returned (.bool true) ∧ St W0 w' K L := by
 have H := Lib.hid h
 have t1 : True := trivial
 clear h
 go_enter Try.func5, Try.ntmps5
 go_upto_region 3 with (go_at_call 15; have _t := t1; clear _t; (with_reducible refine (nob_call H.out).mono ?_); rintro e_ wn ⟨rfl, h⟩; obtain ⟨bb_, hbb⟩ : ∃ b, wn.heap.size = b := ⟨_, rfl⟩; obtain ⟨pb, hpb⟩ : ∃ b, bb_ + 1 = b := ⟨_, rfl⟩; obtain ⟨tb, htb⟩ : ∃ b, pb + 1 = b := ⟨_, rfl⟩; obtain ⟨rb, hrb⟩ : ∃ b, tb + 1 = b := ⟨_, rfl⟩; obtain ⟨po, hpo⟩ : ∃ b, rb + 1 = b := ⟨_, rfl⟩; replace H := Lib.hid h; clear h t1)
 have h0 := ((((H.out.allocRaw #[.int .i64 0, .int .i64 0, .bool false, .bool false, .bool false, .int .i64 0, .int .i64 0, .int .i64 0, .int .i64 (-1), .int .i64 (-1), .int .i64 (-1), .slice none 0 0] 39).allocRaw #[.int .i64 0, .slice (some ⟨bb_, 0, none⟩) 1 1] 36).allocRaw #[.string ⟨#[97]⟩, .slice (some ⟨pb, 0, none⟩) 1 1] 33).allocRaw #[.bool true, .string ⟨#[]⟩, .int .i64 0, .int .i64 0, .slice (some ⟨tb, 0, none⟩) 1 1] 29).allocOut
 simp only [World.size_alloc, hbb, hpb, htb, hrb, hpo] at h0
 obtain ⟨Kp, l1, l2, l3, l4⟩ := nob_lend 1 bb_ pb tb (T1 := 39) (T2 := 36) (T3 := 33) (L := .out po ⟨[], 0⟩ :: .raw rb #[.bool true, .string ⟨#[]⟩, .int .i64 0, .int .i64 0, .slice (some ⟨tb, 0, none⟩) 1 1] 29 :: L) h0.p2.p3.p4
 have z0 := l3.p1.rawCell 0; have z1 := l3.p1.rawCell 1; have z2 := l3.p1.rawCell 2; have z3 := l3.p1.rawCell 3; have z4 := l3.p1.rawCell 4; simp at z0 z1 z2 z3 z4
 have HM2 := Lib.hid l2
 have HM4 := Lib.hid l4
 clear H h0 l1 l2 l4
 have H := Lib.hid l3
 have t3 : True := trivial
 have t4 : True := trivial
 have t5 : True := trivial
 clear l3
 go_upto_region 5 with (first
   | (go_at_call 16; clear z0 z1 z2 z3 z4; (with_reducible refine (nob_write po bb_ pb tb HM2.out H.out).mono ?_); rintro e_ wn ⟨rfl, s, hs88, h⟩; have h := HM4.out _ _ h; have h := h.p3; have g88 : ((s.length : Int) == 88) = true := (by rw [hs88]; rfl); replace H := Lib.hid h; clear h hs88)
   | (go_at_call 17; (with_reducible refine (pso_text po s H.out).mono ?_); rintro e_ wn ⟨rfl, h⟩; have h := h.p3.p3.p3; have z0 := h.p4.rawCell 0; have z1 := h.p4.rawCell 1; have z2 := h.p4.rawCell 2; have z3 := h.p4.rawCell 3; have z4 := h.p4.rawCell 4; simp at z0 z1 z2 z3 z4; replace H := Lib.hid h; clear h))
 have hs := H.out.drew
 refine wp_region_held_drew (S := fun w' => w'.cell? ⟨rb, 4, none⟩ = some (.slice (some ⟨tb, 0, none⟩) 1 1) ∧ w'.cell? ⟨tb, 1, none⟩ = some (.slice (some ⟨pb, 0, none⟩) 1 1)) (by kernel_rfl) (⟨by have := (hs).p4.rawCell 4; simpa using this, by have := (hs).p2.rawCell 1; simpa using this⟩) (fun hHeld => ?_)
 refine tQ 0 ⟨some 19, .fieldAddr 29 (.tmp 1) 3, 0, "law.go:24", #[], none⟩ ?_; simp only [Act.put, sA, sB, sC]
 refine tQ 1 ⟨some 20, .load 27 (.tmp 19), 27, "law.go:24", #[.mk 0 .data], none⟩ ?_; simp only [Act.put, sA, sB, sC]
 refine tQ 2 ⟨some 21, .indexAddr 27 (.tmp 20) (.const (Value.int IntKind.i64 0)), 0, "law.go:24", #[.mk 1 .data], none⟩ ?_; simp only [Act.put, sA, sB, sC]
 refine tQ 3 ⟨some 22, .fieldAddr 33 (.tmp 21) 1, 0, "law.go:24", #[.mk 2 .data], none⟩ ?_; simp only [Act.put, sA, sB, sC]
 refine tQ 4 ⟨some 23, .load 31 (.tmp 22), 31, "law.go:24", #[.mk 3 .data], none⟩ ?_; simp only [Act.put, sA, sB, sC]
 refine wpAnyH_ready (rs := [5]) (by kernel_rfl) (by simp) (AllReadyH.cons (o := ⟨some 24, .call { callee := .value (.func 15), args := #[], argTypes := #[] }, 39, "law.go:24", #[], none⟩) rfl (fun KK hK => ?_) AllReadyH.nil)
 · go_simp
   go_at_call 15
   with_reducible refine (nob_call hs).mono ?_
   rintro e wq ⟨rfl, hs⟩
   refine hK.out _ _ (⟨by have := (hs).p4.rawCell 4; simpa using this, by have := (hs).p2.rawCell 1; simpa using this⟩) (fun hHeld => ?_)
   clear hK KK
   try simp only [Act.put, sA, sB, sC]
   refine wpAnyH_ready (rs := [6]) (by kernel_rfl) (by simp) (AllReadyH.cons (o := ⟨some 25, .call { callee := .value (.func 15), args := #[], argTypes := #[] }, 39, "law.go:24", #[.mk 5 .chain], none⟩) rfl (fun KK hK => ?_) AllReadyH.nil)
   · go_simp
     go_at_call 15
     with_reducible refine (nob_call hs).mono ?_
     rintro e wq ⟨rfl, hs⟩
     refine hK.out _ _ (⟨by have := (hs).p4.rawCell 4; simpa using this, by have := (hs).p2.rawCell 1; simpa using this⟩) (fun hHeld => ?_)
     clear hK KK
     try simp only [Act.put, sA, sB, sC]
     refine wpAnyH_ready (rs := [7]) (by kernel_rfl) (by simp) (AllReadyH.cons (o := ⟨some 26, .buildSlice 34 2 #[(0, .tmp 24), (1, .tmp 25)], 34, "law.go:24", #[.mk 5 .data, .mk 6 .data], none⟩) rfl (fun KK hK => ?_) AllReadyH.nil)
     · rw [if_pos (by rfl)]
       refine op_value (exec_buildP _ _ _ _ (by kernel_rfl) (buildNob2 _)) ?_
       obtain ⟨wy, b2, ey, eb, hs⟩ := hs.allocEx #[.int .i64 0, .int .i64 0, .bool false, .bool false, .bool false, .int .i64 0, .int .i64 0, .int .i64 0, .int .i64 (-1), .int .i64 (-1), .int .i64 (-1), .slice none 0 0, .int .i64 0, .int .i64 0, .bool false, .bool false, .bool false, .int .i64 0, .int .i64 0, .int .i64 0, .int .i64 (-1), .int .i64 (-1), .int .i64 (-1), .slice none 0 0] 39
       rw [ey, eb]
       clear ey eb
       refine hK.out _ _ (⟨by have := (hs).p5.rawCell 4; simpa using this, by have := (hs).p3.rawCell 1; simpa using this⟩) (fun hHeld => ?_)
       clear hK KK
       try simp only [Act.put, sA, sB, sC]
       refine tQ 8 ⟨some 27, .indexAddr 31 (.tmp 23) (.const (Value.int IntKind.i64 0)), 0, "law.go:24", #[.mk 4 .data, .mk 0 .phase, .mk 1 .phase, .mk 2 .phase, .mk 3 .phase, .mk 4 .phase, .mk 5 .phase, .mk 6 .phase, .mk 7 .phase], none⟩ ?_; simp only [Act.put, sA, sB, sC]
       refine tQ 9 ⟨some 28, .fieldAddr 36 (.tmp 27) 1, 0, "law.go:24", #[.mk 8 .data, .mk 0 .phase, .mk 1 .phase, .mk 2 .phase, .mk 3 .phase, .mk 4 .phase, .mk 5 .phase, .mk 6 .phase, .mk 7 .phase], none⟩ ?_; simp only [Act.put, sA, sB, sC]
       refine wpAnyH_ready (rs := [10]) (by kernel_rfl) (by simp) (AllReadyH.cons (o := ⟨none, .store 34 (.tmp 28) (.tmp 26), 0, "law.go:24", #[.mk 9 .data, .mk 7 .data, .mk 6 .chain, .mk 0 .phase, .mk 1 .phase, .mk 2 .phase, .mk 3 .phase, .mk 4 .phase, .mk 5 .phase, .mk 6 .phase, .mk 7 .phase], none⟩) rfl (fun KK hK => ?_) AllReadyH.nil)
       · have hs := hs.p2
         have q1 := hs.rawFree 1
         have z1 := hs.rawCell 1
         simp at z1
         rw [if_pos (by rfl)]
         refine op_skip (w' := wy.setCell ⟨pb, 1, none⟩ (.slice (some ⟨b2, 0, none⟩) 2 2)) (by go_simp) ?_
         obtain ⟨wz, ez, hs⟩ := hs.setExP 1 (.slice (some ⟨b2, 0, none⟩) 2 2)
         rw [ez]
         clear ez q1 z1
         have hs := hs.p2
         refine hK.out _ _ (⟨by have := (hs).p5.rawCell 4; simpa using this, by have := (hs).p3.rawCell 1; simpa using this⟩) (fun hHeld => ?_)
         clear hK KK
         try simp only [Act.put, sA, sB, sC]
         refine wpAnyH_done (by kernel_rfl) ?_ _
         clear hHeld z0 z1 z2 z3 z4
         obtain ⟨Kq, m1, m2, m3, m4⟩ := nob_lend 2 b2 pb tb (T1 := 39) (T2 := 36) (T3 := 33) (L := .out po ⟨s, 0⟩ :: .raw rb #[.bool true, .string ⟨#[]⟩, .int .i64 0, .int .i64 0, .slice (some ⟨tb, 0, none⟩) 1 1] 29 :: L) hs.drop.p1
         have z0 := m3.p1.rawCell 0; have z1 := m3.p1.rawCell 1; have z2 := m3.p1.rawCell 2; have z3 := m3.p1.rawCell 3; have z4 := m3.p1.rawCell 4; simp at z0 z1 z2 z3 z4
         have HM2 := Lib.hid m2
         have HM4 := Lib.hid m4
         have H := Lib.hid m3
         clear m1 m2 m3 m4 hs
         go_wp2_with (first
          | (go_at_call 18; have _t := t3; clear _t; clear z0 z1 z2 z3 z4; (with_reducible refine (nob_check3 b2 pb tb HM2.out H.out).mono ?_); rintro e_ wn ⟨rfl, h⟩; have z0 := h.p1.rawCell 0; have z1 := h.p1.rawCell 1; have z2 := h.p1.rawCell 2; have z3 := h.p1.rawCell 3; have z4 := h.p1.rawCell 4; simp at z0 z1 z2 z3 z4; replace H := Lib.hid h; clear h t3)
          | (go_at_call 18; have _t := t4; clear _t; clear z0 z1 z2 z3 z4; (with_reducible refine (nob_check4 b2 pb tb HM2.out H.out).mono ?_); rintro e_ wn ⟨rfl, h⟩; replace H := Lib.hid h; clear h t4))
         go_ret
         exact ⟨rfl, (HM4.out _ _ H.out).drop.drop.drop.drop.drop⟩
set_option maxHeartbeats 8000000 in
set_option maxRecDepth 100000 in
theorem pb_long (s : Bs) (ver : Int) (hl : 2000 < s.length) {W0 w : World} {K : Know} (h : St W0 w K []) :
  Calls Try.prog 3 #[.string (bb s), .int .u8 ver] w fun en w' => en = .returned (.bool true) ∧ Below W0.heap.size W0 w' := by
 have H := Lib.hid h
 have hli : 2000 < (s.length : Int) := by omega
 clear h hl
 go_enter Try.func3, Try.ntmps3
 go_wp2_with (go_at_call 5; (with_reducible refine (speaks20 H.out).mono ?_); rintro e_ wn ⟨rfl, h⟩; replace H := Lib.hid h; clear h)
 go_ret
 exact ⟨rfl, H.out.below⟩
set_option maxHeartbeats 8000000 in
set_option maxRecDepth 100000 in
theorem pb_main (s : Bs) (ver vv : Int) (hl : s.length ≤ 2000) (hv : ver.tmod 2 = vv) (hv01 : vv = 0 ∨ vv = 1) {W0 w : World} {K : Know} (h : St W0 w K []) :
  Calls Try.prog 3 #[.string (bb s), .int .u8 ver] w fun en w' => en = .returned (.bool true) ∧ Below W0.heap.size W0 w' := by
 have H := Lib.hid h
 have hli : ¬ 2000 < (s.length : Int) := by omega
 have hv1 : IntKind.u8.wrap vv = vv := by rcases hv01 with rfl | rfl <;> decide
 have hv2 : IntKind.i64.wrap vv = vv := by rcases hv01 with rfl | rfl <;> decide
 have HSN := Lib.hid hl
 have HSL := Lib.hid (show s.length ≤ 140737488355328 by omega)
 clear h hl hv01
 go_enter Try.func3, Try.ntmps3
 go_wp2_with (first
  | (go_at_call 5; (with_reducible refine (speaks20 H.out).mono ?_); rintro e_ wn ⟨rfl, h⟩; replace H := Lib.hid h; clear h)
  | (go_at_call 6; (with_reducible refine (s_new s HSL.out H.out).mono ?_); rintro e_ wn ⟨bi, rfl, h⟩; replace H := Lib.hid h; clear h)
  | (go_at_call 7; (with_reducible refine (read_req_law bi _ s HSN.out H.out).mono ?_); rintro e_ wn ⟨nl, dd, ac, tm, q, cap, l, K2, j, rfl, hlaw, hll, hck, hkt, h⟩; obtain ⟨rq, hrq⟩ : ∃ b, wn.heap.size = b := ⟨_, rfl⟩; have h := (h.drop).allocRaw #[.bool nl, .string (bb dd), .int .i64 ac, .int .i64 tm, .slice q l.length cap] 29; rw [hrq] at h; have z4 := h.rawCell 4; simp at z4; have HLAW := Lib.hid hlaw; have HCK := Lib.hid hck; have HKT := Lib.hid hkt; have HLLN := Lib.hid hll; have hni : (l.length : Int) ≤ 1000000 := (by omega); clear hlaw hll hck hkt; replace H := Lib.hid h; clear h))
 go_loopw [33] (fun iv wr => ∃ (k : Nat), k ≤ l.length ∧ iv = .int .i64 k ∧ St W0 wr K2 [.raw rq #[.bool nl, .string (bb dd), .int .i64 ac, .int .i64 tm, .slice q l.length cap] 29]) (fun iv _ => l.length - (intOf iv).toNat)
 case atStart => exact ⟨0, Nat.zero_le _, rfl, H.out⟩
 case round =>
  obtain ⟨k, hkl, rfl, hst⟩ := hrel
  clear H z4
  have H := Lib.hid hst
  clear hst
  by_cases hlt : k < l.length
  · obtain ⟨bk, off, hqq⟩ := ptops_at HKT.out H.out (by omega)
    obtain ⟨x, hx⟩ : ∃ x, l[k] = x := ⟨_, rfl⟩
    have hmem : x ∈ l := hx ▸ List.getElem_mem hlt
    have hck := HCK.out x hmem
    have hlw := HLAW.out x hmem
    have HK' := HKT.out
    rw [hqq] at HK'
    obtain ⟨c0, c1⟩ := ptops_cell HK' H.out k hlt x hx
    have HXK0 := ptops_parts HKT.out hmem
    have hkn : (k : Int) < (l.length : Int) := by omega
    obtain ⟨nm, xl, xq, xcap⟩ := x
    simp only at c0 c1 HXK0 hlw
    have HXK := Lib.hid HXK0
    have HPF := Lib.hid (show ∀ y ∈ xl, CkP y from hck.parts)
    have HLW := Lib.hid hlw
    have hxl : xl.length ≤ 1000000 := hck.len
    have hxi : (xl.length : Int) ≤ 1000000 := by omega
    have HS := Lib.hid (H.out.alloc (.cells #[.string (bb nm), .slice xq xl.length xcap] 33 (0, 0)))
    subst hqq
    clear hx hmem hck hlw HK' HXK0 hxl
    go_wp2_with fail
    go_loopw [40] (fun jv wr => ∃ (j : Nat), j ≤ xl.length ∧ jv = .int .i64 j ∧ St W0 wr K2 [.raw rq #[.bool nl, .string (bb dd), .int .i64 ac, .int .i64 tm, .slice (some ⟨bk, off, none⟩) l.length cap] 29]) (fun jv _ => xl.length - (intOf jv).toNat)
    case atStart => exact ⟨0, Nat.zero_le _, rfl, HS.out⟩
    case round =>
     obtain ⟨j, hjl, rfl, hst⟩ := hrel
     clear H HS c0 c1
     have H := Lib.hid hst
     clear hst
     by_cases hjt : j < xl.length
     · obtain ⟨pk, poff, hpq⟩ := pparts_at HXK.out H.out (by omega)
       subst hpq
       obtain ⟨y, hy⟩ : ∃ y, xl[j] = y := ⟨_, rfl⟩
       have hmem : y ∈ xl := hy ▸ List.getElem_mem hjt
       have hck := HPF.out y hmem
       have hlw := HLW.out y hmem
       obtain ⟨d0, d1⟩ := pparts_cell HXK.out H.out j hjt y hy
       have HYK0 := pparts_bats HXK.out hmem
       have hjn : (j : Int) < (xl.length : Int) := by omega
       obtain ⟨yi, yl, yq, ycap⟩ := y
       simp only at d0 d1 HYK0 hlw
       have HYK := Lib.hid HYK0
       have HYL := Lib.hid hlw
       have hyl : yl.length ≤ 1000000 := hck.len
       have hyi : (yl.length : Int) ≤ 1000000 := by omega
       have HS := Lib.hid (H.out.alloc (.cells #[.int .i64 yi, .slice yq yl.length ycap] 36 (0, 0)))
       clear hy hmem hck hlw HYK0 hyl
       go_wp2_with fail
       go_loopw [47] (fun mv wr => ∃ (m : Nat), m ≤ yl.length ∧ mv = .int .i64 m ∧ St W0 wr K2 [.raw rq #[.bool nl, .string (bb dd), .int .i64 ac, .int .i64 tm, .slice (some ⟨bk, off, none⟩) l.length cap] 29]) (fun mv _ => yl.length - (intOf mv).toNat)
       case atStart => exact ⟨0, Nat.zero_le _, rfl, HS.out⟩
       case round =>
        obtain ⟨m, hml, rfl, hst⟩ := hrel
        clear H HS d0 d1
        have H := Lib.hid hst
        clear hst
        by_cases hmt : m < yl.length
        · obtain ⟨tk, toff, htq⟩ := bats_at HYK.out H.out (by omega)
          subst htq
          obtain ⟨z, hz⟩ : ∃ z, yl[m] = z := ⟨_, rfl⟩
          have hmem : z ∈ yl := hz ▸ List.getElem_mem hmt
          have hlz := HYL.out z hmem
          have hcell0 := bats_cell HYK.out H.out m hmt z hz
          have HZK0 := bats_recs HYK.out hmem
          have hmn : (m : Int) < (yl.length : Int) := by omega
          obtain ⟨⟨base, leader, app, txn, ctl, last, first, maxt, prod, epoch, sq, rcs⟩, zl, zq, zcap⟩ := z
          have hcl : ctl = false := hlz.ctl
          have htx : txn = !nl := hlz.txn
          have hso := hlz.mid
          have HZR := Lib.hid (show zl.map (·.1) = rcs from hlz.recs)
          have HZK := Lib.hid (show K2.has (Know.recs (.slice zq zl.length zcap) zl) from HZK0)
          subst hcl
          subst htx
          clear hlz hz hmem HZK0
          cases nl with
          | true =>
           have hcell : wr.cell? ⟨tk, toff + m * 12, none⟩ = some (.int .i64 base) ∧ wr.cell? ⟨tk, toff + m * 12 + 1, none⟩ = some (.int .i64 leader) ∧ wr.cell? ⟨tk, toff + m * 12 + 2, none⟩ = some (.bool app) ∧ wr.cell? ⟨tk, toff + m * 12 + 3, none⟩ = some (.bool false) ∧ wr.cell? ⟨tk, toff + m * 12 + 4, none⟩ = some (.bool false) ∧ wr.cell? ⟨tk, toff + m * 12 + 5, none⟩ = some (.int .i64 last) ∧ wr.cell? ⟨tk, toff + m * 12 + 6, none⟩ = some (.int .i64 first) ∧ wr.cell? ⟨tk, toff + m * 12 + 7, none⟩ = some (.int .i64 maxt) ∧ wr.cell? ⟨tk, toff + m * 12 + 8, none⟩ = some (.int .i64 prod) ∧ wr.cell? ⟨tk, toff + m * 12 + 9, none⟩ = some (.int .i64 epoch) ∧ wr.cell? ⟨tk, toff + m * 12 + 10, none⟩ = some (.int .i64 sq) ∧ wr.cell? ⟨tk, toff + m * 12 + 11, none⟩ = some (.slice zq zl.length zcap) := hcell0
           obtain ⟨c0, c1, c2, c3, c4, c5, c6, c7, c8, c9, c10, c11⟩ := hcell
           clear hcell0
           have HSO := Lib.hid (show MidOk ⟨base, leader, app, false, false, last, first, maxt, prod, epoch, sq, rcs⟩ from hso)
           obtain ⟨s2, hs2⟩ : ∃ s2, BatS.enc (⟨base, leader, app, false, false, last, first, maxt, prod, epoch, sq, rcs⟩ : BatS) = s2 := ⟨_, rfl⟩
           have HS2 := Lib.hid hs2
           have HS2L := Lib.hid (show s2.length ≤ 1000000 by have := HSO.out.elen; rw [hs2] at this; omega)
           have HBD := Lib.hid (show batD s2 = .ok (⟨base, leader, app, false, false, last, first, maxt, prod, epoch, sq, rcs⟩ : BatS) by rw [← hs2]; exact batD_mid HSO.out)
           obtain ⟨bt, hbt⟩ : ∃ b, wr.heap.size = b := ⟨_, rfl⟩
           have hg := H.out.allocRaw #[.int .i64 base, .int .i64 leader, .bool app, .bool false, .bool false, .int .i64 last, .int .i64 first, .int .i64 maxt, .int .i64 prod, .int .i64 epoch, .int .i64 sq, .slice zq zl.length zcap] 39
           rw [hbt] at hg
           have HG := Lib.hid hg
           clear hs2 hg hso
           go_wp2_with (first
  | (go_at_call 8; (with_reducible refine (enc14 base leader app false last first maxt prod epoch sq _ s2 HS2.out zl _ _ HZR.out HSO.out HZK.out HG.out).mono ?_); rintro e_ wn ⟨rfl, h⟩; replace H := Lib.hid h; clear h)
  | (go_at_call 9; (with_reducible refine (dec14 base leader app false last first maxt prod epoch sq _ s2 HS2L.out HBD.out H.out).mono ?_); rintro e_ wn ⟨q1, l1, cap1, rfl, hl1, h⟩; obtain ⟨hx, hhx⟩ : ∃ b, wn.heap.size = b := ⟨_, rfl⟩; have h := h.allocRaw #[.int .i64 base, .int .i64 leader, .bool app, .bool false, .bool false, .int .i64 last, .int .i64 first, .int .i64 maxt, .int .i64 prod, .int .i64 epoch, .int .i64 sq, .slice q1 l1.length cap1] 39; rw [hhx] at h; have HL1 := Lib.hid hl1; have HK3 := Lib.hid (show (K2.and (Know.recs (.slice q1 l1.length cap1) l1)).has (Know.recs (.slice zq zl.length zcap) zl) from Know.has_left HZK.out); have HK4 := Lib.hid (show (K2.and (Know.recs (.slice q1 l1.length cap1) l1)).has (Know.recs (.slice q1 l1.length cap1) l1) from Know.has_right (Know.has_refl _)); clear hl1; replace H := Lib.hid h; clear h; obtain ⟨u0, u1, u2, u3, u4, u5, u6, u7, u8, u9, u10, u11, v0, v1, v2, v3, v4, v5, v6, v7, v8, v9, v10, v11⟩ := raw12 (b := hx) (H.out); obtain ⟨x0, x1, x2, x3, x4, x5, x6, x7, x8, x9, x10, x11, y0, y1, y2, y3, y4, y5, y6, y7, y8, y9, y10, y11⟩ := raw12 (b := bt) (H.out.p1); have n0 := H.out.p2.rawCell 0; simp at n0)
  | (go_at_call 10; (try clear x0 y0 x1 y1 x2 y2 x3 y3 x4 y4 x5 y5 x6 y6 x7 y7 x8 y8 x9 y9 x10 y10 x11 y11); (try clear u0 v0 u1 v1 u2 v2 u3 v3 u4 v4 u5 v5 u6 v6 u7 v7 u8 v8 u9 v9 u10 v10 u11 v11); (try clear n0); (with_reducible refine (same14 base leader app false last first maxt prod epoch sq _ l1 zl _ _ _ _ HL1.out HZR.out HSO.out HK4.out HK3.out H.out).mono ?_); rintro e_ wn ⟨rfl, h⟩; replace H := Lib.hid h; clear h; obtain ⟨u0, u1, u2, u3, u4, u5, u6, u7, u8, u9, u10, u11, v0, v1, v2, v3, v4, v5, v6, v7, v8, v9, v10, v11⟩ := raw12 (b := hx) (H.out); obtain ⟨x0, x1, x2, x3, x4, x5, x6, x7, x8, x9, x10, x11, y0, y1, y2, y3, y4, y5, y6, y7, y8, y9, y10, y11⟩ := raw12 (b := bt) (H.out.p1); have n0 := H.out.p2.rawCell 0; simp at n0))
           go_roundw
           case rel =>
            refine ⟨m + 1, hmt, by go_num, ?_⟩
            exact (H.out.drop.drop).know (Know.has_left (Know.has_refl _))
           case measure => first | (simp [intOf]; done) | (simp [intOf]; omega)
          | false =>
           have hcell : wr.cell? ⟨tk, toff + m * 12, none⟩ = some (.int .i64 base) ∧ wr.cell? ⟨tk, toff + m * 12 + 1, none⟩ = some (.int .i64 leader) ∧ wr.cell? ⟨tk, toff + m * 12 + 2, none⟩ = some (.bool app) ∧ wr.cell? ⟨tk, toff + m * 12 + 3, none⟩ = some (.bool true) ∧ wr.cell? ⟨tk, toff + m * 12 + 4, none⟩ = some (.bool false) ∧ wr.cell? ⟨tk, toff + m * 12 + 5, none⟩ = some (.int .i64 last) ∧ wr.cell? ⟨tk, toff + m * 12 + 6, none⟩ = some (.int .i64 first) ∧ wr.cell? ⟨tk, toff + m * 12 + 7, none⟩ = some (.int .i64 maxt) ∧ wr.cell? ⟨tk, toff + m * 12 + 8, none⟩ = some (.int .i64 prod) ∧ wr.cell? ⟨tk, toff + m * 12 + 9, none⟩ = some (.int .i64 epoch) ∧ wr.cell? ⟨tk, toff + m * 12 + 10, none⟩ = some (.int .i64 sq) ∧ wr.cell? ⟨tk, toff + m * 12 + 11, none⟩ = some (.slice zq zl.length zcap) := hcell0
           obtain ⟨c0, c1, c2, c3, c4, c5, c6, c7, c8, c9, c10, c11⟩ := hcell
           clear hcell0
           have HSO := Lib.hid (show MidOk ⟨base, leader, app, true, false, last, first, maxt, prod, epoch, sq, rcs⟩ from hso)
           obtain ⟨s2, hs2⟩ : ∃ s2, BatS.enc (⟨base, leader, app, true, false, last, first, maxt, prod, epoch, sq, rcs⟩ : BatS) = s2 := ⟨_, rfl⟩
           have HS2 := Lib.hid hs2
           have HS2L := Lib.hid (show s2.length ≤ 1000000 by have := HSO.out.elen; rw [hs2] at this; omega)
           have HBD := Lib.hid (show batD s2 = .ok (⟨base, leader, app, true, false, last, first, maxt, prod, epoch, sq, rcs⟩ : BatS) by rw [← hs2]; exact batD_mid HSO.out)
           obtain ⟨bt, hbt⟩ : ∃ b, wr.heap.size = b := ⟨_, rfl⟩
           have hg := H.out.allocRaw #[.int .i64 base, .int .i64 leader, .bool app, .bool true, .bool false, .int .i64 last, .int .i64 first, .int .i64 maxt, .int .i64 prod, .int .i64 epoch, .int .i64 sq, .slice zq zl.length zcap] 39
           rw [hbt] at hg
           have HG := Lib.hid hg
           clear hs2 hg hso
           go_wp2_with (first
  | (go_at_call 8; (with_reducible refine (enc14 base leader app true last first maxt prod epoch sq _ s2 HS2.out zl _ _ HZR.out HSO.out HZK.out HG.out).mono ?_); rintro e_ wn ⟨rfl, h⟩; replace H := Lib.hid h; clear h)
  | (go_at_call 9; (with_reducible refine (dec14 base leader app true last first maxt prod epoch sq _ s2 HS2L.out HBD.out H.out).mono ?_); rintro e_ wn ⟨q1, l1, cap1, rfl, hl1, h⟩; obtain ⟨hx, hhx⟩ : ∃ b, wn.heap.size = b := ⟨_, rfl⟩; have h := h.allocRaw #[.int .i64 base, .int .i64 leader, .bool app, .bool true, .bool false, .int .i64 last, .int .i64 first, .int .i64 maxt, .int .i64 prod, .int .i64 epoch, .int .i64 sq, .slice q1 l1.length cap1] 39; rw [hhx] at h; have HL1 := Lib.hid hl1; have HK3 := Lib.hid (show (K2.and (Know.recs (.slice q1 l1.length cap1) l1)).has (Know.recs (.slice zq zl.length zcap) zl) from Know.has_left HZK.out); have HK4 := Lib.hid (show (K2.and (Know.recs (.slice q1 l1.length cap1) l1)).has (Know.recs (.slice q1 l1.length cap1) l1) from Know.has_right (Know.has_refl _)); clear hl1; replace H := Lib.hid h; clear h; obtain ⟨u0, u1, u2, u3, u4, u5, u6, u7, u8, u9, u10, u11, v0, v1, v2, v3, v4, v5, v6, v7, v8, v9, v10, v11⟩ := raw12 (b := hx) (H.out); obtain ⟨x0, x1, x2, x3, x4, x5, x6, x7, x8, x9, x10, x11, y0, y1, y2, y3, y4, y5, y6, y7, y8, y9, y10, y11⟩ := raw12 (b := bt) (H.out.p1); have n0 := H.out.p2.rawCell 0; simp at n0)
  | (go_at_call 10; (try clear x0 y0 x1 y1 x2 y2 x3 y3 x4 y4 x5 y5 x6 y6 x7 y7 x8 y8 x9 y9 x10 y10 x11 y11); (try clear u0 v0 u1 v1 u2 v2 u3 v3 u4 v4 u5 v5 u6 v6 u7 v7 u8 v8 u9 v9 u10 v10 u11 v11); (try clear n0); (with_reducible refine (same14 base leader app true last first maxt prod epoch sq _ l1 zl _ _ _ _ HL1.out HZR.out HSO.out HK4.out HK3.out H.out).mono ?_); rintro e_ wn ⟨rfl, h⟩; replace H := Lib.hid h; clear h; obtain ⟨u0, u1, u2, u3, u4, u5, u6, u7, u8, u9, u10, u11, v0, v1, v2, v3, v4, v5, v6, v7, v8, v9, v10, v11⟩ := raw12 (b := hx) (H.out); obtain ⟨x0, x1, x2, x3, x4, x5, x6, x7, x8, x9, x10, x11, y0, y1, y2, y3, y4, y5, y6, y7, y8, y9, y10, y11⟩ := raw12 (b := bt) (H.out.p1); have n0 := H.out.p2.rawCell 0; simp at n0))
           go_roundw
           case rel =>
            refine ⟨m + 1, hmt, by go_num, ?_⟩
            exact (H.out.drop.drop).know (Know.has_left (Know.has_refl _))
           case measure => first | (simp [intOf]; done) | (simp [intOf]; omega)
        · obtain rfl : m = yl.length := by omega
          go_wp2_with fail
          go_roundw
          case rel => exact ⟨j + 1, hjt, by go_num, H.out⟩
          case measure => first | (simp [intOf]; done) | (simp [intOf]; omega)
     · obtain rfl : j = xl.length := by omega
       go_wp2_with fail
       go_roundw
       case rel => exact ⟨k + 1, hlt, by go_num, H.out⟩
       case measure => first | (simp [intOf]; done) | (simp [intOf]; omega)
  · obtain rfl : k = l.length := by omega
    go_wp2_with fail
    go_ret
    exact ⟨rfl, H.out.below⟩

theorem produceBatches_any (s : Bs) (ver : Int) (W : World) (hm : 0 ≤ ver ∧ ver < 256) (_ : s.length ≤ 9223372036854775807) :
  Calls Try.prog 3 #[.string (bb s), .int .u8 ver] W fun en w' => en = .returned (.bool true) ∧ Below W.heap.size W w' := by
 have h : St W W Know.none [] := St.start trivial
 by_cases hl : s.length ≤ 2000
 rotate_left
 · exact pb_long s ver (by omega) h
 exact pb_main s ver (ver.tmod 2) hl rfl (by rw [Int.tmod_eq_emod_of_nonneg hm.1]; omega) h

end Go.Proofs.Ytnnnglklgofabaa
/- Each batch of a request that is read from any bytes is the very one that its bytes are read as, and none of them ends a transaction: proved of every text, in both versions. -/
namespace Go.Proofs.Ytnnnglklgofabaa
open Go.ChangeShapes Go.WideShapes Go.ChangeAt Go.ChangeMaps Go.RowKit

set_option maxRecDepth 100000 in
theorem produceBatches_lifted (os : Os) (started : os.Started) (H : Type) (enc : TypeId × Value → H) :
  ReturnsInHanded {} Try.checked os 3 .any (Rows.produceBatchesSpec.pre6 enc Try.prog Try.f3 Rows.produceBatchesRow.domain false) (Rows.produceBatchesSpec.post enc Try.prog Try.f3 false true false false) := by
 refine returnsInHanded_of_change (C := Try.checked) Try.own started (by as_aux_lemma => kernel_rfl) Try.func3
  (ChangeSpec.witness6 (enc := enc) (C := Try.checked) false ⟨#[], #[.string ⟨#[]⟩, .int .u8 0], []⟩ 8 (by as_aux_lemma => kernel_rfl) (by as_aux_lemma => kernel_rfl) (by as_aux_lemma => kernel_rfl) (by as_aux_lemma => kernel_rfl)) ?_
 intro W base args ds gs before hval0 hW hcnd _
 have hval : ∀ (j : Nat) t v, Try.f3.params[j]? = some t → args[j]? = some v → Value.okWide Try.prog W .any base t v := hval0
 clear hval0
 refine law_contract (n := 2) (tb := 4) rfl rfl rfl Try.underlying4 (by intro ds h; match ds, h with | [d0, d1], _ => rfl) (by as_aux_lemma => kernel_rfl) hW ?_
 intro p hA0 hlt
 have hA : DataW.TrodAll enc Try.prog W 0 (fun _ => true) true Try.f3.params.toList args.toList ds p := hA0
 clear hA0
 rw [Try.params3] at hA hval
 obtain ⟨v0, v1, d0, d1, p0, p1, rfl, rfl, rfl, h0, h1⟩ := trodAll_two hA
 obtain ⟨s0, rfl, rfl, rfl, ws0⟩ := open_string Try.underlying9 (hval 0 9 v0 rfl rfl) h0
 obtain ⟨a1, rfl, rfl, rfl, wa1⟩ := open_int Try.underlying5 (hval 1 5 v1 rfl rfl) h1
 have r1 := wf_u8 wa1
 exact produceBatches_any s0.data.toList a1 W r1 ws0

theorem produceBatches_holds : Rows.ProduceBatchesSaid :=
 OpenClaim.holds_of_wide 3 Try.f3 rfl rfl rfl rfl rfl rfl rfl ⟨rfl, rfl, rfl, rfl, rfl⟩ rfl rfl rfl rfl rfl (by as_aux_lemma => kernel_rfl) Try.func3 (by as_aux_lemma => kernel_rfl)
  (of_decide_eq_true (by as_aux_lemma => kernel_rfl)) (by as_aux_lemma => (unfold Func.isWrapper; rw [if_neg (by as_aux_lemma => decide +kernel)]; exact ⟨rfl, rfl⟩))
  (fun os started H enc _ => produceBatches_lifted os started H enc)

end Go.Proofs.Ytnnnglklgofabaa
