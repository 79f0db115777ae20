/- A text. -/
import Derived.Test.YtnnnglklgofabaaGreatGProduceWrites3
import Derived.Test.YtnnnglklgofabaaGreatGProduceWrites4
import Derived.Test.YtnnnglklgofabaaGreatGProduceWrites1
import Derived.Test.YtnnnglklgofabaaGreatKeyP
import Derived.Test.YtnnnglklgofabaaGreatGProduceWrites2
import Derived.Test.YtnnnglklgofabaaGreatBlob1
import Derived.Test.YtnnnglklgofabaaGreatGrow
import Derived.Test.YtnnnglklgofabaaGreatBlob2
import Derived.Test.YtnnnglklgofabaaGreatS1
/- A text. -/
namespace Go.Proofs.YtnnnglklgofabaaGreat
open Go.RowKit

set_option maxHeartbeats 1000000 in
set_option maxRecDepth 100000 in
theorem bat_encode_bad (base leader : Int) (app txn ctl : Bool) (last first maxt prod epoch sq : Int) (l : List (RecS × Value)) (q : Option Addr) (cap : Nat) (e : Int) (he : batErr ⟨base, leader, app, txn, ctl, last, first, maxt, prod, epoch, sq, l.map (·.1)⟩ = e) (h0 : e ≠ 0) (hmx : first ≤ 9223372036854775807) (hfit : FitB l) (hll : l.length ≤ 1000) {W0 w : World} {K : Know} {L : List Res} (hk : K.has (Know.recs (.slice q l.length cap) l)) (h : St W0 w K L) :
  Calls Tryz.prog 57 #[.agg #[.int .i64 base, .int .i64 leader, .bool app, .bool txn, .bool ctl, .int .i64 last, .int .i64 first, .int .i64 maxt, .int .i64 prod, .int .i64 epoch, .int .i64 sq, .slice q l.length cap]] w fun en w' => en = .returned (.tuple #[.string ⟨#[]⟩, .int .i64 e]) ∧ St W0 w' K L := by
 have HK := Lib.hid hk; have HFT := Lib.hid hfit; have HLL := Lib.hid (show l.length ≤ 1000000 by omega); have HMX := Lib.hid hmx; have HE := Lib.hid he; have gz : (e == 0) = false := by rw [beq_eq_false_iff_ne]; exact h0
 have h1 := h.allocRaw #[.int .i64 base, .int .i64 leader, .bool app, .bool txn, .bool ctl, .int .i64 last, .int .i64 first, .int .i64 maxt, .int .i64 prod, .int .i64 epoch, .int .i64 sq, .slice q l.length cap] 58; obtain ⟨hb, hhb⟩ : ∃ b, w.heap.size = b := ⟨_, rfl⟩; rw [hhb] at h1; obtain ⟨x0, x1, x2, x3, x4, x5, x6, x7, x8, x9, x10, x11, y0, y1, y2, y3, y4, y5, y6, y7, y8, y9, y10, y11⟩ := raw12 (b := hb) (h1); have H := Lib.hid h1; clear h h1 hk hfit hll hmx he h0; go_enter Tryz.func57, Tryz.ntmps57; go_wp2_with (go_at_call 88; (with_reducible refine (bat_check _ _ _ _ _ _ _ _ _ _ _ l _ _ e HE.out HMX.out HFT.out HLL.out HK.out H.out).mono ?_); rintro e_ wn ⟨rfl, h⟩; replace H := Lib.hid h; clear h; obtain ⟨x0, x1, x2, x3, x4, x5, x6, x7, x8, x9, x10, x11, y0, y1, y2, y3, y4, y5, y6, y7, y8, y9, y10, y11⟩ := raw12 (b := hb) (H.out)); go_ret2; exact ⟨rfl, H.out.drop⟩
set_option maxHeartbeats 2000000 in
set_option maxRecDepth 100000 in
theorem bat_encode_ok (base leader : Int) (app txn ctl : Bool) (last first maxt prod epoch sq : Int) (l : List (RecS × Value)) (q : Option Addr) (cap : Nat) (he : batErr ⟨base, leader, app, txn, ctl, last, first, maxt, prod, epoch, sq, l.map (·.1)⟩ = 0) (hmx : first ≤ 9223372036854775807) (hfit : FitB l) (hll : l.length ≤ 1000) (rows said0 said1 all : Bs) (x : Nat) (at_ : Int) (hrc : recsC (l.map (·.1)) = 0) (hrw : encAll l = rows) (hrl : rows.length ≤ 100000000) (hat : attrN app txn ctl 3 = at_)
    (r0 : PreS.R ⟨base, 49 + rows.length, leader, 0, at_, last, first, maxt, prod, epoch, sq, l.length⟩) (r1 : PreS.R ⟨base, 49 + rows.length, leader, x, at_, last, first, maxt, prod, epoch, sq, l.length⟩) (o0 : (⟨[], 0⟩ : OutS).ints (PreS.items ⟨base, 49 + rows.length, leader, 0, at_, last, first, maxt, prod, epoch, sq, l.length⟩) = ⟨said0, 0⟩) (o1 : (⟨[], 0⟩ : OutS).ints (PreS.items ⟨base, 49 + rows.length, leader, x, at_, last, first, maxt, prod, epoch, sq, l.length⟩) = ⟨said1, 0⟩) (l0 : said0.length = 61) (l1 : said1.length = 61) (hx : (crcMore 0#32 (said0.drop 21 ++ rows)).toNat = x) (hall : said1 ++ rows = all) {W0 w : World} {K : Know} {L : List Res} (hk : K.has (Know.recs (.slice q l.length cap) l)) (h : St W0 w K L) :
    Calls Tryz.prog 57 #[.agg #[.int .i64 base, .int .i64 leader, .bool app, .bool txn, .bool ctl, .int .i64 last, .int .i64 first, .int .i64 maxt, .int .i64 prod, .int .i64 epoch, .int .i64 sq, .slice q l.length cap]] w fun en w' => en = .returned (.tuple #[.string (bb all), .int .i64 0]) ∧ St W0 w' K L := by
  have HK := Lib.hid hk; have HFT := Lib.hid hfit; have HLL := Lib.hid (show l.length ≤ 1000000 by omega); have HL1 := Lib.hid hll; have HMX := Lib.hid hmx; have HE := Lib.hid he; have HRW := Lib.hid hrw; have HRC := Lib.hid hrc; have AT := Lib.hid hat; have HSZ := Lib.hid (show rows.length ≤ 140737488355328 by omega); have R0 := Lib.hid r0; have R1 := Lib.hid r1; have O0 := Lib.hid o0; have O1 := Lib.hid o1; have T0 := Lib.hid (show (⟨said0, 0⟩ : OutS).text = (said0, 0) from rfl); have T1 := Lib.hid (show (⟨said1, 0⟩ : OutS).text = (said1, 0) from rfl); have HX := Lib.hid hx; have HS21 := Lib.hid (show 21 ≤ said0.length by omega); have HS2 := Lib.hid (show said0.length ≤ 140737488355328 by omega); have HR2 := Lib.hid (show rows.length ≤ 140737488355328 by omega); have HALL := Lib.hid hall; have hcat : bb said1 ++ bb rows = bb all := by rw [← hall]; exact bb_append _ _
  have hg : ¬ (9223372036854775807 < said1.length + rows.length) := by omega
  have t1 : True := trivial; have h1 := h.allocRaw #[.int .i64 base, .int .i64 leader, .bool app, .bool txn, .bool ctl, .int .i64 last, .int .i64 first, .int .i64 maxt, .int .i64 prod, .int .i64 epoch, .int .i64 sq, .slice q l.length cap] 58; obtain ⟨hb, hhb⟩ : ∃ b, w.heap.size = b := ⟨_, rfl⟩; rw [hhb] at h1; obtain ⟨x0, x1, x2, x3, x4, x5, x6, x7, x8, x9, x10, x11, y0, y1, y2, y3, y4, y5, y6, y7, y8, y9, y10, y11⟩ := raw12 (b := hb) (h1); have H := Lib.hid h1; clear h h1 hk hfit hll hmx he hrw hrc hat r0 r1 o0 o1 l0 l1 hx hall hrl; go_enter Tryz.func57, Tryz.ntmps57
  go_wp2_with (first
    | (go_at_call 88; (with_reducible refine (bat_check _ _ _ _ _ _ _ _ _ _ _ l _ _ 0 HE.out HMX.out HFT.out HLL.out HK.out H.out).mono ?_); rintro e_ wn ⟨rfl, h⟩; replace H := Lib.hid h; clear h; obtain ⟨x0, x1, x2, x3, x4, x5, x6, x7, x8, x9, x10, x11, y0, y1, y2, y3, y4, y5, y6, y7, y8, y9, y10, y11⟩ := raw12 (b := hb) (H.out))
    | (go_at_call 89; (with_reducible refine (bat_pack l _ _ rows HRW.out HRC.out HFT.out HL1.out HK.out H.out).mono ?_); rintro e_ wn ⟨rfl, h⟩; replace H := Lib.hid h; clear h; obtain ⟨x0, x1, x2, x3, x4, x5, x6, x7, x8, x9, x10, x11, y0, y1, y2, y3, y4, y5, y6, y7, y8, y9, y10, y11⟩ := raw12 (b := hb) (H.out))
    | (go_at_call 90; (with_reducible refine (bat_head _ _ _ _ _ _ _ _ _ _ _ l _ _ rows.length HSZ.out H.out).mono ?_); rw [AT.out]; rintro e_ wn ⟨rfl, h⟩; have h := h.allocRaw #[.int .i64 base, .int .i64 (49 + rows.length), .int .i64 leader, .int .i64 0, .int .i64 at_, .int .i64 last, .int .i64 first, .int .i64 maxt, .int .i64 prod, .int .i64 epoch, .int .i64 sq, .int .i64 l.length] 154; obtain ⟨pb, hpb⟩ : ∃ b, wn.heap.size = b := ⟨_, rfl⟩; rw [hpb] at h; replace H := Lib.hid h; clear h; obtain ⟨p0, p1, p2, p3, p4, p5, p6, p7, p8, p9, p10, p11, u0, u1, u2, u3, u4, u5, u6, u7, u8, u9, u10, u11⟩ := raw12 (b := pb) (H.out))
    | (go_at_call 91; have _t := t1; clear _t; (with_reducible refine (bat_written _ _ _ _ _ _ _ _ _ _ _ _ R0.out _ _ _ O0.out T0.out H.out).mono ?_); rintro e_ wn ⟨rfl, h⟩; replace H := Lib.hid h; clear h; obtain ⟨p0, p1, p2, p3, p4, p5, p6, p7, p8, p9, p10, p11, u0, u1, u2, u3, u4, u5, u6, u7, u8, u9, u10, u11⟩ := raw12 (b := pb) (H.out); have t2 : True := trivial; clear t1)
    | (go_at_call 92; (with_reducible refine (bat_sum said0 rows x HX.out HS21.out HS2.out HR2.out H.out).mono ?_); rintro e_ wn ⟨rfl, h⟩; replace H := Lib.hid h; clear h; obtain ⟨p0, p1, p2, p3, p4, p5, p6, p7, p8, p9, p10, p11, u0, u1, u2, u3, u4, u5, u6, u7, u8, u9, u10, u11⟩ := raw12 (b := pb) (H.out); have h3 : St W0 _ K (.raw pb #[.int .i64 base, .int .i64 (49 + rows.length), .int .i64 leader, .int .i64 x, .int .i64 at_, .int .i64 last, .int .i64 first, .int .i64 maxt, .int .i64 prod, .int .i64 epoch, .int .i64 sq, .int .i64 l.length] 154 :: _) := H.out.rawSet 3 (.int .i64 x); obtain ⟨a0, a1, a2, a3, a4, a5, a6, a7, a8, a9, a10, a11, f0, f1, f2, f3, f4, f5, f6, f7, f8, f9, f10, f11⟩ := raw12 (b := pb) (h3); clear h3)
    | (go_at_call 91; have _t := t2; clear _t; (with_reducible refine (bat_written _ _ _ _ _ _ _ _ _ _ _ _ R1.out _ _ _ O1.out T1.out (H.out.rawSet 3 (.int .i64 x))).mono ?_); rintro e_ wn ⟨rfl, h⟩; replace H := Lib.hid h; clear h; clear t2))
  go_ret2; exact ⟨rfl, H.out.drop.drop⟩
theorem bat_encode_enc (b : BatS) (l : List (RecS × Value)) (q : Option Addr) (cap : Nat) (hl : l.map (·.1) = b.recs) (so : SmallOk b) {W0 w : World} {K : Know} {L : List Res} (hk : K.has (Know.recs (.slice q l.length cap) l)) (h : St W0 w K L) :
  Calls Tryz.prog 57 #[.agg #[.int .i64 b.base, .int .i64 b.leader, .bool b.app, .bool b.txn, .bool b.ctl, .int .i64 b.last, .int .i64 b.first, .int .i64 b.maxt, .int .i64 b.prod, .int .i64 b.epoch, .int .i64 b.seq, .slice q l.length cap]] w fun en w' => en = .returned (.tuple #[.string (bb b.enc), .int .i64 0]) ∧ St W0 w' K L := by
 have hrow := so.rows; have hlen := so.len; have hcr := b.crc_lt; have hml : l.length = b.recs.length := by rw [← hl, List.length_map]
 have f0 := BatS.fitsAll so.err so.rng 0 (by decide) (by omega) (by omega); have f1 := BatS.fitsAll so.err so.rng b.crc (by omega) (by omega) (by omega); have r0 := BatS.pre_R so.err so.rng 0 (by decide) (by omega) (by omega); have r1 := BatS.pre_R so.err so.rng b.crc (by omega) (by omega) (by omega); have hmx : b.first ≤ 9223372036854775807 := by have := so.rng.2.2.2.1.2; omega
 have e0 : b.pre 0 = (⟨b.base, 49 + (b.rowsB.length : Int), b.leader, 0, attrN b.app b.txn b.ctl 3, b.last, b.first, b.maxt, b.prod, b.epoch, b.seq, (l.length : Int)⟩ : PreS) := by unfold BatS.pre; rw [hml]
 have e1 : b.pre b.crc = (⟨b.base, 49 + (b.rowsB.length : Int), b.leader, (b.crc : Int), attrN b.app b.txn b.ctl 3, b.last, b.first, b.maxt, b.prod, b.epoch, b.seq, (l.length : Int)⟩ : PreS) := by unfold BatS.pre; rw [hml]
 have i0 := ints_items f0; have i1 := ints_items f1; have hd0 := b.pre_drop 0; have l0 := items_len (b.pre 0); have l1 := items_len (b.pre b.crc); have he : batErr ⟨b.base, b.leader, b.app, b.txn, b.ctl, b.last, b.first, b.maxt, b.prod, b.epoch, b.seq, l.map (·.1)⟩ = 0 := by rw [hl]; exact so.err
 have hrc : recsC (l.map (·.1)) = 0 := by rw [hl]; exact (batErr_zero so.err).2.2.2
 have hrw : encAll l = b.rowsB := by rw [encAll_rows, hl]; rfl
 have hfb : FitB l := by
  intro x hx; obtain ⟨a, c, d⟩ := so.fit x.1 (by rw [← hl]; exact List.mem_map.2 ⟨x, hx, rfl⟩); have := hsum_fit x.1.hdrs 1000 (by unfold RecS.sum at d; omega); exact ⟨a, fun y hy => by have := this y hy; omega, by omega⟩
 have hall : encInts (b.pre b.crc).items ++ b.rowsB = b.enc := rfl; have hx : (crcMore 0#32 ((encInts (b.pre 0).items).drop 21 ++ b.rowsB)).toNat = b.crc := by rw [hd0]; rfl
 rw [e0] at r0 i0; rw [e1] at r1 i1; obtain ⟨s0, hs0⟩ : ∃ s, encInts (b.pre 0).items = s := ⟨_, rfl⟩; obtain ⟨s1, hs1⟩ : ∃ s, encInts (b.pre b.crc).items = s := ⟨_, rfl⟩; have g0 : encInts (⟨b.base, 49 + (b.rowsB.length : Int), b.leader, 0, attrN b.app b.txn b.ctl 3, b.last, b.first, b.maxt, b.prod, b.epoch, b.seq, (l.length : Int)⟩ : PreS).items = s0 := e0 ▸ hs0; have g1 : encInts (⟨b.base, 49 + (b.rowsB.length : Int), b.leader, (b.crc : Int), attrN b.app b.txn b.ctl 3, b.last, b.first, b.maxt, b.prod, b.epoch, b.seq, (l.length : Int)⟩ : PreS).items = s1 := e1 ▸ hs1; rw [g0] at i0; rw [g1] at i1; rw [hs0] at hx l0; rw [hs1] at hall l1; exact bat_encode_ok b.base b.leader b.app b.txn b.ctl b.last b.first b.maxt b.prod b.epoch b.seq l q cap he hmx hfb (by omega) b.rowsB s0 s1 b.enc b.crc (attrN b.app b.txn b.ctl 3) hrc hrw (by omega) rfl r0 r1 i0 i1 l0 l1 hx hall hk h
def AgreeB (a b : Bs) (first n : Nat) : Prop := b.take 21 = a.take 21 ∧ ∀ i, (i < first ∨ first + n ≤ i) → (bitsOf (a.drop 21)).getD i false = (bitsOf (b.drop 21)).getD i false
theorem AgreeB.refl (a : Bs) (f : Nat) : AgreeB a a f 0 := ⟨rfl, fun _ _ => rfl⟩
theorem AgreeB.step {a b : Bs} {f n : Nat} (h : AgreeB a b f n) : AgreeB a b f (n + 1) := ⟨h.1, fun i hi => h.2 i (by omega)⟩
theorem bat_encode_encE (b : BatS) (s : Bs) (hs : b.enc = s) (l : List (RecS × Value)) (q : Option Addr) (cap : Nat) (hl : l.map (·.1) = b.recs) (so : SmallOk b) {W0 w : World} {K : Know} {L : List Res} (hk : K.has (Know.recs (.slice q l.length cap) l)) (h : St W0 w K L) :
  Calls Tryz.prog 57 #[.agg #[.int .i64 b.base, .int .i64 b.leader, .bool b.app, .bool b.txn, .bool b.ctl, .int .i64 b.last, .int .i64 b.first, .int .i64 b.maxt, .int .i64 b.prod, .int .i64 b.epoch, .int .i64 b.seq, .slice q l.length cap]] w fun en w' => en = .returned (.tuple #[.string (bb s), .int .i64 0]) ∧ St W0 w' K L := by
 subst hs; exact bat_encode_enc b l q cap hl so hk h
structure BatR where
  b : BatS
  l : List (RecS × Value)
  q : Option Addr
  cap : Nat
def RBat (cs : List Value) (x : BatR) : Prop := cs = [.int .i64 x.b.base, .int .i64 x.b.leader, .bool x.b.app, .bool x.b.txn, .bool x.b.ctl, .int .i64 x.b.last, .int .i64 x.b.first, .int .i64 x.b.maxt, .int .i64 x.b.prod, .int .i64 x.b.epoch, .int .i64 x.b.seq, .slice x.q x.l.length x.cap]
def BatR.Fit (x : BatR) : Prop := x.b.R ∧ FitW x.l ∧ x.l.map (·.1) = x.b.recs
def Know.bats (v : Value) (l : List BatR) : Know := (Know.flat RBat v 12 l).and (Know.all l fun x => Know.recs (.slice x.q x.l.length x.cap) x.l)
theorem bats_flat {K : Know} {v : Value} {l : List BatR} (h : K.has (Know.bats v l)) : K.has (Know.flat RBat v 12 l) := fun w F x => (h w F x).1
theorem bats_recs {K : Know} {v : Value} {l : List BatR} (h : K.has (Know.bats v l)) {x : BatR} (hx : x ∈ l) : K.has (Know.recs (.slice x.q x.l.length x.cap) x.l) := fun w F y => (h w F y).2 x hx
theorem bats_at {W0 w : World} {K : Know} {L : List Res} {q : Option Addr} {n cap : Nat} {l : List BatR} (hk : K.has (Know.bats (.slice q n cap) l)) (h : St W0 w K L) (h0 : 0 < l.length) : ∃ b off, q = some ⟨b, off, none⟩ := by
 obtain ⟨F, hF, _⟩ := h.get; obtain ⟨q2, cap2, hv, hr⟩ := (bats_flat hk _ _ hF).at; obtain ⟨b, off, hq, _⟩ := hr h0; simp at hv; exact ⟨b, off, hv.1.trans hq⟩
theorem bats_cell {W0 w : World} {K : Know} {L : List Res} {b off n cap : Nat} {l : List BatR} (hk : K.has (Know.bats (.slice (some ⟨b, off, none⟩) n cap) l)) (h : St W0 w K L) (i : Nat) (hi : i < l.length) (x : BatR) (hx : l[i] = x) :
  w.cell? ⟨b, off + i * 12, none⟩ = some (.int .i64 x.b.base) ∧ w.cell? ⟨b, off + i * 12 + 1, none⟩ = some (.int .i64 x.b.leader) ∧ w.cell? ⟨b, off + i * 12 + 2, none⟩ = some (.bool x.b.app) ∧ w.cell? ⟨b, off + i * 12 + 3, none⟩ = some (.bool x.b.txn) ∧ w.cell? ⟨b, off + i * 12 + 4, none⟩ = some (.bool x.b.ctl) ∧ w.cell? ⟨b, off + i * 12 + 5, none⟩ = some (.int .i64 x.b.last) ∧ w.cell? ⟨b, off + i * 12 + 6, none⟩ = some (.int .i64 x.b.first) ∧ w.cell? ⟨b, off + i * 12 + 7, none⟩ = some (.int .i64 x.b.maxt) ∧ w.cell? ⟨b, off + i * 12 + 8, none⟩ = some (.int .i64 x.b.prod) ∧ w.cell? ⟨b, off + i * 12 + 9, none⟩ = some (.int .i64 x.b.epoch) ∧ w.cell? ⟨b, off + i * 12 + 10, none⟩ = some (.int .i64 x.b.seq) ∧ w.cell? ⟨b, off + i * 12 + 11, none⟩ = some (.slice x.q x.l.length x.cap) := by
 subst hx; obtain ⟨F, hF, _⟩ := h.get; obtain ⟨q2, cap2, hv, hr⟩ := (bats_flat hk _ _ hF).at; obtain ⟨b2, off2, hq, hc⟩ := hr (by omega); rw [hq] at hv; simp at hv; obtain ⟨⟨rfl, rfl⟩, _, _⟩ := hv; obtain ⟨cs, _, hR, hcs⟩ := hc i hi; unfold RBat at hR; subst hR; refine ⟨?_, ?_, ?_, ?_, ?_, ?_, ?_, ?_, ?_, ?_, ?_, ?_⟩
 · exact hcs 0 _ rfl
 · rw [Nat.add_assoc]; exact hcs 1 _ rfl
 · rw [Nat.add_assoc]; exact hcs 2 _ rfl
 · rw [Nat.add_assoc]; exact hcs 3 _ rfl
 · rw [Nat.add_assoc]; exact hcs 4 _ rfl
 · rw [Nat.add_assoc]; exact hcs 5 _ rfl
 · rw [Nat.add_assoc]; exact hcs 6 _ rfl
 · rw [Nat.add_assoc]; exact hcs 7 _ rfl
 · rw [Nat.add_assoc]; exact hcs 8 _ rfl
 · rw [Nat.add_assoc]; exact hcs 9 _ rfl
 · rw [Nat.add_assoc]; exact hcs 10 _ rfl
 · rw [Nat.add_assoc]; exact hcs 11 _ rfl
def errB : List BatR → Int
  | [] => 0
  | x :: t => if batErr x.b = 0 then errB t else batErr x.b
def encB (l : List BatR) : Bs := l.flatMap fun x => x.b.enc
def allB (l : List BatR) : Bs × Int := if errB l = 0 then (encB l, 0) else ([], errB l)
theorem encB_append (l m : List BatR) : encB (l ++ m) = encB l ++ encB m := List.flatMap_append
theorem encB_one (x : BatR) : encB [x] = x.b.enc := by unfold encB; rw [List.flatMap_cons, List.flatMap_nil, List.append_nil]
theorem encB_cons (x : BatR) (t : List BatR) : encB (x :: t) = x.b.enc ++ encB t := rfl
theorem encB_take (l : List BatR) (k : Nat) (h : k < l.length) : encB (l.take (k + 1)) = encB (l.take k) ++ l[k].b.enc := by
 rw [List.take_succ_eq_append_getElem h, encB_append, encB_one]
theorem errB_append (l m : List BatR) (h : errB l = 0) : errB (l ++ m) = errB m := by
 induction l with
 | nil => rfl
 | cons x t ih =>
  have hx : (if batErr x.b = 0 then errB t else batErr x.b) = 0 := h
  show (if batErr x.b = 0 then errB (t ++ m) else batErr x.b) = _
  by_cases h1 : batErr x.b = 0
  · rw [if_pos h1] at hx ⊢; exact ih hx
  · rw [if_neg h1] at hx; exact absurd hx h1
theorem errB_append_ne (l m : List BatR) (h : errB l ≠ 0) : errB (l ++ m) = errB l := by
 induction l with
 | nil => exact absurd rfl h
 | cons x t ih =>
  have hx : (if batErr x.b = 0 then errB t else batErr x.b) ≠ 0 := h
  show (if batErr x.b = 0 then errB (t ++ m) else batErr x.b) = if batErr x.b = 0 then errB t else batErr x.b
  by_cases h1 : batErr x.b = 0
  · rw [if_pos h1] at hx; rw [if_pos h1, if_pos h1]; exact ih hx
  · rw [if_neg h1, if_neg h1]
theorem errB_step (l : List BatR) (k : Nat) (h : k < l.length) (h0 : errB (l.take k) = 0) : errB (l.take (k + 1)) = batErr l[k].b := by
 rw [List.take_succ_eq_append_getElem h, errB_append _ _ h0]
 show (if batErr l[k].b = 0 then 0 else batErr l[k].b) = _
 by_cases h1 : batErr l[k].b = 0
 · rw [if_pos h1, h1]
 · rw [if_neg h1]
theorem errB_at (l : List BatR) (k : Nat) (h : k < l.length) (h0 : errB (l.take k) = 0) (h1 : batErr l[k].b ≠ 0) : errB l = batErr l[k].b := by
 have e : errB l = errB (l.take (k + 1) ++ l.drop (k + 1)) := by rw [List.take_append_drop]
 have h2 := errB_step l k h h0; rw [e, errB_append_ne _ _ (by rw [h2]; exact h1), h2]
theorem errB_mem : ∀ (l : List BatR), errB l = 0 → ∀ x ∈ l, batErr x.b = 0
  | [], _, _, h => by cases h
  | y :: t, hh, x, hx => by
    have hh : (if batErr y.b = 0 then errB t else batErr y.b) = 0 := hh
    by_cases h1 : batErr y.b = 0
    · rw [if_pos h1] at hh
      rcases List.mem_cons.1 hx with rfl | hx
      · exact h1
      · exact errB_mem t hh x hx
    · rw [if_neg h1] at hh; exact absurd hh h1
theorem encB_le : ∀ (l : List BatR), (∀ x ∈ l, x.b.enc.length ≤ 401000) → (encB l).length ≤ 401000 * l.length
  | [], _ => by simp [encB]
  | x :: t, h => by
    have h1 := encB_le t (fun y hy => h y (by simp [hy])); have h2 := h x (by simp); have e : encB (x :: t) = x.b.enc ++ encB t := rfl; rw [e, List.length_append, List.length_cons]
    omega
theorem BatR.small {x : BatR} (hf : x.Fit) (hs : smallB (x.l.map (·.1)) = true) (he : batErr x.b = 0) : SmallOk x.b := SmallOk.of hf.2.2.symm hf.2.1 hs he hf.1
theorem encR_small2 (x : RecS) (hx : x.R) (hs : smallRec x = true) : (encR x).length ≤ 1100 := by
 unfold smallRec at hs; simp only [Bool.and_eq_true, decide_eq_true_eq] at hs; obtain ⟨s1, s2, s3⟩ := hs; have hm := hAll_sum _ s3; have h0 := hsum_le x.hdrs; have h1 := encI_le x.time hx.1; have h2 := encI_le x.off hx.2; have h3 := encV_le x.key (by omega); have h4 := encV_le x.val (by omega); have h5 := encHs_le x.hdrs (by omega); have h8 := encI_le x.hdrs.length (by omega)
 have h6 : (recF x).length ≤ 1060 := by
  unfold recF encHs; simp only [List.length_append, List.length_cons, List.length_nil]
  omega
 have h7 := encV_le ⟨false, recF x⟩ (by simp only; omega); simp only at h7; unfold encR
 omega
theorem BatR.elen {x : BatR} (hf : x.Fit) (hs : smallB (x.l.map (·.1)) = true) : x.b.enc.length ≤ 14000 := by
 rw [x.b.enc_len]; unfold smallB at hs; simp only [Bool.and_eq_true, decide_eq_true_eq] at hs; rw [hf.2.2] at hs
 have h1 := rows_small x.b.recs 1100 (fun y hy => encR_small2 y (by
  have hy2 : y ∈ x.l.map (·.1) := hf.2.2 ▸ hy; obtain ⟨z, hz, rfl⟩ := List.mem_map.1 hy2
  exact (hf.2.1 z hz).1) (rAll_mem _ hs.2 y hy))
 unfold BatS.rowsB
 omega
theorem encB_le2 : ∀ (l : List BatR), (∀ x ∈ l, x.Fit) → (∀ x ∈ l, smallB (x.l.map (·.1)) = true) → (encB l).length ≤ 14000 * l.length
  | [], _, _ => by simp [encB]
  | x :: t, hf, hs => by
    have h1 := encB_le2 t (fun y hy => hf y (by simp [hy])) (fun y hy => hs y (by simp [hy])); have h2 := BatR.elen (hf x (by simp)) (hs x (by simp)); have e : encB (x :: t) = x.b.enc ++ encB t := rfl; rw [e, List.length_append, List.length_cons]
    omega
set_option maxHeartbeats 1000000 in
set_option maxRecDepth 100000 in
theorem key_right (s : Bs) (hs : s.length ≤ 140737488355328) {W0 w : World} {K : Know} {L : List Res} (h : St W0 w K L) :
  Calls Tryz.prog 38 #[.string (bb s)] w fun en w' => en = .returned (.bool (keyRight s)) ∧ St W0 w' K L := by
 have H := Lib.hid h; clear h
 cases s with
 | nil =>
  go_enter Tryz.func38, Tryz.ntmps38; go_wp2; go_ret; exact ⟨rfl, H.out⟩
 | cons c t =>
  have HS := Lib.hid hs; clear hs; go_enter Tryz.func38, Tryz.ntmps38; go_wp2; go_ret; refine ⟨ret_bool ?_, H.out⟩; unfold keyRight; rw [Bool.eq_iff_iff]
  simp
  omega
structure PartR where
  idx : Int
  l : List BatR
  q : Option Addr
  cap : Nat
def RPart (cs : List Value) (x : PartR) : Prop := cs = [.int .i64 x.idx, .slice x.q x.l.length x.cap]
def pcells (x : PartR) : List Value := [.int .i64 x.idx, .slice x.q x.l.length x.cap]
def Know.pparts (v : Value) (l : List PartR) : Know := (Know.flat RPart v 2 l).and (Know.all l fun x => Know.bats (.slice x.q x.l.length x.cap) x.l)
structure PTop where
  name : Bs
  l : List PartR
  q : Option Addr
  cap : Nat
def RPTop (cs : List Value) (x : PTop) : Prop := cs = [.string (bb x.name), .slice x.q x.l.length x.cap]
def ptcells (x : PTop) : List Value := [.string (bb x.name), .slice x.q x.l.length x.cap]
def Know.ptops (v : Value) (l : List PTop) : Know := (Know.flat RPTop v 2 l).and (Know.all l fun x => Know.pparts (.slice x.q x.l.length x.cap) x.l)
theorem pparts_flat {K : Know} {v : Value} {l : List PartR} (h : K.has (Know.pparts v l)) : K.has (Know.flat RPart v 2 l) := fun w F x => (h w F x).1
theorem pparts_bats {K : Know} {v : Value} {l : List PartR} (h : K.has (Know.pparts v l)) {x : PartR} (hx : x ∈ l) : K.has (Know.bats (.slice x.q x.l.length x.cap) x.l) := fun w F y => (h w F y).2 x hx
theorem ptops_flat {K : Know} {v : Value} {l : List PTop} (h : K.has (Know.ptops v l)) : K.has (Know.flat RPTop v 2 l) := fun w F x => (h w F x).1
theorem ptops_parts {K : Know} {v : Value} {l : List PTop} (h : K.has (Know.ptops v l)) {x : PTop} (hx : x ∈ l) : K.has (Know.pparts (.slice x.q x.l.length x.cap) x.l) := fun w F y => (h w F y).2 x hx
theorem pparts_at {W0 w : World} {K : Know} {L : List Res} {q : Option Addr} {n cap : Nat} {l : List PartR} (hk : K.has (Know.pparts (.slice q n cap) l)) (h : St W0 w K L) (h0 : 0 < l.length) : ∃ b off, q = some ⟨b, off, none⟩ := by
 obtain ⟨F, hF, _⟩ := h.get; obtain ⟨q2, cap2, hv, hr⟩ := (pparts_flat hk _ _ hF).at; obtain ⟨b, off, hq, _⟩ := hr h0; simp at hv; exact ⟨b, off, hv.1.trans hq⟩
theorem ptops_at {W0 w : World} {K : Know} {L : List Res} {q : Option Addr} {n cap : Nat} {l : List PTop} (hk : K.has (Know.ptops (.slice q n cap) l)) (h : St W0 w K L) (h0 : 0 < l.length) : ∃ b off, q = some ⟨b, off, none⟩ := by
 obtain ⟨F, hF, _⟩ := h.get; obtain ⟨q2, cap2, hv, hr⟩ := (ptops_flat hk _ _ hF).at; obtain ⟨b, off, hq, _⟩ := hr h0; simp at hv; exact ⟨b, off, hv.1.trans hq⟩
theorem pparts_cell {W0 w : World} {K : Know} {L : List Res} {b off n cap : Nat} {l : List PartR} (hk : K.has (Know.pparts (.slice (some ⟨b, off, none⟩) n cap) l)) (h : St W0 w K L) (i : Nat) (hi : i < l.length) (x : PartR) (hx : l[i] = x) :
  w.cell? ⟨b, off + i * 2, none⟩ = some (.int .i64 x.idx) ∧ w.cell? ⟨b, off + i * 2 + 1, none⟩ = some (.slice x.q x.l.length x.cap) := by
 subst hx; obtain ⟨F, hF, _⟩ := h.get; obtain ⟨q2, cap2, hv, hr⟩ := (pparts_flat hk _ _ hF).at; obtain ⟨b2, off2, hq, hc⟩ := hr (by omega); rw [hq] at hv; simp at hv; obtain ⟨⟨rfl, rfl⟩, _, _⟩ := hv; obtain ⟨cs, _, hR, hcs⟩ := hc i hi; unfold RPart at hR; subst hR; exact ⟨hcs 0 _ rfl, by rw [Nat.add_assoc]; exact hcs 1 _ rfl⟩
theorem ptops_cell {W0 w : World} {K : Know} {L : List Res} {b off n cap : Nat} {l : List PTop} (hk : K.has (Know.ptops (.slice (some ⟨b, off, none⟩) n cap) l)) (h : St W0 w K L) (i : Nat) (hi : i < l.length) (x : PTop) (hx : l[i] = x) :
  w.cell? ⟨b, off + i * 2, none⟩ = some (.string (bb x.name)) ∧ w.cell? ⟨b, off + i * 2 + 1, none⟩ = some (.slice x.q x.l.length x.cap) := by
 subst hx; obtain ⟨F, hF, _⟩ := h.get; obtain ⟨q2, cap2, hv, hr⟩ := (ptops_flat hk _ _ hF).at; obtain ⟨b2, off2, hq, hc⟩ := hr (by omega); rw [hq] at hv; simp at hv; obtain ⟨⟨rfl, rfl⟩, _, _⟩ := hv; obtain ⟨cs, _, hR, hcs⟩ := hc i hi; unfold RPTop at hR; subst hR; exact ⟨hcs 0 _ rfl, by rw [Nat.add_assoc]; exact hcs 1 _ rfl⟩
def riseP : Int → List PartR → Bool
  | _, [] => true
  | a, x :: t => decide (a < x.idx) && decide (x.idx ≤ 2147483647) && riseP x.idx t
def errT : Bs → List PTop → Int
  | _, [] => 0
  | a, x :: t => if x.l.length = 0 then 10 else if (keyRight x.name && Op.bytesLess a x.name && riseP (-1) x.l) = true then errT x.name t else 13
def errTops (l : List PTop) : Int := if l.length = 0 then 10 else errT [] l
def errBs (txn : Bool) : List BatR → Int
  | [] => 0
  | x :: t => if batErr x.b ≠ 0 then batErr x.b else if x.b.ctl = true then 12 else if x.b.txn ≠ txn then 8 else errBs txn t
def errPs (txn : Bool) (v : Int) : List PartR → Int
  | [] => 0
  | x :: t => if x.l.length = 0 ∨ (v = 3 ∧ 1 < x.l.length) then 10 else if errBs txn x.l ≠ 0 then errBs txn x.l else errPs txn v t
def errPT (txn : Bool) (v : Int) : List PTop → Int
  | [] => 0
  | x :: t => if errPs txn v x.l ≠ 0 then errPs txn v x.l else errPT txn v t
def errReq (id : BlobS) (acks tmo : Int) (v : Int) (l : List PTop) : Int :=
  if id.right = false ∨ (id.null = false ∧ keyRight id.data = false) then 4
  else if acks < -1 ∨ 1 < acks ∨ tmo < 0 ∨ 2147483647 < tmo then 11
  else if errTops l ≠ 0 then errTops l else errPT (!id.null) v l
theorem riseP_cons (a : Int) (x : PartR) (t : List PartR) : riseP a (x :: t) = (decide (a < x.idx) && decide (x.idx ≤ 2147483647) && riseP x.idx t) := rfl
structure CkR (x : BatR) : Prop where
  recs : x.l.map (·.1) = x.b.recs
  first : x.b.first ≤ 9223372036854775807
  fit : FitB x.l
  len : x.l.length ≤ 1000000
theorem errBs_cons (txn : Bool) (x : BatR) (t : List BatR) : errBs txn (x :: t) = if batErr x.b ≠ 0 then batErr x.b else if x.b.ctl = true then 12 else if x.b.txn ≠ txn then 8 else errBs txn t := rfl
theorem lex_leqP : ∀ x y : Bs, (Op.bytesLess x y || x == y) = !Op.bytesLess y x
  | [], [] => rfl
  | [], _ :: _ => rfl
  | _ :: _, [] => rfl
  | a :: x, b :: y => by
    have ih := lex_leqP x y
    show ((decide (a < b) || (a == b && Op.bytesLess x y)) || (a == b && x == y)) = !(decide (b < a) || (b == a && Op.bytesLess y x))
    by_cases h1 : a = b
    · subst h1; have h2 : ¬ a < a := by rw [UInt8.lt_iff_toNat_lt]; omega
      simp only [h2, decide_false, Bool.false_or, beq_self_eq_true, Bool.true_and]; exact ih
    · have e1 : (a == b) = false := by simpa using h1
      have e2 : (b == a) = false := by simpa using fun h => h1 h.symm
      rw [e1, e2]; simp only [Bool.false_and, Bool.or_false]; have h3 : a.toNat ≠ b.toNat := fun h => h1 (UInt8.toNat_inj.1 h)
      by_cases h4 : a < b
      · have h5 : ¬ b < a := by rw [UInt8.lt_iff_toNat_lt] at h4 ⊢; omega
        simp [h4, h5]
      · have h5 : b < a := by rw [UInt8.lt_iff_toNat_lt] at h4 ⊢; omega
        simp [h4, h5]
theorem errT_cons (a : Bs) (x : PTop) (t : List PTop) : errT a (x :: t) = if x.l.length = 0 then 10 else if (keyRight x.name && Op.bytesLess a x.name && riseP (-1) x.l) = true then errT x.name t else 13 := rfl
theorem key_rightQ (s : Bs) (r : Bool) (hr : keyRight s = r) (hs : s.length ≤ 140737488355328) {W0 w : World} {K : Know} {L : List Res} (h : St W0 w K L) :
  Calls Tryz.prog 38 #[.string (bb s)] w fun en w' => en = .returned (.bool r) ∧ St W0 w' K L := by
 subst hr; exact key_right s hs h
theorem leq_parts (x y : Bs) (h : Op.bytesLess y x = true) : Op.bytesLess x y = false ∧ (x == y) = false := by
 have := lex_leqP x y; rw [h] at this
 simpa using this
theorem leq_cases (x y : Bs) (h : Op.bytesLess y x = false) : Op.bytesLess x y = true ∨ (Op.bytesLess x y = false ∧ (x == y) = true) := by
 have := lex_leqP x y; rw [h] at this
 cases c : Op.bytesLess x y with
 | true => exact .inl rfl
 | false => rw [c] at this; exact .inr ⟨rfl, by simpa using this⟩
theorem errPs_cons (txn : Bool) (v : Int) (x : PartR) (t : List PartR) : errPs txn v (x :: t) = if x.l.length = 0 ∨ (v = 3 ∧ 1 < x.l.length) then 10 else if errBs txn x.l ≠ 0 then errBs txn x.l else errPs txn v t := rfl
theorem errPT_cons (txn : Bool) (v : Int) (x : PTop) (t : List PTop) : errPT txn v (x :: t) = if errPs txn v x.l ≠ 0 then errPs txn v x.l else errPT txn v t := rfl
structure CkP (x : PartR) : Prop where
  len : x.l.length ≤ 4398046511104
  bats : ∀ y ∈ x.l, CkR y
structure CkT (x : PTop) : Prop where
  name : x.name.length ≤ 140737488355328
  len : x.l.length ≤ 4398046511104
  parts : ∀ y ∈ x.l, CkP y
theorem pblob_rightQ (nl : Bool) (dd : Bs) (r : Bool) (hr : (⟨nl, dd⟩ : BlobS).right = r) {W0 w : World} {K : Know} {L : List Res} (h : St W0 w K L) :
  Calls Tryz.prog 37 #[.agg #[.bool nl, .string (bb dd)]] w fun en w' => en = .returned (.bool r) ∧ St W0 w' K L := by
 subst hr; exact blob_right ⟨nl, dd⟩ h
theorem ckT_few {l : List PTop} (h : ∀ x ∈ l, CkT x) : ∀ x ∈ l, x.name.length ≤ 140737488355328 ∧ x.l.length ≤ 4398046511104 := fun x hx => ⟨(h x hx).name, (h x hx).len⟩
theorem allB_bad {l : List BatR} {s : Bs} {e : Int} (h : allB l = (s, e)) (h0 : errB l ≠ 0) : s = [] ∧ e = errB l := by unfold allB at h; rw [if_neg h0] at h; cases h; exact ⟨rfl, rfl⟩
theorem allB_ok {l : List BatR} {s : Bs} {e : Int} (h : allB l = (s, e)) (h0 : errB l = 0) : s = encB l ∧ e = 0 := by unfold allB at h; rw [if_pos h0] at h; cases h; exact ⟨rfl, rfl⟩
set_option maxHeartbeats 2000000 in
set_option maxRecDepth 100000 in
theorem bat_all (l : List BatR) (q : Option Addr) (cap : Nat) (s : Bs) (e : Int) (hse : allB l = (s, e)) (hf : ∀ x ∈ l, x.Fit) (hsm : ∀ x ∈ l, smallB (x.l.map (·.1)) = true) (hll : l.length ≤ 20) {W0 w : World} {K : Know} {L : List Res} (hk : K.has (Know.bats (.slice q l.length cap) l)) (h : St W0 w K L) :
  Calls Tryz.prog 25 #[.slice q l.length cap] w fun en w' => en = .returned (.tuple #[.string (bb s), .int .i64 e]) ∧ St W0 w' K L := by
 have g1 := h.allocOut; obtain ⟨po, hpo⟩ : ∃ b, w.heap.size = b := ⟨_, rfl⟩; rw [hpo] at g1; have H := Lib.hid g1; have HK := Lib.hid hk; have HFT := Lib.hid hf; have HSMA := Lib.hid hsm; have HLL := Lib.hid hll; have HSE := Lib.hid hse; clear h g1 hk hf hsm hll hse; go_enter Tryz.func25, Tryz.ntmps25; go_wp2; go_loopw [6, 7, 8, 11] (fun _ _ _ iv wr => ∃ k : Nat, k ≤ l.length ∧ iv = .int .i64 k ∧ errB (l.take k) = 0 ∧ St W0 wr K (.out po ⟨encB (l.take k), 0⟩ :: L)) (fun _ _ _ iv _ => l.length - (intOf iv).toNat)
 case atStart => exact ⟨0, Nat.zero_le _, rfl, rfl, H.out⟩
 case round =>
  obtain ⟨k, hkl, rfl, her, hst⟩ := hrel; clear H; have H := Lib.hid hst; have HER := Lib.hid her; clear hst her
  by_cases hlt : k < l.length
  · have hl20 : (l.length : Int) ≤ 20 := by have := HLL.out; omega
    have hstep := errB_step l k hlt HER.out; have hat := errB_at l k hlt HER.out; have het := encB_take l k hlt; obtain ⟨b, off, hqq⟩ := bats_at HK.out H.out (by omega); subst hqq; obtain ⟨x, hx⟩ : ∃ x, l[k] = x := ⟨_, rfl⟩; have cc := bats_cell HK.out H.out k hlt x hx; have hmem : x ∈ l := hx ▸ List.getElem_mem hlt; have XF := Lib.hid (HFT.out x hmem); have XR2 := Lib.hid XF.out.2.1; have XR3 := Lib.hid XF.out.2.2; have XK := Lib.hid (bats_recs HK.out hmem); obtain ⟨c0, c1, c2, c3, c4, c5, c6, c7, c8, c9, c10, c11⟩ := cc; obtain ⟨wE, hwE⟩ : ∃ b, wr.heap.size = b := ⟨_, rfl⟩; have hki : (k : Int) < (l.length : Int) := by omega
    have h := H.out.allocRaw #[.int .i64 x.b.base, .int .i64 x.b.leader, .bool x.b.app, .bool x.b.txn, .bool x.b.ctl, .int .i64 x.b.last, .int .i64 x.b.first, .int .i64 x.b.maxt, .int .i64 x.b.prod, .int .i64 x.b.epoch, .int .i64 x.b.seq, .slice x.q x.l.length x.cap] 58; rw [hwE] at h; clear H; have H := Lib.hid h; clear h; rw [hx] at hstep hat het; have HSX := Lib.hid (HSMA.out x hmem); have HSTEP := Lib.hid hstep; clear hstep; obtain ⟨x0, x1, x2, x3, x4, x5, x6, x7, x8, x9, x10, x11, y0, y1, y2, y3, y4, y5, y6, y7, y8, y9, y10, y11⟩ := raw12 (b := wE) (H.out)
    by_cases he : batErr x.b = 0
    · have HSO := Lib.hid (BatR.small XF.out HSX.out he); obtain ⟨s0, hs0⟩ : ∃ s, x.b.enc = s := ⟨_, rfl⟩; have HS := Lib.hid hs0; rw [hs0] at het
      have OK := Lib.hid (show (⟨encB (l.take k), 0⟩ : OutS).ok s0.length by
       have h1 := encB_le (l.take k) (fun y hy => (BatR.small (HFT.out y (List.mem_of_mem_take hy)) (HSMA.out y (List.mem_of_mem_take hy)) (errB_mem _ HER.out y hy)).elen); have h2 := HLL.out; have h3 := HSO.out.elen; rw [HS.out] at h3; rw [List.length_take] at h1; unfold OutS.ok; simp only
       omega)
      have EP := Lib.hid (show (⟨encB (l.take k), 0⟩ : OutS).put s0 = ⟨encB (l.take (k + 1)), 0⟩ by rw [het]; rfl); have NE := Lib.hid (show errB (l.take (k + 1)) = 0 by rw [HSTEP.out]; exact he); clear het hat hs0 he hx hmem
      go_wp2_with (first
  | (go_at_call 57; clear x0 y0 x1 y1 x2 y2 x3 y3 x4 y4 x5 y5 x6 y6 x7 y7 x8 y8 x9 y9 x10 y10 x11 y11; (with_reducible refine (bat_encode_encE x.b s0 HS.out x.l _ _ XR3.out HSO.out XK.out H.out).mono ?_); rintro e_ wn ⟨rfl, h⟩; replace H := Lib.hid h; clear h; obtain ⟨x0, x1, x2, x3, x4, x5, x6, x7, x8, x9, x10, x11, y0, y1, y2, y3, y4, y5, y6, y7, y8, y9, y10, y11⟩ := raw12 (b := wE) (H.out))
  | (go_at_call 60; (with_reducible refine (so_put po _ _ H.out.p1 OK.out).mono ?_); rw [EP.out]; rintro e_ wn ⟨rfl, h⟩; replace H := Lib.hid h; clear h))
      go_roundw
      case rel => exact ⟨k + 1, hlt, by go_num, NE.out, H.out.p1.drop⟩
      case measure => first | (simp [intOf]; done) | (simp [intOf]; omega)
    · have hee := allB_bad HSE.out (by rw [hat he]; exact he); rw [hat he] at hee; obtain ⟨rfl, he0⟩ := hee; have he2 : batErr x.b = e := he0.symm; rw [he2] at he; have HE := Lib.hid (show batErr ⟨x.b.base, x.b.leader, x.b.app, x.b.txn, x.b.ctl, x.b.last, x.b.first, x.b.maxt, x.b.prod, x.b.epoch, x.b.seq, x.l.map (·.1)⟩ = e by rw [XF.out.2.2]; exact he2); have H0 := Lib.hid he; have HMX := Lib.hid (show x.b.first ≤ 9223372036854775807 by have := XF.out.1.2.2.2.1.2; omega); have HFB := Lib.hid (FitW.fit XF.out.2.1 HSX.out); have HLL3 := Lib.hid (show x.l.length ≤ 1000 by have := smallB_len HSX.out; omega); have gz : (e == 0) = false := by rw [beq_eq_false_iff_ne]; exact he
      have gz3 : (e != 0) = true := by simp [bne, gz]
      clear het hat he he0 he2 hx hmem
      go_wp2_with (first
  | (go_at_call 57; clear x0 y0 x1 y1 x2 y2 x3 y3 x4 y4 x5 y5 x6 y6 x7 y7 x8 y8 x9 y9 x10 y10 x11 y11; (with_reducible refine (bat_encode_bad _ _ _ _ _ _ _ _ _ _ _ x.l _ _ e HE.out H0.out HMX.out HFB.out HLL3.out XK.out H.out).mono ?_); rintro e_ wn ⟨rfl, h⟩; replace H := Lib.hid h; clear h; obtain ⟨x0, x1, x2, x3, x4, x5, x6, x7, x8, x9, x10, x11, y0, y1, y2, y3, y4, y5, y6, y7, y8, y9, y10, y11⟩ := raw12 (b := wE) (H.out)))
      go_ret2; exact ⟨rfl, H.out.drop.drop⟩
  · obtain rfl : k = l.length := by omega
    have her := HER.out; rw [List.take_length] at her; obtain ⟨hs, rfl⟩ := allB_ok HSE.out her; have h := H.out; rw [List.take_length, ← hs] at h; clear H her hs; have H := Lib.hid h; clear h; have ET := Lib.hid (show (⟨s, 0⟩ : OutS).text = (s, 0) from rfl)
    go_wp2_with (first
  | (go_at_call 9; (with_reducible refine (so_text po _ H.out).mono ?_); rw [ET.out]; rintro e_ wn ⟨rfl, h⟩; replace H := Lib.hid h; clear h))
    go_ret2; exact ⟨rfl, H.out.drop⟩
def encPart (x : PartR) : Bs := beBytes x.idx (4 : Int).toNat ++ encF 4 ⟨false, encB x.l⟩
def encPTop (x : PTop) : Bs := (encF 2 ⟨false, x.name⟩ ++ beBytes (x.l.length : Int) (4 : Int).toNat) ++ x.l.flatMap encPart
def encPReq (nl : Bool) (dd : Bs) (ac tm : Int) (l : List PTop) : Bs := (((encF 2 ⟨nl, dd⟩ ++ beBytes ac (2 : Int).toNat) ++ beBytes tm (4 : Int).toNat) ++ beBytes (l.length : Int) (4 : Int).toNat) ++ l.flatMap encPTop
theorem pfits2 (n : Int) (h : -32768 ≤ n ∧ n < 32768) : fits n 2 := by
 refine ⟨by decide, by decide, ?_, ?_⟩
 · show -(128 * 256 ^ 1 : Int) ≤ n; omega
 · show n < 128 * 256 ^ 1; omega
theorem pfits4 (n : Int) (h : -2147483648 ≤ n ∧ n < 2147483648) : fits n 4 := by
 refine ⟨by decide, by decide, ?_, ?_⟩
 · show -(128 * 256 ^ 3 : Int) ≤ n; omega
 · show n < 128 * 256 ^ 3; omega
theorem pso_int (p : Nat) (e e2 : Bs) (n size : Int) (he : e ++ beBytes n size.toNat = e2) (hf : fits n size) (hn : -9223372036854775808 ≤ n ∧ n < 9223372036854775808) (hl : e.length ≤ 100000000000000) {W0 w : World} {K : Know} {L : List Res} (h : St W0 w K (.out p ⟨e, 0⟩ :: L)) :
  Calls Tryz.prog 32 #[outPtr p, .int .i64 n, .int .i64 size] w fun en w' => en = .returned (.tuple #[]) ∧ St W0 w' K (.out p ⟨e2, 0⟩ :: L) := by
 have h2 := so_int p ⟨e, 0⟩ n size hn h (by unfold OutS.ok; simp only; omega); have e3 : (⟨e, 0⟩ : OutS).int n size = ⟨e2, 0⟩ := by unfold OutS.int; rw [if_pos hf, ← he]; rfl
 rw [e3] at h2; exact h2
theorem pso_fail (p : Nat) (o : Bs) (e : Int) {W0 w : World} {K : Know} {L : List Res} (h : St W0 w K (.out p ⟨o, 0⟩ :: L)) :
 Calls Tryz.prog 30 #[outPtr p, .int .i64 e] w fun en w' => en = .returned (.tuple #[]) ∧ St W0 w' K (.out p ⟨o, e⟩ :: L) := so_fail p ⟨o, 0⟩ e h
theorem pblob_text (p : Nat) (e e2 s : Bs) (he : e ++ encF 2 ⟨false, s⟩ = e2) (hs : s.length ≤ 32767) (hl : e.length ≤ 100000000000000) {W0 w : World} {K : Know} {L : List Res} (h : St W0 w K (.out p ⟨e, 0⟩ :: L)) :
  Calls Tryz.prog 33 #[outPtr p, .string (bb s)] w fun en w' => en = .returned (.tuple #[]) ∧ St W0 w' K (.out p ⟨e2, 0⟩ :: L) := by
 have h2 := blob_putText p ⟨e, 0⟩ s h (by unfold OutS.ok; simp only; omega); have hf : fits (⟨false, s⟩ : BlobS).len 2 := pfits2 _ (by show -32768 ≤ (s.length : Int) ∧ (s.length : Int) < 32768; omega)
 have e3 : (⟨e, 0⟩ : OutS).putText s = ⟨e2, 0⟩ := by
  show ((⟨e, 0⟩ : OutS).int (⟨false, s⟩ : BlobS).len 2).putData ⟨false, s⟩ = _
  unfold OutS.int; rw [if_pos hf, ← he]
  show (⟨(e ++ beBytes (⟨false, s⟩ : BlobS).len 2) ++ s, 0⟩ : OutS) = _
  rw [List.append_assoc]
  rfl
 rw [e3] at h2; exact h2
theorem pblob_fixed2 (p : Nat) (e e2 : Bs) (u : Bool) (s : Bs) (he : e ++ encF 2 ⟨u, s⟩ = e2) (hr : (⟨u, s⟩ : BlobS).right = true) (hs : s.length ≤ 32767) (hl : e.length ≤ 100000000000000) {W0 w : World} {K : Know} {L : List Res} (h : St W0 w K (.out p ⟨e, 0⟩ :: L)) :
  Calls Tryz.prog 31 #[outPtr p, .agg #[.bool u, .string (bb s)], .int .i64 2] w fun en w' => en = .returned (.tuple #[]) ∧ St W0 w' K (.out p ⟨e2, 0⟩ :: L) := by
 have h2 := blob_putFixed p ⟨e, 0⟩ ⟨u, s⟩ 2 h (by unfold OutS.ok; simp only; omega)
 have e3 : (⟨e, 0⟩ : OutS).putFixed ⟨u, s⟩ 2 = ⟨e2, 0⟩ := by
  unfold OutS.putFixed OutS.int
  cases u with
  | true =>
   have h3 : s = [] := by cases s with | nil => rfl | cons _ _ => cases hr
   subst h3; rw [if_pos (pfits2 _ (by decide)), ← he]
   show (⟨(e ++ beBytes (⟨true, []⟩ : BlobS).len 2) ++ [], 0⟩ : OutS) = _
   rw [List.append_assoc]
   rfl
  | false =>
   rw [if_pos (pfits2 _ (by show -32768 ≤ (s.length : Int) ∧ (s.length : Int) < 32768; omega)), ← he]
   show (⟨(e ++ beBytes (⟨false, s⟩ : BlobS).len 2) ++ s, 0⟩ : OutS) = _
   rw [List.append_assoc]
   rfl
 rw [e3] at h2; exact h2
theorem pblob_fixed4 (p : Nat) (e e2 s : Bs) (he : e ++ encF 4 ⟨false, s⟩ = e2) (hs : s.length ≤ 100000000) (hl : e.length ≤ 100000000000000) {W0 w : World} {K : Know} {L : List Res} (h : St W0 w K (.out p ⟨e, 0⟩ :: L)) :
  Calls Tryz.prog 31 #[outPtr p, .agg #[.bool false, .string (bb s)], .int .i64 4] w fun en w' => en = .returned (.tuple #[]) ∧ St W0 w' K (.out p ⟨e2, 0⟩ :: L) := by
 have h2 := blob_putFixed p ⟨e, 0⟩ ⟨false, s⟩ 4 h (by unfold OutS.ok; simp only; omega)
 have e3 : (⟨e, 0⟩ : OutS).putFixed ⟨false, s⟩ 4 = ⟨e2, 0⟩ := by
  unfold OutS.putFixed OutS.int; rw [if_pos (pfits4 _ (by show -2147483648 ≤ (s.length : Int) ∧ (s.length : Int) < 2147483648; omega)), ← he]
  show (⟨(e ++ beBytes (⟨false, s⟩ : BlobS).len 4) ++ s, 0⟩ : OutS) = _
  rw [List.append_assoc]
  rfl
 rw [e3] at h2; exact h2
theorem pblob_of (s : Bs) {W0 w : World} {K : Know} {L : List Res} (h : St W0 w K L) : Calls Tryz.prog 68 #[.string (bb s)] w fun en w' => en = .returned (.agg #[.bool false, .string (bb s)]) ∧ St W0 w' K L := blob_of s h
structure PutP (x : PartR) : Prop where
  few : x.l.length ≤ 20
  fit : ∀ y ∈ x.l, y.Fit
  small : ∀ y ∈ x.l, smallB (y.l.map (·.1)) = true
  err : errB x.l = 0
  idx : 0 ≤ x.idx ∧ x.idx ≤ 2147483647
theorem PutP.len {x : PartR} (h : PutP x) : (encB x.l).length ≤ 280000 := by
 have h1 := encB_le2 x.l h.fit h.small; have := h.few
 omega
theorem allB_good {l : List BatR} (h : errB l = 0) : allB l = (encB l, 0) := by unfold allB; rw [if_pos h]
structure PutT (x : PTop) : Prop where
  name : x.name.length ≤ 32767
  few : x.l.length ≤ 100000
  parts : ∀ y ∈ x.l, PutP y
theorem flat_cut {α : Type} (f : α → Bs) (l : List α) (k : Nat) (hk : k < l.length) (x : α) (hx : l[k] = x) : (l.drop k).flatMap f = f x ++ (l.drop (k + 1)).flatMap f := by
 rw [List.drop_eq_getElem_cons hk, hx, List.flatMap_cons]
theorem len_ahead {a b c : Bs} {n : Nat} (h : a ++ b = c) (hc : c.length ≤ n) : a.length ≤ n := by
 have := congrArg List.length h; rw [List.length_append] at this
 omega
theorem St.lend {W0 w : World} {K Kr : Know} {L : List Res} {r : Res} (h : St W0 w K (r :: L)) (hr : ∀ S1 : Nat → Prop, r.holds w S1 → (∀ k, S1 k → k < w.heap.size) → Kr.p w S1) :
   ∃ Kp : Know, Kp.has K ∧ Kp.has Kr ∧ St W0 w Kp L ∧ ∀ (w' : World) (L' : List Res) (Kq : Know), Kq.has Kp → St W0 w' Kq L' → St W0 w' K (r :: L') := by
 obtain ⟨hb, S, F, ⟨S1, S2, h1, h2, h3, h4⟩, hc, hk, he⟩ := h; have hF : ∀ k, F k → k < w.heap.size := fun k hk => (he k hk).1
 have hS : ∀ k, S1 k → k < w.heap.size := fun k hk => (hc k ((h4 k).2 (.inl hk))).2
 refine ⟨⟨fun w' F' => (∀ k, F k ∨ S1 k → F' k) ∧ w.heap.size ≤ w'.heap.size ∧ ∀ k, F k ∨ S1 k → w'.heap[k]? = w.heap[k]?, ?_, ?_⟩, ?_, ?_, ?_, ?_⟩
 · intro w1 w2 F' ⟨a, b, c⟩ hs hh; refine ⟨a, Nat.le_trans b hs, fun k hk => ?_⟩; have hl : k < w.heap.size := by rcases hk with hk | hk; exact hF k hk; exact hS k hk
   rw [hh k (Nat.lt_of_lt_of_le hl b) (a k hk), c k hk]
 · intro w1 F1 F2 ⟨a, b, c⟩ hs; exact ⟨fun k hk => hs k (a k hk), b, c⟩
 · intro w' F' ⟨a, b, c⟩; exact K.mono w' F F' (K.keep w w' F hk b (fun k _ hk => c k (.inl hk))) (fun k hk => a k (.inl hk))
 · intro w' F' ⟨a, b, c⟩; exact Kr.mono w' S1 F' (Kr.keep w w' S1 (hr S1 h1 hS) b (fun k _ hk => c k (.inr hk))) (fun k hk => a k (.inr hk))
 · refine ⟨hb, S2, fun k => F k ∨ S1 k, h2, fun k hk => hc k ((h4 k).2 (.inr hk)), ⟨fun _ h => h, Nat.le_refl _, fun _ _ => rfl⟩, ?_⟩; rintro k (hk | hk)
   · exact ⟨hF k hk, fun hh => (he k hk).2 ((h4 k).2 (.inr hh))⟩
   · exact ⟨hS k hk, h3 k hk⟩
 · intro w' L' Kq hq ⟨hb', S', F', g1, g2, g3, g4⟩; obtain ⟨a, b, c⟩ := hq w' F' g3; refine ⟨hb', fun k => S1 k ∨ S' k, F, ⟨S1, S', Res.keep h1 b (fun k _ hk => c k (.inr hk)), g1, fun k hk hk' => (g4 k (a k (.inr hk))).2 hk', fun k => Iff.rfl⟩, ?_, K.keep w w' F hk b (fun k _ hk => c k (.inl hk)), ?_⟩
   · rintro k (hk | hk)
     · exact ⟨(hc k ((h4 k).2 (.inl hk))).1, Nat.lt_of_lt_of_le (hS k hk) b⟩
     · exact g2 k hk
   · intro k hk; refine ⟨Nat.lt_of_lt_of_le (hF k hk) b, ?_⟩; rintro (hh | hh)
     · exact (he k hk).2 ((h4 k).2 (.inl hh))
     · exact (g4 k (a k (.inl hk))).2 hh
theorem raw_rows {α : Type} {R : List Value → α → Prop} {sz : Nat} (l : List α) (f : α → List Value) (hf : ∀ x ∈ l, (f x).length = sz ∧ R (f x) x) {w : World} {b cap : Nat} {T : TypeId} {c : Array Value} (hc : c = (l.flatMap f).toArray) (S1 : Nat → Prop) (h1 : (Res.raw b c T).holds w S1) : (Know.flat R (.slice (some ⟨b, 0, none⟩) l.length cap) sz l).p w S1 := by
 obtain ⟨hg, hs⟩ := h1; have hlt := heap_lt hg; refine ⟨_, cap, rfl, fun _ => ⟨b, 0, rfl, (hs b).2 rfl, hlt, fun i hi => ?_⟩⟩; obtain ⟨h2, h3⟩ := hf l[i] (List.getElem_mem hi); refine ⟨f l[i], h2, h3, fun q u hu => ?_⟩; rw [cell_at hg, Nat.zero_add, hc]; have hq : q < sz := by rw [← h2]; exact (List.getElem?_eq_some_iff.1 hu).1
 have e : (l.flatMap f)[i * sz + q]? = some u := by
  rw [flatMap_get l f sz (fun x hx => (hf x hx).1) i hi q hq]; exact hu
 simpa using e
def nobB : BatS := ⟨0, 0, false, false, false, 0, 0, 0, -1, -1, -1, []⟩
def nobR : BatR := ⟨nobB, [], none, 0⟩
theorem nob_err : batErr nobB = 0 := by decide +kernel
theorem nob_len : nobB.enc.length = 61 := by kernel_rfl
theorem nob_R : nobB.R := by unfold BatS.R nobB Rn; decide
theorem nob_fit : nobR.Fit := ⟨nob_R, (fun x hx => by cases hx), rfl⟩
theorem nob_ck : CkR nobR := ⟨rfl, by decide, fun x hx => (by cases hx), by decide⟩
def nobCells : BatR → List Value := fun x => [.int .i64 x.b.base, .int .i64 x.b.leader, .bool x.b.app, .bool x.b.txn, .bool x.b.ctl, .int .i64 x.b.last, .int .i64 x.b.first, .int .i64 x.b.maxt, .int .i64 x.b.prod, .int .i64 x.b.epoch, .int .i64 x.b.seq, .slice x.q x.l.length x.cap]
def nobPart (n b : Nat) : PartR := ⟨0, List.replicate n nobR, some ⟨b, 0, none⟩, n⟩
def nobTop (n b p : Nat) : PTop := ⟨[97], [nobPart n b], some ⟨p, 0, none⟩, 1⟩
theorem nob_all {n : Nat} {P : BatR → Prop} (h : P nobR) : ∀ x ∈ List.replicate n nobR, P x := fun x hx => by rw [List.eq_of_mem_replicate hx]; exact h
theorem nob_ckT (n b p : Nat) (hn : n ≤ 2) : CkT (nobTop n b p) := by
 refine ⟨by show (1 : Nat) ≤ 140737488355328; decide, by show (1 : Nat) ≤ 4398046511104; decide, fun y hy => ?_⟩; rw [List.mem_singleton.1 hy]; exact ⟨by show (List.replicate n nobR).length ≤ _; rw [List.length_replicate]; omega, nob_all nob_ck⟩
theorem nob_putT (b p : Nat) : PutT (nobTop 1 b p) := by
 refine ⟨by show (1 : Nat) ≤ 32767; decide, by show (1 : Nat) ≤ 100000; decide, fun y hy => ?_⟩; rw [List.mem_singleton.1 hy]; exact ⟨by show (1 : Nat) ≤ 20; decide, nob_all nob_fit, nob_all (by decide), by show errB [nobR] = 0; show (if batErr nobB = 0 then 0 else _) = (0 : Int); rw [nob_err]; rfl, by show (0 : Int) ≤ 0 ∧ (0 : Int) ≤ 2147483647; decide⟩
theorem nob_E1 (b p : Nat) (v : Int) : errReq ⟨true, []⟩ 0 0 v [nobTop 1 b p] = 0 := by
 have h1 : errBs false [nobR] = 0 := by
  show (if batErr nobB ≠ 0 then batErr nobB else if nobB.ctl = true then 12 else if nobB.txn ≠ false then 8 else 0) = (0 : Int)
  rw [nob_err]; rfl
 have h2 : errPs false v [nobPart 1 b] = 0 := by
  rw [errPs_cons, show (nobPart 1 b).l = [nobR] from rfl, h1, if_neg (by intro h; rcases h with h | ⟨_, h⟩; exact absurd h (by decide); exact absurd h (by decide))]; rfl
 have h3 : errPT false v [nobTop 1 b p] = 0 := by
  show (if errPs false v [nobPart 1 b] ≠ 0 then errPs false v [nobPart 1 b] else 0) = (0 : Int)
  rw [h2]; rfl
 show (if _ then _ else if _ then _ else if errTops _ ≠ 0 then errTops _ else errPT false v [nobTop 1 b p]) = (0 : Int)
 rw [h3]
 rfl
theorem nob_E2 (b p : Nat) : errReq ⟨true, []⟩ 0 0 3 [nobTop 2 b p] = 10 := rfl
theorem nob_E3 (b p : Nat) : errReq ⟨true, []⟩ 0 0 4 [nobTop 2 b p] = 0 := by
 have h1 : errBs false [nobR, nobR] = 0 := by
  show (if batErr nobB ≠ 0 then batErr nobB else if nobB.ctl = true then 12 else if nobB.txn ≠ false then 8 else (if batErr nobB ≠ 0 then batErr nobB else if nobB.ctl = true then 12 else if nobB.txn ≠ false then 8 else 0)) = (0 : Int)
  rw [nob_err]; rfl
 have h2 : errPs false 4 [nobPart 2 b] = 0 := by
  rw [errPs_cons, show (nobPart 2 b).l = [nobR, nobR] from rfl, h1, if_neg (by intro h; rcases h with h | ⟨h, _⟩; exact absurd h (by decide); exact absurd h (by decide))]; rfl
 have h3 : errPT false 4 [nobTop 2 b p] = 0 := by
  show (if errPs false 4 [nobPart 2 b] ≠ 0 then errPs false 4 [nobPart 2 b] else 0) = (0 : Int)
  rw [h2]; rfl
 show (if _ then _ else if _ then _ else if errTops _ ≠ 0 then errTops _ else errPT false 4 [nobTop 2 b p]) = (0 : Int)
 rw [h3]
 rfl
theorem nob_bytes (b p : Nat) : (encPReq true [] 0 0 [nobTop 1 b p]).length = 88 := by
 have h : (encB [nobR]).length = 61 := by show (nobB.enc ++ []).length = 61; rw [List.append_nil]; exact nob_len
 have h1 : (encPart (nobPart 1 b)).length = 69 := by
  show (beBytes 0 4 ++ (beBytes _ 4 ++ encB [nobR])).length = 69
  rw [List.length_append, List.length_append, h, beBytes_length, beBytes_length]
 show (((((beBytes _ 2 ++ []) ++ beBytes 0 2) ++ beBytes 0 4) ++ beBytes _ 4) ++ (((((beBytes _ 2 ++ [97]) ++ beBytes _ 4) ++ (encPart (nobPart 1 b) ++ []))) ++ [])).length = 88
 simp only [List.length_append, beBytes_length, h1, List.length_nil, List.length_cons]
set_option maxHeartbeats 4000000 in
set_option maxRecDepth 100000 in
theorem asm_ok (said rows : Bs) (base ln leader sm at_ last first maxt prod epoch sq : Int) (cnt : Nat) (x : Nat) (hx : (crcMore 0#32 (said.drop 21 ++ rows)).toNat = x) (hs1 : 21 ≤ said.length) (hs2 : said.length ≤ 140737488355328) (hs3 : rows.length ≤ 140737488355328) (h0 : (x : Int) = sm) (hat : chk at_ = 0) (har : R64 at_) (hcn : cnt ≤ 2147483647) (hr1 : rows.length ≤ 1000000) (hmx : first ≤ 9223372036854775807) (rs : List RecS) (hu : unp cnt ⟨rows, 0, 0⟩ = .ok rs) (hbe : batErr (⟨base, leader, bitAt at_ 3, bitAt at_ 4, bitAt at_ 5, last, first, maxt, prod, epoch, sq, rs⟩ : BatS) = 0) {W0 w : World} {K : Know} {L : List Res} (h : St W0 w K L) :
  Calls Tryz.prog 142 #[.agg #[.int .i64 base, .int .i64 ln, .int .i64 leader, .int .i64 sm, .int .i64 at_, .int .i64 last, .int .i64 first, .int .i64 maxt, .int .i64 prod, .int .i64 epoch, .int .i64 sq, .int .i64 cnt], .string (bb said), .string (bb rows)] w fun en w' => ∃ (q : Option Addr) (l : List (RecS × Value)) (cap : Nat), en = .returned (.tuple #[.agg #[.int .i64 base, .int .i64 leader, .bool (bitAt at_ 3), .bool (bitAt at_ 4), .bool (bitAt at_ 5), .int .i64 last, .int .i64 first, .int .i64 maxt, .int .i64 prod, .int .i64 epoch, .int .i64 sq, .slice q l.length cap], .int .i64 0]) ∧ l.map (·.1) = rs ∧ St W0 w' (K.and (Know.recs (.slice q l.length cap) l)) L := by
 have gs : ((x : Int) == sm) = true := by rw [h0]; exact beq_self_eq_true _
 have gs2 : ((x : Int) != sm) = false := by simp [bne, gs]
 clear h0; have HAT := Lib.hid hat; have HAR := Lib.hid har; have HCN := Lib.hid hcn; have HU := Lib.hid hu; have HR1 := Lib.hid hr1; have HMX := Lib.hid hmx; have HB0 := Lib.hid hbe; clear hat har hcn hu hr1 hmx hbe; have g1 := h.allocRaw #[.int .i64 base, .int .i64 ln, .int .i64 leader, .int .i64 sm, .int .i64 at_, .int .i64 last, .int .i64 first, .int .i64 maxt, .int .i64 prod, .int .i64 epoch, .int .i64 sq, .int .i64 cnt] 154; have g2 := g1.allocRaw #[.int .i64 0, .int .i64 0, .bool false, .bool false, .bool false, .int .i64 0, .int .i64 0, .int .i64 0, .int .i64 0, .int .i64 0, .int .i64 0, .slice none 0 0] 58; obtain ⟨pb, hpb⟩ : ∃ b, w.heap.size = b := ⟨_, rfl⟩; obtain ⟨rb, hrb⟩ : ∃ b, pb + 1 = b := ⟨_, rfl⟩; simp only [World.size_alloc, hpb, hrb] at g2; have H := Lib.hid g2; have HX := Lib.hid hx; have HS1 := Lib.hid hs1; have HS2 := Lib.hid hs2; have HS3 := Lib.hid hs3; clear h g1 g2 hx hs1 hs2 hs3; go_enter Tryz.func142, Tryz.ntmps142; go_upto_region 1 with (fail); have hs := H.out.drew; refine wp_region_held_drew (S := fun w' => w'.cell? ⟨pb, 0, none⟩ = some (.int .i64 base) ∧ w'.cell? ⟨pb, 1, none⟩ = some (.int .i64 ln) ∧ w'.cell? ⟨pb, 2, none⟩ = some (.int .i64 leader) ∧ w'.cell? ⟨pb, 3, none⟩ = some (.int .i64 sm) ∧ w'.cell? ⟨pb, 4, none⟩ = some (.int .i64 at_) ∧ w'.cell? ⟨pb, 5, none⟩ = some (.int .i64 last) ∧ w'.cell? ⟨pb, 6, none⟩ = some (.int .i64 first) ∧ w'.cell? ⟨pb, 7, none⟩ = some (.int .i64 maxt) ∧ w'.cell? ⟨pb, 8, none⟩ = some (.int .i64 prod) ∧ w'.cell? ⟨pb, 9, none⟩ = some (.int .i64 epoch) ∧ w'.cell? ⟨pb, 10, none⟩ = some (.int .i64 sq) ∧ w'.cell? ⟨pb, 11, none⟩ = some (.int .i64 cnt)) (by kernel_rfl) (let ⟨x0, x1, x2, x3, x4, x5, x6, x7, x8, x9, x10, x11, _⟩ := raw12 (b := pb) (hs.p1); ⟨x0, x1, x2, x3, x4, x5, x6, x7, x8, x9, x10, x11⟩) (fun hHeld => ?_); refine tQ 0 ⟨some 12, .move (.tmp 1), 9, _, _, none⟩ ?_; simp only [Act.put, sA, sB, sC]; refine tQ 1 ⟨some 13, .move (.tmp 2), 9, _, _, none⟩ ?_; simp only [Act.put, sA, sB, sC]; refine tQ 3 ⟨some 15, .fieldAddr 154 (.tmp 3) 3, 0, _, _, none⟩ ?_; simp only [Act.put, sA, sB, sC]; refine tQ 4 ⟨some 16, .load 3 (.tmp 15), 3, _, _, none⟩ ?_; simp only [Act.put, sA, sB, sC]; refine wpAnyH_ready (rs := [2]) (by kernel_rfl) (by simp) (AllReadyH.cons (o := ⟨some 14, .call { callee := .value (.func 92), args := #[.tmp 12, .tmp 13], argTypes := #[9, 9] }, 3, _, _, none⟩) rfl (fun KK hK => ?_) AllReadyH.nil); go_simp; go_at_call 92; with_reducible refine (bat_sum said rows x HX.out HS1.out HS2.out HS3.out hs).mono ?_; rintro e wq ⟨rfl, hs⟩; refine hK.out _ _ (let ⟨x0, x1, x2, x3, x4, x5, x6, x7, x8, x9, x10, x11, _⟩ := raw12 (b := pb) (hs.p1); ⟨x0, x1, x2, x3, x4, x5, x6, x7, x8, x9, x10, x11⟩) (fun hHeld => ?_); clear hK KK
 try simp only [Act.put, sA, sB, sC]
 refine tQ 5 ⟨some 17, .binOp .neq 3 (.tmp 14) (.tmp 16) 3, 4, _, _, none⟩ ?_; simp only [Act.put, sA, sB, sC]; refine wpAnyH_done (by kernel_rfl) ?_ _; clear hHeld; have H := Lib.hid hs; clear hs; obtain ⟨p0, p1, p2, p3, p4, p5, p6, p7, p8, p9, p10, p11, u0, u1, u2, u3, u4, u5, u6, u7, u8, u9, u10, u11⟩ := raw12 (b := rb) (H.out); obtain ⟨x0, x1, x2, x3, x4, x5, x6, x7, x8, x9, x10, x11, y0, y1, y2, y3, y4, y5, y6, y7, y8, y9, y10, y11⟩ := raw12 (b := pb) ((H.out).p1)
 go_upto_region 11 with (first
 | (go_at_call 165; (with_reducible refine (attr_checkE at_ 0 HAT.out HAR.out H.out).mono ?_); rintro e_ wn ⟨rfl, h⟩; replace H := Lib.hid h; clear h; obtain ⟨p0, p1, p2, p3, p4, p5, p6, p7, p8, p9, p10, p11, u0, u1, u2, u3, u4, u5, u6, u7, u8, u9, u10, u11⟩ := raw12 (b := rb) (H.out); obtain ⟨x0, x1, x2, x3, x4, x5, x6, x7, x8, x9, x10, x11, y0, y1, y2, y3, y4, y5, y6, y7, y8, y9, y10, y11⟩ := raw12 (b := pb) ((H.out).p1))
 | (go_at_call 166; (with_reducible refine (bat_unpack_ok rows cnt HCN.out HS3.out rs HU.out H.out).mono ?_); rintro e_ wn ⟨rv, l, rfl, hlr, h⟩; obtain ⟨q, cap, hrv⟩ := recs_form (Know.has_right (Know.has_refl _)) h; subst hrv; obtain ⟨hff, hfl⟩ := unp_fitB HU.out hlr HR1.out; have HFT := Lib.hid hff; have HLL := Lib.hid hfl; have HLR := Lib.hid hlr; clear hff hfl hlr; obtain ⟨p0, p1, p2, p3, p4, p5, p6, p7, p8, p9, p10, p11, u0, u1, u2, u3, u4, u5, u6, u7, u8, u9, u10, u11⟩ := raw12 (b := rb) (h); obtain ⟨x0, x1, x2, x3, x4, x5, x6, x7, x8, x9, x10, x11, y0, y1, y2, y3, y4, y5, y6, y7, y8, y9, y10, y11⟩ := raw12 (b := pb) ((h).p1); have h := h.allocRaw #[.int .i64 base, .int .i64 leader, .bool false, .bool false, .bool false, .int .i64 last, .int .i64 first, .int .i64 maxt, .int .i64 prod, .int .i64 epoch, .int .i64 sq, .slice q l.length cap] 58; obtain ⟨bB, hbB⟩ : ∃ b, wn.heap.size = b := ⟨_, rfl⟩; rw [hbB] at h; obtain ⟨x0, x1, x2, x3, x4, x5, x6, x7, x8, x9, x10, x11, y0, y1, y2, y3, y4, y5, y6, y7, y8, y9, y10, y11⟩ := raw12 (b := pb) (h.p2); obtain ⟨a0, a1, a2, a3, a4, a5, a6, a7, a8, a9, a10, a11, f0, f1, f2, f3, f4, f5, f6, f7, f8, f9, f10, f11⟩ := raw12 (b := bB) (h); replace H := Lib.hid h; clear h)
 | (go_at_call 167; (with_reducible refine (attr_readE at_ H.out).mono ?_); rintro e_ wn ⟨rfl, h⟩; obtain ⟨a0, a1, a2, a3, a4, a5, a6, a7, a8, a9, a10, a11, f0, f1, f2, f3, f4, f5, f6, f7, f8, f9, f10, f11⟩ := raw12 (b := bB) (h); replace H := Lib.hid h; clear h))
 have HBE := Lib.hid (show batErr ⟨base, leader, bitAt at_ 3, bitAt at_ 4, bitAt at_ 5, last, first, maxt, prod, epoch, sq, l.map (·.1)⟩ = 0 by rw [HLR.out]; exact HB0.out); have hs : St W0 _ _ (.raw bB #[.int .i64 base, .int .i64 leader, .bool (bitAt at_ 3), .bool (bitAt at_ 4), .bool (bitAt at_ 5), .int .i64 last, .int .i64 first, .int .i64 maxt, .int .i64 prod, .int .i64 epoch, .int .i64 sq, .slice q l.length cap] 58 :: _) := ((H.out.rawSet 2 (.bool (bitAt at_ 3))).rawSet 3 (.bool (bitAt at_ 4))).rawSet 4 (.bool (bitAt at_ 5)); have hs := hs.drew; clear x0 y0 a0 f0 x1 y1 a1 f1 x2 y2 a2 f2 x3 y3 a3 f3 x4 y4 a4 f4 x5 y5 a5 f5 x6 y6 a6 f6 x7 y7 a7 f7 x8 y8 a8 f8 x9 y9 a9 f9 x10 y10 a10 f10 x11 y11 a11 f11; refine wp_region_held_drew (S := fun w' => w'.cell? ⟨bB, 0, none⟩ = some (.int .i64 base) ∧ w'.cell? ⟨bB, 1, none⟩ = some (.int .i64 leader) ∧ w'.cell? ⟨bB, 2, none⟩ = some (.bool (bitAt at_ 3)) ∧ w'.cell? ⟨bB, 3, none⟩ = some (.bool (bitAt at_ 4)) ∧ w'.cell? ⟨bB, 4, none⟩ = some (.bool (bitAt at_ 5)) ∧ w'.cell? ⟨bB, 5, none⟩ = some (.int .i64 last) ∧ w'.cell? ⟨bB, 6, none⟩ = some (.int .i64 first) ∧ w'.cell? ⟨bB, 7, none⟩ = some (.int .i64 maxt) ∧ w'.cell? ⟨bB, 8, none⟩ = some (.int .i64 prod) ∧ w'.cell? ⟨bB, 9, none⟩ = some (.int .i64 epoch) ∧ w'.cell? ⟨bB, 10, none⟩ = some (.int .i64 sq) ∧ w'.cell? ⟨bB, 11, none⟩ = some (.slice q l.length cap)) (by kernel_rfl) (let ⟨x0, x1, x2, x3, x4, x5, x6, x7, x8, x9, x10, x11, _⟩ := raw12 (b := bB) (hs); ⟨x0, x1, x2, x3, x4, x5, x6, x7, x8, x9, x10, x11⟩) (fun hHeld => ?_); refine tQ 0 ⟨some 65, .load 58 (.tmp 11), 58, _, _, none⟩ ?_; simp only [Act.put, sA, sB, sC]; refine tQ 1 ⟨some 66, .load 58 (.tmp 11), 58, _, _, none⟩ ?_; simp only [Act.put, sA, sB, sC]; refine wpAnyH_ready (rs := [2]) (by kernel_rfl) (by simp) (AllReadyH.cons (o := ⟨some 67, .call { callee := .value (.func 88), args := #[.tmp 66], argTypes := #[58] }, 30, _, _, none⟩) rfl (fun KK hK => ?_) AllReadyH.nil); go_simp; go_at_call 88; with_reducible refine (bat_check base leader (bitAt at_ 3) (bitAt at_ 4) (bitAt at_ 5) last first maxt prod epoch sq l q cap 0 HBE.out HMX.out HFT.out HLL.out (Know.has_right (Know.has_refl _)) hs).mono ?_; rintro e wq ⟨rfl, hs⟩; refine hK.out _ _ (let ⟨x0, x1, x2, x3, x4, x5, x6, x7, x8, x9, x10, x11, _⟩ := raw12 (b := bB) (hs); ⟨x0, x1, x2, x3, x4, x5, x6, x7, x8, x9, x10, x11⟩) (fun hHeld => ?_); clear hK KK
 try simp only [Act.put, sA, sB, sC]
 refine wpAnyH_ready (rs := [3]) (by kernel_rfl) (by simp) (AllReadyH.cons (o := ⟨none, .store 58 (.tmp 6) (.tmp 65), 0, _, _, none⟩) rfl (fun KK hK => ?_) AllReadyH.nil); have hs := hs.p1; rw [if_pos (by rfl)]; refine wp_store_mid 58 (.tmp 6) (.tmp 65) rfl rb 0 #[.int .i64 base, .int .i64 leader, .bool (bitAt at_ 3), .bool (bitAt at_ 4), .bool (bitAt at_ 5), .int .i64 last, .int .i64 first, .int .i64 maxt, .int .i64 prod, .int .i64 epoch, .int .i64 sq, .slice q l.length cap] (by rfl) (by rfl) hs.there (by kernel_rfl) (by simp [Value.oneCell']) ?_; obtain ⟨wz, ez, hs⟩ := hs.storeEx #[.int .i64 base, .int .i64 leader, .bool (bitAt at_ 3), .bool (bitAt at_ 4), .bool (bitAt at_ 5), .int .i64 last, .int .i64 first, .int .i64 maxt, .int .i64 prod, .int .i64 epoch, .int .i64 sq, .slice q l.length cap]; rw [ez]; clear ez; refine hK.out _ _ (let ⟨x0, x1, x2, x3, x4, x5, x6, x7, x8, x9, x10, x11, _⟩ := raw12 (b := bB) (hs.p1); ⟨x0, x1, x2, x3, x4, x5, x6, x7, x8, x9, x10, x11⟩) (fun hHeld => ?_); clear hK KK
 try simp only [Act.put, sA, sB, sC]
 refine tQ 4 ⟨some 7, .assign (.tmp 67), 30, _, _, none⟩ ?_; simp only [Act.put, sA, sB, sC]; refine wpAnyH_done (by kernel_rfl) ?_ _; clear hHeld; rw [setAll_all] at hs; rotate_left
 · rfl
 have hz : St W0 _ _ (.raw rb #[.int .i64 base, .int .i64 leader, .bool (bitAt at_ 3), .bool (bitAt at_ 4), .bool (bitAt at_ 5), .int .i64 last, .int .i64 first, .int .i64 maxt, .int .i64 prod, .int .i64 epoch, .int .i64 sq, .slice q l.length cap] 58 :: _) := hs; go_wp2_with fail; refine bodyPost_ret (rc_cell_tmp rfl _ _ rb [.int .i64 base, .int .i64 leader, .bool (bitAt at_ 3), .bool (bitAt at_ 4), .bool (bitAt at_ 5), .int .i64 last, .int .i64 first, .int .i64 maxt, .int .i64 prod, .int .i64 epoch, .int .i64 sq, .slice q l.length cap] _ rfl (rc_range hz) Tryz.underlying58 rfl (by kernel_rfl)) rfl ?_; exact ⟨q, l, cap, rfl, HLR.out, hz.drop.drop.drop⟩
theorem asm_good (x : PreS) (said rows : Bs) (hs1 : 21 ≤ said.length) (hs2 : said.length ≤ 140737488355328) (hr1 : rows.length ≤ 1000000) (har : R64 x.attr) (hc0 : 0 ≤ x.count) (hcn : x.count ≤ 2147483647) (hmx : x.first ≤ 9223372036854775807) (b : BatS) (ha : asmB x said rows = .ok b) {W0 w : World} {K : Know} {L : List Res} (h : St W0 w K L) :
  Calls Tryz.prog 142 #[.agg #[.int .i64 x.base, .int .i64 x.len, .int .i64 x.leader, .int .i64 x.sum, .int .i64 x.attr, .int .i64 x.last, .int .i64 x.first, .int .i64 x.maxt, .int .i64 x.prod, .int .i64 x.epoch, .int .i64 x.seq, .int .i64 x.count], .string (bb said), .string (bb rows)] w fun en w' => ∃ (q : Option Addr) (l : List (RecS × Value)) (cap : Nat), en = .returned (.tuple #[.agg #[.int .i64 b.base, .int .i64 b.leader, .bool b.app, .bool b.txn, .bool b.ctl, .int .i64 b.last, .int .i64 b.first, .int .i64 b.maxt, .int .i64 b.prod, .int .i64 b.epoch, .int .i64 b.seq, .slice q l.length cap], .int .i64 0]) ∧ l.map (·.1) = b.recs ∧ St W0 w' (K.and (Know.recs (.slice q l.length cap) l)) L := by
 obtain ⟨c1, c2, rs, hu, c3, rfl⟩ := asmB_ok ha; obtain ⟨base, len, leader, sum, attr, last, first, maxt, prod, epoch, seq, count⟩ := x; simp only at har hc0 hcn hmx c1 c2 hu c3; obtain ⟨cnt, rfl⟩ : ∃ n : Nat, count = (n : Int) := ⟨count.toNat, by omega⟩; rw [Int.toNat_natCast] at hu; exact asm_ok said rows base len leader sum attr last first maxt prod epoch seq cnt _ rfl hs1 hs2 (by omega) c1 c2 har (by omega) hr1 hmx rs hu c3 h
set_option maxHeartbeats 4000000 in
set_option maxRecDepth 100000 in
theorem bat_read_ok (p : Nat) (i i1 i3 j : InS) (said rows : Bs) (x : PreS) (hxl : -2147483648 ≤ x.len ∧ x.len < 2147483648) (hs1 : 21 ≤ said.length) (hsl : said.length ≤ 140737488355328) (hr1 : rows.length ≤ 1000000) (har : R64 x.attr) (hc0 : 0 ≤ x.count) (hcn : x.count ≤ 2147483647) (hmx : x.first ≤ 9223372036854775807) (ht1 : i.take 61 = (said, i1)) (hp : (⟨said, 0, 0⟩ : InS).pre = (x, j)) (hj : j.err = 0) (ht2 : i1.take (x.len - 49) = (rows, i3)) (he3 : i3.err = 0) (b : BatS) (ha : asmB x said rows = .ok b) {W0 w : World} {K : Know} {L : List Res} (h : St W0 w K (.inp p i :: L)) :
  Calls Tryz.prog 109 #[inPtr p] w fun en w' => ∃ (q : Option Addr) (l : List (RecS × Value)) (cap : Nat), en = .returned (.agg #[.int .i64 b.base, .int .i64 b.leader, .bool b.app, .bool b.txn, .bool b.ctl, .int .i64 b.last, .int .i64 b.first, .int .i64 b.maxt, .int .i64 b.prod, .int .i64 b.epoch, .int .i64 b.seq, .slice q l.length cap]) ∧ l.map (·.1) = b.recs ∧ St W0 w' (K.and (Know.recs (.slice q l.length cap) l)) (.inp p i3 :: L) := by
 have g1 := h.allocRaw #[.int .i64 0, .int .i64 0, .bool false, .bool false, .bool false, .int .i64 0, .int .i64 0, .int .i64 0, .int .i64 0, .int .i64 0, .int .i64 0, .slice none 0 0] 58; obtain ⟨rb, hrb⟩ : ∃ b, w.heap.size = b := ⟨_, rfl⟩; rw [hrb] at g1; have H := Lib.hid g1; have HT1 := Lib.hid ht1; have HSL := Lib.hid hsl; have HS1 := Lib.hid hs1; have HR1 := Lib.hid hr1; have HAR := Lib.hid har; have HC0 := Lib.hid hc0; have HCN := Lib.hid hcn; have HMX := Lib.hid hmx; have HA := Lib.hid ha; have HP := Lib.hid hp; have HJ := Lib.hid hj; have HT2 := Lib.hid ht2; have HE3 := Lib.hid he3; have f1 : wrap64 (x.len - 49) = x.len - 49 := by unfold wrap64; omega
 have f2 : IntKind.i64.wrap (x.len - 49) = x.len - 49 := IntWalk.i64_in _ (by omega); clear h g1 ht1 hsl hs1 hr1 har hc0 hcn hmx ha hp hj ht2 he3 hxl; go_enter Tryz.func109, Tryz.ntmps109
 go_wp2_with (first
  | (go_at_call 77; (with_reducible refine (s_takeE p i i1 _ said HT1.out H.out.p1).mono ?_); rintro e_ wn ⟨rfl, h⟩; replace H := Lib.hid h; clear h)
  | (go_at_call 14; (with_reducible refine (s_new said HSL.out H.out).mono ?_); rintro e_ wn ⟨bi, rfl, h⟩; replace H := Lib.hid h; clear h)
  | (go_at_call 141; (with_reducible refine (prefix_readQ bi _ j x HP.out H.out).mono ?_); rintro e_ wn ⟨rfl, h⟩; replace H := Lib.hid h; clear h; have h := H.out; obtain ⟨pb, hpb⟩ : ∃ b, wn.heap.size = b := ⟨_, rfl⟩; have h := h.allocRaw #[.int .i64 x.base, .int .i64 x.len, .int .i64 x.leader, .int .i64 x.sum, .int .i64 x.attr, .int .i64 x.last, .int .i64 x.first, .int .i64 x.maxt, .int .i64 x.prod, .int .i64 x.epoch, .int .i64 x.seq, .int .i64 x.count] 154; rw [hpb] at h; obtain ⟨x0, x1, x2, x3, x4, x5, x6, x7, x8, x9, x10, x11, y0, y1, y2, y3, y4, y5, y6, y7, y8, y9, y10, y11⟩ := raw12 (b := pb) (h); replace H := Lib.hid h.p1; clear h)
  | (go_at_call 20; (with_reducible refine (s_errE bi j 0 HJ.out H.out).mono ?_); rintro e_ wn ⟨rfl, h⟩; replace H := Lib.hid h; clear h; obtain ⟨x0, x1, x2, x3, x4, x5, x6, x7, x8, x9, x10, x11, y0, y1, y2, y3, y4, y5, y6, y7, y8, y9, y10, y11⟩ := raw12 (b := pb) (H.out.p1))
  | (go_at_call 77; (with_reducible refine (s_takeE p i1 i3 _ rows HT2.out H.out.p2).mono ?_); rintro e_ wn ⟨rfl, h⟩; replace H := Lib.hid h; clear h; obtain ⟨x0, x1, x2, x3, x4, x5, x6, x7, x8, x9, x10, x11, y0, y1, y2, y3, y4, y5, y6, y7, y8, y9, y10, y11⟩ := raw12 (b := pb) (H.out.p2))
  | (go_at_call 20; (with_reducible refine (s_errE p i3 0 HE3.out H.out).mono ?_); rintro e_ wn ⟨rfl, h⟩; replace H := Lib.hid h; clear h; obtain ⟨x0, x1, x2, x3, x4, x5, x6, x7, x8, x9, x10, x11, y0, y1, y2, y3, y4, y5, y6, y7, y8, y9, y10, y11⟩ := raw12 (b := pb) (H.out.p2); obtain ⟨a0, a1, a2, a3, a4, a5, a6, a7, a8, a9, a10, a11, f0, f1, f2, f3, f4, f5, f6, f7, f8, f9, f10, f11⟩ := raw12 (b := rb) (H.out.p3))
  | (go_at_call 142; (with_reducible refine (asm_good x said rows HS1.out HSL.out HR1.out HAR.out HC0.out HCN.out HMX.out b HA.out H.out).mono ?_); rintro e_ wn ⟨q, l, cap, rfl, hl, h⟩; have h := h.allocRaw #[.int .i64 b.base, .int .i64 b.leader, .bool b.app, .bool b.txn, .bool b.ctl, .int .i64 b.last, .int .i64 b.first, .int .i64 b.maxt, .int .i64 b.prod, .int .i64 b.epoch, .int .i64 b.seq, .slice q l.length cap] 58; obtain ⟨bB, hbB⟩ : ∃ b, wn.heap.size = b := ⟨_, rfl⟩; rw [hbB] at h; obtain ⟨c0, c1, c2, c3, c4, c5, c6, c7, c8, c9, c10, c11, g0, g1, g2, g3, g4, g5, g6, g7, g8, g9, g10, g11⟩ := raw12 (b := bB) (h); obtain ⟨a0, a1, a2, a3, a4, a5, a6, a7, a8, a9, a10, a11, f0, f1, f2, f3, f4, f5, f6, f7, f8, f9, f10, f11⟩ := raw12 (b := rb) (h.p4); replace H := Lib.hid h; clear h))
 have hz : St W0 _ _ (.raw rb #[.int .i64 b.base, .int .i64 b.leader, .bool b.app, .bool b.txn, .bool b.ctl, .int .i64 b.last, .int .i64 b.first, .int .i64 b.maxt, .int .i64 b.prod, .int .i64 b.epoch, .int .i64 b.seq, .slice q l.length cap] 58 :: _) := St.sets12 _ _ _ _ _ _ _ _ _ _ _ _ (H.out.p4); refine bodyPost_ret (rc_cell_only rfl _ _ rb [.int .i64 b.base, .int .i64 b.leader, .bool b.app, .bool b.txn, .bool b.ctl, .int .i64 b.last, .int .i64 b.first, .int .i64 b.maxt, .int .i64 b.prod, .int .i64 b.epoch, .int .i64 b.seq, .slice q l.length cap] _ rfl (rc_range hz) Tryz.underlying58 rfl (by kernel_rfl)) rfl ?_; exact ⟨q, l, cap, rfl, hl, hz.drop.drop.p1.drop.p1.drop⟩
theorem bat_read_good (p : Nat) (s : Bs) (pos : Nat) (hsl : s.length ≤ 1000000) (hp : pos ≤ s.length) (b : BatS) (n : Nat) (hr : reBat (s.drop pos) = .ok (b, n)) {W0 w : World} {K : Know} {L : List Res} (h : St W0 w K (.inp p ⟨s, pos, 0⟩ :: L)) :
  Calls Tryz.prog 109 #[inPtr p] w fun en w' => ∃ (q : Option Addr) (l : List (RecS × Value)) (cap : Nat), en = .returned (.agg #[.int .i64 b.base, .int .i64 b.leader, .bool b.app, .bool b.txn, .bool b.ctl, .int .i64 b.last, .int .i64 b.first, .int .i64 b.maxt, .int .i64 b.prod, .int .i64 b.epoch, .int .i64 b.seq, .slice q l.length cap]) ∧ l.map (·.1) = b.recs ∧ St W0 w' (K.and (Know.recs (.slice q l.length cap) l)) (.inp p ⟨s, pos + n, 0⟩ :: L) := by
 obtain ⟨x, hx, rfl, hn, ha⟩ := reBat_ok hr; obtain ⟨r1, r2, r3, r4, r5, r6⟩ := pre_ranges hx; have h61 := (rePre_ok hx).1; rw [List.length_drop] at hn h61; have hl61 : ((s.drop pos).take 61).length = 61 := by rw [List.length_take, List.length_drop]; omega
 have hrl : (((s.drop pos).drop 61).take (x.len - 49).toNat).length ≤ 1000000 := by rw [List.length_take, List.length_drop, List.length_drop]; omega
 have ht1 : (⟨s, pos, 0⟩ : InS).take 61 = ((s.drop pos).take 61, ⟨s, pos + 61, 0⟩) := InS.take_ok rfl (by omega) (by simp only [InS.left]; omega)
 have ht2 : (⟨s, pos + 61, 0⟩ : InS).take (x.len - 49) = (((s.drop pos).drop 61).take (x.len - 49).toNat, ⟨s, pos + 61 + (x.len - 49).toNat, 0⟩) := by
  rw [InS.take_ok rfl (by omega) (by simp only [InS.left]; omega), List.drop_drop]
 have hpre := pre_okA ((s.drop pos).take 61) 0 (by omega); rw [List.drop_zero, rePre_take _ (by rw [List.length_drop]; omega), hx] at hpre; rw [← Nat.add_assoc]; exact bat_read_ok p _ _ _ _ _ _ x r1 (by rw [hl61]; omega) (by rw [hl61]; omega) hrl r3 r4 r5 r6 ht1 hpre rfl ht2 rfl b ha h
theorem op_value {P : Program} {o : Oper} {a : Act} {w w' : World} {v : Value} {KK : Act → World → Prop} {Q : Exit → Act → World → Prop} (hr : (execOp a.eval o).run P w = .ok (.value v) w') (h : KK (a.put o.dst v) w') : o.wp P a w KK Q := by
 unfold Oper.wp; rw [hr]; exact h
theorem op_app1 {W0 w : World} {K : Know} {L : List Res} {o : Oper} {a : Act} {KK : Act → World → Prop} {Q : Exit → Act → World → Prop} (sl x : Operand) (t : TypeId)
    (ho : o.op = .call { callee := .builtin .append, args := #[sl, x], argTypes := #[t, t] })
    (e : TypeId) {z : Value} {size bytes : Nat} (ht : Tryz.prog.underlying t = some (.slice e)) (he : ElemT Tryz.prog e z size bytes)
    (v : Value) (n : Nat) (xs : List Value) (hs : a.eval sl = v) (bS : Nat) (cs : Array Value) (T : TypeId) (hst : St W0 w K (.raw bS cs T :: .row v e size n xs :: L))
    (hx : a.eval x = .slice (some ⟨bS, 0, none⟩) 1 1) (hl : cs.toList.length = size) (h1 : ∀ u ∈ cs.toList, u.oneCell' = true)
    (h63 : n + 1 ≤ maxLen) (hbytes : (n + 1) * bytes ≤ 140737488355328)
    (h : ∀ v' w', St W0 w' K (.row v' e size (n + 1) (xs ++ cs.toList) :: L) → KK (a.put o.dst v') w') : o.wp Tryz.prog a w KK Q := by
  have hc := hst.rawCell; have hst2 := hst.p1; obtain ⟨⟨i, g1, g2, g3, g4⟩, g5, g6⟩ := he
  obtain ⟨v', w', hr, h2, h3, h4⟩ := app_val (P := Tryz.prog) w t o.type e i z size bytes ht g1 g2 g3 g4 g5 g6 v n xs hst2.rowGet ⟨bS, 0, none⟩ 1 1 cs.toList (by omega) (fun j u hj => by
    have ha : (⟨bS, 0, none⟩ : Addr).add j = ⟨bS, j, none⟩ := by unfold Addr.add; split <;> simp_all
    rw [ha, hc j]
    simpa using hj) h1 h63 hbytes
  unfold Oper.wp execOp; simp only [ho, resolve, invoke, builtin, Sem.run_bind, Sem.run_pure, Result.andThen_ok, List.map_toArray, List.map_cons, List.map_nil, hs, hx, hr]; exact h v' w' (hst2.rowGrown h2 h3 h4).p1.drop
theorem op_skip {P : Program} {o : Oper} {a : Act} {w w' : World} {KK : Act → World → Prop} {Q : Exit → Act → World → Prop} (hr : (execOp a.eval o).run P w = .ok .skip w') (h : KK (a.put o.dst undef) w') : o.wp P a w KK Q := by
 unfold Oper.wp; rw [hr]; exact h
theorem rc_cell_onlyP {P : Program} {fn : Func} {p : Tmp} {ty : TypeId} (h : fn.results = #[.cell p ty]) (tmps : Array Value) (w : World) (b : Nat) (cs : List Value) (d : TypeDesc)
    (hp : tmps.getD p undef = .pointer (some ⟨b, 0, none⟩)) (hc : w.rangeAt b 0 cs) (hu : P.underlying ty = some d) (hd : d.isRow = true) (hi : (P.info? ty).map (·.size) = some cs.length) :
    (results fn tmps).run P w = .ok (.agg cs.toArray) w := by
  have hp' : tmps[p]?.getD undef = .pointer (some ⟨b, 0, none⟩) := by simpa using hp
  simp [results, h, hp', asAddr, run_loadVar_mid w b 0 ty cs d hc hu hd hi]
theorem rc_rangeP {W0 w : World} {K : Know} {L : List Res} {b : Nat} {c : List Value} {T : TypeId} (h : St W0 w K (.raw b c.toArray T :: L)) : w.rangeAt b 0 c := by
 intro j v hv; rw [Nat.zero_add, h.rawCell j]
 simpa using hv
theorem St.setExP {W0 w : World} {K : Know} {L : List Res} {b : Nat} {c : Array Value} {T : TypeId} (h : St W0 w K (.raw b c T :: L)) (j : Nat) (v : Value) : ∃ wz, w.setCell ⟨b, j, none⟩ v = wz ∧ St W0 wz K (.raw b (c.setIfInBounds j v) T :: L) := ⟨_, rfl, h.rawSet j v⟩
theorem nob_lend {W0 w : World} {K : Know} {L : List Res} (n b p t : Nat) {T1 T2 T3 : TypeId} (h : St W0 w K (.raw b ((List.replicate n nobR).flatMap nobCells).toArray T1 :: .raw p #[.int .i64 0, .slice (some ⟨b, 0, none⟩) n n] T2 :: .raw t #[.string (bb [97]), .slice (some ⟨p, 0, none⟩) 1 1] T3 :: L)) :
  ∃ Kp : Know, Kp.has K ∧ Kp.has (Know.ptops (.slice (some ⟨t, 0, none⟩) 1 1) [nobTop n b p]) ∧ St W0 w Kp L ∧ ∀ (w' : World) (L' : List Res), St W0 w' Kp L' → St W0 w' K (.raw b ((List.replicate n nobR).flatMap nobCells).toArray T1 :: .raw p #[.int .i64 0, .slice (some ⟨b, 0, none⟩) n n] T2 :: .raw t #[.string (bb [97]), .slice (some ⟨p, 0, none⟩) 1 1] T3 :: L') := by
 obtain ⟨K1, a1, a2, a3, a4⟩ := h.lend (Kr := Know.flat RBat (.slice (some ⟨b, 0, none⟩) (List.replicate n nobR).length n) 12 (List.replicate n nobR)) (fun S1 h1 _ => raw_rows (List.replicate n nobR) nobCells (fun x _ => ⟨rfl, rfl⟩) rfl S1 h1); obtain ⟨K2, b1, b2, b3, b4⟩ := a3.lend (Kr := Know.flat RPart (.slice (some ⟨p, 0, none⟩) [nobPart n b].length 1) 2 [nobPart n b]) (fun S1 h1 _ => raw_rows [nobPart n b] pcells (fun x _ => ⟨rfl, rfl⟩) (by show _ = #[Value.int .i64 0, .slice (some ⟨b, 0, none⟩) (List.replicate n nobR).length n]; rw [List.length_replicate]) S1 h1); obtain ⟨K3, c1, c2, c3, c4⟩ := b3.lend (Kr := Know.flat RPTop (.slice (some ⟨t, 0, none⟩) [nobTop n b p].length 1) 2 [nobTop n b p]) (fun S1 h1 _ => raw_rows [nobTop n b p] ptcells (fun x _ => ⟨rfl, rfl⟩) rfl S1 h1); refine ⟨K3, Know.has_trans c1 (Know.has_trans b1 a1), ?_, c3, fun w' L' h' => a4 w' _ K1 (Know.has_refl _) (b4 w' _ K2 (Know.has_refl _) (c4 w' _ K3 (Know.has_refl _) h'))⟩; intro w' F' hF
 have hbats : (Know.bats (.slice (some ⟨b, 0, none⟩) (List.replicate n nobR).length n) (List.replicate n nobR)).p w' F' := by
  refine ⟨a2 _ _ (b1 _ _ (c1 _ _ hF)), fun x hx => ?_⟩; rw [List.eq_of_mem_replicate hx]; exact ⟨⟨none, 0, rfl, fun hh => absurd hh (by decide)⟩, fun y hy => by cases hy⟩
 refine ⟨c2 _ _ hF, fun x hx => ?_⟩; rw [List.mem_singleton.1 hx]; refine ⟨b2 _ _ (c1 _ _ hF), fun y hy => ?_⟩; rw [List.mem_singleton.1 hy]; exact hbats
theorem pso_text (p : Nat) (e : Bs) {W0 w : World} {K : Know} {L : List Res} (h : St W0 w K (.out p ⟨e, 0⟩ :: L)) :
 Calls Tryz.prog 9 #[outPtr p] w fun en w' => en = .returned (.tuple #[.string (bb e), .int .i64 0]) ∧ St W0 w' K (.out p ⟨e, 0⟩ :: L) := so_text p ⟨e, 0⟩ h
theorem buildNob2 (w : World) : (Instr.buildSlice 66 2 #[(0, .agg #[.int .i64 0, .int .i64 0, .bool false, .bool false, .bool false, .int .i64 0, .int .i64 0, .int .i64 0, .int .i64 (-1), .int .i64 (-1), .int .i64 (-1), .slice none 0 0]), (1, .agg #[.int .i64 0, .int .i64 0, .bool false, .bool false, .bool false, .int .i64 0, .int .i64 0, .int .i64 0, .int .i64 (-1), .int .i64 (-1), .int .i64 (-1), .slice none 0 0])]).run Tryz.prog w = .ok (.slice (some ⟨w.heap.size, 0, none⟩) 2 2) (w.alloc (.cells #[.int .i64 0, .int .i64 0, .bool false, .bool false, .bool false, .int .i64 0, .int .i64 0, .int .i64 0, .int .i64 (-1), .int .i64 (-1), .int .i64 (-1), .slice none 0 0, .int .i64 0, .int .i64 0, .bool false, .bool false, .bool false, .int .i64 0, .int .i64 0, .int .i64 0, .int .i64 (-1), .int .i64 (-1), .int .i64 (-1), .slice none 0 0] 58 (0, 0))) := by go_simp
theorem exec_buildP {o : Oper} {ρ : Operand → Value} (ps : Array (Nat × Value)) (v : Value) (w w' : World) (ho : execOp ρ o = (do pure (Next.value (← Instr.buildSlice 66 2 ps)))) (hb : (Instr.buildSlice 66 2 ps).run Tryz.prog w = .ok v w') : (execOp ρ o).run Tryz.prog w = .ok (.value v) w' := by
 rw [ho]; simp [hb]
def pbcells (x : BatR) : List Value := [.int .i64 x.b.base, .int .i64 x.b.leader, .bool x.b.app, .bool x.b.txn, .bool x.b.ctl, .int .i64 x.b.last, .int .i64 x.b.first, .int .i64 x.b.maxt, .int .i64 x.b.prod, .int .i64 x.b.epoch, .int .i64 x.b.seq, .slice x.q x.l.length x.cap]
theorem elem_batP : ElemT Tryz.prog 58 (.agg #[.int .i64 0, .int .i64 0, .bool false, .bool false, .bool false, .int .i64 0, .int .i64 0, .int .i64 0, .int .i64 0, .int .i64 0, .int .i64 0, .slice none 0 0]) 12 96 := elemT_of (by kernel_rfl) rfl (by decide)
def consB (b : BatS) (r : Except Int (List BatS)) : Except Int (List BatS) := match r with | .ok t => .ok (b :: t) | .error e => .error e
def preB (acc : List BatS) (r : Except Int (List BatS)) : Except Int (List BatS) := match r with | .ok t => .ok (acc ++ t) | .error e => .error e
theorem preB_nil (r : Except Int (List BatS)) : preB [] r = r := by cases r <;> rfl
theorem preB_snoc (acc : List BatS) (b : BatS) (r : Except Int (List BatS)) : preB (acc ++ [b]) r = preB acc (consB b r) := by
 cases r with
 | error e => rfl
 | ok t => simp [preB, consB]
def batsE : Nat → Bs → Except Int (List BatS)
  | 0, _ => .ok []
  | f + 1, s => if s = [] then .ok [] else match reBat s with
    | .error e => .error e
    | .ok y => consB y.1 (batsE f (s.drop y.2))
theorem batsE_fuel : ∀ (f g : Nat) (s : Bs), s.length ≤ f → s.length ≤ g → batsE f s = batsE g s
  | 0, 0, _, _, _ => rfl
  | 0, g + 1, s, h, _ => by
    obtain rfl : s = [] := List.eq_nil_of_length_eq_zero (by omega)
    rfl
  | f + 1, 0, s, _, h => by
    obtain rfl : s = [] := List.eq_nil_of_length_eq_zero (by omega)
    rfl
  | f + 1, g + 1, s, h1, h2 => by
    show (if s = [] then Except.ok [] else match reBat s with
      | .error e => Except.error e
      | .ok y => consB y.1 (batsE f (s.drop y.2))) = if s = [] then Except.ok [] else match reBat s with
      | .error e => Except.error e
      | .ok y => consB y.1 (batsE g (s.drop y.2))
    by_cases c : s = []
    · rw [if_pos c, if_pos c]
    rw [if_neg c, if_neg c]
    cases hr : reBat s with
    | error e => rfl
    | ok y =>
      obtain ⟨b, n⟩ := y; obtain ⟨x, _, hn, hl, _⟩ := reBat_ok hr; simp only; rw [batsE_fuel f g (s.drop n) (by rw [List.length_drop]; omega) (by rw [List.length_drop]; omega)]
def batsS (s : Bs) : Except Int (List BatS) := batsE s.length s
theorem batsS_nil : batsS [] = .ok [] := rfl
theorem batsS_step (s : Bs) (h0 : s ≠ []) : batsS s = match reBat s with
    | .error e => Except.error e
    | .ok y => consB y.1 (batsS (s.drop y.2)) := by
  have h1 : batsS s = batsE (s.length + 1) s := batsE_fuel _ _ s (Nat.le_refl _) (by omega); rw [h1]
  show (if s = [] then Except.ok [] else match reBat s with
      | .error e => Except.error e
      | .ok y => consB y.1 (batsE s.length (s.drop y.2))) = _
  rw [if_neg h0]
  cases hr : reBat s with
  | error e => rfl
  | ok y =>
    simp only; rw [batsE_fuel s.length _ (s.drop y.2) (by rw [List.length_drop]; omega) (Nat.le_refl _)]
    rfl
theorem batsS_err {s : Bs} {e : Int} (h0 : s ≠ []) (h : reBat s = .error e) : batsS s = .error e := by rw [batsS_step s h0, h]
theorem batsS_ok {s : Bs} {b : BatS} {n : Nat} (h0 : s ≠ []) (h : reBat s = .ok (b, n)) : batsS s = consB b (batsS (s.drop n)) := by rw [batsS_step s h0, h]
def InS.ppart (i : InS) : (Int × List BatS) × InS :=
  let a := i.int 4
  let b := a.2.fixed 4
  let c := if b.1.null = true then b.2.fail 4 else b.2
  match batsS b.1.data with
  | .ok l => ((a.1, l), c)
  | .error e => ((a.1, []), c.fail e)
theorem p_int (p : Nat) (i j : InS) (x : Int) (size : Int) (hx : i.int size = (x, j)) {W0 w : World} {K : Know} {L : List Res} (h : St W0 w K (.inp p i :: L)) :
  Calls Tryz.prog 44 #[inPtr p, .int .i64 size] w fun en w' => en = .returned (.int .i64 x) ∧ St W0 w' K (.inp p j :: L) := by
 have h2 := s_int p i size h; rw [hx] at h2; exact h2
theorem p_fixed (p : Nat) (i j : InS) (k : Int) (u : Bool) (d : Bs) (hx : i.fixed k = (⟨u, d⟩, j)) {W0 w : World} {K : Know} {L : List Res} (h : St W0 w K (.inp p i :: L)) :
  Calls Tryz.prog 43 #[inPtr p, .int .i64 k] w fun en w' => en = .returned (.agg #[.bool u, .string (bb d)]) ∧ St W0 w' K (.inp p j :: L) := by
 have h2 := blob_fixed p i k h; rw [hx] at h2; exact h2
theorem p_err (p : Nat) (i : InS) (e : Int) (hx : i.err = e) {W0 w : World} {K : Know} {L : List Res} (h : St W0 w K (.inp p i :: L)) :
  Calls Tryz.prog 20 #[inPtr p] w fun en w' => en = .returned (.int .i64 e) ∧ St W0 w' K (.inp p i :: L) := by
 subst hx; exact s_err p i h
theorem p_left (p : Nat) (i : InS) (n : Nat) (hx : i.left = n) {W0 w : World} {K : Know} {L : List Res} (h : St W0 w K (.inp p i :: L)) :
  Calls Tryz.prog 52 #[inPtr p] w fun en w' => en = .returned (.int .i64 n) ∧ St W0 w' K (.inp p i :: L) := by
 subst hx; exact s_left p i h
def PInM (b n : Nat) (w : World) : Nat := if intOf ((w.cell? ⟨b, 2, none⟩).getD undef) ≠ 0 then 0 else n + 1 - (intOf ((w.cell? ⟨b, 1, none⟩).getD undef)).toNat
theorem pinM {W0 w : World} {K : Know} {L : List Res} {b n : Nat} {i : InS} (h : St W0 w K (.inp b i :: L)) : PInM b n w = if i.err ≠ 0 then 0 else n + 1 - i.pos := by
 have h1 := cell_at h.inpGet.1 1; have h2 := cell_at h.inpGet.1 2; unfold PInM; rw [h1, h2]
 rfl
def PartJ (K2 : Know) (d : Bs) (n : Nat) (xs : List Value) (pos : Nat) (er : Int) : Prop :=
  (er = 0 ∧ pos ≤ d.length ∧ 61 * n ≤ pos ∧ ∃ acc : List BatR, n = acc.length ∧ xs = acc.flatMap pbcells ∧ preB (acc.map BatR.b) (batsS (d.drop pos)) = batsS d ∧ (∀ x ∈ acc, K2.has (Know.recs (.slice x.q x.l.length x.cap) x.l)) ∧ ∀ x ∈ acc, x.l.map (·.1) = x.b.recs) ∨
  (er ≠ 0 ∧ batsS d = .error er)
theorem St.freezeBatsP {W0 w : World} {K : Know} {L : List Res} {v : Value} {T : TypeId} {l : List BatR} (h : St W0 w K (.row v T 12 l.length (l.flatMap pbcells) :: L)) (ht : ∀ x ∈ l, K.has (Know.recs (.slice x.q x.l.length x.cap) x.l)) : St W0 w (K.and (Know.bats v l)) L := by
 have hf := h.freezeRow (R := RBat) (fun x _ => ⟨rfl, rfl⟩); exact hf.know (K' := K.and (Know.bats v l)) (fun w F hh => ⟨hh.1, hh.2, fun x hx => ht x hx _ _ hh.1⟩)
theorem fail_ne {i j : InS} {e : Int} (h : i.fail e = j) (h0 : e ≠ 0) : j.err ≠ 0 := by
 subst h; unfold InS.fail
 split
 · exact h0
 · assumption

end Go.Proofs.YtnnnglklgofabaaGreat
