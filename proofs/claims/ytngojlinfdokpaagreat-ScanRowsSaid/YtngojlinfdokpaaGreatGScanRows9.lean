/- A text. -/
import Derived.Test.YtngojlinfdokpaaGreatGScanRows8
import Derived.Test.YtngojlinfdokpaaGreatGScanRows4
import Derived.Test.YtngojlinfdokpaaGreatBytesR
import Derived.Test.YtngojlinfdokpaaGreatGScanRows1
import Derived.Test.YtngojlinfdokpaaGreatHdr1
import Derived.Test.YtngojlinfdokpaaGreatCtl3
import Derived.Test.YtngojlinfdokpaaGreatGScanRows5
import Derived.Test.YtngojlinfdokpaaGreatGScanRows7
import Derived.Test.YtngojlinfdokpaaGreatGScanRows3
import Derived.Deep.RegionHeld3
import Derived.Test.YtngojlinfdokpaaGreatSep
import Derived.Deep.OwnRows
import Derived.Deep.DeepCutAuto
import Derived.IntWalk
/- A text. -/
namespace Go.Proofs.YtngojlinfdokpaaGreat
open Go.RowKit

theorem bat_encode_enc (b : BatS) (l : List (RecS × Value)) (q : Option Addr) (cap : Nat) (hl : l.map (·.1) = b.recs) (so : SmallOk b) {W0 w : World} {K : Know} {L : List Res} (hk : K.has (Know.recs (.slice q l.length cap) l)) (h : St W0 w K L) :
  Calls Tryz.prog 16 #[.agg #[.int .i64 b.base, .int .i64 b.leader, .bool b.app, .bool b.txn, .bool b.ctl, .int .i64 b.last, .int .i64 b.first, .int .i64 b.maxt, .int .i64 b.prod, .int .i64 b.epoch, .int .i64 b.seq, .slice q l.length cap]] w fun en w' => en = .returned (.tuple #[.string (bb b.enc), .int .i64 0]) ∧ St W0 w' K L := by
 have hrow := so.rows
 have hlen := so.len
 have hcr := b.crc_lt
 have hml : l.length = b.recs.length := by rw [← hl, List.length_map]
 have f0 := BatS.fitsAll so.err so.rng 0 (by decide) (by omega) (by omega)
 have f1 := BatS.fitsAll so.err so.rng b.crc (by omega) (by omega) (by omega)
 have r0 := BatS.pre_R so.err so.rng 0 (by decide) (by omega) (by omega)
 have r1 := BatS.pre_R so.err so.rng b.crc (by omega) (by omega) (by omega)
 have hmx : b.first ≤ 9223372036854775807 := by have := so.rng.2.2.2.1.2; omega
 have e0 : b.pre 0 = (⟨b.base, 49 + (b.rowsB.length : Int), b.leader, 0, attrN b.app b.txn b.ctl 3, b.last, b.first, b.maxt, b.prod, b.epoch, b.seq, (l.length : Int)⟩ : PreS) := by unfold BatS.pre; rw [hml]
 have e1 : b.pre b.crc = (⟨b.base, 49 + (b.rowsB.length : Int), b.leader, (b.crc : Int), attrN b.app b.txn b.ctl 3, b.last, b.first, b.maxt, b.prod, b.epoch, b.seq, (l.length : Int)⟩ : PreS) := by unfold BatS.pre; rw [hml]
 have i0 := ints_items f0
 have i1 := ints_items f1
 have hd0 := b.pre_drop 0
 have l0 := items_len (b.pre 0)
 have l1 := items_len (b.pre b.crc)
 have he : batErr ⟨b.base, b.leader, b.app, b.txn, b.ctl, b.last, b.first, b.maxt, b.prod, b.epoch, b.seq, l.map (·.1)⟩ = 0 := by rw [hl]; exact so.err
 have hrc : recsC (l.map (·.1)) = 0 := by rw [hl]; exact (batErr_zero so.err).2.2.2
 have hrw : encAll l = b.rowsB := by rw [encAll_rows, hl]; rfl
 have hfb : FitB l := by
  intro x hx
  obtain ⟨a, c, d⟩ := so.fit x.1 (by rw [← hl]; exact List.mem_map.2 ⟨x, hx, rfl⟩)
  have := hsum_fit x.1.hdrs 1000 (by unfold RecS.sum at d; omega)
  exact ⟨a, fun y hy => by have := this y hy; omega, by omega⟩
 have hall : encInts (b.pre b.crc).items ++ b.rowsB = b.enc := rfl
 have hx : (crcMore 0#32 ((encInts (b.pre 0).items).drop 21 ++ b.rowsB)).toNat = b.crc := by rw [hd0]; rfl
 rw [e0] at r0 i0
 rw [e1] at r1 i1
 obtain ⟨s0, hs0⟩ : ∃ s, encInts (b.pre 0).items = s := ⟨_, rfl⟩
 obtain ⟨s1, hs1⟩ : ∃ s, encInts (b.pre b.crc).items = s := ⟨_, rfl⟩
 have g0 : encInts (⟨b.base, 49 + (b.rowsB.length : Int), b.leader, 0, attrN b.app b.txn b.ctl 3, b.last, b.first, b.maxt, b.prod, b.epoch, b.seq, (l.length : Int)⟩ : PreS).items = s0 := e0 ▸ hs0
 have g1 : encInts (⟨b.base, 49 + (b.rowsB.length : Int), b.leader, (b.crc : Int), attrN b.app b.txn b.ctl 3, b.last, b.first, b.maxt, b.prod, b.epoch, b.seq, (l.length : Int)⟩ : PreS).items = s1 := e1 ▸ hs1
 rw [g0] at i0
 rw [g1] at i1
 rw [hs0] at hx l0
 rw [hs1] at hall l1
 exact bat_encode_ok b.base b.leader b.app b.txn b.ctl b.last b.first b.maxt b.prod b.epoch b.seq l q cap he hmx hfb (by omega) b.rowsB s0 s1 b.enc b.crc (attrN b.app b.txn b.ctl 3) hrc hrw (by omega) rfl r0 r1 i0 i1 l0 l1 hx hall hk h

end Go.Proofs.YtngojlinfdokpaaGreat

/- A text. -/
namespace Go.Proofs.YtngojlinfdokpaaGreat
open Go.RowKit

def AgreeB (a b : Bs) (first n : Nat) : Prop := b.take 21 = a.take 21 ∧ ∀ i, (i < first ∨ first + n ≤ i) → (bitsOf (a.drop 21)).getD i false = (bitsOf (b.drop 21)).getD i false
theorem AgreeB.refl (a : Bs) (f : Nat) : AgreeB a a f 0 := ⟨rfl, fun _ _ => rfl⟩
theorem AgreeB.step {a b : Bs} {f n : Nat} (h : AgreeB a b f n) : AgreeB a b f (n + 1) := ⟨h.1, fun i hi => h.2 i (by omega)⟩
end Go.Proofs.YtngojlinfdokpaaGreat

/- A text. -/
namespace Go.Proofs.YtngojlinfdokpaaGreat
open Go.RowKit

structure BatR where
  b : BatS
  l : List (RecS × Value)
  q : Option Addr
  cap : Nat
def RBat (cs : List Value) (x : BatR) : Prop := cs = [.int .i64 x.b.base, .int .i64 x.b.leader, .bool x.b.app, .bool x.b.txn, .bool x.b.ctl, .int .i64 x.b.last, .int .i64 x.b.first, .int .i64 x.b.maxt, .int .i64 x.b.prod, .int .i64 x.b.epoch, .int .i64 x.b.seq, .slice x.q x.l.length x.cap]
def BatR.Fit (x : BatR) : Prop := x.b.R ∧ FitW x.l ∧ x.l.map (·.1) = x.b.recs
def Know.bats (v : Value) (l : List BatR) : Know := (Know.flat RBat v 12 l).and (Know.all l fun x => Know.recs (.slice x.q x.l.length x.cap) x.l)
theorem bats_flat {K : Know} {v : Value} {l : List BatR} (h : K.has (Know.bats v l)) : K.has (Know.flat RBat v 12 l) := fun w F x => (h w F x).1
theorem bats_recs {K : Know} {v : Value} {l : List BatR} (h : K.has (Know.bats v l)) {x : BatR} (hx : x ∈ l) : K.has (Know.recs (.slice x.q x.l.length x.cap) x.l) := fun w F y => (h w F y).2 x hx
theorem bats_at {W0 w : World} {K : Know} {L : List Res} {q : Option Addr} {n cap : Nat} {l : List BatR} (hk : K.has (Know.bats (.slice q n cap) l)) (h : St W0 w K L) (h0 : 0 < l.length) : ∃ b off, q = some ⟨b, off, none⟩ := by
 obtain ⟨F, hF, _⟩ := h.get
 obtain ⟨q2, cap2, hv, hr⟩ := (bats_flat hk _ _ hF).at
 obtain ⟨b, off, hq, _⟩ := hr h0
 simp at hv
 exact ⟨b, off, hv.1.trans hq⟩
theorem bats_cell {W0 w : World} {K : Know} {L : List Res} {b off n cap : Nat} {l : List BatR} (hk : K.has (Know.bats (.slice (some ⟨b, off, none⟩) n cap) l)) (h : St W0 w K L) (i : Nat) (hi : i < l.length) (x : BatR) (hx : l[i] = x) :
  w.cell? ⟨b, off + i * 12, none⟩ = some (.int .i64 x.b.base) ∧ w.cell? ⟨b, off + i * 12 + 1, none⟩ = some (.int .i64 x.b.leader) ∧ w.cell? ⟨b, off + i * 12 + 2, none⟩ = some (.bool x.b.app) ∧ w.cell? ⟨b, off + i * 12 + 3, none⟩ = some (.bool x.b.txn) ∧ w.cell? ⟨b, off + i * 12 + 4, none⟩ = some (.bool x.b.ctl) ∧ w.cell? ⟨b, off + i * 12 + 5, none⟩ = some (.int .i64 x.b.last) ∧ w.cell? ⟨b, off + i * 12 + 6, none⟩ = some (.int .i64 x.b.first) ∧ w.cell? ⟨b, off + i * 12 + 7, none⟩ = some (.int .i64 x.b.maxt) ∧ w.cell? ⟨b, off + i * 12 + 8, none⟩ = some (.int .i64 x.b.prod) ∧ w.cell? ⟨b, off + i * 12 + 9, none⟩ = some (.int .i64 x.b.epoch) ∧ w.cell? ⟨b, off + i * 12 + 10, none⟩ = some (.int .i64 x.b.seq) ∧ w.cell? ⟨b, off + i * 12 + 11, none⟩ = some (.slice x.q x.l.length x.cap) := by
 subst hx
 obtain ⟨F, hF, _⟩ := h.get
 obtain ⟨q2, cap2, hv, hr⟩ := (bats_flat hk _ _ hF).at
 obtain ⟨b2, off2, hq, hc⟩ := hr (by omega)
 rw [hq] at hv
 simp at hv
 obtain ⟨⟨rfl, rfl⟩, _, _⟩ := hv
 obtain ⟨cs, _, hR, hcs⟩ := hc i hi
 unfold RBat at hR
 subst hR
 refine ⟨?_, ?_, ?_, ?_, ?_, ?_, ?_, ?_, ?_, ?_, ?_, ?_⟩
 · exact hcs 0 _ rfl
 · rw [Nat.add_assoc]; exact hcs 1 _ rfl
 · rw [Nat.add_assoc]; exact hcs 2 _ rfl
 · rw [Nat.add_assoc]; exact hcs 3 _ rfl
 · rw [Nat.add_assoc]; exact hcs 4 _ rfl
 · rw [Nat.add_assoc]; exact hcs 5 _ rfl
 · rw [Nat.add_assoc]; exact hcs 6 _ rfl
 · rw [Nat.add_assoc]; exact hcs 7 _ rfl
 · rw [Nat.add_assoc]; exact hcs 8 _ rfl
 · rw [Nat.add_assoc]; exact hcs 9 _ rfl
 · rw [Nat.add_assoc]; exact hcs 10 _ rfl
 · rw [Nat.add_assoc]; exact hcs 11 _ rfl
def errB : List BatR → Int
  | [] => 0
  | x :: t => if batErr x.b = 0 then errB t else batErr x.b
def encB (l : List BatR) : Bs := l.flatMap fun x => x.b.enc
theorem encB_append (l m : List BatR) : encB (l ++ m) = encB l ++ encB m := List.flatMap_append
theorem encB_one (x : BatR) : encB [x] = x.b.enc := by unfold encB; rw [List.flatMap_cons, List.flatMap_nil, List.append_nil]
theorem encB_cons (x : BatR) (t : List BatR) : encB (x :: t) = x.b.enc ++ encB t := rfl
theorem encB_split (l : List BatR) (k : Nat) : encB l = encB (l.take k) ++ encB (l.drop k) := by rw [← encB_append, List.take_append_drop]
theorem encB_take (l : List BatR) (k : Nat) (h : k < l.length) : encB (l.take (k + 1)) = encB (l.take k) ++ l[k].b.enc := by
 rw [List.take_succ_eq_append_getElem h, encB_append, encB_one]
theorem errB_append (l m : List BatR) (h : errB l = 0) : errB (l ++ m) = errB m := by
 induction l with
 | nil => rfl
 | cons x t ih =>
  have hx : (if batErr x.b = 0 then errB t else batErr x.b) = 0 := h
  show (if batErr x.b = 0 then errB (t ++ m) else batErr x.b) = _
  by_cases h1 : batErr x.b = 0
  · rw [if_pos h1] at hx ⊢; exact ih hx
  · rw [if_neg h1] at hx; exact absurd hx h1
theorem errB_step (l : List BatR) (k : Nat) (h : k < l.length) (h0 : errB (l.take k) = 0) : errB (l.take (k + 1)) = batErr l[k].b := by
 rw [List.take_succ_eq_append_getElem h, errB_append _ _ h0]
 show (if batErr l[k].b = 0 then 0 else batErr l[k].b) = _
 by_cases h1 : batErr l[k].b = 0
 · rw [if_pos h1, h1]
 · rw [if_neg h1]
theorem errB_mem : ∀ (l : List BatR), errB l = 0 → ∀ x ∈ l, batErr x.b = 0
  | [], _, _, h => by cases h
  | y :: t, hh, x, hx => by
    have hh : (if batErr y.b = 0 then errB t else batErr y.b) = 0 := hh
    by_cases h1 : batErr y.b = 0
    · rw [if_pos h1] at hh
      rcases List.mem_cons.1 hx with rfl | hx
      · exact h1
      · exact errB_mem t hh x hx
    · rw [if_neg h1] at hh; exact absurd hh h1
theorem BatR.small {x : BatR} (hf : x.Fit) (hs : smallB (x.l.map (·.1)) = true) (he : batErr x.b = 0) : SmallOk x.b := SmallOk.of hf.2.2.symm hf.2.1 hs he hf.1
theorem encR_small2 (x : RecS) (hx : x.R) (hs : smallRec x = true) : (encR x).length ≤ 1100 := by
 unfold smallRec at hs
 simp only [Bool.and_eq_true, decide_eq_true_eq] at hs
 obtain ⟨s1, s2, s3⟩ := hs
 have hm := hAll_sum _ s3
 have h0 := hsum_le x.hdrs
 have h1 := encI_le x.time hx.1
 have h2 := encI_le x.off hx.2
 have h3 := encV_le x.key (by omega)
 have h4 := encV_le x.val (by omega)
 have h5 := encHs_le x.hdrs (by omega)
 have h8 := encI_le x.hdrs.length (by omega)
 have h6 : (recF x).length ≤ 1060 := by
  unfold recF encHs
  simp only [List.length_append, List.length_cons, List.length_nil]
  omega
 have h7 := encV_le ⟨false, recF x⟩ (by simp only; omega)
 simp only at h7
 unfold encR
 omega
theorem BatR.elen {x : BatR} (hf : x.Fit) (hs : smallB (x.l.map (·.1)) = true) : x.b.enc.length ≤ 14000 := by
 rw [x.b.enc_len]
 unfold smallB at hs
 simp only [Bool.and_eq_true, decide_eq_true_eq] at hs
 rw [hf.2.2] at hs
 have h1 := rows_small x.b.recs 1100 (fun y hy => encR_small2 y (by
  have hy2 : y ∈ x.l.map (·.1) := hf.2.2 ▸ hy
  obtain ⟨z, hz, rfl⟩ := List.mem_map.1 hy2
  exact (hf.2.1 z hz).1) (rAll_mem _ hs.2 y hy))
 unfold BatS.rowsB
 omega
theorem encB_le2 : ∀ (l : List BatR), (∀ x ∈ l, x.Fit) → (∀ x ∈ l, smallB (x.l.map (·.1)) = true) → (encB l).length ≤ 14000 * l.length
  | [], _, _ => by simp [encB]
  | x :: t, hf, hs => by
    have h1 := encB_le2 t (fun y hy => hf y (by simp [hy])) (fun y hy => hs y (by simp [hy]))
    have h2 := BatR.elen (hf x (by simp)) (hs x (by simp))
    have e : encB (x :: t) = x.b.enc ++ encB t := rfl
    rw [e, List.length_append, List.length_cons]
    omega
end Go.Proofs.YtngojlinfdokpaaGreat

/- A text. -/
namespace Go.Proofs.YtngojlinfdokpaaGreat
open Go.RowKit

end Go.Proofs.YtngojlinfdokpaaGreat

/- A text. -/
namespace Go.Proofs.YtngojlinfdokpaaGreat
open Go.RowKit

end Go.Proofs.YtngojlinfdokpaaGreat

/- A text. -/
namespace Go.Proofs.YtngojlinfdokpaaGreat
open Go.RowKit

end Go.Proofs.YtngojlinfdokpaaGreat

/- A text. -/
namespace Go.Proofs.YtngojlinfdokpaaGreat
open Go.RowKit

end Go.Proofs.YtngojlinfdokpaaGreat

/- A text. -/
namespace Go.Proofs.YtngojlinfdokpaaGreat
open Go.RowKit

end Go.Proofs.YtngojlinfdokpaaGreat

/- A text. -/
namespace Go.Proofs.YtngojlinfdokpaaGreat
open Go.RowKit

theorem recs_nilK (K : Know) : K.has (Know.recs (.slice none 0 0) []) := fun _ _ _ => ⟨⟨none, 0, rfl, fun h => absurd h (by decide)⟩, fun x h => by cases h⟩
end Go.Proofs.YtngojlinfdokpaaGreat

/- A text. -/
namespace Go.Proofs.YtngojlinfdokpaaGreat
open Go.RowKit

theorem map_ne_of_get (l m : List (RecS × Value)) (k : Nat) (h1 : k < l.length) (h2 : k < m.length) (x y : RecS) (hx : l[k].1 = x) (hy : m[k].1 = y) (h : x ≠ y) : l.map (·.1) ≠ m.map (·.1) := by
 intro hh
 have e1 : (l.map (·.1))[k]? = (m.map (·.1))[k]? := by rw [hh]
 rw [List.getElem?_map, List.getElem?_map, List.getElem?_eq_getElem h1, List.getElem?_eq_getElem h2] at e1
 simp at e1
 exact h (hx ▸ hy ▸ e1)
end Go.Proofs.YtngojlinfdokpaaGreat

/- A text. -/
namespace Go.Proofs.YtngojlinfdokpaaGreat
open Go.RowKit

set_option maxHeartbeats 4000000 in
set_option maxRecDepth 100000 in
theorem ref11_sameT0 (base : Int) (leader : Int) (app : Bool) (txn : Bool) (ctl : Bool) (last : Int) (first : Int) (maxt : Int) (prod : Int) (epoch : Int) (seq : Int) (l1 l2 : List (RecS × Value)) (q1 q2 : Option Addr) (cap1 cap2 : Nat) (hn : l1.length ≤ 1000000) (hr : l1.map (·.1) = l2.map (·.1)) (hf1 : ∀ x ∈ l1, x.1.hdrs.length ≤ 9223372036854775807) (hf2 : ∀ x ∈ l2, x.1.hdrs.length ≤ 9223372036854775807) {W0 w : World} {K : Know} {L : List Res} (hk1 : K.has (Know.recs (.slice q1 l1.length cap1) l1)) (hk2 : K.has (Know.recs (.slice q2 l2.length cap2) l2)) (h : St W0 w K L) :
  Calls Tryz.prog 19 #[.agg #[.int .i64 base, .int .i64 leader, .bool app, .bool txn, .bool ctl, .int .i64 last, .int .i64 first, .int .i64 maxt, .int .i64 prod, .int .i64 epoch, .int .i64 seq, .slice q1 l1.length cap1], .agg #[.int .i64 base, .int .i64 leader, .bool app, .bool txn, .bool ctl, .int .i64 last, .int .i64 first, .int .i64 maxt, .int .i64 prod, .int .i64 epoch, .int .i64 seq, .slice q2 l2.length cap2]] w fun en w' => en = .returned (.bool true) ∧ St W0 w' K L := by
 obtain ⟨hb, hhb⟩ : ∃ b, w.heap.size = b := ⟨_, rfl⟩
 have h1 := (h.allocRaw #[.int .i64 base, .int .i64 leader, .bool app, .bool txn, .bool ctl, .int .i64 last, .int .i64 first, .int .i64 maxt, .int .i64 prod, .int .i64 epoch, .int .i64 seq, .slice q1 l1.length cap1] 43).allocRaw #[.int .i64 base, .int .i64 leader, .bool app, .bool txn, .bool ctl, .int .i64 last, .int .i64 first, .int .i64 maxt, .int .i64 prod, .int .i64 epoch, .int .i64 seq, .slice q2 l2.length cap2] 43
 rw [World.size_alloc, hhb] at h1
 obtain ⟨hc, hhc⟩ : ∃ b, hb + 1 = b := ⟨_, rfl⟩
 rw [hhc] at h1
 obtain ⟨b0, b1, b2, b3, b4, b5, b6, b7, b8, b9, b10, b11, fb0, fb1, fb2, fb3, fb4, fb5, fb6, fb7, fb8, fb9, fb10, fb11⟩ := raw12 (b := hc) h1
 obtain ⟨a0, a1, a2, a3, a4, a5, a6, a7, a8, a9, a10, a11, fa0, fa1, fa2, fa3, fa4, fa5, fa6, fa7, fa8, fa9, fa10, fa11⟩ := raw12 (b := hb) h1.p1
 have H := Lib.hid h1
 have HK1 := Lib.hid hk1
 have HK2 := Lib.hid hk2
 have hni : (l1.length : Int) ≤ 1000000 := by omega
 have HF1 := Lib.hid hf1
 have HF2 := Lib.hid hf2
 have hlen : l1.length = l2.length := by have := congrArg List.length hr; simpa using this
 have HLEN := Lib.hid hlen
 have HR := Lib.hid hr
 have g1 : ((l1.length : Int) == (l2.length : Int)) = true := by rw [hlen]; exact beq_self_eq_true _
 have g2 : ((l1.length : Int) != (l2.length : Int)) = false := by simp [bne, g1]
 have g3 : (l2.length : Int) = (l1.length : Int) := by omega
 clear h h1 hk1 hk2 hf1 hf2 hr hlen fa0 fb0 fa1 fb1 fa2 fb2 fa3 fb3 fa4 fb4 fa5 fb5 fa6 fb6 fa7 fb7 fa8 fb8 fa9 fb9 fa10 fb10 fa11 fb11
 go_enter Tryz.func19, Tryz.ntmps19
 go_wp2
 clear g1 g2 g3
 clear a0 b0 a1 b1 a2 b2 a3 b3 a4 b4 a5 b5 a6 b6 a7 b7 a8 b8 a9 b9 a10 b10 a11 b11
 go_loopw [5] (fun iv wr => ∃ k : Nat, k ≤ l1.length ∧ iv = .int .i64 k ∧ St W0 wr K (.raw hc #[.int .i64 base, .int .i64 leader, .bool app, .bool txn, .bool ctl, .int .i64 last, .int .i64 first, .int .i64 maxt, .int .i64 prod, .int .i64 epoch, .int .i64 seq, .slice q2 l2.length cap2] 43 :: .raw hb #[.int .i64 base, .int .i64 leader, .bool app, .bool txn, .bool ctl, .int .i64 last, .int .i64 first, .int .i64 maxt, .int .i64 prod, .int .i64 epoch, .int .i64 seq, .slice q1 l1.length cap1] 43 :: L)) (fun iv _ => l1.length - (intOf iv).toNat)
 case atStart => exact ⟨0, Nat.zero_le _, rfl, H.out⟩
 case round =>
  obtain ⟨k, hkl, rfl, hst⟩ := hrel
  clear H
  have H := Lib.hid hst
  clear hst
  have b11 : wr.cell? ⟨hc, 11, none⟩ = some (.slice q2 l2.length cap2) := H.out.rawCell 11
  have a11 : wr.cell? ⟨hb, 11, none⟩ = some (.slice q1 l1.length cap1) := H.out.p1.rawCell 11
  by_cases hlt : k < l1.length
  · have hlt2 : k < l2.length := by have := HLEN.out; omega
    obtain ⟨b1', off1, hqq1⟩ := recs_at HK1.out H.out (by omega)
    subst hqq1
    obtain ⟨⟨x1, v1⟩, hx1⟩ : ∃ x, l1[k] = x := ⟨_, rfl⟩
    have cc1 := recs_cell HK1.out H.out k (by omega) (x1, v1) hx1
    have hmem1 : (x1, v1) ∈ l1 := hx1 ▸ List.getElem_mem _
    have XF1 := Lib.hid (show x1.hdrs.length ≤ 9223372036854775807 from HF1.out (x1, v1) hmem1)
    have XK1 := Lib.hid (show K.has (Know.flat RHdr v1 3 x1.hdrs) from recs_hdrs HK1.out hmem1)
    simp only at cc1
    obtain ⟨c10, c11, c12, c13, c14, c15, c16⟩ := cc1
    rw [← Nat.add_assoc] at c11 c12 c13 c14 c15 c16
    have HX1 := Lib.hid (show l1[k].1 = x1 by rw [hx1])
    have HXX1 := Lib.hid hx1
    clear hmem1 hx1
    obtain ⟨b2', off2, hqq2⟩ := recs_at HK2.out H.out (by omega)
    subst hqq2
    obtain ⟨⟨x2, v2⟩, hx2⟩ : ∃ x, l2[k] = x := ⟨_, rfl⟩
    have cc2 := recs_cell HK2.out H.out k (by omega) (x2, v2) hx2
    have hmem2 : (x2, v2) ∈ l2 := hx2 ▸ List.getElem_mem _
    have XF2 := Lib.hid (show x2.hdrs.length ≤ 9223372036854775807 from HF2.out (x2, v2) hmem2)
    have XK2 := Lib.hid (show K.has (Know.flat RHdr v2 3 x2.hdrs) from recs_hdrs HK2.out hmem2)
    simp only at cc2
    obtain ⟨c20, c21, c22, c23, c24, c25, c26⟩ := cc2
    rw [← Nat.add_assoc] at c21 c22 c23 c24 c25 c26
    have HX2 := Lib.hid (show l2[k].1 = x2 by rw [hx2])
    have HXX2 := Lib.hid hx2
    clear hmem2 hx2
    have hki : (k : Int) < (l1.length : Int) := by omega
    have hki2 : (k : Int) < (l2.length : Int) := by omega
    have hk0 : (0 : Int) ≤ (k : Int) := Int.natCast_nonneg _
    have E1 := Lib.hid (show decide (x1 = x2) = true from decide_eq_true (Decidable.byContradiction fun hne => map_ne_of_get l1 l2 k hlt hlt2 x1 x2 HX1.out HX2.out hne HR.out))
    have hkeep : ∀ w', St W0 w' K (.raw hc #[.int .i64 base, .int .i64 leader, .bool app, .bool txn, .bool ctl, .int .i64 last, .int .i64 first, .int .i64 maxt, .int .i64 prod, .int .i64 epoch, .int .i64 seq, .slice (some ⟨b2', off2, none⟩) l2.length cap2] 43 :: .raw hb #[.int .i64 base, .int .i64 leader, .bool app, .bool txn, .bool ctl, .int .i64 last, .int .i64 first, .int .i64 maxt, .int .i64 prod, .int .i64 epoch, .int .i64 seq, .slice (some ⟨b1', off1, none⟩) l1.length cap1] 43 :: L) → ((w'.cell? ⟨hb, 11, none⟩ = some (.slice (some ⟨b1', off1, none⟩) l1.length cap1)) ∧ (w'.cell? ⟨hc, 11, none⟩ = some (.slice (some ⟨b2', off2, none⟩) l2.length cap2)) ∧ (w'.cell? ⟨b1', off1 + k * 7, none⟩ = some (.int .i64 x1.time) ∧ w'.cell? ⟨b1', off1 + k * 7 + 1, none⟩ = some (.int .i64 x1.off) ∧ w'.cell? ⟨b1', off1 + k * 7 + 2, none⟩ = some (.bool x1.key.null) ∧ w'.cell? ⟨b1', off1 + k * 7 + 3, none⟩ = some (.string (bb x1.key.data)) ∧ w'.cell? ⟨b1', off1 + k * 7 + 4, none⟩ = some (.bool x1.val.null) ∧ w'.cell? ⟨b1', off1 + k * 7 + 5, none⟩ = some (.string (bb x1.val.data)) ∧ w'.cell? ⟨b1', off1 + k * 7 + 6, none⟩ = some (v1)) ∧ (w'.cell? ⟨b2', off2 + k * 7, none⟩ = some (.int .i64 x2.time) ∧ w'.cell? ⟨b2', off2 + k * 7 + 1, none⟩ = some (.int .i64 x2.off) ∧ w'.cell? ⟨b2', off2 + k * 7 + 2, none⟩ = some (.bool x2.key.null) ∧ w'.cell? ⟨b2', off2 + k * 7 + 3, none⟩ = some (.string (bb x2.key.data)) ∧ w'.cell? ⟨b2', off2 + k * 7 + 4, none⟩ = some (.bool x2.val.null) ∧ w'.cell? ⟨b2', off2 + k * 7 + 5, none⟩ = some (.string (bb x2.val.data)) ∧ w'.cell? ⟨b2', off2 + k * 7 + 6, none⟩ = some (v2))) := fun w' hs => by
      have r1 := recs_cell HK1.out hs k hlt (x1, v1) HXX1.out
      have r2 := recs_cell HK2.out hs k hlt2 (x2, v2) HXX2.out
      simp only [← Nat.add_assoc] at r1 r2
      exact ⟨hs.p1.rawCell 11, hs.rawCell 11, r1, r2⟩
    have HKP := Lib.hid hkeep
    clear hkeep HX1 HX2 HXX1 HXX2
    clear hlt2
    go_upto_region 6 with (fail)
    have hs := H.out.drew
    refine wp_region_held_drew (S := fun w' => (w'.cell? ⟨hb, 11, none⟩ = some (.slice (some ⟨b1', off1, none⟩) l1.length cap1)) ∧ (w'.cell? ⟨hc, 11, none⟩ = some (.slice (some ⟨b2', off2, none⟩) l2.length cap2)) ∧ (w'.cell? ⟨b1', off1 + k * 7, none⟩ = some (.int .i64 x1.time) ∧ w'.cell? ⟨b1', off1 + k * 7 + 1, none⟩ = some (.int .i64 x1.off) ∧ w'.cell? ⟨b1', off1 + k * 7 + 2, none⟩ = some (.bool x1.key.null) ∧ w'.cell? ⟨b1', off1 + k * 7 + 3, none⟩ = some (.string (bb x1.key.data)) ∧ w'.cell? ⟨b1', off1 + k * 7 + 4, none⟩ = some (.bool x1.val.null) ∧ w'.cell? ⟨b1', off1 + k * 7 + 5, none⟩ = some (.string (bb x1.val.data)) ∧ w'.cell? ⟨b1', off1 + k * 7 + 6, none⟩ = some (v1)) ∧ (w'.cell? ⟨b2', off2 + k * 7, none⟩ = some (.int .i64 x2.time) ∧ w'.cell? ⟨b2', off2 + k * 7 + 1, none⟩ = some (.int .i64 x2.off) ∧ w'.cell? ⟨b2', off2 + k * 7 + 2, none⟩ = some (.bool x2.key.null) ∧ w'.cell? ⟨b2', off2 + k * 7 + 3, none⟩ = some (.string (bb x2.key.data)) ∧ w'.cell? ⟨b2', off2 + k * 7 + 4, none⟩ = some (.bool x2.val.null) ∧ w'.cell? ⟨b2', off2 + k * 7 + 5, none⟩ = some (.string (bb x2.val.data)) ∧ w'.cell? ⟨b2', off2 + k * 7 + 6, none⟩ = some (v2))) (by kernel_rfl) (HKP.out _ hs) (fun hHeld => ?_)
    refine wpAnyH_take (i := 0) (oi := ⟨some 97, .fieldAddr 43 (.tmp 2) 11, 0, "ref.go:180", #[], none⟩) (v := ?_) rfl (by kernel_rfl) (by kernel_rfl) (by kernel_rfl) (fun _ _ _ h => h) (Or.inl ⟨by rfl, ?_⟩) (by assumption) ?_
    rotate_left
    · intro w hSw; (try dsimp only at hSw); go_simp; try with_reducible rfl
    simp only [Act.put, sA, sB, sC]
    refine wpAnyH_take (i := 1) (oi := ⟨some 98, .load 41 (.tmp 97), 41, "ref.go:180", #[.mk 0 .data], none⟩) (v := ?_) rfl (by kernel_rfl) (by kernel_rfl) (by kernel_rfl) (fun _ _ _ h => h) (Or.inl ⟨by rfl, ?_⟩) (by assumption) ?_
    rotate_left
    · intro w hSw; (try dsimp only at hSw); go_simp; try with_reducible rfl
    simp only [Act.put, sA, sB, sC]
    refine wpAnyH_take (i := 2) (oi := ⟨some 99, .move (.tmp 5), 3, "ref.go:180", #[], none⟩) (v := ?_) rfl (by kernel_rfl) (by kernel_rfl) (by kernel_rfl) (fun _ _ _ h => h) (Or.inl ⟨by rfl, ?_⟩) (by assumption) ?_
    rotate_left
    · intro w hSw; (try dsimp only at hSw); go_simp; try with_reducible rfl
    simp only [Act.put, sA, sB, sC]
    refine wpAnyH_take (i := 3) (oi := ⟨some 100, .indexAddr 41 (.tmp 98) (.tmp 99), 0, "ref.go:180", #[.mk 1 .data, .mk 2 .data], none⟩) (v := ?_) rfl (by kernel_rfl) (by kernel_rfl) (by kernel_rfl) (fun _ _ _ h => h) (Or.inl ⟨by rfl, ?_⟩) (by assumption) ?_
    rotate_left
    · intro w hSw; (try dsimp only at hSw); go_simp; try with_reducible rfl
    simp only [Act.put, sA, sB, sC]
    refine wpAnyH_take (i := 4) (oi := ⟨some 101, .load 65 (.tmp 100), 65, "ref.go:180", #[.mk 3 .data], none⟩) (v := ?_) rfl (by kernel_rfl) (by kernel_rfl) (by kernel_rfl) (fun _ _ _ h => h) (Or.inl ⟨by rfl, ?_⟩) (by assumption) ?_
    rotate_left
    · intro w hSw; (try dsimp only at hSw); go_simp; try with_reducible rfl
    simp only [Act.put, sA, sB, sC]
    refine wpAnyH_take (i := 5) (oi := ⟨some 102, .fieldAddr 43 (.tmp 3) 11, 0, "ref.go:180", #[], none⟩) (v := ?_) rfl (by kernel_rfl) (by kernel_rfl) (by kernel_rfl) (fun _ _ _ h => h) (Or.inl ⟨by rfl, ?_⟩) (by assumption) ?_
    rotate_left
    · intro w hSw; (try dsimp only at hSw); go_simp; try with_reducible rfl
    simp only [Act.put, sA, sB, sC]
    refine wpAnyH_take (i := 6) (oi := ⟨some 103, .load 41 (.tmp 102), 41, "ref.go:180", #[.mk 5 .data], none⟩) (v := ?_) rfl (by kernel_rfl) (by kernel_rfl) (by kernel_rfl) (fun _ _ _ h => h) (Or.inl ⟨by rfl, ?_⟩) (by assumption) ?_
    rotate_left
    · intro w hSw; (try dsimp only at hSw); go_simp; try with_reducible rfl
    simp only [Act.put, sA, sB, sC]
    refine wpAnyH_take (i := 7) (oi := ⟨some 104, .move (.tmp 5), 3, "ref.go:180", #[], none⟩) (v := ?_) rfl (by kernel_rfl) (by kernel_rfl) (by kernel_rfl) (fun _ _ _ h => h) (Or.inl ⟨by rfl, ?_⟩) (by assumption) ?_
    rotate_left
    · intro w hSw; (try dsimp only at hSw); go_simp; try with_reducible rfl
    simp only [Act.put, sA, sB, sC]
    refine wpAnyH_take (i := 8) (oi := ⟨some 105, .indexAddr 41 (.tmp 103) (.tmp 104), 0, "ref.go:180", #[.mk 6 .data, .mk 7 .data], none⟩) (v := ?_) rfl (by kernel_rfl) (by kernel_rfl) (by kernel_rfl) (fun _ _ _ h => h) (Or.inl ⟨by rfl, ?_⟩) (by assumption) ?_
    rotate_left
    · intro w hSw; (try dsimp only at hSw); go_simp; try with_reducible rfl
    simp only [Act.put, sA, sB, sC]
    refine wpAnyH_take (i := 9) (oi := ⟨some 106, .load 65 (.tmp 105), 65, "ref.go:180", #[.mk 8 .data], none⟩) (v := ?_) rfl (by kernel_rfl) (by kernel_rfl) (by kernel_rfl) (fun _ _ _ h => h) (Or.inl ⟨by rfl, ?_⟩) (by assumption) ?_
    rotate_left
    · intro w hSw; (try dsimp only at hSw); go_simp; try with_reducible rfl
    simp only [Act.put, sA, sB, sC]
    refine wpAnyH_ready (rs := [10]) (by kernel_rfl) (by simp) (AllReadyH.cons (o := ⟨some 107, .call { callee := .value (.func 39), args := #[.tmp 101, .tmp 106], argTypes := #[65, 65] }, 4, "ref.go:180", #[.mk 4 .data, .mk 9 .data], none⟩) rfl (fun KK hK => ?_) AllReadyH.nil)
    · go_simp
      go_at_call 39
      with_reducible refine (ref07_sameV x1 x2 v1 v2 true E1.out XF1.out XF2.out XK1.out XK2.out hs).mono ?_
      rintro e wq ⟨rfl, hs⟩
      refine hK.out _ _ (HKP.out _ hs) (fun hHeld => ?_)
      clear hK KK
      try simp only [Act.put, sA, sB, sC]
      refine wpAnyH_take (i := 11) (oi := ⟨some 108, .unOp UnOp.not 4 (.tmp 107), 4, "ref.go:180", #[.mk 10 .data], none⟩) (v := ?_) rfl (by kernel_rfl) (by kernel_rfl) (by kernel_rfl) (fun _ _ _ h => h) (Or.inl ⟨by rfl, ?_⟩) (by assumption) ?_
      rotate_left
      · intro w hSw; (try dsimp only at hSw); go_simp; try with_reducible rfl
      simp only [Act.put, sA, sB, sC]
      refine wpAnyH_done (by kernel_rfl) ?_ _
      go_wp2_with fail
      go_roundw
      case rel => exact ⟨k + 1, hlt, by go_num, hs⟩
      case measure => first | (simp [intOf]; done) | (simp [intOf]; omega)
  · obtain rfl : k = l1.length := by omega
    go_wp2
    go_ret
    exact ⟨rfl, H.out.drop.drop⟩
theorem ref11_sameT (x : BatS) (l1 l2 : List (RecS × Value)) (q1 q2 : Option Addr) (cap1 cap2 : Nat) (hn : l1.length ≤ 1000000) (hx : l1.map (·.1) = x.recs) (hy : l2.map (·.1) = x.recs) (hf1 : ∀ x ∈ l1, x.1.hdrs.length ≤ 9223372036854775807) (hf2 : ∀ x ∈ l2, x.1.hdrs.length ≤ 9223372036854775807) {W0 w : World} {K : Know} {L : List Res} (hk1 : K.has (Know.recs (.slice q1 l1.length cap1) l1)) (hk2 : K.has (Know.recs (.slice q2 l2.length cap2) l2)) (h : St W0 w K L) :
  Calls Tryz.prog 19 #[.agg #[.int .i64 x.base, .int .i64 x.leader, .bool x.app, .bool x.txn, .bool x.ctl, .int .i64 x.last, .int .i64 x.first, .int .i64 x.maxt, .int .i64 x.prod, .int .i64 x.epoch, .int .i64 x.seq, .slice q1 l1.length cap1], .agg #[.int .i64 x.base, .int .i64 x.leader, .bool x.app, .bool x.txn, .bool x.ctl, .int .i64 x.last, .int .i64 x.first, .int .i64 x.maxt, .int .i64 x.prod, .int .i64 x.epoch, .int .i64 x.seq, .slice q2 l2.length cap2]] w fun en w' => en = .returned (.bool true) ∧ St W0 w' K L :=
 ref11_sameT0 x.base x.leader x.app x.txn x.ctl x.last x.first x.maxt x.prod x.epoch x.seq l1 l2 q1 q2 cap1 cap2 hn (hx.trans hy.symm) hf1 hf2 hk1 hk2 h

end Go.Proofs.YtngojlinfdokpaaGreat

/- A text. -/
namespace Go.Proofs.YtngojlinfdokpaaGreat
open Go.RowKit

end Go.Proofs.YtngojlinfdokpaaGreat

/- A text. -/
namespace Go.Proofs.YtngojlinfdokpaaGreat
open Go.RowKit

def pw (n : Nat) : Bool := decide (n ∈ [28, 27, 26, 25, 23, 22, 20, 19, 18, 14, 13, 11, 10, 9, 8, 6, 0])
theorem pw_cP : ∀ j, j < 32 → pw (31 - j) = cP.getLsbD j := by decide
def inner (m : List Bool) (i : Nat) : Nat → List Bool
  | 0 => m
  | k + 1 => (inner m i k).set (i + (k + 1)) ((inner m i k).getD (i + (k + 1)) false ^^ pw (31 - k))
def outer (m : List Bool) : Nat → List Bool
  | 0 => m
  | i + 1 => if (outer m i).getD i false then inner (outer m i) i 32 else outer m i
def turned : Nat → List Bool → List Bool
  | 0, m => m
  | k + 1, m => (turned k m).set k (!(turned k m).getD k false)
theorem inner_len (m : List Bool) (i k : Nat) : (inner m i k).length = m.length := by
 induction k with
 | zero => rfl
 | succ k ih => show (List.set _ _ _).length = _; rw [List.length_set, ih]
theorem outer_len (m : List Bool) (i : Nat) : (outer m i).length = m.length := by
 induction i with
 | zero => rfl
 | succ i ih =>
  show (if _ then _ else _ : List Bool).length = _
  split
  · rw [inner_len, ih]
  · exact ih
theorem turned_len (m : List Bool) (k : Nat) : (turned k m).length = m.length := by
 induction k with
 | zero => rfl
 | succ k ih => show (List.set _ _ _).length = _; rw [List.length_set, ih]
theorem getD_set (m : List Bool) (i x : Nat) (b : Bool) (h : i < m.length) : (m.set i b).getD x false = if x = i then b else m.getD x false := by
 rw [List.getD_eq_getElem?_getD, List.getD_eq_getElem?_getD, List.getElem?_set]
 by_cases hx : i = x
 · subst hx; simp [h]
 · have hx2 : ¬ x = i := fun e => hx e.symm
   simp [hx, hx2]
theorem turned_get (m : List Bool) (k : Nat) (h : k ≤ m.length) (x : Nat) : (turned k m).getD x false = if x < k then !m.getD x false else m.getD x false := by
 induction k with
 | zero => simp [turned]
 | succ k ih =>
  have ih := ih (by omega)
  show ((turned k m).set k (!(turned k m).getD k false)).getD x false = _
  rw [getD_set _ _ _ _ (by rw [turned_len]; omega)]
  by_cases hx : x = k
  · subst hx
    rw [if_pos rfl, ih, if_neg (by omega), if_pos (by omega)]
  · rw [if_neg hx, ih]
    by_cases h2 : x < k
    · rw [if_pos h2, if_pos (by omega)]
    · rw [if_neg h2, if_neg (by omega)]
theorem inner_get (m : List Bool) (i k : Nat) (h : i + k < m.length) (x : Nat) : (inner m i k).getD x false = if i < x ∧ x ≤ i + k then (m.getD x false ^^ pw (32 - (x - i))) else m.getD x false := by
 induction k generalizing x with
 | zero =>
  show m.getD x false = _
  rw [if_neg (by omega)]
 | succ k ih =>
  have ih := fun x => ih (by omega) x
  show ((inner m i k).set (i + (k + 1)) ((inner m i k).getD (i + (k + 1)) false ^^ pw (31 - k))).getD x false = _
  rw [getD_set _ _ _ _ (by rw [inner_len]; omega)]
  by_cases hx : x = i + (k + 1)
  · subst hx
    rw [if_pos rfl, ih, if_neg (by omega), if_pos (by omega), show 32 - (i + (k + 1) - i) = 31 - k by omega]
  · rw [if_neg hx, ih]
    by_cases h2 : i < x ∧ x ≤ i + k
    · rw [if_pos h2, if_pos (by omega)]
    · rw [if_neg h2, if_neg (by omega)]
theorem b2w_bit (b : Bool) (j : Nat) : (b2w b).getLsbD j = (decide (j = 0) && b) := by
 cases b
 · simp [b2w]
 · cases j with
   | zero => rfl
   | succ j => simp [b2w]
theorem step_bit (r : W32) (j : Nat) (hj : j < 32) : (step r).getLsbD j = (r.getLsbD (j + 1) ^^ (r.getLsbD 0 && pw (31 - j))) := by
 unfold step
 rw [BitVec.getLsbD_xor, BitVec.getLsbD_ushiftRight, Nat.add_comm 1 j, pw_cP j hj]
 cases r.getLsbD 0 <;> simp
theorem outer_feed (b : List Bool) (r : W32) (m : List Bool) (hm : m.length = b.length + 32) (h0 : ∀ x, m.getD x false = if x < 32 then (r.getLsbD x ^^ b.getD x false) else b.getD x false) :
  ∀ i, i ≤ b.length → ∀ x, i ≤ x → (outer m i).getD x false = if x < i + 32 then ((feed r (b.take i)).getLsbD (x - i) ^^ b.getD x false) else b.getD x false := by
 intro i
 induction i with
 | zero =>
  intro _ x _
  show m.getD x false = _
  rw [h0 x, Nat.zero_add, Nat.sub_zero, List.take_zero]
  rfl
 | succ i ih =>
  intro hi x hx
  have ih := ih (by omega)
  have hb : i < b.length := by omega
  have hf : feed r (b.take (i + 1)) = step (feed r (b.take i) ^^^ b2w b[i]) := by
    rw [List.take_succ_eq_append_getElem hb, feed_append]
    rfl
  have hbi : b.getD i false = b[i] := by rw [List.getD_eq_getElem?_getD, List.getElem?_eq_getElem hb]; rfl
  have hi0 := ih i (Nat.le_refl _)
  rw [if_pos (by omega), Nat.sub_self, hbi] at hi0
  have hx0 := ih x (by omega)
  have hq : (outer m (i + 1)).getD x false = ((outer m i).getD x false ^^ ((outer m i).getD i false && (decide (x ≤ i + 32) && pw (32 - (x - i))))) := by
    show (if (outer m i).getD i false then inner (outer m i) i 32 else outer m i).getD x false = _
    cases hc : (outer m i).getD i false with
    | false => simp
    | true =>
      rw [if_pos rfl, inner_get _ _ _ (by rw [outer_len]; omega)]
      by_cases h2 : x ≤ i + 32
      · rw [if_pos ⟨by omega, h2⟩]; simp [h2]
      · rw [if_neg (by omega)]; simp [h2]
  rw [hq, hi0, hf]
  generalize feed r (b.take i) = R at hx0 ⊢
  generalize b[i] = c
  by_cases h1 : x < i + 1 + 32
  · have hj : x - (i + 1) < 32 := by omega
    rw [if_pos h1, step_bit _ _ hj, BitVec.getLsbD_xor, BitVec.getLsbD_xor, b2w_bit, b2w_bit, show x - (i + 1) + 1 = x - i by omega, show 31 - (x - (i + 1)) = 32 - (x - i) by omega]
    have e1 : decide (x ≤ i + 32) = true := decide_eq_true (by omega)
    have e2 : decide (x - i = 0) = false := decide_eq_false (by omega)
    rw [e1, e2, hx0]
    by_cases h3 : x < i + 32
    · rw [if_pos h3]
      cases R.getLsbD (x - i) <;> cases b.getD x false <;> cases R.getLsbD 0 <;> cases c <;> simp
    · rw [if_neg h3]
      have e3 : R.getLsbD (x - i) = false := BitVec.getLsbD_of_ge _ _ (by omega)
      rw [e3]
      cases b.getD x false <;> cases R.getLsbD 0 <;> cases c <;> simp
  · rw [if_neg h1, hx0, if_neg (by omega)]
    have e1 : decide (x ≤ i + 32) = false := decide_eq_false (by omega)
    rw [e1]
    simp
def readOut (f : Nat → Bool) : Nat → Nat
  | 0 => 0
  | k + 1 => readOut f k * 2 + (if f (31 - k) then 1 else 0)
def rowOf (s : Bs) : List Bool := bitsOf s ++ List.replicate 32 false
def divided (s : Bs) : List Bool := outer (turned 32 (rowOf s)) (8 * s.length)
theorem rowOf_len (s : Bs) : (rowOf s).length = 8 * s.length + 32 := by unfold rowOf; rw [List.length_append, bitsOf_length, List.length_replicate]
theorem rowOf_get (s : Bs) (x : Nat) : (rowOf s).getD x false = (bitsOf s).getD x false := by
 unfold rowOf
 rw [List.getD_eq_getElem?_getD, List.getD_eq_getElem?_getD, List.getElem?_append]
 split
 · rfl
 · next h =>
   rw [List.getElem?_eq_none (l := bitsOf s) (by omega), List.getElem?_replicate]
   split <;> rfl
theorem divided_get (s : Bs) (j : Nat) (hj : j < 32) : (divided s).getD (8 * s.length + j) false = !((crcMore 0#32 s).getLsbD j) := by
 have hl := bitsOf_length s
 have h := outer_feed (bitsOf s) (BitVec.allOnes 32) (turned 32 (rowOf s)) (by rw [turned_len, rowOf_len, hl]) (fun x => by
  rw [turned_get _ _ (by rw [rowOf_len]; omega), rowOf_get]
  by_cases hx : x < 32
  · rw [if_pos hx, if_pos hx, BitVec.getLsbD_allOnes]; simp [hx]
  · rw [if_neg hx, if_neg hx]) (8 * s.length) (by omega) (8 * s.length + j) (by omega)
 unfold divided
 rw [h, if_pos (by omega), Nat.add_sub_cancel_left, List.take_of_length_le (by omega)]
 have hz : (bitsOf s).getD (8 * s.length + j) false = false := by rw [List.getD_eq_getElem?_getD, List.getElem?_eq_none (by omega)]; rfl
 rw [hz]
 unfold crcMore
 rw [crcRaw_feed, BitVec.getLsbD_not]
 simp [hj]

theorem readOut_bits (r : W32) : ∀ k, k ≤ 32 → readOut (fun j => r.getLsbD j) k = r.toNat / 2 ^ (32 - k)
  | 0, _ => by
    show 0 = _
    rw [Nat.sub_zero, Nat.div_eq_of_lt r.isLt]
  | k + 1, hk => by
    have ih := readOut_bits r k (by omega)
    show readOut (fun j => r.getLsbD j) k * 2 + (if r.getLsbD (31 - k) then 1 else 0) = _
    rw [ih, show 32 - k = 31 - k + 1 by omega, show 32 - (k + 1) = 31 - k by omega, Nat.pow_succ, ← Nat.div_div_eq_div_mul]
    have hb : r.getLsbD (31 - k) = decide (r.toNat / 2 ^ (31 - k) % 2 = 1) := by
      rw [BitVec.getLsbD, Nat.testBit_eq_decide_div_mod_eq]
    rw [hb]
    generalize r.toNat / 2 ^ (31 - k) = a
    by_cases h : a % 2 = 1
    · simp [h]; omega
    · simp [h]; omega
theorem readOut_ext (f g : Nat → Bool) (h : ∀ j, j < 32 → f j = g j) : ∀ k, k ≤ 32 → readOut f k = readOut g k
  | 0, _ => rfl
  | k + 1, hk => by
    show readOut f k * 2 + _ = readOut g k * 2 + _
    rw [readOut_ext f g h k (by omega), h (31 - k) (by omega)]
theorem divided_sum (s : Bs) : readOut (fun j => !(divided s).getD (8 * s.length + j) false) 32 = (crcMore 0#32 s).toNat := by
 rw [readOut_ext _ (fun j => (crcMore 0#32 s).getLsbD j) (fun j hj => by rw [divided_get s j hj]; simp) 32 (Nat.le_refl _), readOut_bits _ 32 (Nat.le_refl _)]
 simp
theorem readOut_lt (f : Nat → Bool) : ∀ k, readOut f k < 2 ^ k
  | 0 => by show 0 < 2 ^ 0; omega
  | k + 1 => by
    have := readOut_lt f k
    show readOut f k * 2 + _ < _
    rw [Nat.pow_succ]
    split <;> omega
def bitN (b : Bool) : Nat := if b then 1 else 0

def pwL : List Nat := [28, 27, 26, 25, 23, 22, 20, 19, 18, 14, 13, 11, 10, 9, 8, 6, 0]
def pwC : Array Value := #[.int .i64 28, .int .i64 27, .int .i64 26, .int .i64 25, .int .i64 23, .int .i64 22, .int .i64 20, .int .i64 19, .int .i64 18, .int .i64 14, .int .i64 13, .int .i64 11, .int .i64 10, .int .i64 9, .int .i64 8, .int .i64 6, .int .i64 0]
theorem pw_cell : ∀ k, k < 17 → pwC[k]? = some (.int .i64 ((pwL.getD k 0 : Nat) : Int))
  | 0, _ => rfl
  | 1, _ => rfl
  | 2, _ => rfl
  | 3, _ => rfl
  | 4, _ => rfl
  | 5, _ => rfl
  | 6, _ => rfl
  | 7, _ => rfl
  | 8, _ => rfl
  | 9, _ => rfl
  | 10, _ => rfl
  | 11, _ => rfl
  | 12, _ => rfl
  | 13, _ => rfl
  | 14, _ => rfl
  | 15, _ => rfl
  | 16, _ => rfl
  | k + 17, h => absurd h (by omega)
theorem pw_yes : ∀ k, k < 17 → pw (pwL.getD k 0) = true := by decide
theorem pw_no (n : Nat) (h : ∀ j, j < 17 → pwL.getD j 0 ≠ n) : pw n = false := by
 unfold pw
 rw [decide_eq_false_iff_not]
 intro hm
 have e : pwL = [28, 27, 26, 25, 23, 22, 20, 19, 18, 14, 13, 11, 10, 9, 8, 6, 0] := rfl
 rw [← e] at hm
 obtain ⟨j, hj, hg⟩ := List.getElem_of_mem hm
 exact h j hj (by rw [List.getD_eq_getElem?_getD, List.getElem?_eq_getElem hj]; exact hg)
theorem bit_div (s : Bs) (i : Nat) (hi : i < 8 * s.length) (h : i / 8 < s.length) : (s[i / 8].toNat / 2 ^ (i % 8)) % 2 = bitN ((bitsOf s).getD i false) := by
 rw [bitsOf_get]
 have e : s.getD (i / 8) 0 = s[i / 8] := by rw [List.getD_eq_getElem?_getD, List.getElem?_eq_getElem h]; rfl
 rw [e, Nat.testBit_eq_decide_div_mod_eq]
 generalize s[i / 8].toNat / 2 ^ (i % 8) = a
 unfold bitN
 by_cases h : a % 2 = 1
 · simp [h]
 · simp [h]; omega

end Go.Proofs.YtngojlinfdokpaaGreat

/- A text. -/
namespace Go.Proofs.YtngojlinfdokpaaGreat
open Go.RowKit

set_option maxHeartbeats 1000000 in
set_option maxRecDepth 100000 in
theorem ref05_power (n : Nat) (hn : n < 32) {W0 w : World} {K : Know} {L : List Res} (h : St W0 w K L) :
  Calls Tryz.prog 54 #[.int .i64 n] w fun en w' => en = .returned (.int .i64 (bitN (pw n))) ∧ St W0 w' K L := by
 have H := Lib.hid h
 clear h
 go_enter Tryz.func54, Tryz.ntmps54
 go_wp2
 have hal := H.out.allocRaw pwC 3
 obtain ⟨bP, hbP⟩ : ∃ b, w.heap.size = b := ⟨_, rfl⟩
 rw [hbP] at hal
 clear H
 have H := Lib.hid hal
 clear hal
 go_loopw [2, 4] (fun s2 iv wr => ∃ k : Nat, k ≤ 17 ∧ s2 = .int .i64 0 ∧ iv = .int .i64 k ∧ (∀ j, j < k → pwL.getD j 0 ≠ n) ∧ St W0 wr K (.raw bP pwC 3 :: L)) (fun _ iv _ => 17 - (intOf iv).toNat)
 case atStart => exact ⟨0, by omega, rfl, rfl, (fun j h => absurd h (by omega)), H.out⟩
 case round =>
  obtain ⟨k, hk, rfl, rfl, hno, hst⟩ := hrel
  clear H
  have H := Lib.hid hst
  have HNO := Lib.hid hno
  clear hst hno
  by_cases hlt : k < 17
  · have c0 := H.out.rawCell k
    rw [pw_cell k hlt] at c0
    obtain ⟨m, hm⟩ : ∃ m, pwL.getD k 0 = m := ⟨_, rfl⟩
    rw [hm] at c0
    have hki : (k : Int) < 17 := by omega
    by_cases he : m = n
    · subst he
      have HY := Lib.hid (show pw m = true by rw [← hm]; exact pw_yes k hlt)
      clear hm
      go_wp2
      go_ret
      exact ⟨by rw [HY.out]; rfl, H.out.drop⟩
    · have he2 : ((m : Int) == (n : Int)) = false := by rw [beq_eq_false_iff_ne]; omega
      have HN2 := Lib.hid (show ∀ j, j < k + 1 → pwL.getD j 0 ≠ n by
       intro j hj
       by_cases hjk : j = k
       · subst hjk; rw [hm]; exact he
       · exact HNO.out j (by omega))
      clear hm
      go_wp2
      go_roundw
      case rel => exact ⟨k + 1, hlt, rfl, by go_num, HN2.out, H.out⟩
      case measure => first | (simp [intOf]; done) | (simp [intOf]; omega)
  · have hkl : k = 17 := by omega
    subst hkl
    go_wp2
    go_ret
    exact ⟨by rw [pw_no n HNO.out]; rfl, H.out.drop⟩
set_option maxHeartbeats 1000000 in
set_option maxRecDepth 100000 in
theorem ref05_bit (s : Bs) (i : Nat) (hi : i < 8 * s.length) (hs : s.length ≤ 1000000) {W0 w : World} {K : Know} {L : List Res} (h : St W0 w K L) :
  Calls Tryz.prog 53 #[.string (bb s), .int .i64 i] w fun en w' => en = .returned (.int .i64 (bitN ((bitsOf s).getD i false))) ∧ St W0 w' K L := by
 have H := Lib.hid h
 clear h
 obtain ⟨q, hq⟩ : ∃ q, i / 8 = q := ⟨_, rfl⟩
 obtain ⟨r, hr⟩ : ∃ r, i % 8 = r := ⟨_, rfl⟩
 have t1 : (i : Int).tdiv 8 = (q : Int) := by rw [← hq]; rfl
 have t2 : (i : Int).tmod 8 = (r : Int) := by rw [← hr]; rfl
 have hqs : q < s.length := by omega
 have hr8 : r < 8 := by omega
 have HB := Lib.hid (show (s[q].toNat / 2 ^ r) % 2 = bitN ((bitsOf s).getD i false) by have := bit_div s i hi (by omega); simp only [hq, hr] at this; exact this)
 clear hq hr
 go_enter Tryz.func53, Tryz.ntmps53
 go_wp2
 go_loopw [5, 6] (fun c iv wr => ∃ k : Nat, k ≤ r ∧ c = .int .i64 ((s[q].toNat / 2 ^ k : Nat) : Int) ∧ iv = .int .i64 k ∧ St W0 wr K L) (fun _ iv _ => r - (intOf iv).toNat)
 case atStart => exact ⟨0, Nat.zero_le _, by have h8 := s[q].toNat_lt; simp; unfold wrap64; omega, rfl, H.out⟩
 case round =>
  obtain ⟨k, hk, rfl, rfl, hst⟩ := hrel
  clear H
  have H := Lib.hid hst
  clear hst
  obtain ⟨c, hc⟩ : ∃ c, s[q].toNat / 2 ^ k = c := ⟨_, rfl⟩
  have hc8 : c < 256 := by
    have h1 : s[q].toNat / 2 ^ k ≤ s[q].toNat := Nat.div_le_self _ _
    have h2 := s[q].toNat_lt
    omega
  rw [hc]
  by_cases hlt : k < r
  · have hki : (k : Int) < (r : Int) := by omega
    have HC := Lib.hid (show s[q].toNat / 2 ^ (k + 1) = c / 2 by rw [Nat.pow_succ, ← Nat.div_div_eq_div_mul, hc])
    have t3 : (c : Int).tdiv 2 = ((c / 2 : Nat) : Int) := rfl
    clear hc
    go_wp2
    go_roundw
    case rel => exact ⟨k + 1, hlt, by rw [HC.out]; rfl, by go_num, H.out⟩
    case measure => first | (simp [intOf]; done) | (simp [intOf]; omega)
  · have hkl : k = r := by omega
    subst hkl
    rw [hc] at HB
    have t3 : (c : Int).tmod 2 = ((c % 2 : Nat) : Int) := rfl
    clear hc
    go_wp2
    go_ret
    exact ⟨by rw [← HB.out]; rfl, H.out⟩

end Go.Proofs.YtngojlinfdokpaaGreat

/- A text. -/
namespace Go.Proofs.YtngojlinfdokpaaGreat
open Go.RowKit

def cellsB (l : List Bool) : Array Value := (l.map fun b => Value.int .i64 (bitN b)).toArray
theorem cellsB_get (l : List Bool) (j : Nat) (h : j < l.length) : (cellsB l)[j]? = some (.int .i64 (bitN (l.getD j false))) := by
 unfold cellsB
 rw [List.getElem?_toArray, List.getElem?_map, List.getD_eq_getElem?_getD, List.getElem?_eq_getElem h]
 rfl
theorem cellsB_set (l : List Bool) (k : Nat) (b : Bool) (x : Int) (hx : ((bitN b : Nat) : Int) = x) : (cellsB l).setIfInBounds k (.int .i64 x) = cellsB (l.set k b) := by
 subst hx
 unfold cellsB
 rw [List.setIfInBounds_toArray, List.map_set]
theorem cellsB_made (n : Nat) : madeCells #[.int .i64 0] n = cellsB (List.replicate n false) := by
 refine Array.ext_getElem? fun i => ?_
 by_cases hi : i < n
 · rw [cellsB_get _ _ (by simpa using hi), List.getD_eq_getElem?_getD, List.getElem?_replicate, if_pos hi]
   simp [madeCells, hi, Nat.mod_one, bitN]
 · rw [Array.getElem?_eq_none (by rw [size_madeCells]; first | omega | (simp; omega)), Array.getElem?_eq_none (by simp [cellsB]; omega)]
theorem ext_getD {a b : List Bool} (hl : a.length = b.length) (h : ∀ x, x < a.length → a.getD x false = b.getD x false) : a = b := by
 refine List.ext_getElem hl fun i h1 h2 => ?_
 have := h i h1
 rw [List.getD_eq_getElem?_getD, List.getD_eq_getElem?_getD, List.getElem?_eq_getElem h1, List.getElem?_eq_getElem h2] at this
 exact this
def fillB (s : Bs) (m : Nat) : Nat → List Bool
  | 0 => List.replicate m false
  | k + 1 => (fillB s m k).set k ((bitsOf s).getD k false)
theorem fillB_len (s : Bs) (m k : Nat) : (fillB s m k).length = m := by
 induction k with
 | zero => show (List.replicate _ _).length = _; rw [List.length_replicate]
 | succ k ih => show (List.set _ _ _).length = _; rw [List.length_set, ih]
theorem fillB_get (s : Bs) (m k : Nat) (h : k ≤ m) (x : Nat) : (fillB s m k).getD x false = if x < k then (bitsOf s).getD x false else false := by
 induction k with
 | zero =>
  show (List.replicate _ _).getD x false = _
  rw [List.getD_eq_getElem?_getD, List.getElem?_replicate]
  split <;> rfl
 | succ k ih =>
  have ih := ih (by omega)
  show ((fillB s m k).set k _).getD x false = _
  rw [getD_set _ _ _ _ (by rw [fillB_len]; omega)]
  by_cases hx : x = k
  · subst hx; rw [if_pos rfl, if_pos (by omega)]
  · rw [if_neg hx, ih]
    by_cases h2 : x < k
    · rw [if_pos h2, if_pos (by omega)]
    · rw [if_neg h2, if_neg (by omega)]
theorem fillB_row (s : Bs) (n : Nat) (h : 8 * s.length = n) : fillB s (n + 32) n = rowOf s := by
 refine ext_getD (by rw [fillB_len, rowOf_len, h]) fun x _ => ?_
 rw [fillB_get _ _ _ (by omega), rowOf_get]
 split
 · rfl
 · next hx =>
   rw [List.getD_eq_getElem?_getD, List.getElem?_eq_none (by rw [bitsOf_length]; omega)]
   rfl
theorem St.bitCell {W0 w : World} {K : Know} {L : List Res} {b : Nat} {l : List Bool} {T : TypeId} (h : St W0 w K (.raw b (cellsB l) T :: L)) (k : Nat) (hk : k < l.length) (c : Bool) (hc : l.getD k false = c) : w.cell? ⟨b, k, none⟩ = some (.int .i64 (bitN c)) := by
 rw [h.rawCell k, cellsB_get l k hk, hc]
theorem St.bitSet {W0 w : World} {K : Know} {L : List Res} {b : Nat} {l : List Bool} {T : TypeId} (h : St W0 w K (.raw b (cellsB l) T :: L)) (k : Nat) (c : Bool) (x : Int) (hx : ((bitN c : Nat) : Int) = x) : St W0 (w.setCell ⟨b, k, none⟩ (.int .i64 x)) K (.raw b (cellsB (l.set k c)) T :: L) := by
 rw [← cellsB_set l k c x hx]
 exact h.rawSet k _
theorem make_bits (n N : Nat) (h : n + 32 = N) (hn : N ≤ 9000000) (w : World) : (Instr.makeSlice 40 (.int .i64 (N : Int)) (.int .i64 (N : Int))).run Tryz.prog w = .ok (.slice (some ⟨w.heap.size, 0, none⟩) N N) (w.alloc (.cells (cellsB (List.replicate N false)) 3 (0, 0))) := by
 rw [← cellsB_made]
 exact run_make_row' 40 3 (.int .i64 0) 8 Tryz.underlying40 (by kernel_rfl) rfl .i64 .i64 N (by omega) (by omega) w
theorem ref05_powerQ (n : Nat) (hn : n < 32) (c : Bool) (hc : pw n = c) {W0 w : World} {K : Know} {L : List Res} (h : St W0 w K L) :
  Calls Tryz.prog 54 #[.int .i64 n] w fun en w' => en = .returned (.int .i64 (bitN c)) ∧ St W0 w' K L := by
 subst hc
 exact ref05_power n hn h
theorem ref05_bitQ (s : Bs) (i : Nat) (hi : i < 8 * s.length) (hs : s.length ≤ 1000000) (c : Bool) (hc : (bitsOf s).getD i false = c) {W0 w : World} {K : Know} {L : List Res} (h : St W0 w K L) :
  Calls Tryz.prog 53 #[.string (bb s), .int .i64 i] w fun en w' => en = .returned (.int .i64 (bitN c)) ∧ St W0 w' K L := by
 subst hc
 exact ref05_bit s i hi hs h

end Go.Proofs.YtngojlinfdokpaaGreat

/- A text. -/
namespace Go.Proofs.YtngojlinfdokpaaGreat
open Go.RowKit

set_option maxHeartbeats 1000000 in
set_option maxRecDepth 100000 in
theorem ref05_sumW (s : Bs) (hs : s.length ≤ 1000000) {W0 w : World} {K : Know} {L : List Res} (h : St W0 w K L) :
  Calls Tryz.prog 29 #[.string (bb s)] w fun en w' => en = .returned (.int .u32 (crcMore 0#32 s).toNat) ∧ St W0 w' K L := by
 have H := Lib.hid h
 clear h
 obtain ⟨n, hn⟩ : ∃ n, 8 * s.length = n := ⟨_, rfl⟩
 obtain ⟨N, hN⟩ : ∃ N, n + 32 = N := ⟨_, rfl⟩
 have e8 : (8 : Int) * (s.length : Int) = (n : Int) := by omega
 have eN : (n : Int) + 32 = (N : Int) := by omega
 have hn2 : n ≤ 8000000 := by omega
 have hmk := make_bits n N hN (by omega)
 have HN := Lib.hid hn
 have HN2 := Lib.hid hN
 have HS := Lib.hid hs
 clear hn hN hs
 go_enter Tryz.func29, Tryz.ntmps29
 go_wp2
 have hal := H.out.allocRaw (cellsB (List.replicate N false)) 3
 obtain ⟨bL, hbL⟩ : ∃ b, w.heap.size = b := ⟨_, rfl⟩
 rw [hbL] at hal ⊢
 clear H hmk hbL
 have H := Lib.hid hal
 clear hal
 go_loopw [5] (fun iv wr => ∃ k : Nat, k ≤ n ∧ iv = .int .i64 k ∧ St W0 wr K (.raw bL (cellsB (fillB s N k)) 3 :: L)) (fun iv _ => n - (intOf iv).toNat)
 case atStart => exact ⟨0, Nat.zero_le _, rfl, H.out⟩
 case round =>
  obtain ⟨k, hk, rfl, hst⟩ := hrel
  clear H
  have H := Lib.hid hst
  clear hst
  by_cases hlt : k < n
  · have hki : (k : Int) < (n : Int) := by omega
    have hkN : (k : Int) < (N : Int) := by omega
    have HI := Lib.hid (show k < 8 * s.length by rw [HN.out]; exact hlt)
    have HI2 := Lib.hid (show k < (fillB s N k).length by rw [fillB_len]; omega)
    obtain ⟨c, hc⟩ : ∃ c, (bitsOf s).getD k false = c := ⟨_, rfl⟩
    have HC := Lib.hid hc
    clear hc
    go_wp2_with (go_at_call 53; (with_reducible refine (ref05_bitQ s k HI.out HS.out c HC.out H.out).mono ?_); rintro e wn ⟨rfl, h⟩; replace H := Lib.hid h; clear h; have c0 := H.out.bitCell k HI2.out _ rfl; have f0 := H.out.rawFree k)
    go_roundw
    case rel =>
     have e : fillB s N (k + 1) = (fillB s N k).set k c := by rw [← HC.out]; rfl
     exact ⟨k + 1, hlt, by go_num, by rw [e]; exact H.out.bitSet k c _ rfl⟩
    case measure => first | (simp [intOf]; done) | (simp [intOf]; omega)
  · obtain rfl : n = k := by omega
    have h := H.out
    have e : fillB s N n = rowOf s := by have := fillB_row s n HN.out; rw [HN2.out] at this; exact this
    rw [e] at h
    have HRL := Lib.hid (show (rowOf s).length = N by rw [rowOf_len, HN.out, HN2.out])
    clear H
    have H := Lib.hid h
    clear h
    clear hlt e hk
    have hN2 : (32 : Int) ≤ (N : Int) := by omega
    go_wp2
    go_loopw [6] (fun iv wr => ∃ k : Nat, k ≤ 32 ∧ iv = .int .i64 k ∧ St W0 wr K (.raw bL (cellsB (turned k (rowOf s))) 3 :: L)) (fun iv _ => 32 - (intOf iv).toNat)
    case atStart => exact ⟨0, Nat.zero_le _, rfl, H.out⟩
    case round =>
     obtain ⟨k, hk, rfl, hst⟩ := hrel
     clear H
     have H := Lib.hid hst
     clear hst
     by_cases hlt : k < 32
     · have hki : (k : Int) < 32 := by omega
       have hkN : (k : Int) < (N : Int) := by omega
       obtain ⟨c, hc⟩ : ∃ c, (turned k (rowOf s)).getD k false = c := ⟨_, rfl⟩
       have hkl : k < (turned k (rowOf s)).length := by rw [turned_len, HRL.out]; omega
       have c0 := H.out.bitCell k hkl c hc
       have f0 := H.out.rawFree k
       have HE := Lib.hid (show turned (k + 1) (rowOf s) = (turned k (rowOf s)).set k (!c) by rw [← hc]; rfl)
       clear hc hkl
       cases c
       all_goals
        simp only [bitN, Bool.false_eq_true, if_false, if_true] at c0
        go_wp2
        go_roundw
        case rel => exact ⟨k + 1, hlt, by go_num, by rw [HE.out]; exact H.out.bitSet k _ _ rfl⟩
        case measure => first | (simp [intOf]; done) | (simp [intOf]; omega)
     · obtain rfl : k = 32 := by omega
       obtain ⟨M, hM⟩ : ∃ M, turned 32 (rowOf s) = M := ⟨_, rfl⟩
       have h := H.out
       rw [hM] at h
       have HML := Lib.hid (show M.length = N by rw [← hM, turned_len]; exact HRL.out)
       have HM := Lib.hid hM
       clear H hlt hk hM
       have H := Lib.hid h
       clear h
       go_wp2
       go_loopw [7] (fun iv wr => ∃ k : Nat, k ≤ n ∧ iv = .int .i64 k ∧ St W0 wr K (.raw bL (cellsB (outer M k)) 3 :: L)) (fun iv _ => n - (intOf iv).toNat)
       case atStart => exact ⟨0, Nat.zero_le _, rfl, H.out⟩
       case round =>
        obtain ⟨i, hi, rfl, hst⟩ := hrel
        clear H
        have H := Lib.hid hst
        clear hst
        by_cases hlt : i < n
        · have hki : (i : Int) < (n : Int) := by omega
          have hkN : (i : Int) < (N : Int) := by omega
          obtain ⟨c, hc⟩ : ∃ c, (outer M i).getD i false = c := ⟨_, rfl⟩
          have c0 := H.out.bitCell i (by rw [outer_len, HML.out]; omega) c hc
          cases c
          · have HE := Lib.hid (show outer M (i + 1) = outer M i by show (if (outer M i).getD i false then _ else _ : List Bool) = _; rw [hc]; rfl)
            clear hc
            simp only [bitN, Bool.false_eq_true, if_false, if_true] at c0
            go_wp2
            go_roundw
            case rel => exact ⟨i + 1, hlt, by go_num, by rw [HE.out]; exact H.out⟩
            case measure => first | (simp [intOf]; done) | (simp [intOf]; omega)
          · have HE := Lib.hid (show outer M (i + 1) = inner (outer M i) i 32 by show (if (outer M i).getD i false then _ else _ : List Bool) = _; rw [hc]; rfl)
            clear hc
            simp only [bitN, Bool.false_eq_true, if_false, if_true] at c0
            obtain ⟨B, hB⟩ : ∃ B, outer M i = B := ⟨_, rfl⟩
            have h := H.out
            rw [hB] at HE h
            have HBL := Lib.hid (show B.length = N by rw [← hB, outer_len]; exact HML.out)
            clear H hB
            have H := Lib.hid h
            clear h
            go_wp2
            clear c0
            go_loopw [8] (fun kv wr => ∃ q : Nat, q ≤ 32 ∧ kv = .int .i64 ((q : Int) + 1) ∧ St W0 wr K (.raw bL (cellsB (inner B i q)) 3 :: L)) (fun kv _ => 33 - (intOf kv).toNat)
            case atStart => exact ⟨0, Nat.zero_le _, rfl, H.out⟩
            case round =>
             obtain ⟨q, hq, rfl, hst⟩ := hrel
             clear H
             have H := Lib.hid hst
             clear hst
             by_cases hlt2 : q < 32
             · obtain ⟨p, hp⟩ : ∃ p, 31 - q = p := ⟨_, rfl⟩
               obtain ⟨x, hx⟩ : ∃ x, i + (q + 1) = x := ⟨_, rfl⟩
               obtain ⟨kk, hkk⟩ : ∃ kk, q + 1 = kk := ⟨_, rfl⟩
               have e1 : (q : Int) + 1 = (kk : Int) := by omega
               rw [e1]
               have e2 : (i : Int) + (kk : Int) = (x : Int) := by omega
               have e3 : (32 : Int) - (kk : Int) = (p : Int) := by omega
               have b1 : (kk : Int) ≤ 32 := by omega
               have b2 : (x : Int) < (N : Int) := by omega
               have b3 : (p : Int) < 32 := by omega
               have HX := Lib.hid (show x < (inner B i q).length by rw [inner_len, HBL.out]; omega)
               obtain ⟨a, ha⟩ : ∃ a, (inner B i q).getD x false = a := ⟨_, rfl⟩
               obtain ⟨d, hd⟩ : ∃ d, pw p = d := ⟨_, rfl⟩
               have HP := Lib.hid (show p < 32 by omega)
               have HA := Lib.hid ha
               have HD := Lib.hid hd
               have HN3 := Lib.hid (show inner B i (q + 1) = (inner B i q).set x (a ^^ d) by
                 show (inner B i q).set (i + (q + 1)) ((inner B i q).getD (i + (q + 1)) false ^^ pw (31 - q)) = _
                 rw [hx, hp, ha, hd])
               have HQ := Lib.hid e1
               have h1 : (bitN a : Int) ≤ 1 := by cases a <;> decide
               have h2 : (bitN d : Int) ≤ 1 := by cases d <;> decide
               have h3 : ((bitN a : Int) + (bitN d : Int)).tmod 2 = (bitN (a ^^ d) : Int) := by cases a <;> cases d <;> rfl
               obtain ⟨va, hva⟩ : ∃ v, bitN a = v := ⟨_, rfl⟩
               obtain ⟨vd, hvd⟩ : ∃ v, bitN d = v := ⟨_, rfl⟩
               obtain ⟨vx, hvx⟩ : ∃ v, bitN (a ^^ d) = v := ⟨_, rfl⟩
               rw [hva] at h1 h3
               rw [hvd] at h2 h3
               rw [hvx] at h3
               have HVA := Lib.hid hva
               have HVD := Lib.hid hvd
               have HVX := Lib.hid (show ((bitN (a ^^ d) : Nat) : Int) = (vx : Int) by rw [hvx])
               have w1 : IntKind.i64.wrap (x : Int) = (x : Int) := IntWalk.i64_in _ (by omega)
               have w2 : IntKind.i64.wrap (p : Int) = (p : Int) := IntWalk.i64_in _ (by omega)
               have w3 : IntKind.i64.wrap ((va : Int) + (vd : Int)) = (va : Int) + (vd : Int) := IntWalk.i64_in _ (by omega)
               have h4 : ((bitN (a ^^ d) : Nat) : Int) ≤ 1 := by cases a <;> cases d <;> decide
               rw [HVX.out] at h4
               have w4 : IntKind.i64.wrap (vx : Int) = (vx : Int) := IntWalk.i64_in _ (by omega)
               clear hp hx hkk ha hd hva hvd hvx
               go_upto_region 18 with (fail)
               have hs := H.out.drew
               refine wp_region_held_drew (S := fun _ => True) (by kernel_rfl) trivial (fun hHeld => ?_)
               refine wpAnyH_take (i := 0) (oi := ⟨some 54, .move (.tmp 4), 40, "ref.go:37", #[], none⟩) (v := ?_) rfl (by kernel_rfl) (by kernel_rfl) (by kernel_rfl) (fun _ _ _ h => h) (Or.inl ⟨by rfl, ?_⟩) (by assumption) ?_
               rotate_left
               · intro w hSw; (try dsimp only at hSw); go_simp; try with_reducible rfl
               simp only [Act.put, sA, sB, sC]
               refine wpAnyH_take (i := 1) (oi := ⟨some 55, .move (.tmp 7), 3, "ref.go:37", #[], none⟩) (v := ?_) rfl (by kernel_rfl) (by kernel_rfl) (by kernel_rfl) (fun _ _ _ h => h) (Or.inl ⟨by rfl, ?_⟩) (by assumption) ?_
               rotate_left
               · intro w hSw; (try dsimp only at hSw); go_simp; try with_reducible rfl
               simp only [Act.put, sA, sB, sC]
               refine wpAnyH_take (i := 2) (oi := ⟨some 56, .move (.tmp 8), 3, "ref.go:37", #[], none⟩) (v := ?_) rfl (by kernel_rfl) (by kernel_rfl) (by kernel_rfl) (fun _ _ _ h => h) (Or.inl ⟨by rfl, ?_⟩) (by assumption) ?_
               rotate_left
               · intro w hSw; (try dsimp only at hSw); go_simp; try with_reducible rfl
               simp only [Act.put, sA, sB, sC]
               refine wpAnyH_take (i := 3) (oi := ⟨some 57, .binOp .add 3 (.tmp 55) (.tmp 56) 3, 3, "ref.go:37", #[.mk 1 .data, .mk 2 .data], none⟩) (v := ?_) rfl (by kernel_rfl) (by kernel_rfl) (by kernel_rfl) (fun _ _ _ h => h) (Or.inl ⟨by rfl, ?_⟩) (by assumption) ?_
               rotate_left
               · intro w hSw; (try dsimp only at hSw); go_simp; try with_reducible rfl
               simp only [Act.put, sA, sB, sC]
               refine wpAnyH_take (i := 4) (oi := ⟨some 58, .move (.tmp 4), 40, "ref.go:37", #[], none⟩) (v := ?_) rfl (by kernel_rfl) (by kernel_rfl) (by kernel_rfl) (fun _ _ _ h => h) (Or.inl ⟨by rfl, ?_⟩) (by assumption) ?_
               rotate_left
               · intro w hSw; (try dsimp only at hSw); go_simp; try with_reducible rfl
               simp only [Act.put, sA, sB, sC]
               refine wpAnyH_take (i := 5) (oi := ⟨some 59, .move (.tmp 7), 3, "ref.go:37", #[], none⟩) (v := ?_) rfl (by kernel_rfl) (by kernel_rfl) (by kernel_rfl) (fun _ _ _ h => h) (Or.inl ⟨by rfl, ?_⟩) (by assumption) ?_
               rotate_left
               · intro w hSw; (try dsimp only at hSw); go_simp; try with_reducible rfl
               simp only [Act.put, sA, sB, sC]
               refine wpAnyH_take (i := 6) (oi := ⟨some 60, .move (.tmp 8), 3, "ref.go:37", #[], none⟩) (v := ?_) rfl (by kernel_rfl) (by kernel_rfl) (by kernel_rfl) (fun _ _ _ h => h) (Or.inl ⟨by rfl, ?_⟩) (by assumption) ?_
               rotate_left
               · intro w hSw; (try dsimp only at hSw); go_simp; try with_reducible rfl
               simp only [Act.put, sA, sB, sC]
               refine wpAnyH_take (i := 7) (oi := ⟨some 61, .binOp .add 3 (.tmp 59) (.tmp 60) 3, 3, "ref.go:37", #[.mk 5 .data, .mk 6 .data], none⟩) (v := ?_) rfl (by kernel_rfl) (by kernel_rfl) (by kernel_rfl) (fun _ _ _ h => h) (Or.inl ⟨by rfl, ?_⟩) (by assumption) ?_
               rotate_left
               · intro w hSw; (try dsimp only at hSw); go_simp; try with_reducible rfl
               simp only [Act.put, sA, sB, sC]
               refine wpAnyH_take (i := 8) (oi := ⟨some 62, .indexAddr 40 (.tmp 58) (.tmp 61), 0, "ref.go:37", #[.mk 4 .data, .mk 7 .data], none⟩) (v := ?_) rfl (by kernel_rfl) (by kernel_rfl) (by kernel_rfl) (fun _ _ _ h => h) (Or.inl ⟨by rfl, ?_⟩) (by assumption) ?_
               rotate_left
               · intro w hSw; (try dsimp only at hSw); go_simp; try with_reducible rfl
               simp only [Act.put, sA, sB, sC]
               refine wpAnyH_take (i := 10) (oi := ⟨some 64, .move (.tmp 8), 3, "ref.go:37", #[], none⟩) (v := ?_) rfl (by kernel_rfl) (by kernel_rfl) (by kernel_rfl) (fun _ _ _ h => h) (Or.inl ⟨by rfl, ?_⟩) (by assumption) ?_
               rotate_left
               · intro w hSw; (try dsimp only at hSw); go_simp; try with_reducible rfl
               simp only [Act.put, sA, sB, sC]
               refine wpAnyH_take (i := 11) (oi := ⟨some 65, .binOp .sub 3 (.const (Value.int IntKind.i64 32)) (.tmp 64) 3, 3, "ref.go:37", #[.mk 10 .data], none⟩) (v := ?_) rfl (by kernel_rfl) (by kernel_rfl) (by kernel_rfl) (fun _ _ _ h => h) (Or.inl ⟨by rfl, ?_⟩) (by assumption) ?_
               rotate_left
               · intro w hSw; (try dsimp only at hSw); go_simp; try with_reducible rfl
               simp only [Act.put, sA, sB, sC]
               refine wpAnyH_ready (rs := [9, 12]) (by kernel_rfl) (by simp) (AllReadyH.cons (o := ⟨some 63, .load 3 (.tmp 62), 3, "ref.go:37", #[.mk 8 .data], none⟩) rfl (fun KK hK => ?_) (AllReadyH.cons (o := ⟨some 66, .call { callee := .value (.func 54), args := #[.tmp 65], argTypes := #[3] }, 3, "ref.go:37", #[.mk 11 .data], none⟩) rfl (fun KK hK => ?_) AllReadyH.nil))
               · have c0 := hs.bitCell x HX.out a HA.out
                 rw [HVA.out] at c0
                 go_simp
                 refine hK.out _ _ (trivial) (fun hHeld => ?_)
                 clear hK KK
                 try simp only [Act.put, sA, sB, sC]
                 refine wpAnyH_ready (rs := [12]) (by kernel_rfl) (by simp) (AllReadyH.cons (o := ⟨some 66, .call { callee := .value (.func 54), args := #[.tmp 65], argTypes := #[3] }, 3, "ref.go:37", #[.mk 11 .data], none⟩) rfl (fun KK hK => ?_) AllReadyH.nil)
                 · go_simp
                   go_at_call 54
                   with_reducible refine (ref05_powerQ p HP.out d HD.out hs).mono ?_
                   rw [HVD.out]
                   rintro e wq ⟨rfl, hs⟩
                   refine hK.out _ _ (trivial) (fun hHeld => ?_)
                   clear hK KK
                   try simp only [Act.put, sA, sB, sC]
                   refine wpAnyH_take (i := 13) (oi := ⟨some 67, .binOp .add 3 (.tmp 63) (.tmp 66) 3, 3, "ref.go:37", #[.mk 9 .data, .mk 12 .data], none⟩) (v := ?_) rfl (by kernel_rfl) (by kernel_rfl) (by kernel_rfl) (fun _ _ _ h => h) (Or.inl ⟨by rfl, ?_⟩) (by assumption) ?_
                   rotate_left
                   · intro w hSw; (try dsimp only at hSw); go_simp; try with_reducible rfl
                   simp only [Act.put, sA, sB, sC]
                   refine wpAnyH_take (i := 14) (oi := ⟨some 68, .binOp .rem 3 (.tmp 67) (.const (Value.int IntKind.i64 2)) 3, 3, "ref.go:37", #[.mk 13 .data], none⟩) (v := ?_) rfl (by kernel_rfl) (by kernel_rfl) (by kernel_rfl) (fun _ _ _ h => h) (Or.inl ⟨by rfl, ?_⟩) (by assumption) ?_
                   rotate_left
                   · intro w hSw; (try dsimp only at hSw); go_simp; try with_reducible rfl
                   simp only [Act.put, sA, sB, sC]
                   refine wpAnyH_take (i := 15) (oi := ⟨some 69, .indexAddr 40 (.tmp 54) (.tmp 57), 0, "ref.go:37", #[.mk 0 .data, .mk 3 .data, .mk 0 .phase, .mk 1 .phase, .mk 2 .phase, .mk 3 .phase, .mk 4 .phase, .mk 5 .phase, .mk 6 .phase, .mk 7 .phase, .mk 8 .phase, .mk 9 .phase, .mk 10 .phase, .mk 11 .phase, .mk 12 .phase, .mk 13 .phase, .mk 14 .phase], none⟩) (v := ?_) rfl (by kernel_rfl) (by kernel_rfl) (by kernel_rfl) (fun _ _ _ h => h) (Or.inl ⟨by rfl, ?_⟩) (by assumption) ?_
                   rotate_left
                   · intro w hSw; (try dsimp only at hSw); go_simp; try with_reducible rfl
                   simp only [Act.put, sA, sB, sC]
                   refine wpAnyH_ready (rs := [16]) (by kernel_rfl) (by simp) (AllReadyH.cons (o := ⟨none, .store 3 (.tmp 69) (.tmp 68), 0, "ref.go:37", #[.mk 15 .data, .mk 14 .data, .mk 12 .chain, .mk 0 .phase, .mk 1 .phase, .mk 2 .phase, .mk 3 .phase, .mk 4 .phase, .mk 5 .phase, .mk 6 .phase, .mk 7 .phase, .mk 8 .phase, .mk 9 .phase, .mk 10 .phase, .mk 11 .phase, .mk 12 .phase, .mk 13 .phase, .mk 14 .phase], none⟩) rfl (fun KK hK => ?_) AllReadyH.nil)
                   · have f0 := hs.rawFree x
                     have c0 := hs.bitCell x HX.out a HA.out
                     go_simp
                     refine hK.out _ _ (trivial) (fun hHeld => ?_)
                     clear hK KK
                     try simp only [Act.put, sA, sB, sC]
                     have hs := hs.bitSet x (a ^^ d) (vx : Int) HVX.out
                     refine wpAnyH_done (by kernel_rfl) ?_ _
                     rw [← HN3.out] at hs
                     go_wp2_with fail
                     go_roundw
                     case rel =>
                      clear hHeld c0 f0
                      exact ⟨_, _, _, _, _, _, _, _, _, _, _, _, _, _, _, _, _, _, _, _, _, ⟨q + 1, hlt2, by rw [← HQ.out]; go_num, hs⟩, rfl⟩
                     case measure => first | (simp [intOf]; done) | (simp [intOf]; omega)
               · go_simp
                 go_at_call 54
                 with_reducible refine (ref05_powerQ p HP.out d HD.out hs).mono ?_
                 rw [HVD.out]
                 rintro e wq ⟨rfl, hs⟩
                 refine hK.out _ _ (trivial) (fun hHeld => ?_)
                 clear hK KK
                 try simp only [Act.put, sA, sB, sC]
                 refine wpAnyH_ready (rs := [9]) (by kernel_rfl) (by simp) (AllReadyH.cons (o := ⟨some 63, .load 3 (.tmp 62), 3, "ref.go:37", #[.mk 8 .data], none⟩) rfl (fun KK hK => ?_) AllReadyH.nil)
                 · have c0 := hs.bitCell x HX.out a HA.out
                   rw [HVA.out] at c0
                   go_simp
                   refine hK.out _ _ (trivial) (fun hHeld => ?_)
                   clear hK KK
                   try simp only [Act.put, sA, sB, sC]
                   refine wpAnyH_take (i := 13) (oi := ⟨some 67, .binOp .add 3 (.tmp 63) (.tmp 66) 3, 3, "ref.go:37", #[.mk 9 .data, .mk 12 .data], none⟩) (v := ?_) rfl (by kernel_rfl) (by kernel_rfl) (by kernel_rfl) (fun _ _ _ h => h) (Or.inl ⟨by rfl, ?_⟩) (by assumption) ?_
                   rotate_left
                   · intro w hSw; (try dsimp only at hSw); go_simp; try with_reducible rfl
                   simp only [Act.put, sA, sB, sC]
                   refine wpAnyH_take (i := 14) (oi := ⟨some 68, .binOp .rem 3 (.tmp 67) (.const (Value.int IntKind.i64 2)) 3, 3, "ref.go:37", #[.mk 13 .data], none⟩) (v := ?_) rfl (by kernel_rfl) (by kernel_rfl) (by kernel_rfl) (fun _ _ _ h => h) (Or.inl ⟨by rfl, ?_⟩) (by assumption) ?_
                   rotate_left
                   · intro w hSw; (try dsimp only at hSw); go_simp; try with_reducible rfl
                   simp only [Act.put, sA, sB, sC]
                   refine wpAnyH_take (i := 15) (oi := ⟨some 69, .indexAddr 40 (.tmp 54) (.tmp 57), 0, "ref.go:37", #[.mk 0 .data, .mk 3 .data, .mk 0 .phase, .mk 1 .phase, .mk 2 .phase, .mk 3 .phase, .mk 4 .phase, .mk 5 .phase, .mk 6 .phase, .mk 7 .phase, .mk 8 .phase, .mk 9 .phase, .mk 10 .phase, .mk 11 .phase, .mk 12 .phase, .mk 13 .phase, .mk 14 .phase], none⟩) (v := ?_) rfl (by kernel_rfl) (by kernel_rfl) (by kernel_rfl) (fun _ _ _ h => h) (Or.inl ⟨by rfl, ?_⟩) (by assumption) ?_
                   rotate_left
                   · intro w hSw; (try dsimp only at hSw); go_simp; try with_reducible rfl
                   simp only [Act.put, sA, sB, sC]
                   refine wpAnyH_ready (rs := [16]) (by kernel_rfl) (by simp) (AllReadyH.cons (o := ⟨none, .store 3 (.tmp 69) (.tmp 68), 0, "ref.go:37", #[.mk 15 .data, .mk 14 .data, .mk 12 .chain, .mk 0 .phase, .mk 1 .phase, .mk 2 .phase, .mk 3 .phase, .mk 4 .phase, .mk 5 .phase, .mk 6 .phase, .mk 7 .phase, .mk 8 .phase, .mk 9 .phase, .mk 10 .phase, .mk 11 .phase, .mk 12 .phase, .mk 13 .phase, .mk 14 .phase], none⟩) rfl (fun KK hK => ?_) AllReadyH.nil)
                   · have f0 := hs.rawFree x
                     have c0 := hs.bitCell x HX.out a HA.out
                     go_simp
                     refine hK.out _ _ (trivial) (fun hHeld => ?_)
                     clear hK KK
                     try simp only [Act.put, sA, sB, sC]
                     have hs := hs.bitSet x (a ^^ d) (vx : Int) HVX.out
                     refine wpAnyH_done (by kernel_rfl) ?_ _
                     rw [← HN3.out] at hs
                     go_wp2_with fail
                     go_roundw
                     case rel =>
                      clear hHeld c0 f0
                      exact ⟨_, _, _, _, _, _, _, _, _, _, _, _, _, _, _, _, _, _, _, _, _, ⟨q + 1, hlt2, by rw [← HQ.out]; go_num, hs⟩, rfl⟩
                     case measure => first | (simp [intOf]; done) | (simp [intOf]; omega)
             · obtain rfl : q = 32 := by omega
               have h := H.out
               rw [← HE.out] at h
               clear H
               have H := Lib.hid h
               clear h
               go_wp2
               go_roundw
               case rel => exact ⟨i + 1, hlt, by go_num, H.out⟩
               case measure => first | (simp [intOf]; done) | (simp [intOf]; omega)
        · obtain rfl : n = i := by omega
          have HF := Lib.hid (show readOut (fun j => !(outer M n).getD (n + j) false) 32 = (crcMore 0#32 s).toNat by
            have := divided_sum s
            unfold divided at this
            rw [HN.out, HM.out] at this
            exact this)
          obtain ⟨D, hD⟩ : ∃ D, outer M n = D := ⟨_, rfl⟩
          have h := H.out
          rw [hD] at HF h
          have HDL := Lib.hid (show D.length = N by rw [← hD, outer_len]; exact HML.out)
          clear H hD
          have H := Lib.hid h
          clear h hlt
          go_wp2
          go_loopw [10, 9] (fun iv ov wr => ∃ j : Nat, j ≤ 32 ∧ iv = .int .i64 ((j : Int) - 1) ∧ ov = .int .u32 (readOut (fun j => !D.getD (n + j) false) (32 - j) : Nat) ∧ St W0 wr K (.raw bL (cellsB (D)) 3 :: L)) (fun iv _ _ => (intOf iv + 1).toNat)
          case atStart => exact ⟨32, Nat.le_refl _, rfl, rfl, H.out⟩
          case round =>
            obtain ⟨j, hj, rfl, rfl, hst⟩ := hrel
            clear H
            have H := Lib.hid hst
            clear hst
            match j with
            | 0 =>
             rw [show (((0 : Nat) : Int) - 1) = -1 from rfl, show 32 - 0 = 32 from rfl, HF.out]
             go_wp2
             go_ret
             exact ⟨rfl, H.out.drop⟩
            | j + 1 =>
             rw [show (((j + 1 : Nat) : Int) - 1) = (j : Int) by omega]
             obtain ⟨x, hx⟩ : ∃ x, n + j = x := ⟨_, rfl⟩
             have e2 : (n : Int) + (j : Int) = (x : Int) := by omega
             have b2 : (x : Int) < (N : Int) := by omega
             have b1 : (j : Int) < 32 := by omega
             obtain ⟨c, hc⟩ : ∃ c, D.getD x false = c := ⟨_, rfl⟩
             have c0 := H.out.bitCell x (by rw [HDL.out]; have := HN2.out; omega) c hc
             obtain ⟨R, hR⟩ : ∃ R, readOut (fun j => !D.getD (n + j) false) (32 - (j + 1)) = R := ⟨_, rfl⟩
             have HR := Lib.hid (show readOut (fun j => !D.getD (n + j) false) (32 - j) = R * 2 + (if c then 0 else 1) by
               rw [show 32 - j = 32 - (j + 1) + 1 by omega]
               show readOut _ _ * 2 + (if !D.getD (n + (31 - (32 - (j + 1)))) false then 1 else 0) = _
               rw [hR, show 31 - (32 - (j + 1)) = j by omega, hx, hc]
               cases c <;> rfl)
             have hb : R < 2147483648 := by
               have h1 := readOut_lt (fun j => !D.getD (n + j) false) (32 - (j + 1))
               rw [hR] at h1
               have h2 : 2 ^ (32 - (j + 1)) ≤ 2 ^ 31 := Nat.pow_le_pow_right (by decide) (by omega)
               omega
             rw [hR]
             clear hx hc hR
             cases c
             all_goals
               simp only [bitN, Bool.false_eq_true, if_false, if_true] at c0 HR
               go_wp2
               go_roundw
               case rel => exact ⟨j, by omega, rfl, by rw [HR.out]; go_num, H.out⟩
               case measure => first | (simp [intOf]; done) | (simp [intOf]; omega)

end Go.Proofs.YtngojlinfdokpaaGreat
