/- A text. -/
import Derived.Test.YtngojlinfdokpaaGScanAgain6
import Derived.Test.YtngojlinfdokpaaGScanAgain1
import Derived.Test.YtngojlinfdokpaaGScanAgain3
import Derived.Test.YtngojlinfdokpaaHdr1
import Derived.Test.YtngojlinfdokpaaCtl3
import Derived.Test.YtngojlinfdokpaaGScanAgain4
import Derived.Test.YtngojlinfdokpaaRec5
import Derived.Test.YtngojlinfdokpaaGScanAgain2
import Derived.Deep.RegionHeld3
import Derived.Test.YtngojlinfdokpaaSep
import Derived.Deep.OwnRows
import Derived.Deep.DeepCutAuto
import Derived.IntWalk
import Derived.Test.YtngojlinfdokpaaGrow
import Derived.Laws.CopyOwn
/- A text. -/
namespace Go.Proofs.Ytngojlinfdokpaa
open Go.RowKit

structure BatR where
  b : BatS
  l : List (RecS × Value)
  q : Option Addr
  cap : Nat
def RBat (cs : List Value) (x : BatR) : Prop := cs = [.int .i64 x.b.base, .int .i64 x.b.leader, .bool x.b.app, .bool x.b.txn, .bool x.b.ctl, .int .i64 x.b.last, .int .i64 x.b.first, .int .i64 x.b.maxt, .int .i64 x.b.prod, .int .i64 x.b.epoch, .int .i64 x.b.seq, .slice x.q x.l.length x.cap]
def BatR.Fit (x : BatR) : Prop := x.b.R ∧ FitW x.l ∧ x.l.map (·.1) = x.b.recs
def Know.bats (v : Value) (l : List BatR) : Know := (Know.flat RBat v 12 l).and (Know.all l fun x => Know.recs (.slice x.q x.l.length x.cap) x.l)
theorem bats_flat {K : Know} {v : Value} {l : List BatR} (h : K.has (Know.bats v l)) : K.has (Know.flat RBat v 12 l) := fun w F x => (h w F x).1
theorem bats_recs {K : Know} {v : Value} {l : List BatR} (h : K.has (Know.bats v l)) {x : BatR} (hx : x ∈ l) : K.has (Know.recs (.slice x.q x.l.length x.cap) x.l) := fun w F y => (h w F y).2 x hx
theorem bats_at {W0 w : World} {K : Know} {L : List Res} {q : Option Addr} {n cap : Nat} {l : List BatR} (hk : K.has (Know.bats (.slice q n cap) l)) (h : St W0 w K L) (h0 : 0 < l.length) : ∃ b off, q = some ⟨b, off, none⟩ := by
 obtain ⟨F, hF, _⟩ := h.get
 obtain ⟨q2, cap2, hv, hr⟩ := (bats_flat hk _ _ hF).at
 obtain ⟨b, off, hq, _⟩ := hr h0
 simp at hv
 exact ⟨b, off, hv.1.trans hq⟩
theorem bats_cell {W0 w : World} {K : Know} {L : List Res} {b off n cap : Nat} {l : List BatR} (hk : K.has (Know.bats (.slice (some ⟨b, off, none⟩) n cap) l)) (h : St W0 w K L) (i : Nat) (hi : i < l.length) (x : BatR) (hx : l[i] = x) :
  w.cell? ⟨b, off + i * 12, none⟩ = some (.int .i64 x.b.base) ∧ w.cell? ⟨b, off + i * 12 + 1, none⟩ = some (.int .i64 x.b.leader) ∧ w.cell? ⟨b, off + i * 12 + 2, none⟩ = some (.bool x.b.app) ∧ w.cell? ⟨b, off + i * 12 + 3, none⟩ = some (.bool x.b.txn) ∧ w.cell? ⟨b, off + i * 12 + 4, none⟩ = some (.bool x.b.ctl) ∧ w.cell? ⟨b, off + i * 12 + 5, none⟩ = some (.int .i64 x.b.last) ∧ w.cell? ⟨b, off + i * 12 + 6, none⟩ = some (.int .i64 x.b.first) ∧ w.cell? ⟨b, off + i * 12 + 7, none⟩ = some (.int .i64 x.b.maxt) ∧ w.cell? ⟨b, off + i * 12 + 8, none⟩ = some (.int .i64 x.b.prod) ∧ w.cell? ⟨b, off + i * 12 + 9, none⟩ = some (.int .i64 x.b.epoch) ∧ w.cell? ⟨b, off + i * 12 + 10, none⟩ = some (.int .i64 x.b.seq) ∧ w.cell? ⟨b, off + i * 12 + 11, none⟩ = some (.slice x.q x.l.length x.cap) := by
 subst hx
 obtain ⟨F, hF, _⟩ := h.get
 obtain ⟨q2, cap2, hv, hr⟩ := (bats_flat hk _ _ hF).at
 obtain ⟨b2, off2, hq, hc⟩ := hr (by omega)
 rw [hq] at hv
 simp at hv
 obtain ⟨⟨rfl, rfl⟩, _, _⟩ := hv
 obtain ⟨cs, _, hR, hcs⟩ := hc i hi
 unfold RBat at hR
 subst hR
 refine ⟨?_, ?_, ?_, ?_, ?_, ?_, ?_, ?_, ?_, ?_, ?_, ?_⟩
 · exact hcs 0 _ rfl
 · rw [Nat.add_assoc]; exact hcs 1 _ rfl
 · rw [Nat.add_assoc]; exact hcs 2 _ rfl
 · rw [Nat.add_assoc]; exact hcs 3 _ rfl
 · rw [Nat.add_assoc]; exact hcs 4 _ rfl
 · rw [Nat.add_assoc]; exact hcs 5 _ rfl
 · rw [Nat.add_assoc]; exact hcs 6 _ rfl
 · rw [Nat.add_assoc]; exact hcs 7 _ rfl
 · rw [Nat.add_assoc]; exact hcs 8 _ rfl
 · rw [Nat.add_assoc]; exact hcs 9 _ rfl
 · rw [Nat.add_assoc]; exact hcs 10 _ rfl
 · rw [Nat.add_assoc]; exact hcs 11 _ rfl
def encB (l : List BatR) : Bs := l.flatMap fun x => x.b.enc
theorem encB_append (l m : List BatR) : encB (l ++ m) = encB l ++ encB m := List.flatMap_append
theorem encB_one (x : BatR) : encB [x] = x.b.enc := by unfold encB; rw [List.flatMap_cons, List.flatMap_nil, List.append_nil]
theorem encB_cons (x : BatR) (t : List BatR) : encB (x :: t) = x.b.enc ++ encB t := rfl
theorem encB_split (l : List BatR) (k : Nat) : encB l = encB (l.take k) ++ encB (l.drop k) := by rw [← encB_append, List.take_append_drop]
theorem encB_take (l : List BatR) (k : Nat) (h : k < l.length) : encB (l.take (k + 1)) = encB (l.take k) ++ l[k].b.enc := by
 rw [List.take_succ_eq_append_getElem h, encB_append, encB_one]
theorem BatR.small {x : BatR} (hf : x.Fit) (hs : smallB (x.l.map (·.1)) = true) (he : batErr x.b = 0) : SmallOk x.b := SmallOk.of hf.2.2.symm hf.2.1 hs he hf.1
theorem encR_small2 (x : RecS) (hx : x.R) (hs : smallRec x = true) : (encR x).length ≤ 1100 := by
 unfold smallRec at hs
 simp only [Bool.and_eq_true, decide_eq_true_eq] at hs
 obtain ⟨s1, s2, s3⟩ := hs
 have hm := hAll_sum _ s3
 have h0 := hsum_le x.hdrs
 have h1 := encI_le x.time hx.1
 have h2 := encI_le x.off hx.2
 have h3 := encV_le x.key (by omega)
 have h4 := encV_le x.val (by omega)
 have h5 := encHs_le x.hdrs (by omega)
 have h8 := encI_le x.hdrs.length (by omega)
 have h6 : (recF x).length ≤ 1060 := by
  unfold recF encHs
  simp only [List.length_append, List.length_cons, List.length_nil]
  omega
 have h7 := encV_le ⟨false, recF x⟩ (by simp only; omega)
 simp only at h7
 unfold encR
 omega
theorem BatR.elen {x : BatR} (hf : x.Fit) (hs : smallB (x.l.map (·.1)) = true) : x.b.enc.length ≤ 14000 := by
 rw [x.b.enc_len]
 unfold smallB at hs
 simp only [Bool.and_eq_true, decide_eq_true_eq] at hs
 rw [hf.2.2] at hs
 have h1 := rows_small x.b.recs 1100 (fun y hy => encR_small2 y (by
  have hy2 : y ∈ x.l.map (·.1) := hf.2.2 ▸ hy
  obtain ⟨z, hz, rfl⟩ := List.mem_map.1 hy2
  exact (hf.2.1 z hz).1) (rAll_mem _ hs.2 y hy))
 unfold BatS.rowsB
 omega
end Go.Proofs.Ytngojlinfdokpaa

/- A text. -/
namespace Go.Proofs.Ytngojlinfdokpaa
open Go.RowKit

end Go.Proofs.Ytngojlinfdokpaa

/- A text. -/
namespace Go.Proofs.Ytngojlinfdokpaa
open Go.RowKit

end Go.Proofs.Ytngojlinfdokpaa

/- A text. -/
namespace Go.Proofs.Ytngojlinfdokpaa
open Go.RowKit

end Go.Proofs.Ytngojlinfdokpaa

/- A text. -/
namespace Go.Proofs.Ytngojlinfdokpaa
open Go.RowKit

end Go.Proofs.Ytngojlinfdokpaa

/- A text. -/
namespace Go.Proofs.Ytngojlinfdokpaa
open Go.RowKit

end Go.Proofs.Ytngojlinfdokpaa

/- A text. -/
namespace Go.Proofs.Ytngojlinfdokpaa
open Go.RowKit

theorem recs_nilK (K : Know) : K.has (Know.recs (.slice none 0 0) []) := fun _ _ _ => ⟨⟨none, 0, rfl, fun h => absurd h (by decide)⟩, fun x h => by cases h⟩
end Go.Proofs.Ytngojlinfdokpaa

/- A text. -/
namespace Go.Proofs.Ytngojlinfdokpaa
open Go.RowKit

theorem map_ne_of_get (l m : List (RecS × Value)) (k : Nat) (h1 : k < l.length) (h2 : k < m.length) (x y : RecS) (hx : l[k].1 = x) (hy : m[k].1 = y) (h : x ≠ y) : l.map (·.1) ≠ m.map (·.1) := by
 intro hh
 have e1 : (l.map (·.1))[k]? = (m.map (·.1))[k]? := by rw [hh]
 rw [List.getElem?_map, List.getElem?_map, List.getElem?_eq_getElem h1, List.getElem?_eq_getElem h2] at e1
 simp at e1
 exact h (hx ▸ hy ▸ e1)
end Go.Proofs.Ytngojlinfdokpaa

/- A text. -/
namespace Go.Proofs.Ytngojlinfdokpaa
open Go.RowKit

set_option maxHeartbeats 4000000 in
set_option maxRecDepth 100000 in
theorem ref11_sameT0 (base : Int) (leader : Int) (app : Bool) (txn : Bool) (ctl : Bool) (last : Int) (first : Int) (maxt : Int) (prod : Int) (epoch : Int) (seq : Int) (l1 l2 : List (RecS × Value)) (q1 q2 : Option Addr) (cap1 cap2 : Nat) (hn : l1.length ≤ 1000000) (hr : l1.map (·.1) = l2.map (·.1)) (hf1 : ∀ x ∈ l1, x.1.hdrs.length ≤ 9223372036854775807) (hf2 : ∀ x ∈ l2, x.1.hdrs.length ≤ 9223372036854775807) {W0 w : World} {K : Know} {L : List Res} (hk1 : K.has (Know.recs (.slice q1 l1.length cap1) l1)) (hk2 : K.has (Know.recs (.slice q2 l2.length cap2) l2)) (h : St W0 w K L) :
  Calls Try.prog 21 #[.agg #[.int .i64 base, .int .i64 leader, .bool app, .bool txn, .bool ctl, .int .i64 last, .int .i64 first, .int .i64 maxt, .int .i64 prod, .int .i64 epoch, .int .i64 seq, .slice q1 l1.length cap1], .agg #[.int .i64 base, .int .i64 leader, .bool app, .bool txn, .bool ctl, .int .i64 last, .int .i64 first, .int .i64 maxt, .int .i64 prod, .int .i64 epoch, .int .i64 seq, .slice q2 l2.length cap2]] w fun en w' => en = .returned (.bool true) ∧ St W0 w' K L := by
 obtain ⟨hb, hhb⟩ : ∃ b, w.heap.size = b := ⟨_, rfl⟩
 have h1 := (h.allocRaw #[.int .i64 base, .int .i64 leader, .bool app, .bool txn, .bool ctl, .int .i64 last, .int .i64 first, .int .i64 maxt, .int .i64 prod, .int .i64 epoch, .int .i64 seq, .slice q1 l1.length cap1] 37).allocRaw #[.int .i64 base, .int .i64 leader, .bool app, .bool txn, .bool ctl, .int .i64 last, .int .i64 first, .int .i64 maxt, .int .i64 prod, .int .i64 epoch, .int .i64 seq, .slice q2 l2.length cap2] 37
 rw [World.size_alloc, hhb] at h1
 obtain ⟨hc, hhc⟩ : ∃ b, hb + 1 = b := ⟨_, rfl⟩
 rw [hhc] at h1
 obtain ⟨b0, b1, b2, b3, b4, b5, b6, b7, b8, b9, b10, b11, fb0, fb1, fb2, fb3, fb4, fb5, fb6, fb7, fb8, fb9, fb10, fb11⟩ := raw12 (b := hc) h1
 obtain ⟨a0, a1, a2, a3, a4, a5, a6, a7, a8, a9, a10, a11, fa0, fa1, fa2, fa3, fa4, fa5, fa6, fa7, fa8, fa9, fa10, fa11⟩ := raw12 (b := hb) h1.p1
 have H := Lib.hid h1
 have HK1 := Lib.hid hk1
 have HK2 := Lib.hid hk2
 have hni : (l1.length : Int) ≤ 1000000 := by omega
 have HF1 := Lib.hid hf1
 have HF2 := Lib.hid hf2
 have hlen : l1.length = l2.length := by have := congrArg List.length hr; simpa using this
 have HLEN := Lib.hid hlen
 have HR := Lib.hid hr
 have g1 : ((l1.length : Int) == (l2.length : Int)) = true := by rw [hlen]; exact beq_self_eq_true _
 have g2 : ((l1.length : Int) != (l2.length : Int)) = false := by simp [bne, g1]
 have g3 : (l2.length : Int) = (l1.length : Int) := by omega
 clear h h1 hk1 hk2 hf1 hf2 hr hlen fa0 fb0 fa1 fb1 fa2 fb2 fa3 fb3 fa4 fb4 fa5 fb5 fa6 fb6 fa7 fb7 fa8 fb8 fa9 fb9 fa10 fb10 fa11 fb11
 go_enter Try.func21, Try.ntmps21
 go_wp2
 clear g1 g2 g3
 clear a0 b0 a1 b1 a2 b2 a3 b3 a4 b4 a5 b5 a6 b6 a7 b7 a8 b8 a9 b9 a10 b10 a11 b11
 go_loopw [5] (fun iv wr => ∃ k : Nat, k ≤ l1.length ∧ iv = .int .i64 k ∧ St W0 wr K (.raw hc #[.int .i64 base, .int .i64 leader, .bool app, .bool txn, .bool ctl, .int .i64 last, .int .i64 first, .int .i64 maxt, .int .i64 prod, .int .i64 epoch, .int .i64 seq, .slice q2 l2.length cap2] 37 :: .raw hb #[.int .i64 base, .int .i64 leader, .bool app, .bool txn, .bool ctl, .int .i64 last, .int .i64 first, .int .i64 maxt, .int .i64 prod, .int .i64 epoch, .int .i64 seq, .slice q1 l1.length cap1] 37 :: L)) (fun iv _ => l1.length - (intOf iv).toNat)
 case atStart => exact ⟨0, Nat.zero_le _, rfl, H.out⟩
 case round =>
  obtain ⟨k, hkl, rfl, hst⟩ := hrel
  clear H
  have H := Lib.hid hst
  clear hst
  have b11 : wr.cell? ⟨hc, 11, none⟩ = some (.slice q2 l2.length cap2) := H.out.rawCell 11
  have a11 : wr.cell? ⟨hb, 11, none⟩ = some (.slice q1 l1.length cap1) := H.out.p1.rawCell 11
  by_cases hlt : k < l1.length
  · have hlt2 : k < l2.length := by have := HLEN.out; omega
    obtain ⟨b1', off1, hqq1⟩ := recs_at HK1.out H.out (by omega)
    subst hqq1
    obtain ⟨⟨x1, v1⟩, hx1⟩ : ∃ x, l1[k] = x := ⟨_, rfl⟩
    have cc1 := recs_cell HK1.out H.out k (by omega) (x1, v1) hx1
    have hmem1 : (x1, v1) ∈ l1 := hx1 ▸ List.getElem_mem _
    have XF1 := Lib.hid (show x1.hdrs.length ≤ 9223372036854775807 from HF1.out (x1, v1) hmem1)
    have XK1 := Lib.hid (show K.has (Know.flat RHdr v1 3 x1.hdrs) from recs_hdrs HK1.out hmem1)
    simp only at cc1
    obtain ⟨c10, c11, c12, c13, c14, c15, c16⟩ := cc1
    rw [← Nat.add_assoc] at c11 c12 c13 c14 c15 c16
    have HX1 := Lib.hid (show l1[k].1 = x1 by rw [hx1])
    have HXX1 := Lib.hid hx1
    clear hmem1 hx1
    obtain ⟨b2', off2, hqq2⟩ := recs_at HK2.out H.out (by omega)
    subst hqq2
    obtain ⟨⟨x2, v2⟩, hx2⟩ : ∃ x, l2[k] = x := ⟨_, rfl⟩
    have cc2 := recs_cell HK2.out H.out k (by omega) (x2, v2) hx2
    have hmem2 : (x2, v2) ∈ l2 := hx2 ▸ List.getElem_mem _
    have XF2 := Lib.hid (show x2.hdrs.length ≤ 9223372036854775807 from HF2.out (x2, v2) hmem2)
    have XK2 := Lib.hid (show K.has (Know.flat RHdr v2 3 x2.hdrs) from recs_hdrs HK2.out hmem2)
    simp only at cc2
    obtain ⟨c20, c21, c22, c23, c24, c25, c26⟩ := cc2
    rw [← Nat.add_assoc] at c21 c22 c23 c24 c25 c26
    have HX2 := Lib.hid (show l2[k].1 = x2 by rw [hx2])
    have HXX2 := Lib.hid hx2
    clear hmem2 hx2
    have hki : (k : Int) < (l1.length : Int) := by omega
    have hki2 : (k : Int) < (l2.length : Int) := by omega
    have hk0 : (0 : Int) ≤ (k : Int) := Int.natCast_nonneg _
    have E1 := Lib.hid (show decide (x1 = x2) = true from decide_eq_true (Decidable.byContradiction fun hne => map_ne_of_get l1 l2 k hlt hlt2 x1 x2 HX1.out HX2.out hne HR.out))
    have hkeep : ∀ w', St W0 w' K (.raw hc #[.int .i64 base, .int .i64 leader, .bool app, .bool txn, .bool ctl, .int .i64 last, .int .i64 first, .int .i64 maxt, .int .i64 prod, .int .i64 epoch, .int .i64 seq, .slice (some ⟨b2', off2, none⟩) l2.length cap2] 37 :: .raw hb #[.int .i64 base, .int .i64 leader, .bool app, .bool txn, .bool ctl, .int .i64 last, .int .i64 first, .int .i64 maxt, .int .i64 prod, .int .i64 epoch, .int .i64 seq, .slice (some ⟨b1', off1, none⟩) l1.length cap1] 37 :: L) → ((w'.cell? ⟨hb, 11, none⟩ = some (.slice (some ⟨b1', off1, none⟩) l1.length cap1)) ∧ (w'.cell? ⟨hc, 11, none⟩ = some (.slice (some ⟨b2', off2, none⟩) l2.length cap2)) ∧ (w'.cell? ⟨b1', off1 + k * 7, none⟩ = some (.int .i64 x1.time) ∧ w'.cell? ⟨b1', off1 + k * 7 + 1, none⟩ = some (.int .i64 x1.off) ∧ w'.cell? ⟨b1', off1 + k * 7 + 2, none⟩ = some (.bool x1.key.null) ∧ w'.cell? ⟨b1', off1 + k * 7 + 3, none⟩ = some (.string (bb x1.key.data)) ∧ w'.cell? ⟨b1', off1 + k * 7 + 4, none⟩ = some (.bool x1.val.null) ∧ w'.cell? ⟨b1', off1 + k * 7 + 5, none⟩ = some (.string (bb x1.val.data)) ∧ w'.cell? ⟨b1', off1 + k * 7 + 6, none⟩ = some (v1)) ∧ (w'.cell? ⟨b2', off2 + k * 7, none⟩ = some (.int .i64 x2.time) ∧ w'.cell? ⟨b2', off2 + k * 7 + 1, none⟩ = some (.int .i64 x2.off) ∧ w'.cell? ⟨b2', off2 + k * 7 + 2, none⟩ = some (.bool x2.key.null) ∧ w'.cell? ⟨b2', off2 + k * 7 + 3, none⟩ = some (.string (bb x2.key.data)) ∧ w'.cell? ⟨b2', off2 + k * 7 + 4, none⟩ = some (.bool x2.val.null) ∧ w'.cell? ⟨b2', off2 + k * 7 + 5, none⟩ = some (.string (bb x2.val.data)) ∧ w'.cell? ⟨b2', off2 + k * 7 + 6, none⟩ = some (v2))) := fun w' hs => by
      have r1 := recs_cell HK1.out hs k hlt (x1, v1) HXX1.out
      have r2 := recs_cell HK2.out hs k hlt2 (x2, v2) HXX2.out
      simp only [← Nat.add_assoc] at r1 r2
      exact ⟨hs.p1.rawCell 11, hs.rawCell 11, r1, r2⟩
    have HKP := Lib.hid hkeep
    clear hkeep HX1 HX2 HXX1 HXX2
    clear hlt2
    go_upto_region 6 with (fail)
    have hs := H.out.drew
    refine wp_region_held_drew (S := fun w' => (w'.cell? ⟨hb, 11, none⟩ = some (.slice (some ⟨b1', off1, none⟩) l1.length cap1)) ∧ (w'.cell? ⟨hc, 11, none⟩ = some (.slice (some ⟨b2', off2, none⟩) l2.length cap2)) ∧ (w'.cell? ⟨b1', off1 + k * 7, none⟩ = some (.int .i64 x1.time) ∧ w'.cell? ⟨b1', off1 + k * 7 + 1, none⟩ = some (.int .i64 x1.off) ∧ w'.cell? ⟨b1', off1 + k * 7 + 2, none⟩ = some (.bool x1.key.null) ∧ w'.cell? ⟨b1', off1 + k * 7 + 3, none⟩ = some (.string (bb x1.key.data)) ∧ w'.cell? ⟨b1', off1 + k * 7 + 4, none⟩ = some (.bool x1.val.null) ∧ w'.cell? ⟨b1', off1 + k * 7 + 5, none⟩ = some (.string (bb x1.val.data)) ∧ w'.cell? ⟨b1', off1 + k * 7 + 6, none⟩ = some (v1)) ∧ (w'.cell? ⟨b2', off2 + k * 7, none⟩ = some (.int .i64 x2.time) ∧ w'.cell? ⟨b2', off2 + k * 7 + 1, none⟩ = some (.int .i64 x2.off) ∧ w'.cell? ⟨b2', off2 + k * 7 + 2, none⟩ = some (.bool x2.key.null) ∧ w'.cell? ⟨b2', off2 + k * 7 + 3, none⟩ = some (.string (bb x2.key.data)) ∧ w'.cell? ⟨b2', off2 + k * 7 + 4, none⟩ = some (.bool x2.val.null) ∧ w'.cell? ⟨b2', off2 + k * 7 + 5, none⟩ = some (.string (bb x2.val.data)) ∧ w'.cell? ⟨b2', off2 + k * 7 + 6, none⟩ = some (v2))) (by kernel_rfl) (HKP.out _ hs) (fun hHeld => ?_)
    refine wpAnyH_take (i := 0) (oi := ⟨some 97, .fieldAddr 37 (.tmp 2) 11, 0, "ref.go:180", #[], none⟩) (v := ?_) rfl (by kernel_rfl) (by kernel_rfl) (by kernel_rfl) (fun _ _ _ h => h) (Or.inl ⟨by rfl, ?_⟩) (by assumption) ?_
    rotate_left
    · intro w hSw; (try dsimp only at hSw); go_simp; try with_reducible rfl
    simp only [Act.put, sA, sB, sC]
    refine wpAnyH_take (i := 1) (oi := ⟨some 98, .load 35 (.tmp 97), 35, "ref.go:180", #[.mk 0 .data], none⟩) (v := ?_) rfl (by kernel_rfl) (by kernel_rfl) (by kernel_rfl) (fun _ _ _ h => h) (Or.inl ⟨by rfl, ?_⟩) (by assumption) ?_
    rotate_left
    · intro w hSw; (try dsimp only at hSw); go_simp; try with_reducible rfl
    simp only [Act.put, sA, sB, sC]
    refine wpAnyH_take (i := 2) (oi := ⟨some 99, .move (.tmp 5), 3, "ref.go:180", #[], none⟩) (v := ?_) rfl (by kernel_rfl) (by kernel_rfl) (by kernel_rfl) (fun _ _ _ h => h) (Or.inl ⟨by rfl, ?_⟩) (by assumption) ?_
    rotate_left
    · intro w hSw; (try dsimp only at hSw); go_simp; try with_reducible rfl
    simp only [Act.put, sA, sB, sC]
    refine wpAnyH_take (i := 3) (oi := ⟨some 100, .indexAddr 35 (.tmp 98) (.tmp 99), 0, "ref.go:180", #[.mk 1 .data, .mk 2 .data], none⟩) (v := ?_) rfl (by kernel_rfl) (by kernel_rfl) (by kernel_rfl) (fun _ _ _ h => h) (Or.inl ⟨by rfl, ?_⟩) (by assumption) ?_
    rotate_left
    · intro w hSw; (try dsimp only at hSw); go_simp; try with_reducible rfl
    simp only [Act.put, sA, sB, sC]
    refine wpAnyH_take (i := 4) (oi := ⟨some 101, .load 63 (.tmp 100), 63, "ref.go:180", #[.mk 3 .data], none⟩) (v := ?_) rfl (by kernel_rfl) (by kernel_rfl) (by kernel_rfl) (fun _ _ _ h => h) (Or.inl ⟨by rfl, ?_⟩) (by assumption) ?_
    rotate_left
    · intro w hSw; (try dsimp only at hSw); go_simp; try with_reducible rfl
    simp only [Act.put, sA, sB, sC]
    refine wpAnyH_take (i := 5) (oi := ⟨some 102, .fieldAddr 37 (.tmp 3) 11, 0, "ref.go:180", #[], none⟩) (v := ?_) rfl (by kernel_rfl) (by kernel_rfl) (by kernel_rfl) (fun _ _ _ h => h) (Or.inl ⟨by rfl, ?_⟩) (by assumption) ?_
    rotate_left
    · intro w hSw; (try dsimp only at hSw); go_simp; try with_reducible rfl
    simp only [Act.put, sA, sB, sC]
    refine wpAnyH_take (i := 6) (oi := ⟨some 103, .load 35 (.tmp 102), 35, "ref.go:180", #[.mk 5 .data], none⟩) (v := ?_) rfl (by kernel_rfl) (by kernel_rfl) (by kernel_rfl) (fun _ _ _ h => h) (Or.inl ⟨by rfl, ?_⟩) (by assumption) ?_
    rotate_left
    · intro w hSw; (try dsimp only at hSw); go_simp; try with_reducible rfl
    simp only [Act.put, sA, sB, sC]
    refine wpAnyH_take (i := 7) (oi := ⟨some 104, .move (.tmp 5), 3, "ref.go:180", #[], none⟩) (v := ?_) rfl (by kernel_rfl) (by kernel_rfl) (by kernel_rfl) (fun _ _ _ h => h) (Or.inl ⟨by rfl, ?_⟩) (by assumption) ?_
    rotate_left
    · intro w hSw; (try dsimp only at hSw); go_simp; try with_reducible rfl
    simp only [Act.put, sA, sB, sC]
    refine wpAnyH_take (i := 8) (oi := ⟨some 105, .indexAddr 35 (.tmp 103) (.tmp 104), 0, "ref.go:180", #[.mk 6 .data, .mk 7 .data], none⟩) (v := ?_) rfl (by kernel_rfl) (by kernel_rfl) (by kernel_rfl) (fun _ _ _ h => h) (Or.inl ⟨by rfl, ?_⟩) (by assumption) ?_
    rotate_left
    · intro w hSw; (try dsimp only at hSw); go_simp; try with_reducible rfl
    simp only [Act.put, sA, sB, sC]
    refine wpAnyH_take (i := 9) (oi := ⟨some 106, .load 63 (.tmp 105), 63, "ref.go:180", #[.mk 8 .data], none⟩) (v := ?_) rfl (by kernel_rfl) (by kernel_rfl) (by kernel_rfl) (fun _ _ _ h => h) (Or.inl ⟨by rfl, ?_⟩) (by assumption) ?_
    rotate_left
    · intro w hSw; (try dsimp only at hSw); go_simp; try with_reducible rfl
    simp only [Act.put, sA, sB, sC]
    refine wpAnyH_ready (rs := [10]) (by kernel_rfl) (by simp) (AllReadyH.cons (o := ⟨some 107, .call { callee := .value (.func 33), args := #[.tmp 101, .tmp 106], argTypes := #[63, 63] }, 4, "ref.go:180", #[.mk 4 .data, .mk 9 .data], none⟩) rfl (fun KK hK => ?_) AllReadyH.nil)
    · go_simp
      go_at_call 33
      with_reducible refine (ref07_sameV x1 x2 v1 v2 true E1.out XF1.out XF2.out XK1.out XK2.out hs).mono ?_
      rintro e wq ⟨rfl, hs⟩
      refine hK.out _ _ (HKP.out _ hs) (fun hHeld => ?_)
      clear hK KK
      try simp only [Act.put, sA, sB, sC]
      refine wpAnyH_take (i := 11) (oi := ⟨some 108, .unOp UnOp.not 4 (.tmp 107), 4, "ref.go:180", #[.mk 10 .data], none⟩) (v := ?_) rfl (by kernel_rfl) (by kernel_rfl) (by kernel_rfl) (fun _ _ _ h => h) (Or.inl ⟨by rfl, ?_⟩) (by assumption) ?_
      rotate_left
      · intro w hSw; (try dsimp only at hSw); go_simp; try with_reducible rfl
      simp only [Act.put, sA, sB, sC]
      refine wpAnyH_done (by kernel_rfl) ?_ _
      go_wp2_with fail
      go_roundw
      case rel => exact ⟨k + 1, hlt, by go_num, hs⟩
      case measure => first | (simp [intOf]; done) | (simp [intOf]; omega)
  · obtain rfl : k = l1.length := by omega
    go_wp2
    go_ret
    exact ⟨rfl, H.out.drop.drop⟩
theorem ref11_sameT (x : BatS) (l1 l2 : List (RecS × Value)) (q1 q2 : Option Addr) (cap1 cap2 : Nat) (hn : l1.length ≤ 1000000) (hx : l1.map (·.1) = x.recs) (hy : l2.map (·.1) = x.recs) (hf1 : ∀ x ∈ l1, x.1.hdrs.length ≤ 9223372036854775807) (hf2 : ∀ x ∈ l2, x.1.hdrs.length ≤ 9223372036854775807) {W0 w : World} {K : Know} {L : List Res} (hk1 : K.has (Know.recs (.slice q1 l1.length cap1) l1)) (hk2 : K.has (Know.recs (.slice q2 l2.length cap2) l2)) (h : St W0 w K L) :
  Calls Try.prog 21 #[.agg #[.int .i64 x.base, .int .i64 x.leader, .bool x.app, .bool x.txn, .bool x.ctl, .int .i64 x.last, .int .i64 x.first, .int .i64 x.maxt, .int .i64 x.prod, .int .i64 x.epoch, .int .i64 x.seq, .slice q1 l1.length cap1], .agg #[.int .i64 x.base, .int .i64 x.leader, .bool x.app, .bool x.txn, .bool x.ctl, .int .i64 x.last, .int .i64 x.first, .int .i64 x.maxt, .int .i64 x.prod, .int .i64 x.epoch, .int .i64 x.seq, .slice q2 l2.length cap2]] w fun en w' => en = .returned (.bool true) ∧ St W0 w' K L :=
 ref11_sameT0 x.base x.leader x.app x.txn x.ctl x.last x.first x.maxt x.prod x.epoch x.seq l1 l2 q1 q2 cap1 cap2 hn (hx.trans hy.symm) hf1 hf2 hk1 hk2 h

end Go.Proofs.Ytngojlinfdokpaa

/- A text. -/
namespace Go.Proofs.Ytngojlinfdokpaa
open Go.RowKit

end Go.Proofs.Ytngojlinfdokpaa

/- A text. -/
namespace Go.Proofs.Ytngojlinfdokpaa
open Go.RowKit

def turned : Nat → List Bool → List Bool
  | 0, m => m
  | k + 1, m => (turned k m).set k (!(turned k m).getD k false)
end Go.Proofs.Ytngojlinfdokpaa

/- A text. -/
namespace Go.Proofs.Ytngojlinfdokpaa
open Go.RowKit

end Go.Proofs.Ytngojlinfdokpaa

/- A text. -/
namespace Go.Proofs.Ytngojlinfdokpaa
open Go.RowKit

end Go.Proofs.Ytngojlinfdokpaa

/- A text. -/
namespace Go.Proofs.Ytngojlinfdokpaa
open Go.RowKit

end Go.Proofs.Ytngojlinfdokpaa

/- A text. -/
namespace Go.Proofs.Ytngojlinfdokpaa
open Go.RowKit

end Go.Proofs.Ytngojlinfdokpaa

/- A text. -/
namespace Go.Proofs.Ytngojlinfdokpaa
open Go.RowKit

end Go.Proofs.Ytngojlinfdokpaa

/- A text. -/
namespace Go.Proofs.Ytngojlinfdokpaa
open Go.RowKit

end Go.Proofs.Ytngojlinfdokpaa

/- A text. -/
namespace Go.Proofs.Ytngojlinfdokpaa
open Go.RowKit

structure EndS where
  n1 : Int
  n2 : Int
  n3 : Int
  n4 : Int
  n5 : Int
def EndS.R (x : EndS) : Prop := Rn x.n1 ∧ Rn x.n2 ∧ Rn x.n3 ∧ Rn x.n4 ∧ Rn x.n5
def batcells (x : BatR) : List Value := [.int .i64 x.b.base, .int .i64 x.b.leader, .bool x.b.app, .bool x.b.txn, .bool x.b.ctl, .int .i64 x.b.last, .int .i64 x.b.first, .int .i64 x.b.maxt, .int .i64 x.b.prod, .int .i64 x.b.epoch, .int .i64 x.b.seq, .slice x.q x.l.length x.cap]
structure Good1 (x : BatR) : Prop where
  so : SmallOk x.b
  recs : x.l.map (·.1) = x.b.recs
  len : x.b.enc.length ≤ 14000
  told : x.b.ctl = true → (endOf x.b).2.2.2.2.2 = true
theorem elem_bat : ElemT Try.prog 37 (.agg #[.int .i64 0, .int .i64 0, .bool false, .bool false, .bool false, .int .i64 0, .int .i64 0, .int .i64 0, .int .i64 0, .int .i64 0, .int .i64 0, .slice none 0 0]) 12 96 := elemT_of (by kernel_rfl) rfl (by decide)
def noneB : BatS := ⟨0, 0, false, false, false, 0, 0, 0, -1, -1, -1, []⟩
theorem so_none : SmallOk noneB where
 fit := fun x hx => by cases hx
 len := by decide
 err := by decide +kernel
 rng := by unfold BatS.R noneB Rn; decide
theorem encode_none (s : Bs) (hs : noneB.enc = s) {W0 w : World} {K : Know} {L : List Res} (h : St W0 w K L) :
  Calls Try.prog 15 #[.agg #[.int .i64 0, .int .i64 0, .bool false, .bool false, .bool false, .int .i64 0, .int .i64 0, .int .i64 0, .int .i64 (-1), .int .i64 (-1), .int .i64 (-1), .slice none 0 0]] w fun en w' => en = .returned (.tuple #[.string (bb s), .int .i64 0]) ∧ St W0 w' K L := by
 subst hs
 exact bat_encode_enc noneB [] none 0 rfl so_none (recs_nilK K) h

end Go.Proofs.Ytngojlinfdokpaa

/- A text. -/
namespace Go.Proofs.Ytngojlinfdokpaa
open Go.RowKit

def Reads (v0 : Value) (n0 : Nat) (s0 : Bs) (R : Bs) (v : Value) : Prop :=
  (v = .slice none 0 0 ∧ R = []) ∨ ∃ ad c, v = .slice (some ad) R.length c ∧ R.length ≤ c ∧ ∀ (W0 w : World) (K : Know) (L : List Res), St W0 w K (.row v0 5 1 n0 (bvals s0) :: L) → ∀ k, k ≤ R.length → ∀ c', (convert 33 9 (.slice (some ad) k c')).run Try.prog w = .ok (.string (bb (R.take k))) w
theorem first_none_any {v0 : Value} {n0 : Nat} {s0 : Bs} (R : Bs) (v : Value) (hv : Reads v0 n0 s0 R v) (hr : R.length ≤ 1000000) (hf : firstS R = .ok none) {W0 w : World} {K : Know} {L : List Res} (h : St W0 w K (.row v0 5 1 n0 (bvals s0) :: L)) :
  Calls Try.prog 32 #[v] w fun en w' => en = .returned (.tuple #[.agg #[.int .i64 0, .int .i64 0, .bool false, .bool false, .bool false, .int .i64 0, .int .i64 0, .int .i64 0, .int .i64 0, .int .i64 0, .int .i64 0, .slice none 0 0], .int .i64 0, .int .i64 0]) ∧ St W0 w' K (.row v0 5 1 n0 (bvals s0) :: L) := by
 rcases hv with ⟨rfl, _⟩ | ⟨ad, c, rfl, hc, hcv⟩
 · exact first_none h
 unfold firstS at hf
 by_cases c1 : R.length < 61
 · exact first_short ad R.length c R rfl hc hr hcv c1 h
 rw [if_neg c1] at hf
 cases hp : rePre R with
 | error e => rw [hp] at hf; cases hf
 | ok x =>
  rw [hp] at hf
  simp only at hf
  by_cases c2 : R.length < 61 + (x.len - 49).toNat
  · exact first_torn ad R.length c R rfl hc hr hcv c1 x hp c2 h
  rw [if_neg c2] at hf
  cases ha : asmB x (R.take 61) ((R.drop 61).take (x.len - 49).toNat) with
  | error e => rw [ha] at hf; cases hf
  | ok b => rw [ha] at hf; cases hf
theorem first_err_any {v0 : Value} {n0 : Nat} {s0 : Bs} (R : Bs) (v : Value) (hv : Reads v0 n0 s0 R v) (hr : R.length ≤ 1000000) (e : Int) (hf : firstS R = .error e) {W0 w : World} {K : Know} {L : List Res} (h : St W0 w K (.row v0 5 1 n0 (bvals s0) :: L)) :
  Calls Try.prog 32 #[v] w fun en w' => ∃ n : Nat, en = .returned (.tuple #[.agg #[.int .i64 0, .int .i64 0, .bool false, .bool false, .bool false, .int .i64 0, .int .i64 0, .int .i64 0, .int .i64 0, .int .i64 0, .int .i64 0, .slice none 0 0], .int .i64 n, .int .i64 e]) ∧ St W0 w' K (.row v0 5 1 n0 (bvals s0) :: L) := by
 unfold firstS at hf
 by_cases c1 : R.length < 61
 · rw [if_pos c1] at hf; cases hf
 rcases hv with ⟨_, rfl⟩ | ⟨ad, c, rfl, hc, hcv⟩
 · exact absurd (by decide) c1
 rw [if_neg c1] at hf
 cases hp : rePre R with
 | error e2 =>
  rw [hp] at hf
  cases hf
  exact (first_pre ad R.length c R rfl hc hr hcv c1 e hp h).mono fun _ _ hh => ⟨0, hh⟩
 | ok x =>
  rw [hp] at hf
  simp only at hf
  by_cases c2 : R.length < 61 + (x.len - 49).toNat
  · rw [if_pos c2] at hf; cases hf
  rw [if_neg c2] at hf
  cases ha : asmB x (R.take 61) ((R.drop 61).take (x.len - 49).toNat) with
  | error e2 =>
   rw [ha] at hf
   cases hf
   have hb := reBat_take hp (by omega)
   rw [ha] at hb
   exact (first_bad ad R.length c R rfl hc hr hcv c1 x hp _ rfl (by omega) e hb h).mono fun _ _ hh => ⟨_, hh⟩
  | ok b => rw [ha] at hf; cases hf
theorem first_some_any {v0 : Value} {n0 : Nat} {s0 : Bs} (R : Bs) (v : Value) (hv : Reads v0 n0 s0 R v) (hr : R.length ≤ 1000000) (b : BatS) (n : Nat) (hf : firstS R = .ok (some (b, n))) {W0 w : World} {K : Know} {L : List Res} (h : St W0 w K (.row v0 5 1 n0 (bvals s0) :: L)) :
  Calls Try.prog 32 #[v] w fun en w' => ∃ (q : Option Addr) (l : List (RecS × Value)) (cap2 : Nat), en = .returned (.tuple #[.agg #[.int .i64 b.base, .int .i64 b.leader, .bool b.app, .bool b.txn, .bool b.ctl, .int .i64 b.last, .int .i64 b.first, .int .i64 b.maxt, .int .i64 b.prod, .int .i64 b.epoch, .int .i64 b.seq, .slice q l.length cap2], .int .i64 n, .int .i64 0]) ∧ l.map (·.1) = b.recs ∧ St W0 w' (K.and (Know.recs (.slice q l.length cap2) l)) (.row v0 5 1 n0 (bvals s0) :: L) := by
 unfold firstS at hf
 by_cases c1 : R.length < 61
 · rw [if_pos c1] at hf; cases hf
 rcases hv with ⟨_, rfl⟩ | ⟨ad, c, rfl, hc, hcv⟩
 · exact absurd (by decide) c1
 rw [if_neg c1] at hf
 cases hp : rePre R with
 | error e2 => rw [hp] at hf; cases hf
 | ok x =>
  rw [hp] at hf
  simp only at hf
  by_cases c2 : R.length < 61 + (x.len - 49).toNat
  · rw [if_pos c2] at hf; cases hf
  rw [if_neg c2] at hf
  cases ha : asmB x (R.take 61) ((R.drop 61).take (x.len - 49).toNat) with
  | error e2 => rw [ha] at hf; cases hf
  | ok b2 =>
   rw [ha] at hf
   cases hf
   have hb := reBat_take hp (by omega)
   rw [ha] at hb
   exact first_good ad R.length c R rfl hc hr hcv c1 x hp _ rfl (by omega) b hb h
def LiteR (x : BatR) : Prop := x.l.map (·.1) = x.b.recs ∧ LiteB 1000000 x.b
theorem bats_know {K : Know} {v : Value} {l : List BatR} (h1 : K.has (Know.flat RBat v 12 l)) (h2 : ∀ x ∈ l, K.has (Know.recs (.slice x.q x.l.length x.cap) x.l)) : K.has (Know.bats v l) := fun w F h => ⟨h1 w F h, fun x hx => h2 x hx w F h⟩
theorem bats_nilS (K : Know) : K.has (Know.bats (.slice none 0 0) []) := bats_know (fun _ _ _ => ⟨none, 0, rfl, fun h => absurd h (by simp)⟩) (fun x hx => by cases hx)
theorem St.freezeBats {W0 w : World} {K : Know} {L : List Res} {v : Value} {T : TypeId} {l : List BatR} (h : St W0 w K (.row v T 12 l.length (l.flatMap batcells) :: L)) (ht : ∀ x ∈ l, K.has (Know.recs (.slice x.q x.l.length x.cap) x.l)) : St W0 w (K.and (Know.bats v l)) L := by
 have hf := h.freezeRow (R := RBat) (fun x _ => ⟨rfl, rfl⟩)
 exact hf.know (K' := K.and (Know.bats v l)) (fun w F hh => ⟨hh.1, hh.2, fun x hx => ht x hx _ _ hh.1⟩)

end Go.Proofs.Ytngojlinfdokpaa

/- A text. -/
namespace Go.Proofs.Ytngojlinfdokpaa
open Go.RowKit

def FeedJ (sb valid : Nat) (chunk T : Bs) (W0 : World) (K : Know) (L : List Res) (l : Nat) (a' : Act) (w' : World) : Prop :=
  (l = 0 ∧ ∃ (at_ : Nat) (lv v : Value) (acc : List BatR) (K2 : Know) (u : Nat → Value), a' = { tmps := ((.pointer (some ⟨sb, 0, none⟩) : Value) :: (.string (bb chunk) : Value) :: u 2 :: u 3 :: (.slice none 0 0 : Value) :: lv :: (.int .i64 at_ : Value) :: u 7 :: u 8 :: u 9 :: u 10 :: u 11 :: u 12 :: u 13 :: u 14 :: u 15 :: u 16 :: u 17 :: u 18 :: u 19 :: u 20 :: u 21 :: u 22 :: u 23 :: u 24 :: u 25 :: u 26 :: u 27 :: u 28 :: u 29 :: u 30 :: u 31 :: u 32 :: u 33 :: u 34 :: u 35 :: u 36 :: u 37 :: u 38 :: u 39 :: u 40 :: u 41 :: u 42 :: u 43 :: u 44 :: u 45 :: u 46 :: u 47 :: u 48 :: u 49 :: u 50 :: u 51 :: u 52 :: u 53 :: u 54 :: u 55 :: u 56 :: u 57 :: u 58 :: u 59 :: u 60 :: u 61 :: u 62 :: u 63 :: u 64 :: u 65 :: u 66 :: u 67 :: u 68 :: u 69 :: u 70 :: u 71 :: u 72 :: u 73 :: u 74 :: u 75 :: u 76 :: u 77 :: u 78 :: u 79 :: u 80 :: u 81 :: u 82 :: u 83 :: u 84 :: u 85 :: u 86 :: []).toArray, defers := [] } ∧ at_ ≤ T.length ∧ scanS T = (acc.map BatR.b ++ (scanS (T.drop at_)).1, (scanS (T.drop at_)).2) ∧ K2.has K ∧ (∀ x ∈ acc, K2.has (Know.recs (.slice x.q x.l.length x.cap) x.l)) ∧ (∀ x ∈ acc, LiteR x) ∧ 61 * acc.length ≤ at_ ∧ St W0 w' K2 (.row lv 37 12 acc.length (acc.flatMap batcells) :: .raw sb #[.int .i64 valid, v, .int .i64 0] 78 :: .row (v) 5 1 T.length (bvals T) :: L)) ∨
  (l = 1 ∧ ∃ (at_ : Nat) (lv v : Value) (acc : List BatR) (K2 : Know) (e : Int) (u : Nat → Value), a' = { tmps := ((.pointer (some ⟨sb, 0, none⟩) : Value) :: (.string (bb chunk) : Value) :: u 2 :: u 3 :: (.slice none 0 0 : Value) :: lv :: (.int .i64 at_ : Value) :: u 7 :: u 8 :: (.int .i64 e : Value) :: u 10 :: u 11 :: u 12 :: u 13 :: u 14 :: u 15 :: u 16 :: u 17 :: u 18 :: u 19 :: u 20 :: u 21 :: u 22 :: u 23 :: u 24 :: u 25 :: u 26 :: u 27 :: u 28 :: u 29 :: u 30 :: u 31 :: u 32 :: u 33 :: u 34 :: u 35 :: u 36 :: u 37 :: u 38 :: u 39 :: u 40 :: u 41 :: u 42 :: u 43 :: u 44 :: u 45 :: u 46 :: u 47 :: u 48 :: u 49 :: u 50 :: u 51 :: u 52 :: u 53 :: u 54 :: u 55 :: u 56 :: u 57 :: u 58 :: u 59 :: u 60 :: u 61 :: u 62 :: u 63 :: u 64 :: u 65 :: u 66 :: u 67 :: u 68 :: u 69 :: u 70 :: u 71 :: u 72 :: u 73 :: u 74 :: u 75 :: u 76 :: u 77 :: u 78 :: u 79 :: u 80 :: u 81 :: u 82 :: u 83 :: u 84 :: u 85 :: u 86 :: []).toArray, defers := [] } ∧ at_ ≤ T.length ∧ scanS T = (acc.map BatR.b, T.drop at_, e) ∧ K2.has K ∧ (∀ x ∈ acc, K2.has (Know.recs (.slice x.q x.l.length x.cap) x.l)) ∧ (∀ x ∈ acc, LiteR x) ∧ 61 * acc.length ≤ at_ ∧ St W0 w' K2 (.row lv 37 12 acc.length (acc.flatMap batcells) :: .raw sb #[.int .i64 valid, v, .int .i64 0] 78 :: .row (v) 5 1 T.length (bvals T) :: L))
def FeedM (T : Bs) (l : Nat) (a : Act) (_ : World) : Nat := if l = 0 then T.length + 1 - (intOf (a.tmps.getD 6 undef)).toNat else 0

theorem FeedM_lt1 {T : Bs} {a a' : Act} {w w' : World} {at_ : Nat} (h : FeedM T 0 a w = T.length + 1 - at_) (h2 : at_ ≤ T.length) : FeedM T 1 a' w' < FeedM T 0 a w := by
 rw [h]
 show 0 < _
 omega
theorem FeedM_lt0 {T : Bs} {a a' : Act} {w w' : World} {at_ n : Nat} (h : FeedM T 0 a w = T.length + 1 - at_) (h2 : at_ ≤ T.length) (h3 : 0 < n) (h4 : FeedM T 0 a' w' = T.length + 1 - (at_ + n)) : FeedM T 0 a' w' < FeedM T 0 a w := by
 rw [h, h4]
 omega

theorem FeedJ.elim0 {sb valid : Nat} {chunk T : Bs} {W0 : World} {K : Know} {L : List Res} {a' : Act} {w' : World} {P : Act → World → Prop} (h : FeedJ sb valid chunk T W0 K L 0 a' w')
    (go : ∀ (at_ : Nat) (lv v : Value) (acc : List BatR) (K2 : Know) (u : Nat → Value), at_ ≤ T.length → scanS T = (acc.map BatR.b ++ (scanS (T.drop at_)).1, (scanS (T.drop at_)).2) → K2.has K → (∀ x ∈ acc, K2.has (Know.recs (.slice x.q x.l.length x.cap) x.l)) → (∀ x ∈ acc, LiteR x) → 61 * acc.length ≤ at_ → St W0 w' K2 (.row lv 37 12 acc.length (acc.flatMap batcells) :: .raw sb #[.int .i64 valid, v, .int .i64 0] 78 :: .row (v) 5 1 T.length (bvals T) :: L) → FeedM T 0 a' w' = T.length + 1 - at_ → P { tmps := ((.pointer (some ⟨sb, 0, none⟩) : Value) :: (.string (bb chunk) : Value) :: u 2 :: u 3 :: (.slice none 0 0 : Value) :: lv :: (.int .i64 at_ : Value) :: u 7 :: u 8 :: u 9 :: u 10 :: u 11 :: u 12 :: u 13 :: u 14 :: u 15 :: u 16 :: u 17 :: u 18 :: u 19 :: u 20 :: u 21 :: u 22 :: u 23 :: u 24 :: u 25 :: u 26 :: u 27 :: u 28 :: u 29 :: u 30 :: u 31 :: u 32 :: u 33 :: u 34 :: u 35 :: u 36 :: u 37 :: u 38 :: u 39 :: u 40 :: u 41 :: u 42 :: u 43 :: u 44 :: u 45 :: u 46 :: u 47 :: u 48 :: u 49 :: u 50 :: u 51 :: u 52 :: u 53 :: u 54 :: u 55 :: u 56 :: u 57 :: u 58 :: u 59 :: u 60 :: u 61 :: u 62 :: u 63 :: u 64 :: u 65 :: u 66 :: u 67 :: u 68 :: u 69 :: u 70 :: u 71 :: u 72 :: u 73 :: u 74 :: u 75 :: u 76 :: u 77 :: u 78 :: u 79 :: u 80 :: u 81 :: u 82 :: u 83 :: u 84 :: u 85 :: u 86 :: []).toArray, defers := [] } w') : P a' w' := by
  rcases h with ⟨_, at_, lv, v, acc, K2, u, rfl, h1, h2, h3, h4, h5, h6, h7⟩ | ⟨h, _⟩
  · exact go _ _ _ _ _ _ h1 h2 h3 h4 h5 h6 h7 rfl
  · cases h
theorem FeedJ.mk0 {sb valid : Nat} {chunk T : Bs} {W0 : World} {K : Know} {L : List Res} {a' : Act} {w' : World} (at_ : Nat) (lv v : Value) (acc : List BatR) (K2 : Know) (ha : a' = (fun u : Nat → Value => ({ tmps := ((.pointer (some ⟨sb, 0, none⟩) : Value) :: (.string (bb chunk) : Value) :: u 2 :: u 3 :: (.slice none 0 0 : Value) :: lv :: (.int .i64 at_ : Value) :: u 7 :: u 8 :: u 9 :: u 10 :: u 11 :: u 12 :: u 13 :: u 14 :: u 15 :: u 16 :: u 17 :: u 18 :: u 19 :: u 20 :: u 21 :: u 22 :: u 23 :: u 24 :: u 25 :: u 26 :: u 27 :: u 28 :: u 29 :: u 30 :: u 31 :: u 32 :: u 33 :: u 34 :: u 35 :: u 36 :: u 37 :: u 38 :: u 39 :: u 40 :: u 41 :: u 42 :: u 43 :: u 44 :: u 45 :: u 46 :: u 47 :: u 48 :: u 49 :: u 50 :: u 51 :: u 52 :: u 53 :: u 54 :: u 55 :: u 56 :: u 57 :: u 58 :: u 59 :: u 60 :: u 61 :: u 62 :: u 63 :: u 64 :: u 65 :: u 66 :: u 67 :: u 68 :: u 69 :: u 70 :: u 71 :: u 72 :: u 73 :: u 74 :: u 75 :: u 76 :: u 77 :: u 78 :: u 79 :: u 80 :: u 81 :: u 82 :: u 83 :: u 84 :: u 85 :: u 86 :: []).toArray, defers := [] } : Act)) (fun i => a'.tmps.getD i undef)) (h1 : at_ ≤ T.length) (h2 : scanS T = (acc.map BatR.b ++ (scanS (T.drop at_)).1, (scanS (T.drop at_)).2)) (h3 : K2.has K) (h4 : ∀ x ∈ acc, K2.has (Know.recs (.slice x.q x.l.length x.cap) x.l)) (h5 : ∀ x ∈ acc, LiteR x) (h6 : 61 * acc.length ≤ at_) (h7 : St W0 w' K2 (.row lv 37 12 acc.length (acc.flatMap batcells) :: .raw sb #[.int .i64 valid, v, .int .i64 0] 78 :: .row (v) 5 1 T.length (bvals T) :: L)) : FeedJ sb valid chunk T W0 K L 0 a' w' :=
 .inl ⟨rfl, at_, lv, v, acc, K2, (fun i => a'.tmps.getD i undef), ha, h1, h2, h3, h4, h5, h6, h7⟩

theorem FeedJ.elim1 {sb valid : Nat} {chunk T : Bs} {W0 : World} {K : Know} {L : List Res} {a' : Act} {w' : World} {P : Act → World → Prop} (h : FeedJ sb valid chunk T W0 K L 1 a' w')
    (go : ∀ (at_ : Nat) (lv v : Value) (acc : List BatR) (K2 : Know) (e : Int) (u : Nat → Value), at_ ≤ T.length → scanS T = (acc.map BatR.b, T.drop at_, e) → K2.has K → (∀ x ∈ acc, K2.has (Know.recs (.slice x.q x.l.length x.cap) x.l)) → (∀ x ∈ acc, LiteR x) → 61 * acc.length ≤ at_ → St W0 w' K2 (.row lv 37 12 acc.length (acc.flatMap batcells) :: .raw sb #[.int .i64 valid, v, .int .i64 0] 78 :: .row (v) 5 1 T.length (bvals T) :: L) → FeedM T 1 a' w' = 0 → P { tmps := ((.pointer (some ⟨sb, 0, none⟩) : Value) :: (.string (bb chunk) : Value) :: u 2 :: u 3 :: (.slice none 0 0 : Value) :: lv :: (.int .i64 at_ : Value) :: u 7 :: u 8 :: (.int .i64 e : Value) :: u 10 :: u 11 :: u 12 :: u 13 :: u 14 :: u 15 :: u 16 :: u 17 :: u 18 :: u 19 :: u 20 :: u 21 :: u 22 :: u 23 :: u 24 :: u 25 :: u 26 :: u 27 :: u 28 :: u 29 :: u 30 :: u 31 :: u 32 :: u 33 :: u 34 :: u 35 :: u 36 :: u 37 :: u 38 :: u 39 :: u 40 :: u 41 :: u 42 :: u 43 :: u 44 :: u 45 :: u 46 :: u 47 :: u 48 :: u 49 :: u 50 :: u 51 :: u 52 :: u 53 :: u 54 :: u 55 :: u 56 :: u 57 :: u 58 :: u 59 :: u 60 :: u 61 :: u 62 :: u 63 :: u 64 :: u 65 :: u 66 :: u 67 :: u 68 :: u 69 :: u 70 :: u 71 :: u 72 :: u 73 :: u 74 :: u 75 :: u 76 :: u 77 :: u 78 :: u 79 :: u 80 :: u 81 :: u 82 :: u 83 :: u 84 :: u 85 :: u 86 :: []).toArray, defers := [] } w') : P a' w' := by
  rcases h with ⟨h, _⟩ | ⟨_, at_, lv, v, acc, K2, e, u, rfl, h1, h2, h3, h4, h5, h6, h7⟩
  · cases h
  · exact go _ _ _ _ _ _ _ h1 h2 h3 h4 h5 h6 h7 rfl
theorem FeedJ.mk1 {sb valid : Nat} {chunk T : Bs} {W0 : World} {K : Know} {L : List Res} {a' : Act} {w' : World} (at_ : Nat) (lv v : Value) (acc : List BatR) (K2 : Know) (e : Int) (ha : a' = (fun u : Nat → Value => ({ tmps := ((.pointer (some ⟨sb, 0, none⟩) : Value) :: (.string (bb chunk) : Value) :: u 2 :: u 3 :: (.slice none 0 0 : Value) :: lv :: (.int .i64 at_ : Value) :: u 7 :: u 8 :: (.int .i64 e : Value) :: u 10 :: u 11 :: u 12 :: u 13 :: u 14 :: u 15 :: u 16 :: u 17 :: u 18 :: u 19 :: u 20 :: u 21 :: u 22 :: u 23 :: u 24 :: u 25 :: u 26 :: u 27 :: u 28 :: u 29 :: u 30 :: u 31 :: u 32 :: u 33 :: u 34 :: u 35 :: u 36 :: u 37 :: u 38 :: u 39 :: u 40 :: u 41 :: u 42 :: u 43 :: u 44 :: u 45 :: u 46 :: u 47 :: u 48 :: u 49 :: u 50 :: u 51 :: u 52 :: u 53 :: u 54 :: u 55 :: u 56 :: u 57 :: u 58 :: u 59 :: u 60 :: u 61 :: u 62 :: u 63 :: u 64 :: u 65 :: u 66 :: u 67 :: u 68 :: u 69 :: u 70 :: u 71 :: u 72 :: u 73 :: u 74 :: u 75 :: u 76 :: u 77 :: u 78 :: u 79 :: u 80 :: u 81 :: u 82 :: u 83 :: u 84 :: u 85 :: u 86 :: []).toArray, defers := [] } : Act)) (fun i => a'.tmps.getD i undef)) (h1 : at_ ≤ T.length) (h2 : scanS T = (acc.map BatR.b, T.drop at_, e)) (h3 : K2.has K) (h4 : ∀ x ∈ acc, K2.has (Know.recs (.slice x.q x.l.length x.cap) x.l)) (h5 : ∀ x ∈ acc, LiteR x) (h6 : 61 * acc.length ≤ at_) (h7 : St W0 w' K2 (.row lv 37 12 acc.length (acc.flatMap batcells) :: .raw sb #[.int .i64 valid, v, .int .i64 0] 78 :: .row (v) 5 1 T.length (bvals T) :: L)) : FeedJ sb valid chunk T W0 K L 1 a' w' :=
 .inr ⟨rfl, at_, lv, v, acc, K2, e, (fun i => a'.tmps.getD i undef), ha, h1, h2, h3, h4, h5, h6, h7⟩

end Go.Proofs.Ytngojlinfdokpaa

/- A text. -/
namespace Go.Proofs.Ytngojlinfdokpaa
open Go.RowKit

theorem op_skip {P : Program} {o : Oper} {a : Act} {w w' : World} {KK : Act → World → Prop} {Q : Exit → Act → World → Prop} (hr : (execOp a.eval o).run P w = .ok .skip w') (h : KK (a.put o.dst undef) w') : o.wp P a w KK Q := by
 unfold Oper.wp
 rw [hr]
 exact h
theorem St.setEx {W0 w : World} {K : Know} {L : List Res} {b : Nat} {c : Array Value} {T : TypeId} (h : St W0 w K (.raw b c T :: L)) (j : Nat) (v : Value) : ∃ wz, w.setCell ⟨b, j, none⟩ v = wz ∧ St W0 wz K (.raw b (c.setIfInBounds j v) T :: L) := ⟨_, rfl, h.rawSet j v⟩

end Go.Proofs.Ytngojlinfdokpaa

/- A text. -/
namespace Go.Proofs.Ytngojlinfdokpaa
open Go.RowKit

theorem Keeps.setRow (w : World) (g : Nat) (c : Array Value) : Keeps (fun k => k = g) w (w.setRow g c) := ⟨rfl, rfl, rfl, by simp [World.setRow], fun k _ hk => setRow_other w g k c hk⟩
theorem bvals_dropS (s : Bs) (k : Nat) : bvals (s.drop k) = (bvals s).drop k := by unfold bvals; rw [List.map_drop]
theorem bvals_oneS (s : Bs) : ∀ v ∈ bvals s, v.oneCell' = true := by
 intro v hv
 unfold bvals at hv
 obtain ⟨c, _, rfl⟩ := List.mem_map.1 hv
 rfl
theorem take_copyS (l : List Value) (n a : Nat) (ha : a ≤ n) (hn : n ≤ l.length) : ((l.take n).drop a ++ l.drop (n - a)).take n = (l.take n).drop a ++ (l.take n).drop (n - a) := by
 have hA : ((l.take n).drop a).length = n - a := by rw [List.length_drop, List.length_take]; omega
 rw [List.take_append, hA, List.take_of_length_le (by omega), show n - (n - a) = a by omega, List.drop_take (i := n - a), show n - (n - a) = a by omega]
theorem op_copyrow {W0 w : World} {K : Know} {L : List Res} {o : Oper} {a : Act} {KK : Act → World → Prop} {Q : Exit → Act → World → Prop} (d s : Operand)
    (ho : o.op = .call { callee := .builtin .copy, args := #[d, s], argTypes := #[33, 33] }) (g cap : Nat) (T : Bs) (at_ : Nat) (hat : at_ ≤ T.length)
    (hd : a.eval d = .slice (some ⟨g, 0, none⟩) T.length cap) (sp : Option Addr) (sl sc : Nat) (hs : a.eval s = .slice sp sl sc) (hsl : sl = T.length - at_) (hsp : at_ < T.length → sp = some ⟨g, at_, none⟩)
    (hst : St W0 w K (.row (.slice (some ⟨g, 0, none⟩) T.length cap) 5 1 T.length (bvals T) :: L))
    (h : ∀ w', St W0 w' K (.row (.slice (some ⟨g, 0, none⟩) T.length cap) 5 1 T.length (bvals (T.drop at_ ++ T.drop (T.length - at_))) :: L) → KK (a.put o.dst (.int .i64 ((T.length - at_ : Nat) : Int))) w') : o.wp Try.prog a w KK Q := by
  subst hsl
  have hes : (Try.prog.info? 5).map (·.size) = some 1 := by kernel_rfl
  by_cases h0 : at_ = T.length
  · have hrun := run_copy_none (P := Try.prog) w 33 33 o.type 5 (some ⟨g, 0, none⟩) sp T.length cap (T.length - at_) sc Try.underlying33 hes (by rw [h0]; simp)
    unfold Oper.wp execOp
    simp only [ho, resolve, invoke, builtin, Sem.run_bind, Sem.run_pure, Result.andThen_ok, List.map_toArray, List.map_cons, List.map_nil, hd, hs, hrun]
    have h1 := h w (by
      rw [h0, List.drop_length, Nat.sub_self, List.drop_zero, List.nil_append]
      exact hst)
    rw [h0, Nat.sub_self] at h1
    exact h1
  · have hlt : at_ < T.length := by omega
    obtain rfl := hsp hlt
    rcases hst.rowGet.2 with ⟨hv, _⟩ | ⟨g2, cap2, cur, e1, _, e3, e4, e5, e6, e7⟩
    · cases hv
    simp at e1
    obtain ⟨rfl, rfl⟩ := e1
    have hrun := run_copy_row (P := Try.prog) w 33 33 o.type 5 g 0 T.length cap ⟨g, at_, none⟩ (T.length - at_) sc cur 5 (bvals (T.drop at_)) Try.underlying33 hes e3 (by rw [bvals_length, List.length_drop]; exact (Nat.min_eq_left (by omega)).symm)
      (fun j v hj => by
        have ha : (⟨g, at_, none⟩ : Addr).add j = ⟨g, at_ + j, none⟩ := by unfold Addr.add; split <;> simp_all
        have hjl : j < (bvals (T.drop at_)).length := (List.getElem?_eq_some_iff.1 hj).1
        rw [bvals_length, List.length_drop] at hjl
        rw [ha, hst.rowCell (at_ + j) (by omega)]
        rw [bvals_dropS, List.getElem?_drop] at hj
        exact hj) (by rw [bvals_length, List.length_drop]; omega) (bvals_oneS _)
    unfold Oper.wp execOp
    simp only [ho, resolve, invoke, builtin, Sem.run_bind, Sem.run_pure, Result.andThen_ok, List.map_toArray, List.map_cons, List.map_nil, hd, hs, hrun]
    have hk : (bvals (T.drop at_)).length = T.length - at_ := by rw [bvals_length, List.length_drop]
    have hst2 : St W0 (w.setRow g (cur.toList.take 0 ++ bvals (T.drop at_) ++ cur.toList.drop (0 + (bvals (T.drop at_)).length)).toArray) K (.row (.slice (some ⟨g, 0, none⟩) T.length cap) 5 1 T.length (bvals (T.drop at_ ++ T.drop (T.length - at_))) :: L) := by
      refine hst.step fun S1 h1 => ⟨S1, ⟨⟨?_, .inr ⟨g, cap, _, rfl, Nat.zero_le _, setRow_heap w g cur _ _ _ e3, e4, e5, ?_, ?_⟩⟩, h1.2⟩, (Keeps.setRow w g _).mono (fun k _ hk => by subst hk; exact (h1.2 _).2 rfl), fun k hk => ⟨.inl hk, ?_⟩⟩
      · rw [bvals_length, List.length_append, List.length_drop, List.length_drop]; omega
      · have hcl : cur.toList.length = cap := by rw [Array.length_toList]; omega
        simp only [List.take_zero, List.nil_append, Nat.zero_add, List.size_toArray, List.length_append, List.length_drop, hk, hcl]
        omega
      · rw [List.take_zero, List.nil_append, Nat.zero_add, hk, bvals_append, bvals_dropS, bvals_dropS, ← e7]
        simp only [Nat.mul_one]
        exact take_copyS _ _ _ hat (by have hq : cur.toList.length = cur.size := Array.length_toList; omega)
      · have := (h1.1.lt k ((h1.2 k).1 hk)).2
        simpa [World.setRow] using this
    have h1 := h _ hst2
    have hgi : goInt (((bvals (T.drop at_)).length : Nat) : Int) = .int .i64 ((T.length - at_ : Nat) : Int) := by rw [hk]; rfl
    show KK (a.put o.dst (goInt (((bvals (T.drop at_)).length : Nat) : Int))) _
    rw [hgi]
    exact h1

end Go.Proofs.Ytngojlinfdokpaa
