/- Scripts that are one. -/
import Derived.Test.YtenojajfacacoaaDoorGScriptBackCard7
import Derived.Test.YtenojajfacacoaaDoorRegOp
import Derived.RegionTactic
import Derived.WalkMore
import Derived.Deep.RegionHeld3
import Derived.Deep.DeepCutAuto
import Derived.Test.YtenojajfacacoaaDoorGScriptBackCard5
import Derived.Test.YtenojajfacacoaaDoorGScriptBackCard2
import Derived.Test.YtenojajfacacoaaDoorGScriptBackCard1
/- Scripts that are not looked at. -/
namespace Go.Proofs.YtenojajfacacoaaDoor
open Go.RowKit

set_option maxHeartbeats 8000000 in
set_option maxRecDepth 100000 in
theorem sbk_big (l : List BtR) (c : Int) (ch : List Int) (qb q : Option Addr) (bcap cap : Nat) (hfit : ∀ x ∈ l, FitW x.l) (hs : smallS l ch = false) {W0 w : World} {K : Know} (hlib : K.has Know.lib) (hkb : K.has (Know.btrs (.slice qb l.length bcap) l)) (hkc : K.has (Know.flat RInt (.slice q ch.length cap) 1 ch)) (h : St W0 w K []) :
    Calls Tryd.prog 3 #[.agg #[.slice qb l.length bcap, .int .i64 c, .slice q ch.length cap]] w fun en w' => en = .returned (.bool true) ∧ Below W0.heap.size W0 w' := by
  obtain ⟨rb, hrb⟩ : ∃ b, w.heap.size = b := ⟨_, rfl⟩
  have g1 := h.allocRaw #[.slice qb l.length bcap, .int .i64 c, .slice q ch.length cap] 25
  rw [hrb] at g1
  have x0 := (g1).rawCell 0; have x1 := (g1).rawCell 1; have x2 := (g1).rawCell 2; simp at x0 x1 x2
  have H := Lib.hid g1
  have HLIB := Lib.hid hlib
  have HKB := Lib.hid hkb
  have HKC := Lib.hid hkc
  have HFT := Lib.hid hfit
  have HSM := Lib.hid hs
  clear h g1 hlib hkb hkc hfit hs
  go_enter Tryd.func3, Tryd.ntmps3
  go_wp2_with (first
    | (go_at_call 6; (with_reducible refine (speaks25 HLIB.out H.out).mono ?_); rintro e_ wn ⟨K1, rfl, hkk, h⟩; have HL1 := Lib.hid (Know.has_trans hkk HLIB.out); have HKB1 := Lib.hid (Know.has_trans hkk HKB.out); have HKC1 := Lib.hid (Know.has_trans hkk HKC.out); clear hkk; have x0 := (h).rawCell 0; have x1 := (h).rawCell 1; have x2 := (h).rawCell 2; simp at x0 x1 x2; replace H := Lib.hid h; clear h)
    | (go_at_call 7; (with_reducible refine (sc_small0 qb bcap c q cap ch l HSM.out HFT.out HKB1.out H.out).mono ?_); rintro e_ wn ⟨rfl, h⟩; have x0 := (h).rawCell 0; have x1 := (h).rawCell 1; have x2 := (h).rawCell 2; simp at x0 x1 x2; replace H := Lib.hid h; clear h))
  go_ret
  exact ⟨rfl, H.out.below⟩

set_option maxHeartbeats 8000000 in
set_option maxRecDepth 100000 in
theorem sbk_not (l : List BtR) (c : Int) (ch : List Int) (qb q : Option Addr) (bcap cap : Nat) (hfit : ∀ x ∈ l, FitW x.l) (hs : smallS l ch = true) (hm : ¬ mayP l c) {W0 w : World} {K : Know} (hlib : K.has Know.lib) (hkb : K.has (Know.btrs (.slice qb l.length bcap) l)) (hkc : K.has (Know.flat RInt (.slice q ch.length cap) 1 ch)) (h : St W0 w K []) :
    Calls Tryd.prog 3 #[.agg #[.slice qb l.length bcap, .int .i64 c, .slice q ch.length cap]] w fun en w' => en = .returned (.bool true) ∧ Below W0.heap.size W0 w' := by
  obtain ⟨rb, hrb⟩ : ∃ b, w.heap.size = b := ⟨_, rfl⟩
  have g1 := h.allocRaw #[.slice qb l.length bcap, .int .i64 c, .slice q ch.length cap] 25
  rw [hrb] at g1
  have x0 := (g1).rawCell 0; have x1 := (g1).rawCell 1; have x2 := (g1).rawCell 2; simp at x0 x1 x2
  have H := Lib.hid g1
  have HLIB := Lib.hid hlib
  have HKB := Lib.hid hkb
  have HKC := Lib.hid hkc
  have HFT := Lib.hid hfit
  obtain ⟨hl8, hc200, hx12⟩ := small_bounds hs
  have HSM := Lib.hid hs
  have HLL := Lib.hid (show (l.length : Int) ≤ 1000000 by omega)
  have HRL := Lib.hid (show ∀ x ∈ l, (x.l.length : Int) ≤ 1000000 from fun x hx => by have := (hx12 x hx).1; omega)
  have HHL := Lib.hid (show ∀ x ∈ l, ∀ y ∈ x.l, (y.1.hdrs.length : Int) ≤ 1000000 from fun x hx y hy => by have := (hx12 x hx).2 y hy; omega)
  have HMB := Lib.hid hm
  clear h g1 hlib hkb hkc hfit hs hl8 hc200 hx12 hm
  go_enter Tryd.func3, Tryd.ntmps3
  go_wp2_with (first
    | (go_at_call 6; (with_reducible refine (speaks25 HLIB.out H.out).mono ?_); rintro e_ wn ⟨K1, rfl, hkk, h⟩; have HL1 := Lib.hid (Know.has_trans hkk HLIB.out); have HKB1 := Lib.hid (Know.has_trans hkk HKB.out); have HKC1 := Lib.hid (Know.has_trans hkk HKC.out); clear hkk; have x0 := (h).rawCell 0; have x1 := (h).rawCell 1; have x2 := (h).rawCell 2; simp at x0 x1 x2; replace H := Lib.hid h; clear h)
    | (go_at_call 7; (with_reducible refine (sc_small1 qb bcap c q cap ch l HSM.out HFT.out HKB1.out H.out).mono ?_); rintro e_ wn ⟨rfl, h⟩; have x0 := (h).rawCell 0; have x1 := (h).rawCell 1; have x2 := (h).rawCell 2; simp at x0 x1 x2; replace H := Lib.hid h; clear h)
    | (go_at_call 8; (with_reducible refine (rs_mayF _ c q cap ch l HMB.out HLL.out HRL.out HHL.out HKB1.out H.out).mono ?_); rintro e_ wn ⟨rfl, h⟩; have x0 := (h).rawCell 0; have x1 := (h).rawCell 1; have x2 := (h).rawCell 2; simp at x0 x1 x2; replace H := Lib.hid h; clear h))
  go_ret
  exact ⟨rfl, H.out.below⟩

end Go.Proofs.YtenojajfacacoaaDoor
/- Rows of batches that are one (pure). -/
namespace Go.Proofs.YtenojajfacacoaaDoor
open Go.RowKit

/-- Not too long to be looked at. -/
def liteX (x : BtR) : Prop := x.l.length ≤ 1000000 ∧ ∀ y ∈ x.l, y.1.hdrs.length ≤ 9223372036854775807
theorem lite_eq {x y : BtR} (h : x.val = y.val) (hy : liteX y) : liteX x := by
  have e : x.l.map (·.1) = y.l.map (·.1) := congrArg BatS.recs h
  have e1 := congrArg List.length e
  rw [List.length_map, List.length_map] at e1
  refine ⟨e1 ▸ hy.1, fun z hz => ?_⟩
  have h1 : z.1 ∈ y.l.map (·.1) := e ▸ List.mem_map.2 ⟨z, hz, rfl⟩
  obtain ⟨u, hu, e2⟩ := List.mem_map.1 h1
  rw [← e2]
  exact hy.2 u hu
theorem btrs_cellV {n cap b off : Nat} {l : List BtR} {W0 w : World} {K : Know} {L : List Res} (hk : K.has (Know.btrs (.slice (some ⟨b, off, none⟩) n cap) l)) (h : St W0 w K L) (i : Nat) (hi : i < l.length) (x : BtR) (hx : l[i] = x) (B : BatS) (hB : x.val = B) (v : Value) (hv : x.v = v) :
    w.cell? ⟨b, off + i * 12, none⟩ = some (.int .i64 B.base) ∧ w.cell? ⟨b, off + i * 12 + 1, none⟩ = some (.int .i64 B.leader) ∧ w.cell? ⟨b, off + i * 12 + 2, none⟩ = some (.bool B.app) ∧ w.cell? ⟨b, off + i * 12 + 3, none⟩ = some (.bool B.txn) ∧ w.cell? ⟨b, off + i * 12 + 4, none⟩ = some (.bool B.ctl) ∧ w.cell? ⟨b, off + i * 12 + 5, none⟩ = some (.int .i64 B.last) ∧ w.cell? ⟨b, off + i * 12 + 6, none⟩ = some (.int .i64 B.first) ∧ w.cell? ⟨b, off + i * 12 + 7, none⟩ = some (.int .i64 B.maxt) ∧ w.cell? ⟨b, off + i * 12 + 8, none⟩ = some (.int .i64 B.prod) ∧ w.cell? ⟨b, off + i * 12 + 9, none⟩ = some (.int .i64 B.epoch) ∧ w.cell? ⟨b, off + i * 12 + 10, none⟩ = some (.int .i64 B.seq) ∧ w.cell? ⟨b, off + i * 12 + 11, none⟩ = some (v) := by
  subst hB hv
  exact btrs_cell hk h i hi x hx

end Go.Proofs.YtenojajfacacoaaDoor
/- Are two batches one: pure. -/
namespace Go.Proofs.YtenojajfacacoaaDoor
open Go.RowKit

theorem batS_ne {a b : BatS} (h : ¬ a = b) {r : Bool} (hr : decide (a = b) = r) : r = false := by rw [← hr]; exact decide_eq_false h
theorem batS_recs (base1 : Int) (leader1 : Int) (app1 : Bool) (txn1 : Bool) (ctl1 : Bool) (last1 : Int) (first1 : Int) (maxt1 : Int) (prod1 : Int) (epoch1 : Int) (seq1 : Int) (base2 : Int) (leader2 : Int) (app2 : Bool) (txn2 : Bool) (ctl2 : Bool) (last2 : Int) (first2 : Int) (maxt2 : Int) (prod2 : Int) (epoch2 : Int) (seq2 : Int) (l1 l2 : List RecS) (h : l1 ≠ l2) : ((⟨base1, leader1, app1, txn1, ctl1, last1, first1, maxt1, prod1, epoch1, seq1, l1⟩ : BatS)) ≠ (⟨base2, leader2, app2, txn2, ctl2, last2, first2, maxt2, prod2, epoch2, seq2, l2⟩ : BatS) := by intro hh; injection hh; contradiction
theorem map_take_succ (l : List (RecS × Value)) (k : Nat) (h : k < l.length) (x : RecS) (hx : l[k].1 = x) : (l.map (·.1)).take (k + 1) = (l.map (·.1)).take k ++ [x] := by
  subst hx
  rw [List.take_succ_eq_append_getElem (by simpa using h)]
  simp
theorem map_ne_of_get (l m : List (RecS × Value)) (k : Nat) (h1 : k < l.length) (h2 : k < m.length) (x y : RecS) (hx : l[k].1 = x) (hy : m[k].1 = y) (h : x ≠ y) : l.map (·.1) ≠ m.map (·.1) := by
  intro hh
  have e1 : (l.map (·.1))[k]? = (m.map (·.1))[k]? := by rw [hh]
  rw [List.getElem?_map, List.getElem?_map, List.getElem?_eq_getElem h1, List.getElem?_eq_getElem h2] at e1
  simp at e1
  exact h (hx ▸ hy ▸ e1)
theorem map_len_ne (l m : List (RecS × Value)) (h : l.length ≠ m.length) : l.map (·.1) ≠ m.map (·.1) := fun hh => h (by have := congrArg List.length hh; simpa using this)

end Go.Proofs.YtenojajfacacoaaDoor
/- Are two batches one: those that are: the document. -/
namespace Go.Proofs.YtenojajfacacoaaDoor
open Go.RowKit

set_option maxHeartbeats 4000000 in
set_option maxRecDepth 100000 in
theorem ref11_sameT0 (base : Int) (leader : Int) (app : Bool) (txn : Bool) (ctl : Bool) (last : Int) (first : Int) (maxt : Int) (prod : Int) (epoch : Int) (seq : Int) (l1 l2 : List (RecS × Value)) (q1 q2 : Option Addr) (cap1 cap2 : Nat) (hn : l1.length ≤ 1000000) (hr : l1.map (·.1) = l2.map (·.1)) (hf1 : ∀ x ∈ l1, x.1.hdrs.length ≤ 9223372036854775807) (hf2 : ∀ x ∈ l2, x.1.hdrs.length ≤ 9223372036854775807) {W0 w : World} {K : Know} {L : List Res} (hk1 : K.has (Know.recs (.slice q1 l1.length cap1) l1)) (hk2 : K.has (Know.recs (.slice q2 l2.length cap2) l2)) (h : St W0 w K L) :
    Calls Tryd.prog 47 #[.agg #[.int .i64 base, .int .i64 leader, .bool app, .bool txn, .bool ctl, .int .i64 last, .int .i64 first, .int .i64 maxt, .int .i64 prod, .int .i64 epoch, .int .i64 seq, .slice q1 l1.length cap1], .agg #[.int .i64 base, .int .i64 leader, .bool app, .bool txn, .bool ctl, .int .i64 last, .int .i64 first, .int .i64 maxt, .int .i64 prod, .int .i64 epoch, .int .i64 seq, .slice q2 l2.length cap2]] w fun en w' => en = .returned (.bool true) ∧ St W0 w' K L := by
  obtain ⟨hb, hhb⟩ : ∃ b, w.heap.size = b := ⟨_, rfl⟩
  have h1 := (h.allocRaw #[.int .i64 base, .int .i64 leader, .bool app, .bool txn, .bool ctl, .int .i64 last, .int .i64 first, .int .i64 maxt, .int .i64 prod, .int .i64 epoch, .int .i64 seq, .slice q1 l1.length cap1] 45).allocRaw #[.int .i64 base, .int .i64 leader, .bool app, .bool txn, .bool ctl, .int .i64 last, .int .i64 first, .int .i64 maxt, .int .i64 prod, .int .i64 epoch, .int .i64 seq, .slice q2 l2.length cap2] 45
  rw [World.size_alloc, hhb] at h1
  obtain ⟨hc, hhc⟩ : ∃ b, hb + 1 = b := ⟨_, rfl⟩
  rw [hhc] at h1
  obtain ⟨b0, b1, b2, b3, b4, b5, b6, b7, b8, b9, b10, b11, fb0, fb1, fb2, fb3, fb4, fb5, fb6, fb7, fb8, fb9, fb10, fb11⟩ := raw12 (b := hc) h1
  obtain ⟨a0, a1, a2, a3, a4, a5, a6, a7, a8, a9, a10, a11, fa0, fa1, fa2, fa3, fa4, fa5, fa6, fa7, fa8, fa9, fa10, fa11⟩ := raw12 (b := hb) h1.p1
  have H := Lib.hid h1
  have HK1 := Lib.hid hk1
  have HK2 := Lib.hid hk2
  have hni : (l1.length : Int) ≤ 1000000 := by omega
  have HF1 := Lib.hid hf1
  have HF2 := Lib.hid hf2
  have hlen : l1.length = l2.length := by have := congrArg List.length hr; simpa using this
  have HLEN := Lib.hid hlen
  have HR := Lib.hid hr
  have g1 : ((l1.length : Int) == (l2.length : Int)) = true := by rw [hlen]; exact beq_self_eq_true _
  have g2 : ((l1.length : Int) != (l2.length : Int)) = false := by simp [bne, g1]
  have g3 : (l2.length : Int) = (l1.length : Int) := by omega
  clear h h1 hk1 hk2 hf1 hf2 hr hlen fa0 fb0 fa1 fb1 fa2 fb2 fa3 fb3 fa4 fb4 fa5 fb5 fa6 fb6 fa7 fb7 fa8 fb8 fa9 fb9 fa10 fb10 fa11 fb11
  go_enter Tryd.func47, Tryd.ntmps47
  go_wp2
  clear g1 g2 g3
  clear a0 b0 a1 b1 a2 b2 a3 b3 a4 b4 a5 b5 a6 b6 a7 b7 a8 b8 a9 b9 a10 b10 a11 b11
  go_loopw [5] (fun iv wr => ∃ k : Nat, k ≤ l1.length ∧ iv = .int .i64 k ∧ St W0 wr K (.raw hc #[.int .i64 base, .int .i64 leader, .bool app, .bool txn, .bool ctl, .int .i64 last, .int .i64 first, .int .i64 maxt, .int .i64 prod, .int .i64 epoch, .int .i64 seq, .slice q2 l2.length cap2] 45 :: .raw hb #[.int .i64 base, .int .i64 leader, .bool app, .bool txn, .bool ctl, .int .i64 last, .int .i64 first, .int .i64 maxt, .int .i64 prod, .int .i64 epoch, .int .i64 seq, .slice q1 l1.length cap1] 45 :: L)) (fun iv _ => l1.length - (intOf iv).toNat)
  case atStart => exact ⟨0, Nat.zero_le _, rfl, H.out⟩
  case round =>
    obtain ⟨k, hkl, rfl, hst⟩ := hrel
    clear H
    have H := Lib.hid hst
    clear hst
    have b11 : wr.cell? ⟨hc, 11, none⟩ = some (.slice q2 l2.length cap2) := H.out.rawCell 11
    have a11 : wr.cell? ⟨hb, 11, none⟩ = some (.slice q1 l1.length cap1) := H.out.p1.rawCell 11
    by_cases hlt : k < l1.length
    · have hlt2 : k < l2.length := by have := HLEN.out; omega
      obtain ⟨b1', off1, hqq1⟩ := recs_at HK1.out H.out (by omega)
      subst hqq1
      obtain ⟨⟨x1, v1⟩, hx1⟩ : ∃ x, l1[k] = x := ⟨_, rfl⟩
      have cc1 := recs_cell HK1.out H.out k (by omega) (x1, v1) hx1
      have hmem1 : (x1, v1) ∈ l1 := hx1 ▸ List.getElem_mem _
      have XF1 := Lib.hid (show x1.hdrs.length ≤ 9223372036854775807 from HF1.out (x1, v1) hmem1)
      have XK1 := Lib.hid (show K.has (Know.flat RHdr v1 3 x1.hdrs) from recs_hdrs HK1.out hmem1)
      simp only at cc1
      obtain ⟨c10, c11, c12, c13, c14, c15, c16⟩ := cc1
      rw [← Nat.add_assoc] at c11 c12 c13 c14 c15 c16
      have HX1 := Lib.hid (show l1[k].1 = x1 by rw [hx1])
      have HXX1 := Lib.hid hx1
      clear hmem1 hx1
      obtain ⟨b2', off2, hqq2⟩ := recs_at HK2.out H.out (by omega)
      subst hqq2
      obtain ⟨⟨x2, v2⟩, hx2⟩ : ∃ x, l2[k] = x := ⟨_, rfl⟩
      have cc2 := recs_cell HK2.out H.out k (by omega) (x2, v2) hx2
      have hmem2 : (x2, v2) ∈ l2 := hx2 ▸ List.getElem_mem _
      have XF2 := Lib.hid (show x2.hdrs.length ≤ 9223372036854775807 from HF2.out (x2, v2) hmem2)
      have XK2 := Lib.hid (show K.has (Know.flat RHdr v2 3 x2.hdrs) from recs_hdrs HK2.out hmem2)
      simp only at cc2
      obtain ⟨c20, c21, c22, c23, c24, c25, c26⟩ := cc2
      rw [← Nat.add_assoc] at c21 c22 c23 c24 c25 c26
      have HX2 := Lib.hid (show l2[k].1 = x2 by rw [hx2])
      have HXX2 := Lib.hid hx2
      clear hmem2 hx2
      have hki : (k : Int) < (l1.length : Int) := by omega
      have hki2 : (k : Int) < (l2.length : Int) := by omega
      have hk0 : (0 : Int) ≤ (k : Int) := Int.natCast_nonneg _
      have E1 := Lib.hid (show decide (x1 = x2) = true from decide_eq_true (Decidable.byContradiction fun hne => map_ne_of_get l1 l2 k hlt hlt2 x1 x2 HX1.out HX2.out hne HR.out))
      have hkeep : ∀ w', St W0 w' K (.raw hc #[.int .i64 base, .int .i64 leader, .bool app, .bool txn, .bool ctl, .int .i64 last, .int .i64 first, .int .i64 maxt, .int .i64 prod, .int .i64 epoch, .int .i64 seq, .slice (some ⟨b2', off2, none⟩) l2.length cap2] 45 :: .raw hb #[.int .i64 base, .int .i64 leader, .bool app, .bool txn, .bool ctl, .int .i64 last, .int .i64 first, .int .i64 maxt, .int .i64 prod, .int .i64 epoch, .int .i64 seq, .slice (some ⟨b1', off1, none⟩) l1.length cap1] 45 :: L) → ((w'.cell? ⟨hb, 11, none⟩ = some (.slice (some ⟨b1', off1, none⟩) l1.length cap1)) ∧ (w'.cell? ⟨hc, 11, none⟩ = some (.slice (some ⟨b2', off2, none⟩) l2.length cap2)) ∧ (w'.cell? ⟨b1', off1 + k * 7, none⟩ = some (.int .i64 x1.time) ∧ w'.cell? ⟨b1', off1 + k * 7 + 1, none⟩ = some (.int .i64 x1.off) ∧ w'.cell? ⟨b1', off1 + k * 7 + 2, none⟩ = some (.bool x1.key.null) ∧ w'.cell? ⟨b1', off1 + k * 7 + 3, none⟩ = some (.string (bb x1.key.data)) ∧ w'.cell? ⟨b1', off1 + k * 7 + 4, none⟩ = some (.bool x1.val.null) ∧ w'.cell? ⟨b1', off1 + k * 7 + 5, none⟩ = some (.string (bb x1.val.data)) ∧ w'.cell? ⟨b1', off1 + k * 7 + 6, none⟩ = some (v1)) ∧ (w'.cell? ⟨b2', off2 + k * 7, none⟩ = some (.int .i64 x2.time) ∧ w'.cell? ⟨b2', off2 + k * 7 + 1, none⟩ = some (.int .i64 x2.off) ∧ w'.cell? ⟨b2', off2 + k * 7 + 2, none⟩ = some (.bool x2.key.null) ∧ w'.cell? ⟨b2', off2 + k * 7 + 3, none⟩ = some (.string (bb x2.key.data)) ∧ w'.cell? ⟨b2', off2 + k * 7 + 4, none⟩ = some (.bool x2.val.null) ∧ w'.cell? ⟨b2', off2 + k * 7 + 5, none⟩ = some (.string (bb x2.val.data)) ∧ w'.cell? ⟨b2', off2 + k * 7 + 6, none⟩ = some (v2))) := fun w' hs => by
        have r1 := recs_cell HK1.out hs k hlt (x1, v1) HXX1.out
        have r2 := recs_cell HK2.out hs k hlt2 (x2, v2) HXX2.out
        simp only [← Nat.add_assoc] at r1 r2
        exact ⟨hs.p1.rawCell 11, hs.rawCell 11, r1, r2⟩
      have HKP := Lib.hid hkeep
      clear hkeep HX1 HX2 HXX1 HXX2
      clear hlt2
      go_upto_region 6 with (fail)
      have hs := H.out.drew
      refine wp_region_held_drew (S := fun w' => (w'.cell? ⟨hb, 11, none⟩ = some (.slice (some ⟨b1', off1, none⟩) l1.length cap1)) ∧ (w'.cell? ⟨hc, 11, none⟩ = some (.slice (some ⟨b2', off2, none⟩) l2.length cap2)) ∧ (w'.cell? ⟨b1', off1 + k * 7, none⟩ = some (.int .i64 x1.time) ∧ w'.cell? ⟨b1', off1 + k * 7 + 1, none⟩ = some (.int .i64 x1.off) ∧ w'.cell? ⟨b1', off1 + k * 7 + 2, none⟩ = some (.bool x1.key.null) ∧ w'.cell? ⟨b1', off1 + k * 7 + 3, none⟩ = some (.string (bb x1.key.data)) ∧ w'.cell? ⟨b1', off1 + k * 7 + 4, none⟩ = some (.bool x1.val.null) ∧ w'.cell? ⟨b1', off1 + k * 7 + 5, none⟩ = some (.string (bb x1.val.data)) ∧ w'.cell? ⟨b1', off1 + k * 7 + 6, none⟩ = some (v1)) ∧ (w'.cell? ⟨b2', off2 + k * 7, none⟩ = some (.int .i64 x2.time) ∧ w'.cell? ⟨b2', off2 + k * 7 + 1, none⟩ = some (.int .i64 x2.off) ∧ w'.cell? ⟨b2', off2 + k * 7 + 2, none⟩ = some (.bool x2.key.null) ∧ w'.cell? ⟨b2', off2 + k * 7 + 3, none⟩ = some (.string (bb x2.key.data)) ∧ w'.cell? ⟨b2', off2 + k * 7 + 4, none⟩ = some (.bool x2.val.null) ∧ w'.cell? ⟨b2', off2 + k * 7 + 5, none⟩ = some (.string (bb x2.val.data)) ∧ w'.cell? ⟨b2', off2 + k * 7 + 6, none⟩ = some (v2))) (by kernel_rfl) (HKP.out _ hs) (fun hHeld => ?_)
      refine wpAnyH_take (i := 0) (oi := { dst := some 97, op := Op.fieldAddr 45 (Operand.tmp 2) 11, type := 0, pos := "ref.go:180", after := #[], guard := none }) (v := ?_) rfl (by kernel_rfl) (by kernel_rfl) (by kernel_rfl) (fun _ _ _ h => h) (Or.inl ⟨by rfl, ?_⟩) (by assumption) ?_
      rotate_left
      · intro w hSw; (try dsimp only at hSw); go_simp; try with_reducible rfl
      simp only [Act.put, List.setIfInBounds_toArray, List.set_cons_zero, List.set_cons_succ]
      refine wpAnyH_take (i := 1) (oi := { dst := some 98, op := Op.load 43 (Operand.tmp 97), type := 43, pos := "ref.go:180", after := #[{ on := 0, ground := Ground.data }], guard := none }) (v := ?_) rfl (by kernel_rfl) (by kernel_rfl) (by kernel_rfl) (fun _ _ _ h => h) (Or.inl ⟨by rfl, ?_⟩) (by assumption) ?_
      rotate_left
      · intro w hSw; (try dsimp only at hSw); go_simp; try with_reducible rfl
      simp only [Act.put, List.setIfInBounds_toArray, List.set_cons_zero, List.set_cons_succ]
      refine wpAnyH_take (i := 2) (oi := { dst := some 99, op := Op.move (Operand.tmp 5), type := 3, pos := "ref.go:180", after := #[], guard := none }) (v := ?_) rfl (by kernel_rfl) (by kernel_rfl) (by kernel_rfl) (fun _ _ _ h => h) (Or.inl ⟨by rfl, ?_⟩) (by assumption) ?_
      rotate_left
      · intro w hSw; (try dsimp only at hSw); go_simp; try with_reducible rfl
      simp only [Act.put, List.setIfInBounds_toArray, List.set_cons_zero, List.set_cons_succ]
      refine wpAnyH_take (i := 3) (oi := { dst := some 100, op := Op.indexAddr 43 (Operand.tmp 98) (Operand.tmp 99), type := 0, pos := "ref.go:180", after := #[{ on := 1, ground := Ground.data }, { on := 2, ground := Ground.data }], guard := none }) (v := ?_) rfl (by kernel_rfl) (by kernel_rfl) (by kernel_rfl) (fun _ _ _ h => h) (Or.inl ⟨by rfl, ?_⟩) (by assumption) ?_
      rotate_left
      · intro w hSw; (try dsimp only at hSw); go_simp; try with_reducible rfl
      simp only [Act.put, List.setIfInBounds_toArray, List.set_cons_zero, List.set_cons_succ]
      refine wpAnyH_take (i := 4) (oi := { dst := some 101, op := Op.load 51 (Operand.tmp 100), type := 51, pos := "ref.go:180", after := #[{ on := 3, ground := Ground.data }], guard := none }) (v := ?_) rfl (by kernel_rfl) (by kernel_rfl) (by kernel_rfl) (fun _ _ _ h => h) (Or.inl ⟨by rfl, ?_⟩) (by assumption) ?_
      rotate_left
      · intro w hSw; (try dsimp only at hSw); go_simp; try with_reducible rfl
      simp only [Act.put, List.setIfInBounds_toArray, List.set_cons_zero, List.set_cons_succ]
      refine wpAnyH_take (i := 5) (oi := { dst := some 102, op := Op.fieldAddr 45 (Operand.tmp 3) 11, type := 0, pos := "ref.go:180", after := #[], guard := none }) (v := ?_) rfl (by kernel_rfl) (by kernel_rfl) (by kernel_rfl) (fun _ _ _ h => h) (Or.inl ⟨by rfl, ?_⟩) (by assumption) ?_
      rotate_left
      · intro w hSw; (try dsimp only at hSw); go_simp; try with_reducible rfl
      simp only [Act.put, List.setIfInBounds_toArray, List.set_cons_zero, List.set_cons_succ]
      refine wpAnyH_take (i := 6) (oi := { dst := some 103, op := Op.load 43 (Operand.tmp 102), type := 43, pos := "ref.go:180", after := #[{ on := 5, ground := Ground.data }], guard := none }) (v := ?_) rfl (by kernel_rfl) (by kernel_rfl) (by kernel_rfl) (fun _ _ _ h => h) (Or.inl ⟨by rfl, ?_⟩) (by assumption) ?_
      rotate_left
      · intro w hSw; (try dsimp only at hSw); go_simp; try with_reducible rfl
      simp only [Act.put, List.setIfInBounds_toArray, List.set_cons_zero, List.set_cons_succ]
      refine wpAnyH_take (i := 7) (oi := { dst := some 104, op := Op.move (Operand.tmp 5), type := 3, pos := "ref.go:180", after := #[], guard := none }) (v := ?_) rfl (by kernel_rfl) (by kernel_rfl) (by kernel_rfl) (fun _ _ _ h => h) (Or.inl ⟨by rfl, ?_⟩) (by assumption) ?_
      rotate_left
      · intro w hSw; (try dsimp only at hSw); go_simp; try with_reducible rfl
      simp only [Act.put, List.setIfInBounds_toArray, List.set_cons_zero, List.set_cons_succ]
      refine wpAnyH_take (i := 8) (oi := { dst := some 105, op := Op.indexAddr 43 (Operand.tmp 103) (Operand.tmp 104), type := 0, pos := "ref.go:180", after := #[{ on := 6, ground := Ground.data }, { on := 7, ground := Ground.data }], guard := none }) (v := ?_) rfl (by kernel_rfl) (by kernel_rfl) (by kernel_rfl) (fun _ _ _ h => h) (Or.inl ⟨by rfl, ?_⟩) (by assumption) ?_
      rotate_left
      · intro w hSw; (try dsimp only at hSw); go_simp; try with_reducible rfl
      simp only [Act.put, List.setIfInBounds_toArray, List.set_cons_zero, List.set_cons_succ]
      refine wpAnyH_take (i := 9) (oi := { dst := some 106, op := Op.load 51 (Operand.tmp 105), type := 51, pos := "ref.go:180", after := #[{ on := 8, ground := Ground.data }], guard := none }) (v := ?_) rfl (by kernel_rfl) (by kernel_rfl) (by kernel_rfl) (fun _ _ _ h => h) (Or.inl ⟨by rfl, ?_⟩) (by assumption) ?_
      rotate_left
      · intro w hSw; (try dsimp only at hSw); go_simp; try with_reducible rfl
      simp only [Act.put, List.setIfInBounds_toArray, List.set_cons_zero, List.set_cons_succ]
      refine wpAnyH_ready (rs := [10]) (by kernel_rfl) (by simp) (AllReadyH.cons (o := { dst := some 107, op := Op.call { callee := Callee.value (Operand.func 59), args := #[Operand.tmp 101, Operand.tmp 106], argTypes := #[51, 51] }, type := 4, pos := "ref.go:180", after := #[{ on := 4, ground := Ground.data }, { on := 9, ground := Ground.data }], guard := none }) rfl (fun KK hK => ?_) AllReadyH.nil)
      · go_simp
        go_at_call 59
        with_reducible refine (ref07_sameV x1 x2 v1 v2 true E1.out XF1.out XF2.out XK1.out XK2.out hs).mono ?_
        rintro e wq ⟨rfl, hs⟩
        refine hK.out _ _ (HKP.out _ hs) (fun hHeld => ?_)
        clear hK KK
        try simp only [Act.put, List.setIfInBounds_toArray, List.set_cons_zero, List.set_cons_succ]
        refine wpAnyH_take (i := 11) (oi := { dst := some 108, op := Op.unOp UnOp.not 4 (Operand.tmp 107), type := 4, pos := "ref.go:180", after := #[{ on := 10, ground := Ground.data }], guard := none }) (v := ?_) rfl (by kernel_rfl) (by kernel_rfl) (by kernel_rfl) (fun _ _ _ h => h) (Or.inl ⟨by rfl, ?_⟩) (by assumption) ?_
        rotate_left
        · intro w hSw; (try dsimp only at hSw); go_simp; try with_reducible rfl
        simp only [Act.put, List.setIfInBounds_toArray, List.set_cons_zero, List.set_cons_succ]
        refine wpAnyH_done (by kernel_rfl) ?_ _
        go_wp2_with fail
        go_roundw
        case rel => exact ⟨k + 1, hlt, by go_num, hs⟩
        case measure => first | (simp [intOf]; done) | (simp [intOf]; omega)
    · obtain rfl : k = l1.length := by omega
      go_wp2
      go_ret
      exact ⟨rfl, H.out.drop.drop⟩
theorem ref11_sameT (x : BatS) (l1 l2 : List (RecS × Value)) (q1 q2 : Option Addr) (cap1 cap2 : Nat) (hn : l1.length ≤ 1000000) (hx : l1.map (·.1) = x.recs) (hy : l2.map (·.1) = x.recs) (hf1 : ∀ x ∈ l1, x.1.hdrs.length ≤ 9223372036854775807) (hf2 : ∀ x ∈ l2, x.1.hdrs.length ≤ 9223372036854775807) {W0 w : World} {K : Know} {L : List Res} (hk1 : K.has (Know.recs (.slice q1 l1.length cap1) l1)) (hk2 : K.has (Know.recs (.slice q2 l2.length cap2) l2)) (h : St W0 w K L) :
    Calls Tryd.prog 47 #[.agg #[.int .i64 x.base, .int .i64 x.leader, .bool x.app, .bool x.txn, .bool x.ctl, .int .i64 x.last, .int .i64 x.first, .int .i64 x.maxt, .int .i64 x.prod, .int .i64 x.epoch, .int .i64 x.seq, .slice q1 l1.length cap1], .agg #[.int .i64 x.base, .int .i64 x.leader, .bool x.app, .bool x.txn, .bool x.ctl, .int .i64 x.last, .int .i64 x.first, .int .i64 x.maxt, .int .i64 x.prod, .int .i64 x.epoch, .int .i64 x.seq, .slice q2 l2.length cap2]] w fun en w' => en = .returned (.bool true) ∧ St W0 w' K L :=
  ref11_sameT0 x.base x.leader x.app x.txn x.ctl x.last x.first x.maxt x.prod x.epoch x.seq l1 l2 q1 q2 cap1 cap2 hn (hx.trans hy.symm) hf1 hf2 hk1 hk2 h

end Go.Proofs.YtenojajfacacoaaDoor
/- Scripts that are one. -/
namespace Go.Proofs.YtenojajfacacoaaDoor
open Go.RowKit

set_option maxHeartbeats 4000000 in
set_option maxRecDepth 100000 in
theorem rows_eq (l1 l2 : List BtR) (q1 q2 : Option Addr) (cap1 cap2 : Nat) (hx : l1.map BtR.val = l2.map BtR.val) (hf : ∀ x ∈ l2, liteX x) (hn : l1.length ≤ 100000) {W0 w : World} {K : Know} {L : List Res} (hk1 : K.has (Know.btrs (.slice q1 l1.length cap1) l1)) (hk2 : K.has (Know.btrs (.slice q2 l2.length cap2) l2)) (h : St W0 w K L) :
    Calls Tryd.prog 31 #[.slice q1 l1.length cap1, .slice q2 l2.length cap2] w fun en w' => en = .returned (.bool true) ∧ St W0 w' K L := by
  have H := Lib.hid h
  have HK1 := Lib.hid hk1
  have HK2 := Lib.hid hk2
  have HF := Lib.hid hf
  have HX := Lib.hid hx
  have hll : l1.length = l2.length := by have := congrArg List.length hx; rwa [List.length_map, List.length_map] at this
  have HLL := Lib.hid hll
  have hni : (l1.length : Int) ≤ 100000 := by omega
  have g0 : ((l1.length : Int) == (l2.length : Int)) = true := by rw [hll]; exact beq_self_eq_true _
  have g1 : ((l1.length : Int) != (l2.length : Int)) = false := by simp [bne, g0]
  clear h hk1 hk2 hf hx hll
  go_enter Tryd.func31, Tryd.ntmps31
  go_wp2_with fail
  go_loopw [5] (fun iv wr => ∃ k : Nat, k ≤ l1.length ∧ iv = .int .i64 k ∧ St W0 wr K L) (fun iv _ => l1.length - (intOf iv).toNat)
  case atStart => exact ⟨0, Nat.zero_le _, rfl, H.out⟩
  case round =>
    obtain ⟨k, hkl, rfl, hst⟩ := hrel
    clear H
    have H := Lib.hid hst
    clear hst
    by_cases hlt : k < l1.length
    · have hlt2 : k < l2.length := by rw [← HLL.out]; exact hlt
      obtain ⟨bk1, off1, hq1⟩ := fl_at (btrs_flat HK1.out) H.out (by omega)
      obtain ⟨bk2, off2, hq2⟩ := fl_at (btrs_flat HK2.out) H.out (by omega)
      subst hq1
      subst hq2
      obtain ⟨x1, hx1⟩ : ∃ x, l1[k] = x := ⟨_, rfl⟩
      obtain ⟨x2, hx2⟩ : ∃ x, l2[k] = x := ⟨_, rfl⟩
      have hm1 : x1 ∈ l1 := hx1 ▸ List.getElem_mem hlt
      have hm2 : x2 ∈ l2 := hx2 ▸ List.getElem_mem hlt2
      have hv : x1.val = x2.val := by
        have h1 : (l1.map BtR.val)[k]? = some x1.val := by rw [List.getElem?_map, List.getElem?_eq_getElem hlt, hx1]; rfl
        have h2 : (l2.map BtR.val)[k]? = some x2.val := by rw [List.getElem?_map, List.getElem?_eq_getElem hlt2, hx2]; rfl
        rw [HX.out, h2] at h1
        exact (Option.some.inj h1).symm
      have hl2 := HF.out _ hm2
      have hl1 := lite_eq hv hl2
      obtain ⟨b, hb⟩ : ∃ b, x2.val = b := ⟨_, rfl⟩
      rw [hb] at hv
      have hXK1 := btrs_recs HK1.out hm1
      have hXK2 := btrs_recs HK2.out hm2
      obtain ⟨xq1, xc1, hxv1⟩ := recs_form hXK1 H.out
      obtain ⟨xq2, xc2, hxv2⟩ := recs_form hXK2 H.out
      rw [hxv1] at hXK1
      rw [hxv2] at hXK2
      have HKA := Lib.hid hXK1
      have HKB := Lib.hid hXK2
      have HN1 := Lib.hid hl1.1
      have HD1 := Lib.hid hl1.2
      have HD2 := Lib.hid hl2.2
      have HX1 := Lib.hid (show x1.l.map (·.1) = b.recs by rw [← hv]; rfl)
      have HX2 := Lib.hid (show x2.l.map (·.1) = b.recs by rw [← hb]; rfl)
      have HKP := Lib.hid (show ∀ w', St W0 w' K L → (w'.cell? ⟨bk1, off1 + k * 12, none⟩ = some (.int .i64 b.base) ∧ w'.cell? ⟨bk1, off1 + k * 12 + 1, none⟩ = some (.int .i64 b.leader) ∧ w'.cell? ⟨bk1, off1 + k * 12 + 2, none⟩ = some (.bool b.app) ∧ w'.cell? ⟨bk1, off1 + k * 12 + 3, none⟩ = some (.bool b.txn) ∧ w'.cell? ⟨bk1, off1 + k * 12 + 4, none⟩ = some (.bool b.ctl) ∧ w'.cell? ⟨bk1, off1 + k * 12 + 5, none⟩ = some (.int .i64 b.last) ∧ w'.cell? ⟨bk1, off1 + k * 12 + 6, none⟩ = some (.int .i64 b.first) ∧ w'.cell? ⟨bk1, off1 + k * 12 + 7, none⟩ = some (.int .i64 b.maxt) ∧ w'.cell? ⟨bk1, off1 + k * 12 + 8, none⟩ = some (.int .i64 b.prod) ∧ w'.cell? ⟨bk1, off1 + k * 12 + 9, none⟩ = some (.int .i64 b.epoch) ∧ w'.cell? ⟨bk1, off1 + k * 12 + 10, none⟩ = some (.int .i64 b.seq) ∧ w'.cell? ⟨bk1, off1 + k * 12 + 11, none⟩ = some (.slice xq1 x1.l.length xc1) ∧ w'.cell? ⟨bk2, off2 + k * 12, none⟩ = some (.int .i64 b.base) ∧ w'.cell? ⟨bk2, off2 + k * 12 + 1, none⟩ = some (.int .i64 b.leader) ∧ w'.cell? ⟨bk2, off2 + k * 12 + 2, none⟩ = some (.bool b.app) ∧ w'.cell? ⟨bk2, off2 + k * 12 + 3, none⟩ = some (.bool b.txn) ∧ w'.cell? ⟨bk2, off2 + k * 12 + 4, none⟩ = some (.bool b.ctl) ∧ w'.cell? ⟨bk2, off2 + k * 12 + 5, none⟩ = some (.int .i64 b.last) ∧ w'.cell? ⟨bk2, off2 + k * 12 + 6, none⟩ = some (.int .i64 b.first) ∧ w'.cell? ⟨bk2, off2 + k * 12 + 7, none⟩ = some (.int .i64 b.maxt) ∧ w'.cell? ⟨bk2, off2 + k * 12 + 8, none⟩ = some (.int .i64 b.prod) ∧ w'.cell? ⟨bk2, off2 + k * 12 + 9, none⟩ = some (.int .i64 b.epoch) ∧ w'.cell? ⟨bk2, off2 + k * 12 + 10, none⟩ = some (.int .i64 b.seq) ∧ w'.cell? ⟨bk2, off2 + k * 12 + 11, none⟩ = some (.slice xq2 x2.l.length xc2)) from fun w' hs => by
        obtain ⟨a0, a1, a2, a3, a4, a5, a6, a7, a8, a9, a10, a11⟩ := btrs_cellV HK1.out hs k hlt x1 hx1 b hv _ hxv1
        obtain ⟨d0, d1, d2, d3, d4, d5, d6, d7, d8, d9, d10, d11⟩ := btrs_cellV HK2.out hs k hlt2 x2 hx2 b hb _ hxv2
        exact ⟨a0, a1, a2, a3, a4, a5, a6, a7, a8, a9, a10, a11, d0, d1, d2, d3, d4, d5, d6, d7, d8, d9, d10, d11⟩)
      have hkn : (k : Int) < (l1.length : Int) := by omega
      have hkn2 : (k : Int) < (l2.length : Int) := by omega
      clear hx1 hx2 hm1 hm2 hv hb hl1 hl2 hXK1 hXK2 hxv1 hxv2
      go_wp2_with fail
      have hs := H.out.drew
      refine wp_region_held_drew (S := fun w' => w'.cell? ⟨bk1, off1 + k * 12, none⟩ = some (.int .i64 b.base) ∧ w'.cell? ⟨bk1, off1 + k * 12 + 1, none⟩ = some (.int .i64 b.leader) ∧ w'.cell? ⟨bk1, off1 + k * 12 + 2, none⟩ = some (.bool b.app) ∧ w'.cell? ⟨bk1, off1 + k * 12 + 3, none⟩ = some (.bool b.txn) ∧ w'.cell? ⟨bk1, off1 + k * 12 + 4, none⟩ = some (.bool b.ctl) ∧ w'.cell? ⟨bk1, off1 + k * 12 + 5, none⟩ = some (.int .i64 b.last) ∧ w'.cell? ⟨bk1, off1 + k * 12 + 6, none⟩ = some (.int .i64 b.first) ∧ w'.cell? ⟨bk1, off1 + k * 12 + 7, none⟩ = some (.int .i64 b.maxt) ∧ w'.cell? ⟨bk1, off1 + k * 12 + 8, none⟩ = some (.int .i64 b.prod) ∧ w'.cell? ⟨bk1, off1 + k * 12 + 9, none⟩ = some (.int .i64 b.epoch) ∧ w'.cell? ⟨bk1, off1 + k * 12 + 10, none⟩ = some (.int .i64 b.seq) ∧ w'.cell? ⟨bk1, off1 + k * 12 + 11, none⟩ = some (.slice xq1 x1.l.length xc1) ∧ w'.cell? ⟨bk2, off2 + k * 12, none⟩ = some (.int .i64 b.base) ∧ w'.cell? ⟨bk2, off2 + k * 12 + 1, none⟩ = some (.int .i64 b.leader) ∧ w'.cell? ⟨bk2, off2 + k * 12 + 2, none⟩ = some (.bool b.app) ∧ w'.cell? ⟨bk2, off2 + k * 12 + 3, none⟩ = some (.bool b.txn) ∧ w'.cell? ⟨bk2, off2 + k * 12 + 4, none⟩ = some (.bool b.ctl) ∧ w'.cell? ⟨bk2, off2 + k * 12 + 5, none⟩ = some (.int .i64 b.last) ∧ w'.cell? ⟨bk2, off2 + k * 12 + 6, none⟩ = some (.int .i64 b.first) ∧ w'.cell? ⟨bk2, off2 + k * 12 + 7, none⟩ = some (.int .i64 b.maxt) ∧ w'.cell? ⟨bk2, off2 + k * 12 + 8, none⟩ = some (.int .i64 b.prod) ∧ w'.cell? ⟨bk2, off2 + k * 12 + 9, none⟩ = some (.int .i64 b.epoch) ∧ w'.cell? ⟨bk2, off2 + k * 12 + 10, none⟩ = some (.int .i64 b.seq) ∧ w'.cell? ⟨bk2, off2 + k * 12 + 11, none⟩ = some (.slice xq2 x2.l.length xc2)) (by kernel_rfl) (HKP.out _ hs) (fun hHeld => ?_)
      refine wpAnyH_take (i := 0) (oi := { dst := some 17, op := Op.move (Operand.tmp 0), type := 22, pos := "ref.go:193", after := #[], guard := none }) (v := ?_) rfl (by kernel_rfl) (by kernel_rfl) (by kernel_rfl) (fun _ _ _ h => h) (Or.inl ⟨by rfl, ?_⟩) (by assumption) ?_
      rotate_left
      · intro w hSw; (try dsimp only at hSw); go_simp; try with_reducible rfl
      simp only [Act.put, List.setIfInBounds_toArray, List.set_cons_zero, List.set_cons_succ]
      refine wpAnyH_take (i := 1) (oi := { dst := some 18, op := Op.move (Operand.tmp 5), type := 3, pos := "ref.go:193", after := #[], guard := none }) (v := ?_) rfl (by kernel_rfl) (by kernel_rfl) (by kernel_rfl) (fun _ _ _ h => h) (Or.inl ⟨by rfl, ?_⟩) (by assumption) ?_
      rotate_left
      · intro w hSw; (try dsimp only at hSw); go_simp; try with_reducible rfl
      simp only [Act.put, List.setIfInBounds_toArray, List.set_cons_zero, List.set_cons_succ]
      refine wpAnyH_take (i := 2) (oi := { dst := some 19, op := Op.indexAddr 22 (Operand.tmp 17) (Operand.tmp 18), type := 0, pos := "ref.go:193", after := #[{ on := 0, ground := Ground.data }, { on := 1, ground := Ground.data }], guard := none }) (v := ?_) rfl (by kernel_rfl) (by kernel_rfl) (by kernel_rfl) (fun _ _ _ h => h) (Or.inl ⟨by rfl, ?_⟩) (by assumption) ?_
      rotate_left
      · intro w hSw; (try dsimp only at hSw); go_simp; try with_reducible rfl
      simp only [Act.put, List.setIfInBounds_toArray, List.set_cons_zero, List.set_cons_succ]
      refine wpAnyH_take (i := 3) (oi := { dst := some 20, op := Op.load 45 (Operand.tmp 19), type := 45, pos := "ref.go:193", after := #[{ on := 2, ground := Ground.data }], guard := none }) (v := ?_) rfl (by kernel_rfl) (by kernel_rfl) (by kernel_rfl) (fun _ _ _ h => h) (Or.inl ⟨by rfl, ?_⟩) (by assumption) ?_
      rotate_left
      · intro w hSw; (try dsimp only at hSw); go_simp; try with_reducible rfl
      simp only [Act.put, List.setIfInBounds_toArray, List.set_cons_zero, List.set_cons_succ]
      refine wpAnyH_take (i := 4) (oi := { dst := some 21, op := Op.move (Operand.tmp 1), type := 22, pos := "ref.go:193", after := #[], guard := none }) (v := ?_) rfl (by kernel_rfl) (by kernel_rfl) (by kernel_rfl) (fun _ _ _ h => h) (Or.inl ⟨by rfl, ?_⟩) (by assumption) ?_
      rotate_left
      · intro w hSw; (try dsimp only at hSw); go_simp; try with_reducible rfl
      simp only [Act.put, List.setIfInBounds_toArray, List.set_cons_zero, List.set_cons_succ]
      refine wpAnyH_take (i := 5) (oi := { dst := some 22, op := Op.move (Operand.tmp 5), type := 3, pos := "ref.go:193", after := #[], guard := none }) (v := ?_) rfl (by kernel_rfl) (by kernel_rfl) (by kernel_rfl) (fun _ _ _ h => h) (Or.inl ⟨by rfl, ?_⟩) (by assumption) ?_
      rotate_left
      · intro w hSw; (try dsimp only at hSw); go_simp; try with_reducible rfl
      simp only [Act.put, List.setIfInBounds_toArray, List.set_cons_zero, List.set_cons_succ]
      refine wpAnyH_take (i := 6) (oi := { dst := some 23, op := Op.indexAddr 22 (Operand.tmp 21) (Operand.tmp 22), type := 0, pos := "ref.go:193", after := #[{ on := 4, ground := Ground.data }, { on := 5, ground := Ground.data }], guard := none }) (v := ?_) rfl (by kernel_rfl) (by kernel_rfl) (by kernel_rfl) (fun _ _ _ h => h) (Or.inl ⟨by rfl, ?_⟩) (by assumption) ?_
      rotate_left
      · intro w hSw; (try dsimp only at hSw); go_simp; try with_reducible rfl
      simp only [Act.put, List.setIfInBounds_toArray, List.set_cons_zero, List.set_cons_succ]
      refine wpAnyH_take (i := 7) (oi := { dst := some 24, op := Op.load 45 (Operand.tmp 23), type := 45, pos := "ref.go:193", after := #[{ on := 6, ground := Ground.data }], guard := none }) (v := ?_) rfl (by kernel_rfl) (by kernel_rfl) (by kernel_rfl) (fun _ _ _ h => h) (Or.inl ⟨by rfl, ?_⟩) (by assumption) ?_
      rotate_left
      · intro w hSw; (try dsimp only at hSw); go_simp; try with_reducible rfl
      simp only [Act.put, List.setIfInBounds_toArray, List.set_cons_zero, List.set_cons_succ]
      refine wpAnyH_ready (rs := [8]) (by kernel_rfl) (by simp) (AllReadyH.cons (o := { dst := some 25, op := Op.call { callee := Callee.value (Operand.func 47), args := #[Operand.tmp 20, Operand.tmp 24], argTypes := #[45, 45] }, type := 4, pos := "ref.go:193", after := #[{ on := 3, ground := Ground.data }, { on := 7, ground := Ground.data }], guard := none }) rfl (fun KK hK => ?_) AllReadyH.nil)
      · go_simp
        go_at_call 47
        with_reducible refine (ref11_sameT b x1.l x2.l xq1 xq2 xc1 xc2 HN1.out HX1.out HX2.out HD1.out HD2.out HKA.out HKB.out hs).mono ?_
        rintro e wq ⟨rfl, hs⟩
        refine hK.out _ _ (HKP.out _ hs) (fun hHeld => ?_)
        clear hK KK
        try simp only [Act.put, List.setIfInBounds_toArray, List.set_cons_zero, List.set_cons_succ]
        refine wpAnyH_take (i := 9) (oi := { dst := some 26, op := Op.unOp UnOp.not 4 (Operand.tmp 25), type := 4, pos := "ref.go:193", after := #[{ on := 8, ground := Ground.data }], guard := none }) (v := ?_) rfl (by kernel_rfl) (by kernel_rfl) (by kernel_rfl) (fun _ _ _ h => h) (Or.inl ⟨by rfl, ?_⟩) (by assumption) ?_
        rotate_left
        · intro w hSw; (try dsimp only at hSw); go_simp; try with_reducible rfl
        simp only [Act.put, List.setIfInBounds_toArray, List.set_cons_zero, List.set_cons_succ]
        refine wpAnyH_done (by kernel_rfl) ?_ _
        clear hHeld
        have H := Lib.hid hs
        clear hs
        go_wp2_with fail
        go_roundw
        case rel => exact ⟨k + 1, hlt, by go_num, H.out⟩
        case measure => first | (simp [intOf]; done) | (simp [intOf]; omega)
    · have hkn : ¬ (k : Int) < (l1.length : Int) := by omega
      go_wp2_with fail
      go_ret
      exact ⟨rfl, H.out⟩
set_option maxHeartbeats 4000000 in
set_option maxRecDepth 100000 in
theorem ints_eq (l : List Int) (q1 q2 : Option Addr) (cap1 cap2 : Nat) (hn : l.length ≤ 1000000) {W0 w : World} {K : Know} {L : List Res} (hk1 : K.has (Know.flat RInt (.slice q1 l.length cap1) 1 l)) (hk2 : K.has (Know.flat RInt (.slice q2 l.length cap2) 1 l)) (h : St W0 w K L) :
    Calls Tryd.prog 30 #[.slice q1 l.length cap1, .slice q2 l.length cap2] w fun en w' => en = .returned (.bool true) ∧ St W0 w' K L := by
  have H := Lib.hid h
  have HK1 := Lib.hid hk1
  have HK2 := Lib.hid hk2
  have hni : (l.length : Int) ≤ 1000000 := by omega
  clear h hk1 hk2 hn
  go_enter Tryd.func30, Tryd.ntmps30
  go_wp2_with fail
  go_loopw [5] (fun iv wr => ∃ k : Nat, k ≤ l.length ∧ iv = .int .i64 k ∧ St W0 wr K L) (fun iv _ => l.length - (intOf iv).toNat)
  case atStart => exact ⟨0, Nat.zero_le _, rfl, H.out⟩
  case round =>
    obtain ⟨k, hkl, rfl, hst⟩ := hrel
    clear H
    have H := Lib.hid hst
    clear hst
    by_cases hlt : k < l.length
    · obtain ⟨bk1, off1, hq1⟩ := fl_at HK1.out H.out (by omega)
      obtain ⟨bk2, off2, hq2⟩ := fl_at HK2.out H.out (by omega)
      subst hq1
      subst hq2
      obtain ⟨x, hx⟩ : ∃ x, l[k] = x := ⟨_, rfl⟩
      have c0 := rints_cell HK1.out H.out k hlt x hx
      have c1 := rints_cell HK2.out H.out k hlt x hx
      have hkn : (k : Int) < (l.length : Int) := by omega
      have t1 : (x == x) = true := by simp
      have t2 : (x != x) = false := by simp
      clear hx
      go_wp2_with fail
      have hs := H.out.drew
      go_region
      go_wp2_with fail
      go_roundw
      case rel => exact ⟨k + 1, hlt, by go_num, by first | exact hs | exact H.out⟩
      case measure => first | (simp [intOf]; done) | (simp [intOf]; omega)
    · have hkn : ¬ (k : Int) < (l.length : Int) := by omega
      go_wp2_with fail
      go_ret
      exact ⟨rfl, H.out⟩
set_option maxHeartbeats 4000000 in
set_option maxRecDepth 100000 in
theorem same_eq (l1 l2 : List BtR) (q1 q2 qa qb : Option Addr) (cap1 cap2 ca cb : Nat) (c : Int) (ch : List Int) (hx : l1.map BtR.val = l2.map BtR.val) (hf : ∀ x ∈ l2, liteX x) (hn : l1.length ≤ 100000) (hcn : ch.length ≤ 1000000) {W0 w : World} {K : Know} {L : List Res} (hk1 : K.has (Know.btrs (.slice q1 l1.length cap1) l1)) (hk2 : K.has (Know.btrs (.slice q2 l2.length cap2) l2)) (hka : K.has (Know.flat RInt (.slice qa ch.length ca) 1 ch)) (hkb : K.has (Know.flat RInt (.slice qb ch.length cb) 1 ch)) (h : St W0 w K L) :
    Calls Tryd.prog 12 #[.agg #[.slice q1 l1.length cap1, .int .i64 c, .slice qa ch.length ca], .agg #[.slice q2 l2.length cap2, .int .i64 c, .slice qb ch.length cb]] w fun en w' => en = .returned (.bool true) ∧ St W0 w' K L := by
  obtain ⟨xa, hxa⟩ : ∃ b, w.heap.size = b := ⟨_, rfl⟩
  obtain ⟨xb, hxb⟩ : ∃ b, xa + 1 = b := ⟨_, rfl⟩
  have g1 := (h.allocRaw #[.slice q1 l1.length cap1, .int .i64 c, .slice qa ch.length ca] 25).allocRaw #[.slice q2 l2.length cap2, .int .i64 c, .slice qb ch.length cb] 25
  simp only [World.size_alloc, hxa, hxb] at g1
  have c0 := (g1).rawCell 0; have c1 := (g1).rawCell 1; have c2 := (g1).rawCell 2; simp at c0 c1 c2
  have d0 := (g1.p1).rawCell 0; have d1 := (g1.p1).rawCell 1; have d2 := (g1.p1).rawCell 2; simp at d0 d1 d2
  have e1 : (c == c) = true := by simp
  have H := Lib.hid g1
  have HX := Lib.hid hx
  have HF := Lib.hid hf
  have HN := Lib.hid hn
  have HCN := Lib.hid hcn
  have HK1 := Lib.hid hk1
  have HK2 := Lib.hid hk2
  have HKA := Lib.hid hka
  have HKB := Lib.hid hkb
  clear h g1 hx hf hn hcn hk1 hk2 hka hkb
  go_enter Tryd.func12, Tryd.ntmps12
  go_wp2_with (first
    | (go_at_call 30; (with_reducible refine (ints_eq ch qa qb ca cb HCN.out HKA.out HKB.out H.out).mono ?_); rintro e_ wn ⟨rfl, h⟩; have c0 := (h).rawCell 0; have c1 := (h).rawCell 1; have c2 := (h).rawCell 2; simp at c0 c1 c2; have d0 := (h.p1).rawCell 0; have d1 := (h.p1).rawCell 1; have d2 := (h.p1).rawCell 2; simp at d0 d1 d2; replace H := Lib.hid h; clear h)
    | (go_at_call 31; (with_reducible refine (rows_eq l1 l2 q1 q2 cap1 cap2 HX.out HF.out HN.out HK1.out HK2.out H.out).mono ?_); rintro e_ wn ⟨rfl, h⟩; replace H := Lib.hid h; clear h))
  go_ret
  exact ⟨rfl, H.out.drop.drop⟩

end Go.Proofs.YtenojajfacacoaaDoor
