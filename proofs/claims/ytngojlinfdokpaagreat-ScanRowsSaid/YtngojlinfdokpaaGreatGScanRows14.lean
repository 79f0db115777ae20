/- Batches that may be, cut anywhere, in any chunks: all that are whole come, in their order, and what is left says whether it is clean or torn: proved of every row of batches, every row of sizes and every cut. -/
import Derived.Test.YtngojlinfdokpaaGreatGScanRows9
import Derived.Test.YtngojlinfdokpaaGreatGScanRows8
import Derived.Test.YtngojlinfdokpaaGreatGScanRows13
import Derived.RegionTactic
import Derived.Deep.RegionHeld3
import Derived.Deep.DeepCutAuto
import Derived.WalkMore
import Derived.Test.YtngojlinfdokpaaGreatGScanRows11
import Derived.Test.YtngojlinfdokpaaGreatGrow
import Derived.Test.YtngojlinfdokpaaGreatGScanRows1
import Derived.Test.YtngojlinfdokpaaGreatGScanRows10
import Derived.Lib.SmallJoins
import Derived.Test.YtngojlinfdokpaaGreatArgs
import Derived.Test.YtngojlinfdokpaaGreatGScanRows7
import Derived.Test.YtngojlinfdokpaaGreatBatP
/- A text. -/
namespace Go.Proofs.YtngojlinfdokpaaGreat
open Go.RowKit

end Go.Proofs.YtngojlinfdokpaaGreat

/- A text. -/
namespace Go.Proofs.YtngojlinfdokpaaGreat
open Go.RowKit

theorem elem_intN : ElemT Tryz.prog 3 (.int .i64 0) 1 8 := elemT_of (by kernel_rfl) rfl (by decide)
def icell (n : Nat) : List Value := [.int .i64 (n : Nat)]
def RNat (cs : List Value) (n : Nat) : Prop := cs = [.int .i64 (n : Nat)]
theorem St.freezeNats {W0 w : World} {K : Know} {L : List Res} {v : Value} {T : TypeId} {l : List Nat} (h : St W0 w K (.row v T 1 l.length (l.flatMap icell) :: L)) : St W0 w (K.and (Know.flat RNat v 1 l)) L := by
 refine h.freeze fun F S1 _ h1 => ?_
 obtain ⟨⟨g1, g2⟩, g3⟩ := h1
 rcases g2 with ⟨rfl, h0⟩ | ⟨g, cap, cur, rfl, _, hg, hn, hcm, hcs, htake⟩
 · exact ⟨none, 0, by rw [h0], fun hh => absurd hh (by omega)⟩
 · have hS : S1 g := (g3 g).2 rfl
   have hlt := heap_lt hg
   refine ⟨_, cap, rfl, fun _ => ⟨g, 0, rfl, .inr ⟨hS, hlt⟩, hlt, fun i hi => ?_⟩⟩
   refine ⟨[.int .i64 (l[i] : Nat)], rfl, rfl, fun q u hu => ?_⟩
   have hq : q < 1 := (List.getElem?_eq_some_iff.1 hu).1
   obtain rfl : q = 0 := by omega
   rw [cell_at hg, Nat.zero_add]
   have e : (l.flatMap icell)[i * 1 + 0]? = some u := by
    rw [flatMap_get l icell 1 (fun x hx => rfl) i hi 0 (by decide)]
    exact hu
   rw [← htake, List.getElem?_take_of_lt (by omega)] at e
   simpa using e
theorem nat_cell {W0 w : World} {K : Know} {L : List Res} {b off n cap : Nat} {l : List Nat} (hk : K.has (Know.flat RNat (.slice (some ⟨b, off, none⟩) n cap) 1 l)) (h : St W0 w K L) (i : Nat) (hi : i < l.length) (x : Nat) (hx : l[i] = x) : w.cell? ⟨b, off + i, none⟩ = some (.int .i64 (x : Nat)) := by
 subst hx
 obtain ⟨F, hF, _⟩ := h.get
 obtain ⟨q2, cap2, hv, hr⟩ := (hk _ _ hF).at
 obtain ⟨b2, off2, hq, hc⟩ := hr (by omega)
 rw [hq] at hv
 simp at hv
 obtain ⟨⟨rfl, rfl⟩, _, _⟩ := hv
 obtain ⟨cs, _, hR, hcs⟩ := hc i hi
 unfold RNat at hR
 subst hR
 have := hcs 0 _ rfl
 simpa using this
def endsS (l : List BatR) (k : Nat) : List Nat := (List.range k).map fun i => (encB (l.take (i + 1))).length
theorem endsS_succ (l : List BatR) (k : Nat) : endsS l (k + 1) = endsS l k ++ [(encB (l.take (k + 1))).length] := by unfold endsS; rw [List.range_succ, List.map_append]; rfl
theorem endsS_len (l : List BatR) (k : Nat) : (endsS l k).length = k := by simp [endsS]
theorem endsS_get (l : List BatR) (k i : Nat) (h : i < (endsS l k).length) : (endsS l k)[i] = (encB (l.take (i + 1))).length := by simp [endsS]
theorem endsS_cells (l : List BatR) (k m : Nat) (h : (encB (l.take (k + 1))).length = m) : (endsS l (k + 1)).flatMap icell = (endsS l k).flatMap icell ++ [.int .i64 (m : Nat)] := by rw [endsS_succ, List.flatMap_append, h]; rfl
theorem liteR_of {x : BatR} (hf : x.Fit) (so : SmallOk x.b) : LiteR x := ⟨hf.2.2, by have := so.len; omega, fun y hy => (so.recs y hy).2.2⟩
theorem fin_speak (s : Bs) (hs : noneB.enc = s) : ∃ rest, finS (s ++ s.take 30) = ([noneB], 61, rest, 0) ∧ stopS rest 0 = 1 := by
 have hl : s.length = 61 := by rw [← hs]; exact nobody_enc
 obtain ⟨x, hx⟩ : ∃ x : BatR, x.b = noneB := ⟨⟨noneB, [], none, 0⟩, rfl⟩
 have e2 : encB [x, x] = s ++ s := by rw [encB_cons, encB_one, hx, hs]
 have e1 : encB ([x, x].take 1) = s := by show encB [x] = s; rw [encB_one, hx, hs]
 obtain ⟨rest, h1, h2⟩ := fin_cut [x, x] (by intro y hy; have : y = x := by simpa using hy
                                             subst this; rw [hx]; exact so_none) 91 1 (by rw [e2, List.length_append]; omega) (Nat.le_add_left 1 1) (by rw [e1]; omega) (fun _ => by show 91 < (encB [x, x]).length; rw [e2, List.length_append]; omega)
 rw [e1] at h1 h2
 rw [e2, hl, List.take_append, List.take_of_length_le (by omega), hl] at h1
 refine ⟨rest, ?_, ?_⟩
 · rw [h1]; show ([x.b], 61, rest, 0) = _; rw [hx]
 · unfold stopS
   rw [if_neg (by simp), if_pos (by intro h; rw [h, hl] at h2; simp at h2)]

end Go.Proofs.YtngojlinfdokpaaGreat

/- A text. -/
namespace Go.Proofs.YtngojlinfdokpaaGreat
open Go.RowKit

set_option maxHeartbeats 4000000 in
set_option maxRecDepth 100000 in
theorem speaks23 {W0 w : World} {K : Know} {L : List Res} (h : St W0 w K L) :
  Calls Tryz.prog 5 #[] w fun en w' => en = .returned (.bool true) ∧ ∃ K2 : Know, K2.has K ∧ St W0 w' K2 L := by
 obtain ⟨s, hs⟩ : ∃ s, noneB.enc = s := ⟨_, rfl⟩
 have HS := Lib.hid hs
 have hsl : s.length = 61 := by rw [← hs]; exact nobody_enc
 have c1 : ((s.length : Int) == 61) = true := by rw [hsl]; rfl
 have c2 : ((s.length : Int) != 61) = false := by rw [hsl]; rfl
 have c3 : (30 : Int) ≤ (s.length : Int) := by omega
 have c4 : 30 ≤ s.length := by omega
 obtain ⟨rest, hfs, hst⟩ := fin_speak s hs
 obtain ⟨T, hT⟩ : ∃ T, s ++ s.take 30 = T := ⟨_, rfl⟩
 obtain ⟨pv, hpv⟩ : ∃ pv : Nat, 61 = pv := ⟨_, rfl⟩
 have c5 : ((pv : Int) == 61) = true := by rw [← hpv]; rfl
 rw [hT, hpv] at hfs
 have HF := Lib.hid hfs
 have HP := Lib.hid hst
 have HT := Lib.hid hT
 have HTL := Lib.hid (show T.length ≤ 90000 by rw [← hT, List.length_append, List.length_take]; omega)
 have H := Lib.hid h
 clear h hs hsl hfs hst hT hpv
 go_enter Tryz.func5, Tryz.ntmps5
 go_wp2_with (first
  | (go_at_call 16; (with_reducible refine (encode_none s HS.out H.out).mono ?_); rintro e_ wn ⟨rfl, h⟩; replace H := Lib.hid h; clear h)
  | (go_at_call 15; (with_reducible refine (scan_two s (s.take 30) T HT.out [noneB] pv rest 0 1 HF.out HP.out HTL.out _ (H.out.allocRaw _ _)).mono ?_); rintro e_ wn ⟨qa, capa, la, rfl, hma, hla, hca, hqa, h⟩; have HMa := Lib.hid hma; have HLa := Lib.hid hla; have HCa := Lib.hid hca; have HQa := Lib.hid hqa; clear hma hla hca hqa; obtain ⟨px, hpx⟩ : ∃ b, wn.heap.size = b := ⟨_, rfl⟩; have h := h.allocRaw #[.int .i64 pv, .int .i64 1, .int .i64 0] 36; rw [hpx] at h; have px0 := h.rawCell 0; have px1 := h.rawCell 1; have px2 := h.rawCell 2; simp at px0 px1 px2; have hla1 : ((la.length : Int) == 1) = true := (by have h7 := congrArg List.length HMa.out; rw [List.length_map] at h7; rw [h7]; rfl); replace H := Lib.hid h; clear h))
 go_ret
 exact ⟨rfl, _, Know.has_left (Know.has_refl _), H.out.drop⟩

end Go.Proofs.YtngojlinfdokpaaGreat

/- A text. -/
namespace Go.Proofs.YtngojlinfdokpaaGreat
open Go.RowKit

set_option maxHeartbeats 8000000 in
set_option maxRecDepth 100000 in
theorem sr_l1 (l : List BatR) (q : Option Addr) (cap : Nat) (ns : List Int) (q2 : Option Addr) (cap2 : Nat) (e : Int) (hl : 6 < l.length) {W0 w : World} {K : Know} (hk : K.has (Know.bats (.slice q l.length cap) l)) (hk2 : K.has (Know.flat RU8 (.slice q2 ns.length cap2) 1 ns)) (h : St W0 w K []) :
  Calls Tryz.prog 4 #[.slice q l.length cap, .slice q2 ns.length cap2, .int .u16 e] w fun en w' => en = .returned (.bool true) ∧ Below W0.heap.size W0 w' := by
 have H := Lib.hid h
 have HK := Lib.hid hk
 have HN := Lib.hid hk2
 have c1 : (6 : Int) < (l.length : Int) := by omega
 clear h hk hk2 hl
 go_enter Tryz.func4, Tryz.ntmps4
 go_wp2_with (go_at_call 5; (with_reducible refine (speaks23 H.out).mono ?_); rintro e_ wn ⟨rfl, K2, hk2, h⟩; clear hk2; replace H := Lib.hid h; clear h)
 go_ret
 exact ⟨rfl, H.out.below⟩

set_option maxHeartbeats 8000000 in
set_option maxRecDepth 100000 in
theorem sr_l2 (l : List BatR) (q : Option Addr) (cap : Nat) (ns : List Int) (q2 : Option Addr) (cap2 : Nat) (e : Int) (hl1 : ¬ 6 < l.length) (hl : 200 < ns.length) {W0 w : World} {K : Know} (hk : K.has (Know.bats (.slice q l.length cap) l)) (hk2 : K.has (Know.flat RU8 (.slice q2 ns.length cap2) 1 ns)) (h : St W0 w K []) :
  Calls Tryz.prog 4 #[.slice q l.length cap, .slice q2 ns.length cap2, .int .u16 e] w fun en w' => en = .returned (.bool true) ∧ Below W0.heap.size W0 w' := by
 have H := Lib.hid h
 have HK := Lib.hid hk
 have HN := Lib.hid hk2
 have c1 : ¬ (6 : Int) < (l.length : Int) := by omega
 have c2 : (200 : Int) < (ns.length : Int) := by omega
 clear h hk hk2 hl
 go_enter Tryz.func4, Tryz.ntmps4
 go_wp2_with (go_at_call 5; (with_reducible refine (speaks23 H.out).mono ?_); rintro e_ wn ⟨rfl, K2, hk2, h⟩; clear hk2; replace H := Lib.hid h; clear h)
 go_ret
 exact ⟨rfl, H.out.below⟩

end Go.Proofs.YtngojlinfdokpaaGreat

/- A text. -/
namespace Go.Proofs.YtngojlinfdokpaaGreat
open Go.RowKit

set_option maxHeartbeats 8000000 in
set_option maxRecDepth 100000 in
theorem sr_main (l : List BatR) (q : Option Addr) (cap : Nat) (ns : List Int) (q2 : Option Addr) (cap2 : Nat) (e : Int) (hf : ∀ x ∈ l, x.Fit) (hl : l.length ≤ 6) (hcap : l.length ≤ cap) (hns : ∀ x ∈ ns, 0 ≤ x ∧ x < 256) (hnl : ns.length ≤ 200) (he : 0 ≤ e ∧ e < 65536) {W0 w : World} {K : Know} (hk : K.has (Know.bats (.slice q l.length cap) l)) (hk2 : K.has (Know.flat RU8 (.slice q2 ns.length cap2) 1 ns)) (h : St W0 w K []) :
  Calls Tryz.prog 4 #[.slice q l.length cap, .slice q2 ns.length cap2, .int .u16 e] w fun en w' => en = .returned (.bool true) ∧ Below W0.heap.size W0 w' := by
 have H := Lib.hid h
 have HK := Lib.hid hk
 have HN := Lib.hid hk2
 have HFT := Lib.hid hf
 have HL6 := Lib.hid hl
 have HCAP := Lib.hid hcap
 have HNS := Lib.hid hns
 have HNL := Lib.hid (show ns.length ≤ 1000 by omega)
 have HE16 := Lib.hid he
 have c1 : ¬ (6 : Int) < (l.length : Int) := by omega
 have c2 : ¬ (200 : Int) < (ns.length : Int) := by omega
 have hwe : IntKind.i64.wrap e = e := by rw [IntKind.wrap_i64]; omega
 have HNLEN := Lib.hid hnl
 clear h hk hk2 hf hl hcap hns hnl he
 go_enter Tryz.func4, Tryz.ntmps4
 go_wp2_with (go_at_call 5; (with_reducible refine (speaks23 H.out).mono ?_); rintro e_ wn ⟨rfl, K2, hk2, h⟩; have HK3 := Lib.hid (Know.has_trans hk2 HK.out); have HN3 := Lib.hid (Know.has_trans hk2 HN.out); clear hk2 HK HN; have HK := HK3; have HN := HN3; clear HK3 HN3; have h := h.rowLit [] 3 1 0 rfl (by decide); replace H := Lib.hid h; clear h)
 go_loopw [7, 8, 10, 30] (fun sv ov _ iv wr => ∃ (k : Nat) (A : Bs), k ≤ l.length ∧ iv = .int .i64 k ∧ sv = .string (bb A) ∧ Hid (encB (l.take k) = A) ∧ Hid (errB (l.take k) = 0) ∧ Hid (∀ x ∈ l.take k, smallB (x.l.map (·.1)) = true) ∧ St W0 wr K2 [.row ov 3 1 k ((endsS l k).flatMap icell)]) (fun _ _ _ iv _ => l.length - (intOf iv).toNat)
 case atStart => exact ⟨0, [], Nat.zero_le _, rfl, rfl, Lib.hid rfl, Lib.hid rfl, Lib.hid (fun x hx => by simp at hx), H.out⟩
 case round =>
  obtain ⟨k, A, hkl, rfl, rfl, HAK, her, hsm, hst⟩ := hrel
  clear H
  have H := Lib.hid hst
  clear hst
  by_cases hlt : k < l.length
  · have hl6 : (l.length : Int) ≤ 6 := by have := HL6.out; omega
    have hstep := errB_step l k hlt her.out
    have hnp := encB_take l k hlt
    rw [HAK.out] at hnp
    obtain ⟨b, off, hqq⟩ := bats_at HK.out H.out (by omega)
    subst hqq
    obtain ⟨x, hx⟩ : ∃ x, l[k] = x := ⟨_, rfl⟩
    have cc := bats_cell HK.out H.out k hlt x hx
    have hmem : x ∈ l := hx ▸ List.getElem_mem hlt
    have XF := Lib.hid (HFT.out x hmem)
    have XR2 := Lib.hid XF.out.2.1
    have XR3 := Lib.hid XF.out.2.2
    have XK := Lib.hid (bats_recs HK.out hmem)
    obtain ⟨c0, c1, c2, c3, c4, c5, c6, c7, c8, c9, c10, c11⟩ := cc
    obtain ⟨wE, hwE⟩ : ∃ b, wr.heap.size = b := ⟨_, rfl⟩
    have hki : (k : Int) < (l.length : Int) := by omega
    have h := H.out.allocRaw #[.int .i64 x.b.base, .int .i64 x.b.leader, .bool x.b.app, .bool x.b.txn, .bool x.b.ctl, .int .i64 x.b.last, .int .i64 x.b.first, .int .i64 x.b.maxt, .int .i64 x.b.prod, .int .i64 x.b.epoch, .int .i64 x.b.seq, .slice x.q x.l.length x.cap] 43
    rw [hwE] at h
    clear H
    have H := Lib.hid h
    clear h
    rw [hx] at hstep hnp
    have HRB := Lib.hid XF.out.1.1
    have HMX := Lib.hid (show x.b.first ≤ 9223372036854775807 by have := XF.out.1.2.2.2.1.2; omega)
    obtain ⟨x0, x1, x2, x3, x4, x5, x6, x7, x8, x9, x10, x11, y0, y1, y2, y3, y4, y5, y6, y7, y8, y9, y10, y11⟩ := raw12 (b := wE) (H.out)
    cases hs : smallB (x.l.map (·.1)) with
    | false =>
     as_aux_lemma =>
     have HSX := Lib.hid hs
     clear hs hstep hnp hx hmem
     go_wp2_with (first
  | (go_at_call 12; clear x0 y0 x1 y1 x2 y2 x3 y3 x4 y4 x5 y5 x6 y6 x7 y7 x8 y8 x9 y9 x10 y10 x11 y11; (with_reducible refine (l11_small _ _ _ _ _ _ _ _ _ _ _ x.l _ _ false HSX.out XR2.out XK.out H.out).mono ?_); rintro e_ wn ⟨rfl, h⟩; replace H := Lib.hid h; clear h; obtain ⟨x0, x1, x2, x3, x4, x5, x6, x7, x8, x9, x10, x11, y0, y1, y2, y3, y4, y5, y6, y7, y8, y9, y10, y11⟩ := raw12 (b := wE) (H.out)))
     go_ret
     exact ⟨rfl, H.out.below⟩
    | true =>
     have HSX := Lib.hid hs
     have HFB := Lib.hid (FitW.fit XF.out.2.1 hs)
     have HLLX := Lib.hid (show x.l.length ≤ 1000000 by have := smallB_len hs; omega)
     have NS := Lib.hid (show ∀ y ∈ l.take (k + 1), smallB (y.l.map (·.1)) = true by
       intro y hy
       rw [List.take_succ_eq_append_getElem hlt, hx] at hy
       rcases List.mem_append.1 hy with hy | hy
       · exact hsm.out y hy
       · simp at hy; subst hy; exact hs)
     obtain ⟨e2, he2⟩ : ∃ e, batErr x.b = e := ⟨_, rfl⟩
     have NE := Lib.hid (show errB (l.take (k + 1)) = e2 by rw [hstep]; exact he2)
     have HE := Lib.hid (show batErr ⟨x.b.base, x.b.leader, x.b.app, x.b.txn, x.b.ctl, x.b.last, x.b.first, x.b.maxt, x.b.prod, x.b.epoch, x.b.seq, x.l.map (·.1)⟩ = e2 by rw [XF.out.2.2]; exact he2)
     by_cases h0 : e2 = 0
     · as_aux_lemma =>
       subst h0
       have HSO := Lib.hid (BatR.small XF.out hs he2)
       obtain ⟨s0, hs0⟩ : ∃ s, x.b.enc = s := ⟨_, rfl⟩
       have HS := Lib.hid hs0
       rw [hs0] at hnp
       obtain ⟨A2, hA2⟩ : ∃ A2, A ++ s0 = A2 := ⟨_, rfl⟩
       rw [hA2] at hnp
       have hcat : bb A ++ bb s0 = bb A2 := by rw [← hA2]; exact bb_append _ _
       have HNP := Lib.hid hnp
       have hsz : ¬ (9223372036854775807 < A.length + s0.length) := by
         have h1 := encB_le2 (l.take k) (fun y hy => HFT.out y (List.mem_of_mem_take hy)) hsm.out
         rw [HAK.out, List.length_take] at h1
         have h2 := BatR.elen XF.out hs
         rw [hs0] at h2
         have := HL6.out
         omega
       clear hs hstep hnp hx hmem he2 hs0
       go_wp2_with (first
  | (go_at_call 12; clear x0 y0 x1 y1 x2 y2 x3 y3 x4 y4 x5 y5 x6 y6 x7 y7 x8 y8 x9 y9 x10 y10 x11 y11; (with_reducible refine (l11_small _ _ _ _ _ _ _ _ _ _ _ x.l _ _ true HSX.out XR2.out XK.out H.out).mono ?_); rintro e_ wn ⟨rfl, h⟩; replace H := Lib.hid h; clear h; obtain ⟨x0, x1, x2, x3, x4, x5, x6, x7, x8, x9, x10, x11, y0, y1, y2, y3, y4, y5, y6, y7, y8, y9, y10, y11⟩ := raw12 (b := wE) (H.out))
  | (go_at_call 13; clear x0 y0 x1 y1 x2 y2 x3 y3 x4 y4 x5 y5 x6 y6 x7 y7 x8 y8 x9 y9 x10 y10 x11 y11; (with_reducible refine (ref11_check _ _ _ _ _ _ _ _ _ _ _ x.l _ _ 0 HE.out HMX.out HRB.out HFB.out HLLX.out XK.out H.out).mono ?_); rintro e_ wn ⟨rfl, h⟩; replace H := Lib.hid h; clear h; obtain ⟨x0, x1, x2, x3, x4, x5, x6, x7, x8, x9, x10, x11, y0, y1, y2, y3, y4, y5, y6, y7, y8, y9, y10, y11⟩ := raw12 (b := wE) (H.out))
  | (go_at_call 14; clear x0 y0 x1 y1 x2 y2 x3 y3 x4 y4 x5 y5 x6 y6 x7 y7 x8 y8 x9 y9 x10 y10 x11 y11; (with_reducible refine (ref11_encode x.b s0 HS.out x.l _ _ XR3.out HSO.out XK.out H.out).mono ?_); rintro e_ wn ⟨rfl, h⟩; have h := h.drop; replace H := Lib.hid h; clear h)
  | (at_builtin; refine wpl_app1_st rfl _ _ 40 rfl 3 Tryz.underlying40 elem_intN _ _ _ rfl H.out [.int .i64 (A2.length : Nat)] 3 rfl rfl (by simp [Value.oneCell']) (by have := HL6.out; unfold maxLen; omega) (by have := HL6.out; omega) ?_; intro v' w' h; replace H := Lib.hid h; clear h))
       go_roundw
       case rel => exact ⟨k + 1, A2, hlt, by go_num, rfl, HNP, NE, NS, by rw [endsS_cells l k A2.length (by rw [HNP.out])]; exact H.out⟩
       case measure => first | (simp [intOf]; done) | (simp [intOf]; omega)
     · as_aux_lemma =>
       have g1 : (e2 == 0) = false := by rw [beq_eq_false_iff_ne]; exact h0
       have g2 : (e2 != 0) = true := by simp [bne, g1]
       clear hs hstep hnp hx hmem he2 h0
       go_wp2_with (first
  | (go_at_call 12; clear x0 y0 x1 y1 x2 y2 x3 y3 x4 y4 x5 y5 x6 y6 x7 y7 x8 y8 x9 y9 x10 y10 x11 y11; (with_reducible refine (l11_small _ _ _ _ _ _ _ _ _ _ _ x.l _ _ true HSX.out XR2.out XK.out H.out).mono ?_); rintro e_ wn ⟨rfl, h⟩; replace H := Lib.hid h; clear h; obtain ⟨x0, x1, x2, x3, x4, x5, x6, x7, x8, x9, x10, x11, y0, y1, y2, y3, y4, y5, y6, y7, y8, y9, y10, y11⟩ := raw12 (b := wE) (H.out))
  | (go_at_call 13; clear x0 y0 x1 y1 x2 y2 x3 y3 x4 y4 x5 y5 x6 y6 x7 y7 x8 y8 x9 y9 x10 y10 x11 y11; (with_reducible refine (ref11_check _ _ _ _ _ _ _ _ _ _ _ x.l _ _ e2 HE.out HMX.out HRB.out HFB.out HLLX.out XK.out H.out).mono ?_); rintro e_ wn ⟨rfl, h⟩; replace H := Lib.hid h; clear h; obtain ⟨x0, x1, x2, x3, x4, x5, x6, x7, x8, x9, x10, x11, y0, y1, y2, y3, y4, y5, y6, y7, y8, y9, y10, y11⟩ := raw12 (b := wE) (H.out)))
       go_ret
       exact ⟨rfl, H.out.below⟩
  · obtain rfl : k = l.length := by omega
    have her2 := her.out
    have hsm2 := hsm.out
    have hA2 := HAK.out
    rw [List.take_length] at her2 hsm2 hA2
    have HAE := Lib.hid hA2
    have HSO := Lib.hid (show ∀ x ∈ l, SmallOk x.b from fun x hx => BatR.small (HFT.out x hx) (hsm2 x hx) (errB_mem _ her2 x hx))
    have HLR := Lib.hid (show ∀ x ∈ l, LiteR x from fun x hx => liteR_of (HFT.out x hx) (HSO.out x hx))
    have hAl : A.length ≤ 84000 := by
     have h1 := encB_le2 l HFT.out hsm2
     have h2 := HL6.out
     rw [hA2] at h1
     omega
    have HAL := Lib.hid hAl
    obtain ⟨q3, cap3, hv⟩ := H.out.rowAny
    subst hv
    have h4 := St.freezeNats (l := endsS l l.length) (by rw [endsS_len]; exact H.out)
    clear H
    have H := Lib.hid h4
    obtain ⟨K3, hK3⟩ : ∃ x, K2.and (Know.flat RNat (.slice q3 l.length cap3) 1 (endsS l l.length)) = x := ⟨_, rfl⟩
    have HKE := Lib.hid (show K3.has (Know.flat RNat (.slice q3 l.length cap3) 1 (endsS l l.length)) by rw [← hK3]; exact Know.has_right (Know.has_refl _))
    have HK3 := Lib.hid (show K3.has (Know.bats (.slice q l.length cap) l) by rw [← hK3]; exact Know.has_left HK.out)
    have HN3 := Lib.hid (show K3.has (Know.flat RU8 (.slice q2 ns.length cap2) 1 ns) by rw [← hK3]; exact Know.has_left HN.out)
    rw [hK3] at H h4
    have he := HE16.out
    obtain ⟨kk, hkk⟩ : ∃ kk : Nat, Int.tmod e ((A.length : Int) + 1) = (kk : Nat) := ⟨(Int.tmod e ((A.length : Int) + 1)).toNat, by rw [Int.toNat_of_nonneg (Int.tmod_nonneg _ he.1)]⟩
    have hka : kk ≤ A.length := by
     have h7 := Int.tmod_lt_of_pos e (show (0 : Int) < (A.length : Int) + 1 by omega)
     rw [hkk] at h7
     omega
    have HKA := Lib.hid hka
    have hw1 : IntKind.i64.wrap ((A.length : Int) + 1) = (A.length : Int) + 1 := by rw [IntKind.wrap_i64]; omega
    have hw2 : IntKind.i64.wrap (kk : Int) = (kk : Int) := by rw [IntKind.wrap_i64]; omega
    have hd1 : ¬ ((A.length : Int) + 1 = 0) := by omega
    have hd2 : ((A.length : Int) + 1 == 0) = false := by rw [beq_eq_false_iff_ne]; omega
    have hki : (kk : Int) ≤ (A.length : Int) := by omega
    have HTL := Lib.hid (show (A.take kk).length ≤ 90000 by rw [List.length_take]; omega)
    have HCL := Lib.hid (show (cutS (A.take kk) ns).length ≤ 1000000 by rw [cutS_len]; have := HNLEN.out; omega)
    clear h4 hK3 her2 hsm2 hA2 hAl her hsm HAK he hka HNLEN
    go_wp2_with fail
    go_loopw [12, 13] (fun nv vv wr => ∃ (n V : Nat), n ≤ l.length ∧ nv = .int .i64 n ∧ vv = .int .i64 V ∧ Hid (V = (encB (l.take n)).length) ∧ Hid (V ≤ kk) ∧ St W0 wr K3 []) (fun nv _ _ => l.length - (intOf nv).toNat)
    case atStart => exact ⟨0, 0, Nat.zero_le _, rfl, rfl, Lib.hid rfl, Lib.hid (Nat.zero_le _), H.out⟩
    case round =>
     obtain ⟨n, V, hnl, rfl, rfl, HV, HVK, hst⟩ := hrel
     clear H
     have H := Lib.hid hst
     clear hst
     have hl6 := HL6.out
     have hcap := HCAP.out
     have hvk := HVK.out
     by_cases hlt : n < l.length
     · obtain ⟨b0, off, hqq⟩ := flat_atS HKE.out H.out (by rw [endsS_len]; omega)
       subst hqq
       obtain ⟨V2, hV2⟩ : ∃ x, (encB (l.take (n + 1))).length = x := ⟨_, rfl⟩
       have c0 := nat_cell HKE.out H.out n (by rw [endsS_len]; exact hlt) V2 (by rw [endsS_get]; exact hV2)
       have hni : (n : Int) < (l.length : Int) := by omega
       have hn0 : (0 : Int) ≤ (n : Int) := Int.natCast_nonneg _
       have hl0 : 0 < l.length := by omega
       by_cases h2 : V2 ≤ kk
       · as_aux_lemma =>
         have h2i : (V2 : Int) ≤ (kk : Int) := by omega
         have HV2 := Lib.hid hV2.symm
         have HVK2 := Lib.hid h2
         clear hV2 hvk hl6 hcap hl0 h2
         go_wp2_with fail
         go_roundw
         case rel => exact ⟨n + 1, V2, hlt, by go_num, rfl, HV2, HVK2, H.out⟩
         case measure => first | (simp [intOf]; done) | (simp [intOf]; omega)
       · have h2i : ¬ (V2 : Int) ≤ (kk : Int) := by omega
         have HF0 := fin_cut l HSO.out kk n (by rw [HAE.out]; exact HKA.out) hnl (by rw [← HV.out]; exact HVK.out) (fun hh => by rw [hV2]; omega)
         rw [HAE.out, ← HV.out] at HF0
         obtain ⟨rest, hfin, hrest⟩ := HF0
         have HF := Lib.hid hfin
         have HTN := Lib.hid (show (l.take n).length = n by rw [List.length_take]; omega)
         have HLT := Lib.hid (show ∀ x ∈ l.take n, LiteR x from fun x hx => HLR.out x (List.mem_of_mem_take hx))
         have HNL2 := Lib.hid hnl
         have hq3 := bats_at HK3.out H.out hl0
         obtain ⟨b1, off1, hq3⟩ := hq3
         subst hq3
         have hcp : ¬ cap = 0 := by omega
         have hnc : (n : Int) ≤ (cap : Int) := by omega
         have hnc2 : n ≤ cap := by omega
         by_cases hv : V < kk
         · as_aux_lemma =>
           have HPS := Lib.hid (show stopS rest 0 = 1 by
            unfold stopS
            rw [if_neg (by simp), if_pos (by intro hh; rw [hh] at hrest; simp at hrest; omega)])
           have hvi : (V : Int) < (kk : Int) := by omega
           clear hfin hrest hv h2 hV2 hvk hl6 hcap hl0 hnl
           go_wp2_with (first
             | (go_at_call 7; (with_reducible refine (law22_cut (A.take kk) ns HTL.out HNS.out HNL.out q2 cap2 HN3.out H.out).mono ?_); rintro e_ wn ⟨q2c, cap2c, rfl, h⟩; replace H := Lib.hid h; clear h)
             | (go_at_call 15; (with_reducible refine (scan_any (cutS (A.take kk) ns) (A.take kk) (cutS_flat ns (A.take kk)) ((l.take n).map BatR.b) V rest 0 1 HF.out HPS.out HTL.out q2c cap2c HCL.out (Know.has_right (Know.has_refl _)) H.out).mono ?_); rintro e_ wn ⟨qa, capa, la, rfl, hma, hla, hca, hqa, h⟩; have HMa := Lib.hid hma; have HLa := Lib.hid hla; have HCa := Lib.hid hca; have HQa := Lib.hid hqa; clear hma hla hca hqa; have h := h.know (Know.has_and (Know.has_left (Know.has_left (Know.has_refl _))) (Know.has_right (Know.has_refl _))); obtain ⟨px, hpx⟩ : ∃ b, wn.heap.size = b := ⟨_, rfl⟩; have h := h.allocRaw #[.int .i64 V, .int .i64 1, .int .i64 0] 36; rw [hpx] at h; have px0 := h.rawCell 0; have px1 := h.rawCell 1; have px2 := h.rawCell 2; simp at px0 px1 px2; replace H := Lib.hid h; clear h)
             | (go_at_call 9; (with_reducible refine (ref11_rowsN la (l.take n) la.length n rfl HTN.out qa _ capa _ HMa.out HLa.out HLT.out (by have := HCa.out; have := HTL.out; omega) (Know.has_right (Know.has_refl _)) (Know.has_left (bats_take n HNL2.out HK3.out)) H.out).mono ?_); rintro e_ wn ⟨rfl, h⟩; have px0 := h.rawCell 0; have px1 := h.rawCell 1; have px2 := h.rawCell 2; simp at px0 px1 px2; replace H := Lib.hid h; clear h))
           go_ret
           exact ⟨rfl, H.out.below⟩
         · as_aux_lemma =>
           have HPS := Lib.hid (show stopS rest 0 = 0 by
            unfold stopS
            have h7 : rest = [] := List.eq_nil_of_length_eq_zero (by omega)
            rw [if_neg (by simp), if_neg (by rw [h7]; simp)])
           have hvi : ¬ (V : Int) < (kk : Int) := by omega
           clear hfin hrest hv h2 hV2 hvk hl6 hcap hl0 hnl
           go_wp2_with (first
             | (go_at_call 7; (with_reducible refine (law22_cut (A.take kk) ns HTL.out HNS.out HNL.out q2 cap2 HN3.out H.out).mono ?_); rintro e_ wn ⟨q2c, cap2c, rfl, h⟩; replace H := Lib.hid h; clear h)
             | (go_at_call 15; (with_reducible refine (scan_any (cutS (A.take kk) ns) (A.take kk) (cutS_flat ns (A.take kk)) ((l.take n).map BatR.b) V rest 0 0 HF.out HPS.out HTL.out q2c cap2c HCL.out (Know.has_right (Know.has_refl _)) H.out).mono ?_); rintro e_ wn ⟨qa, capa, la, rfl, hma, hla, hca, hqa, h⟩; have HMa := Lib.hid hma; have HLa := Lib.hid hla; have HCa := Lib.hid hca; have HQa := Lib.hid hqa; clear hma hla hca hqa; have h := h.know (Know.has_and (Know.has_left (Know.has_left (Know.has_refl _))) (Know.has_right (Know.has_refl _))); obtain ⟨px, hpx⟩ : ∃ b, wn.heap.size = b := ⟨_, rfl⟩; have h := h.allocRaw #[.int .i64 V, .int .i64 0, .int .i64 0] 36; rw [hpx] at h; have px0 := h.rawCell 0; have px1 := h.rawCell 1; have px2 := h.rawCell 2; simp at px0 px1 px2; replace H := Lib.hid h; clear h)
             | (go_at_call 9; (with_reducible refine (ref11_rowsN la (l.take n) la.length n rfl HTN.out qa _ capa _ HMa.out HLa.out HLT.out (by have := HCa.out; have := HTL.out; omega) (Know.has_right (Know.has_refl _)) (Know.has_left (bats_take n HNL2.out HK3.out)) H.out).mono ?_); rintro e_ wn ⟨rfl, h⟩; have px0 := h.rawCell 0; have px1 := h.rawCell 1; have px2 := h.rawCell 2; simp at px0 px1 px2; replace H := Lib.hid h; clear h))
           go_ret
           exact ⟨rfl, H.out.below⟩
     · have hne : n = l.length := by omega
       have HNE := Lib.hid hne
       have hVA : V = A.length := by rw [HV.out, hne, List.take_length, HAE.out]
       have hka := HKA.out
       have hni : ¬ (n : Int) < (l.length : Int) := by omega
       have HF0 := fin_cut l HSO.out kk n (by rw [HAE.out]; exact HKA.out) hnl (by rw [← HV.out]; exact HVK.out) (fun hh => by omega)
       rw [HAE.out, ← HV.out] at HF0
       obtain ⟨rest, hfin, hrest⟩ := HF0
       have HF := Lib.hid hfin
       have HTN := Lib.hid (show (l.take n).length = n by rw [List.length_take]; omega)
       have HLT := Lib.hid (show ∀ x ∈ l.take n, LiteR x from fun x hx => HLR.out x (List.mem_of_mem_take hx))
       have HNL2 := Lib.hid hnl
       by_cases hl0 : 0 < l.length
       · as_aux_lemma =>
         have hq3 := bats_at HK3.out H.out hl0
         obtain ⟨b1, off1, hq3⟩ := hq3
         subst hq3
         have hcp : ¬ cap = 0 := by omega
         have hnc : (n : Int) ≤ (cap : Int) := by omega
         have hnc2 : n ≤ cap := by omega
         have HPS := Lib.hid (show stopS rest 0 = 0 by
           unfold stopS
           have h7 : rest = [] := List.eq_nil_of_length_eq_zero (by omega)
           rw [if_neg (by simp), if_neg (by rw [h7]; simp)])
         have hvi : ¬ (V : Int) < (kk : Int) := by omega
         clear hfin hrest hvk hl6 hcap hl0 hnl hne hVA hka hlt
         go_wp2_with (first
            | (go_at_call 7; (with_reducible refine (law22_cut (A.take kk) ns HTL.out HNS.out HNL.out q2 cap2 HN3.out H.out).mono ?_); rintro e_ wn ⟨q2c, cap2c, rfl, h⟩; replace H := Lib.hid h; clear h)
            | (go_at_call 15; (with_reducible refine (scan_any (cutS (A.take kk) ns) (A.take kk) (cutS_flat ns (A.take kk)) ((l.take n).map BatR.b) V rest 0 0 HF.out HPS.out HTL.out q2c cap2c HCL.out (Know.has_right (Know.has_refl _)) H.out).mono ?_); rintro e_ wn ⟨qa, capa, la, rfl, hma, hla, hca, hqa, h⟩; have HMa := Lib.hid hma; have HLa := Lib.hid hla; have HCa := Lib.hid hca; have HQa := Lib.hid hqa; clear hma hla hca hqa; have h := h.know (Know.has_and (Know.has_left (Know.has_left (Know.has_refl _))) (Know.has_right (Know.has_refl _))); obtain ⟨px, hpx⟩ : ∃ b, wn.heap.size = b := ⟨_, rfl⟩; have h := h.allocRaw #[.int .i64 V, .int .i64 0, .int .i64 0] 36; rw [hpx] at h; have px0 := h.rawCell 0; have px1 := h.rawCell 1; have px2 := h.rawCell 2; simp at px0 px1 px2; replace H := Lib.hid h; clear h)
            | (go_at_call 9; (with_reducible refine (ref11_rowsN la (l.take n) la.length n rfl HTN.out qa _ capa _ HMa.out HLa.out HLT.out (by have := HCa.out; have := HTL.out; omega) (Know.has_right (Know.has_refl _)) (Know.has_left (bats_take n HNL2.out HK3.out)) H.out).mono ?_); rintro e_ wn ⟨rfl, h⟩; have px0 := h.rawCell 0; have px1 := h.rawCell 1; have px2 := h.rawCell 2; simp at px0 px1 px2; replace H := Lib.hid h; clear h))
         go_ret
         exact ⟨rfl, H.out.below⟩
       · have HBE := Lib.hid (show ∀ (K : Know) (q : Option Addr) (cap : Nat), K.has (Know.bats (.slice q n cap) (l.take n)) from fun K q cap => by rw [show n = 0 by omega, List.take_zero]; exact bats_empty K q cap)
         by_cases hcp : cap = 0
         · as_aux_lemma =>
           have HPS := Lib.hid (show stopS rest 0 = 0 by
            unfold stopS
            have h7 : rest = [] := List.eq_nil_of_length_eq_zero (by omega)
            rw [if_neg (by simp), if_neg (by rw [h7]; simp)])
           have hvi : ¬ (V : Int) < (kk : Int) := by omega
           obtain rfl : l = [] := List.eq_nil_of_length_eq_zero (by omega)
           have hn0 : n = 0 := by simp only [List.length_nil] at hne; exact hne
           subst hn0
           subst hcp
           clear hfin hrest hvk hl6 hcap hl0 hnl hne hVA hka hlt hni
           go_wp2_with (first
             | (go_at_call 7; (with_reducible refine (law22_cut (A.take kk) ns HTL.out HNS.out HNL.out q2 cap2 HN3.out H.out).mono ?_); rintro e_ wn ⟨q2c, cap2c, rfl, h⟩; replace H := Lib.hid h; clear h)
             | (go_at_call 15; (with_reducible refine (scan_any (cutS (A.take kk) ns) (A.take kk) (cutS_flat ns (A.take kk)) ((([] : List BatR).take 0).map BatR.b) V rest 0 0 HF.out HPS.out HTL.out q2c cap2c HCL.out (Know.has_right (Know.has_refl _)) H.out).mono ?_); rintro e_ wn ⟨qa, capa, la, rfl, hma, hla, hca, hqa, h⟩; have HMa := Lib.hid hma; have HLa := Lib.hid hla; have HCa := Lib.hid hca; have HQa := Lib.hid hqa; clear hma hla hca hqa; have h := h.know (Know.has_and (Know.has_left (Know.has_left (Know.has_refl _))) (Know.has_right (Know.has_refl _))); obtain ⟨px, hpx⟩ : ∃ b, wn.heap.size = b := ⟨_, rfl⟩; have h := h.allocRaw #[.int .i64 V, .int .i64 0, .int .i64 0] 36; rw [hpx] at h; have px0 := h.rawCell 0; have px1 := h.rawCell 1; have px2 := h.rawCell 2; simp at px0 px1 px2; replace H := Lib.hid h; clear h)
             | (go_at_call 9; (with_reducible refine (ref11_rowsN la (([] : List BatR).take 0) la.length 0 rfl HTN.out qa _ capa _ HMa.out HLa.out HLT.out (by have := HCa.out; have := HTL.out; omega) (Know.has_right (Know.has_refl _)) (HBE.out _ _ _) H.out).mono ?_); rintro e_ wn ⟨rfl, h⟩; have px0 := h.rawCell 0; have px1 := h.rawCell 1; have px2 := h.rawCell 2; simp at px0 px1 px2; replace H := Lib.hid h; clear h))
           go_ret
           exact ⟨rfl, H.out.below⟩
         · have hnc : (n : Int) ≤ (cap : Int) := by omega
           have hnc2 : n ≤ cap := by omega
           cases q with
           | none =>
            as_aux_lemma =>
            have HPS := Lib.hid (show stopS rest 0 = 0 by
             unfold stopS
             have h7 : rest = [] := List.eq_nil_of_length_eq_zero (by omega)
             rw [if_neg (by simp), if_neg (by rw [h7]; simp)])
            have hvi : ¬ (V : Int) < (kk : Int) := by omega
            clear hfin hrest hvk hl6 hcap hl0 hnl hne hVA hka hlt
            go_wp2_with (first
              | (go_at_call 7; (with_reducible refine (law22_cut (A.take kk) ns HTL.out HNS.out HNL.out q2 cap2 HN3.out H.out).mono ?_); rintro e_ wn ⟨q2c, cap2c, rfl, h⟩; replace H := Lib.hid h; clear h)
              | (go_at_call 15; (with_reducible refine (scan_any (cutS (A.take kk) ns) (A.take kk) (cutS_flat ns (A.take kk)) ((l.take n).map BatR.b) V rest 0 0 HF.out HPS.out HTL.out q2c cap2c HCL.out (Know.has_right (Know.has_refl _)) H.out).mono ?_); rintro e_ wn ⟨qa, capa, la, rfl, hma, hla, hca, hqa, h⟩; have HMa := Lib.hid hma; have HLa := Lib.hid hla; have HCa := Lib.hid hca; have HQa := Lib.hid hqa; clear hma hla hca hqa; have h := h.know (Know.has_and (Know.has_left (Know.has_left (Know.has_refl _))) (Know.has_right (Know.has_refl _))); obtain ⟨px, hpx⟩ : ∃ b, wn.heap.size = b := ⟨_, rfl⟩; have h := h.allocRaw #[.int .i64 V, .int .i64 0, .int .i64 0] 36; rw [hpx] at h; have px0 := h.rawCell 0; have px1 := h.rawCell 1; have px2 := h.rawCell 2; simp at px0 px1 px2; replace H := Lib.hid h; clear h)
              | (go_at_call 9; (with_reducible refine (ref11_rowsN la (l.take n) la.length n rfl HTN.out qa _ capa _ HMa.out HLa.out HLT.out (by have := HCa.out; have := HTL.out; omega) (Know.has_right (Know.has_refl _)) (HBE.out _ _ _) H.out).mono ?_); rintro e_ wn ⟨rfl, h⟩; have px0 := h.rawCell 0; have px1 := h.rawCell 1; have px2 := h.rawCell 2; simp at px0 px1 px2; replace H := Lib.hid h; clear h))
            go_ret
            exact ⟨rfl, H.out.below⟩
           | some ad =>
            as_aux_lemma =>
            have HPS := Lib.hid (show stopS rest 0 = 0 by
             unfold stopS
             have h7 : rest = [] := List.eq_nil_of_length_eq_zero (by omega)
             rw [if_neg (by simp), if_neg (by rw [h7]; simp)])
            have hvi : ¬ (V : Int) < (kk : Int) := by omega
            clear hfin hrest hvk hl6 hcap hl0 hnl hne hVA hka hlt
            go_wp2_with (first
              | (go_at_call 7; (with_reducible refine (law22_cut (A.take kk) ns HTL.out HNS.out HNL.out q2 cap2 HN3.out H.out).mono ?_); rintro e_ wn ⟨q2c, cap2c, rfl, h⟩; replace H := Lib.hid h; clear h)
              | (go_at_call 15; (with_reducible refine (scan_any (cutS (A.take kk) ns) (A.take kk) (cutS_flat ns (A.take kk)) ((l.take n).map BatR.b) V rest 0 0 HF.out HPS.out HTL.out q2c cap2c HCL.out (Know.has_right (Know.has_refl _)) H.out).mono ?_); rintro e_ wn ⟨qa, capa, la, rfl, hma, hla, hca, hqa, h⟩; have HMa := Lib.hid hma; have HLa := Lib.hid hla; have HCa := Lib.hid hca; have HQa := Lib.hid hqa; clear hma hla hca hqa; have h := h.know (Know.has_and (Know.has_left (Know.has_left (Know.has_refl _))) (Know.has_right (Know.has_refl _))); obtain ⟨px, hpx⟩ : ∃ b, wn.heap.size = b := ⟨_, rfl⟩; have h := h.allocRaw #[.int .i64 V, .int .i64 0, .int .i64 0] 36; rw [hpx] at h; have px0 := h.rawCell 0; have px1 := h.rawCell 1; have px2 := h.rawCell 2; simp at px0 px1 px2; replace H := Lib.hid h; clear h)
              | (go_at_call 9; (with_reducible refine (ref11_rowsN la (l.take n) la.length n rfl HTN.out qa _ capa _ HMa.out HLa.out HLT.out (by have := HCa.out; have := HTL.out; omega) (Know.has_right (Know.has_refl _)) (HBE.out _ _ _) H.out).mono ?_); rintro e_ wn ⟨rfl, h⟩; have px0 := h.rawCell 0; have px1 := h.rawCell 1; have px2 := h.rawCell 2; simp at px0 px1 px2; replace H := Lib.hid h; clear h))
            go_ret
            exact ⟨rfl, H.out.below⟩

end Go.Proofs.YtngojlinfdokpaaGreat

/- A text. -/
namespace Go.Proofs.YtngojlinfdokpaaGreat
open Go.RowKit

open Go.ChangeShapes Go.WideShapes Go.ChangeAt Go.Deep

theorem cells_hdr : Tryz.prog.cellsOf 67 = 3 := by kernel_rfl
theorem cells_blob : Tryz.prog.cellsOf 62 = 2 := by kernel_rfl
theorem cells_bool : Tryz.prog.cellsOf 4 = 1 := by kernel_rfl
section
variable {H : Type} {enc : TypeId × Value → H} {w : World} {spare : Nat → Bool} {held : Bool}
end

end Go.Proofs.YtngojlinfdokpaaGreat

/- A text. -/
namespace Go.Proofs.YtngojlinfdokpaaGreat
open Go.RowKit
open Go.ChangeShapes Go.WideShapes Go.ChangeAt Go.Deep

section
variable {H : Type} {enc : TypeId × Value → H} {w : World} {spare : Nat → Bool} {held : Bool}
set_option maxRecDepth 100000 in
theorem blob_opens {N : Nat} : ∀ n cs y, DataW.trod enc Tryz.prog w 0 spare held n 62 cs = some y → Light 62 y.1 → (∀ x ∈ y.2, x.block < N) → ∃ x : BlobS, cs = [.bool x.null, .string (bb x.data)] ∧ x.data.length ≤ 140737488351232 := by
 intro n cs y h hl hN
 obtain ⟨hc, m, hf⟩ := opens_field Tryz.underlying62 h hl hN
 rw [cells_blob] at hc
 obtain ⟨a, b, rfl⟩ := len2 hc
 obtain ⟨z0, g0, l0, _⟩ := hf 0 _ rfl
 obtain ⟨z1, g1, l1, _⟩ := hf 1 _ rfl
 have g0 : DataW.trod enc Tryz.prog w 0 spare held m 4 (List.take (Tryz.prog.cellsOf 4) (List.drop 0 [a, b])) = some z0 := g0
 have g1 : DataW.trod enc Tryz.prog w 0 spare held m 9 (List.take (Tryz.prog.cellsOf 9) (List.drop 1 [a, b])) = some z1 := g1
 rw [cells_bool] at g0
 rw [cells_str] at g1
 obtain ⟨x, e0⟩ := opens_bool Tryz.underlying4 g0
 obtain ⟨s, e1, hs⟩ := opens_str Tryz.underlying9 g1 l1
 simp at e0 e1
 subst e0 e1
 exact ⟨⟨x, s⟩, rfl, hs⟩
set_option maxRecDepth 100000 in
theorem rhdr_opens {N : Nat} : ∀ n cs y, DataW.trod enc Tryz.prog w 0 spare held n 67 cs = some y → Light 67 y.1 → (∀ x ∈ y.2, x.block < N) → ∃ x : HdrS, RHdr cs x ∧ (x.key.length ≤ 140737488351232 ∧ x.val.data.length ≤ 140737488351232) := by
 intro n cs y h hl hN
 obtain ⟨hc, m, hf⟩ := opens_field Tryz.underlying67 h hl hN
 rw [cells_hdr] at hc
 obtain ⟨a, b, c, rfl⟩ := len3 hc
 obtain ⟨z0, g0, l0, n0⟩ := hf 0 _ rfl
 obtain ⟨z1, g1, l1, n1⟩ := hf 1 _ rfl
 have g0 : DataW.trod enc Tryz.prog w 0 spare held m 9 (List.take (Tryz.prog.cellsOf 9) (List.drop 0 [a, b, c])) = some z0 := g0
 have g1 : DataW.trod enc Tryz.prog w 0 spare held m 62 (List.take (Tryz.prog.cellsOf 62) (List.drop 1 [a, b, c])) = some z1 := g1
 rw [cells_str] at g0
 rw [cells_blob] at g1
 obtain ⟨s, e0, hs⟩ := opens_str Tryz.underlying9 g0 l0
 obtain ⟨x, e1, hx⟩ := blob_opens _ _ _ g1 l1 n1
 simp at e0 e1
 obtain ⟨e1, e2⟩ := e1
 subst e0 e1 e2
 exact ⟨⟨s, x⟩, rfl, hs, hx⟩
end

end Go.Proofs.YtngojlinfdokpaaGreat

/- A text. -/
namespace Go.Proofs.YtngojlinfdokpaaGreat
open Go.RowKit

end Go.Proofs.YtngojlinfdokpaaGreat

/- A text. -/
namespace Go.Proofs.YtngojlinfdokpaaGreat
open Go.Joins Go.RowKit
open Go.ChangeShapes Go.WideShapes Go.ChangeAt Go.Deep

theorem cells_rec : Tryz.prog.cellsOf 65 = 7 := by kernel_rfl
theorem cells_hdrs : Tryz.prog.cellsOf 63 = 1 := by kernel_rfl
section
variable {H : Type} {enc : TypeId × Value → H} {w : World} {spare : Nat → Bool} {held : Bool}
end
end Go.Proofs.YtngojlinfdokpaaGreat

/- A text. -/
namespace Go.Proofs.YtngojlinfdokpaaGreat
open Go.RowKit

def GoodR (l : List (RecS × Value)) : Prop := ∀ x ∈ l, smallR x.1 = 1 ∧ recOk x.1 = 0
theorem GoodR.nil : GoodR [] := fun _ h => by cases h
def FitR (l : List (RecS × Value)) : Prop := ∀ x ∈ l, x.1.R ∧ x.1.hdrs.length ≤ 9223372036854775807 ∧ HFit x.1.hdrs ∧ x.1.key.data.length ≤ 140737488351232 ∧ x.1.val.data.length ≤ 140737488351232
end Go.Proofs.YtngojlinfdokpaaGreat

/- A text. -/
namespace Go.Proofs.YtngojlinfdokpaaGreat
open Go.Joins Go.RowKit
open Go.ChangeShapes Go.WideShapes Go.ChangeAt Go.Deep

def QRec (W : World) (x : RecS × Value) : Prop := RowsOf (fun _ cs x => RHdr cs x) (· < W.heap.size) W x.2 3 x.1.hdrs ∧ x.1.R ∧ x.1.hdrs.length ≤ 9223372036854775807 ∧ HFit x.1.hdrs ∧ x.1.key.data.length ≤ 140737488351232 ∧ x.1.val.data.length ≤ 140737488351232
theorem QRec.fit {W : World} {l : List (RecS × Value)} (h : ∀ x ∈ l, QRec W x) : FitR l := fun x hx => (h x hx).2
theorem QRec.start {W : World} {v : Value} {l : List (RecS × Value)} (hr : RowsOf (fun _ cs x => RRec cs x) (· < W.heap.size) W v 7 l) (h : ∀ x ∈ l, QRec W x) : St W W (Know.recs v l) [] := St.start ⟨hr, fun x hx => (h x hx).1⟩
section
variable {H : Type} {enc : TypeId × Value → H} {w : World} {spare : Nat → Bool} {held : Bool}
set_option maxHeartbeats 1000000 in
set_option maxRecDepth 100000 in
theorem rrec_opens : ∀ n cs y, DataW.trod enc Tryz.prog w 0 spare held n 65 cs = some y → Light 65 y.1 → (∀ x ∈ y.2, x.block < w.heap.size) → ∃ x : RecS × Value, RRec cs x ∧ QRec w x := by
 intro n cs y hf hl hN
 have hNw : w.heap.size ≤ w.heap.size := Nat.le_refl _
 obtain ⟨hc, m, hg⟩ := opens_field Tryz.underlying65 hf hl hN
 rw [cells_rec] at hc
 match cs, hc with
 | [c0, c1, c2, c3, c4, c5, c6], _ =>
  obtain ⟨z0, g0, l0, n0⟩ := hg 0 _ rfl
  have g0 : DataW.trod enc Tryz.prog w 0 spare held m 3 (List.take (Tryz.prog.cellsOf 3) (List.drop 0 [c0, c1, c2, c3, c4, c5, c6])) = some z0 := g0
  rw [cells_int] at g0
  obtain ⟨z1, g1, l1, n1⟩ := hg 1 _ rfl
  have g1 : DataW.trod enc Tryz.prog w 0 spare held m 3 (List.take (Tryz.prog.cellsOf 3) (List.drop 1 [c0, c1, c2, c3, c4, c5, c6])) = some z1 := g1
  rw [cells_int] at g1
  obtain ⟨z2, g2, l2, n2⟩ := hg 2 _ rfl
  have g2 : DataW.trod enc Tryz.prog w 0 spare held m 62 (List.take (Tryz.prog.cellsOf 62) (List.drop 2 [c0, c1, c2, c3, c4, c5, c6])) = some z2 := g2
  rw [cells_blob] at g2
  obtain ⟨z3, g3, l3, n3⟩ := hg 3 _ rfl
  have g3 : DataW.trod enc Tryz.prog w 0 spare held m 62 (List.take (Tryz.prog.cellsOf 62) (List.drop 4 [c0, c1, c2, c3, c4, c5, c6])) = some z3 := g3
  rw [cells_blob] at g3
  obtain ⟨z4, g4, l4, n4⟩ := hg 4 _ rfl
  have g4 : DataW.trod enc Tryz.prog w 0 spare held m 63 (List.take (Tryz.prog.cellsOf 63) (List.drop 6 [c0, c1, c2, c3, c4, c5, c6])) = some z4 := g4
  rw [cells_hdrs] at g4
  obtain ⟨x0, e0, r0⟩ := opens_i64 Tryz.underlying3 g0
  obtain ⟨x1, e1, r1⟩ := opens_i64 Tryz.underlying3 g1
  obtain ⟨x2, e2, s2⟩ := blob_opens _ _ _ g2 l2 n2
  obtain ⟨x3, e3, s3⟩ := blob_opens _ _ _ g3 l3 n3
  obtain ⟨v6, x4, e4, hr, _, hm⟩ := opens_rows (R := fun w cs x => (fun _ cs x => RHdr cs x) w cs x ∧ (fun x : HdrS => x.key.length ≤ 140737488351232 ∧ x.val.data.length ≤ 140737488351232) x) (N := w.heap.size) Tryz.underlying63 cells_hdr (by decide) rhdr_opens g4 l4 n4 hNw
  obtain ⟨hr1, hq⟩ := hr.part
  simp at e0 e1 e2 e3 e4
  obtain ⟨e2a, e2b⟩ := e2
  obtain ⟨e3a, e3b⟩ := e3
  subst e0 e1 e2a e2b e3a e3b e4
  have hm2 : x4.length ≤ 9223372036854775807 := hm
  exact ⟨(⟨x0, x1, x2, x3, x4⟩, _), rfl, hr1, ⟨r0, r1⟩, hm2, hq, s2, s3⟩
end
end Go.Proofs.YtngojlinfdokpaaGreat

/- A text. -/
namespace Go.Proofs.YtngojlinfdokpaaGreat
open Go.Joins Go.RowKit
open Go.ChangeShapes Go.WideShapes Go.ChangeAt Go.Deep

theorem cells_bat : Tryz.prog.cellsOf 43 = 12 := by kernel_rfl
theorem cells_recs : Tryz.prog.cellsOf 41 = 1 := by kernel_rfl
section
variable {H : Type} {enc : TypeId × Value → H} {w : World} {spare : Nat → Bool} {held : Bool}
set_option maxHeartbeats 2000000 in
set_option maxRecDepth 100000 in
theorem bat_opens : ∀ n cs y, DataW.trod enc Tryz.prog w 0 spare held n 43 cs = some y → Light 43 y.1 → (∀ x ∈ y.2, x.block < w.heap.size) →
    ∃ (base leader : Int) (app txn ctl : Bool) (last first maxt prod epoch sq : Int) (l : List (RecS × Value)) (rv : Value), cs = [.int .i64 base, .int .i64 leader, .bool app, .bool txn, .bool ctl, .int .i64 last, .int .i64 first, .int .i64 maxt, .int .i64 prod, .int .i64 epoch, .int .i64 sq, rv] ∧
      BatS.R ⟨base, leader, app, txn, ctl, last, first, maxt, prod, epoch, sq, l.map (·.1)⟩ ∧ RowsOf (fun _ cs x => RRec cs x) (· < w.heap.size) w rv 7 l ∧ (∀ x ∈ l, QRec w x) := by
  intro n cs y hf hl hN
  obtain ⟨hc, m, hg⟩ := opens_field Tryz.underlying43 hf hl hN
  rw [cells_bat] at hc
  match cs, hc with
  | [c0, c1, c2, c3, c4, c5, c6, c7, c8, c9, c10, c11], _ =>
    obtain ⟨z0, g0, l0, n0⟩ := hg 0 _ rfl
    have g0 : DataW.trod enc Tryz.prog w 0 spare held m 3 (List.take (Tryz.prog.cellsOf 3) (List.drop 0 [c0, c1, c2, c3, c4, c5, c6, c7, c8, c9, c10, c11])) = some z0 := g0
    rw [cells_int] at g0
    obtain ⟨z1, g1, l1, n1⟩ := hg 1 _ rfl
    have g1 : DataW.trod enc Tryz.prog w 0 spare held m 3 (List.take (Tryz.prog.cellsOf 3) (List.drop 1 [c0, c1, c2, c3, c4, c5, c6, c7, c8, c9, c10, c11])) = some z1 := g1
    rw [cells_int] at g1
    obtain ⟨z2, g2, l2, n2⟩ := hg 2 _ rfl
    have g2 : DataW.trod enc Tryz.prog w 0 spare held m 4 (List.take (Tryz.prog.cellsOf 4) (List.drop 2 [c0, c1, c2, c3, c4, c5, c6, c7, c8, c9, c10, c11])) = some z2 := g2
    rw [cells_bool] at g2
    obtain ⟨z3, g3, l3, n3⟩ := hg 3 _ rfl
    have g3 : DataW.trod enc Tryz.prog w 0 spare held m 4 (List.take (Tryz.prog.cellsOf 4) (List.drop 3 [c0, c1, c2, c3, c4, c5, c6, c7, c8, c9, c10, c11])) = some z3 := g3
    rw [cells_bool] at g3
    obtain ⟨z4, g4, l4, n4⟩ := hg 4 _ rfl
    have g4 : DataW.trod enc Tryz.prog w 0 spare held m 4 (List.take (Tryz.prog.cellsOf 4) (List.drop 4 [c0, c1, c2, c3, c4, c5, c6, c7, c8, c9, c10, c11])) = some z4 := g4
    rw [cells_bool] at g4
    obtain ⟨z5, g5, l5, n5⟩ := hg 5 _ rfl
    have g5 : DataW.trod enc Tryz.prog w 0 spare held m 3 (List.take (Tryz.prog.cellsOf 3) (List.drop 5 [c0, c1, c2, c3, c4, c5, c6, c7, c8, c9, c10, c11])) = some z5 := g5
    rw [cells_int] at g5
    obtain ⟨z6, g6, l6, n6⟩ := hg 6 _ rfl
    have g6 : DataW.trod enc Tryz.prog w 0 spare held m 3 (List.take (Tryz.prog.cellsOf 3) (List.drop 6 [c0, c1, c2, c3, c4, c5, c6, c7, c8, c9, c10, c11])) = some z6 := g6
    rw [cells_int] at g6
    obtain ⟨z7, g7, l7, n7⟩ := hg 7 _ rfl
    have g7 : DataW.trod enc Tryz.prog w 0 spare held m 3 (List.take (Tryz.prog.cellsOf 3) (List.drop 7 [c0, c1, c2, c3, c4, c5, c6, c7, c8, c9, c10, c11])) = some z7 := g7
    rw [cells_int] at g7
    obtain ⟨z8, g8, l8, n8⟩ := hg 8 _ rfl
    have g8 : DataW.trod enc Tryz.prog w 0 spare held m 3 (List.take (Tryz.prog.cellsOf 3) (List.drop 8 [c0, c1, c2, c3, c4, c5, c6, c7, c8, c9, c10, c11])) = some z8 := g8
    rw [cells_int] at g8
    obtain ⟨z9, g9, l9, n9⟩ := hg 9 _ rfl
    have g9 : DataW.trod enc Tryz.prog w 0 spare held m 3 (List.take (Tryz.prog.cellsOf 3) (List.drop 9 [c0, c1, c2, c3, c4, c5, c6, c7, c8, c9, c10, c11])) = some z9 := g9
    rw [cells_int] at g9
    obtain ⟨z10, g10, l10, n10⟩ := hg 10 _ rfl
    have g10 : DataW.trod enc Tryz.prog w 0 spare held m 3 (List.take (Tryz.prog.cellsOf 3) (List.drop 10 [c0, c1, c2, c3, c4, c5, c6, c7, c8, c9, c10, c11])) = some z10 := g10
    rw [cells_int] at g10
    obtain ⟨z11, g11, l11, n11⟩ := hg 11 _ rfl
    have g11 : DataW.trod enc Tryz.prog w 0 spare held m 41 (List.take (Tryz.prog.cellsOf 41) (List.drop 11 [c0, c1, c2, c3, c4, c5, c6, c7, c8, c9, c10, c11])) = some z11 := g11
    rw [cells_recs] at g11
    obtain ⟨x0, e0, r0⟩ := opens_i64 Tryz.underlying3 g0
    obtain ⟨x1, e1, r1⟩ := opens_i64 Tryz.underlying3 g1
    obtain ⟨x2, e2⟩ := opens_bool Tryz.underlying4 g2
    obtain ⟨x3, e3⟩ := opens_bool Tryz.underlying4 g3
    obtain ⟨x4, e4⟩ := opens_bool Tryz.underlying4 g4
    obtain ⟨x5, e5, r5⟩ := opens_i64 Tryz.underlying3 g5
    obtain ⟨x6, e6, r6⟩ := opens_i64 Tryz.underlying3 g6
    obtain ⟨x7, e7, r7⟩ := opens_i64 Tryz.underlying3 g7
    obtain ⟨x8, e8, r8⟩ := opens_i64 Tryz.underlying3 g8
    obtain ⟨x9, e9, r9⟩ := opens_i64 Tryz.underlying3 g9
    obtain ⟨x10, e10, r10⟩ := opens_i64 Tryz.underlying3 g10
    obtain ⟨v11, x11, e11, hrq, _, _⟩ := opens_rows (R := fun w' cs x => (fun _ cs x => RRec cs x) w' cs x ∧ QRec w x) (N := w.heap.size) Tryz.underlying41 cells_rec (by decide) rrec_opens g11 l11 n11 (Nat.le_refl _)
    obtain ⟨hr, hq⟩ := hrq.part
    simp at e0 e1 e2 e3 e4 e5 e6 e7 e8 e9 e10 e11
    subst e0 e1 e2 e3 e4 e5 e6 e7 e8 e9 e10 e11
    exact ⟨x0, x1, x2, x3, x4, x5, x6, x7, x8, x9, x10, x11, _, rfl, ⟨r0, r1, r5, r6, r7, r8, r9, r10⟩, hr, hq⟩
end
end Go.Proofs.YtngojlinfdokpaaGreat

/- A text. -/
namespace Go.Proofs.YtngojlinfdokpaaGreat
open Go.RowKit

def QBat (W : World) (x : BatR) : Prop := (RowsOf (fun _ cs x => RRec cs x) (· < W.heap.size) W (.slice x.q x.l.length x.cap) 7 x.l ∧ ∀ y ∈ x.l, QRec W y) ∧ x.Fit
theorem QBat.fit {W : World} {l : List BatR} (h : ∀ x ∈ l, QBat W x) : ∀ x ∈ l, x.Fit := fun x hx => (h x hx).2
theorem QBat.start {W : World} {v : Value} {l : List BatR} (hr : RowsOf (fun _ cs x => RBat cs x) (· < W.heap.size) W v 12 l) (h : ∀ x ∈ l, QBat W x) : St W W (Know.bats v l) [] := St.start ⟨hr, fun x hx => ⟨(h x hx).1.1, fun y hy => ((h x hx).1.2 y hy).1⟩⟩
section
variable {H : Type} {enc : TypeId × Value → H} {w : World} {spare : Nat → Bool} {held : Bool}
theorem rbat_opens : ∀ n cs y, DataW.trod enc Tryz.prog w 0 spare held n 43 cs = some y → Light 43 y.1 → (∀ x ∈ y.2, x.block < w.heap.size) → ∃ x : BatR, RBat cs x ∧ QBat w x := by
 intro n cs y hf hl hN
 obtain ⟨base, leader, app, txn, ctl, last, first, maxt, prod, epoch, sq, l, rv, e, hR, hr, hq⟩ := bat_opens n cs y hf hl hN
 obtain ⟨q, cap, hrv⟩ : ∃ q cap, rv = .slice q l.length cap := by obtain ⟨p, cap, hv, _⟩ := hr; exact ⟨p, cap, hv⟩
 subst hrv
 exact ⟨⟨⟨base, leader, app, txn, ctl, last, first, maxt, prod, epoch, sq, l.map (·.1)⟩, l, q, cap⟩, e, ⟨hr, hq⟩, hR, fun x hx => (hq x hx).2, rfl⟩
end

end Go.Proofs.YtngojlinfdokpaaGreat

/- A text. -/
namespace Go.Proofs.YtngojlinfdokpaaGreat
open Go.RowKit

theorem slice_capS {P : Program} {w : World} {r : Reach} {base : Nat} {t e : TypeId} {a : Option Addr} {len cap : Nat} (ht : P.underlying t = some (.slice e)) (h : Value.okWide P w r base t (.slice a len cap)) : len ≤ cap := by
 simp only [Value.okWide, ht, Cell.okWide] at h
 unfold Cell.ok at h
 simp only [ht] at h
 cases a with
 | none =>
  cases len with
  | zero => exact Nat.zero_le _
  | succ n => simp at h
 | some a => exact h.1
theorem St.twoS {W : World} {A B : Know} (ha : St W W A []) (hb : St W W B []) : St W W (A.and B) [] := by
 obtain ⟨F, a, fa⟩ := ha.get
 obtain ⟨G, b, gb⟩ := hb.get
 exact St.start ⟨A.mono _ _ _ a fa, B.mono _ _ _ b gb⟩
theorem scanRows_any (l : List BatR) (a : Option Addr) (m cap : Nat) (ns : List Int) (v2 : Value) (e : Int) (W : World) (hcap : m ≤ cap) (hr : RowsOf (fun _ cs x => RBat cs x) (· < W.heap.size) W (.slice a m cap) 12 l) (hq : ∀ x ∈ l, QBat W x) (hr2 : RowsOf (fun _ cs x => RU8 cs x) (· < W.heap.size) W v2 1 ns) (hns : ∀ x ∈ ns, 0 ≤ x ∧ x < 256) (he : 0 ≤ e ∧ e < 65536) :
  Calls Tryz.prog 4 #[.slice a m cap, v2, .int .u16 e] W fun en w' => en = .returned (.bool true) ∧ Below W.heap.size W w' := by
 have h1 := QBat.start hr hq
 have h2 : St W W (Know.flat RU8 v2 1 ns) [] := St.start hr2
 have h := St.twoS h1 h2
 obtain ⟨q2, cap2, hv⟩ : ∃ q cap, v2 = .slice q ns.length cap := by obtain ⟨p, cap, hv, _⟩ := hr2; exact ⟨p, cap, hv⟩
 subst hv
 obtain rfl : m = l.length := by
  obtain ⟨p, c, hv, _⟩ := hr
  simp at hv
  exact hv.2.1
 by_cases c1 : 6 < l.length
 · exact sr_l1 l a cap ns q2 cap2 e c1 (Know.has_left (Know.has_refl _)) (Know.has_right (Know.has_refl _)) h
 by_cases c2 : 200 < ns.length
 · exact sr_l2 l a cap ns q2 cap2 e c1 c2 (Know.has_left (Know.has_refl _)) (Know.has_right (Know.has_refl _)) h
 exact sr_main l a cap ns q2 cap2 e (QBat.fit hq) (by omega) hcap hns (by omega) he (Know.has_left (Know.has_refl _)) (Know.has_right (Know.has_refl _)) h

end Go.Proofs.YtngojlinfdokpaaGreat

/- Batches that may be, cut anywhere, in any chunks: all that are whole come, in their order, and what is left says whether it is clean or torn: proved of every row of batches, every row of sizes and every cut. -/
namespace Go.Proofs.YtngojlinfdokpaaGreat
open Go.ChangeShapes Go.WideShapes Go.ChangeAt Go.ChangeMaps Go.RowKit

set_option maxRecDepth 100000 in
theorem scanRows_lifted (os : Os) (started : os.Started) (H : Type) (enc : TypeId × Value → H) :
  ReturnsInHanded {} Tryz.checked os 4 .any (Rows.scanRowsSpec.pre6 enc Tryz.prog Tryz.f4 Rows.scanRowsRow.domain false) (Rows.scanRowsSpec.post enc Tryz.prog Tryz.f4 false true false false) := by
 refine returnsInHanded_of_change_sized (C := Tryz.checked) Tryz.own started (by as_aux_lemma => kernel_rfl) Tryz.func4
  (ChangeSpec.witness6 (enc := enc) (C := Tryz.checked) false ⟨#[], #[.slice none 0 0, .slice none 0 0, .int .u16 0], []⟩ 8 (by as_aux_lemma => kernel_rfl) (by as_aux_lemma => kernel_rfl) (by as_aux_lemma => kernel_rfl) (by as_aux_lemma => kernel_rfl)) ?_
 intro W base args ds gs before hval0 hW hcnd hsz0 _
 have hval : ∀ (j : Nat) t v, Tryz.f4.params[j]? = some t → args[j]? = some v → Value.okWide Tryz.prog W .any base t v := hval0
 clear hval0
 refine law_contract (n := 3) (tb := 4) rfl rfl rfl Tryz.underlying4 (by intro ds h; match ds, h with | [d0, d1, d2], _ => rfl) (by as_aux_lemma => kernel_rfl) hW ?_
 intro p hA0 hlt
 have hA : DataW.TrodAll enc Tryz.prog W 0 (fun _ => true) true Tryz.f4.params.toList args.toList ds p := hA0
 clear hA0
 rw [Tryz.params4] at hA hval
 obtain ⟨v0, v1, v2, d0, d1, d2, p0, p1, p2, rfl, rfl, rfl, h0, h1, h2⟩ := trodAll_three hA
 have hsz : (DataW.weightsEach Tryz.prog (Tryz.f4.params.toList ++ Rows.scanRowsSpec.plain.varTypes Tryz.prog) ([d0, d1, d2] ++ gs)).all (· ≤ reachBytes) = true := hsz0
 rw [Tryz.params4] at hsz
 obtain ⟨c0, e0, k0, rfl⟩ := okWide_slice Tryz.underlying28 (hval 0 28 v0 rfl rfl)
 have lg0 : Light 28 d0 := light_arg hsz (j := 0) rfl rfl
 obtain ⟨fuel0, hf0⟩ := h0
 obtain ⟨w0, l0, hw0, hrq0, hbl0, hl0⟩ := opens_rows (R := fun w cs x => (fun _ cs x => RBat cs x) w cs x ∧ QBat W x) (N := W.heap.size) Tryz.underlying28 cells_bat (by decide) rbat_opens hf0 lg0 (fun y hy => hlt y (by simp [hy])) (Nat.le_refl _)
 obtain ⟨hr0, hq0⟩ := hrq0.part
 obtain rfl : w0 = Value.slice c0 e0 k0 := by simpa [Value.cells] using hw0.symm
 have hcap0 := slice_capS Tryz.underlying28 (hval 0 28 _ rfl rfl)
 obtain ⟨c1, e1, k1, rfl⟩ := okWide_slice Tryz.underlying22 (hval 1 22 v1 rfl rfl)
 have lg1 : Light 22 d1 := light_arg hsz (j := 1) rfl rfl
 obtain ⟨fuel1, hf1⟩ := h1
 obtain ⟨w1, l1, hw1, hrq1, hbl1, hl1⟩ := opens_rows (R := fun w cs x => (fun _ cs x => RU8 cs x) w cs x ∧ (fun x : Int => 0 ≤ x ∧ x < 256) x) (N := W.heap.size) Tryz.underlying22 cells_u8S (by decide) ru8_opens hf1 lg1 (fun y hy => hlt y (by simp [hy])) (Nat.le_refl _)
 obtain ⟨hr1, hq1⟩ := hrq1.part
 obtain rfl : w1 = Value.slice c1 e1 k1 := by simpa [Value.cells] using hw1.symm
 obtain ⟨a2, rfl, rfl, rfl, wa2⟩ := open_int Tryz.underlying39 (hval 2 39 v2 rfl rfl) h2
 have r2 := wf_u16 wa2
 exact scanRows_any l0 _ _ _ l1 _ a2 W hcap0 hr0 hq0 hr1 hq1 r2

theorem scanRows_holds : Rows.ScanRowsSaid :=
 OpenClaim.holds_of_wide 4 Tryz.f4 rfl rfl rfl rfl rfl rfl rfl ⟨rfl, rfl, rfl, rfl, rfl⟩ rfl rfl rfl rfl rfl (by as_aux_lemma => kernel_rfl) Tryz.func4 (by as_aux_lemma => kernel_rfl)
  (of_decide_eq_true (by as_aux_lemma => kernel_rfl)) (by as_aux_lemma => (unfold Func.isWrapper; rw [if_neg (by as_aux_lemma => decide +kernel)]; exact ⟨rfl, rfl⟩))
  (fun os started H enc _ => scanRows_lifted os started H enc)

end Go.Proofs.YtngojlinfdokpaaGreat
