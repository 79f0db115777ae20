/- A text. -/
import Derived.Test.YtnnnglklgofabaaGProduceBatches4
import Derived.Test.YtnnnglklgofabaaBlob1
import Derived.Test.YtnnnglklgofabaaGProduceBatches3
/- A text. -/
namespace Go.Proofs.Ytnnnglklgofabaa
open Go.RowKit

theorem errPs_cons (txn : Bool) (v : Int) (x : PartR) (t : List PartR) : errPs txn v (x :: t) = if x.l.length = 0 ∨ (v = 3 ∧ 1 < x.l.length) then 10 else if errBs txn x.l ≠ 0 then errBs txn x.l else errPs txn v t := rfl
theorem errPT_cons (txn : Bool) (v : Int) (x : PTop) (t : List PTop) : errPT txn v (x :: t) = if errPs txn v x.l ≠ 0 then errPs txn v x.l else errPT txn v t := rfl
structure CkP (x : PartR) : Prop where
  len : x.l.length ≤ 1000000
  bats : ∀ y ∈ x.l, CkR y
structure CkT (x : PTop) : Prop where
  name : x.name.length ≤ 140737488355328
  len : x.l.length ≤ 1000000
  parts : ∀ y ∈ x.l, CkP y
theorem pblob_rightQ (nl : Bool) (dd : Bs) (r : Bool) (hr : (⟨nl, dd⟩ : BlobS).right = r) {W0 w : World} {K : Know} {L : List Res} (h : St W0 w K L) :
  Calls Try.prog 42 #[.agg #[.bool nl, .string (bb dd)]] w fun en w' => en = .returned (.bool r) ∧ St W0 w' K L := by
 subst hr
 exact blob_right ⟨nl, dd⟩ h
theorem ckT_few {l : List PTop} (h : ∀ x ∈ l, CkT x) : ∀ x ∈ l, x.name.length ≤ 140737488355328 ∧ x.l.length ≤ 1000000 := fun x hx => ⟨(h x hx).name, (h x hx).len⟩
theorem allB_bad {l : List BatR} {s : Bs} {e : Int} (h : allB l = (s, e)) (h0 : errB l ≠ 0) : s = [] ∧ e = errB l := by unfold allB at h; rw [if_neg h0] at h; cases h; exact ⟨rfl, rfl⟩
theorem allB_ok {l : List BatR} {s : Bs} {e : Int} (h : allB l = (s, e)) (h0 : errB l = 0) : s = encB l ∧ e = 0 := by unfold allB at h; rw [if_pos h0] at h; cases h; exact ⟨rfl, rfl⟩
set_option maxHeartbeats 2000000 in
set_option maxRecDepth 100000 in
theorem bat_all (l : List BatR) (q : Option Addr) (cap : Nat) (s : Bs) (e : Int) (hse : allB l = (s, e)) (hf : ∀ x ∈ l, x.Fit) (hsm : ∀ x ∈ l, smallB (x.l.map (·.1)) = true) (hll : l.length ≤ 20) {W0 w : World} {K : Know} {L : List Res} (hk : K.has (Know.bats (.slice q l.length cap) l)) (h : St W0 w K L) :
  Calls Try.prog 71 #[.slice q l.length cap] w fun en w' => en = .returned (.tuple #[.string (bb s), .int .i64 e]) ∧ St W0 w' K L := by
 have g1 := h.allocOut
 obtain ⟨po, hpo⟩ : ∃ b, w.heap.size = b := ⟨_, rfl⟩
 rw [hpo] at g1
 have H := Lib.hid g1
 have HK := Lib.hid hk
 have HFT := Lib.hid hf
 have HSMA := Lib.hid hsm
 have HLL := Lib.hid hll
 have HSE := Lib.hid hse
 clear h g1 hk hf hsm hll hse
 go_enter Try.func71, Try.ntmps71
 go_wp2
 go_loopw [6, 7, 8, 11] (fun _ _ _ iv wr => ∃ k : Nat, k ≤ l.length ∧ iv = .int .i64 k ∧ errB (l.take k) = 0 ∧ St W0 wr K (.out po ⟨encB (l.take k), 0⟩ :: L)) (fun _ _ _ iv _ => l.length - (intOf iv).toNat)
 case atStart => exact ⟨0, Nat.zero_le _, rfl, rfl, H.out⟩
 case round =>
  obtain ⟨k, hkl, rfl, her, hst⟩ := hrel
  clear H
  have H := Lib.hid hst
  have HER := Lib.hid her
  clear hst her
  by_cases hlt : k < l.length
  · have hl20 : (l.length : Int) ≤ 20 := by have := HLL.out; omega
    have hstep := errB_step l k hlt HER.out
    have hat := errB_at l k hlt HER.out
    have het := encB_take l k hlt
    obtain ⟨b, off, hqq⟩ := bats_at HK.out H.out (by omega)
    subst hqq
    obtain ⟨x, hx⟩ : ∃ x, l[k] = x := ⟨_, rfl⟩
    have cc := bats_cell HK.out H.out k hlt x hx
    have hmem : x ∈ l := hx ▸ List.getElem_mem hlt
    have XF := Lib.hid (HFT.out x hmem)
    have XR2 := Lib.hid XF.out.2.1
    have XR3 := Lib.hid XF.out.2.2
    have XK := Lib.hid (bats_recs HK.out hmem)
    obtain ⟨c0, c1, c2, c3, c4, c5, c6, c7, c8, c9, c10, c11⟩ := cc
    obtain ⟨wE, hwE⟩ : ∃ b, wr.heap.size = b := ⟨_, rfl⟩
    have hki : (k : Int) < (l.length : Int) := by omega
    have h := H.out.allocRaw #[.int .i64 x.b.base, .int .i64 x.b.leader, .bool x.b.app, .bool x.b.txn, .bool x.b.ctl, .int .i64 x.b.last, .int .i64 x.b.first, .int .i64 x.b.maxt, .int .i64 x.b.prod, .int .i64 x.b.epoch, .int .i64 x.b.seq, .slice x.q x.l.length x.cap] 39
    rw [hwE] at h
    clear H
    have H := Lib.hid h
    clear h
    rw [hx] at hstep hat het
    have HSX := Lib.hid (HSMA.out x hmem)
    have HSTEP := Lib.hid hstep
    clear hstep
    obtain ⟨x0, x1, x2, x3, x4, x5, x6, x7, x8, x9, x10, x11, y0, y1, y2, y3, y4, y5, y6, y7, y8, y9, y10, y11⟩ := raw12 (b := wE) (H.out)
    by_cases he : batErr x.b = 0
    · have HSO := Lib.hid (BatR.small XF.out HSX.out he)
      obtain ⟨s0, hs0⟩ : ∃ s, x.b.enc = s := ⟨_, rfl⟩
      have HS := Lib.hid hs0
      rw [hs0] at het
      have OK := Lib.hid (show (⟨encB (l.take k), 0⟩ : OutS).ok s0.length by
       have h1 := encB_le (l.take k) (fun y hy => (BatR.small (HFT.out y (List.mem_of_mem_take hy)) (HSMA.out y (List.mem_of_mem_take hy)) (errB_mem _ HER.out y hy)).elen)
       have h2 := HLL.out
       have h3 := HSO.out.elen
       rw [HS.out] at h3
       rw [List.length_take] at h1
       unfold OutS.ok
       simp only
       omega)
      have EP := Lib.hid (show (⟨encB (l.take k), 0⟩ : OutS).put s0 = ⟨encB (l.take (k + 1)), 0⟩ by rw [het]; rfl)
      have NE := Lib.hid (show errB (l.take (k + 1)) = 0 by rw [HSTEP.out]; exact he)
      clear het hat hs0 he hx hmem
      go_wp2_with (first
  | (go_at_call 8; clear x0 y0 x1 y1 x2 y2 x3 y3 x4 y4 x5 y5 x6 y6 x7 y7 x8 y8 x9 y9 x10 y10 x11 y11; (with_reducible refine (bat_encode_encE x.b s0 HS.out x.l _ _ XR3.out HSO.out XK.out H.out).mono ?_); rintro e_ wn ⟨rfl, h⟩; replace H := Lib.hid h; clear h; obtain ⟨x0, x1, x2, x3, x4, x5, x6, x7, x8, x9, x10, x11, y0, y1, y2, y3, y4, y5, y6, y7, y8, y9, y10, y11⟩ := raw12 (b := wE) (H.out))
  | (go_at_call 92; (with_reducible refine (so_put po _ _ H.out.p1 OK.out).mono ?_); rw [EP.out]; rintro e_ wn ⟨rfl, h⟩; replace H := Lib.hid h; clear h))
      go_roundw
      case rel => exact ⟨k + 1, hlt, by go_num, NE.out, H.out.p1.drop⟩
      case measure => first | (simp [intOf]; done) | (simp [intOf]; omega)
    · have hee := allB_bad HSE.out (by rw [hat he]; exact he)
      rw [hat he] at hee
      obtain ⟨rfl, he0⟩ := hee
      have he2 : batErr x.b = e := he0.symm
      rw [he2] at he
      have HE := Lib.hid (show batErr ⟨x.b.base, x.b.leader, x.b.app, x.b.txn, x.b.ctl, x.b.last, x.b.first, x.b.maxt, x.b.prod, x.b.epoch, x.b.seq, x.l.map (·.1)⟩ = e by rw [XF.out.2.2]; exact he2)
      have H0 := Lib.hid he
      have HMX := Lib.hid (show x.b.first ≤ 9223372036854775807 by have := XF.out.1.2.2.2.1.2; omega)
      have HFB := Lib.hid (FitW.fit XF.out.2.1 HSX.out)
      have HLL3 := Lib.hid (show x.l.length ≤ 1000 by have := smallB_len HSX.out; omega)
      have gz : (e == 0) = false := by rw [beq_eq_false_iff_ne]; exact he
      have gz3 : (e != 0) = true := by simp [bne, gz]
      clear het hat he he0 he2 hx hmem
      go_wp2_with (first
  | (go_at_call 8; clear x0 y0 x1 y1 x2 y2 x3 y3 x4 y4 x5 y5 x6 y6 x7 y7 x8 y8 x9 y9 x10 y10 x11 y11; (with_reducible refine (bat_encode_bad _ _ _ _ _ _ _ _ _ _ _ x.l _ _ e HE.out H0.out HMX.out HFB.out HLL3.out XK.out H.out).mono ?_); rintro e_ wn ⟨rfl, h⟩; replace H := Lib.hid h; clear h; obtain ⟨x0, x1, x2, x3, x4, x5, x6, x7, x8, x9, x10, x11, y0, y1, y2, y3, y4, y5, y6, y7, y8, y9, y10, y11⟩ := raw12 (b := wE) (H.out)))
      go_ret2
      exact ⟨rfl, H.out.drop.drop⟩
  · obtain rfl : k = l.length := by omega
    have her := HER.out
    rw [List.take_length] at her
    obtain ⟨hs, rfl⟩ := allB_ok HSE.out her
    have h := H.out
    rw [List.take_length, ← hs] at h
    clear H her hs
    have H := Lib.hid h
    clear h
    have ET := Lib.hid (show (⟨s, 0⟩ : OutS).text = (s, 0) from rfl)
    go_wp2_with (first
  | (go_at_call 17; (with_reducible refine (so_text po _ H.out).mono ?_); rw [ET.out]; rintro e_ wn ⟨rfl, h⟩; replace H := Lib.hid h; clear h))
    go_ret2
    exact ⟨rfl, H.out.drop⟩
def encPart (x : PartR) : Bs := beBytes x.idx (4 : Int).toNat ++ encF 4 ⟨false, encB x.l⟩
def encPTop (x : PTop) : Bs := (encF 2 ⟨false, x.name⟩ ++ beBytes (x.l.length : Int) (4 : Int).toNat) ++ x.l.flatMap encPart
def encPReq (nl : Bool) (dd : Bs) (ac tm : Int) (l : List PTop) : Bs := (((encF 2 ⟨nl, dd⟩ ++ beBytes ac (2 : Int).toNat) ++ beBytes tm (4 : Int).toNat) ++ beBytes (l.length : Int) (4 : Int).toNat) ++ l.flatMap encPTop
theorem pfits2 (n : Int) (h : -32768 ≤ n ∧ n < 32768) : fits n 2 := by
 refine ⟨by decide, by decide, ?_, ?_⟩
 · show -(128 * 256 ^ 1 : Int) ≤ n; omega
 · show n < 128 * 256 ^ 1; omega
theorem pfits4 (n : Int) (h : -2147483648 ≤ n ∧ n < 2147483648) : fits n 4 := by
 refine ⟨by decide, by decide, ?_, ?_⟩
 · show -(128 * 256 ^ 3 : Int) ≤ n; omega
 · show n < 128 * 256 ^ 3; omega
theorem pso_int (p : Nat) (e e2 : Bs) (n size : Int) (he : e ++ beBytes n size.toNat = e2) (hf : fits n size) (hn : -9223372036854775808 ≤ n ∧ n < 9223372036854775808) (hl : e.length ≤ 100000000000000) {W0 w : World} {K : Know} {L : List Res} (h : St W0 w K (.out p ⟨e, 0⟩ :: L)) :
  Calls Try.prog 39 #[outPtr p, .int .i64 n, .int .i64 size] w fun en w' => en = .returned (.tuple #[]) ∧ St W0 w' K (.out p ⟨e2, 0⟩ :: L) := by
 have h2 := so_int p ⟨e, 0⟩ n size hn h (by unfold OutS.ok; simp only; omega)
 have e3 : (⟨e, 0⟩ : OutS).int n size = ⟨e2, 0⟩ := by unfold OutS.int; rw [if_pos hf, ← he]; rfl
 rw [e3] at h2
 exact h2
theorem pblob_text (p : Nat) (e e2 s : Bs) (he : e ++ encF 2 ⟨false, s⟩ = e2) (hs : s.length ≤ 32767) (hl : e.length ≤ 100000000000000) {W0 w : World} {K : Know} {L : List Res} (h : St W0 w K (.out p ⟨e, 0⟩ :: L)) :
  Calls Try.prog 40 #[outPtr p, .string (bb s)] w fun en w' => en = .returned (.tuple #[]) ∧ St W0 w' K (.out p ⟨e2, 0⟩ :: L) := by
 have h2 := blob_putText p ⟨e, 0⟩ s h (by unfold OutS.ok; simp only; omega)
 have hf : fits (⟨false, s⟩ : BlobS).len 2 := pfits2 _ (by show -32768 ≤ (s.length : Int) ∧ (s.length : Int) < 32768; omega)
 have e3 : (⟨e, 0⟩ : OutS).putText s = ⟨e2, 0⟩ := by
  show ((⟨e, 0⟩ : OutS).int (⟨false, s⟩ : BlobS).len 2).putData ⟨false, s⟩ = _
  unfold OutS.int
  rw [if_pos hf, ← he]
  show (⟨(e ++ beBytes (⟨false, s⟩ : BlobS).len 2) ++ s, 0⟩ : OutS) = _
  rw [List.append_assoc]
  rfl
 rw [e3] at h2
 exact h2
theorem pblob_fixed2 (p : Nat) (e e2 : Bs) (u : Bool) (s : Bs) (he : e ++ encF 2 ⟨u, s⟩ = e2) (hr : (⟨u, s⟩ : BlobS).right = true) (hs : s.length ≤ 32767) (hl : e.length ≤ 100000000000000) {W0 w : World} {K : Know} {L : List Res} (h : St W0 w K (.out p ⟨e, 0⟩ :: L)) :
  Calls Try.prog 38 #[outPtr p, .agg #[.bool u, .string (bb s)], .int .i64 2] w fun en w' => en = .returned (.tuple #[]) ∧ St W0 w' K (.out p ⟨e2, 0⟩ :: L) := by
 have h2 := blob_putFixed p ⟨e, 0⟩ ⟨u, s⟩ 2 h (by unfold OutS.ok; simp only; omega)
 have e3 : (⟨e, 0⟩ : OutS).putFixed ⟨u, s⟩ 2 = ⟨e2, 0⟩ := by
  unfold OutS.putFixed OutS.int
  cases u with
  | true =>
   have h3 : s = [] := by cases s with | nil => rfl | cons _ _ => cases hr
   subst h3
   rw [if_pos (pfits2 _ (by decide)), ← he]
   show (⟨(e ++ beBytes (⟨true, []⟩ : BlobS).len 2) ++ [], 0⟩ : OutS) = _
   rw [List.append_assoc]
   rfl
  | false =>
   rw [if_pos (pfits2 _ (by show -32768 ≤ (s.length : Int) ∧ (s.length : Int) < 32768; omega)), ← he]
   show (⟨(e ++ beBytes (⟨false, s⟩ : BlobS).len 2) ++ s, 0⟩ : OutS) = _
   rw [List.append_assoc]
   rfl
 rw [e3] at h2
 exact h2
theorem pblob_fixed4 (p : Nat) (e e2 s : Bs) (he : e ++ encF 4 ⟨false, s⟩ = e2) (hs : s.length ≤ 100000000) (hl : e.length ≤ 100000000000000) {W0 w : World} {K : Know} {L : List Res} (h : St W0 w K (.out p ⟨e, 0⟩ :: L)) :
  Calls Try.prog 38 #[outPtr p, .agg #[.bool false, .string (bb s)], .int .i64 4] w fun en w' => en = .returned (.tuple #[]) ∧ St W0 w' K (.out p ⟨e2, 0⟩ :: L) := by
 have h2 := blob_putFixed p ⟨e, 0⟩ ⟨false, s⟩ 4 h (by unfold OutS.ok; simp only; omega)
 have e3 : (⟨e, 0⟩ : OutS).putFixed ⟨false, s⟩ 4 = ⟨e2, 0⟩ := by
  unfold OutS.putFixed OutS.int
  rw [if_pos (pfits4 _ (by show -2147483648 ≤ (s.length : Int) ∧ (s.length : Int) < 2147483648; omega)), ← he]
  show (⟨(e ++ beBytes (⟨false, s⟩ : BlobS).len 4) ++ s, 0⟩ : OutS) = _
  rw [List.append_assoc]
  rfl
 rw [e3] at h2
 exact h2
theorem pblob_of (s : Bs) {W0 w : World} {K : Know} {L : List Res} (h : St W0 w K L) : Calls Try.prog 70 #[.string (bb s)] w fun en w' => en = .returned (.agg #[.bool false, .string (bb s)]) ∧ St W0 w' K L := blob_of s h
structure PutP (x : PartR) : Prop where
  few : x.l.length ≤ 20
  fit : ∀ y ∈ x.l, y.Fit
  small : ∀ y ∈ x.l, smallB (y.l.map (·.1)) = true
  err : errB x.l = 0
  idx : 0 ≤ x.idx ∧ x.idx ≤ 2147483647
theorem PutP.len {x : PartR} (h : PutP x) : (encB x.l).length ≤ 280000 := by
 have h1 := encB_le2 x.l h.fit h.small
 have := h.few
 omega
theorem allB_good {l : List BatR} (h : errB l = 0) : allB l = (encB l, 0) := by unfold allB; rw [if_pos h]
structure PutT (x : PTop) : Prop where
  name : x.name.length ≤ 32767
  few : x.l.length ≤ 100000
  parts : ∀ y ∈ x.l, PutP y
theorem flat_cut {α : Type} (f : α → Bs) (l : List α) (k : Nat) (hk : k < l.length) (x : α) (hx : l[k] = x) : (l.drop k).flatMap f = f x ++ (l.drop (k + 1)).flatMap f := by
 rw [List.drop_eq_getElem_cons hk, hx, List.flatMap_cons]
theorem len_ahead {a b c : Bs} {n : Nat} (h : a ++ b = c) (hc : c.length ≤ n) : a.length ≤ n := by
 have := congrArg List.length h
 rw [List.length_append] at this
 omega
theorem St.lend {W0 w : World} {K Kr : Know} {L : List Res} {r : Res} (h : St W0 w K (r :: L)) (hr : ∀ S1 : Nat → Prop, r.holds w S1 → (∀ k, S1 k → k < w.heap.size) → Kr.p w S1) :
   ∃ Kp : Know, Kp.has K ∧ Kp.has Kr ∧ St W0 w Kp L ∧ ∀ (w' : World) (L' : List Res) (Kq : Know), Kq.has Kp → St W0 w' Kq L' → St W0 w' K (r :: L') := by
 obtain ⟨hb, S, F, ⟨S1, S2, h1, h2, h3, h4⟩, hc, hk, he⟩ := h
 have hF : ∀ k, F k → k < w.heap.size := fun k hk => (he k hk).1
 have hS : ∀ k, S1 k → k < w.heap.size := fun k hk => (hc k ((h4 k).2 (.inl hk))).2
 refine ⟨⟨fun w' F' => (∀ k, F k ∨ S1 k → F' k) ∧ w.heap.size ≤ w'.heap.size ∧ ∀ k, F k ∨ S1 k → w'.heap[k]? = w.heap[k]?, ?_, ?_⟩, ?_, ?_, ?_, ?_⟩
 · intro w1 w2 F' ⟨a, b, c⟩ hs hh
   refine ⟨a, Nat.le_trans b hs, fun k hk => ?_⟩
   have hl : k < w.heap.size := by rcases hk with hk | hk; exact hF k hk; exact hS k hk
   rw [hh k (Nat.lt_of_lt_of_le hl b) (a k hk), c k hk]
 · intro w1 F1 F2 ⟨a, b, c⟩ hs
   exact ⟨fun k hk => hs k (a k hk), b, c⟩
 · intro w' F' ⟨a, b, c⟩
   exact K.mono w' F F' (K.keep w w' F hk b (fun k _ hk => c k (.inl hk))) (fun k hk => a k (.inl hk))
 · intro w' F' ⟨a, b, c⟩
   exact Kr.mono w' S1 F' (Kr.keep w w' S1 (hr S1 h1 hS) b (fun k _ hk => c k (.inr hk))) (fun k hk => a k (.inr hk))
 · refine ⟨hb, S2, fun k => F k ∨ S1 k, h2, fun k hk => hc k ((h4 k).2 (.inr hk)), ⟨fun _ h => h, Nat.le_refl _, fun _ _ => rfl⟩, ?_⟩
   rintro k (hk | hk)
   · exact ⟨hF k hk, fun hh => (he k hk).2 ((h4 k).2 (.inr hh))⟩
   · exact ⟨hS k hk, h3 k hk⟩
 · intro w' L' Kq hq ⟨hb', S', F', g1, g2, g3, g4⟩
   obtain ⟨a, b, c⟩ := hq w' F' g3
   refine ⟨hb', fun k => S1 k ∨ S' k, F, ⟨S1, S', Res.keep h1 b (fun k _ hk => c k (.inr hk)), g1, fun k hk hk' => (g4 k (a k (.inr hk))).2 hk', fun k => Iff.rfl⟩, ?_, K.keep w w' F hk b (fun k _ hk => c k (.inl hk)), ?_⟩
   · rintro k (hk | hk)
     · exact ⟨(hc k ((h4 k).2 (.inl hk))).1, Nat.lt_of_lt_of_le (hS k hk) b⟩
     · exact g2 k hk
   · intro k hk
     refine ⟨Nat.lt_of_lt_of_le (hF k hk) b, ?_⟩
     rintro (hh | hh)
     · exact (he k hk).2 ((h4 k).2 (.inl hh))
     · exact (g4 k (a k (.inl hk))).2 hh
theorem raw_rows {α : Type} {R : List Value → α → Prop} {sz : Nat} (l : List α) (f : α → List Value) (hf : ∀ x ∈ l, (f x).length = sz ∧ R (f x) x) {w : World} {b cap : Nat} {T : TypeId} {c : Array Value} (hc : c = (l.flatMap f).toArray) (S1 : Nat → Prop) (h1 : (Res.raw b c T).holds w S1) : (Know.flat R (.slice (some ⟨b, 0, none⟩) l.length cap) sz l).p w S1 := by
 obtain ⟨hg, hs⟩ := h1
 have hlt := heap_lt hg
 refine ⟨_, cap, rfl, fun _ => ⟨b, 0, rfl, (hs b).2 rfl, hlt, fun i hi => ?_⟩⟩
 obtain ⟨h2, h3⟩ := hf l[i] (List.getElem_mem hi)
 refine ⟨f l[i], h2, h3, fun q u hu => ?_⟩
 rw [cell_at hg, Nat.zero_add, hc]
 have hq : q < sz := by rw [← h2]; exact (List.getElem?_eq_some_iff.1 hu).1
 have e : (l.flatMap f)[i * sz + q]? = some u := by
  rw [flatMap_get l f sz (fun x hx => (hf x hx).1) i hi q hq]
  exact hu
 simpa using e
def nobB : BatS := ⟨0, 0, false, false, false, 0, 0, 0, -1, -1, -1, []⟩
def nobR : BatR := ⟨nobB, [], none, 0⟩
theorem nob_err : batErr nobB = 0 := by decide +kernel
theorem nob_len : nobB.enc.length = 61 := by kernel_rfl
theorem nob_R : nobB.R := by unfold BatS.R nobB Rn; decide
theorem nob_fit : nobR.Fit := ⟨nob_R, (fun x hx => by cases hx), rfl⟩
theorem nob_ck : CkR nobR := ⟨rfl, by decide, fun x hx => (by cases hx), by decide⟩
def nobCells : BatR → List Value := fun x => [.int .i64 x.b.base, .int .i64 x.b.leader, .bool x.b.app, .bool x.b.txn, .bool x.b.ctl, .int .i64 x.b.last, .int .i64 x.b.first, .int .i64 x.b.maxt, .int .i64 x.b.prod, .int .i64 x.b.epoch, .int .i64 x.b.seq, .slice x.q x.l.length x.cap]
def nobPart (n b : Nat) : PartR := ⟨0, List.replicate n nobR, some ⟨b, 0, none⟩, n⟩
def nobTop (n b p : Nat) : PTop := ⟨[97], [nobPart n b], some ⟨p, 0, none⟩, 1⟩
theorem nob_all {n : Nat} {P : BatR → Prop} (h : P nobR) : ∀ x ∈ List.replicate n nobR, P x := fun x hx => by rw [List.eq_of_mem_replicate hx]; exact h
theorem nob_ckT (n b p : Nat) (hn : n ≤ 2) : CkT (nobTop n b p) := by
 refine ⟨by show (1 : Nat) ≤ 140737488355328; decide, by show (1 : Nat) ≤ 1000000; decide, fun y hy => ?_⟩
 rw [List.mem_singleton.1 hy]
 exact ⟨by show (List.replicate n nobR).length ≤ _; rw [List.length_replicate]; omega, nob_all nob_ck⟩
theorem nob_putT (b p : Nat) : PutT (nobTop 1 b p) := by
 refine ⟨by show (1 : Nat) ≤ 32767; decide, by show (1 : Nat) ≤ 100000; decide, fun y hy => ?_⟩
 rw [List.mem_singleton.1 hy]
 exact ⟨by show (1 : Nat) ≤ 20; decide, nob_all nob_fit, nob_all (by decide), by show errB [nobR] = 0; show (if batErr nobB = 0 then 0 else _) = (0 : Int); rw [nob_err]; rfl, by show (0 : Int) ≤ 0 ∧ (0 : Int) ≤ 2147483647; decide⟩
theorem nob_E1 (b p : Nat) (v : Int) : errReq ⟨true, []⟩ 0 0 v [nobTop 1 b p] = 0 := by
 have h1 : errBs false [nobR] = 0 := by
  show (if batErr nobB ≠ 0 then batErr nobB else if nobB.ctl = true then 12 else if nobB.txn ≠ false then 8 else 0) = (0 : Int)
  rw [nob_err]; rfl
 have h2 : errPs false v [nobPart 1 b] = 0 := by
  rw [errPs_cons, show (nobPart 1 b).l = [nobR] from rfl, h1, if_neg (by intro h; rcases h with h | ⟨_, h⟩; exact absurd h (by decide); exact absurd h (by decide))]; rfl
 have h3 : errPT false v [nobTop 1 b p] = 0 := by
  show (if errPs false v [nobPart 1 b] ≠ 0 then errPs false v [nobPart 1 b] else 0) = (0 : Int)
  rw [h2]; rfl
 show (if _ then _ else if _ then _ else if errTops _ ≠ 0 then errTops _ else errPT false v [nobTop 1 b p]) = (0 : Int)
 rw [h3]
 rfl
theorem nob_E2 (b p : Nat) : errReq ⟨true, []⟩ 0 0 3 [nobTop 2 b p] = 10 := rfl
theorem nob_E3 (b p : Nat) : errReq ⟨true, []⟩ 0 0 4 [nobTop 2 b p] = 0 := by
 have h1 : errBs false [nobR, nobR] = 0 := by
  show (if batErr nobB ≠ 0 then batErr nobB else if nobB.ctl = true then 12 else if nobB.txn ≠ false then 8 else (if batErr nobB ≠ 0 then batErr nobB else if nobB.ctl = true then 12 else if nobB.txn ≠ false then 8 else 0)) = (0 : Int)
  rw [nob_err]; rfl
 have h2 : errPs false 4 [nobPart 2 b] = 0 := by
  rw [errPs_cons, show (nobPart 2 b).l = [nobR, nobR] from rfl, h1, if_neg (by intro h; rcases h with h | ⟨h, _⟩; exact absurd h (by decide); exact absurd h (by decide))]; rfl
 have h3 : errPT false 4 [nobTop 2 b p] = 0 := by
  show (if errPs false 4 [nobPart 2 b] ≠ 0 then errPs false 4 [nobPart 2 b] else 0) = (0 : Int)
  rw [h2]; rfl
 show (if _ then _ else if _ then _ else if errTops _ ≠ 0 then errTops _ else errPT false 4 [nobTop 2 b p]) = (0 : Int)
 rw [h3]
 rfl
theorem nob_bytes (b p : Nat) : (encPReq true [] 0 0 [nobTop 1 b p]).length = 88 := by
 have h : (encB [nobR]).length = 61 := by show (nobB.enc ++ []).length = 61; rw [List.append_nil]; exact nob_len
 have h1 : (encPart (nobPart 1 b)).length = 69 := by
  show (beBytes 0 4 ++ (beBytes _ 4 ++ encB [nobR])).length = 69
  rw [List.length_append, List.length_append, h, beBytes_length, beBytes_length]
 show (((((beBytes _ 2 ++ []) ++ beBytes 0 2) ++ beBytes 0 4) ++ beBytes _ 4) ++ (((((beBytes _ 2 ++ [97]) ++ beBytes _ 4) ++ (encPart (nobPart 1 b) ++ []))) ++ [])).length = 88
 simp only [List.length_append, beBytes_length, h1, List.length_nil, List.length_cons]
set_option maxHeartbeats 2000000 in
set_option maxRecDepth 100000 in
theorem asm_sum (said rows : Bs) (base ln leader sm at_ last first maxt prod epoch sq : Int) (cnt : Nat) (x : Nat) (hx : (crcMore 0#32 (said.drop 21 ++ rows)).toNat = x) (hs1 : 21 ≤ said.length) (hs2 : said.length ≤ 140737488355328) (hs3 : rows.length ≤ 140737488355328) (h0 : (x : Int) ≠ sm) {W0 w : World} {K : Know} {L : List Res} (h : St W0 w K L) :
   Calls Try.prog 62 #[.agg #[.int .i64 base, .int .i64 ln, .int .i64 leader, .int .i64 sm, .int .i64 at_, .int .i64 last, .int .i64 first, .int .i64 maxt, .int .i64 prod, .int .i64 epoch, .int .i64 sq, .int .i64 cnt], .string (bb said), .string (bb rows)] w fun en w' => en = .returned (.tuple #[.agg #[.int .i64 0, .int .i64 0, .bool false, .bool false, .bool false, .int .i64 0, .int .i64 0, .int .i64 0, .int .i64 0, .int .i64 0, .int .i64 0, .slice none 0 0], .int .i64 5]) ∧ St W0 w' K L := by
 have gz : ((x : Int) == sm) = false := by rw [beq_eq_false_iff_ne]; exact h0
 have gz2 : ((x : Int) != sm) = true := by simp [bne, gz]
 clear h0
 have g1 := h.allocRaw #[.int .i64 base, .int .i64 ln, .int .i64 leader, .int .i64 sm, .int .i64 at_, .int .i64 last, .int .i64 first, .int .i64 maxt, .int .i64 prod, .int .i64 epoch, .int .i64 sq, .int .i64 cnt] 73
 have g2 := g1.allocRaw #[.int .i64 0, .int .i64 0, .bool false, .bool false, .bool false, .int .i64 0, .int .i64 0, .int .i64 0, .int .i64 0, .int .i64 0, .int .i64 0, .slice none 0 0] 39
 obtain ⟨pb, hpb⟩ : ∃ b, w.heap.size = b := ⟨_, rfl⟩
 obtain ⟨rb, hrb⟩ : ∃ b, pb + 1 = b := ⟨_, rfl⟩
 simp only [World.size_alloc, hpb, hrb] at g2
 have H := Lib.hid g2
 have HX := Lib.hid hx
 have HS1 := Lib.hid hs1
 have HS2 := Lib.hid hs2
 have HS3 := Lib.hid hs3
 clear h g1 g2 hx hs1 hs2 hs3
 go_enter Try.func62, Try.ntmps62
 go_upto_region 1 with (fail)
 have hs := H.out.drew
 refine wp_region_held_drew (S := fun w' => w'.cell? ⟨pb, 0, none⟩ = some (.int .i64 base) ∧ w'.cell? ⟨pb, 1, none⟩ = some (.int .i64 ln) ∧ w'.cell? ⟨pb, 2, none⟩ = some (.int .i64 leader) ∧ w'.cell? ⟨pb, 3, none⟩ = some (.int .i64 sm) ∧ w'.cell? ⟨pb, 4, none⟩ = some (.int .i64 at_) ∧ w'.cell? ⟨pb, 5, none⟩ = some (.int .i64 last) ∧ w'.cell? ⟨pb, 6, none⟩ = some (.int .i64 first) ∧ w'.cell? ⟨pb, 7, none⟩ = some (.int .i64 maxt) ∧ w'.cell? ⟨pb, 8, none⟩ = some (.int .i64 prod) ∧ w'.cell? ⟨pb, 9, none⟩ = some (.int .i64 epoch) ∧ w'.cell? ⟨pb, 10, none⟩ = some (.int .i64 sq) ∧ w'.cell? ⟨pb, 11, none⟩ = some (.int .i64 cnt)) (by kernel_rfl) (let ⟨x0, x1, x2, x3, x4, x5, x6, x7, x8, x9, x10, x11, _⟩ := raw12 (b := pb) (hs.p1); ⟨x0, x1, x2, x3, x4, x5, x6, x7, x8, x9, x10, x11⟩) (fun hHeld => ?_)
 refine tQ 0 ⟨some 12, .move (.tmp 1), 9, "batch.go:88", #[], none⟩ ?_; simp only [Act.put, sA, sB, sC]
 refine tQ 1 ⟨some 13, .move (.tmp 2), 9, "batch.go:88", #[], none⟩ ?_; simp only [Act.put, sA, sB, sC]
 refine tQ 3 ⟨some 15, .fieldAddr 73 (.tmp 3) 3, 0, "batch.go:88", #[], none⟩ ?_; simp only [Act.put, sA, sB, sC]
 refine tQ 4 ⟨some 16, .load 3 (.tmp 15), 3, "batch.go:88", #[.mk 3 .data], none⟩ ?_; simp only [Act.put, sA, sB, sC]
 refine wpAnyH_ready (rs := [2]) (by kernel_rfl) (by simp) (AllReadyH.cons (o := ⟨some 14, .call { callee := .value (.func 29), args := #[.tmp 12, .tmp 13], argTypes := #[9, 9] }, 3, "batch.go:88", #[.mk 0 .data, .mk 1 .data], none⟩) rfl (fun KK hK => ?_) AllReadyH.nil)
 · go_simp
   go_at_call 29
   with_reducible refine (bat_sum said rows x HX.out HS1.out HS2.out HS3.out hs).mono ?_
   rintro e wq ⟨rfl, hs⟩
   refine hK.out _ _ (let ⟨x0, x1, x2, x3, x4, x5, x6, x7, x8, x9, x10, x11, _⟩ := raw12 (b := pb) (hs.p1); ⟨x0, x1, x2, x3, x4, x5, x6, x7, x8, x9, x10, x11⟩) (fun hHeld => ?_)
   clear hK KK
   try simp only [Act.put, sA, sB, sC]
   refine tQ 5 ⟨some 17, .binOp .neq 3 (.tmp 14) (.tmp 16) 3, 4, "batch.go:88", #[.mk 2 .data, .mk 4 .data], none⟩ ?_; simp only [Act.put, sA, sB, sC]
   refine wpAnyH_done (by kernel_rfl) ?_ _
   clear hHeld
   have H := Lib.hid hs
   clear hs
   obtain ⟨p0, p1, p2, p3, p4, p5, p6, p7, p8, p9, p10, p11, u0, u1, u2, u3, u4, u5, u6, u7, u8, u9, u10, u11⟩ := raw12 (b := rb) (H.out); obtain ⟨x0, x1, x2, x3, x4, x5, x6, x7, x8, x9, x10, x11, y0, y1, y2, y3, y4, y5, y6, y7, y8, y9, y10, y11⟩ := raw12 (b := pb) ((H.out).p1)
   go_wp2_with fail
   have hz : St W0 _ _ (.raw rb #[.int .i64 0, .int .i64 0, .bool false, .bool false, .bool false, .int .i64 0, .int .i64 0, .int .i64 0, .int .i64 0, .int .i64 0, .int .i64 0, .slice none 0 0] 39 :: _) := St.sets12 _ _ _ _ _ _ _ _ _ _ _ _ (H.out)
   refine bodyPost_ret (rc_cell_tmp rfl _ _ rb [.int .i64 0, .int .i64 0, .bool false, .bool false, .bool false, .int .i64 0, .int .i64 0, .int .i64 0, .int .i64 0, .int .i64 0, .int .i64 0, .slice none 0 0] _ rfl (rc_range hz) Try.underlying39 rfl (by kernel_rfl)) rfl ?_
   exact ⟨rfl, hz.drop.drop⟩
set_option maxHeartbeats 2000000 in
set_option maxRecDepth 100000 in
theorem asm_attr (said rows : Bs) (base ln leader sm at_ last first maxt prod epoch sq : Int) (cnt : Nat) (x : Nat) (hx : (crcMore 0#32 (said.drop 21 ++ rows)).toNat = x) (hs1 : 21 ≤ said.length) (hs2 : said.length ≤ 140737488355328) (hs3 : rows.length ≤ 140737488355328) (h0 : (x : Int) = sm) (e : Int) (hat : chk at_ = e) (har : R64 at_) (he : e ≠ 0) {W0 w : World} {K : Know} {L : List Res} (h : St W0 w K L) :
   Calls Try.prog 62 #[.agg #[.int .i64 base, .int .i64 ln, .int .i64 leader, .int .i64 sm, .int .i64 at_, .int .i64 last, .int .i64 first, .int .i64 maxt, .int .i64 prod, .int .i64 epoch, .int .i64 sq, .int .i64 cnt], .string (bb said), .string (bb rows)] w fun en w' => en = .returned (.tuple #[.agg #[.int .i64 0, .int .i64 0, .bool false, .bool false, .bool false, .int .i64 0, .int .i64 0, .int .i64 0, .int .i64 0, .int .i64 0, .int .i64 0, .slice none 0 0], .int .i64 e]) ∧ St W0 w' K L := by
 have gs : ((x : Int) == sm) = true := by rw [h0]; exact beq_self_eq_true _
 have gs2 : ((x : Int) != sm) = false := by simp [bne, gs]
 clear h0
 have gz : (e == 0) = false := by rw [beq_eq_false_iff_ne]; exact he
 have HAT := Lib.hid hat
 have HAR := Lib.hid har
 clear he hat har
 have g1 := h.allocRaw #[.int .i64 base, .int .i64 ln, .int .i64 leader, .int .i64 sm, .int .i64 at_, .int .i64 last, .int .i64 first, .int .i64 maxt, .int .i64 prod, .int .i64 epoch, .int .i64 sq, .int .i64 cnt] 73
 have g2 := g1.allocRaw #[.int .i64 0, .int .i64 0, .bool false, .bool false, .bool false, .int .i64 0, .int .i64 0, .int .i64 0, .int .i64 0, .int .i64 0, .int .i64 0, .slice none 0 0] 39
 obtain ⟨pb, hpb⟩ : ∃ b, w.heap.size = b := ⟨_, rfl⟩
 obtain ⟨rb, hrb⟩ : ∃ b, pb + 1 = b := ⟨_, rfl⟩
 simp only [World.size_alloc, hpb, hrb] at g2
 have H := Lib.hid g2
 have HX := Lib.hid hx
 have HS1 := Lib.hid hs1
 have HS2 := Lib.hid hs2
 have HS3 := Lib.hid hs3
 clear h g1 g2 hx hs1 hs2 hs3
 go_enter Try.func62, Try.ntmps62
 go_upto_region 1 with (fail)
 have hs := H.out.drew
 refine wp_region_held_drew (S := fun w' => w'.cell? ⟨pb, 0, none⟩ = some (.int .i64 base) ∧ w'.cell? ⟨pb, 1, none⟩ = some (.int .i64 ln) ∧ w'.cell? ⟨pb, 2, none⟩ = some (.int .i64 leader) ∧ w'.cell? ⟨pb, 3, none⟩ = some (.int .i64 sm) ∧ w'.cell? ⟨pb, 4, none⟩ = some (.int .i64 at_) ∧ w'.cell? ⟨pb, 5, none⟩ = some (.int .i64 last) ∧ w'.cell? ⟨pb, 6, none⟩ = some (.int .i64 first) ∧ w'.cell? ⟨pb, 7, none⟩ = some (.int .i64 maxt) ∧ w'.cell? ⟨pb, 8, none⟩ = some (.int .i64 prod) ∧ w'.cell? ⟨pb, 9, none⟩ = some (.int .i64 epoch) ∧ w'.cell? ⟨pb, 10, none⟩ = some (.int .i64 sq) ∧ w'.cell? ⟨pb, 11, none⟩ = some (.int .i64 cnt)) (by kernel_rfl) (let ⟨x0, x1, x2, x3, x4, x5, x6, x7, x8, x9, x10, x11, _⟩ := raw12 (b := pb) (hs.p1); ⟨x0, x1, x2, x3, x4, x5, x6, x7, x8, x9, x10, x11⟩) (fun hHeld => ?_)
 refine tQ 0 ⟨some 12, .move (.tmp 1), 9, "batch.go:88", #[], none⟩ ?_; simp only [Act.put, sA, sB, sC]
 refine tQ 1 ⟨some 13, .move (.tmp 2), 9, "batch.go:88", #[], none⟩ ?_; simp only [Act.put, sA, sB, sC]
 refine tQ 3 ⟨some 15, .fieldAddr 73 (.tmp 3) 3, 0, "batch.go:88", #[], none⟩ ?_; simp only [Act.put, sA, sB, sC]
 refine tQ 4 ⟨some 16, .load 3 (.tmp 15), 3, "batch.go:88", #[.mk 3 .data], none⟩ ?_; simp only [Act.put, sA, sB, sC]
 refine wpAnyH_ready (rs := [2]) (by kernel_rfl) (by simp) (AllReadyH.cons (o := ⟨some 14, .call { callee := .value (.func 29), args := #[.tmp 12, .tmp 13], argTypes := #[9, 9] }, 3, "batch.go:88", #[.mk 0 .data, .mk 1 .data], none⟩) rfl (fun KK hK => ?_) AllReadyH.nil)
 · go_simp
   go_at_call 29
   with_reducible refine (bat_sum said rows x HX.out HS1.out HS2.out HS3.out hs).mono ?_
   rintro e wq ⟨rfl, hs⟩
   refine hK.out _ _ (let ⟨x0, x1, x2, x3, x4, x5, x6, x7, x8, x9, x10, x11, _⟩ := raw12 (b := pb) (hs.p1); ⟨x0, x1, x2, x3, x4, x5, x6, x7, x8, x9, x10, x11⟩) (fun hHeld => ?_)
   clear hK KK
   try simp only [Act.put, sA, sB, sC]
   refine tQ 5 ⟨some 17, .binOp .neq 3 (.tmp 14) (.tmp 16) 3, 4, "batch.go:88", #[.mk 2 .data, .mk 4 .data], none⟩ ?_; simp only [Act.put, sA, sB, sC]
   refine wpAnyH_done (by kernel_rfl) ?_ _
   clear hHeld
   have H := Lib.hid hs
   clear hs
   obtain ⟨p0, p1, p2, p3, p4, p5, p6, p7, p8, p9, p10, p11, u0, u1, u2, u3, u4, u5, u6, u7, u8, u9, u10, u11⟩ := raw12 (b := rb) (H.out); obtain ⟨x0, x1, x2, x3, x4, x5, x6, x7, x8, x9, x10, x11, y0, y1, y2, y3, y4, y5, y6, y7, y8, y9, y10, y11⟩ := raw12 (b := pb) ((H.out).p1)
   go_wp2_with (go_at_call 87; (with_reducible refine (attr_checkE at_ e HAT.out HAR.out H.out).mono ?_); rintro e_ wn ⟨rfl, h⟩; replace H := Lib.hid h; clear h; obtain ⟨p0, p1, p2, p3, p4, p5, p6, p7, p8, p9, p10, p11, u0, u1, u2, u3, u4, u5, u6, u7, u8, u9, u10, u11⟩ := raw12 (b := rb) (H.out); obtain ⟨x0, x1, x2, x3, x4, x5, x6, x7, x8, x9, x10, x11, y0, y1, y2, y3, y4, y5, y6, y7, y8, y9, y10, y11⟩ := raw12 (b := pb) ((H.out).p1))
   have hz : St W0 _ _ (.raw rb #[.int .i64 0, .int .i64 0, .bool false, .bool false, .bool false, .int .i64 0, .int .i64 0, .int .i64 0, .int .i64 0, .int .i64 0, .int .i64 0, .slice none 0 0] 39 :: _) := St.sets12 _ _ _ _ _ _ _ _ _ _ _ _ (H.out)
   refine bodyPost_ret (rc_cell_tmp rfl _ _ rb [.int .i64 0, .int .i64 0, .bool false, .bool false, .bool false, .int .i64 0, .int .i64 0, .int .i64 0, .int .i64 0, .int .i64 0, .int .i64 0, .slice none 0 0] _ rfl (rc_range hz) Try.underlying39 rfl (by kernel_rfl)) rfl ?_
   exact ⟨rfl, hz.drop.drop⟩
set_option maxHeartbeats 2000000 in
set_option maxRecDepth 100000 in
theorem asm_rows (said rows : Bs) (base ln leader sm at_ last first maxt prod epoch sq : Int) (cnt : Nat) (x : Nat) (hx : (crcMore 0#32 (said.drop 21 ++ rows)).toNat = x) (hs1 : 21 ≤ said.length) (hs2 : said.length ≤ 140737488355328) (hs3 : rows.length ≤ 140737488355328) (h0 : (x : Int) = sm) (hat : chk at_ = 0) (har : R64 at_) (hcn : cnt ≤ 2147483647) (e : Int) (hu : unp cnt ⟨rows, 0, 0⟩ = .error e) (he : e ≠ 0) {W0 w : World} {K : Know} {L : List Res} (h : St W0 w K L) :
   Calls Try.prog 62 #[.agg #[.int .i64 base, .int .i64 ln, .int .i64 leader, .int .i64 sm, .int .i64 at_, .int .i64 last, .int .i64 first, .int .i64 maxt, .int .i64 prod, .int .i64 epoch, .int .i64 sq, .int .i64 cnt], .string (bb said), .string (bb rows)] w fun en w' => en = .returned (.tuple #[.agg #[.int .i64 0, .int .i64 0, .bool false, .bool false, .bool false, .int .i64 0, .int .i64 0, .int .i64 0, .int .i64 0, .int .i64 0, .int .i64 0, .slice none 0 0], .int .i64 e]) ∧ St W0 w' K L := by
 have gs : ((x : Int) == sm) = true := by rw [h0]; exact beq_self_eq_true _
 have gs2 : ((x : Int) != sm) = false := by simp [bne, gs]
 clear h0
 have gz : (e == 0) = false := by rw [beq_eq_false_iff_ne]; exact he
 have HAT := Lib.hid hat
 have HAR := Lib.hid har
 have HCN := Lib.hid hcn
 have HU := Lib.hid hu
 have HEZ := Lib.hid he
 clear he hat har hcn hu
 have g1 := h.allocRaw #[.int .i64 base, .int .i64 ln, .int .i64 leader, .int .i64 sm, .int .i64 at_, .int .i64 last, .int .i64 first, .int .i64 maxt, .int .i64 prod, .int .i64 epoch, .int .i64 sq, .int .i64 cnt] 73
 have g2 := g1.allocRaw #[.int .i64 0, .int .i64 0, .bool false, .bool false, .bool false, .int .i64 0, .int .i64 0, .int .i64 0, .int .i64 0, .int .i64 0, .int .i64 0, .slice none 0 0] 39
 obtain ⟨pb, hpb⟩ : ∃ b, w.heap.size = b := ⟨_, rfl⟩
 obtain ⟨rb, hrb⟩ : ∃ b, pb + 1 = b := ⟨_, rfl⟩
 simp only [World.size_alloc, hpb, hrb] at g2
 have H := Lib.hid g2
 have HX := Lib.hid hx
 have HS1 := Lib.hid hs1
 have HS2 := Lib.hid hs2
 have HS3 := Lib.hid hs3
 clear h g1 g2 hx hs1 hs2 hs3
 go_enter Try.func62, Try.ntmps62
 go_upto_region 1 with (fail)
 have hs := H.out.drew
 refine wp_region_held_drew (S := fun w' => w'.cell? ⟨pb, 0, none⟩ = some (.int .i64 base) ∧ w'.cell? ⟨pb, 1, none⟩ = some (.int .i64 ln) ∧ w'.cell? ⟨pb, 2, none⟩ = some (.int .i64 leader) ∧ w'.cell? ⟨pb, 3, none⟩ = some (.int .i64 sm) ∧ w'.cell? ⟨pb, 4, none⟩ = some (.int .i64 at_) ∧ w'.cell? ⟨pb, 5, none⟩ = some (.int .i64 last) ∧ w'.cell? ⟨pb, 6, none⟩ = some (.int .i64 first) ∧ w'.cell? ⟨pb, 7, none⟩ = some (.int .i64 maxt) ∧ w'.cell? ⟨pb, 8, none⟩ = some (.int .i64 prod) ∧ w'.cell? ⟨pb, 9, none⟩ = some (.int .i64 epoch) ∧ w'.cell? ⟨pb, 10, none⟩ = some (.int .i64 sq) ∧ w'.cell? ⟨pb, 11, none⟩ = some (.int .i64 cnt)) (by kernel_rfl) (let ⟨x0, x1, x2, x3, x4, x5, x6, x7, x8, x9, x10, x11, _⟩ := raw12 (b := pb) (hs.p1); ⟨x0, x1, x2, x3, x4, x5, x6, x7, x8, x9, x10, x11⟩) (fun hHeld => ?_)
 refine tQ 0 ⟨some 12, .move (.tmp 1), 9, "batch.go:88", #[], none⟩ ?_; simp only [Act.put, sA, sB, sC]
 refine tQ 1 ⟨some 13, .move (.tmp 2), 9, "batch.go:88", #[], none⟩ ?_; simp only [Act.put, sA, sB, sC]
 refine tQ 3 ⟨some 15, .fieldAddr 73 (.tmp 3) 3, 0, "batch.go:88", #[], none⟩ ?_; simp only [Act.put, sA, sB, sC]
 refine tQ 4 ⟨some 16, .load 3 (.tmp 15), 3, "batch.go:88", #[.mk 3 .data], none⟩ ?_; simp only [Act.put, sA, sB, sC]
 refine wpAnyH_ready (rs := [2]) (by kernel_rfl) (by simp) (AllReadyH.cons (o := ⟨some 14, .call { callee := .value (.func 29), args := #[.tmp 12, .tmp 13], argTypes := #[9, 9] }, 3, "batch.go:88", #[.mk 0 .data, .mk 1 .data], none⟩) rfl (fun KK hK => ?_) AllReadyH.nil)
 · go_simp
   go_at_call 29
   with_reducible refine (bat_sum said rows x HX.out HS1.out HS2.out HS3.out hs).mono ?_
   rintro e wq ⟨rfl, hs⟩
   refine hK.out _ _ (let ⟨x0, x1, x2, x3, x4, x5, x6, x7, x8, x9, x10, x11, _⟩ := raw12 (b := pb) (hs.p1); ⟨x0, x1, x2, x3, x4, x5, x6, x7, x8, x9, x10, x11⟩) (fun hHeld => ?_)
   clear hK KK
   try simp only [Act.put, sA, sB, sC]
   refine tQ 5 ⟨some 17, .binOp .neq 3 (.tmp 14) (.tmp 16) 3, 4, "batch.go:88", #[.mk 2 .data, .mk 4 .data], none⟩ ?_; simp only [Act.put, sA, sB, sC]
   refine wpAnyH_done (by kernel_rfl) ?_ _
   clear hHeld
   have H := Lib.hid hs
   clear hs
   obtain ⟨p0, p1, p2, p3, p4, p5, p6, p7, p8, p9, p10, p11, u0, u1, u2, u3, u4, u5, u6, u7, u8, u9, u10, u11⟩ := raw12 (b := rb) (H.out); obtain ⟨x0, x1, x2, x3, x4, x5, x6, x7, x8, x9, x10, x11, y0, y1, y2, y3, y4, y5, y6, y7, y8, y9, y10, y11⟩ := raw12 (b := pb) ((H.out).p1)
   go_wp2_with (first
   | (go_at_call 87; (with_reducible refine (attr_checkE at_ 0 HAT.out HAR.out H.out).mono ?_); rintro e_ wn ⟨rfl, h⟩; replace H := Lib.hid h; clear h; obtain ⟨p0, p1, p2, p3, p4, p5, p6, p7, p8, p9, p10, p11, u0, u1, u2, u3, u4, u5, u6, u7, u8, u9, u10, u11⟩ := raw12 (b := rb) (H.out); obtain ⟨x0, x1, x2, x3, x4, x5, x6, x7, x8, x9, x10, x11, y0, y1, y2, y3, y4, y5, y6, y7, y8, y9, y10, y11⟩ := raw12 (b := pb) ((H.out).p1))
   | (go_at_call 88; (with_reducible refine (bat_unpack_err rows cnt HCN.out HS3.out e HEZ.out HU.out H.out).mono ?_); rintro e_ wn ⟨rfl, h⟩; replace H := Lib.hid h; clear h; obtain ⟨p0, p1, p2, p3, p4, p5, p6, p7, p8, p9, p10, p11, u0, u1, u2, u3, u4, u5, u6, u7, u8, u9, u10, u11⟩ := raw12 (b := rb) (H.out); obtain ⟨x0, x1, x2, x3, x4, x5, x6, x7, x8, x9, x10, x11, y0, y1, y2, y3, y4, y5, y6, y7, y8, y9, y10, y11⟩ := raw12 (b := pb) ((H.out).p1)))
   have hz : St W0 _ _ (.raw rb #[.int .i64 0, .int .i64 0, .bool false, .bool false, .bool false, .int .i64 0, .int .i64 0, .int .i64 0, .int .i64 0, .int .i64 0, .int .i64 0, .slice none 0 0] 39 :: _) := St.sets12 _ _ _ _ _ _ _ _ _ _ _ _ (H.out)
   refine bodyPost_ret (rc_cell_tmp rfl _ _ rb [.int .i64 0, .int .i64 0, .bool false, .bool false, .bool false, .int .i64 0, .int .i64 0, .int .i64 0, .int .i64 0, .int .i64 0, .int .i64 0, .slice none 0 0] _ rfl (rc_range hz) Try.underlying39 rfl (by kernel_rfl)) rfl ?_
   exact ⟨rfl, hz.drop.drop⟩
set_option maxHeartbeats 4000000 in
set_option maxRecDepth 100000 in
theorem asm_ok (said rows : Bs) (base ln leader sm at_ last first maxt prod epoch sq : Int) (cnt : Nat) (x : Nat) (hx : (crcMore 0#32 (said.drop 21 ++ rows)).toNat = x) (hs1 : 21 ≤ said.length) (hs2 : said.length ≤ 140737488355328) (hs3 : rows.length ≤ 140737488355328) (h0 : (x : Int) = sm) (hat : chk at_ = 0) (har : R64 at_) (hcn : cnt ≤ 2147483647) (hr1 : rows.length ≤ 1000000) (hmx : first ≤ 9223372036854775807) (rs : List RecS) (hu : unp cnt ⟨rows, 0, 0⟩ = .ok rs) (hbe : batErr (⟨base, leader, bitAt at_ 3, bitAt at_ 4, bitAt at_ 5, last, first, maxt, prod, epoch, sq, rs⟩ : BatS) = 0) {W0 w : World} {K : Know} {L : List Res} (h : St W0 w K L) :
   Calls Try.prog 62 #[.agg #[.int .i64 base, .int .i64 ln, .int .i64 leader, .int .i64 sm, .int .i64 at_, .int .i64 last, .int .i64 first, .int .i64 maxt, .int .i64 prod, .int .i64 epoch, .int .i64 sq, .int .i64 cnt], .string (bb said), .string (bb rows)] w fun en w' => ∃ (q : Option Addr) (l : List (RecS × Value)) (cap : Nat), en = .returned (.tuple #[.agg #[.int .i64 base, .int .i64 leader, .bool (bitAt at_ 3), .bool (bitAt at_ 4), .bool (bitAt at_ 5), .int .i64 last, .int .i64 first, .int .i64 maxt, .int .i64 prod, .int .i64 epoch, .int .i64 sq, .slice q l.length cap], .int .i64 0]) ∧ l.map (·.1) = rs ∧ St W0 w' (K.and (Know.recs (.slice q l.length cap) l)) L := by
 have gs : ((x : Int) == sm) = true := by rw [h0]; exact beq_self_eq_true _
 have gs2 : ((x : Int) != sm) = false := by simp [bne, gs]
 clear h0
 have HAT := Lib.hid hat
 have HAR := Lib.hid har
 have HCN := Lib.hid hcn
 have HU := Lib.hid hu
 have HR1 := Lib.hid hr1
 have HMX := Lib.hid hmx
 have HB0 := Lib.hid hbe
 clear hat har hcn hu hr1 hmx hbe
 have g1 := h.allocRaw #[.int .i64 base, .int .i64 ln, .int .i64 leader, .int .i64 sm, .int .i64 at_, .int .i64 last, .int .i64 first, .int .i64 maxt, .int .i64 prod, .int .i64 epoch, .int .i64 sq, .int .i64 cnt] 73
 have g2 := g1.allocRaw #[.int .i64 0, .int .i64 0, .bool false, .bool false, .bool false, .int .i64 0, .int .i64 0, .int .i64 0, .int .i64 0, .int .i64 0, .int .i64 0, .slice none 0 0] 39
 obtain ⟨pb, hpb⟩ : ∃ b, w.heap.size = b := ⟨_, rfl⟩
 obtain ⟨rb, hrb⟩ : ∃ b, pb + 1 = b := ⟨_, rfl⟩
 simp only [World.size_alloc, hpb, hrb] at g2
 have H := Lib.hid g2
 have HX := Lib.hid hx
 have HS1 := Lib.hid hs1
 have HS2 := Lib.hid hs2
 have HS3 := Lib.hid hs3
 clear h g1 g2 hx hs1 hs2 hs3
 go_enter Try.func62, Try.ntmps62
 go_upto_region 1 with (fail)
 have hs := H.out.drew
 refine wp_region_held_drew (S := fun w' => w'.cell? ⟨pb, 0, none⟩ = some (.int .i64 base) ∧ w'.cell? ⟨pb, 1, none⟩ = some (.int .i64 ln) ∧ w'.cell? ⟨pb, 2, none⟩ = some (.int .i64 leader) ∧ w'.cell? ⟨pb, 3, none⟩ = some (.int .i64 sm) ∧ w'.cell? ⟨pb, 4, none⟩ = some (.int .i64 at_) ∧ w'.cell? ⟨pb, 5, none⟩ = some (.int .i64 last) ∧ w'.cell? ⟨pb, 6, none⟩ = some (.int .i64 first) ∧ w'.cell? ⟨pb, 7, none⟩ = some (.int .i64 maxt) ∧ w'.cell? ⟨pb, 8, none⟩ = some (.int .i64 prod) ∧ w'.cell? ⟨pb, 9, none⟩ = some (.int .i64 epoch) ∧ w'.cell? ⟨pb, 10, none⟩ = some (.int .i64 sq) ∧ w'.cell? ⟨pb, 11, none⟩ = some (.int .i64 cnt)) (by kernel_rfl) (let ⟨x0, x1, x2, x3, x4, x5, x6, x7, x8, x9, x10, x11, _⟩ := raw12 (b := pb) (hs.p1); ⟨x0, x1, x2, x3, x4, x5, x6, x7, x8, x9, x10, x11⟩) (fun hHeld => ?_)
 refine tQ 0 ⟨some 12, .move (.tmp 1), 9, "batch.go:88", #[], none⟩ ?_; simp only [Act.put, sA, sB, sC]
 refine tQ 1 ⟨some 13, .move (.tmp 2), 9, "batch.go:88", #[], none⟩ ?_; simp only [Act.put, sA, sB, sC]
 refine tQ 3 ⟨some 15, .fieldAddr 73 (.tmp 3) 3, 0, "batch.go:88", #[], none⟩ ?_; simp only [Act.put, sA, sB, sC]
 refine tQ 4 ⟨some 16, .load 3 (.tmp 15), 3, "batch.go:88", #[.mk 3 .data], none⟩ ?_; simp only [Act.put, sA, sB, sC]
 refine wpAnyH_ready (rs := [2]) (by kernel_rfl) (by simp) (AllReadyH.cons (o := ⟨some 14, .call { callee := .value (.func 29), args := #[.tmp 12, .tmp 13], argTypes := #[9, 9] }, 3, "batch.go:88", #[.mk 0 .data, .mk 1 .data], none⟩) rfl (fun KK hK => ?_) AllReadyH.nil)
 · go_simp
   go_at_call 29
   with_reducible refine (bat_sum said rows x HX.out HS1.out HS2.out HS3.out hs).mono ?_
   rintro e wq ⟨rfl, hs⟩
   refine hK.out _ _ (let ⟨x0, x1, x2, x3, x4, x5, x6, x7, x8, x9, x10, x11, _⟩ := raw12 (b := pb) (hs.p1); ⟨x0, x1, x2, x3, x4, x5, x6, x7, x8, x9, x10, x11⟩) (fun hHeld => ?_)
   clear hK KK
   try simp only [Act.put, sA, sB, sC]
   refine tQ 5 ⟨some 17, .binOp .neq 3 (.tmp 14) (.tmp 16) 3, 4, "batch.go:88", #[.mk 2 .data, .mk 4 .data], none⟩ ?_; simp only [Act.put, sA, sB, sC]
   refine wpAnyH_done (by kernel_rfl) ?_ _
   clear hHeld
   have H := Lib.hid hs
   clear hs
   obtain ⟨p0, p1, p2, p3, p4, p5, p6, p7, p8, p9, p10, p11, u0, u1, u2, u3, u4, u5, u6, u7, u8, u9, u10, u11⟩ := raw12 (b := rb) (H.out); obtain ⟨x0, x1, x2, x3, x4, x5, x6, x7, x8, x9, x10, x11, y0, y1, y2, y3, y4, y5, y6, y7, y8, y9, y10, y11⟩ := raw12 (b := pb) ((H.out).p1)
   go_upto_region 11 with (first
   | (go_at_call 87; (with_reducible refine (attr_checkE at_ 0 HAT.out HAR.out H.out).mono ?_); rintro e_ wn ⟨rfl, h⟩; replace H := Lib.hid h; clear h; obtain ⟨p0, p1, p2, p3, p4, p5, p6, p7, p8, p9, p10, p11, u0, u1, u2, u3, u4, u5, u6, u7, u8, u9, u10, u11⟩ := raw12 (b := rb) (H.out); obtain ⟨x0, x1, x2, x3, x4, x5, x6, x7, x8, x9, x10, x11, y0, y1, y2, y3, y4, y5, y6, y7, y8, y9, y10, y11⟩ := raw12 (b := pb) ((H.out).p1))
   | (go_at_call 88; (with_reducible refine (bat_unpack_ok rows cnt HCN.out HS3.out rs HU.out H.out).mono ?_); rintro e_ wn ⟨rv, l, rfl, hlr, h⟩; obtain ⟨q, cap, hrv⟩ := recs_form (Know.has_right (Know.has_refl _)) h; subst hrv; obtain ⟨hff, hfl⟩ := unp_fitB HU.out hlr HR1.out; have HFT := Lib.hid hff; have HLL := Lib.hid hfl; have HLR := Lib.hid hlr; clear hff hfl hlr; obtain ⟨p0, p1, p2, p3, p4, p5, p6, p7, p8, p9, p10, p11, u0, u1, u2, u3, u4, u5, u6, u7, u8, u9, u10, u11⟩ := raw12 (b := rb) (h); obtain ⟨x0, x1, x2, x3, x4, x5, x6, x7, x8, x9, x10, x11, y0, y1, y2, y3, y4, y5, y6, y7, y8, y9, y10, y11⟩ := raw12 (b := pb) ((h).p1); have h := h.allocRaw #[.int .i64 base, .int .i64 leader, .bool false, .bool false, .bool false, .int .i64 last, .int .i64 first, .int .i64 maxt, .int .i64 prod, .int .i64 epoch, .int .i64 sq, .slice q l.length cap] 39; obtain ⟨bB, hbB⟩ : ∃ b, wn.heap.size = b := ⟨_, rfl⟩; rw [hbB] at h; obtain ⟨x0, x1, x2, x3, x4, x5, x6, x7, x8, x9, x10, x11, y0, y1, y2, y3, y4, y5, y6, y7, y8, y9, y10, y11⟩ := raw12 (b := pb) (h.p2); obtain ⟨a0, a1, a2, a3, a4, a5, a6, a7, a8, a9, a10, a11, f0, f1, f2, f3, f4, f5, f6, f7, f8, f9, f10, f11⟩ := raw12 (b := bB) (h); replace H := Lib.hid h; clear h)
   | (go_at_call 89; (with_reducible refine (attr_readE at_ H.out).mono ?_); rintro e_ wn ⟨rfl, h⟩; obtain ⟨a0, a1, a2, a3, a4, a5, a6, a7, a8, a9, a10, a11, f0, f1, f2, f3, f4, f5, f6, f7, f8, f9, f10, f11⟩ := raw12 (b := bB) (h); replace H := Lib.hid h; clear h))
   have HBE := Lib.hid (show batErr ⟨base, leader, bitAt at_ 3, bitAt at_ 4, bitAt at_ 5, last, first, maxt, prod, epoch, sq, l.map (·.1)⟩ = 0 by rw [HLR.out]; exact HB0.out)
   have hs : St W0 _ _ (.raw bB #[.int .i64 base, .int .i64 leader, .bool (bitAt at_ 3), .bool (bitAt at_ 4), .bool (bitAt at_ 5), .int .i64 last, .int .i64 first, .int .i64 maxt, .int .i64 prod, .int .i64 epoch, .int .i64 sq, .slice q l.length cap] 39 :: _) := ((H.out.rawSet 2 (.bool (bitAt at_ 3))).rawSet 3 (.bool (bitAt at_ 4))).rawSet 4 (.bool (bitAt at_ 5))
   have hs := hs.drew
   clear x0 y0 a0 f0 x1 y1 a1 f1 x2 y2 a2 f2 x3 y3 a3 f3 x4 y4 a4 f4 x5 y5 a5 f5 x6 y6 a6 f6 x7 y7 a7 f7 x8 y8 a8 f8 x9 y9 a9 f9 x10 y10 a10 f10 x11 y11 a11 f11
   refine wp_region_held_drew (S := fun w' => w'.cell? ⟨bB, 0, none⟩ = some (.int .i64 base) ∧ w'.cell? ⟨bB, 1, none⟩ = some (.int .i64 leader) ∧ w'.cell? ⟨bB, 2, none⟩ = some (.bool (bitAt at_ 3)) ∧ w'.cell? ⟨bB, 3, none⟩ = some (.bool (bitAt at_ 4)) ∧ w'.cell? ⟨bB, 4, none⟩ = some (.bool (bitAt at_ 5)) ∧ w'.cell? ⟨bB, 5, none⟩ = some (.int .i64 last) ∧ w'.cell? ⟨bB, 6, none⟩ = some (.int .i64 first) ∧ w'.cell? ⟨bB, 7, none⟩ = some (.int .i64 maxt) ∧ w'.cell? ⟨bB, 8, none⟩ = some (.int .i64 prod) ∧ w'.cell? ⟨bB, 9, none⟩ = some (.int .i64 epoch) ∧ w'.cell? ⟨bB, 10, none⟩ = some (.int .i64 sq) ∧ w'.cell? ⟨bB, 11, none⟩ = some (.slice q l.length cap)) (by kernel_rfl) (let ⟨x0, x1, x2, x3, x4, x5, x6, x7, x8, x9, x10, x11, _⟩ := raw12 (b := bB) (hs); ⟨x0, x1, x2, x3, x4, x5, x6, x7, x8, x9, x10, x11⟩) (fun hHeld => ?_)
   refine tQ 0 ⟨some 65, .load 39 (.tmp 11), 39, "batch.go:105", #[], none⟩ ?_; simp only [Act.put, sA, sB, sC]
   refine tQ 1 ⟨some 66, .load 39 (.tmp 11), 39, "batch.go:105", #[], none⟩ ?_; simp only [Act.put, sA, sB, sC]
   refine wpAnyH_ready (rs := [2]) (by kernel_rfl) (by simp) (AllReadyH.cons (o := ⟨some 67, .call { callee := .value (.func 25), args := #[.tmp 66], argTypes := #[39] }, 40, "batch.go:105", #[.mk 1 .data], none⟩) rfl (fun KK hK => ?_) AllReadyH.nil)
   · go_simp
     go_at_call 25
     with_reducible refine (bat_check base leader (bitAt at_ 3) (bitAt at_ 4) (bitAt at_ 5) last first maxt prod epoch sq l q cap 0 HBE.out HMX.out HFT.out HLL.out (Know.has_right (Know.has_refl _)) hs).mono ?_
     rintro e wq ⟨rfl, hs⟩
     refine hK.out _ _ (let ⟨x0, x1, x2, x3, x4, x5, x6, x7, x8, x9, x10, x11, _⟩ := raw12 (b := bB) (hs); ⟨x0, x1, x2, x3, x4, x5, x6, x7, x8, x9, x10, x11⟩) (fun hHeld => ?_)
     clear hK KK
     try simp only [Act.put, sA, sB, sC]
     refine wpAnyH_ready (rs := [3]) (by kernel_rfl) (by simp) (AllReadyH.cons (o := ⟨none, .store 39 (.tmp 6) (.tmp 65), 0, "batch.go:105", #[.mk 0 .data, .mk 2 .chain, .mk 0 .phase, { on := 1, ground := Ground.textOnly Departure.lateStores }, { on := 2, ground := Ground.textOnly Departure.lateStoresUnsure }], none⟩) rfl (fun KK hK => ?_) AllReadyH.nil)
     · have hs := hs.p1
       rw [if_pos (by rfl)]
       refine wp_store_mid 39 (.tmp 6) (.tmp 65) rfl rb 0 #[.int .i64 base, .int .i64 leader, .bool (bitAt at_ 3), .bool (bitAt at_ 4), .bool (bitAt at_ 5), .int .i64 last, .int .i64 first, .int .i64 maxt, .int .i64 prod, .int .i64 epoch, .int .i64 sq, .slice q l.length cap] (by rfl) (by rfl) hs.there (by kernel_rfl) (by simp [Value.oneCell']) ?_
       obtain ⟨wz, ez, hs⟩ := hs.storeEx #[.int .i64 base, .int .i64 leader, .bool (bitAt at_ 3), .bool (bitAt at_ 4), .bool (bitAt at_ 5), .int .i64 last, .int .i64 first, .int .i64 maxt, .int .i64 prod, .int .i64 epoch, .int .i64 sq, .slice q l.length cap]
       rw [ez]
       clear ez
       refine hK.out _ _ (let ⟨x0, x1, x2, x3, x4, x5, x6, x7, x8, x9, x10, x11, _⟩ := raw12 (b := bB) (hs.p1); ⟨x0, x1, x2, x3, x4, x5, x6, x7, x8, x9, x10, x11⟩) (fun hHeld => ?_)
       clear hK KK
       try simp only [Act.put, sA, sB, sC]
       refine tQ 4 ⟨some 7, .assign (.tmp 67), 40, "batch.go:105", #[.mk 2 .data, .mk 3 .chain, .mk 0 .phase, .mk 1 .phase, .mk 2 .phase, .mk 3 .phase], none⟩ ?_; simp only [Act.put, sA, sB, sC]
       refine wpAnyH_done (by kernel_rfl) ?_ _
       clear hHeld
       rw [setAll_all] at hs
       rotate_left
       · rfl
       have hz : St W0 _ _ (.raw rb #[.int .i64 base, .int .i64 leader, .bool (bitAt at_ 3), .bool (bitAt at_ 4), .bool (bitAt at_ 5), .int .i64 last, .int .i64 first, .int .i64 maxt, .int .i64 prod, .int .i64 epoch, .int .i64 sq, .slice q l.length cap] 39 :: _) := hs
       go_wp2_with fail
       refine bodyPost_ret (rc_cell_tmp rfl _ _ rb [.int .i64 base, .int .i64 leader, .bool (bitAt at_ 3), .bool (bitAt at_ 4), .bool (bitAt at_ 5), .int .i64 last, .int .i64 first, .int .i64 maxt, .int .i64 prod, .int .i64 epoch, .int .i64 sq, .slice q l.length cap] _ rfl (rc_range hz) Try.underlying39 rfl (by kernel_rfl)) rfl ?_
       exact ⟨q, l, cap, rfl, HLR.out, hz.drop.drop.drop⟩

set_option maxHeartbeats 4000000 in
set_option maxRecDepth 100000 in
theorem asm_bad (said rows : Bs) (base ln leader sm at_ last first maxt prod epoch sq : Int) (cnt : Nat) (x : Nat) (hx : (crcMore 0#32 (said.drop 21 ++ rows)).toNat = x) (hs1 : 21 ≤ said.length) (hs2 : said.length ≤ 140737488355328) (hs3 : rows.length ≤ 140737488355328) (h0 : (x : Int) = sm) (hat : chk at_ = 0) (har : R64 at_) (hcn : cnt ≤ 2147483647) (hr1 : rows.length ≤ 1000000) (hmx : first ≤ 9223372036854775807) (rs : List RecS) (hu : unp cnt ⟨rows, 0, 0⟩ = .ok rs) (e : Int) (hbe : batErr (⟨base, leader, bitAt at_ 3, bitAt at_ 4, bitAt at_ 5, last, first, maxt, prod, epoch, sq, rs⟩ : BatS) = e) {W0 w : World} {K : Know} {L : List Res} (h : St W0 w K L) :
   Calls Try.prog 62 #[.agg #[.int .i64 base, .int .i64 ln, .int .i64 leader, .int .i64 sm, .int .i64 at_, .int .i64 last, .int .i64 first, .int .i64 maxt, .int .i64 prod, .int .i64 epoch, .int .i64 sq, .int .i64 cnt], .string (bb said), .string (bb rows)] w fun en w' => ∃ (l : List (RecS × Value)) (q : Option Addr) (cap : Nat), en = .returned (.tuple #[.agg #[.int .i64 base, .int .i64 leader, .bool (bitAt at_ 3), .bool (bitAt at_ 4), .bool (bitAt at_ 5), .int .i64 last, .int .i64 first, .int .i64 maxt, .int .i64 prod, .int .i64 epoch, .int .i64 sq, .slice q l.length cap], .int .i64 e]) ∧ St W0 w' K L := by
 have gs : ((x : Int) == sm) = true := by rw [h0]; exact beq_self_eq_true _
 have gs2 : ((x : Int) != sm) = false := by simp [bne, gs]
 clear h0
 have HAT := Lib.hid hat
 have HAR := Lib.hid har
 have HCN := Lib.hid hcn
 have HU := Lib.hid hu
 have HR1 := Lib.hid hr1
 have HMX := Lib.hid hmx
 have HB0 := Lib.hid hbe
 clear hat har hcn hu hr1 hmx hbe
 have g1 := h.allocRaw #[.int .i64 base, .int .i64 ln, .int .i64 leader, .int .i64 sm, .int .i64 at_, .int .i64 last, .int .i64 first, .int .i64 maxt, .int .i64 prod, .int .i64 epoch, .int .i64 sq, .int .i64 cnt] 73
 have g2 := g1.allocRaw #[.int .i64 0, .int .i64 0, .bool false, .bool false, .bool false, .int .i64 0, .int .i64 0, .int .i64 0, .int .i64 0, .int .i64 0, .int .i64 0, .slice none 0 0] 39
 obtain ⟨pb, hpb⟩ : ∃ b, w.heap.size = b := ⟨_, rfl⟩
 obtain ⟨rb, hrb⟩ : ∃ b, pb + 1 = b := ⟨_, rfl⟩
 simp only [World.size_alloc, hpb, hrb] at g2
 have H := Lib.hid g2
 have HX := Lib.hid hx
 have HS1 := Lib.hid hs1
 have HS2 := Lib.hid hs2
 have HS3 := Lib.hid hs3
 clear h g1 g2 hx hs1 hs2 hs3
 go_enter Try.func62, Try.ntmps62
 go_upto_region 1 with (fail)
 have hs := H.out.drew
 refine wp_region_held_drew (S := fun w' => w'.cell? ⟨pb, 0, none⟩ = some (.int .i64 base) ∧ w'.cell? ⟨pb, 1, none⟩ = some (.int .i64 ln) ∧ w'.cell? ⟨pb, 2, none⟩ = some (.int .i64 leader) ∧ w'.cell? ⟨pb, 3, none⟩ = some (.int .i64 sm) ∧ w'.cell? ⟨pb, 4, none⟩ = some (.int .i64 at_) ∧ w'.cell? ⟨pb, 5, none⟩ = some (.int .i64 last) ∧ w'.cell? ⟨pb, 6, none⟩ = some (.int .i64 first) ∧ w'.cell? ⟨pb, 7, none⟩ = some (.int .i64 maxt) ∧ w'.cell? ⟨pb, 8, none⟩ = some (.int .i64 prod) ∧ w'.cell? ⟨pb, 9, none⟩ = some (.int .i64 epoch) ∧ w'.cell? ⟨pb, 10, none⟩ = some (.int .i64 sq) ∧ w'.cell? ⟨pb, 11, none⟩ = some (.int .i64 cnt)) (by kernel_rfl) (let ⟨x0, x1, x2, x3, x4, x5, x6, x7, x8, x9, x10, x11, _⟩ := raw12 (b := pb) (hs.p1); ⟨x0, x1, x2, x3, x4, x5, x6, x7, x8, x9, x10, x11⟩) (fun hHeld => ?_)
 refine tQ 0 ⟨some 12, .move (.tmp 1), 9, "batch.go:88", #[], none⟩ ?_; simp only [Act.put, sA, sB, sC]
 refine tQ 1 ⟨some 13, .move (.tmp 2), 9, "batch.go:88", #[], none⟩ ?_; simp only [Act.put, sA, sB, sC]
 refine tQ 3 ⟨some 15, .fieldAddr 73 (.tmp 3) 3, 0, "batch.go:88", #[], none⟩ ?_; simp only [Act.put, sA, sB, sC]
 refine tQ 4 ⟨some 16, .load 3 (.tmp 15), 3, "batch.go:88", #[.mk 3 .data], none⟩ ?_; simp only [Act.put, sA, sB, sC]
 refine wpAnyH_ready (rs := [2]) (by kernel_rfl) (by simp) (AllReadyH.cons (o := ⟨some 14, .call { callee := .value (.func 29), args := #[.tmp 12, .tmp 13], argTypes := #[9, 9] }, 3, "batch.go:88", #[.mk 0 .data, .mk 1 .data], none⟩) rfl (fun KK hK => ?_) AllReadyH.nil)
 · go_simp
   go_at_call 29
   with_reducible refine (bat_sum said rows x HX.out HS1.out HS2.out HS3.out hs).mono ?_
   rintro e wq ⟨rfl, hs⟩
   refine hK.out _ _ (let ⟨x0, x1, x2, x3, x4, x5, x6, x7, x8, x9, x10, x11, _⟩ := raw12 (b := pb) (hs.p1); ⟨x0, x1, x2, x3, x4, x5, x6, x7, x8, x9, x10, x11⟩) (fun hHeld => ?_)
   clear hK KK
   try simp only [Act.put, sA, sB, sC]
   refine tQ 5 ⟨some 17, .binOp .neq 3 (.tmp 14) (.tmp 16) 3, 4, "batch.go:88", #[.mk 2 .data, .mk 4 .data], none⟩ ?_; simp only [Act.put, sA, sB, sC]
   refine wpAnyH_done (by kernel_rfl) ?_ _
   clear hHeld
   have H := Lib.hid hs
   clear hs
   obtain ⟨p0, p1, p2, p3, p4, p5, p6, p7, p8, p9, p10, p11, u0, u1, u2, u3, u4, u5, u6, u7, u8, u9, u10, u11⟩ := raw12 (b := rb) (H.out); obtain ⟨x0, x1, x2, x3, x4, x5, x6, x7, x8, x9, x10, x11, y0, y1, y2, y3, y4, y5, y6, y7, y8, y9, y10, y11⟩ := raw12 (b := pb) ((H.out).p1)
   go_upto_region 11 with (first
   | (go_at_call 87; (with_reducible refine (attr_checkE at_ 0 HAT.out HAR.out H.out).mono ?_); rintro e_ wn ⟨rfl, h⟩; replace H := Lib.hid h; clear h; obtain ⟨p0, p1, p2, p3, p4, p5, p6, p7, p8, p9, p10, p11, u0, u1, u2, u3, u4, u5, u6, u7, u8, u9, u10, u11⟩ := raw12 (b := rb) (H.out); obtain ⟨x0, x1, x2, x3, x4, x5, x6, x7, x8, x9, x10, x11, y0, y1, y2, y3, y4, y5, y6, y7, y8, y9, y10, y11⟩ := raw12 (b := pb) ((H.out).p1))
   | (go_at_call 88; (with_reducible refine (bat_unpack_ok rows cnt HCN.out HS3.out rs HU.out H.out).mono ?_); rintro e_ wn ⟨rv, l, rfl, hlr, h⟩; obtain ⟨q, cap, hrv⟩ := recs_form (Know.has_right (Know.has_refl _)) h; subst hrv; obtain ⟨hff, hfl⟩ := unp_fitB HU.out hlr HR1.out; have HFT := Lib.hid hff; have HLL := Lib.hid hfl; have HLR := Lib.hid hlr; clear hff hfl hlr; obtain ⟨p0, p1, p2, p3, p4, p5, p6, p7, p8, p9, p10, p11, u0, u1, u2, u3, u4, u5, u6, u7, u8, u9, u10, u11⟩ := raw12 (b := rb) (h); obtain ⟨x0, x1, x2, x3, x4, x5, x6, x7, x8, x9, x10, x11, y0, y1, y2, y3, y4, y5, y6, y7, y8, y9, y10, y11⟩ := raw12 (b := pb) ((h).p1); have h := h.allocRaw #[.int .i64 base, .int .i64 leader, .bool false, .bool false, .bool false, .int .i64 last, .int .i64 first, .int .i64 maxt, .int .i64 prod, .int .i64 epoch, .int .i64 sq, .slice q l.length cap] 39; obtain ⟨bB, hbB⟩ : ∃ b, wn.heap.size = b := ⟨_, rfl⟩; rw [hbB] at h; obtain ⟨x0, x1, x2, x3, x4, x5, x6, x7, x8, x9, x10, x11, y0, y1, y2, y3, y4, y5, y6, y7, y8, y9, y10, y11⟩ := raw12 (b := pb) (h.p2); obtain ⟨a0, a1, a2, a3, a4, a5, a6, a7, a8, a9, a10, a11, f0, f1, f2, f3, f4, f5, f6, f7, f8, f9, f10, f11⟩ := raw12 (b := bB) (h); replace H := Lib.hid h; clear h)
   | (go_at_call 89; (with_reducible refine (attr_readE at_ H.out).mono ?_); rintro e_ wn ⟨rfl, h⟩; obtain ⟨a0, a1, a2, a3, a4, a5, a6, a7, a8, a9, a10, a11, f0, f1, f2, f3, f4, f5, f6, f7, f8, f9, f10, f11⟩ := raw12 (b := bB) (h); replace H := Lib.hid h; clear h))
   have HBE := Lib.hid (show batErr ⟨base, leader, bitAt at_ 3, bitAt at_ 4, bitAt at_ 5, last, first, maxt, prod, epoch, sq, l.map (·.1)⟩ = e by rw [HLR.out]; exact HB0.out)
   have hs : St W0 _ _ (.raw bB #[.int .i64 base, .int .i64 leader, .bool (bitAt at_ 3), .bool (bitAt at_ 4), .bool (bitAt at_ 5), .int .i64 last, .int .i64 first, .int .i64 maxt, .int .i64 prod, .int .i64 epoch, .int .i64 sq, .slice q l.length cap] 39 :: _) := ((H.out.rawSet 2 (.bool (bitAt at_ 3))).rawSet 3 (.bool (bitAt at_ 4))).rawSet 4 (.bool (bitAt at_ 5))
   have hs := hs.drew
   clear x0 y0 a0 f0 x1 y1 a1 f1 x2 y2 a2 f2 x3 y3 a3 f3 x4 y4 a4 f4 x5 y5 a5 f5 x6 y6 a6 f6 x7 y7 a7 f7 x8 y8 a8 f8 x9 y9 a9 f9 x10 y10 a10 f10 x11 y11 a11 f11
   refine wp_region_held_drew (S := fun w' => w'.cell? ⟨bB, 0, none⟩ = some (.int .i64 base) ∧ w'.cell? ⟨bB, 1, none⟩ = some (.int .i64 leader) ∧ w'.cell? ⟨bB, 2, none⟩ = some (.bool (bitAt at_ 3)) ∧ w'.cell? ⟨bB, 3, none⟩ = some (.bool (bitAt at_ 4)) ∧ w'.cell? ⟨bB, 4, none⟩ = some (.bool (bitAt at_ 5)) ∧ w'.cell? ⟨bB, 5, none⟩ = some (.int .i64 last) ∧ w'.cell? ⟨bB, 6, none⟩ = some (.int .i64 first) ∧ w'.cell? ⟨bB, 7, none⟩ = some (.int .i64 maxt) ∧ w'.cell? ⟨bB, 8, none⟩ = some (.int .i64 prod) ∧ w'.cell? ⟨bB, 9, none⟩ = some (.int .i64 epoch) ∧ w'.cell? ⟨bB, 10, none⟩ = some (.int .i64 sq) ∧ w'.cell? ⟨bB, 11, none⟩ = some (.slice q l.length cap)) (by kernel_rfl) (let ⟨x0, x1, x2, x3, x4, x5, x6, x7, x8, x9, x10, x11, _⟩ := raw12 (b := bB) (hs); ⟨x0, x1, x2, x3, x4, x5, x6, x7, x8, x9, x10, x11⟩) (fun hHeld => ?_)
   refine tQ 0 ⟨some 65, .load 39 (.tmp 11), 39, "batch.go:105", #[], none⟩ ?_; simp only [Act.put, sA, sB, sC]
   refine tQ 1 ⟨some 66, .load 39 (.tmp 11), 39, "batch.go:105", #[], none⟩ ?_; simp only [Act.put, sA, sB, sC]
   refine wpAnyH_ready (rs := [2]) (by kernel_rfl) (by simp) (AllReadyH.cons (o := ⟨some 67, .call { callee := .value (.func 25), args := #[.tmp 66], argTypes := #[39] }, 40, "batch.go:105", #[.mk 1 .data], none⟩) rfl (fun KK hK => ?_) AllReadyH.nil)
   · go_simp
     go_at_call 25
     with_reducible refine (bat_check base leader (bitAt at_ 3) (bitAt at_ 4) (bitAt at_ 5) last first maxt prod epoch sq l q cap e HBE.out HMX.out HFT.out HLL.out (Know.has_right (Know.has_refl _)) hs).mono ?_
     rintro e wq ⟨rfl, hs⟩
     refine hK.out _ _ (let ⟨x0, x1, x2, x3, x4, x5, x6, x7, x8, x9, x10, x11, _⟩ := raw12 (b := bB) (hs); ⟨x0, x1, x2, x3, x4, x5, x6, x7, x8, x9, x10, x11⟩) (fun hHeld => ?_)
     clear hK KK
     try simp only [Act.put, sA, sB, sC]
     refine wpAnyH_ready (rs := [3]) (by kernel_rfl) (by simp) (AllReadyH.cons (o := ⟨none, .store 39 (.tmp 6) (.tmp 65), 0, "batch.go:105", #[.mk 0 .data, .mk 2 .chain, .mk 0 .phase, { on := 1, ground := Ground.textOnly Departure.lateStores }, { on := 2, ground := Ground.textOnly Departure.lateStoresUnsure }], none⟩) rfl (fun KK hK => ?_) AllReadyH.nil)
     · have hs := hs.p1
       rw [if_pos (by rfl)]
       refine wp_store_mid 39 (.tmp 6) (.tmp 65) rfl rb 0 #[.int .i64 base, .int .i64 leader, .bool (bitAt at_ 3), .bool (bitAt at_ 4), .bool (bitAt at_ 5), .int .i64 last, .int .i64 first, .int .i64 maxt, .int .i64 prod, .int .i64 epoch, .int .i64 sq, .slice q l.length cap] (by rfl) (by rfl) hs.there (by kernel_rfl) (by simp [Value.oneCell']) ?_
       obtain ⟨wz, ez, hs⟩ := hs.storeEx #[.int .i64 base, .int .i64 leader, .bool (bitAt at_ 3), .bool (bitAt at_ 4), .bool (bitAt at_ 5), .int .i64 last, .int .i64 first, .int .i64 maxt, .int .i64 prod, .int .i64 epoch, .int .i64 sq, .slice q l.length cap]
       rw [ez]
       clear ez
       refine hK.out _ _ (let ⟨x0, x1, x2, x3, x4, x5, x6, x7, x8, x9, x10, x11, _⟩ := raw12 (b := bB) (hs.p1); ⟨x0, x1, x2, x3, x4, x5, x6, x7, x8, x9, x10, x11⟩) (fun hHeld => ?_)
       clear hK KK
       try simp only [Act.put, sA, sB, sC]
       refine tQ 4 ⟨some 7, .assign (.tmp 67), 40, "batch.go:105", #[.mk 2 .data, .mk 3 .chain, .mk 0 .phase, .mk 1 .phase, .mk 2 .phase, .mk 3 .phase], none⟩ ?_; simp only [Act.put, sA, sB, sC]
       refine wpAnyH_done (by kernel_rfl) ?_ _
       clear hHeld
       rw [setAll_all] at hs
       rotate_left
       · rfl
       have hz : St W0 _ _ (.raw rb #[.int .i64 base, .int .i64 leader, .bool (bitAt at_ 3), .bool (bitAt at_ 4), .bool (bitAt at_ 5), .int .i64 last, .int .i64 first, .int .i64 maxt, .int .i64 prod, .int .i64 epoch, .int .i64 sq, .slice q l.length cap] 39 :: _) := hs
       go_wp2_with fail
       refine bodyPost_ret (rc_cell_tmp rfl _ _ rb [.int .i64 base, .int .i64 leader, .bool (bitAt at_ 3), .bool (bitAt at_ 4), .bool (bitAt at_ 5), .int .i64 last, .int .i64 first, .int .i64 maxt, .int .i64 prod, .int .i64 epoch, .int .i64 sq, .slice q l.length cap] _ rfl (rc_range hz) Try.underlying39 rfl (by kernel_rfl)) rfl ?_
       exact ⟨l, q, cap, rfl, hz.drop.drop.drop.know (Know.has_left (Know.has_refl _))⟩
theorem asm_err (x : PreS) (said rows : Bs) (hs1 : 21 ≤ said.length) (hs2 : said.length ≤ 140737488355328) (hr1 : rows.length ≤ 1000000) (har : R64 x.attr) (hc0 : 0 ≤ x.count) (hcn : x.count ≤ 2147483647) (hmx : x.first ≤ 9223372036854775807) (e : Int) (ha : asmB x said rows = .error e) {W0 w : World} {K : Know} {L : List Res} (h : St W0 w K L) :
   Calls Try.prog 62 #[.agg #[.int .i64 x.base, .int .i64 x.len, .int .i64 x.leader, .int .i64 x.sum, .int .i64 x.attr, .int .i64 x.last, .int .i64 x.first, .int .i64 x.maxt, .int .i64 x.prod, .int .i64 x.epoch, .int .i64 x.seq, .int .i64 x.count], .string (bb said), .string (bb rows)] w fun en w' => ∃ (b : BatS) (q : Option Addr) (n cap : Nat), en = .returned (.tuple #[.agg #[.int .i64 b.base, .int .i64 b.leader, .bool b.app, .bool b.txn, .bool b.ctl, .int .i64 b.last, .int .i64 b.first, .int .i64 b.maxt, .int .i64 b.prod, .int .i64 b.epoch, .int .i64 b.seq, .slice q n cap], .int .i64 e]) ∧ St W0 w' K L := by
 obtain ⟨base, len, leader, sum, attr, last, first, maxt, prod, epoch, seq, count⟩ := x
 simp only at har hc0 hcn hmx
 obtain ⟨cnt, rfl⟩ : ∃ n : Nat, count = (n : Int) := ⟨count.toNat, by omega⟩
 have hr : rows.length ≤ 140737488355328 := by omega
 have hcn : cnt ≤ 2147483647 := by omega
 unfold asmB at ha
 simp only [Int.toNat_natCast] at ha
 by_cases c1 : (((crcMore 0#32 (said.drop 21 ++ rows)).toNat : Nat) : Int) ≠ sum
 · rw [if_pos c1] at ha
   cases ha
   exact (asm_sum said rows base len leader sum attr last first maxt prod epoch seq cnt _ rfl hs1 hs2 hr c1 h).mono fun _ _ hh => ⟨BatS.zero, none, 0, 0, hh.1, hh.2⟩
 rw [if_neg c1] at ha
 have c1 := Classical.not_not.1 c1
 by_cases c2 : chk attr ≠ 0
 · rw [if_pos c2] at ha
   cases ha
   exact (asm_attr said rows base len leader sum attr last first maxt prod epoch seq cnt _ rfl hs1 hs2 hr c1 _ rfl har c2 h).mono fun _ _ hh => ⟨BatS.zero, none, 0, 0, hh.1, hh.2⟩
 rw [if_neg c2] at ha
 have c2 := Classical.not_not.1 c2
 cases hu : unp cnt ⟨rows, 0, 0⟩ with
 | error f =>
   rw [hu] at ha
   simp only at ha
   cases ha
   exact (asm_rows said rows base len leader sum attr last first maxt prod epoch seq cnt _ rfl hs1 hs2 hr c1 c2 har hcn _ hu (unp_ne _ _ _ hu) h).mono fun _ _ hh => ⟨BatS.zero, none, 0, 0, hh.1, hh.2⟩
 | ok rs =>
   rw [hu] at ha
   simp only at ha
   by_cases c3 : batErr ⟨base, leader, bitAt attr 3, bitAt attr 4, bitAt attr 5, last, first, maxt, prod, epoch, seq, rs⟩ = 0
   · rw [if_pos c3] at ha; cases ha
   rw [if_neg c3] at ha
   cases ha
   exact (asm_bad said rows base len leader sum attr last first maxt prod epoch seq cnt _ rfl hs1 hs2 hr c1 c2 har hcn hr1 hmx rs hu _ rfl h).mono fun _ _ ⟨l, q, cap, hh, hs⟩ => ⟨⟨base, leader, bitAt attr 3, bitAt attr 4, bitAt attr 5, last, first, maxt, prod, epoch, seq, rs⟩, q, l.length, cap, hh, hs⟩
theorem asm_good (x : PreS) (said rows : Bs) (hs1 : 21 ≤ said.length) (hs2 : said.length ≤ 140737488355328) (hr1 : rows.length ≤ 1000000) (har : R64 x.attr) (hc0 : 0 ≤ x.count) (hcn : x.count ≤ 2147483647) (hmx : x.first ≤ 9223372036854775807) (b : BatS) (ha : asmB x said rows = .ok b) {W0 w : World} {K : Know} {L : List Res} (h : St W0 w K L) :
  Calls Try.prog 62 #[.agg #[.int .i64 x.base, .int .i64 x.len, .int .i64 x.leader, .int .i64 x.sum, .int .i64 x.attr, .int .i64 x.last, .int .i64 x.first, .int .i64 x.maxt, .int .i64 x.prod, .int .i64 x.epoch, .int .i64 x.seq, .int .i64 x.count], .string (bb said), .string (bb rows)] w fun en w' => ∃ (q : Option Addr) (l : List (RecS × Value)) (cap : Nat), en = .returned (.tuple #[.agg #[.int .i64 b.base, .int .i64 b.leader, .bool b.app, .bool b.txn, .bool b.ctl, .int .i64 b.last, .int .i64 b.first, .int .i64 b.maxt, .int .i64 b.prod, .int .i64 b.epoch, .int .i64 b.seq, .slice q l.length cap], .int .i64 0]) ∧ l.map (·.1) = b.recs ∧ St W0 w' (K.and (Know.recs (.slice q l.length cap) l)) L := by
 obtain ⟨c1, c2, rs, hu, c3, rfl⟩ := asmB_ok ha
 obtain ⟨base, len, leader, sum, attr, last, first, maxt, prod, epoch, seq, count⟩ := x
 simp only at har hc0 hcn hmx c1 c2 hu c3
 obtain ⟨cnt, rfl⟩ : ∃ n : Nat, count = (n : Int) := ⟨count.toNat, by omega⟩
 rw [Int.toNat_natCast] at hu
 exact asm_ok said rows base len leader sum attr last first maxt prod epoch seq cnt _ rfl hs1 hs2 (by omega) c1 c2 har (by omega) hr1 hmx rs hu c3 h
set_option maxHeartbeats 2000000 in
set_option maxRecDepth 100000 in
theorem bat_read_pre (p : Nat) (i i1 i2 j : InS) (said : Bs) (x : PreS) (e e2 : Int) (hxl : -2147483648 ≤ x.len ∧ x.len < 2147483648) (hsl : said.length ≤ 140737488355328) (ht1 : i.take 61 = (said, i1)) (hp : (⟨said, 0, 0⟩ : InS).pre = (x, j)) (hj : j.err = e) (he : e ≠ 0) (hf : i1.fail e = i2) (he2 : i2.err = e2) (he3 : e2 ≠ 0) {W0 w : World} {K : Know} {L : List Res} (h : St W0 w K (.inp p i :: L)) :
  Calls Try.prog 30 #[inPtr p] w fun en w' => en = .returned (.agg #[.int .i64 0, .int .i64 0, .bool false, .bool false, .bool false, .int .i64 0, .int .i64 0, .int .i64 0, .int .i64 0, .int .i64 0, .int .i64 0, .slice none 0 0]) ∧ St W0 w' K (.inp p i2 :: L) := by
 have g1 := h.allocRaw #[.int .i64 0, .int .i64 0, .bool false, .bool false, .bool false, .int .i64 0, .int .i64 0, .int .i64 0, .int .i64 0, .int .i64 0, .int .i64 0, .slice none 0 0] 39
 obtain ⟨rb, hrb⟩ : ∃ b, w.heap.size = b := ⟨_, rfl⟩
 rw [hrb] at g1
 have H := Lib.hid g1
 have HT1 := Lib.hid ht1
 have HSL := Lib.hid hsl
 have HP := Lib.hid hp
 have HJ := Lib.hid hj
 have HF := Lib.hid hf
 have HT2 := Lib.hid (show i2.take (x.len - 49) = ([], i2) from InS.take_err (by rw [he2]; exact he3))
 have HE3 := Lib.hid he2
 have gz : (e == 0) = false := by rw [beq_eq_false_iff_ne]; exact he
 have gz2 : (e != 0) = true := by rw [bne_iff_ne]; exact he
 have gy : (e2 == 0) = false := by rw [beq_eq_false_iff_ne]; exact he3
 have gy2 : (e2 != 0) = true := by rw [bne_iff_ne]; exact he3
 have f1 : wrap64 (x.len - 49) = x.len - 49 := by unfold wrap64; omega
 have f2 : IntKind.i64.wrap (x.len - 49) = x.len - 49 := IntWalk.i64_in _ (by omega)
 clear h g1 ht1 hsl hp hj hf he2 he he3 hxl
 go_enter Try.func30, Try.ntmps30
 go_wp2_with (first
  | (go_at_call 47; (with_reducible refine (s_takeE p i i1 _ said HT1.out H.out.p1).mono ?_); rintro e_ wn ⟨rfl, h⟩; replace H := Lib.hid h; clear h)
  | (go_at_call 6; (with_reducible refine (s_new said HSL.out H.out).mono ?_); rintro e_ wn ⟨bi, rfl, h⟩; replace H := Lib.hid h; clear h)
  | (go_at_call 61; (with_reducible refine (prefix_readQ bi _ j x HP.out H.out).mono ?_); rintro e_ wn ⟨rfl, h⟩; replace H := Lib.hid h; clear h; have h := H.out; obtain ⟨pb, hpb⟩ : ∃ b, wn.heap.size = b := ⟨_, rfl⟩; have h := h.allocRaw #[.int .i64 x.base, .int .i64 x.len, .int .i64 x.leader, .int .i64 x.sum, .int .i64 x.attr, .int .i64 x.last, .int .i64 x.first, .int .i64 x.maxt, .int .i64 x.prod, .int .i64 x.epoch, .int .i64 x.seq, .int .i64 x.count] 73; rw [hpb] at h; obtain ⟨x0, x1, x2, x3, x4, x5, x6, x7, x8, x9, x10, x11, y0, y1, y2, y3, y4, y5, y6, y7, y8, y9, y10, y11⟩ := raw12 (b := pb) (h); replace H := Lib.hid h.p1; clear h)
  | (go_at_call 23; (with_reducible refine (s_errE bi j e HJ.out H.out).mono ?_); rintro e_ wn ⟨rfl, h⟩; replace H := Lib.hid h; clear h; obtain ⟨x0, x1, x2, x3, x4, x5, x6, x7, x8, x9, x10, x11, y0, y1, y2, y3, y4, y5, y6, y7, y8, y9, y10, y11⟩ := raw12 (b := pb) (H.out.p1))
  | (go_at_call 24; (with_reducible refine (s_failE p i1 i2 _ HF.out H.out.p2).mono ?_); rintro e_ wn ⟨rfl, h⟩; replace H := Lib.hid h; clear h; obtain ⟨x0, x1, x2, x3, x4, x5, x6, x7, x8, x9, x10, x11, y0, y1, y2, y3, y4, y5, y6, y7, y8, y9, y10, y11⟩ := raw12 (b := pb) (H.out.p2))
  | (go_at_call 47; (with_reducible refine (s_takeE p i2 i2 _ [] HT2.out H.out).mono ?_); rintro e_ wn ⟨rfl, h⟩; replace H := Lib.hid h; clear h; obtain ⟨x0, x1, x2, x3, x4, x5, x6, x7, x8, x9, x10, x11, y0, y1, y2, y3, y4, y5, y6, y7, y8, y9, y10, y11⟩ := raw12 (b := pb) (H.out.p2))
  | (go_at_call 23; (with_reducible refine (s_errE p i2 e2 HE3.out H.out).mono ?_); rintro e_ wn ⟨rfl, h⟩; replace H := Lib.hid h; clear h; obtain ⟨x0, x1, x2, x3, x4, x5, x6, x7, x8, x9, x10, x11, y0, y1, y2, y3, y4, y5, y6, y7, y8, y9, y10, y11⟩ := raw12 (b := pb) (H.out.p2); obtain ⟨a0, a1, a2, a3, a4, a5, a6, a7, a8, a9, a10, a11, f0, f1, f2, f3, f4, f5, f6, f7, f8, f9, f10, f11⟩ := raw12 (b := rb) (H.out.p3)))
 have hz : St W0 _ _ (.raw rb #[.int .i64 0, .int .i64 0, .bool false, .bool false, .bool false, .int .i64 0, .int .i64 0, .int .i64 0, .int .i64 0, .int .i64 0, .int .i64 0, .slice none 0 0] 39 :: _) := St.sets12 _ _ _ _ _ _ _ _ _ _ _ _ (H.out.p3)
 refine bodyPost_ret (rc_cell_only rfl _ _ rb [.int .i64 0, .int .i64 0, .bool false, .bool false, .bool false, .int .i64 0, .int .i64 0, .int .i64 0, .int .i64 0, .int .i64 0, .int .i64 0, .slice none 0 0] _ rfl (rc_range hz) Try.underlying39 rfl (by kernel_rfl)) rfl ?_
 exact ⟨rfl, hz.drop.p1.drop.p1.drop⟩

set_option maxHeartbeats 2000000 in
set_option maxRecDepth 100000 in
theorem bat_read_take (p : Nat) (i i1 i3 j : InS) (said rows : Bs) (x : PreS) (e2 : Int) (hxl : -2147483648 ≤ x.len ∧ x.len < 2147483648) (hsl : said.length ≤ 140737488355328) (ht1 : i.take 61 = (said, i1)) (hp : (⟨said, 0, 0⟩ : InS).pre = (x, j)) (hj : j.err = 0) (ht2 : i1.take (x.len - 49) = (rows, i3)) (he2 : i3.err = e2) (he3 : e2 ≠ 0) {W0 w : World} {K : Know} {L : List Res} (h : St W0 w K (.inp p i :: L)) :
  Calls Try.prog 30 #[inPtr p] w fun en w' => en = .returned (.agg #[.int .i64 0, .int .i64 0, .bool false, .bool false, .bool false, .int .i64 0, .int .i64 0, .int .i64 0, .int .i64 0, .int .i64 0, .int .i64 0, .slice none 0 0]) ∧ St W0 w' K (.inp p i3 :: L) := by
 have g1 := h.allocRaw #[.int .i64 0, .int .i64 0, .bool false, .bool false, .bool false, .int .i64 0, .int .i64 0, .int .i64 0, .int .i64 0, .int .i64 0, .int .i64 0, .slice none 0 0] 39
 obtain ⟨rb, hrb⟩ : ∃ b, w.heap.size = b := ⟨_, rfl⟩
 rw [hrb] at g1
 have H := Lib.hid g1
 have HT1 := Lib.hid ht1
 have HSL := Lib.hid hsl
 have HP := Lib.hid hp
 have HJ := Lib.hid hj
 have HT2 := Lib.hid ht2
 have HE3 := Lib.hid he2
 have gy : (e2 == 0) = false := by rw [beq_eq_false_iff_ne]; exact he3
 have gy2 : (e2 != 0) = true := by rw [bne_iff_ne]; exact he3
 have f1 : wrap64 (x.len - 49) = x.len - 49 := by unfold wrap64; omega
 have f2 : IntKind.i64.wrap (x.len - 49) = x.len - 49 := IntWalk.i64_in _ (by omega)
 clear h g1 ht1 hsl hp hj ht2 he2 he3 hxl
 go_enter Try.func30, Try.ntmps30
 go_wp2_with (first
  | (go_at_call 47; (with_reducible refine (s_takeE p i i1 _ said HT1.out H.out.p1).mono ?_); rintro e_ wn ⟨rfl, h⟩; replace H := Lib.hid h; clear h)
  | (go_at_call 6; (with_reducible refine (s_new said HSL.out H.out).mono ?_); rintro e_ wn ⟨bi, rfl, h⟩; replace H := Lib.hid h; clear h)
  | (go_at_call 61; (with_reducible refine (prefix_readQ bi _ j x HP.out H.out).mono ?_); rintro e_ wn ⟨rfl, h⟩; replace H := Lib.hid h; clear h; have h := H.out; obtain ⟨pb, hpb⟩ : ∃ b, wn.heap.size = b := ⟨_, rfl⟩; have h := h.allocRaw #[.int .i64 x.base, .int .i64 x.len, .int .i64 x.leader, .int .i64 x.sum, .int .i64 x.attr, .int .i64 x.last, .int .i64 x.first, .int .i64 x.maxt, .int .i64 x.prod, .int .i64 x.epoch, .int .i64 x.seq, .int .i64 x.count] 73; rw [hpb] at h; obtain ⟨x0, x1, x2, x3, x4, x5, x6, x7, x8, x9, x10, x11, y0, y1, y2, y3, y4, y5, y6, y7, y8, y9, y10, y11⟩ := raw12 (b := pb) (h); replace H := Lib.hid h.p1; clear h)
  | (go_at_call 23; (with_reducible refine (s_errE bi j 0 HJ.out H.out).mono ?_); rintro e_ wn ⟨rfl, h⟩; replace H := Lib.hid h; clear h; obtain ⟨x0, x1, x2, x3, x4, x5, x6, x7, x8, x9, x10, x11, y0, y1, y2, y3, y4, y5, y6, y7, y8, y9, y10, y11⟩ := raw12 (b := pb) (H.out.p1))
  | (go_at_call 47; (with_reducible refine (s_takeE p i1 i3 _ rows HT2.out H.out.p2).mono ?_); rintro e_ wn ⟨rfl, h⟩; replace H := Lib.hid h; clear h; obtain ⟨x0, x1, x2, x3, x4, x5, x6, x7, x8, x9, x10, x11, y0, y1, y2, y3, y4, y5, y6, y7, y8, y9, y10, y11⟩ := raw12 (b := pb) (H.out.p2))
  | (go_at_call 23; (with_reducible refine (s_errE p i3 e2 HE3.out H.out).mono ?_); rintro e_ wn ⟨rfl, h⟩; replace H := Lib.hid h; clear h; obtain ⟨x0, x1, x2, x3, x4, x5, x6, x7, x8, x9, x10, x11, y0, y1, y2, y3, y4, y5, y6, y7, y8, y9, y10, y11⟩ := raw12 (b := pb) (H.out.p2); obtain ⟨a0, a1, a2, a3, a4, a5, a6, a7, a8, a9, a10, a11, f0, f1, f2, f3, f4, f5, f6, f7, f8, f9, f10, f11⟩ := raw12 (b := rb) (H.out.p3)))
 have hz : St W0 _ _ (.raw rb #[.int .i64 0, .int .i64 0, .bool false, .bool false, .bool false, .int .i64 0, .int .i64 0, .int .i64 0, .int .i64 0, .int .i64 0, .int .i64 0, .slice none 0 0] 39 :: _) := St.sets12 _ _ _ _ _ _ _ _ _ _ _ _ (H.out.p3)
 refine bodyPost_ret (rc_cell_only rfl _ _ rb [.int .i64 0, .int .i64 0, .bool false, .bool false, .bool false, .int .i64 0, .int .i64 0, .int .i64 0, .int .i64 0, .int .i64 0, .int .i64 0, .slice none 0 0] _ rfl (rc_range hz) Try.underlying39 rfl (by kernel_rfl)) rfl ?_
 exact ⟨rfl, hz.drop.p1.drop.p1.drop⟩
set_option maxHeartbeats 4000000 in
set_option maxRecDepth 100000 in
theorem bat_read_ok (p : Nat) (i i1 i3 j : InS) (said rows : Bs) (x : PreS) (hxl : -2147483648 ≤ x.len ∧ x.len < 2147483648) (hs1 : 21 ≤ said.length) (hsl : said.length ≤ 140737488355328) (hr1 : rows.length ≤ 1000000) (har : R64 x.attr) (hc0 : 0 ≤ x.count) (hcn : x.count ≤ 2147483647) (hmx : x.first ≤ 9223372036854775807) (ht1 : i.take 61 = (said, i1)) (hp : (⟨said, 0, 0⟩ : InS).pre = (x, j)) (hj : j.err = 0) (ht2 : i1.take (x.len - 49) = (rows, i3)) (he3 : i3.err = 0) (b : BatS) (ha : asmB x said rows = .ok b) {W0 w : World} {K : Know} {L : List Res} (h : St W0 w K (.inp p i :: L)) :
  Calls Try.prog 30 #[inPtr p] w fun en w' => ∃ (q : Option Addr) (l : List (RecS × Value)) (cap : Nat), en = .returned (.agg #[.int .i64 b.base, .int .i64 b.leader, .bool b.app, .bool b.txn, .bool b.ctl, .int .i64 b.last, .int .i64 b.first, .int .i64 b.maxt, .int .i64 b.prod, .int .i64 b.epoch, .int .i64 b.seq, .slice q l.length cap]) ∧ l.map (·.1) = b.recs ∧ St W0 w' (K.and (Know.recs (.slice q l.length cap) l)) (.inp p i3 :: L) := by
 have g1 := h.allocRaw #[.int .i64 0, .int .i64 0, .bool false, .bool false, .bool false, .int .i64 0, .int .i64 0, .int .i64 0, .int .i64 0, .int .i64 0, .int .i64 0, .slice none 0 0] 39
 obtain ⟨rb, hrb⟩ : ∃ b, w.heap.size = b := ⟨_, rfl⟩
 rw [hrb] at g1
 have H := Lib.hid g1
 have HT1 := Lib.hid ht1
 have HSL := Lib.hid hsl
 have HS1 := Lib.hid hs1
 have HR1 := Lib.hid hr1
 have HAR := Lib.hid har
 have HC0 := Lib.hid hc0
 have HCN := Lib.hid hcn
 have HMX := Lib.hid hmx
 have HA := Lib.hid ha
 have HP := Lib.hid hp
 have HJ := Lib.hid hj
 have HT2 := Lib.hid ht2
 have HE3 := Lib.hid he3
 have f1 : wrap64 (x.len - 49) = x.len - 49 := by unfold wrap64; omega
 have f2 : IntKind.i64.wrap (x.len - 49) = x.len - 49 := IntWalk.i64_in _ (by omega)
 clear h g1 ht1 hsl hs1 hr1 har hc0 hcn hmx ha hp hj ht2 he3 hxl 
 go_enter Try.func30, Try.ntmps30
 go_wp2_with (first
  | (go_at_call 47; (with_reducible refine (s_takeE p i i1 _ said HT1.out H.out.p1).mono ?_); rintro e_ wn ⟨rfl, h⟩; replace H := Lib.hid h; clear h)
  | (go_at_call 6; (with_reducible refine (s_new said HSL.out H.out).mono ?_); rintro e_ wn ⟨bi, rfl, h⟩; replace H := Lib.hid h; clear h)
  | (go_at_call 61; (with_reducible refine (prefix_readQ bi _ j x HP.out H.out).mono ?_); rintro e_ wn ⟨rfl, h⟩; replace H := Lib.hid h; clear h; have h := H.out; obtain ⟨pb, hpb⟩ : ∃ b, wn.heap.size = b := ⟨_, rfl⟩; have h := h.allocRaw #[.int .i64 x.base, .int .i64 x.len, .int .i64 x.leader, .int .i64 x.sum, .int .i64 x.attr, .int .i64 x.last, .int .i64 x.first, .int .i64 x.maxt, .int .i64 x.prod, .int .i64 x.epoch, .int .i64 x.seq, .int .i64 x.count] 73; rw [hpb] at h; obtain ⟨x0, x1, x2, x3, x4, x5, x6, x7, x8, x9, x10, x11, y0, y1, y2, y3, y4, y5, y6, y7, y8, y9, y10, y11⟩ := raw12 (b := pb) (h); replace H := Lib.hid h.p1; clear h)
  | (go_at_call 23; (with_reducible refine (s_errE bi j 0 HJ.out H.out).mono ?_); rintro e_ wn ⟨rfl, h⟩; replace H := Lib.hid h; clear h; obtain ⟨x0, x1, x2, x3, x4, x5, x6, x7, x8, x9, x10, x11, y0, y1, y2, y3, y4, y5, y6, y7, y8, y9, y10, y11⟩ := raw12 (b := pb) (H.out.p1))
  | (go_at_call 47; (with_reducible refine (s_takeE p i1 i3 _ rows HT2.out H.out.p2).mono ?_); rintro e_ wn ⟨rfl, h⟩; replace H := Lib.hid h; clear h; obtain ⟨x0, x1, x2, x3, x4, x5, x6, x7, x8, x9, x10, x11, y0, y1, y2, y3, y4, y5, y6, y7, y8, y9, y10, y11⟩ := raw12 (b := pb) (H.out.p2))
  | (go_at_call 23; (with_reducible refine (s_errE p i3 0 HE3.out H.out).mono ?_); rintro e_ wn ⟨rfl, h⟩; replace H := Lib.hid h; clear h; obtain ⟨x0, x1, x2, x3, x4, x5, x6, x7, x8, x9, x10, x11, y0, y1, y2, y3, y4, y5, y6, y7, y8, y9, y10, y11⟩ := raw12 (b := pb) (H.out.p2); obtain ⟨a0, a1, a2, a3, a4, a5, a6, a7, a8, a9, a10, a11, f0, f1, f2, f3, f4, f5, f6, f7, f8, f9, f10, f11⟩ := raw12 (b := rb) (H.out.p3))
  | (go_at_call 62; (with_reducible refine (asm_good x said rows HS1.out HSL.out HR1.out HAR.out HC0.out HCN.out HMX.out b HA.out H.out).mono ?_); rintro e_ wn ⟨q, l, cap, rfl, hl, h⟩; have h := h.allocRaw #[.int .i64 b.base, .int .i64 b.leader, .bool b.app, .bool b.txn, .bool b.ctl, .int .i64 b.last, .int .i64 b.first, .int .i64 b.maxt, .int .i64 b.prod, .int .i64 b.epoch, .int .i64 b.seq, .slice q l.length cap] 39; obtain ⟨bB, hbB⟩ : ∃ b, wn.heap.size = b := ⟨_, rfl⟩; rw [hbB] at h; obtain ⟨c0, c1, c2, c3, c4, c5, c6, c7, c8, c9, c10, c11, g0, g1, g2, g3, g4, g5, g6, g7, g8, g9, g10, g11⟩ := raw12 (b := bB) (h); obtain ⟨a0, a1, a2, a3, a4, a5, a6, a7, a8, a9, a10, a11, f0, f1, f2, f3, f4, f5, f6, f7, f8, f9, f10, f11⟩ := raw12 (b := rb) (h.p4); replace H := Lib.hid h; clear h))
 have hz : St W0 _ _ (.raw rb #[.int .i64 b.base, .int .i64 b.leader, .bool b.app, .bool b.txn, .bool b.ctl, .int .i64 b.last, .int .i64 b.first, .int .i64 b.maxt, .int .i64 b.prod, .int .i64 b.epoch, .int .i64 b.seq, .slice q l.length cap] 39 :: _) := St.sets12 _ _ _ _ _ _ _ _ _ _ _ _ (H.out.p4)
 refine bodyPost_ret (rc_cell_only rfl _ _ rb [.int .i64 b.base, .int .i64 b.leader, .bool b.app, .bool b.txn, .bool b.ctl, .int .i64 b.last, .int .i64 b.first, .int .i64 b.maxt, .int .i64 b.prod, .int .i64 b.epoch, .int .i64 b.seq, .slice q l.length cap] _ rfl (rc_range hz) Try.underlying39 rfl (by kernel_rfl)) rfl ?_
 exact ⟨q, l, cap, rfl, hl, hz.drop.drop.p1.drop.p1.drop⟩

set_option maxHeartbeats 4000000 in
set_option maxRecDepth 100000 in
theorem bat_read_asm (p : Nat) (i i1 i3 j : InS) (said rows : Bs) (x : PreS) (hxl : -2147483648 ≤ x.len ∧ x.len < 2147483648) (hs1 : 21 ≤ said.length) (hsl : said.length ≤ 140737488355328) (hr1 : rows.length ≤ 1000000) (har : R64 x.attr) (hc0 : 0 ≤ x.count) (hcn : x.count ≤ 2147483647) (hmx : x.first ≤ 9223372036854775807) (ht1 : i.take 61 = (said, i1)) (hp : (⟨said, 0, 0⟩ : InS).pre = (x, j)) (hj : j.err = 0) (ht2 : i1.take (x.len - 49) = (rows, i3)) (he3 : i3.err = 0) (i4 : InS) (e : Int) (ha : asmB x said rows = .error e) (hf : i3.fail e = i4) {W0 w : World} {K : Know} {L : List Res} (h : St W0 w K (.inp p i :: L)) :
  Calls Try.prog 30 #[inPtr p] w fun en w' => en = .returned (.agg #[.int .i64 0, .int .i64 0, .bool false, .bool false, .bool false, .int .i64 0, .int .i64 0, .int .i64 0, .int .i64 0, .int .i64 0, .int .i64 0, .slice none 0 0]) ∧ St W0 w' K (.inp p i4 :: L) := by
 have g1 := h.allocRaw #[.int .i64 0, .int .i64 0, .bool false, .bool false, .bool false, .int .i64 0, .int .i64 0, .int .i64 0, .int .i64 0, .int .i64 0, .int .i64 0, .slice none 0 0] 39
 obtain ⟨rb, hrb⟩ : ∃ b, w.heap.size = b := ⟨_, rfl⟩
 rw [hrb] at g1
 have H := Lib.hid g1
 have HT1 := Lib.hid ht1
 have HSL := Lib.hid hsl
 have HS1 := Lib.hid hs1
 have HR1 := Lib.hid hr1
 have HAR := Lib.hid har
 have HC0 := Lib.hid hc0
 have HCN := Lib.hid hcn
 have HMX := Lib.hid hmx
 have HA := Lib.hid ha
 have HP := Lib.hid hp
 have HJ := Lib.hid hj
 have HT2 := Lib.hid ht2
 have HE3 := Lib.hid he3
 have HF := Lib.hid hf
 have gz : (e == 0) = false := by rw [beq_eq_false_iff_ne]; exact asmB_ne ha
 have gz2 : (e != 0) = true := by rw [bne_iff_ne]; exact asmB_ne ha
 have f1 : wrap64 (x.len - 49) = x.len - 49 := by unfold wrap64; omega
 have f2 : IntKind.i64.wrap (x.len - 49) = x.len - 49 := IntWalk.i64_in _ (by omega)
 clear h g1 ht1 hsl hs1 hr1 har hc0 hcn hmx ha hp hj ht2 he3 hxl hf
 go_enter Try.func30, Try.ntmps30
 go_wp2_with (first
  | (go_at_call 47; (with_reducible refine (s_takeE p i i1 _ said HT1.out H.out.p1).mono ?_); rintro e_ wn ⟨rfl, h⟩; replace H := Lib.hid h; clear h)
  | (go_at_call 6; (with_reducible refine (s_new said HSL.out H.out).mono ?_); rintro e_ wn ⟨bi, rfl, h⟩; replace H := Lib.hid h; clear h)
  | (go_at_call 61; (with_reducible refine (prefix_readQ bi _ j x HP.out H.out).mono ?_); rintro e_ wn ⟨rfl, h⟩; replace H := Lib.hid h; clear h; have h := H.out; obtain ⟨pb, hpb⟩ : ∃ b, wn.heap.size = b := ⟨_, rfl⟩; have h := h.allocRaw #[.int .i64 x.base, .int .i64 x.len, .int .i64 x.leader, .int .i64 x.sum, .int .i64 x.attr, .int .i64 x.last, .int .i64 x.first, .int .i64 x.maxt, .int .i64 x.prod, .int .i64 x.epoch, .int .i64 x.seq, .int .i64 x.count] 73; rw [hpb] at h; obtain ⟨x0, x1, x2, x3, x4, x5, x6, x7, x8, x9, x10, x11, y0, y1, y2, y3, y4, y5, y6, y7, y8, y9, y10, y11⟩ := raw12 (b := pb) (h); replace H := Lib.hid h.p1; clear h)
  | (go_at_call 23; (with_reducible refine (s_errE bi j 0 HJ.out H.out).mono ?_); rintro e_ wn ⟨rfl, h⟩; replace H := Lib.hid h; clear h; obtain ⟨x0, x1, x2, x3, x4, x5, x6, x7, x8, x9, x10, x11, y0, y1, y2, y3, y4, y5, y6, y7, y8, y9, y10, y11⟩ := raw12 (b := pb) (H.out.p1))
  | (go_at_call 47; (with_reducible refine (s_takeE p i1 i3 _ rows HT2.out H.out.p2).mono ?_); rintro e_ wn ⟨rfl, h⟩; replace H := Lib.hid h; clear h; obtain ⟨x0, x1, x2, x3, x4, x5, x6, x7, x8, x9, x10, x11, y0, y1, y2, y3, y4, y5, y6, y7, y8, y9, y10, y11⟩ := raw12 (b := pb) (H.out.p2))
  | (go_at_call 23; (with_reducible refine (s_errE p i3 0 HE3.out H.out).mono ?_); rintro e_ wn ⟨rfl, h⟩; replace H := Lib.hid h; clear h; obtain ⟨x0, x1, x2, x3, x4, x5, x6, x7, x8, x9, x10, x11, y0, y1, y2, y3, y4, y5, y6, y7, y8, y9, y10, y11⟩ := raw12 (b := pb) (H.out.p2); obtain ⟨a0, a1, a2, a3, a4, a5, a6, a7, a8, a9, a10, a11, f0, f1, f2, f3, f4, f5, f6, f7, f8, f9, f10, f11⟩ := raw12 (b := rb) (H.out.p3))
  | (go_at_call 62; (with_reducible refine (asm_err x said rows HS1.out HSL.out HR1.out HAR.out HC0.out HCN.out HMX.out e HA.out H.out).mono ?_); rintro e_ wn ⟨b, q, n, cap, rfl, h⟩; have h := h.allocRaw #[.int .i64 b.base, .int .i64 b.leader, .bool b.app, .bool b.txn, .bool b.ctl, .int .i64 b.last, .int .i64 b.first, .int .i64 b.maxt, .int .i64 b.prod, .int .i64 b.epoch, .int .i64 b.seq, .slice q n cap] 39; obtain ⟨bB, hbB⟩ : ∃ b, wn.heap.size = b := ⟨_, rfl⟩; rw [hbB] at h; obtain ⟨c0, c1, c2, c3, c4, c5, c6, c7, c8, c9, c10, c11, g0, g1, g2, g3, g4, g5, g6, g7, g8, g9, g10, g11⟩ := raw12 (b := bB) (h); obtain ⟨a0, a1, a2, a3, a4, a5, a6, a7, a8, a9, a10, a11, f0, f1, f2, f3, f4, f5, f6, f7, f8, f9, f10, f11⟩ := raw12 (b := rb) (h.p4); replace H := Lib.hid h; clear h)
  | (go_at_call 24; (with_reducible refine (s_failE p i3 i4 _ HF.out H.out.p1).mono ?_); rintro e_ wn ⟨rfl, h⟩; replace H := Lib.hid h; clear h; obtain ⟨c0, c1, c2, c3, c4, c5, c6, c7, c8, c9, c10, c11, g0, g1, g2, g3, g4, g5, g6, g7, g8, g9, g10, g11⟩ := raw12 (b := bB) (H.out.p1); obtain ⟨a0, a1, a2, a3, a4, a5, a6, a7, a8, a9, a10, a11, f0, f1, f2, f3, f4, f5, f6, f7, f8, f9, f10, f11⟩ := raw12 (b := rb) (H.out.p4)))
 have hz : St W0 _ _ (.raw rb #[.int .i64 0, .int .i64 0, .bool false, .bool false, .bool false, .int .i64 0, .int .i64 0, .int .i64 0, .int .i64 0, .int .i64 0, .int .i64 0, .slice none 0 0] 39 :: _) := St.sets12 _ _ _ _ _ _ _ _ _ _ _ _ (H.out.p4)
 refine bodyPost_ret (rc_cell_only rfl _ _ rb [.int .i64 0, .int .i64 0, .bool false, .bool false, .bool false, .int .i64 0, .int .i64 0, .int .i64 0, .int .i64 0, .int .i64 0, .int .i64 0, .slice none 0 0] _ rfl (rc_range hz) Try.underlying39 rfl (by kernel_rfl)) rfl ?_
 exact ⟨rfl, hz.drop.p1.drop.p1.drop.p1.drop⟩

end Go.Proofs.Ytnnnglklgofabaa
