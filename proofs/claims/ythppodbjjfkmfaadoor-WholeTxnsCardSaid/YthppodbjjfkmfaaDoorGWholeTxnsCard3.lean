/- WholeTxns: bodies that may not be. -/
import Derived.Test.YthppodbjjfkmfaaDoorGWholeTxnsCard1
import Derived.Test.YthppodbjjfkmfaaDoorGWholeTxnsCard2
import Derived.Handy
import Derived.Test.YthppodbjjfkmfaaDoorS1
import Derived.Deep.RegionHeld3
import Derived.Deep.DeepCutAuto
/- Requests of transactions: may they be written. -/
namespace Go.Proofs.YthppodbjjfkmfaaDoor
open Go.RowKit

theorem blob_putFixedT (p : Nat) (e e2 : Bs) (u : Bool) (s : Bs) (he : e ++ encF 2 ⟨u, s⟩ = e2) (hr : (⟨u, s⟩ : BlobS).right = true) (hf : fits (⟨u, s⟩ : BlobS).len 2) (hs : s.length ≤ 32767) (hl : e.length ≤ 100000000000000) {W0 w : World} {K : Know} {L : List Res} (h : St W0 w K (.out p ⟨e, 0⟩ :: L)) :
    Calls Tryd.prog 23 #[outPtr p, .agg #[.bool u, .string (bb s)], .int .i64 2] w fun en w' => en = .returned (.tuple #[]) ∧ St W0 w' K (.out p ⟨e2, 0⟩ :: L) := by
  have h2 := blob_putFixed p ⟨e, 0⟩ ⟨u, s⟩ 2 h (by unfold OutS.ok; simp only; omega)
  have e3 : (⟨e, 0⟩ : OutS).putFixed ⟨u, s⟩ 2 = ⟨e2, 0⟩ := by
    unfold OutS.putFixed OutS.int
    rw [if_pos hf, ← he]
    cases u with
    | true =>
      have h3 : s = [] := by cases s with | nil => rfl | cons _ _ => cases hr
      subst h3
      show (⟨(e ++ beBytes (⟨true, []⟩ : BlobS).len 2) ++ [], 0⟩ : OutS) = _
      rw [List.append_assoc]
      rfl
    | false =>
      show (⟨(e ++ beBytes (⟨false, s⟩ : BlobS).len 2) ++ s, 0⟩ : OutS) = _
      rw [List.append_assoc]
      rfl
  rw [e3] at h2
  exact h2
set_option maxHeartbeats 1000000 in
set_option maxRecDepth 100000 in
theorem beg_clo (bB vB : Nat) (v : Int) (nl : Bool) (d : Bs) (tm p e : Int) (r : Int) (hr : begE v nl d tm p e = r) (hl : d.length ≤ 140737488355328) {W0 w : World} {K : Know} {L : List Res} (c0 : w.cell? ⟨bB, 0, none⟩ = some (.bool nl)) (c1 : w.cell? ⟨bB, 1, none⟩ = some (.string (bb d))) (c2 : w.cell? ⟨bB, 2, none⟩ = some (.int .i64 tm)) (c3 : w.cell? ⟨bB, 3, none⟩ = some (.int .i64 p)) (c4 : w.cell? ⟨bB, 4, none⟩ = some (.int .i64 e)) (cv : w.cell? ⟨vB, 0, none⟩ = some (.int .i64 v)) (h : St W0 w K L) :
    Calls Tryd.prog 26 #[.pointer (some ⟨bB, 0, none⟩), .pointer (some ⟨vB, 0, none⟩)] w fun en w' => en = .returned (.int .i64 r) ∧ St W0 w' K L := by
  have H := Lib.hid h
  have HR := Lib.hid hr
  have HL := Lib.hid hl
  clear h hr hl
  go_enter Tryd.func26, Tryd.ntmps26
  go_wp2_with (go_at_call 9; (with_reducible refine (beg_check v nl d tm p e _ HR.out HL.out H.out).mono ?_); rintro e_ wn ⟨rfl, h⟩; replace H := Lib.hid h; clear h)
  go_ret
  exact ⟨rfl, H.out⟩

set_option maxHeartbeats 2000000 in
set_option maxRecDepth 100000 in
theorem may_beg (b : Nat) (o o2 : OutS) (bB vB : Nat) (v : Int) (nl : Bool) (d : Bs) (tm p e : Int) (r : Int) (t : Bool) (hr : begE v nl d tm p e = r) (hl : d.length ≤ 140737488355328) (ht : (r == 0) = t) (ho : (if r = 0 then o else o.fail r) = o2) {W0 w : World} {K : Know} {L : List Res} (h : St W0 w K (.out b o :: .raw vB #[.int .i64 v] 3 :: .raw bB #[.bool nl, .string (bb d), .int .i64 tm, .int .i64 p, .int .i64 e] 27 :: L)) :
    Calls Tryd.prog 25 #[outPtr b, .func (.func 26) #[] #[.pointer (some ⟨bB, 0, none⟩), .pointer (some ⟨vB, 0, none⟩)]] w fun en w' => en = .returned (.bool t) ∧ St W0 w' K (.out b o2 :: .raw vB #[.int .i64 v] 3 :: .raw bB #[.bool nl, .string (bb d), .int .i64 tm, .int .i64 p, .int .i64 e] 27 :: L) := by
  have H := Lib.hid h
  have C0 := Lib.hid (show w.cell? ⟨bB, 0, none⟩ = some (.bool nl) by have := h.p2.rawCell 0; simpa using this)
  have C1 := Lib.hid (show w.cell? ⟨bB, 1, none⟩ = some (.string (bb d)) by have := h.p2.rawCell 1; simpa using this)
  have C2 := Lib.hid (show w.cell? ⟨bB, 2, none⟩ = some (.int .i64 tm) by have := h.p2.rawCell 2; simpa using this)
  have C3 := Lib.hid (show w.cell? ⟨bB, 3, none⟩ = some (.int .i64 p) by have := h.p2.rawCell 3; simpa using this)
  have C4 := Lib.hid (show w.cell? ⟨bB, 4, none⟩ = some (.int .i64 e) by have := h.p2.rawCell 4; simpa using this)
  have CV := Lib.hid (show w.cell? ⟨vB, 0, none⟩ = some (.int .i64 v) by have := h.p1.rawCell 0; simpa using this)
  have HR := Lib.hid hr
  have HL := Lib.hid hl
  clear h hr hl
  by_cases h0 : r = 0
  · rw [if_pos h0] at ho
    subst ho h0
    obtain rfl : true = t := ht
    go_enter Tryd.func25, Tryd.ntmps25
    go_wp2_with (go_at_call 26; (with_reducible refine (beg_clo bB vB v nl d tm p e _ HR.out HL.out C0.out C1.out C2.out C3.out C4.out CV.out H.out).mono ?_); rintro e_ wn ⟨rfl, h⟩; replace H := Lib.hid h; clear h)
    go_ret
    exact ⟨rfl, H.out⟩
  · rw [if_neg h0] at ho
    have HO := Lib.hid ho
    have g0 : (r == 0) = false := by rw [beq_eq_false_iff_ne]; exact h0
    have g00 : (r != 0) = true := by simp [bne, g0]
    rw [g0] at ht
    subst ht
    clear ho h0
    go_enter Tryd.func25, Tryd.ntmps25
    go_wp2_with (first
    | (go_at_call 26; (with_reducible refine (beg_clo bB vB v nl d tm p e _ HR.out HL.out C0.out C1.out C2.out C3.out C4.out CV.out H.out).mono ?_); rintro e_ wn ⟨rfl, h⟩; replace H := Lib.hid h; clear h)
    | (go_at_call 21; (with_reducible refine (so_failT b _ _ _ HO.out H.out).mono ?_); rintro e_ wn ⟨rfl, h⟩; replace H := Lib.hid h; clear h))
    go_ret
    exact ⟨rfl, H.out⟩

end Go.Proofs.YthppodbjjfkmfaaDoor

/- Requests of transactions, written. -/
namespace Go.Proofs.YthppodbjjfkmfaaDoor
open Go.RowKit

set_option maxHeartbeats 4000000 in
set_option maxRecDepth 100000 in
theorem beg_write_ok0 (b : Nat) (o o1 o2 : Bs) (nl : Bool) (d : Bs) (tm p e : Int) (h1 : o ++ encF 2 ⟨nl, d⟩ = o1) (h2 : o1 ++ beBytes tm (4 : Int).toNat = o2) (hk : begE 0 nl d tm p e = 0) (hp : p < 9223372036854775808) (hl : o.length ≤ 1000000) {W0 w : World} {K : Know} {L : List Res} (h : St W0 w K (.out b ⟨o, 0⟩ :: L)) :
    Calls Tryd.prog 8 #[.agg #[.bool nl, .string (bb d), .int .i64 tm, .int .i64 p, .int .i64 e], outPtr b, .int .i64 0] w fun en w' => en = .returned (.tuple #[]) ∧ St W0 w' K (.out b ⟨o2, 0⟩ :: L) := by
  obtain ⟨bB, hbB⟩ : ∃ b, w.heap.size = b := ⟨_, rfl⟩
  obtain ⟨vB, hvB⟩ : ∃ b, bB + 1 = b := ⟨_, rfl⟩
  have g1 := (h.allocRaw #[.bool nl, .string (bb d), .int .i64 tm, .int .i64 p, .int .i64 e] 27).allocRaw #[.int .i64 0] 3
  simp only [World.size_alloc, hbB, hvB] at g1
  have H := Lib.hid (show St W0 _ K (.out b ⟨o, 0⟩ :: .raw vB #[.int .i64 0] 3 :: .raw bB #[.bool nl, .string (bb d), .int .i64 tm, .int .i64 p, .int .i64 e] 27 :: L) from g1.p2)
  clear g1
  have hok := begE_ok hk
  obtain ⟨hil, hri, hfi⟩ := idOk_len hok.1
  have hrg := was_rng hok.2.2
  have HRI := Lib.hid hri
  have HFI := Lib.hid hfi
  have HIL := Lib.hid hil
  have H1 := Lib.hid h1
  have H2 := Lib.hid h2
  have HK_ := Lib.hid hk
  have HIL2 := Lib.hid (show d.length ≤ 140737488355328 by omega)
  have HFT := Lib.hid (vfits4 tm (by omega))
  have hl1 : o1.length = o.length + (d.length + 2) := by rw [← h1, List.length_append]; unfold encF; rw [List.length_append, beBytes_length]; simp only; omega
  have hl2 : o2.length = o1.length + 4 := by rw [← h2, List.length_append, beBytes_length]; rfl
  have HL := Lib.hid (show o.length ≤ 100000000000000 by omega)
  have HL1 := Lib.hid (show o1.length ≤ 100000000000000 by omega)
  have HL2 := Lib.hid (show o2.length ≤ 100000000 by omega)
  have HT := Lib.hid (show ((0 : Int) == 0) = true by rfl)
  have HO := Lib.hid (show (if (0 : Int) = 0 then (⟨o, 0⟩ : OutS) else (⟨o, 0⟩ : OutS).fail 0) = ⟨o, 0⟩ by rfl)
  clear h h1 h2 hk hp hl hl1 hl2 hok hil hri hfi hrg
  go_enter Tryd.func8, Tryd.ntmps8
  go_wp2_with (first
    | (go_at_call 25; (with_reducible refine (may_beg b _ _ bB vB 0 nl d tm p e _ _ HK_.out HIL2.out HT.out HO.out H.out).mono ?_); rintro e_ wn ⟨rfl, h⟩; have d0 := h.p2.rawCell 0; have d1 := h.p2.rawCell 1; have d2 := h.p2.rawCell 2; have d3 := h.p2.rawCell 3; have d4 := h.p2.rawCell 4; have dv := h.p1.rawCell 0; simp at d0 d1 d2 d3 d4 dv; replace H := Lib.hid h; clear h)
    | (go_at_call 23; (with_reducible refine (blob_putFixedT b o o1 nl d H1.out HRI.out HFI.out HIL.out HL.out H.out).mono ?_); rintro e_ wn ⟨rfl, h⟩; have d0 := h.p2.rawCell 0; have d1 := h.p2.rawCell 1; have d2 := h.p2.rawCell 2; have d3 := h.p2.rawCell 3; have d4 := h.p2.rawCell 4; have dv := h.p1.rawCell 0; simp at d0 d1 d2 d3 d4 dv; replace H := Lib.hid h; clear h)
    | (go_at_call 22; (with_reducible refine (so_intV b o1 o2 tm 4 H2.out HFT.out HL1.out H.out).mono ?_); rintro e_ wn ⟨rfl, h⟩; have d0 := h.p2.rawCell 0; have d1 := h.p2.rawCell 1; have d2 := h.p2.rawCell 2; have d3 := h.p2.rawCell 3; have d4 := h.p2.rawCell 4; have dv := h.p1.rawCell 0; simp at d0 d1 d2 d3 d4 dv; replace H := Lib.hid h; clear h))
  go_end0
  exact ⟨rfl, H.out.p2.drop.p1.drop⟩

set_option maxHeartbeats 4000000 in
set_option maxRecDepth 100000 in
theorem beg_write_ok1 (b : Nat) (o o1 o2 o3 o4 : Bs) (nl : Bool) (d : Bs) (tm p e : Int) (h1 : o ++ encF 2 ⟨nl, d⟩ = o1) (h2 : o1 ++ beBytes tm (4 : Int).toNat = o2) (h3 : o2 ++ beBytes p (8 : Int).toNat = o3) (h4 : o3 ++ beBytes e (2 : Int).toNat = o4) (hk : begE 1 nl d tm p e = 0) (hp : p < 9223372036854775808) (hl : o.length ≤ 1000000) {W0 w : World} {K : Know} {L : List Res} (h : St W0 w K (.out b ⟨o, 0⟩ :: L)) :
    Calls Tryd.prog 8 #[.agg #[.bool nl, .string (bb d), .int .i64 tm, .int .i64 p, .int .i64 e], outPtr b, .int .i64 1] w fun en w' => en = .returned (.tuple #[]) ∧ St W0 w' K (.out b ⟨o4, 0⟩ :: L) := by
  obtain ⟨bB, hbB⟩ : ∃ b, w.heap.size = b := ⟨_, rfl⟩
  obtain ⟨vB, hvB⟩ : ∃ b, bB + 1 = b := ⟨_, rfl⟩
  have g1 := (h.allocRaw #[.bool nl, .string (bb d), .int .i64 tm, .int .i64 p, .int .i64 e] 27).allocRaw #[.int .i64 1] 3
  simp only [World.size_alloc, hbB, hvB] at g1
  have H := Lib.hid (show St W0 _ K (.out b ⟨o, 0⟩ :: .raw vB #[.int .i64 1] 3 :: .raw bB #[.bool nl, .string (bb d), .int .i64 tm, .int .i64 p, .int .i64 e] 27 :: L) from g1.p2)
  clear g1
  have hok := begE_ok hk
  obtain ⟨hil, hri, hfi⟩ := idOk_len hok.1
  have hrg := was_rng hok.2.2
  have HRI := Lib.hid hri
  have HFI := Lib.hid hfi
  have HIL := Lib.hid hil
  have H1 := Lib.hid h1
  have H2 := Lib.hid h2
  have HK_ := Lib.hid hk
  have HIL2 := Lib.hid (show d.length ≤ 140737488355328 by omega)
  have HFT := Lib.hid (vfits4 tm (by omega))
  have hl1 : o1.length = o.length + (d.length + 2) := by rw [← h1, List.length_append]; unfold encF; rw [List.length_append, beBytes_length]; simp only; omega
  have hl2 : o2.length = o1.length + 4 := by rw [← h2, List.length_append, beBytes_length]; rfl
  have HL := Lib.hid (show o.length ≤ 100000000000000 by omega)
  have HL1 := Lib.hid (show o1.length ≤ 100000000000000 by omega)
  have HL2 := Lib.hid (show o2.length ≤ 100000000 by omega)
  have HT := Lib.hid (show ((0 : Int) == 0) = true by rfl)
  have HO := Lib.hid (show (if (0 : Int) = 0 then (⟨o, 0⟩ : OutS) else (⟨o, 0⟩ : OutS).fail 0) = ⟨o, 0⟩ by rfl)
  have H3 := Lib.hid h3
  have H4 := Lib.hid h4
  have HF8 := Lib.hid (vfits8 p (by omega))
  have HF2 := Lib.hid (vfits2 e (by omega))
  clear h h1 h2 hk hp hl hl1 hl2 hok hil hri hfi hrg h3 h4
  go_enter Tryd.func8, Tryd.ntmps8
  go_wp2_with (first
    | (go_at_call 25; (with_reducible refine (may_beg b _ _ bB vB 1 nl d tm p e _ _ HK_.out HIL2.out HT.out HO.out H.out).mono ?_); rintro e_ wn ⟨rfl, h⟩; have d0 := h.p2.rawCell 0; have d1 := h.p2.rawCell 1; have d2 := h.p2.rawCell 2; have d3 := h.p2.rawCell 3; have d4 := h.p2.rawCell 4; have dv := h.p1.rawCell 0; simp at d0 d1 d2 d3 d4 dv; replace H := Lib.hid h; clear h)
    | (go_at_call 23; (with_reducible refine (blob_putFixedT b o o1 nl d H1.out HRI.out HFI.out HIL.out HL.out H.out).mono ?_); rintro e_ wn ⟨rfl, h⟩; have d0 := h.p2.rawCell 0; have d1 := h.p2.rawCell 1; have d2 := h.p2.rawCell 2; have d3 := h.p2.rawCell 3; have d4 := h.p2.rawCell 4; have dv := h.p1.rawCell 0; simp at d0 d1 d2 d3 d4 dv; replace H := Lib.hid h; clear h)
    | (go_at_call 22; (with_reducible refine (so_intV b o1 o2 tm 4 H2.out HFT.out HL1.out H.out).mono ?_); rintro e_ wn ⟨rfl, h⟩; have d0 := h.p2.rawCell 0; have d1 := h.p2.rawCell 1; have d2 := h.p2.rawCell 2; have d3 := h.p2.rawCell 3; have d4 := h.p2.rawCell 4; have dv := h.p1.rawCell 0; simp at d0 d1 d2 d3 d4 dv; replace H := Lib.hid h; clear h)
    | (go_at_call 27; (with_reducible refine (txn_putWriter b o2 o3 o4 p e H3.out H4.out HF8.out HF2.out HL2.out H.out).mono ?_); rintro e_ wn ⟨rfl, h⟩; have d0 := h.p2.rawCell 0; have d1 := h.p2.rawCell 1; have d2 := h.p2.rawCell 2; have d3 := h.p2.rawCell 3; have d4 := h.p2.rawCell 4; have dv := h.p1.rawCell 0; simp at d0 d1 d2 d3 d4 dv; replace H := Lib.hid h; clear h))
  go_end0
  exact ⟨rfl, H.out.p2.drop.p1.drop⟩

set_option maxHeartbeats 4000000 in
set_option maxRecDepth 100000 in
theorem beg_write_bad (b : Nat) (o : Bs) (r : Int) (v : Int) (nl : Bool) (d : Bs) (tm p e : Int) (hr : begE v nl d tm p e = r) (h0 : r ≠ 0) (hil : d.length ≤ 140737488355328) {W0 w : World} {K : Know} {L : List Res} (h : St W0 w K (.out b ⟨o, 0⟩ :: L)) :
    Calls Tryd.prog 8 #[.agg #[.bool nl, .string (bb d), .int .i64 tm, .int .i64 p, .int .i64 e], outPtr b, .int .i64 v] w fun en w' => en = .returned (.tuple #[]) ∧ St W0 w' K (.out b ⟨o, r⟩ :: L) := by
  obtain ⟨bB, hbB⟩ : ∃ b, w.heap.size = b := ⟨_, rfl⟩
  obtain ⟨vB, hvB⟩ : ∃ b, bB + 1 = b := ⟨_, rfl⟩
  have g1 := (h.allocRaw #[.bool nl, .string (bb d), .int .i64 tm, .int .i64 p, .int .i64 e] 27).allocRaw #[.int .i64 v] 3
  simp only [World.size_alloc, hbB, hvB] at g1
  have H := Lib.hid (show St W0 _ K (.out b ⟨o, 0⟩ :: .raw vB #[.int .i64 v] 3 :: .raw bB #[.bool nl, .string (bb d), .int .i64 tm, .int .i64 p, .int .i64 e] 27 :: L) from g1.p2)
  clear g1
  have HK_ := Lib.hid hr
  have HIL2 := Lib.hid hil
  have g0 : (r == 0) = false := by rw [beq_eq_false_iff_ne]; exact h0
  have HT := Lib.hid g0
  have HO := Lib.hid (show (if r = 0 then (⟨o, 0⟩ : OutS) else (⟨o, 0⟩ : OutS).fail r) = ⟨o, r⟩ by rw [if_neg h0]; rfl)
  clear h hr hil h0 g0
  go_enter Tryd.func8, Tryd.ntmps8
  go_wp2_with (first
    | (go_at_call 25; (with_reducible refine (may_beg b _ _ bB vB v nl d tm p e _ _ HK_.out HIL2.out HT.out HO.out H.out).mono ?_); rintro e_ wn ⟨rfl, h⟩; have d0 := h.p2.rawCell 0; have d1 := h.p2.rawCell 1; have d2 := h.p2.rawCell 2; have d3 := h.p2.rawCell 3; have d4 := h.p2.rawCell 4; have dv := h.p1.rawCell 0; simp at d0 d1 d2 d3 d4 dv; replace H := Lib.hid h; clear h))
  (try simp only [Exit.inBlock, Exit.then]); refine bodyPost_ret (results_none rfl _ _ _) rfl ?_
  exact ⟨rfl, H.out.p2.drop.p1.drop⟩

set_option maxHeartbeats 4000000 in
set_option maxRecDepth 100000 in
theorem end_write_bad (b : Nat) (o : Bs) (r : Int) (id : Bs) (p e : Int) (c : Bool) (hr : chkW id p e = r) (h0 : r ≠ 0) (hil : id.length ≤ 140737488355328) {W0 w : World} {K : Know} {L : List Res} (h : St W0 w K (.out b ⟨o, 0⟩ :: L)) :
    Calls Tryd.prog 10 #[.agg #[.string (bb id), .int .i64 p, .int .i64 e, .bool c], outPtr b] w fun en w' => en = .returned (.tuple #[]) ∧ St W0 w' K (.out b ⟨o, r⟩ :: L) := by
  have H := Lib.hid (h.allocRaw #[.string (bb id), .int .i64 p, .int .i64 e, .bool c] 29)
  have HR := Lib.hid hr
  have HIL2 := Lib.hid hil
  have g0 : (r == 0) = false := by rw [beq_eq_false_iff_ne]; exact h0
  have HT := Lib.hid g0
  have HO := Lib.hid (show (if r = 0 then (⟨o, 0⟩ : OutS) else (⟨o, 0⟩ : OutS).fail r) = ⟨o, r⟩ by rw [if_neg h0]; rfl)
  clear h hr hil h0 g0
  go_enter Tryd.func10, Tryd.ntmps10
  go_wp2_with (go_at_call 25; (with_reducible refine (may_end b _ _ id p e c _ _ HR.out HT.out HO.out HIL2.out H.out.p1).mono ?_); rintro e_ wn ⟨rfl, h⟩; have d0 := h.p1.rawCell 0; have d1 := h.p1.rawCell 1; have d2 := h.p1.rawCell 2; have d3 := h.p1.rawCell 3; simp at d0 d1 d2 d3; replace H := Lib.hid h; clear h)
  (try simp only [Exit.inBlock, Exit.then]); refine bodyPost_ret (results_none rfl _ _ _) rfl ?_
  exact ⟨rfl, H.out.p1.drop⟩

end Go.Proofs.YthppodbjjfkmfaaDoor

/- Requests of transactions: are they whole. -/
namespace Go.Proofs.YthppodbjjfkmfaaDoor
open Go.RowKit

theorem blob_fixedT (p : Nat) (i j : InS) (n : Bool) (d : Bs) (hx : i.fixed 2 = (⟨n, d⟩, j)) {W0 w : World} {K : Know} {L : List Res} (h : St W0 w K (.inp p i :: L)) :
    Calls Tryd.prog 34 #[inPtr p, .int .i64 2] w fun en w' => en = .returned (.agg #[.bool n, .string (bb d)]) ∧ St W0 w' K (.inp p j :: L) := by
  have := blob_fixed p i 2 h
  rw [hx] at this
  exact this
set_option maxHeartbeats 1000000 in
set_option maxRecDepth 100000 in
theorem vsd_check (v : Int) (nl : Bool) (d : Bs) (tm p e : Int) (r : Int) (hr : begE v nl d tm p e = r) (hl : d.length ≤ 140737488355328) {W0 w : World} {K : Know} {L : List Res} (h : St W0 w K L) :
    Calls Tryd.prog 68 #[.agg #[.bool nl, .string (bb d), .int .i64 tm, .int .i64 p, .int .i64 e, .int .i64 v]] w fun en w' => en = .returned (.int .i64 r) ∧ St W0 w' K L := by
  have H := Lib.hid (h.allocRaw #[.bool nl, .string (bb d), .int .i64 tm, .int .i64 p, .int .i64 e, .int .i64 v] 71)
  have HR := Lib.hid hr
  have HL := Lib.hid hl
  clear h hr hl
  go_enter Tryd.func68, Tryd.ntmps68
  go_wp2_with (go_at_call 9; (with_reducible refine (beg_check v nl d tm p e _ HR.out HL.out H.out).mono ?_); rintro e_ wn ⟨rfl, h⟩; replace H := Lib.hid h; clear h)
  go_ret
  exact ⟨rfl, H.out.drop⟩
set_option maxHeartbeats 1000000 in
set_option maxRecDepth 100000 in
theorem whole_err (b : Nat) (i : InS) (e : Int) (hi : i.err = e) (h0 : e ≠ 0) (v : Value) {W0 w : World} {K : Know} {L : List Res} (h : St W0 w K (.inp b i :: L)) :
    Calls Tryd.prog 37 #[inPtr b, v] w fun en w' => en = .returned (.bool false) ∧ St W0 w' K (.inp b i :: L) := by
  have H := Lib.hid h
  have HI := Lib.hid hi
  have g1 : (e == 0) = false := by rw [beq_eq_false_iff_ne]; exact h0
  have g2 : (e != 0) = true := by simp [bne, g1]
  clear h hi h0
  go_enter Tryd.func37, Tryd.ntmps37
  go_wp2_with (go_at_call 35; (with_reducible refine (s_errV b _ _ HI.out H.out).mono ?_); rintro e_ wn ⟨rfl, h⟩; replace H := Lib.hid h; clear h)
  go_ret
  exact ⟨rfl, H.out⟩
theorem s_failW (p : Nat) (i j : InS) (e : Int) (hx : i.fail e = j) {W0 w : World} {K : Know} {L : List Res} (h : St W0 w K (.inp p i :: L)) :
    Calls Tryd.prog 33 #[inPtr p, .int .i64 e] w fun en w' => en = .returned (.tuple #[]) ∧ St W0 w' K (.inp p j :: L) := by
  subst hx; exact s_fail p i e h

set_option maxHeartbeats 2000000 in
set_option maxRecDepth 100000 in
theorem whole_beg (b : Nat) (i j : InS) (v : Int) (nl : Bool) (d : Bs) (tm p e : Int) (r : Int) (t : Bool) (hr : begE v nl d tm p e = r) (hl : d.length ≤ 140737488355328) (hi : i.err = 0) (ht : (r == 0) = t) (hj : (if r = 0 then i else i.fail r) = j) {W0 w : World} {K : Know} {L : List Res} (h : St W0 w K (.inp b i :: L)) :
    Calls Tryd.prog 37 #[inPtr b, .iface 71 (.agg #[.bool nl, .string (bb d), .int .i64 tm, .int .i64 p, .int .i64 e, .int .i64 v])] w fun en w' => en = .returned (.bool t) ∧ St W0 w' K (.inp b j :: L) := by
  have H := Lib.hid h
  have HI := Lib.hid hi
  have HR := Lib.hid hr
  have HL := Lib.hid hl
  clear h hr hl
  clear hi
  by_cases h0 : r = 0
  · rw [if_pos h0] at hj
    subst hj h0
    obtain rfl : true = t := ht
    go_enter Tryd.func37, Tryd.ntmps37
    go_wp2_with (first
    | (go_at_call 35; (with_reducible refine (s_errV b _ _ HI.out H.out).mono ?_); rintro e_ wn ⟨rfl, h⟩; replace H := Lib.hid h; clear h)
    | (go_at_call 68; (with_reducible refine (vsd_check v nl d tm p e _ HR.out HL.out H.out).mono ?_); rintro e_ wn ⟨rfl, h⟩; replace H := Lib.hid h; clear h))
    go_ret
    exact ⟨rfl, H.out⟩
  · rw [if_neg h0] at hj
    have HJ := Lib.hid hj
    have g0 : (r == 0) = false := by rw [beq_eq_false_iff_ne]; exact h0
    have g00 : (r != 0) = true := by simp [bne, g0]
    rw [g0] at ht
    subst ht
    clear hj h0
    go_enter Tryd.func37, Tryd.ntmps37
    go_wp2_with (first
    | (go_at_call 35; (with_reducible refine (s_errV b _ _ HI.out H.out).mono ?_); rintro e_ wn ⟨rfl, h⟩; replace H := Lib.hid h; clear h)
    | (go_at_call 68; (with_reducible refine (vsd_check v nl d tm p e _ HR.out HL.out H.out).mono ?_); rintro e_ wn ⟨rfl, h⟩; replace H := Lib.hid h; clear h)
    | (go_at_call 33; (with_reducible refine (s_failW b _ _ _ HJ.out H.out).mono ?_); rintro e_ wn ⟨rfl, h⟩; replace H := Lib.hid h; clear h))
    go_ret
    exact ⟨rfl, H.out⟩

set_option maxHeartbeats 2000000 in
set_option maxRecDepth 100000 in
theorem whole_endG (b : Nat) (i j : InS) (id : Bs) (p e : Int) (c : Bool) (r : Int) (t : Bool) (hr : chkW id p e = r) (hl : id.length ≤ 140737488355328) (hi : i.err = 0) (ht : (r == 0) = t) (hj : (if r = 0 then i else i.fail r) = j) {W0 w : World} {K : Know} {L : List Res} (h : St W0 w K (.inp b i :: L)) :
    Calls Tryd.prog 37 #[inPtr b, .iface 29 (.agg #[.string (bb id), .int .i64 p, .int .i64 e, .bool c])] w fun en w' => en = .returned (.bool t) ∧ St W0 w' K (.inp b j :: L) := by
  have H := Lib.hid h
  have HI := Lib.hid hi
  have HR := Lib.hid hr
  have HL := Lib.hid hl
  clear h hr hl
  clear hi
  by_cases h0 : r = 0
  · rw [if_pos h0] at hj
    subst hj h0
    obtain rfl : true = t := ht
    go_enter Tryd.func37, Tryd.ntmps37
    go_wp2_with (first
    | (go_at_call 35; (with_reducible refine (s_errV b _ _ HI.out H.out).mono ?_); rintro e_ wn ⟨rfl, h⟩; replace H := Lib.hid h; clear h)
    | (go_at_call 7; (with_reducible refine (end_check id p e c _ HR.out HL.out H.out).mono ?_); rintro e_ wn ⟨rfl, h⟩; replace H := Lib.hid h; clear h))
    go_ret
    exact ⟨rfl, H.out⟩
  · rw [if_neg h0] at hj
    have HJ := Lib.hid hj
    have g0 : (r == 0) = false := by rw [beq_eq_false_iff_ne]; exact h0
    have g00 : (r != 0) = true := by simp [bne, g0]
    rw [g0] at ht
    subst ht
    clear hj h0
    go_enter Tryd.func37, Tryd.ntmps37
    go_wp2_with (first
    | (go_at_call 35; (with_reducible refine (s_errV b _ _ HI.out H.out).mono ?_); rintro e_ wn ⟨rfl, h⟩; replace H := Lib.hid h; clear h)
    | (go_at_call 7; (with_reducible refine (end_check id p e c _ HR.out HL.out H.out).mono ?_); rintro e_ wn ⟨rfl, h⟩; replace H := Lib.hid h; clear h)
    | (go_at_call 33; (with_reducible refine (s_failW b _ _ _ HJ.out H.out).mono ?_); rintro e_ wn ⟨rfl, h⟩; replace H := Lib.hid h; clear h))
    go_ret
    exact ⟨rfl, H.out⟩

theorem whole_begO (b : Nat) (i : InS) (v : Int) (nl : Bool) (d : Bs) (tm p e : Int) (hr : begE v nl d tm p e = 0) (hl : d.length ≤ 140737488355328) (hi : i.err = 0) {W0 w : World} {K : Know} {L : List Res} (h : St W0 w K (.inp b i :: L)) :
    Calls Tryd.prog 37 #[inPtr b, .iface 71 (.agg #[.bool nl, .string (bb d), .int .i64 tm, .int .i64 p, .int .i64 e, .int .i64 v])] w fun en w' => en = .returned (.bool true) ∧ St W0 w' K (.inp b i :: L) :=
  whole_beg b i i v nl d tm p e 0 true hr hl hi rfl (if_pos rfl) h
end Go.Proofs.YthppodbjjfkmfaaDoor

/- Begin, read. -/
namespace Go.Proofs.YthppodbjjfkmfaaDoor
open Go.RowKit

set_option maxHeartbeats 6000000 in
set_option maxRecDepth 100000 in
theorem read_beg0_ok (b : Nat) (i i1 i2 : InS) (nl : Bool) (d : Bs) (tm : Int) (h1 : i.fixed 2 = (⟨nl, d⟩, i1)) (h2 : i1.int 4 = (tm, i2)) (hi : i2.err = 0) (hr : begE 0 nl d tm (-1) (-1) = 0) (hl : d.length ≤ 140737488355328) {W0 w : World} {K : Know} {L : List Res} (h : St W0 w K (.inp b i :: L)) :
    Calls Tryd.prog 15 #[inPtr b, .int .i64 0] w fun en w' => en = .returned (.agg #[.bool nl, .string (bb d), .int .i64 tm, .int .i64 (-1), .int .i64 (-1)]) ∧ St W0 w' K (.inp b i2 :: L) := by
  obtain ⟨rb, hrb⟩ : ∃ b, w.heap.size = b := ⟨_, rfl⟩
  obtain ⟨eb, heb⟩ : ∃ b, rb + 1 = b := ⟨_, rfl⟩
  have g1 := (h.allocRaw #[.bool false, .string ⟨#[]⟩, .int .i64 0, .int .i64 0, .int .i64 0] 27).allocRaw #[.bool false, .string ⟨#[]⟩, .int .i64 0, .int .i64 (-1), .int .i64 (-1)] 27
  simp only [World.size_alloc, hrb, heb] at g1
  have H := Lib.hid g1.p2
  have H1 := Lib.hid h1
  have H2 := Lib.hid h2
  have HI := Lib.hid hi
  have HR := Lib.hid hr
  have HL := Lib.hid hl
  have HT := Lib.hid (show ((0 : Int) == 0) = true by rfl)
  have HJ := Lib.hid (show (if (0 : Int) = 0 then i2 else i2.fail 0) = i2 by rfl)
  clear h g1 h1 h2 hi hr hl
  go_enter Tryd.func15, Tryd.ntmps15
  go_wp2_with (first
    | (go_at_call 34; (with_reducible refine (blob_fixedT b i i1 nl d H1.out H.out).mono ?_); rintro e_ wn ⟨rfl, h⟩; have f0 := h.p1.rawFree 0; have g0 := h.p1.rawCell 0; simp at g0; have f1 := h.p1.rawFree 1; have g1 := h.p1.rawCell 1; simp at g1; have h := (show St W0 ((wn.setCell ⟨eb, 0, none⟩ (.bool nl)).setCell ⟨eb, 1, none⟩ (.string (bb d))) K (.inp b i1 :: .raw eb #[.bool nl, .string (bb d), .int .i64 0, .int .i64 (-1), .int .i64 (-1)] 27 :: .raw rb #[.bool false, .string ⟨#[]⟩, .int .i64 0, .int .i64 0, .int .i64 0] 27 :: L) from ((h.p1.rawSet 0 (.bool nl)).rawSet 1 (.string (bb d))).p1); replace H := Lib.hid h; clear h)
    | (go_at_call 32; (with_reducible refine (s_intV b i1 i2 tm 4 H2.out H.out).mono ?_); rintro e_ wn ⟨rfl, h⟩; have f2 := h.p1.rawFree 2; have g2 := h.p1.rawCell 2; simp at g2; have h := (show St W0 (wn.setCell ⟨eb, 2, none⟩ (.int .i64 tm)) K (.inp b i2 :: .raw eb #[.bool nl, .string (bb d), .int .i64 tm, .int .i64 (-1), .int .i64 (-1)] 27 :: .raw rb #[.bool false, .string ⟨#[]⟩, .int .i64 0, .int .i64 0, .int .i64 0] 27 :: L) from (h.p1.rawSet 2 (.int .i64 tm)).p1); have c0 := h.p1.rawCell 0; have c1 := h.p1.rawCell 1; have c2 := h.p1.rawCell 2; have c3 := h.p1.rawCell 3; have c4 := h.p1.rawCell 4; simp at c0 c1 c2 c3 c4; replace H := Lib.hid h; clear h)
    | (go_at_call 37; clear c0 c1 c2 c3 c4; (with_reducible refine (whole_begO b i2 0 nl d tm (-1) (-1) HR.out HL.out HI.out H.out).mono ?_); rintro e_ wn ⟨rfl, h⟩; have c0 := h.p1.rawCell 0; have d0 := h.p2.rawCell 0; have r0 := h.p2.rawFree 0; have c1 := h.p1.rawCell 1; have d1 := h.p2.rawCell 1; have r1 := h.p2.rawFree 1; have c2 := h.p1.rawCell 2; have d2 := h.p2.rawCell 2; have r2 := h.p2.rawFree 2; have c3 := h.p1.rawCell 3; have d3 := h.p2.rawCell 3; have r3 := h.p2.rawFree 3; have c4 := h.p1.rawCell 4; have d4 := h.p2.rawCell 4; have r4 := h.p2.rawFree 4; simp at c0 d0 c1 d1 c2 d2 c3 d3 c4 d4; replace H := Lib.hid h; clear h))
  have hz : St W0 _ _ (.raw rb #[.bool nl, .string (bb d), .int .i64 tm, .int .i64 (-1), .int .i64 (-1)] 27 :: .inp b i2 :: .raw eb #[.bool nl, .string (bb d), .int .i64 tm, .int .i64 (-1), .int .i64 (-1)] 27 :: L) := (((((H.out.p2.rawSet 0 _).rawSet 1 _).rawSet 2 _).rawSet 3 _).rawSet 4 _)
  refine bodyPost_ret (rc_cell_only rfl _ _ rb [.bool nl, .string (bb d), .int .i64 tm, .int .i64 (-1), .int .i64 (-1)] _ rfl (rc_range hz) Tryd.underlying27 rfl (by kernel_rfl)) rfl ?_
  exact ⟨rfl, hz.drop.p1.drop⟩

set_option maxHeartbeats 6000000 in
set_option maxRecDepth 100000 in
theorem read_beg0_chk (b : Nat) (i i1 i2 j : InS) (nl : Bool) (d : Bs) (tm : Int) (h1 : i.fixed 2 = (⟨nl, d⟩, i1)) (h2 : i1.int 4 = (tm, i2)) (hi : i2.err = 0) (r : Int) (hr : begE 0 nl d tm (-1) (-1) = r) (h0 : r ≠ 0) (hj : i2.fail r = j) (hl : d.length ≤ 140737488355328) {W0 w : World} {K : Know} {L : List Res} (h : St W0 w K (.inp b i :: L)) :
    Calls Tryd.prog 15 #[inPtr b, .int .i64 0] w fun en w' => en = .returned (.agg #[.bool false, .string ⟨#[]⟩, .int .i64 0, .int .i64 0, .int .i64 0]) ∧ St W0 w' K (.inp b j :: L) := by
  obtain ⟨rb, hrb⟩ : ∃ b, w.heap.size = b := ⟨_, rfl⟩
  obtain ⟨eb, heb⟩ : ∃ b, rb + 1 = b := ⟨_, rfl⟩
  have g1 := (h.allocRaw #[.bool false, .string ⟨#[]⟩, .int .i64 0, .int .i64 0, .int .i64 0] 27).allocRaw #[.bool false, .string ⟨#[]⟩, .int .i64 0, .int .i64 (-1), .int .i64 (-1)] 27
  simp only [World.size_alloc, hrb, heb] at g1
  have H := Lib.hid g1.p2
  have H1 := Lib.hid h1
  have H2 := Lib.hid h2
  have HI := Lib.hid hi
  have HR := Lib.hid hr
  have HL := Lib.hid hl
  have HT := Lib.hid (show (r == 0) = false by rw [beq_eq_false_iff_ne]; exact h0)
  have HJ := Lib.hid (show (if r = 0 then i2 else i2.fail r) = j by rw [if_neg h0]; exact hj)
  clear h g1 h1 h2 hi hr hl h0 hj
  go_enter Tryd.func15, Tryd.ntmps15
  go_wp2_with (first
    | (go_at_call 34; (with_reducible refine (blob_fixedT b i i1 nl d H1.out H.out).mono ?_); rintro e_ wn ⟨rfl, h⟩; have f0 := h.p1.rawFree 0; have g0 := h.p1.rawCell 0; simp at g0; have f1 := h.p1.rawFree 1; have g1 := h.p1.rawCell 1; simp at g1; have h := (show St W0 ((wn.setCell ⟨eb, 0, none⟩ (.bool nl)).setCell ⟨eb, 1, none⟩ (.string (bb d))) K (.inp b i1 :: .raw eb #[.bool nl, .string (bb d), .int .i64 0, .int .i64 (-1), .int .i64 (-1)] 27 :: .raw rb #[.bool false, .string ⟨#[]⟩, .int .i64 0, .int .i64 0, .int .i64 0] 27 :: L) from ((h.p1.rawSet 0 (.bool nl)).rawSet 1 (.string (bb d))).p1); replace H := Lib.hid h; clear h)
    | (go_at_call 32; (with_reducible refine (s_intV b i1 i2 tm 4 H2.out H.out).mono ?_); rintro e_ wn ⟨rfl, h⟩; have f2 := h.p1.rawFree 2; have g2 := h.p1.rawCell 2; simp at g2; have h := (show St W0 (wn.setCell ⟨eb, 2, none⟩ (.int .i64 tm)) K (.inp b i2 :: .raw eb #[.bool nl, .string (bb d), .int .i64 tm, .int .i64 (-1), .int .i64 (-1)] 27 :: .raw rb #[.bool false, .string ⟨#[]⟩, .int .i64 0, .int .i64 0, .int .i64 0] 27 :: L) from (h.p1.rawSet 2 (.int .i64 tm)).p1); have c0 := h.p1.rawCell 0; have c1 := h.p1.rawCell 1; have c2 := h.p1.rawCell 2; have c3 := h.p1.rawCell 3; have c4 := h.p1.rawCell 4; simp at c0 c1 c2 c3 c4; replace H := Lib.hid h; clear h)
    | (go_at_call 37; clear c0 c1 c2 c3 c4; (with_reducible refine (whole_beg b i2 _ 0 nl d tm (-1) (-1) _ _ HR.out HL.out HI.out HT.out HJ.out H.out).mono ?_); rintro e_ wn ⟨rfl, h⟩; have c0 := h.p1.rawCell 0; have d0 := h.p2.rawCell 0; have r0 := h.p2.rawFree 0; have c1 := h.p1.rawCell 1; have d1 := h.p2.rawCell 1; have r1 := h.p2.rawFree 1; have c2 := h.p1.rawCell 2; have d2 := h.p2.rawCell 2; have r2 := h.p2.rawFree 2; have c3 := h.p1.rawCell 3; have d3 := h.p2.rawCell 3; have r3 := h.p2.rawFree 3; have c4 := h.p1.rawCell 4; have d4 := h.p2.rawCell 4; have r4 := h.p2.rawFree 4; simp at c0 d0 c1 d1 c2 d2 c3 d3 c4 d4; replace H := Lib.hid h; clear h))
  have hz : St W0 _ _ (.raw rb #[.bool false, .string ⟨#[]⟩, .int .i64 0, .int .i64 0, .int .i64 0] 27 :: .inp b j :: .raw eb #[.bool nl, .string (bb d), .int .i64 tm, .int .i64 (-1), .int .i64 (-1)] 27 :: L) := (((((H.out.p2.rawSet 0 _).rawSet 1 _).rawSet 2 _).rawSet 3 _).rawSet 4 _)
  refine bodyPost_ret (rc_cell_only rfl _ _ rb [.bool false, .string ⟨#[]⟩, .int .i64 0, .int .i64 0, .int .i64 0] _ rfl (rc_range hz) Tryd.underlying27 rfl (by kernel_rfl)) rfl ?_
  exact ⟨rfl, hz.drop.p1.drop⟩

set_option maxHeartbeats 6000000 in
set_option maxRecDepth 100000 in
theorem read_beg0_err (b : Nat) (i i1 i2 : InS) (nl : Bool) (d : Bs) (tm : Int) (h1 : i.fixed 2 = (⟨nl, d⟩, i1)) (h2 : i1.int 4 = (tm, i2)) (x : Int) (hi : i2.err = x) (h0 : x ≠ 0) {W0 w : World} {K : Know} {L : List Res} (h : St W0 w K (.inp b i :: L)) :
    Calls Tryd.prog 15 #[inPtr b, .int .i64 0] w fun en w' => en = .returned (.agg #[.bool false, .string ⟨#[]⟩, .int .i64 0, .int .i64 0, .int .i64 0]) ∧ St W0 w' K (.inp b i2 :: L) := by
  obtain ⟨rb, hrb⟩ : ∃ b, w.heap.size = b := ⟨_, rfl⟩
  obtain ⟨eb, heb⟩ : ∃ b, rb + 1 = b := ⟨_, rfl⟩
  have g1 := (h.allocRaw #[.bool false, .string ⟨#[]⟩, .int .i64 0, .int .i64 0, .int .i64 0] 27).allocRaw #[.bool false, .string ⟨#[]⟩, .int .i64 0, .int .i64 (-1), .int .i64 (-1)] 27
  simp only [World.size_alloc, hrb, heb] at g1
  have H := Lib.hid g1.p2
  have H1 := Lib.hid h1
  have H2 := Lib.hid h2
  have HI := Lib.hid hi
  have H0 := Lib.hid h0
  clear h g1 h1 h2 hi h0
  go_enter Tryd.func15, Tryd.ntmps15
  go_wp2_with (first
    | (go_at_call 34; (with_reducible refine (blob_fixedT b i i1 nl d H1.out H.out).mono ?_); rintro e_ wn ⟨rfl, h⟩; have f0 := h.p1.rawFree 0; have g0 := h.p1.rawCell 0; simp at g0; have f1 := h.p1.rawFree 1; have g1 := h.p1.rawCell 1; simp at g1; have h := (show St W0 ((wn.setCell ⟨eb, 0, none⟩ (.bool nl)).setCell ⟨eb, 1, none⟩ (.string (bb d))) K (.inp b i1 :: .raw eb #[.bool nl, .string (bb d), .int .i64 0, .int .i64 (-1), .int .i64 (-1)] 27 :: .raw rb #[.bool false, .string ⟨#[]⟩, .int .i64 0, .int .i64 0, .int .i64 0] 27 :: L) from ((h.p1.rawSet 0 (.bool nl)).rawSet 1 (.string (bb d))).p1); replace H := Lib.hid h; clear h)
    | (go_at_call 32; (with_reducible refine (s_intV b i1 i2 tm 4 H2.out H.out).mono ?_); rintro e_ wn ⟨rfl, h⟩; have f2 := h.p1.rawFree 2; have g2 := h.p1.rawCell 2; simp at g2; have h := (show St W0 (wn.setCell ⟨eb, 2, none⟩ (.int .i64 tm)) K (.inp b i2 :: .raw eb #[.bool nl, .string (bb d), .int .i64 tm, .int .i64 (-1), .int .i64 (-1)] 27 :: .raw rb #[.bool false, .string ⟨#[]⟩, .int .i64 0, .int .i64 0, .int .i64 0] 27 :: L) from (h.p1.rawSet 2 (.int .i64 tm)).p1); have c0 := h.p1.rawCell 0; have c1 := h.p1.rawCell 1; have c2 := h.p1.rawCell 2; have c3 := h.p1.rawCell 3; have c4 := h.p1.rawCell 4; simp at c0 c1 c2 c3 c4; replace H := Lib.hid h; clear h)
    | (go_at_call 37; clear c0 c1 c2 c3 c4; (with_reducible refine (whole_err b i2 x HI.out H0.out _ H.out).mono ?_); rintro e_ wn ⟨rfl, h⟩; have c0 := h.p1.rawCell 0; have d0 := h.p2.rawCell 0; have r0 := h.p2.rawFree 0; have c1 := h.p1.rawCell 1; have d1 := h.p2.rawCell 1; have r1 := h.p2.rawFree 1; have c2 := h.p1.rawCell 2; have d2 := h.p2.rawCell 2; have r2 := h.p2.rawFree 2; have c3 := h.p1.rawCell 3; have d3 := h.p2.rawCell 3; have r3 := h.p2.rawFree 3; have c4 := h.p1.rawCell 4; have d4 := h.p2.rawCell 4; have r4 := h.p2.rawFree 4; simp at c0 d0 c1 d1 c2 d2 c3 d3 c4 d4; replace H := Lib.hid h; clear h))
  have hz : St W0 _ _ (.raw rb #[.bool false, .string ⟨#[]⟩, .int .i64 0, .int .i64 0, .int .i64 0] 27 :: .inp b i2 :: .raw eb #[.bool nl, .string (bb d), .int .i64 tm, .int .i64 (-1), .int .i64 (-1)] 27 :: L) := (((((H.out.p2.rawSet 0 _).rawSet 1 _).rawSet 2 _).rawSet 3 _).rawSet 4 _)
  refine bodyPost_ret (rc_cell_only rfl _ _ rb [.bool false, .string ⟨#[]⟩, .int .i64 0, .int .i64 0, .int .i64 0] _ rfl (rc_range hz) Tryd.underlying27 rfl (by kernel_rfl)) rfl ?_
  exact ⟨rfl, hz.drop.p1.drop⟩

set_option maxHeartbeats 6000000 in
set_option maxRecDepth 100000 in
theorem read_beg1_ok (b : Nat) (i i1 i2 i3 i4 : InS) (nl : Bool) (d : Bs) (tm p e : Int) (h1 : i.fixed 2 = (⟨nl, d⟩, i1)) (h2 : i1.int 4 = (tm, i2)) (h3 : i2.int 8 = (p, i3)) (h4 : i3.int 2 = (e, i4)) (hi : i4.err = 0) (hr : begE 1 nl d tm p e = 0) (hl : d.length ≤ 140737488355328) {W0 w : World} {K : Know} {L : List Res} (h : St W0 w K (.inp b i :: L)) :
    Calls Tryd.prog 15 #[inPtr b, .int .i64 1] w fun en w' => en = .returned (.agg #[.bool nl, .string (bb d), .int .i64 tm, .int .i64 p, .int .i64 e]) ∧ St W0 w' K (.inp b i4 :: L) := by
  obtain ⟨rb, hrb⟩ : ∃ b, w.heap.size = b := ⟨_, rfl⟩
  obtain ⟨eb, heb⟩ : ∃ b, rb + 1 = b := ⟨_, rfl⟩
  have g1 := (h.allocRaw #[.bool false, .string ⟨#[]⟩, .int .i64 0, .int .i64 0, .int .i64 0] 27).allocRaw #[.bool false, .string ⟨#[]⟩, .int .i64 0, .int .i64 (-1), .int .i64 (-1)] 27
  simp only [World.size_alloc, hrb, heb] at g1
  have H := Lib.hid g1.p2
  have H1 := Lib.hid h1
  have H2 := Lib.hid h2
  have H3 := Lib.hid h3
  have H4 := Lib.hid h4
  have HI := Lib.hid hi
  have HR := Lib.hid hr
  have HL := Lib.hid hl
  have HT := Lib.hid (show ((0 : Int) == 0) = true by rfl)
  have HJ := Lib.hid (show (if (0 : Int) = 0 then i4 else i4.fail 0) = i4 by rfl)
  clear h g1 h1 h2 h3 h4 hi hr hl
  go_enter Tryd.func15, Tryd.ntmps15
  go_wp2_with (first
    | (go_at_call 34; (with_reducible refine (blob_fixedT b i i1 nl d H1.out H.out).mono ?_); rintro e_ wn ⟨rfl, h⟩; have f0 := h.p1.rawFree 0; have g0 := h.p1.rawCell 0; simp at g0; have f1 := h.p1.rawFree 1; have g1 := h.p1.rawCell 1; simp at g1; have h := (show St W0 ((wn.setCell ⟨eb, 0, none⟩ (.bool nl)).setCell ⟨eb, 1, none⟩ (.string (bb d))) K (.inp b i1 :: .raw eb #[.bool nl, .string (bb d), .int .i64 0, .int .i64 (-1), .int .i64 (-1)] 27 :: .raw rb #[.bool false, .string ⟨#[]⟩, .int .i64 0, .int .i64 0, .int .i64 0] 27 :: L) from ((h.p1.rawSet 0 (.bool nl)).rawSet 1 (.string (bb d))).p1); replace H := Lib.hid h; clear h)
    | (go_at_call 32; (with_reducible refine (s_intV b i1 i2 tm 4 H2.out H.out).mono ?_); rintro e_ wn ⟨rfl, h⟩; have f2 := h.p1.rawFree 2; have g2 := h.p1.rawCell 2; simp at g2; have h := (show St W0 (wn.setCell ⟨eb, 2, none⟩ (.int .i64 tm)) K (.inp b i2 :: .raw eb #[.bool nl, .string (bb d), .int .i64 tm, .int .i64 (-1), .int .i64 (-1)] 27 :: .raw rb #[.bool false, .string ⟨#[]⟩, .int .i64 0, .int .i64 0, .int .i64 0] 27 :: L) from (h.p1.rawSet 2 (.int .i64 tm)).p1); replace H := Lib.hid h; clear h)
    | (go_at_call 36; (with_reducible refine (txn_readWriter b i2 i3 i4 p e H3.out H4.out H.out).mono ?_); rintro e_ wn ⟨rfl, h⟩; have f3 := h.p1.rawFree 3; have g3 := h.p1.rawCell 3; simp at g3; have f4 := h.p1.rawFree 4; have g4 := h.p1.rawCell 4; simp at g4; have h := (show St W0 ((wn.setCell ⟨eb, 3, none⟩ (.int .i64 p)).setCell ⟨eb, 4, none⟩ (.int .i64 e)) K (.inp b i4 :: .raw eb #[.bool nl, .string (bb d), .int .i64 tm, .int .i64 p, .int .i64 e] 27 :: .raw rb #[.bool false, .string ⟨#[]⟩, .int .i64 0, .int .i64 0, .int .i64 0] 27 :: L) from ((h.p1.rawSet 3 (.int .i64 p)).rawSet 4 (.int .i64 e)).p1); have c0 := h.p1.rawCell 0; have c1 := h.p1.rawCell 1; have c2 := h.p1.rawCell 2; have c3 := h.p1.rawCell 3; have c4 := h.p1.rawCell 4; simp at c0 c1 c2 c3 c4; replace H := Lib.hid h; clear h)
    | (go_at_call 37; clear c0 c1 c2 c3 c4; (with_reducible refine (whole_begO b i4 1 nl d tm p e HR.out HL.out HI.out H.out).mono ?_); rintro e_ wn ⟨rfl, h⟩; have c0 := h.p1.rawCell 0; have d0 := h.p2.rawCell 0; have r0 := h.p2.rawFree 0; have c1 := h.p1.rawCell 1; have d1 := h.p2.rawCell 1; have r1 := h.p2.rawFree 1; have c2 := h.p1.rawCell 2; have d2 := h.p2.rawCell 2; have r2 := h.p2.rawFree 2; have c3 := h.p1.rawCell 3; have d3 := h.p2.rawCell 3; have r3 := h.p2.rawFree 3; have c4 := h.p1.rawCell 4; have d4 := h.p2.rawCell 4; have r4 := h.p2.rawFree 4; simp at c0 d0 c1 d1 c2 d2 c3 d3 c4 d4; replace H := Lib.hid h; clear h))
  have hz : St W0 _ _ (.raw rb #[.bool nl, .string (bb d), .int .i64 tm, .int .i64 p, .int .i64 e] 27 :: .inp b i4 :: .raw eb #[.bool nl, .string (bb d), .int .i64 tm, .int .i64 p, .int .i64 e] 27 :: L) := (((((H.out.p2.rawSet 0 _).rawSet 1 _).rawSet 2 _).rawSet 3 _).rawSet 4 _)
  refine bodyPost_ret (rc_cell_only rfl _ _ rb [.bool nl, .string (bb d), .int .i64 tm, .int .i64 p, .int .i64 e] _ rfl (rc_range hz) Tryd.underlying27 rfl (by kernel_rfl)) rfl ?_
  exact ⟨rfl, hz.drop.p1.drop⟩

set_option maxHeartbeats 6000000 in
set_option maxRecDepth 100000 in
theorem read_beg1_chk (b : Nat) (i i1 i2 i3 i4 j : InS) (nl : Bool) (d : Bs) (tm p e : Int) (h1 : i.fixed 2 = (⟨nl, d⟩, i1)) (h2 : i1.int 4 = (tm, i2)) (h3 : i2.int 8 = (p, i3)) (h4 : i3.int 2 = (e, i4)) (hi : i4.err = 0) (r : Int) (hr : begE 1 nl d tm p e = r) (h0 : r ≠ 0) (hj : i4.fail r = j) (hl : d.length ≤ 140737488355328) {W0 w : World} {K : Know} {L : List Res} (h : St W0 w K (.inp b i :: L)) :
    Calls Tryd.prog 15 #[inPtr b, .int .i64 1] w fun en w' => en = .returned (.agg #[.bool false, .string ⟨#[]⟩, .int .i64 0, .int .i64 0, .int .i64 0]) ∧ St W0 w' K (.inp b j :: L) := by
  obtain ⟨rb, hrb⟩ : ∃ b, w.heap.size = b := ⟨_, rfl⟩
  obtain ⟨eb, heb⟩ : ∃ b, rb + 1 = b := ⟨_, rfl⟩
  have g1 := (h.allocRaw #[.bool false, .string ⟨#[]⟩, .int .i64 0, .int .i64 0, .int .i64 0] 27).allocRaw #[.bool false, .string ⟨#[]⟩, .int .i64 0, .int .i64 (-1), .int .i64 (-1)] 27
  simp only [World.size_alloc, hrb, heb] at g1
  have H := Lib.hid g1.p2
  have H1 := Lib.hid h1
  have H2 := Lib.hid h2
  have H3 := Lib.hid h3
  have H4 := Lib.hid h4
  have HI := Lib.hid hi
  have HR := Lib.hid hr
  have HL := Lib.hid hl
  have HT := Lib.hid (show (r == 0) = false by rw [beq_eq_false_iff_ne]; exact h0)
  have HJ := Lib.hid (show (if r = 0 then i4 else i4.fail r) = j by rw [if_neg h0]; exact hj)
  clear h g1 h1 h2 h3 h4 hi hr hl h0 hj
  go_enter Tryd.func15, Tryd.ntmps15
  go_wp2_with (first
    | (go_at_call 34; (with_reducible refine (blob_fixedT b i i1 nl d H1.out H.out).mono ?_); rintro e_ wn ⟨rfl, h⟩; have f0 := h.p1.rawFree 0; have g0 := h.p1.rawCell 0; simp at g0; have f1 := h.p1.rawFree 1; have g1 := h.p1.rawCell 1; simp at g1; have h := (show St W0 ((wn.setCell ⟨eb, 0, none⟩ (.bool nl)).setCell ⟨eb, 1, none⟩ (.string (bb d))) K (.inp b i1 :: .raw eb #[.bool nl, .string (bb d), .int .i64 0, .int .i64 (-1), .int .i64 (-1)] 27 :: .raw rb #[.bool false, .string ⟨#[]⟩, .int .i64 0, .int .i64 0, .int .i64 0] 27 :: L) from ((h.p1.rawSet 0 (.bool nl)).rawSet 1 (.string (bb d))).p1); replace H := Lib.hid h; clear h)
    | (go_at_call 32; (with_reducible refine (s_intV b i1 i2 tm 4 H2.out H.out).mono ?_); rintro e_ wn ⟨rfl, h⟩; have f2 := h.p1.rawFree 2; have g2 := h.p1.rawCell 2; simp at g2; have h := (show St W0 (wn.setCell ⟨eb, 2, none⟩ (.int .i64 tm)) K (.inp b i2 :: .raw eb #[.bool nl, .string (bb d), .int .i64 tm, .int .i64 (-1), .int .i64 (-1)] 27 :: .raw rb #[.bool false, .string ⟨#[]⟩, .int .i64 0, .int .i64 0, .int .i64 0] 27 :: L) from (h.p1.rawSet 2 (.int .i64 tm)).p1); replace H := Lib.hid h; clear h)
    | (go_at_call 36; (with_reducible refine (txn_readWriter b i2 i3 i4 p e H3.out H4.out H.out).mono ?_); rintro e_ wn ⟨rfl, h⟩; have f3 := h.p1.rawFree 3; have g3 := h.p1.rawCell 3; simp at g3; have f4 := h.p1.rawFree 4; have g4 := h.p1.rawCell 4; simp at g4; have h := (show St W0 ((wn.setCell ⟨eb, 3, none⟩ (.int .i64 p)).setCell ⟨eb, 4, none⟩ (.int .i64 e)) K (.inp b i4 :: .raw eb #[.bool nl, .string (bb d), .int .i64 tm, .int .i64 p, .int .i64 e] 27 :: .raw rb #[.bool false, .string ⟨#[]⟩, .int .i64 0, .int .i64 0, .int .i64 0] 27 :: L) from ((h.p1.rawSet 3 (.int .i64 p)).rawSet 4 (.int .i64 e)).p1); have c0 := h.p1.rawCell 0; have c1 := h.p1.rawCell 1; have c2 := h.p1.rawCell 2; have c3 := h.p1.rawCell 3; have c4 := h.p1.rawCell 4; simp at c0 c1 c2 c3 c4; replace H := Lib.hid h; clear h)
    | (go_at_call 37; clear c0 c1 c2 c3 c4; (with_reducible refine (whole_beg b i4 _ 1 nl d tm p e _ _ HR.out HL.out HI.out HT.out HJ.out H.out).mono ?_); rintro e_ wn ⟨rfl, h⟩; have c0 := h.p1.rawCell 0; have d0 := h.p2.rawCell 0; have r0 := h.p2.rawFree 0; have c1 := h.p1.rawCell 1; have d1 := h.p2.rawCell 1; have r1 := h.p2.rawFree 1; have c2 := h.p1.rawCell 2; have d2 := h.p2.rawCell 2; have r2 := h.p2.rawFree 2; have c3 := h.p1.rawCell 3; have d3 := h.p2.rawCell 3; have r3 := h.p2.rawFree 3; have c4 := h.p1.rawCell 4; have d4 := h.p2.rawCell 4; have r4 := h.p2.rawFree 4; simp at c0 d0 c1 d1 c2 d2 c3 d3 c4 d4; replace H := Lib.hid h; clear h))
  have hz : St W0 _ _ (.raw rb #[.bool false, .string ⟨#[]⟩, .int .i64 0, .int .i64 0, .int .i64 0] 27 :: .inp b j :: .raw eb #[.bool nl, .string (bb d), .int .i64 tm, .int .i64 p, .int .i64 e] 27 :: L) := (((((H.out.p2.rawSet 0 _).rawSet 1 _).rawSet 2 _).rawSet 3 _).rawSet 4 _)
  refine bodyPost_ret (rc_cell_only rfl _ _ rb [.bool false, .string ⟨#[]⟩, .int .i64 0, .int .i64 0, .int .i64 0] _ rfl (rc_range hz) Tryd.underlying27 rfl (by kernel_rfl)) rfl ?_
  exact ⟨rfl, hz.drop.p1.drop⟩

set_option maxHeartbeats 6000000 in
set_option maxRecDepth 100000 in
theorem read_beg1_err (b : Nat) (i i1 i2 i3 i4 : InS) (nl : Bool) (d : Bs) (tm p e : Int) (h1 : i.fixed 2 = (⟨nl, d⟩, i1)) (h2 : i1.int 4 = (tm, i2)) (h3 : i2.int 8 = (p, i3)) (h4 : i3.int 2 = (e, i4)) (x : Int) (hi : i4.err = x) (h0 : x ≠ 0) {W0 w : World} {K : Know} {L : List Res} (h : St W0 w K (.inp b i :: L)) :
    Calls Tryd.prog 15 #[inPtr b, .int .i64 1] w fun en w' => en = .returned (.agg #[.bool false, .string ⟨#[]⟩, .int .i64 0, .int .i64 0, .int .i64 0]) ∧ St W0 w' K (.inp b i4 :: L) := by
  obtain ⟨rb, hrb⟩ : ∃ b, w.heap.size = b := ⟨_, rfl⟩
  obtain ⟨eb, heb⟩ : ∃ b, rb + 1 = b := ⟨_, rfl⟩
  have g1 := (h.allocRaw #[.bool false, .string ⟨#[]⟩, .int .i64 0, .int .i64 0, .int .i64 0] 27).allocRaw #[.bool false, .string ⟨#[]⟩, .int .i64 0, .int .i64 (-1), .int .i64 (-1)] 27
  simp only [World.size_alloc, hrb, heb] at g1
  have H := Lib.hid g1.p2
  have H1 := Lib.hid h1
  have H2 := Lib.hid h2
  have H3 := Lib.hid h3
  have H4 := Lib.hid h4
  have HI := Lib.hid hi
  have H0 := Lib.hid h0
  clear h g1 h1 h2 h3 h4 hi h0
  go_enter Tryd.func15, Tryd.ntmps15
  go_wp2_with (first
    | (go_at_call 34; (with_reducible refine (blob_fixedT b i i1 nl d H1.out H.out).mono ?_); rintro e_ wn ⟨rfl, h⟩; have f0 := h.p1.rawFree 0; have g0 := h.p1.rawCell 0; simp at g0; have f1 := h.p1.rawFree 1; have g1 := h.p1.rawCell 1; simp at g1; have h := (show St W0 ((wn.setCell ⟨eb, 0, none⟩ (.bool nl)).setCell ⟨eb, 1, none⟩ (.string (bb d))) K (.inp b i1 :: .raw eb #[.bool nl, .string (bb d), .int .i64 0, .int .i64 (-1), .int .i64 (-1)] 27 :: .raw rb #[.bool false, .string ⟨#[]⟩, .int .i64 0, .int .i64 0, .int .i64 0] 27 :: L) from ((h.p1.rawSet 0 (.bool nl)).rawSet 1 (.string (bb d))).p1); replace H := Lib.hid h; clear h)
    | (go_at_call 32; (with_reducible refine (s_intV b i1 i2 tm 4 H2.out H.out).mono ?_); rintro e_ wn ⟨rfl, h⟩; have f2 := h.p1.rawFree 2; have g2 := h.p1.rawCell 2; simp at g2; have h := (show St W0 (wn.setCell ⟨eb, 2, none⟩ (.int .i64 tm)) K (.inp b i2 :: .raw eb #[.bool nl, .string (bb d), .int .i64 tm, .int .i64 (-1), .int .i64 (-1)] 27 :: .raw rb #[.bool false, .string ⟨#[]⟩, .int .i64 0, .int .i64 0, .int .i64 0] 27 :: L) from (h.p1.rawSet 2 (.int .i64 tm)).p1); replace H := Lib.hid h; clear h)
    | (go_at_call 36; (with_reducible refine (txn_readWriter b i2 i3 i4 p e H3.out H4.out H.out).mono ?_); rintro e_ wn ⟨rfl, h⟩; have f3 := h.p1.rawFree 3; have g3 := h.p1.rawCell 3; simp at g3; have f4 := h.p1.rawFree 4; have g4 := h.p1.rawCell 4; simp at g4; have h := (show St W0 ((wn.setCell ⟨eb, 3, none⟩ (.int .i64 p)).setCell ⟨eb, 4, none⟩ (.int .i64 e)) K (.inp b i4 :: .raw eb #[.bool nl, .string (bb d), .int .i64 tm, .int .i64 p, .int .i64 e] 27 :: .raw rb #[.bool false, .string ⟨#[]⟩, .int .i64 0, .int .i64 0, .int .i64 0] 27 :: L) from ((h.p1.rawSet 3 (.int .i64 p)).rawSet 4 (.int .i64 e)).p1); have c0 := h.p1.rawCell 0; have c1 := h.p1.rawCell 1; have c2 := h.p1.rawCell 2; have c3 := h.p1.rawCell 3; have c4 := h.p1.rawCell 4; simp at c0 c1 c2 c3 c4; replace H := Lib.hid h; clear h)
    | (go_at_call 37; clear c0 c1 c2 c3 c4; (with_reducible refine (whole_err b i4 x HI.out H0.out _ H.out).mono ?_); rintro e_ wn ⟨rfl, h⟩; have c0 := h.p1.rawCell 0; have d0 := h.p2.rawCell 0; have r0 := h.p2.rawFree 0; have c1 := h.p1.rawCell 1; have d1 := h.p2.rawCell 1; have r1 := h.p2.rawFree 1; have c2 := h.p1.rawCell 2; have d2 := h.p2.rawCell 2; have r2 := h.p2.rawFree 2; have c3 := h.p1.rawCell 3; have d3 := h.p2.rawCell 3; have r3 := h.p2.rawFree 3; have c4 := h.p1.rawCell 4; have d4 := h.p2.rawCell 4; have r4 := h.p2.rawFree 4; simp at c0 d0 c1 d1 c2 d2 c3 d3 c4 d4; replace H := Lib.hid h; clear h))
  have hz : St W0 _ _ (.raw rb #[.bool false, .string ⟨#[]⟩, .int .i64 0, .int .i64 0, .int .i64 0] 27 :: .inp b i4 :: .raw eb #[.bool nl, .string (bb d), .int .i64 tm, .int .i64 p, .int .i64 e] 27 :: L) := (((((H.out.p2.rawSet 0 _).rawSet 1 _).rawSet 2 _).rawSet 3 _).rawSet 4 _)
  refine bodyPost_ret (rc_cell_only rfl _ _ rb [.bool false, .string ⟨#[]⟩, .int .i64 0, .int .i64 0, .int .i64 0] _ rfl (rc_range hz) Tryd.underlying27 rfl (by kernel_rfl)) rfl ?_
  exact ⟨rfl, hz.drop.p1.drop⟩

end Go.Proofs.YthppodbjjfkmfaaDoor

/- Ends of transactions, read. -/
namespace Go.Proofs.YthppodbjjfkmfaaDoor
open Go.RowKit

set_option maxHeartbeats 1000000 in
set_option maxRecDepth 100000 in
theorem whole_end (b : Nat) (i : InS) (id : Bs) (p e : Int) (c : Bool) (hi : i.err = 0) (hr : chkW id p e = 0) (hl : id.length ≤ 140737488355328) {W0 w : World} {K : Know} {L : List Res} (h : St W0 w K (.inp b i :: L)) :
    Calls Tryd.prog 37 #[inPtr b, .iface 29 (.agg #[.string (bb id), .int .i64 p, .int .i64 e, .bool c])] w fun en w' => en = .returned (.bool true) ∧ St W0 w' K (.inp b i :: L) := by
  have H := Lib.hid h
  have HI := Lib.hid hi
  have HR := Lib.hid hr
  have HL := Lib.hid hl
  clear h hi hr hl
  go_enter Tryd.func37, Tryd.ntmps37
  go_wp2_with (first
    | (go_at_call 35; (with_reducible refine (s_errV b _ _ HI.out H.out).mono ?_); rintro e_ wn ⟨rfl, h⟩; replace H := Lib.hid h; clear h)
    | (go_at_call 7; (with_reducible refine (end_check id p e c _ HR.out HL.out H.out).mono ?_); rintro e_ wn ⟨rfl, h⟩; replace H := Lib.hid h; clear h))
  go_ret
  exact ⟨rfl, H.out⟩

set_option maxHeartbeats 2000000 in
set_option maxRecDepth 100000 in
theorem read_end_ok (b : Nat) (i i1 i2 i3 i4 : InS) (id : Bs) (p e : Int) (c : Bool) (h1 : i.text = (id, i1)) (h2 : i1.int 8 = (p, i2)) (h3 : i2.int 2 = (e, i3)) (h4 : i3.boolP = (c, i4)) (hi : i4.err = 0) (hr : chkW id p e = 0) (hl : id.length ≤ 140737488355328) {W0 w : World} {K : Know} {L : List Res} (h : St W0 w K (.inp b i :: L)) :
    Calls Tryd.prog 17 #[inPtr b] w fun en w' => en = .returned (.agg #[.string (bb id), .int .i64 p, .int .i64 e, .bool c]) ∧ St W0 w' K (.inp b i4 :: L) := by
  obtain ⟨rb, hrb⟩ : ∃ b, w.heap.size = b := ⟨_, rfl⟩
  obtain ⟨eb, heb⟩ : ∃ b, rb + 1 = b := ⟨_, rfl⟩
  have g1 := (h.allocRaw #[.string ⟨#[]⟩, .int .i64 0, .int .i64 0, .bool false] 29).allocRaw #[.string ⟨#[]⟩, .int .i64 0, .int .i64 0, .bool false] 29
  simp only [World.size_alloc, hrb, heb] at g1
  have H := Lib.hid g1.p2
  have H1 := Lib.hid h1
  have H2 := Lib.hid h2
  have H3 := Lib.hid h3
  have H4 := Lib.hid h4
  have HI := Lib.hid hi
  have HR := Lib.hid hr
  have HL := Lib.hid hl
  clear h g1 h1 h2 h3 h4 hi hr hl
  go_enter Tryd.func17, Tryd.ntmps17
  go_wp2_with (first
    | (go_at_call 39; (with_reducible refine (blob_textV b _ _ id H1.out H.out).mono ?_); rintro e_ wn ⟨rfl, h⟩; have f0 := h.p1.rawFree 0; have g0 := h.p1.rawCell 0; simp at g0; have h := (show St W0 (wn.setCell ⟨eb, 0, none⟩ (.string (bb id))) K (.inp b i1 :: .raw eb #[.string (bb id), .int .i64 0, .int .i64 0, .bool false] 29 :: .raw rb #[.string ⟨#[]⟩, .int .i64 0, .int .i64 0, .bool false] 29 :: L) from (h.p1.rawSet 0 (.string (bb id))).p1); replace H := Lib.hid h; clear h)
    | (go_at_call 36; (with_reducible refine (txn_readWriter b _ _ _ p e H2.out H3.out H.out).mono ?_); rintro e_ wn ⟨rfl, h⟩; have f1 := h.p1.rawFree 1; have g1 := h.p1.rawCell 1; simp at g1; have f2 := h.p1.rawFree 2; have g2 := h.p1.rawCell 2; simp at g2; have h := (show St W0 ((wn.setCell ⟨eb, 1, none⟩ (.int .i64 p)).setCell ⟨eb, 2, none⟩ (.int .i64 e)) K (.inp b i3 :: .raw eb #[.string (bb id), .int .i64 p, .int .i64 e, .bool false] 29 :: .raw rb #[.string ⟨#[]⟩, .int .i64 0, .int .i64 0, .bool false] 29 :: L) from ((h.p1.rawSet 1 (.int .i64 p)).rawSet 2 (.int .i64 e)).p1); replace H := Lib.hid h; clear h)
    | (go_at_call 40; (with_reducible refine (s_bool b _ _ c H4.out H.out).mono ?_); rintro e_ wn ⟨rfl, h⟩; have f3 := h.p1.rawFree 3; have g3 := h.p1.rawCell 3; simp at g3; have h := (show St W0 (wn.setCell ⟨eb, 3, none⟩ (.bool c)) K (.inp b i4 :: .raw eb #[.string (bb id), .int .i64 p, .int .i64 e, .bool c] 29 :: .raw rb #[.string ⟨#[]⟩, .int .i64 0, .int .i64 0, .bool false] 29 :: L) from (h.p1.rawSet 3 (.bool c)).p1); have c0 := h.p1.rawCell 0; have c1 := h.p1.rawCell 1; have c2 := h.p1.rawCell 2; have c3 := h.p1.rawCell 3; simp at c0 c1 c2 c3; replace H := Lib.hid h; clear h)
    | (go_at_call 37; (with_reducible refine (whole_end b i4 id p e c HI.out HR.out HL.out H.out).mono ?_); rintro e_ wn ⟨rfl, h⟩; have c0 := h.p1.rawCell 0; have d0 := h.p2.rawCell 0; have r0 := h.p2.rawFree 0; have c1 := h.p1.rawCell 1; have d1 := h.p2.rawCell 1; have r1 := h.p2.rawFree 1; have c2 := h.p1.rawCell 2; have d2 := h.p2.rawCell 2; have r2 := h.p2.rawFree 2; have c3 := h.p1.rawCell 3; have d3 := h.p2.rawCell 3; have r3 := h.p2.rawFree 3; simp at c0 c1 c2 c3 d0 d1 d2 d3; replace H := Lib.hid h; clear h))
  have hz : St W0 _ _ (.raw rb #[.string (bb id), .int .i64 p, .int .i64 e, .bool c] 29 :: .inp b i4 :: .raw eb #[.string (bb id), .int .i64 p, .int .i64 e, .bool c] 29 :: L) := ((((H.out.p2).rawSet 0 _).rawSet 1 _).rawSet 2 _).rawSet 3 _
  refine bodyPost_ret (rc_cell_only rfl _ _ rb [.string (bb id), .int .i64 p, .int .i64 e, .bool c] _ rfl (rc_range hz) Tryd.underlying29 rfl (by kernel_rfl)) rfl ?_
  exact ⟨rfl, hz.drop.p1.drop⟩

end Go.Proofs.YthppodbjjfkmfaaDoor

/- Heads and bodies: what is called. -/
namespace Go.Proofs.YthppodbjjfkmfaaDoor
open Go.RowKit

theorem so_lenW (p : Nat) (B : Bs) {W0 w : World} {K : Know} {L : List Res} (h : St W0 w K (.out p ⟨B, 0⟩ :: L)) :
    Calls Tryd.prog 6 #[outPtr p] w fun en w' => en = .returned (.int .i64 B.length) ∧ St W0 w' K (.out p ⟨B, 0⟩ :: L) := so_len p ⟨B, 0⟩ h
theorem so_textW (p : Nat) (B : Bs) {W0 w : World} {K : Know} {L : List Res} (h : St W0 w K (.out p ⟨B, 0⟩ :: L)) :
    Calls Tryd.prog 11 #[outPtr p] w fun en w' => en = .returned (.tuple #[.string (bb B), .int .i64 0]) ∧ St W0 w' K (.out p ⟨B, 0⟩ :: L) := so_text p ⟨B, 0⟩ h
theorem so_textEW (p : Nat) (o : Bs) (r : Int) (h0 : r ≠ 0) {W0 w : World} {K : Know} {L : List Res} (h : St W0 w K (.out p ⟨o, r⟩ :: L)) :
    Calls Tryd.prog 11 #[outPtr p] w fun en w' => en = .returned (.tuple #[.string ⟨#[]⟩, .int .i64 r]) ∧ St W0 w' K (.out p ⟨o, r⟩ :: L) := by
  have h2 := so_text p ⟨o, r⟩ h
  unfold OutS.text at h2
  simp only [if_neg h0] at h2
  exact h2
theorem s_atW (p : Nat) (s : Bs) (n : Nat) {W0 w : World} {K : Know} {L : List Res} (h : St W0 w K (.inp p ⟨s, n, 0⟩ :: L)) :
    Calls Tryd.prog 14 #[inPtr p] w fun en w' => en = .returned (.int .i64 n) ∧ St W0 w' K (.inp p ⟨s, n, 0⟩ :: L) := s_at p ⟨s, n, 0⟩ h
theorem s_closeW (p : Nat) (s : Bs) {W0 w : World} {K : Know} {L : List Res} (h : St W0 w K (.inp p ⟨s, s.length, 0⟩ :: L)) :
    Calls Tryd.prog 16 #[inPtr p] w fun en w' => en = .returned (.int .i64 0) ∧ St W0 w' K (.inp p (InS.close ⟨s, s.length, 0⟩) :: L) := by
  have h2 := s_close p ⟨s, s.length, 0⟩ h
  rw [close_endW s] at h2
  exact h2
theorem rc26 {W0 w : World} {K : Know} {L : List Res} (hk : K.has Know.reqs) (h : St W0 w K L) :
    Calls Tryd.prog 4 #[.agg #[.int .i64 26, .int .i64 0, .int .i64 0, .bool false, .string ⟨#[]⟩]] w fun en w' => en = .returned (.int .i64 0) ∧ St W0 w' K L := req_check 26 0 0 false [] 0 (by kernel_rfl) (by decide) hk h
theorem rc261 {W0 w : World} {K : Know} {L : List Res} (hk : K.has Know.reqs) (h : St W0 w K L) :
    Calls Tryd.prog 4 #[.agg #[.int .i64 26, .int .i64 1, .int .i64 0, .bool false, .string ⟨#[]⟩]] w fun en w' => en = .returned (.int .i64 7) ∧ St W0 w' K L := req_check 26 1 0 false [] 7 (by kernel_rfl) (by decide) hk h

end Go.Proofs.YthppodbjjfkmfaaDoor

/- WholeTxns: too long, or no such head. -/
namespace Go.Proofs.YthppodbjjfkmfaaDoor
open Go.RowKit

set_option maxHeartbeats 12000000 in
set_option maxRecDepth 100000 in
theorem wt_1 (k v : Int) (n : Int) (u : Bool) (cd : Bs) (nl : Bool) (d : Bs) (tm p e : Int) (id : Bs) (p2 e2 : Int) (c : Bool) (hn : -9223372036854775808 ≤ n ∧ n < 9223372036854775808) (hl : 1000 < cd.length) {W0 w : World} {K : Know} {L : List Res} (hk : K.has Know.reqs) (h : St W0 w K L) :
    Calls Tryd.prog 3 #[.agg #[.int .i64 k, .int .i64 v, .int .i64 n, .bool u, .string (bb cd)], .agg #[.bool nl, .string (bb d), .int .i64 tm, .int .i64 p, .int .i64 e], .agg #[.string (bb id), .int .i64 p2, .int .i64 e2, .bool c]] w fun en w' => en = .returned (.bool true) ∧ Below W0.heap.size W0 w' := by
  obtain ⟨hb, hhb⟩ : ∃ b, w.heap.size = b := ⟨_, rfl⟩
  obtain ⟨bq, hbq⟩ : ∃ b, hb + 1 = b := ⟨_, rfl⟩
  obtain ⟨eq, heq⟩ : ∃ b, bq + 1 = b := ⟨_, rfl⟩
  have g1 := ((h.allocRaw #[.int .i64 k, .int .i64 v, .int .i64 n, .bool u, .string (bb cd)] 25).allocRaw #[.bool nl, .string (bb d), .int .i64 tm, .int .i64 p, .int .i64 e] 27).allocRaw #[.string (bb id), .int .i64 p2, .int .i64 e2, .bool c] 29
  simp only [World.size_alloc, hhb, hbq, heq] at g1
  have H := Lib.hid g1
  have HK := Lib.hid hk
  have HN := Lib.hid hn
  have l1 : 1000 < (cd.length : Int) := by omega
  clear h g1 hk hn hl
  go_enter Tryd.func3, Tryd.ntmps3
  go_wp2_with (first
    | (go_at_call 4; (with_reducible refine (rc26 HK.out H.out).mono ?_); rintro e_ wn ⟨rfl, h⟩; replace H := Lib.hid h; clear h)
    | (go_at_call 4; (with_reducible refine (rc261 HK.out H.out).mono ?_); rintro e_ wn ⟨rfl, h⟩; have z0 := h.rawCell 0; have z1 := h.rawCell 1; have z2 := h.rawCell 2; have z3 := h.rawCell 3; simp at z0 z1 z2 z3; have y0 := h.p1.rawCell 0; have y1 := h.p1.rawCell 1; have y2 := h.p1.rawCell 2; have y3 := h.p1.rawCell 3; have y4 := h.p1.rawCell 4; simp at y0 y1 y2 y3 y4; have x0 := h.p2.rawCell 0; have x1 := h.p2.rawCell 1; have x2 := h.p2.rawCell 2; have x3 := h.p2.rawCell 3; have x4 := h.p2.rawCell 4; simp at x0 x1 x2 x3 x4; replace H := Lib.hid h; clear h))
  go_ret
  exact ⟨rfl, H.out.below⟩

set_option maxHeartbeats 12000000 in
set_option maxRecDepth 100000 in
theorem wt_2 (k v : Int) (n : Int) (u : Bool) (cd : Bs) (nl : Bool) (d : Bs) (tm p e : Int) (id : Bs) (p2 e2 : Int) (c : Bool) (hn : -9223372036854775808 ≤ n ∧ n < 9223372036854775808) (hl : cd.length ≤ 1000) (hl2 : 1000 < d.length) {W0 w : World} {K : Know} {L : List Res} (hk : K.has Know.reqs) (h : St W0 w K L) :
    Calls Tryd.prog 3 #[.agg #[.int .i64 k, .int .i64 v, .int .i64 n, .bool u, .string (bb cd)], .agg #[.bool nl, .string (bb d), .int .i64 tm, .int .i64 p, .int .i64 e], .agg #[.string (bb id), .int .i64 p2, .int .i64 e2, .bool c]] w fun en w' => en = .returned (.bool true) ∧ Below W0.heap.size W0 w' := by
  obtain ⟨hb, hhb⟩ : ∃ b, w.heap.size = b := ⟨_, rfl⟩
  obtain ⟨bq, hbq⟩ : ∃ b, hb + 1 = b := ⟨_, rfl⟩
  obtain ⟨eq, heq⟩ : ∃ b, bq + 1 = b := ⟨_, rfl⟩
  have g1 := ((h.allocRaw #[.int .i64 k, .int .i64 v, .int .i64 n, .bool u, .string (bb cd)] 25).allocRaw #[.bool nl, .string (bb d), .int .i64 tm, .int .i64 p, .int .i64 e] 27).allocRaw #[.string (bb id), .int .i64 p2, .int .i64 e2, .bool c] 29
  simp only [World.size_alloc, hhb, hbq, heq] at g1
  have H := Lib.hid g1
  have HK := Lib.hid hk
  have HN := Lib.hid hn
  have l1 : ¬ 1000 < (cd.length : Int) := by omega
  have l2 : 1000 < (d.length : Int) := by omega
  clear h g1 hk hn hl hl2
  go_enter Tryd.func3, Tryd.ntmps3
  go_wp2_with (first
    | (go_at_call 4; (with_reducible refine (rc26 HK.out H.out).mono ?_); rintro e_ wn ⟨rfl, h⟩; replace H := Lib.hid h; clear h)
    | (go_at_call 4; (with_reducible refine (rc261 HK.out H.out).mono ?_); rintro e_ wn ⟨rfl, h⟩; have z0 := h.rawCell 0; have z1 := h.rawCell 1; have z2 := h.rawCell 2; have z3 := h.rawCell 3; simp at z0 z1 z2 z3; have y0 := h.p1.rawCell 0; have y1 := h.p1.rawCell 1; have y2 := h.p1.rawCell 2; have y3 := h.p1.rawCell 3; have y4 := h.p1.rawCell 4; simp at y0 y1 y2 y3 y4; have x0 := h.p2.rawCell 0; have x1 := h.p2.rawCell 1; have x2 := h.p2.rawCell 2; have x3 := h.p2.rawCell 3; have x4 := h.p2.rawCell 4; simp at x0 x1 x2 x3 x4; replace H := Lib.hid h; clear h))
  go_ret
  exact ⟨rfl, H.out.below⟩

set_option maxHeartbeats 12000000 in
set_option maxRecDepth 100000 in
theorem wt_3 (k v : Int) (n : Int) (u : Bool) (cd : Bs) (nl : Bool) (d : Bs) (tm p e : Int) (id : Bs) (p2 e2 : Int) (c : Bool) (hn : -9223372036854775808 ≤ n ∧ n < 9223372036854775808) (hl : cd.length ≤ 1000) (hl2 : d.length ≤ 1000) (hl3 : 1000 < id.length) {W0 w : World} {K : Know} {L : List Res} (hk : K.has Know.reqs) (h : St W0 w K L) :
    Calls Tryd.prog 3 #[.agg #[.int .i64 k, .int .i64 v, .int .i64 n, .bool u, .string (bb cd)], .agg #[.bool nl, .string (bb d), .int .i64 tm, .int .i64 p, .int .i64 e], .agg #[.string (bb id), .int .i64 p2, .int .i64 e2, .bool c]] w fun en w' => en = .returned (.bool true) ∧ Below W0.heap.size W0 w' := by
  obtain ⟨hb, hhb⟩ : ∃ b, w.heap.size = b := ⟨_, rfl⟩
  obtain ⟨bq, hbq⟩ : ∃ b, hb + 1 = b := ⟨_, rfl⟩
  obtain ⟨eq, heq⟩ : ∃ b, bq + 1 = b := ⟨_, rfl⟩
  have g1 := ((h.allocRaw #[.int .i64 k, .int .i64 v, .int .i64 n, .bool u, .string (bb cd)] 25).allocRaw #[.bool nl, .string (bb d), .int .i64 tm, .int .i64 p, .int .i64 e] 27).allocRaw #[.string (bb id), .int .i64 p2, .int .i64 e2, .bool c] 29
  simp only [World.size_alloc, hhb, hbq, heq] at g1
  have H := Lib.hid g1
  have HK := Lib.hid hk
  have HN := Lib.hid hn
  have l1 : ¬ 1000 < (cd.length : Int) := by omega
  have l2 : ¬ 1000 < (d.length : Int) := by omega
  have l3 : 1000 < (id.length : Int) := by omega
  clear h g1 hk hn hl hl2 hl3
  go_enter Tryd.func3, Tryd.ntmps3
  go_wp2_with (first
    | (go_at_call 4; (with_reducible refine (rc26 HK.out H.out).mono ?_); rintro e_ wn ⟨rfl, h⟩; replace H := Lib.hid h; clear h)
    | (go_at_call 4; (with_reducible refine (rc261 HK.out H.out).mono ?_); rintro e_ wn ⟨rfl, h⟩; have z0 := h.rawCell 0; have z1 := h.rawCell 1; have z2 := h.rawCell 2; have z3 := h.rawCell 3; simp at z0 z1 z2 z3; have y0 := h.p1.rawCell 0; have y1 := h.p1.rawCell 1; have y2 := h.p1.rawCell 2; have y3 := h.p1.rawCell 3; have y4 := h.p1.rawCell 4; simp at y0 y1 y2 y3 y4; have x0 := h.p2.rawCell 0; have x1 := h.p2.rawCell 1; have x2 := h.p2.rawCell 2; have x3 := h.p2.rawCell 3; have x4 := h.p2.rawCell 4; simp at x0 x1 x2 x3 x4; replace H := Lib.hid h; clear h))
  go_ret
  exact ⟨rfl, H.out.below⟩

set_option maxHeartbeats 12000000 in
set_option maxRecDepth 100000 in
theorem wt_4 (k v : Int) (n : Int) (u : Bool) (cd : Bs) (nl : Bool) (d : Bs) (tm p e : Int) (id : Bs) (p2 e2 : Int) (c : Bool) (hn : -9223372036854775808 ≤ n ∧ n < 9223372036854775808) (hl : cd.length ≤ 1000) (hl2 : d.length ≤ 1000) (hl3 : id.length ≤ 1000) (q : Int) (hq : headErr ⟨k, v, n, ⟨u, cd⟩⟩ = q) (h0 : q ≠ 0) {W0 w : World} {K : Know} {L : List Res} (hk : K.has Know.reqs) (h : St W0 w K L) :
    Calls Tryd.prog 3 #[.agg #[.int .i64 k, .int .i64 v, .int .i64 n, .bool u, .string (bb cd)], .agg #[.bool nl, .string (bb d), .int .i64 tm, .int .i64 p, .int .i64 e], .agg #[.string (bb id), .int .i64 p2, .int .i64 e2, .bool c]] w fun en w' => en = .returned (.bool true) ∧ Below W0.heap.size W0 w' := by
  obtain ⟨hb, hhb⟩ : ∃ b, w.heap.size = b := ⟨_, rfl⟩
  obtain ⟨bq, hbq⟩ : ∃ b, hb + 1 = b := ⟨_, rfl⟩
  obtain ⟨eq, heq⟩ : ∃ b, bq + 1 = b := ⟨_, rfl⟩
  have g1 := ((h.allocRaw #[.int .i64 k, .int .i64 v, .int .i64 n, .bool u, .string (bb cd)] 25).allocRaw #[.bool nl, .string (bb d), .int .i64 tm, .int .i64 p, .int .i64 e] 27).allocRaw #[.string (bb id), .int .i64 p2, .int .i64 e2, .bool c] 29
  simp only [World.size_alloc, hhb, hbq, heq] at g1
  have H := Lib.hid g1
  have HK := Lib.hid hk
  have HN := Lib.hid hn
  have l1 : ¬ 1000 < (cd.length : Int) := by omega
  have l2 : ¬ 1000 < (d.length : Int) := by omega
  have l3 : ¬ 1000 < (id.length : Int) := by omega
  have HL1 := Lib.hid hl
  have HL2 := Lib.hid hl2
  have HL3 := Lib.hid hl3
  have HQ := Lib.hid hq
  have g0 : (q == 0) = false := by rw [beq_eq_false_iff_ne]; exact h0
  have g2 : (q != 0) = true := by simp [bne, g0]
  clear h g1 hk hn hl hl2 hl3 hq h0
  go_enter Tryd.func3, Tryd.ntmps3
  go_wp2_with (first
    | (go_at_call 4; (with_reducible refine (rc26 HK.out H.out).mono ?_); rintro e_ wn ⟨rfl, h⟩; replace H := Lib.hid h; clear h)
    | (go_at_call 4; (with_reducible refine (rc261 HK.out H.out).mono ?_); rintro e_ wn ⟨rfl, h⟩; have z0 := h.rawCell 0; have z1 := h.rawCell 1; have z2 := h.rawCell 2; have z3 := h.rawCell 3; simp at z0 z1 z2 z3; have y0 := h.p1.rawCell 0; have y1 := h.p1.rawCell 1; have y2 := h.p1.rawCell 2; have y3 := h.p1.rawCell 3; have y4 := h.p1.rawCell 4; simp at y0 y1 y2 y3 y4; have x0 := h.p2.rawCell 0; have x1 := h.p2.rawCell 1; have x2 := h.p2.rawCell 2; have x3 := h.p2.rawCell 3; have x4 := h.p2.rawCell 4; simp at x0 x1 x2 x3 x4; replace H := Lib.hid h; clear h)
    | (go_at_call 4; clear z0 z1 z2 z3 y0 y1 y2 y3 y4 x0 x1 x2 x3 x4; (with_reducible refine (req_check k v n u cd q HQ.out HN.out HK.out H.out).mono ?_); rintro e_ wn ⟨rfl, h⟩; have z0 := h.rawCell 0; have z1 := h.rawCell 1; have z2 := h.rawCell 2; have z3 := h.rawCell 3; simp at z0 z1 z2 z3; have y0 := h.p1.rawCell 0; have y1 := h.p1.rawCell 1; have y2 := h.p1.rawCell 2; have y3 := h.p1.rawCell 3; have y4 := h.p1.rawCell 4; simp at y0 y1 y2 y3 y4; have x0 := h.p2.rawCell 0; have x1 := h.p2.rawCell 1; have x2 := h.p2.rawCell 2; have x3 := h.p2.rawCell 3; have x4 := h.p2.rawCell 4; simp at x0 x1 x2 x3 x4; replace H := Lib.hid h; clear h))
  go_ret
  exact ⟨rfl, H.out.below⟩

set_option maxHeartbeats 12000000 in
set_option maxRecDepth 100000 in
theorem wt_5 (k v : Int) (n : Int) (u : Bool) (cd : Bs) (nl : Bool) (d : Bs) (tm p e : Int) (id : Bs) (p2 e2 : Int) (c : Bool) (hn : -9223372036854775808 ≤ n ∧ n < 9223372036854775808) (hl : cd.length ≤ 1000) (hl2 : d.length ≤ 1000) (hl3 : id.length ≤ 1000) (hq : headErr ⟨k, v, n, ⟨u, cd⟩⟩ = 0) (h22 : k ≠ 22) (h26 : k ≠ 26) {W0 w : World} {K : Know} {L : List Res} (hk : K.has Know.reqs) (h : St W0 w K L) :
    Calls Tryd.prog 3 #[.agg #[.int .i64 k, .int .i64 v, .int .i64 n, .bool u, .string (bb cd)], .agg #[.bool nl, .string (bb d), .int .i64 tm, .int .i64 p, .int .i64 e], .agg #[.string (bb id), .int .i64 p2, .int .i64 e2, .bool c]] w fun en w' => en = .returned (.bool true) ∧ Below W0.heap.size W0 w' := by
  obtain ⟨hb, hhb⟩ : ∃ b, w.heap.size = b := ⟨_, rfl⟩
  obtain ⟨bq, hbq⟩ : ∃ b, hb + 1 = b := ⟨_, rfl⟩
  obtain ⟨eq, heq⟩ : ∃ b, bq + 1 = b := ⟨_, rfl⟩
  have g1 := ((h.allocRaw #[.int .i64 k, .int .i64 v, .int .i64 n, .bool u, .string (bb cd)] 25).allocRaw #[.bool nl, .string (bb d), .int .i64 tm, .int .i64 p, .int .i64 e] 27).allocRaw #[.string (bb id), .int .i64 p2, .int .i64 e2, .bool c] 29
  simp only [World.size_alloc, hhb, hbq, heq] at g1
  have H := Lib.hid g1
  have HK := Lib.hid hk
  have HN := Lib.hid hn
  have l1 : ¬ 1000 < (cd.length : Int) := by omega
  have l2 : ¬ 1000 < (d.length : Int) := by omega
  have l3 : ¬ 1000 < (id.length : Int) := by omega
  have HL1 := Lib.hid hl
  have HL2 := Lib.hid hl2
  have HL3 := Lib.hid hl3
  have HQ := Lib.hid hq
  have g0 : (k == 22) = false := by rw [beq_eq_false_iff_ne]; exact h22
  have g2 : (k != 22) = true := by simp [bne, g0]
  have g3 : (k == 26) = false := by rw [beq_eq_false_iff_ne]; exact h26
  have g4 : (k != 26) = true := by simp [bne, g3]
  clear h g1 hk hn hl hl2 hl3 hq h22 h26
  go_enter Tryd.func3, Tryd.ntmps3
  go_wp2_with (first
    | (go_at_call 4; (with_reducible refine (rc26 HK.out H.out).mono ?_); rintro e_ wn ⟨rfl, h⟩; replace H := Lib.hid h; clear h)
    | (go_at_call 4; (with_reducible refine (rc261 HK.out H.out).mono ?_); rintro e_ wn ⟨rfl, h⟩; have z0 := h.rawCell 0; have z1 := h.rawCell 1; have z2 := h.rawCell 2; have z3 := h.rawCell 3; simp at z0 z1 z2 z3; have y0 := h.p1.rawCell 0; have y1 := h.p1.rawCell 1; have y2 := h.p1.rawCell 2; have y3 := h.p1.rawCell 3; have y4 := h.p1.rawCell 4; simp at y0 y1 y2 y3 y4; have x0 := h.p2.rawCell 0; have x1 := h.p2.rawCell 1; have x2 := h.p2.rawCell 2; have x3 := h.p2.rawCell 3; have x4 := h.p2.rawCell 4; simp at x0 x1 x2 x3 x4; replace H := Lib.hid h; clear h)
    | (go_at_call 4; clear z0 z1 z2 z3 y0 y1 y2 y3 y4 x0 x1 x2 x3 x4; (with_reducible refine (req_check k v n u cd 0 HQ.out HN.out HK.out H.out).mono ?_); rintro e_ wn ⟨rfl, h⟩; have z0 := h.rawCell 0; have z1 := h.rawCell 1; have z2 := h.rawCell 2; have z3 := h.rawCell 3; simp at z0 z1 z2 z3; have y0 := h.p1.rawCell 0; have y1 := h.p1.rawCell 1; have y2 := h.p1.rawCell 2; have y3 := h.p1.rawCell 3; have y4 := h.p1.rawCell 4; simp at y0 y1 y2 y3 y4; have x0 := h.p2.rawCell 0; have x1 := h.p2.rawCell 1; have x2 := h.p2.rawCell 2; have x3 := h.p2.rawCell 3; have x4 := h.p2.rawCell 4; simp at x0 x1 x2 x3 x4; replace H := Lib.hid h; clear h))
  go_ret
  exact ⟨rfl, H.out.below⟩

end Go.Proofs.YthppodbjjfkmfaaDoor

/- WholeTxns: bodies that may not be. -/
namespace Go.Proofs.YthppodbjjfkmfaaDoor
open Go.RowKit

set_option maxHeartbeats 12000000 in
set_option maxRecDepth 100000 in
theorem wt_22b (v : Int) (n : Int) (u : Bool) (cd : Bs) (nl : Bool) (d : Bs) (tm p e : Int) (id : Bs) (p2 e2 : Int) (c : Bool) (hn : -9223372036854775808 ≤ n ∧ n < 9223372036854775808) (hl : cd.length ≤ 1000) (hl2 : d.length ≤ 1000) (hl3 : id.length ≤ 1000) (hq : headErr ⟨22, v, n, ⟨u, cd⟩⟩ = 0) (hR : HeadS.R ⟨22, v, n, ⟨u, cd⟩⟩) (r2 : Int) (hr2 : chkW id p2 e2 = r2) (r : Int) (hE : begE v nl d tm p e = r) (h0 : r ≠ 0) {W0 w : World} {K : Know} {L : List Res} (hk : K.has Know.reqs) (h : St W0 w K L) :
    Calls Tryd.prog 3 #[.agg #[.int .i64 22, .int .i64 v, .int .i64 n, .bool u, .string (bb cd)], .agg #[.bool nl, .string (bb d), .int .i64 tm, .int .i64 p, .int .i64 e], .agg #[.string (bb id), .int .i64 p2, .int .i64 e2, .bool c]] w fun en w' => en = .returned (.bool true) ∧ Below W0.heap.size W0 w' := by
  obtain ⟨hb, hhb⟩ : ∃ b, w.heap.size = b := ⟨_, rfl⟩
  obtain ⟨bq, hbq⟩ : ∃ b, hb + 1 = b := ⟨_, rfl⟩
  obtain ⟨eq, heq⟩ : ∃ b, bq + 1 = b := ⟨_, rfl⟩
  have g1 := ((h.allocRaw #[.int .i64 22, .int .i64 v, .int .i64 n, .bool u, .string (bb cd)] 25).allocRaw #[.bool nl, .string (bb d), .int .i64 tm, .int .i64 p, .int .i64 e] 27).allocRaw #[.string (bb id), .int .i64 p2, .int .i64 e2, .bool c] 29
  simp only [World.size_alloc, hhb, hbq, heq] at g1
  have H := Lib.hid g1
  have HK := Lib.hid hk
  have HN := Lib.hid hn
  have l1 : ¬ 1000 < (cd.length : Int) := by omega
  have l2 : ¬ 1000 < (d.length : Int) := by omega
  have l3 : ¬ 1000 < (id.length : Int) := by omega
  have HL1 := Lib.hid hl
  have HL2 := Lib.hid hl2
  have HL3 := Lib.hid hl3
  have HQ := Lib.hid hq
  have HR := Lib.hid hR
  have HR2 := Lib.hid hr2
  have hlen := head_lenW ⟨22, v, n, ⟨u, cd⟩⟩ hl
  obtain ⟨B, hB⟩ : ∃ B, encHead ⟨22, v, n, ⟨u, cd⟩⟩ = B := ⟨_, rfl⟩
  have hx := (head_put _ hq).1
  rw [hB] at hx hlen
  have HX := Lib.hid hx
  have HBL := Lib.hid (show B.length ≤ 1000000 by omega)
  have HDL := Lib.hid (show d.length ≤ 140737488355328 by omega)
  have HIL := Lib.hid (show id.length ≤ 140737488355328 by omega)
  have H0 := Lib.hid h0
  have g0 : (r == 0) = false := by rw [beq_eq_false_iff_ne]; exact h0
  have g2 : (r != 0) = true := by simp [bne, g0]
  have g3 : (r == r) = true := beq_self_eq_true _
  have HE := Lib.hid hE
  clear h g1 hk hn hl hl2 hl3 hq hR hr2 hB hx hlen h0 hE
  go_enter Tryd.func3, Tryd.ntmps3
  go_wp2_with (first
    | (go_at_call 4; (with_reducible refine (rc26 HK.out H.out).mono ?_); rintro e_ wn ⟨rfl, h⟩; replace H := Lib.hid h; clear h)
    | (go_at_call 4; (with_reducible refine (rc261 HK.out H.out).mono ?_); rintro e_ wn ⟨rfl, h⟩; have z0 := h.rawCell 0; have z1 := h.rawCell 1; have z2 := h.rawCell 2; have z3 := h.rawCell 3; simp at z0 z1 z2 z3; have y0 := h.p1.rawCell 0; have y1 := h.p1.rawCell 1; have y2 := h.p1.rawCell 2; have y3 := h.p1.rawCell 3; have y4 := h.p1.rawCell 4; simp at y0 y1 y2 y3 y4; have x0 := h.p2.rawCell 0; have x1 := h.p2.rawCell 1; have x2 := h.p2.rawCell 2; have x3 := h.p2.rawCell 3; have x4 := h.p2.rawCell 4; simp at x0 x1 x2 x3 x4; replace H := Lib.hid h; clear h)
    | (go_at_call 4; clear z0 z1 z2 z3 y0 y1 y2 y3 y4 x0 x1 x2 x3 x4; (with_reducible refine (req_check 22 v n u cd 0 HQ.out HN.out HK.out H.out).mono ?_); rintro e_ wn ⟨rfl, h⟩; have z0 := h.rawCell 0; have z1 := h.rawCell 1; have z2 := h.rawCell 2; have z3 := h.rawCell 3; simp at z0 z1 z2 z3; have y0 := h.p1.rawCell 0; have y1 := h.p1.rawCell 1; have y2 := h.p1.rawCell 2; have y3 := h.p1.rawCell 3; have y4 := h.p1.rawCell 4; simp at y0 y1 y2 y3 y4; have x0 := h.p2.rawCell 0; have x1 := h.p2.rawCell 1; have x2 := h.p2.rawCell 2; have x3 := h.p2.rawCell 3; have x4 := h.p2.rawCell 4; simp at x0 x1 x2 x3 x4; obtain ⟨po, hpo⟩ : ∃ b, wn.heap.size = b := ⟨_, rfl⟩; replace h := h.allocOut; rw [hpo] at h; have z0 := h.p1.rawCell 0; have z1 := h.p1.rawCell 1; have z2 := h.p1.rawCell 2; have z3 := h.p1.rawCell 3; simp at z0 z1 z2 z3; have y0 := h.p2.rawCell 0; have y1 := h.p2.rawCell 1; have y2 := h.p2.rawCell 2; have y3 := h.p2.rawCell 3; have y4 := h.p2.rawCell 4; simp at y0 y1 y2 y3 y4; have x0 := h.p3.rawCell 0; have x1 := h.p3.rawCell 1; have x2 := h.p3.rawCell 2; have x3 := h.p3.rawCell 3; have x4 := h.p3.rawCell 4; simp at x0 x1 x2 x3 x4; replace H := Lib.hid h; clear h)
    | (go_at_call 5; clear z0 z1 z2 z3 y0 y1 y2 y3 y4 x0 x1 x2 x3 x4; (with_reducible refine (req_write5 po 22 v n u cd _ HX.out HR.out HK.out H.out).mono ?_); rintro e_ wn ⟨rfl, h⟩; have z0 := h.p1.rawCell 0; have z1 := h.p1.rawCell 1; have z2 := h.p1.rawCell 2; have z3 := h.p1.rawCell 3; simp at z0 z1 z2 z3; have y0 := h.p2.rawCell 0; have y1 := h.p2.rawCell 1; have y2 := h.p2.rawCell 2; have y3 := h.p2.rawCell 3; have y4 := h.p2.rawCell 4; simp at y0 y1 y2 y3 y4; have x0 := h.p3.rawCell 0; have x1 := h.p3.rawCell 1; have x2 := h.p3.rawCell 2; have x3 := h.p3.rawCell 3; have x4 := h.p3.rawCell 4; simp at x0 x1 x2 x3 x4; replace H := Lib.hid h; clear h)
    | (go_at_call 6; clear z0 z1 z2 z3 y0 y1 y2 y3 y4 x0 x1 x2 x3 x4; (with_reducible refine (so_lenW po B H.out).mono ?_); rintro e_ wn ⟨rfl, h⟩; have z0 := h.p1.rawCell 0; have z1 := h.p1.rawCell 1; have z2 := h.p1.rawCell 2; have z3 := h.p1.rawCell 3; simp at z0 z1 z2 z3; have y0 := h.p2.rawCell 0; have y1 := h.p2.rawCell 1; have y2 := h.p2.rawCell 2; have y3 := h.p2.rawCell 3; have y4 := h.p2.rawCell 4; simp at y0 y1 y2 y3 y4; have x0 := h.p3.rawCell 0; have x1 := h.p3.rawCell 1; have x2 := h.p3.rawCell 2; have x3 := h.p3.rawCell 3; have x4 := h.p3.rawCell 4; simp at x0 x1 x2 x3 x4; replace H := Lib.hid h; clear h)
    | (go_at_call 7; clear z0 z1 z2 z3 y0 y1 y2 y3 y4 x0 x1 x2 x3 x4; (with_reducible refine (end_check id p2 e2 c _ HR2.out HIL.out H.out).mono ?_); rintro e_ wn ⟨rfl, h⟩; have z0 := h.p1.rawCell 0; have z1 := h.p1.rawCell 1; have z2 := h.p1.rawCell 2; have z3 := h.p1.rawCell 3; simp at z0 z1 z2 z3; have y0 := h.p2.rawCell 0; have y1 := h.p2.rawCell 1; have y2 := h.p2.rawCell 2; have y3 := h.p2.rawCell 3; have y4 := h.p2.rawCell 4; simp at y0 y1 y2 y3 y4; have x0 := h.p3.rawCell 0; have x1 := h.p3.rawCell 1; have x2 := h.p3.rawCell 2; have x3 := h.p3.rawCell 3; have x4 := h.p3.rawCell 4; simp at x0 x1 x2 x3 x4; replace H := Lib.hid h; clear h)
    | (go_at_call 8; clear z0 z1 z2 z3 y0 y1 y2 y3 y4 x0 x1 x2 x3 x4; (with_reducible refine (beg_write_bad po B r v nl d tm p e HE.out H0.out HDL.out H.out).mono ?_); rintro e_ wn ⟨rfl, h⟩; have z0 := h.p1.rawCell 0; have z1 := h.p1.rawCell 1; have z2 := h.p1.rawCell 2; have z3 := h.p1.rawCell 3; simp at z0 z1 z2 z3; have y0 := h.p2.rawCell 0; have y1 := h.p2.rawCell 1; have y2 := h.p2.rawCell 2; have y3 := h.p2.rawCell 3; have y4 := h.p2.rawCell 4; simp at y0 y1 y2 y3 y4; have x0 := h.p3.rawCell 0; have x1 := h.p3.rawCell 1; have x2 := h.p3.rawCell 2; have x3 := h.p3.rawCell 3; have x4 := h.p3.rawCell 4; simp at x0 x1 x2 x3 x4; replace H := Lib.hid h; clear h)
    | (go_at_call 9; clear z0 z1 z2 z3 y0 y1 y2 y3 y4 x0 x1 x2 x3 x4; (with_reducible refine (beg_check v nl d tm p e _ HE.out HDL.out H.out).mono ?_); rintro e_ wn ⟨rfl, h⟩; have z0 := h.p1.rawCell 0; have z1 := h.p1.rawCell 1; have z2 := h.p1.rawCell 2; have z3 := h.p1.rawCell 3; simp at z0 z1 z2 z3; have y0 := h.p2.rawCell 0; have y1 := h.p2.rawCell 1; have y2 := h.p2.rawCell 2; have y3 := h.p2.rawCell 3; have y4 := h.p2.rawCell 4; simp at y0 y1 y2 y3 y4; have x0 := h.p3.rawCell 0; have x1 := h.p3.rawCell 1; have x2 := h.p3.rawCell 2; have x3 := h.p3.rawCell 3; have x4 := h.p3.rawCell 4; simp at x0 x1 x2 x3 x4; replace H := Lib.hid h; clear h)
    | (go_at_call 11; (with_reducible refine (so_textEW po B r H0.out H.out).mono ?_); rintro e_ wn ⟨rfl, h⟩; replace H := Lib.hid h; clear h))
  go_ret
  exact ⟨rfl, H.out.below⟩

set_option maxHeartbeats 12000000 in
set_option maxRecDepth 100000 in
theorem wt_26b (v : Int) (n : Int) (u : Bool) (cd : Bs) (nl : Bool) (d : Bs) (tm p e : Int) (id : Bs) (p2 e2 : Int) (c : Bool) (hn : -9223372036854775808 ≤ n ∧ n < 9223372036854775808) (hl : cd.length ≤ 1000) (hl2 : d.length ≤ 1000) (hl3 : id.length ≤ 1000) (hq : headErr ⟨26, v, n, ⟨u, cd⟩⟩ = 0) (hR : HeadS.R ⟨26, v, n, ⟨u, cd⟩⟩) (r : Int) (hr2 : chkW id p2 e2 = r) (h0 : r ≠ 0) {W0 w : World} {K : Know} {L : List Res} (hk : K.has Know.reqs) (h : St W0 w K L) :
    Calls Tryd.prog 3 #[.agg #[.int .i64 26, .int .i64 v, .int .i64 n, .bool u, .string (bb cd)], .agg #[.bool nl, .string (bb d), .int .i64 tm, .int .i64 p, .int .i64 e], .agg #[.string (bb id), .int .i64 p2, .int .i64 e2, .bool c]] w fun en w' => en = .returned (.bool true) ∧ Below W0.heap.size W0 w' := by
  obtain ⟨hb, hhb⟩ : ∃ b, w.heap.size = b := ⟨_, rfl⟩
  obtain ⟨bq, hbq⟩ : ∃ b, hb + 1 = b := ⟨_, rfl⟩
  obtain ⟨eq, heq⟩ : ∃ b, bq + 1 = b := ⟨_, rfl⟩
  have g1 := ((h.allocRaw #[.int .i64 26, .int .i64 v, .int .i64 n, .bool u, .string (bb cd)] 25).allocRaw #[.bool nl, .string (bb d), .int .i64 tm, .int .i64 p, .int .i64 e] 27).allocRaw #[.string (bb id), .int .i64 p2, .int .i64 e2, .bool c] 29
  simp only [World.size_alloc, hhb, hbq, heq] at g1
  have H := Lib.hid g1
  have HK := Lib.hid hk
  have HN := Lib.hid hn
  have l1 : ¬ 1000 < (cd.length : Int) := by omega
  have l2 : ¬ 1000 < (d.length : Int) := by omega
  have l3 : ¬ 1000 < (id.length : Int) := by omega
  have HL1 := Lib.hid hl
  have HL2 := Lib.hid hl2
  have HL3 := Lib.hid hl3
  have HQ := Lib.hid hq
  have HR := Lib.hid hR
  have HR2 := Lib.hid hr2
  have hlen := head_lenW ⟨26, v, n, ⟨u, cd⟩⟩ hl
  obtain ⟨B, hB⟩ : ∃ B, encHead ⟨26, v, n, ⟨u, cd⟩⟩ = B := ⟨_, rfl⟩
  have hx := (head_put _ hq).1
  rw [hB] at hx hlen
  have HX := Lib.hid hx
  have HBL := Lib.hid (show B.length ≤ 1000000 by omega)
  have HDL := Lib.hid (show d.length ≤ 140737488355328 by omega)
  have HIL := Lib.hid (show id.length ≤ 140737488355328 by omega)
  have H0 := Lib.hid h0
  have g0 : (r == 0) = false := by rw [beq_eq_false_iff_ne]; exact h0
  have g2 : (r != 0) = true := by simp [bne, g0]
  have g3 : (r == r) = true := beq_self_eq_true _
  clear h g1 hk hn hl hl2 hl3 hq hR hr2 hB hx hlen h0
  go_enter Tryd.func3, Tryd.ntmps3
  go_wp2_with (first
    | (go_at_call 4; (with_reducible refine (rc26 HK.out H.out).mono ?_); rintro e_ wn ⟨rfl, h⟩; replace H := Lib.hid h; clear h)
    | (go_at_call 4; (with_reducible refine (rc261 HK.out H.out).mono ?_); rintro e_ wn ⟨rfl, h⟩; have z0 := h.rawCell 0; have z1 := h.rawCell 1; have z2 := h.rawCell 2; have z3 := h.rawCell 3; simp at z0 z1 z2 z3; have y0 := h.p1.rawCell 0; have y1 := h.p1.rawCell 1; have y2 := h.p1.rawCell 2; have y3 := h.p1.rawCell 3; have y4 := h.p1.rawCell 4; simp at y0 y1 y2 y3 y4; have x0 := h.p2.rawCell 0; have x1 := h.p2.rawCell 1; have x2 := h.p2.rawCell 2; have x3 := h.p2.rawCell 3; have x4 := h.p2.rawCell 4; simp at x0 x1 x2 x3 x4; replace H := Lib.hid h; clear h)
    | (go_at_call 4; clear z0 z1 z2 z3 y0 y1 y2 y3 y4 x0 x1 x2 x3 x4; (with_reducible refine (req_check 26 v n u cd 0 HQ.out HN.out HK.out H.out).mono ?_); rintro e_ wn ⟨rfl, h⟩; have z0 := h.rawCell 0; have z1 := h.rawCell 1; have z2 := h.rawCell 2; have z3 := h.rawCell 3; simp at z0 z1 z2 z3; have y0 := h.p1.rawCell 0; have y1 := h.p1.rawCell 1; have y2 := h.p1.rawCell 2; have y3 := h.p1.rawCell 3; have y4 := h.p1.rawCell 4; simp at y0 y1 y2 y3 y4; have x0 := h.p2.rawCell 0; have x1 := h.p2.rawCell 1; have x2 := h.p2.rawCell 2; have x3 := h.p2.rawCell 3; have x4 := h.p2.rawCell 4; simp at x0 x1 x2 x3 x4; obtain ⟨po, hpo⟩ : ∃ b, wn.heap.size = b := ⟨_, rfl⟩; replace h := h.allocOut; rw [hpo] at h; have z0 := h.p1.rawCell 0; have z1 := h.p1.rawCell 1; have z2 := h.p1.rawCell 2; have z3 := h.p1.rawCell 3; simp at z0 z1 z2 z3; have y0 := h.p2.rawCell 0; have y1 := h.p2.rawCell 1; have y2 := h.p2.rawCell 2; have y3 := h.p2.rawCell 3; have y4 := h.p2.rawCell 4; simp at y0 y1 y2 y3 y4; have x0 := h.p3.rawCell 0; have x1 := h.p3.rawCell 1; have x2 := h.p3.rawCell 2; have x3 := h.p3.rawCell 3; have x4 := h.p3.rawCell 4; simp at x0 x1 x2 x3 x4; replace H := Lib.hid h; clear h)
    | (go_at_call 5; clear z0 z1 z2 z3 y0 y1 y2 y3 y4 x0 x1 x2 x3 x4; (with_reducible refine (req_write5 po 26 v n u cd _ HX.out HR.out HK.out H.out).mono ?_); rintro e_ wn ⟨rfl, h⟩; have z0 := h.p1.rawCell 0; have z1 := h.p1.rawCell 1; have z2 := h.p1.rawCell 2; have z3 := h.p1.rawCell 3; simp at z0 z1 z2 z3; have y0 := h.p2.rawCell 0; have y1 := h.p2.rawCell 1; have y2 := h.p2.rawCell 2; have y3 := h.p2.rawCell 3; have y4 := h.p2.rawCell 4; simp at y0 y1 y2 y3 y4; have x0 := h.p3.rawCell 0; have x1 := h.p3.rawCell 1; have x2 := h.p3.rawCell 2; have x3 := h.p3.rawCell 3; have x4 := h.p3.rawCell 4; simp at x0 x1 x2 x3 x4; replace H := Lib.hid h; clear h)
    | (go_at_call 6; clear z0 z1 z2 z3 y0 y1 y2 y3 y4 x0 x1 x2 x3 x4; (with_reducible refine (so_lenW po B H.out).mono ?_); rintro e_ wn ⟨rfl, h⟩; have z0 := h.p1.rawCell 0; have z1 := h.p1.rawCell 1; have z2 := h.p1.rawCell 2; have z3 := h.p1.rawCell 3; simp at z0 z1 z2 z3; have y0 := h.p2.rawCell 0; have y1 := h.p2.rawCell 1; have y2 := h.p2.rawCell 2; have y3 := h.p2.rawCell 3; have y4 := h.p2.rawCell 4; simp at y0 y1 y2 y3 y4; have x0 := h.p3.rawCell 0; have x1 := h.p3.rawCell 1; have x2 := h.p3.rawCell 2; have x3 := h.p3.rawCell 3; have x4 := h.p3.rawCell 4; simp at x0 x1 x2 x3 x4; replace H := Lib.hid h; clear h)
    | (go_at_call 7; clear z0 z1 z2 z3 y0 y1 y2 y3 y4 x0 x1 x2 x3 x4; (with_reducible refine (end_check id p2 e2 c _ HR2.out HIL.out H.out).mono ?_); rintro e_ wn ⟨rfl, h⟩; have z0 := h.p1.rawCell 0; have z1 := h.p1.rawCell 1; have z2 := h.p1.rawCell 2; have z3 := h.p1.rawCell 3; simp at z0 z1 z2 z3; have y0 := h.p2.rawCell 0; have y1 := h.p2.rawCell 1; have y2 := h.p2.rawCell 2; have y3 := h.p2.rawCell 3; have y4 := h.p2.rawCell 4; simp at y0 y1 y2 y3 y4; have x0 := h.p3.rawCell 0; have x1 := h.p3.rawCell 1; have x2 := h.p3.rawCell 2; have x3 := h.p3.rawCell 3; have x4 := h.p3.rawCell 4; simp at x0 x1 x2 x3 x4; replace H := Lib.hid h; clear h)
    | (go_at_call 10; (with_reducible refine (end_write_bad po B r id p2 e2 c HR2.out H0.out HIL.out H.out).mono ?_); rintro e_ wn ⟨rfl, h⟩; replace H := Lib.hid h; clear h)
    | (go_at_call 11; (with_reducible refine (so_textEW po B r H0.out H.out).mono ?_); rintro e_ wn ⟨rfl, h⟩; replace H := Lib.hid h; clear h))
  go_ret
  exact ⟨rfl, H.out.below⟩

end Go.Proofs.YthppodbjjfkmfaaDoor
