/- Requests of transactions, by definition: Begin. -/
import Derived.Test.YtombolmicfjjpaaGTxnWrites4
import Derived.Test.YtombolmicfjjpaaGTxnWrites5
import Derived.Deep.DeepCutAuto
import Derived.Test.YtombolmicfjjpaaGTxnWrites2
/- Requests of transactions: may they be written. -/
namespace Go.Proofs.Ytombolmicfjjpaa
open Go.RowKit

theorem blob_putFixedT (p : Nat) (e e2 : Bs) (u : Bool) (s : Bs) (he : e ++ encF 2 ⟨u, s⟩ = e2) (hr : (⟨u, s⟩ : BlobS).right = true) (hf : fits (⟨u, s⟩ : BlobS).len 2) (hs : s.length ≤ 32767) (hl : e.length ≤ 100000000000000) {W0 w : World} {K : Know} {L : List Res} (h : St W0 w K (.out p ⟨e, 0⟩ :: L)) :
    Calls Try.prog 113 #[outPtr p, .agg #[.bool u, .string (bb s)], .int .i64 2] w fun en w' => en = .returned (.tuple #[]) ∧ St W0 w' K (.out p ⟨e2, 0⟩ :: L) := by
  have h2 := blob_putFixed p ⟨e, 0⟩ ⟨u, s⟩ 2 h (by unfold OutS.ok; simp only; omega)
  have e3 : (⟨e, 0⟩ : OutS).putFixed ⟨u, s⟩ 2 = ⟨e2, 0⟩ := by
    unfold OutS.putFixed OutS.int
    rw [if_pos hf, ← he]
    cases u with
    | true =>
      have h3 : s = [] := by cases s with | nil => rfl | cons _ _ => cases hr
      subst h3
      show (⟨(e ++ beBytes (⟨true, []⟩ : BlobS).len 2) ++ [], 0⟩ : OutS) = _
      rw [List.append_assoc]
      rfl
    | false =>
      show (⟨(e ++ beBytes (⟨false, s⟩ : BlobS).len 2) ++ s, 0⟩ : OutS) = _
      rw [List.append_assoc]
      rfl
  rw [e3] at h2
  exact h2
set_option maxHeartbeats 1000000 in
set_option maxRecDepth 100000 in
theorem beg_clo (bB vB : Nat) (v : Int) (nl : Bool) (d : Bs) (tm p e : Int) (r : Int) (hr : begE v nl d tm p e = r) (hl : d.length ≤ 140737488355328) {W0 w : World} {K : Know} {L : List Res} (c0 : w.cell? ⟨bB, 0, none⟩ = some (.bool nl)) (c1 : w.cell? ⟨bB, 1, none⟩ = some (.string (bb d))) (c2 : w.cell? ⟨bB, 2, none⟩ = some (.int .i64 tm)) (c3 : w.cell? ⟨bB, 3, none⟩ = some (.int .i64 p)) (c4 : w.cell? ⟨bB, 4, none⟩ = some (.int .i64 e)) (cv : w.cell? ⟨vB, 0, none⟩ = some (.int .i64 v)) (h : St W0 w K L) :
    Calls Try.prog 120 #[.pointer (some ⟨bB, 0, none⟩), .pointer (some ⟨vB, 0, none⟩)] w fun en w' => en = .returned (.int .i64 r) ∧ St W0 w' K L := by
  have H := Lib.hid h
  have HR := Lib.hid hr
  have HL := Lib.hid hl
  clear h hr hl
  go_enter Try.func120, Try.ntmps120
  go_wp2_with (go_at_call 93; (with_reducible refine (beg_check v nl d tm p e _ HR.out HL.out H.out).mono ?_); rintro e_ wn ⟨rfl, h⟩; replace H := Lib.hid h; clear h)
  go_ret
  exact ⟨rfl, H.out⟩

set_option maxHeartbeats 2000000 in
set_option maxRecDepth 100000 in
theorem may_beg (b : Nat) (o o2 : OutS) (bB vB : Nat) (v : Int) (nl : Bool) (d : Bs) (tm p e : Int) (r : Int) (t : Bool) (hr : begE v nl d tm p e = r) (hl : d.length ≤ 140737488355328) (ht : (r == 0) = t) (ho : (if r = 0 then o else o.fail r) = o2) {W0 w : World} {K : Know} {L : List Res} (h : St W0 w K (.out b o :: .raw vB #[.int .i64 v] 3 :: .raw bB #[.bool nl, .string (bb d), .int .i64 tm, .int .i64 p, .int .i64 e] 141 :: L)) :
    Calls Try.prog 116 #[outPtr b, .func (.func 120) #[] #[.pointer (some ⟨bB, 0, none⟩), .pointer (some ⟨vB, 0, none⟩)]] w fun en w' => en = .returned (.bool t) ∧ St W0 w' K (.out b o2 :: .raw vB #[.int .i64 v] 3 :: .raw bB #[.bool nl, .string (bb d), .int .i64 tm, .int .i64 p, .int .i64 e] 141 :: L) := by
  have H := Lib.hid h
  have C0 := Lib.hid (show w.cell? ⟨bB, 0, none⟩ = some (.bool nl) by have := h.p2.rawCell 0; simpa using this)
  have C1 := Lib.hid (show w.cell? ⟨bB, 1, none⟩ = some (.string (bb d)) by have := h.p2.rawCell 1; simpa using this)
  have C2 := Lib.hid (show w.cell? ⟨bB, 2, none⟩ = some (.int .i64 tm) by have := h.p2.rawCell 2; simpa using this)
  have C3 := Lib.hid (show w.cell? ⟨bB, 3, none⟩ = some (.int .i64 p) by have := h.p2.rawCell 3; simpa using this)
  have C4 := Lib.hid (show w.cell? ⟨bB, 4, none⟩ = some (.int .i64 e) by have := h.p2.rawCell 4; simpa using this)
  have CV := Lib.hid (show w.cell? ⟨vB, 0, none⟩ = some (.int .i64 v) by have := h.p1.rawCell 0; simpa using this)
  have HR := Lib.hid hr
  have HL := Lib.hid hl
  clear h hr hl
  by_cases h0 : r = 0
  · rw [if_pos h0] at ho
    subst ho h0
    obtain rfl : true = t := ht
    go_enter Try.func116, Try.ntmps116
    go_wp2_with (go_at_call 120; (with_reducible refine (beg_clo bB vB v nl d tm p e _ HR.out HL.out C0.out C1.out C2.out C3.out C4.out CV.out H.out).mono ?_); rintro e_ wn ⟨rfl, h⟩; replace H := Lib.hid h; clear h)
    go_ret
    exact ⟨rfl, H.out⟩
  · rw [if_neg h0] at ho
    have HO := Lib.hid ho
    have g0 : (r == 0) = false := by rw [beq_eq_false_iff_ne]; exact h0
    have g00 : (r != 0) = true := by simp [bne, g0]
    rw [g0] at ht
    subst ht
    clear ho h0
    go_enter Try.func116, Try.ntmps116
    go_wp2_with (first
    | (go_at_call 120; (with_reducible refine (beg_clo bB vB v nl d tm p e _ HR.out HL.out C0.out C1.out C2.out C3.out C4.out CV.out H.out).mono ?_); rintro e_ wn ⟨rfl, h⟩; replace H := Lib.hid h; clear h)
    | (go_at_call 103; (with_reducible refine (so_failT b _ _ _ HO.out H.out).mono ?_); rintro e_ wn ⟨rfl, h⟩; replace H := Lib.hid h; clear h))
    go_ret
    exact ⟨rfl, H.out⟩

set_option maxHeartbeats 2000000 in
set_option maxRecDepth 100000 in
theorem may_add (b : Nat) (o o2 : OutS) (d : Bs) (p e : Int) (l : List (TopS × Value)) (q : Option Addr) (cap : Nat) (r : Int) (t : Bool) (hr : addE d p e (l.map (·.1)) = r) (hl : d.length ≤ 140737488355328) (hf : FewT l) (ht : (r == 0) = t) (ho : (if r = 0 then o else o.fail r) = o2) {W0 w : World} {K : Know} {L : List Res} (hk : K.has (Know.tops (.slice q l.length cap) l)) (h : St W0 w K (.out b o :: L)) :
    Calls Try.prog 116 #[outPtr b, .func (.func 95) #[.agg #[.string (bb d), .int .i64 p, .int .i64 e, .slice q l.length cap]] #[]] w fun en w' => en = .returned (.bool t) ∧ St W0 w' K (.out b o2 :: L) := by
  have H := Lib.hid h
  have HR := Lib.hid hr
  have HL := Lib.hid hl
  have HF := Lib.hid hf
  have HK := Lib.hid hk
  clear h hr hl hf hk
  by_cases h0 : r = 0
  · rw [if_pos h0] at ho
    subst ho h0
    obtain rfl : true = t := ht
    go_enter Try.func116, Try.ntmps116
    go_wp2_with (go_at_call 95; (with_reducible refine (add_check d p e l q cap _ HR.out HL.out HF.out HK.out H.out).mono ?_); rintro e_ wn ⟨rfl, h⟩; replace H := Lib.hid h; clear h)
    go_ret
    exact ⟨rfl, H.out⟩
  · rw [if_neg h0] at ho
    have HO := Lib.hid ho
    have g0 : (r == 0) = false := by rw [beq_eq_false_iff_ne]; exact h0
    have g00 : (r != 0) = true := by simp [bne, g0]
    rw [g0] at ht
    subst ht
    clear ho h0
    go_enter Try.func116, Try.ntmps116
    go_wp2_with (first
    | (go_at_call 95; (with_reducible refine (add_check d p e l q cap _ HR.out HL.out HF.out HK.out H.out).mono ?_); rintro e_ wn ⟨rfl, h⟩; replace H := Lib.hid h; clear h)
    | (go_at_call 103; (with_reducible refine (so_failT b _ _ _ HO.out H.out).mono ?_); rintro e_ wn ⟨rfl, h⟩; replace H := Lib.hid h; clear h))
    go_ret
    exact ⟨rfl, H.out⟩

end Go.Proofs.Ytombolmicfjjpaa

/- Requests of transactions, written. -/
namespace Go.Proofs.Ytombolmicfjjpaa
open Go.RowKit

set_option maxHeartbeats 4000000 in
set_option maxRecDepth 100000 in
theorem beg_write_ok0 (b : Nat) (o o1 o2 : Bs) (nl : Bool) (d : Bs) (tm p e : Int) (h1 : o ++ encF 2 ⟨nl, d⟩ = o1) (h2 : o1 ++ beBytes tm (4 : Int).toNat = o2) (hk : begE 0 nl d tm p e = 0) (hp : p < 9223372036854775808) (hl : o.length ≤ 1000000) {W0 w : World} {K : Know} {L : List Res} (h : St W0 w K (.out b ⟨o, 0⟩ :: L)) :
    Calls Try.prog 92 #[.agg #[.bool nl, .string (bb d), .int .i64 tm, .int .i64 p, .int .i64 e], outPtr b, .int .i64 0] w fun en w' => en = .returned (.tuple #[]) ∧ St W0 w' K (.out b ⟨o2, 0⟩ :: L) := by
  obtain ⟨bB, hbB⟩ : ∃ b, w.heap.size = b := ⟨_, rfl⟩
  obtain ⟨vB, hvB⟩ : ∃ b, bB + 1 = b := ⟨_, rfl⟩
  have g1 := (h.allocRaw #[.bool nl, .string (bb d), .int .i64 tm, .int .i64 p, .int .i64 e] 141).allocRaw #[.int .i64 0] 3
  simp only [World.size_alloc, hbB, hvB] at g1
  have H := Lib.hid (show St W0 _ K (.out b ⟨o, 0⟩ :: .raw vB #[.int .i64 0] 3 :: .raw bB #[.bool nl, .string (bb d), .int .i64 tm, .int .i64 p, .int .i64 e] 141 :: L) from g1.p2)
  clear g1
  have hok := begE_ok hk
  obtain ⟨hil, hri, hfi⟩ := idOk_len hok.1
  have hrg := was_rng hok.2.2
  have HRI := Lib.hid hri
  have HFI := Lib.hid hfi
  have HIL := Lib.hid hil
  have H1 := Lib.hid h1
  have H2 := Lib.hid h2
  have HK_ := Lib.hid hk
  have HIL2 := Lib.hid (show d.length ≤ 140737488355328 by omega)
  have HFT := Lib.hid (vfits4 tm (by omega))
  have hl1 : o1.length = o.length + (d.length + 2) := by rw [← h1, List.length_append]; unfold encF; rw [List.length_append, beBytes_length]; simp only; omega
  have hl2 : o2.length = o1.length + 4 := by rw [← h2, List.length_append, beBytes_length]; rfl
  have HL := Lib.hid (show o.length ≤ 100000000000000 by omega)
  have HL1 := Lib.hid (show o1.length ≤ 100000000000000 by omega)
  have HL2 := Lib.hid (show o2.length ≤ 100000000 by omega)
  have HT := Lib.hid (show ((0 : Int) == 0) = true by rfl)
  have HO := Lib.hid (show (if (0 : Int) = 0 then (⟨o, 0⟩ : OutS) else (⟨o, 0⟩ : OutS).fail 0) = ⟨o, 0⟩ by rfl)
  clear h h1 h2 hk hp hl hl1 hl2 hok hil hri hfi hrg
  go_enter Try.func92, Try.ntmps92
  go_wp2_with (first
    | (go_at_call 116; (with_reducible refine (may_beg b _ _ bB vB 0 nl d tm p e _ _ HK_.out HIL2.out HT.out HO.out H.out).mono ?_); rintro e_ wn ⟨rfl, h⟩; have d0 := h.p2.rawCell 0; have d1 := h.p2.rawCell 1; have d2 := h.p2.rawCell 2; have d3 := h.p2.rawCell 3; have d4 := h.p2.rawCell 4; have dv := h.p1.rawCell 0; simp at d0 d1 d2 d3 d4 dv; replace H := Lib.hid h; clear h)
    | (go_at_call 113; (with_reducible refine (blob_putFixedT b o o1 nl d H1.out HRI.out HFI.out HIL.out HL.out H.out).mono ?_); rintro e_ wn ⟨rfl, h⟩; have d0 := h.p2.rawCell 0; have d1 := h.p2.rawCell 1; have d2 := h.p2.rawCell 2; have d3 := h.p2.rawCell 3; have d4 := h.p2.rawCell 4; have dv := h.p1.rawCell 0; simp at d0 d1 d2 d3 d4 dv; replace H := Lib.hid h; clear h)
    | (go_at_call 69; (with_reducible refine (so_intV b o1 o2 tm 4 H2.out HFT.out HL1.out H.out).mono ?_); rintro e_ wn ⟨rfl, h⟩; have d0 := h.p2.rawCell 0; have d1 := h.p2.rawCell 1; have d2 := h.p2.rawCell 2; have d3 := h.p2.rawCell 3; have d4 := h.p2.rawCell 4; have dv := h.p1.rawCell 0; simp at d0 d1 d2 d3 d4 dv; replace H := Lib.hid h; clear h))
  go_end0
  exact ⟨rfl, H.out.p2.drop.p1.drop⟩

set_option maxHeartbeats 4000000 in
set_option maxRecDepth 100000 in
theorem beg_write_ok1 (b : Nat) (o o1 o2 o3 o4 : Bs) (nl : Bool) (d : Bs) (tm p e : Int) (h1 : o ++ encF 2 ⟨nl, d⟩ = o1) (h2 : o1 ++ beBytes tm (4 : Int).toNat = o2) (h3 : o2 ++ beBytes p (8 : Int).toNat = o3) (h4 : o3 ++ beBytes e (2 : Int).toNat = o4) (hk : begE 1 nl d tm p e = 0) (hp : p < 9223372036854775808) (hl : o.length ≤ 1000000) {W0 w : World} {K : Know} {L : List Res} (h : St W0 w K (.out b ⟨o, 0⟩ :: L)) :
    Calls Try.prog 92 #[.agg #[.bool nl, .string (bb d), .int .i64 tm, .int .i64 p, .int .i64 e], outPtr b, .int .i64 1] w fun en w' => en = .returned (.tuple #[]) ∧ St W0 w' K (.out b ⟨o4, 0⟩ :: L) := by
  obtain ⟨bB, hbB⟩ : ∃ b, w.heap.size = b := ⟨_, rfl⟩
  obtain ⟨vB, hvB⟩ : ∃ b, bB + 1 = b := ⟨_, rfl⟩
  have g1 := (h.allocRaw #[.bool nl, .string (bb d), .int .i64 tm, .int .i64 p, .int .i64 e] 141).allocRaw #[.int .i64 1] 3
  simp only [World.size_alloc, hbB, hvB] at g1
  have H := Lib.hid (show St W0 _ K (.out b ⟨o, 0⟩ :: .raw vB #[.int .i64 1] 3 :: .raw bB #[.bool nl, .string (bb d), .int .i64 tm, .int .i64 p, .int .i64 e] 141 :: L) from g1.p2)
  clear g1
  have hok := begE_ok hk
  obtain ⟨hil, hri, hfi⟩ := idOk_len hok.1
  have hrg := was_rng hok.2.2
  have HRI := Lib.hid hri
  have HFI := Lib.hid hfi
  have HIL := Lib.hid hil
  have H1 := Lib.hid h1
  have H2 := Lib.hid h2
  have HK_ := Lib.hid hk
  have HIL2 := Lib.hid (show d.length ≤ 140737488355328 by omega)
  have HFT := Lib.hid (vfits4 tm (by omega))
  have hl1 : o1.length = o.length + (d.length + 2) := by rw [← h1, List.length_append]; unfold encF; rw [List.length_append, beBytes_length]; simp only; omega
  have hl2 : o2.length = o1.length + 4 := by rw [← h2, List.length_append, beBytes_length]; rfl
  have HL := Lib.hid (show o.length ≤ 100000000000000 by omega)
  have HL1 := Lib.hid (show o1.length ≤ 100000000000000 by omega)
  have HL2 := Lib.hid (show o2.length ≤ 100000000 by omega)
  have HT := Lib.hid (show ((0 : Int) == 0) = true by rfl)
  have HO := Lib.hid (show (if (0 : Int) = 0 then (⟨o, 0⟩ : OutS) else (⟨o, 0⟩ : OutS).fail 0) = ⟨o, 0⟩ by rfl)
  have H3 := Lib.hid h3
  have H4 := Lib.hid h4
  have HF8 := Lib.hid (vfits8 p (by omega))
  have HF2 := Lib.hid (vfits2 e (by omega))
  clear h h1 h2 hk hp hl hl1 hl2 hok hil hri hfi hrg h3 h4
  go_enter Try.func92, Try.ntmps92
  go_wp2_with (first
    | (go_at_call 116; (with_reducible refine (may_beg b _ _ bB vB 1 nl d tm p e _ _ HK_.out HIL2.out HT.out HO.out H.out).mono ?_); rintro e_ wn ⟨rfl, h⟩; have d0 := h.p2.rawCell 0; have d1 := h.p2.rawCell 1; have d2 := h.p2.rawCell 2; have d3 := h.p2.rawCell 3; have d4 := h.p2.rawCell 4; have dv := h.p1.rawCell 0; simp at d0 d1 d2 d3 d4 dv; replace H := Lib.hid h; clear h)
    | (go_at_call 113; (with_reducible refine (blob_putFixedT b o o1 nl d H1.out HRI.out HFI.out HIL.out HL.out H.out).mono ?_); rintro e_ wn ⟨rfl, h⟩; have d0 := h.p2.rawCell 0; have d1 := h.p2.rawCell 1; have d2 := h.p2.rawCell 2; have d3 := h.p2.rawCell 3; have d4 := h.p2.rawCell 4; have dv := h.p1.rawCell 0; simp at d0 d1 d2 d3 d4 dv; replace H := Lib.hid h; clear h)
    | (go_at_call 69; (with_reducible refine (so_intV b o1 o2 tm 4 H2.out HFT.out HL1.out H.out).mono ?_); rintro e_ wn ⟨rfl, h⟩; have d0 := h.p2.rawCell 0; have d1 := h.p2.rawCell 1; have d2 := h.p2.rawCell 2; have d3 := h.p2.rawCell 3; have d4 := h.p2.rawCell 4; have dv := h.p1.rawCell 0; simp at d0 d1 d2 d3 d4 dv; replace H := Lib.hid h; clear h)
    | (go_at_call 117; (with_reducible refine (txn_putWriter b o2 o3 o4 p e H3.out H4.out HF8.out HF2.out HL2.out H.out).mono ?_); rintro e_ wn ⟨rfl, h⟩; have d0 := h.p2.rawCell 0; have d1 := h.p2.rawCell 1; have d2 := h.p2.rawCell 2; have d3 := h.p2.rawCell 3; have d4 := h.p2.rawCell 4; have dv := h.p1.rawCell 0; simp at d0 d1 d2 d3 d4 dv; replace H := Lib.hid h; clear h))
  go_end0
  exact ⟨rfl, H.out.p2.drop.p1.drop⟩

set_option maxHeartbeats 4000000 in
set_option maxRecDepth 100000 in
theorem beg_write_bad (b : Nat) (o : Bs) (r : Int) (v : Int) (nl : Bool) (d : Bs) (tm p e : Int) (hr : begE v nl d tm p e = r) (h0 : r ≠ 0) (hil : d.length ≤ 140737488355328) {W0 w : World} {K : Know} {L : List Res} (h : St W0 w K (.out b ⟨o, 0⟩ :: L)) :
    Calls Try.prog 92 #[.agg #[.bool nl, .string (bb d), .int .i64 tm, .int .i64 p, .int .i64 e], outPtr b, .int .i64 v] w fun en w' => en = .returned (.tuple #[]) ∧ St W0 w' K (.out b ⟨o, r⟩ :: L) := by
  obtain ⟨bB, hbB⟩ : ∃ b, w.heap.size = b := ⟨_, rfl⟩
  obtain ⟨vB, hvB⟩ : ∃ b, bB + 1 = b := ⟨_, rfl⟩
  have g1 := (h.allocRaw #[.bool nl, .string (bb d), .int .i64 tm, .int .i64 p, .int .i64 e] 141).allocRaw #[.int .i64 v] 3
  simp only [World.size_alloc, hbB, hvB] at g1
  have H := Lib.hid (show St W0 _ K (.out b ⟨o, 0⟩ :: .raw vB #[.int .i64 v] 3 :: .raw bB #[.bool nl, .string (bb d), .int .i64 tm, .int .i64 p, .int .i64 e] 141 :: L) from g1.p2)
  clear g1
  have HK_ := Lib.hid hr
  have HIL2 := Lib.hid hil
  have g0 : (r == 0) = false := by rw [beq_eq_false_iff_ne]; exact h0
  have HT := Lib.hid g0
  have HO := Lib.hid (show (if r = 0 then (⟨o, 0⟩ : OutS) else (⟨o, 0⟩ : OutS).fail r) = ⟨o, r⟩ by rw [if_neg h0]; rfl)
  clear h hr hil h0 g0
  go_enter Try.func92, Try.ntmps92
  go_wp2_with (first
    | (go_at_call 116; (with_reducible refine (may_beg b _ _ bB vB v nl d tm p e _ _ HK_.out HIL2.out HT.out HO.out H.out).mono ?_); rintro e_ wn ⟨rfl, h⟩; have d0 := h.p2.rawCell 0; have d1 := h.p2.rawCell 1; have d2 := h.p2.rawCell 2; have d3 := h.p2.rawCell 3; have d4 := h.p2.rawCell 4; have dv := h.p1.rawCell 0; simp at d0 d1 d2 d3 d4 dv; replace H := Lib.hid h; clear h))
  (try simp only [Exit.inBlock, Exit.then]); refine bodyPost_ret (results_none rfl _ _ _) rfl ?_
  exact ⟨rfl, H.out.p2.drop.p1.drop⟩

set_option maxHeartbeats 4000000 in
set_option maxRecDepth 100000 in
theorem add_write_ok (b : Nat) (o o1 o2 o3 o4 : Bs) (d : Bs) (p e : Int) (l : List (TopS × Value)) (q : Option Addr) (cap : Nat) (h1 : o ++ encF 2 ⟨false, d⟩ = o1) (h2 : o1 ++ beBytes p (8 : Int).toNat = o2) (h3 : o2 ++ beBytes e (2 : Int).toNat = o3) (h4 : o3 ++ encTs (l.map (·.1)) = o4) (hk0 : addE d p e (l.map (·.1)) = 0) (hp : p < 9223372036854775808) (hl : o.length ≤ 100000) (hf : FewT l) (hfit : FitTs (l.map (·.1))) {W0 w : World} {K : Know} {L : List Res} (hk : K.has (Know.tops (.slice q l.length cap) l)) (h : St W0 w K (.out b ⟨o, 0⟩ :: L)) :
    Calls Try.prog 94 #[.agg #[.string (bb d), .int .i64 p, .int .i64 e, .slice q l.length cap], outPtr b] w fun en w' => en = .returned (.tuple #[]) ∧ St W0 w' K (.out b ⟨o4, 0⟩ :: L) := by
  have hok := addE_ok hk0
  have hcw := chkW_ok hok.1
  have hw := who_t hcw.2
  have hil := ((keyRight_iff d).1 hcw.1).2
  have H := Lib.hid (h.allocRaw #[.string (bb d), .int .i64 p, .int .i64 e, .slice q l.length cap] 144)
  have H1 := Lib.hid h1
  have H2 := Lib.hid h2
  have H3 := Lib.hid h3
  have H4 := Lib.hid h4
  have HK0 := Lib.hid hk0
  have HK := Lib.hid hk
  have HF := Lib.hid hf
  have HFIT := Lib.hid hfit
  have HIL := Lib.hid hil
  have HIL2 := Lib.hid (show d.length ≤ 140737488355328 by omega)
  have HF8 := Lib.hid (vfits8 p (by omega))
  have HF2 := Lib.hid (vfits2 e (by omega))
  have hl1 : o1.length = o.length + (d.length + 2) := by rw [← h1, List.length_append]; unfold encF; rw [List.length_append, beBytes_length]; simp only; omega
  have hl2 : o2.length = o1.length + 8 := by rw [← h2, List.length_append, beBytes_length]; rfl
  have hl3 : o3.length = o2.length + 2 := by rw [← h3, List.length_append, beBytes_length]; rfl
  have HL := Lib.hid (show o.length ≤ 100000000000000 by omega)
  have HL1 := Lib.hid (show o1.length ≤ 100000000 by omega)
  have HL3 := Lib.hid (show o3.length ≤ 1000000 by omega)
  have HT := Lib.hid (show ((0 : Int) == 0) = true by rfl)
  have HO := Lib.hid (show (if (0 : Int) = 0 then (⟨o, 0⟩ : OutS) else (⟨o, 0⟩ : OutS).fail 0) = ⟨o, 0⟩ by rfl)
  clear h h1 h2 h3 h4 hk0 hk hf hfit hil hp hl hl1 hl2 hl3 hw hok hcw
  go_enter Try.func94, Try.ntmps94
  go_wp2_with (first
    | (go_at_call 116; (with_reducible refine (may_add b _ _ d p e l q cap _ _ HK0.out HIL2.out HF.out HT.out HO.out HK.out H.out.p1).mono ?_); rintro e_ wn ⟨rfl, h⟩; have d0 := h.p1.rawCell 0; have d1 := h.p1.rawCell 1; have d2 := h.p1.rawCell 2; have d3 := h.p1.rawCell 3; simp at d0 d1 d2 d3; replace H := Lib.hid h; clear h)
    | (go_at_call 86; (with_reducible refine (blob_putTextV b o o1 d H1.out HIL.out HL.out H.out).mono ?_); rintro e_ wn ⟨rfl, h⟩; have d0 := h.p1.rawCell 0; have d1 := h.p1.rawCell 1; have d2 := h.p1.rawCell 2; have d3 := h.p1.rawCell 3; simp at d0 d1 d2 d3; replace H := Lib.hid h; clear h)
    | (go_at_call 117; (with_reducible refine (txn_putWriter b o1 o2 o3 p e H2.out H3.out HF8.out HF2.out HL1.out H.out).mono ?_); rintro e_ wn ⟨rfl, h⟩; have d0 := h.p1.rawCell 0; have d1 := h.p1.rawCell 1; have d2 := h.p1.rawCell 2; have d3 := h.p1.rawCell 3; simp at d0 d1 d2 d3; replace H := Lib.hid h; clear h)
    | (go_at_call 31; (with_reducible refine (val_putTopics b o3 o4 l q cap H4.out HL3.out HFIT.out HK.out H.out).mono ?_); rintro e_ wn ⟨rfl, h⟩; have d0 := h.p1.rawCell 0; have d1 := h.p1.rawCell 1; have d2 := h.p1.rawCell 2; have d3 := h.p1.rawCell 3; simp at d0 d1 d2 d3; replace H := Lib.hid h; clear h))
  go_end0
  exact ⟨rfl, H.out.p1.drop⟩
set_option maxHeartbeats 4000000 in
set_option maxRecDepth 100000 in
theorem add_write_bad (b : Nat) (o : Bs) (r : Int) (d : Bs) (p e : Int) (l : List (TopS × Value)) (q : Option Addr) (cap : Nat) (hr : addE d p e (l.map (·.1)) = r) (h0 : r ≠ 0) (hil : d.length ≤ 140737488355328) (hf : FewT l) {W0 w : World} {K : Know} {L : List Res} (hk : K.has (Know.tops (.slice q l.length cap) l)) (h : St W0 w K (.out b ⟨o, 0⟩ :: L)) :
    Calls Try.prog 94 #[.agg #[.string (bb d), .int .i64 p, .int .i64 e, .slice q l.length cap], outPtr b] w fun en w' => en = .returned (.tuple #[]) ∧ St W0 w' K (.out b ⟨o, r⟩ :: L) := by
  have H := Lib.hid (h.allocRaw #[.string (bb d), .int .i64 p, .int .i64 e, .slice q l.length cap] 144)
  have HR := Lib.hid hr
  have HK := Lib.hid hk
  have HF := Lib.hid hf
  have HIL2 := Lib.hid hil
  have g0 : (r == 0) = false := by rw [beq_eq_false_iff_ne]; exact h0
  have HT := Lib.hid g0
  have HO := Lib.hid (show (if r = 0 then (⟨o, 0⟩ : OutS) else (⟨o, 0⟩ : OutS).fail r) = ⟨o, r⟩ by rw [if_neg h0]; rfl)
  clear h hr hk hf hil h0 g0
  go_enter Try.func94, Try.ntmps94
  go_wp2_with (go_at_call 116; (with_reducible refine (may_add b _ _ d p e l q cap _ _ HR.out HIL2.out HF.out HT.out HO.out HK.out H.out.p1).mono ?_); rintro e_ wn ⟨rfl, h⟩; have d0 := h.p1.rawCell 0; have d1 := h.p1.rawCell 1; have d2 := h.p1.rawCell 2; have d3 := h.p1.rawCell 3; simp at d0 d1 d2 d3; replace H := Lib.hid h; clear h)
  (try simp only [Exit.inBlock, Exit.then]); refine bodyPost_ret (results_none rfl _ _ _) rfl ?_
  exact ⟨rfl, H.out.p1.drop⟩
set_option maxHeartbeats 4000000 in
set_option maxRecDepth 100000 in
theorem end_write_bad (b : Nat) (o : Bs) (r : Int) (id : Bs) (p e : Int) (c : Bool) (hr : chkW id p e = r) (h0 : r ≠ 0) (hil : id.length ≤ 140737488355328) {W0 w : World} {K : Know} {L : List Res} (h : St W0 w K (.out b ⟨o, 0⟩ :: L)) :
    Calls Try.prog 90 #[.agg #[.string (bb id), .int .i64 p, .int .i64 e, .bool c], outPtr b] w fun en w' => en = .returned (.tuple #[]) ∧ St W0 w' K (.out b ⟨o, r⟩ :: L) := by
  have H := Lib.hid (h.allocRaw #[.string (bb id), .int .i64 p, .int .i64 e, .bool c] 136)
  have HR := Lib.hid hr
  have HIL2 := Lib.hid hil
  have g0 : (r == 0) = false := by rw [beq_eq_false_iff_ne]; exact h0
  have HT := Lib.hid g0
  have HO := Lib.hid (show (if r = 0 then (⟨o, 0⟩ : OutS) else (⟨o, 0⟩ : OutS).fail r) = ⟨o, r⟩ by rw [if_neg h0]; rfl)
  clear h hr hil h0 g0
  go_enter Try.func90, Try.ntmps90
  go_wp2_with (go_at_call 116; (with_reducible refine (may_end b _ _ id p e c _ _ HR.out HT.out HO.out HIL2.out H.out.p1).mono ?_); rintro e_ wn ⟨rfl, h⟩; have d0 := h.p1.rawCell 0; have d1 := h.p1.rawCell 1; have d2 := h.p1.rawCell 2; have d3 := h.p1.rawCell 3; simp at d0 d1 d2 d3; replace H := Lib.hid h; clear h)
  (try simp only [Exit.inBlock, Exit.then]); refine bodyPost_ret (results_none rfl _ _ _) rfl ?_
  exact ⟨rfl, H.out.p1.drop⟩

end Go.Proofs.Ytombolmicfjjpaa

/- Requests of transactions, written for the law. -/
namespace Go.Proofs.Ytombolmicfjjpaa
open Go.RowKit

theorem so_textE (p : Nat) (o : Bs) (r : Int) (h0 : r ≠ 0) {W0 w : World} {K : Know} {L : List Res} (h : St W0 w K (.out p ⟨o, r⟩ :: L)) :
    Calls Try.prog 32 #[outPtr p] w fun en w' => en = .returned (.tuple #[.string ⟨#[]⟩, .int .i64 r]) ∧ St W0 w' K (.out p ⟨o, r⟩ :: L) := by
  have h2 := so_text p ⟨o, r⟩ h
  unfold OutS.text at h2
  simp only [if_neg h0] at h2
  exact h2
theorem so_textT (p : Nat) (e : Bs) {W0 w : World} {K : Know} {L : List Res} (h : St W0 w K (.out p ⟨e, 0⟩ :: L)) :
    Calls Try.prog 32 #[outPtr p] w fun en w' => en = .returned (.tuple #[.string (bb e), .int .i64 0]) ∧ St W0 w' K (.out p ⟨e, 0⟩ :: L) := so_text p ⟨e, 0⟩ h

set_option maxHeartbeats 6000000 in
set_option maxRecDepth 100000 in
theorem l18w_220 (nl : Bool) (d : Bs) (tm p e : Int) (l : List (TopS × Value)) (q : Option Addr) (cap : Nat) (c : Bool) (o1 o2 : Bs) (h1 : [] ++ encF 2 ⟨nl, d⟩ = o1) (h2 : o1 ++ beBytes tm (4 : Int).toNat = o2) (hE : begE 0 nl d tm p e = 0) (hp : p < 9223372036854775808) (hil : d.length ≤ 32767) {W0 w : World} {K : Know} {L : List Res} (hk : K.has (Know.tops (.slice q l.length cap) l)) (h : St W0 w K L) :
    Calls Try.prog 39 #[.int .i64 22, .int .i64 0, .agg #[.bool nl, .string (bb d), .int .i64 tm, .int .i64 p, .int .i64 e, .slice q l.length cap, .bool c]] w fun en w' => en = .returned (.tuple #[.string (bb o2), .int .i64 0, .int .i64 0]) ∧ St W0 w' K L := by
  obtain ⟨rb, hrb⟩ : ∃ b, w.heap.size = b := ⟨_, rfl⟩
  obtain ⟨po, hpo⟩ : ∃ b, rb + 1 = b := ⟨_, rfl⟩
  obtain ⟨bq, hbq⟩ : ∃ b, po + 1 = b := ⟨_, rfl⟩
  have g0 := (h.allocRaw #[.bool nl, .string (bb d), .int .i64 tm, .int .i64 p, .int .i64 e, .slice q l.length cap, .bool c] 66).allocOut
  have g1 := g0.allocRaw #[.bool nl, .string (bb d), .int .i64 tm, .int .i64 p, .int .i64 e] 141
  simp only [World.size_alloc, hrb, hpo, hbq] at g0 g1
  have c0 := g0.p1.rawCell 0; have c1 := g0.p1.rawCell 1; have c2 := g0.p1.rawCell 2; have c3 := g0.p1.rawCell 3; have c4 := g0.p1.rawCell 4; have c5 := g0.p1.rawCell 5; have c6 := g0.p1.rawCell 6; simp at c0 c1 c2 c3 c4 c5 c6
  have H := Lib.hid g1
  have HK := Lib.hid hk
  have H1 := Lib.hid h1
  have H2 := Lib.hid h2
  have HE := Lib.hid hE
  have HP := Lib.hid hp
  have HIL := Lib.hid hil
  have HIL2 := Lib.hid (show d.length ≤ 140737488355328 by omega)
  have HZ := Lib.hid (show ([] : Bs).length ≤ 100000 by decide)
  have HZ6 := Lib.hid (show ([] : Bs).length ≤ 1000000 by decide)
  clear h g0 g1 hk h1 h2 hE hp hil
  go_enter Try.func39, Try.ntmps39
  go_wp2_with (first
    | (go_at_call 92; (with_reducible refine (beg_write_ok0 po [] o1 o2 nl d tm p e H1.out H2.out HE.out HP.out HZ6.out H.out.p1).mono ?_); rintro e_ wn ⟨rfl, h⟩; have d0 := h.p1.rawCell 0; have d1 := h.p1.rawCell 1; have d2 := h.p1.rawCell 2; have d3 := h.p1.rawCell 3; have d4 := h.p1.rawCell 4; simp at d0 d1 d2 d3 d4; replace H := Lib.hid h; clear h)
    | (go_at_call 93; (with_reducible refine (beg_check 0 nl d tm p e _ HE.out HIL2.out H.out).mono ?_); rintro e_ wn ⟨rfl, h⟩; replace H := Lib.hid h; clear h)
    | (go_at_call 32; (with_reducible refine (so_textT po o2 H.out).mono ?_); rintro e_ wn ⟨rfl, h⟩; replace H := Lib.hid h; clear h))
  go_ret3
  exact ⟨rfl, H.out.p1.drop.drop.drop⟩

set_option maxHeartbeats 6000000 in
set_option maxRecDepth 100000 in
theorem l18w_221 (nl : Bool) (d : Bs) (tm p e : Int) (l : List (TopS × Value)) (q : Option Addr) (cap : Nat) (c : Bool) (o1 o2 o3 o4 : Bs) (h1 : [] ++ encF 2 ⟨nl, d⟩ = o1) (h2 : o1 ++ beBytes tm (4 : Int).toNat = o2) (h3 : o2 ++ beBytes p (8 : Int).toNat = o3) (h4 : o3 ++ beBytes e (2 : Int).toNat = o4) (hE : begE 1 nl d tm p e = 0) (hp : p < 9223372036854775808) (hil : d.length ≤ 32767) {W0 w : World} {K : Know} {L : List Res} (hk : K.has (Know.tops (.slice q l.length cap) l)) (h : St W0 w K L) :
    Calls Try.prog 39 #[.int .i64 22, .int .i64 1, .agg #[.bool nl, .string (bb d), .int .i64 tm, .int .i64 p, .int .i64 e, .slice q l.length cap, .bool c]] w fun en w' => en = .returned (.tuple #[.string (bb o4), .int .i64 0, .int .i64 0]) ∧ St W0 w' K L := by
  obtain ⟨rb, hrb⟩ : ∃ b, w.heap.size = b := ⟨_, rfl⟩
  obtain ⟨po, hpo⟩ : ∃ b, rb + 1 = b := ⟨_, rfl⟩
  obtain ⟨bq, hbq⟩ : ∃ b, po + 1 = b := ⟨_, rfl⟩
  have g0 := (h.allocRaw #[.bool nl, .string (bb d), .int .i64 tm, .int .i64 p, .int .i64 e, .slice q l.length cap, .bool c] 66).allocOut
  have g1 := g0.allocRaw #[.bool nl, .string (bb d), .int .i64 tm, .int .i64 p, .int .i64 e] 141
  simp only [World.size_alloc, hrb, hpo, hbq] at g0 g1
  have c0 := g0.p1.rawCell 0; have c1 := g0.p1.rawCell 1; have c2 := g0.p1.rawCell 2; have c3 := g0.p1.rawCell 3; have c4 := g0.p1.rawCell 4; have c5 := g0.p1.rawCell 5; have c6 := g0.p1.rawCell 6; simp at c0 c1 c2 c3 c4 c5 c6
  have H := Lib.hid g1
  have HK := Lib.hid hk
  have H1 := Lib.hid h1
  have H2 := Lib.hid h2
  have H3 := Lib.hid h3
  have H4 := Lib.hid h4
  have HE := Lib.hid hE
  have HP := Lib.hid hp
  have HIL := Lib.hid hil
  have HIL2 := Lib.hid (show d.length ≤ 140737488355328 by omega)
  have HZ := Lib.hid (show ([] : Bs).length ≤ 100000 by decide)
  have HZ6 := Lib.hid (show ([] : Bs).length ≤ 1000000 by decide)
  clear h g0 g1 hk h1 h2 h3 h4 hE hp hil
  go_enter Try.func39, Try.ntmps39
  go_wp2_with (first
    | (go_at_call 92; (with_reducible refine (beg_write_ok1 po [] o1 o2 o3 o4 nl d tm p e H1.out H2.out H3.out H4.out HE.out HP.out HZ6.out H.out.p1).mono ?_); rintro e_ wn ⟨rfl, h⟩; have d0 := h.p1.rawCell 0; have d1 := h.p1.rawCell 1; have d2 := h.p1.rawCell 2; have d3 := h.p1.rawCell 3; have d4 := h.p1.rawCell 4; simp at d0 d1 d2 d3 d4; replace H := Lib.hid h; clear h)
    | (go_at_call 93; (with_reducible refine (beg_check 1 nl d tm p e _ HE.out HIL2.out H.out).mono ?_); rintro e_ wn ⟨rfl, h⟩; replace H := Lib.hid h; clear h)
    | (go_at_call 32; (with_reducible refine (so_textT po o4 H.out).mono ?_); rintro e_ wn ⟨rfl, h⟩; replace H := Lib.hid h; clear h))
  go_ret3
  exact ⟨rfl, H.out.p1.drop.drop.drop⟩

set_option maxHeartbeats 6000000 in
set_option maxRecDepth 100000 in
theorem l18w_22b (v : Int) (nl : Bool) (d : Bs) (tm p e : Int) (l : List (TopS × Value)) (q : Option Addr) (cap : Nat) (c : Bool) (r : Int) (hE : begE v nl d tm p e = r) (h0 : r ≠ 0) (hil : d.length ≤ 140737488355328) {W0 w : World} {K : Know} {L : List Res} (hk : K.has (Know.tops (.slice q l.length cap) l)) (h : St W0 w K L) :
    Calls Try.prog 39 #[.int .i64 22, .int .i64 v, .agg #[.bool nl, .string (bb d), .int .i64 tm, .int .i64 p, .int .i64 e, .slice q l.length cap, .bool c]] w fun en w' => en = .returned (.tuple #[.string ⟨#[]⟩, .int .i64 r, .int .i64 r]) ∧ St W0 w' K L := by
  obtain ⟨rb, hrb⟩ : ∃ b, w.heap.size = b := ⟨_, rfl⟩
  obtain ⟨po, hpo⟩ : ∃ b, rb + 1 = b := ⟨_, rfl⟩
  obtain ⟨bq, hbq⟩ : ∃ b, po + 1 = b := ⟨_, rfl⟩
  have g0 := (h.allocRaw #[.bool nl, .string (bb d), .int .i64 tm, .int .i64 p, .int .i64 e, .slice q l.length cap, .bool c] 66).allocOut
  have g1 := g0.allocRaw #[.bool nl, .string (bb d), .int .i64 tm, .int .i64 p, .int .i64 e] 141
  simp only [World.size_alloc, hrb, hpo, hbq] at g0 g1
  have c0 := g0.p1.rawCell 0; have c1 := g0.p1.rawCell 1; have c2 := g0.p1.rawCell 2; have c3 := g0.p1.rawCell 3; have c4 := g0.p1.rawCell 4; have c5 := g0.p1.rawCell 5; have c6 := g0.p1.rawCell 6; simp at c0 c1 c2 c3 c4 c5 c6
  have H := Lib.hid g1
  have HK := Lib.hid hk
  have HE := Lib.hid hE
  have H0 := Lib.hid h0
  have HIL2 := Lib.hid hil
  clear h g0 g1 hk hE h0 hil
  go_enter Try.func39, Try.ntmps39
  go_wp2_with (first
    | (go_at_call 92; (with_reducible refine (beg_write_bad po [] r v nl d tm p e HE.out H0.out HIL2.out H.out.p1).mono ?_); rintro e_ wn ⟨rfl, h⟩; have d0 := h.p1.rawCell 0; have d1 := h.p1.rawCell 1; have d2 := h.p1.rawCell 2; have d3 := h.p1.rawCell 3; have d4 := h.p1.rawCell 4; simp at d0 d1 d2 d3 d4; replace H := Lib.hid h; clear h)
    | (go_at_call 93; (with_reducible refine (beg_check v nl d tm p e _ HE.out HIL2.out H.out).mono ?_); rintro e_ wn ⟨rfl, h⟩; replace H := Lib.hid h; clear h)
    | (go_at_call 32; (with_reducible refine (so_textE po [] r H0.out H.out).mono ?_); rintro e_ wn ⟨rfl, h⟩; replace H := Lib.hid h; clear h))
  go_ret3
  exact ⟨rfl, H.out.p1.drop.drop.drop⟩

set_option maxHeartbeats 6000000 in
set_option maxRecDepth 100000 in
theorem l18w_24 (v : Int) (nl : Bool) (d : Bs) (tm p e : Int) (l : List (TopS × Value)) (q : Option Addr) (cap : Nat) (c : Bool) (o1 o2 o3 o4 : Bs) (h1 : [] ++ encF 2 ⟨false, d⟩ = o1) (h2 : o1 ++ beBytes p (8 : Int).toNat = o2) (h3 : o2 ++ beBytes e (2 : Int).toNat = o3) (h4 : o3 ++ encTs (l.map (·.1)) = o4) (hE : addE d p e (l.map (·.1)) = 0) (hp : p < 9223372036854775808) (hil : d.length ≤ 32767) (hf : FewT l) (hfit : FitTs (l.map (·.1))) {W0 w : World} {K : Know} {L : List Res} (hk : K.has (Know.tops (.slice q l.length cap) l)) (h : St W0 w K L) :
    Calls Try.prog 39 #[.int .i64 24, .int .i64 v, .agg #[.bool nl, .string (bb d), .int .i64 tm, .int .i64 p, .int .i64 e, .slice q l.length cap, .bool c]] w fun en w' => en = .returned (.tuple #[.string (bb o4), .int .i64 0, .int .i64 0]) ∧ St W0 w' K L := by
  obtain ⟨rb, hrb⟩ : ∃ b, w.heap.size = b := ⟨_, rfl⟩
  obtain ⟨po, hpo⟩ : ∃ b, rb + 1 = b := ⟨_, rfl⟩
  obtain ⟨bq, hbq⟩ : ∃ b, po + 1 = b := ⟨_, rfl⟩
  have g0 := (h.allocRaw #[.bool nl, .string (bb d), .int .i64 tm, .int .i64 p, .int .i64 e, .slice q l.length cap, .bool c] 66).allocOut
  have g1 := g0.allocRaw #[.string (bb d), .int .i64 p, .int .i64 e, .slice q l.length cap] 144
  simp only [World.size_alloc, hrb, hpo, hbq] at g0 g1
  have c0 := g0.p1.rawCell 0; have c1 := g0.p1.rawCell 1; have c2 := g0.p1.rawCell 2; have c3 := g0.p1.rawCell 3; have c4 := g0.p1.rawCell 4; have c5 := g0.p1.rawCell 5; have c6 := g0.p1.rawCell 6; simp at c0 c1 c2 c3 c4 c5 c6
  have H := Lib.hid g1
  have HK := Lib.hid hk
  have H1 := Lib.hid h1
  have H2 := Lib.hid h2
  have H3 := Lib.hid h3
  have H4 := Lib.hid h4
  have HE := Lib.hid hE
  have HP := Lib.hid hp
  have HIL := Lib.hid hil
  have HIL2 := Lib.hid (show d.length ≤ 140737488355328 by omega)
  have HZ := Lib.hid (show ([] : Bs).length ≤ 100000 by decide)
  have HZ6 := Lib.hid (show ([] : Bs).length ≤ 1000000 by decide)
  have HF := Lib.hid hf
  have HFIT := Lib.hid hfit
  clear h g0 g1 hk h1 h2 h3 h4 hE hp hil hf hfit
  go_enter Try.func39, Try.ntmps39
  go_wp2_with (first
    | (go_at_call 94; (with_reducible refine (add_write_ok po [] o1 o2 o3 o4 d p e l q cap H1.out H2.out H3.out H4.out HE.out HP.out HZ.out HF.out HFIT.out HK.out H.out.p1).mono ?_); rintro e_ wn ⟨rfl, h⟩; have d0 := h.p1.rawCell 0; have d1 := h.p1.rawCell 1; have d2 := h.p1.rawCell 2; have d3 := h.p1.rawCell 3; simp at d0 d1 d2 d3; replace H := Lib.hid h; clear h)
    | (go_at_call 95; (with_reducible refine (add_check d p e l q cap _ HE.out HIL2.out HF.out HK.out H.out).mono ?_); rintro e_ wn ⟨rfl, h⟩; replace H := Lib.hid h; clear h)
    | (go_at_call 32; (with_reducible refine (so_textT po o4 H.out).mono ?_); rintro e_ wn ⟨rfl, h⟩; replace H := Lib.hid h; clear h))
  go_ret3
  exact ⟨rfl, H.out.p1.drop.drop.drop⟩

set_option maxHeartbeats 6000000 in
set_option maxRecDepth 100000 in
theorem l18w_24b (v : Int) (nl : Bool) (d : Bs) (tm p e : Int) (l : List (TopS × Value)) (q : Option Addr) (cap : Nat) (c : Bool) (r : Int) (hE : addE d p e (l.map (·.1)) = r) (h0 : r ≠ 0) (hil : d.length ≤ 140737488355328) (hf : FewT l) {W0 w : World} {K : Know} {L : List Res} (hk : K.has (Know.tops (.slice q l.length cap) l)) (h : St W0 w K L) :
    Calls Try.prog 39 #[.int .i64 24, .int .i64 v, .agg #[.bool nl, .string (bb d), .int .i64 tm, .int .i64 p, .int .i64 e, .slice q l.length cap, .bool c]] w fun en w' => en = .returned (.tuple #[.string ⟨#[]⟩, .int .i64 r, .int .i64 r]) ∧ St W0 w' K L := by
  obtain ⟨rb, hrb⟩ : ∃ b, w.heap.size = b := ⟨_, rfl⟩
  obtain ⟨po, hpo⟩ : ∃ b, rb + 1 = b := ⟨_, rfl⟩
  obtain ⟨bq, hbq⟩ : ∃ b, po + 1 = b := ⟨_, rfl⟩
  have g0 := (h.allocRaw #[.bool nl, .string (bb d), .int .i64 tm, .int .i64 p, .int .i64 e, .slice q l.length cap, .bool c] 66).allocOut
  have g1 := g0.allocRaw #[.string (bb d), .int .i64 p, .int .i64 e, .slice q l.length cap] 144
  simp only [World.size_alloc, hrb, hpo, hbq] at g0 g1
  have c0 := g0.p1.rawCell 0; have c1 := g0.p1.rawCell 1; have c2 := g0.p1.rawCell 2; have c3 := g0.p1.rawCell 3; have c4 := g0.p1.rawCell 4; have c5 := g0.p1.rawCell 5; have c6 := g0.p1.rawCell 6; simp at c0 c1 c2 c3 c4 c5 c6
  have H := Lib.hid g1
  have HK := Lib.hid hk
  have HE := Lib.hid hE
  have H0 := Lib.hid h0
  have HIL2 := Lib.hid hil
  have HF := Lib.hid hf
  clear h g0 g1 hk hE h0 hil hf
  go_enter Try.func39, Try.ntmps39
  go_wp2_with (first
    | (go_at_call 94; (with_reducible refine (add_write_bad po [] r d p e l q cap HE.out H0.out HIL2.out HF.out HK.out H.out.p1).mono ?_); rintro e_ wn ⟨rfl, h⟩; have d0 := h.p1.rawCell 0; have d1 := h.p1.rawCell 1; have d2 := h.p1.rawCell 2; have d3 := h.p1.rawCell 3; simp at d0 d1 d2 d3; replace H := Lib.hid h; clear h)
    | (go_at_call 95; (with_reducible refine (add_check d p e l q cap _ HE.out HIL2.out HF.out HK.out H.out).mono ?_); rintro e_ wn ⟨rfl, h⟩; replace H := Lib.hid h; clear h)
    | (go_at_call 32; (with_reducible refine (so_textE po [] r H0.out H.out).mono ?_); rintro e_ wn ⟨rfl, h⟩; replace H := Lib.hid h; clear h))
  go_ret3
  exact ⟨rfl, H.out.p1.drop.drop.drop⟩

set_option maxHeartbeats 6000000 in
set_option maxRecDepth 100000 in
theorem l18w_26 (v : Int) (nl : Bool) (d : Bs) (tm p e : Int) (l : List (TopS × Value)) (q : Option Addr) (cap : Nat) (c : Bool) (o1 o2 o3 o4 : Bs) (h1 : [] ++ encF 2 ⟨false, d⟩ = o1) (h2 : o1 ++ beBytes p (8 : Int).toNat = o2) (h3 : o2 ++ beBytes e (2 : Int).toNat = o3) (h4 : o3 ++ encO c = o4) (hE : chkW d p e = 0) (hp : p < 9223372036854775808) (hil : d.length ≤ 32767) {W0 w : World} {K : Know} {L : List Res} (hk : K.has (Know.tops (.slice q l.length cap) l)) (h : St W0 w K L) :
    Calls Try.prog 39 #[.int .i64 26, .int .i64 v, .agg #[.bool nl, .string (bb d), .int .i64 tm, .int .i64 p, .int .i64 e, .slice q l.length cap, .bool c]] w fun en w' => en = .returned (.tuple #[.string (bb o4), .int .i64 0, .int .i64 0]) ∧ St W0 w' K L := by
  obtain ⟨rb, hrb⟩ : ∃ b, w.heap.size = b := ⟨_, rfl⟩
  obtain ⟨po, hpo⟩ : ∃ b, rb + 1 = b := ⟨_, rfl⟩
  obtain ⟨bq, hbq⟩ : ∃ b, po + 1 = b := ⟨_, rfl⟩
  have g0 := (h.allocRaw #[.bool nl, .string (bb d), .int .i64 tm, .int .i64 p, .int .i64 e, .slice q l.length cap, .bool c] 66).allocOut
  have g1 := g0.allocRaw #[.string (bb d), .int .i64 p, .int .i64 e, .bool c] 136
  simp only [World.size_alloc, hrb, hpo, hbq] at g0 g1
  have c0 := g0.p1.rawCell 0; have c1 := g0.p1.rawCell 1; have c2 := g0.p1.rawCell 2; have c3 := g0.p1.rawCell 3; have c4 := g0.p1.rawCell 4; have c5 := g0.p1.rawCell 5; have c6 := g0.p1.rawCell 6; simp at c0 c1 c2 c3 c4 c5 c6
  have H := Lib.hid g1
  have HK := Lib.hid hk
  have H1 := Lib.hid h1
  have H2 := Lib.hid h2
  have H3 := Lib.hid h3
  have H4 := Lib.hid h4
  have HE := Lib.hid hE
  have HP := Lib.hid hp
  have HIL := Lib.hid hil
  have HIL2 := Lib.hid (show d.length ≤ 140737488355328 by omega)
  have HZ := Lib.hid (show ([] : Bs).length ≤ 100000 by decide)
  have HZ6 := Lib.hid (show ([] : Bs).length ≤ 1000000 by decide)
  clear h g0 g1 hk h1 h2 h3 h4 hE hp hil
  go_enter Try.func39, Try.ntmps39
  go_wp2_with (first
    | (go_at_call 90; (with_reducible refine (end_write_ok po [] o1 o2 o3 o4 d p e c H1.out H2.out H3.out H4.out HE.out HIL.out HP.out HZ6.out H.out.p1).mono ?_); rintro e_ wn ⟨rfl, h⟩; have d0 := h.p1.rawCell 0; have d1 := h.p1.rawCell 1; have d2 := h.p1.rawCell 2; have d3 := h.p1.rawCell 3; simp at d0 d1 d2 d3; replace H := Lib.hid h; clear h)
    | (go_at_call 96; (with_reducible refine (end_check d p e c _ HE.out HIL2.out H.out).mono ?_); rintro e_ wn ⟨rfl, h⟩; replace H := Lib.hid h; clear h)
    | (go_at_call 32; (with_reducible refine (so_textT po o4 H.out).mono ?_); rintro e_ wn ⟨rfl, h⟩; replace H := Lib.hid h; clear h))
  go_ret3
  exact ⟨rfl, H.out.p1.drop.drop.drop⟩

set_option maxHeartbeats 6000000 in
set_option maxRecDepth 100000 in
theorem l18w_26b (v : Int) (nl : Bool) (d : Bs) (tm p e : Int) (l : List (TopS × Value)) (q : Option Addr) (cap : Nat) (c : Bool) (r : Int) (hE : chkW d p e = r) (h0 : r ≠ 0) (hil : d.length ≤ 140737488355328) {W0 w : World} {K : Know} {L : List Res} (hk : K.has (Know.tops (.slice q l.length cap) l)) (h : St W0 w K L) :
    Calls Try.prog 39 #[.int .i64 26, .int .i64 v, .agg #[.bool nl, .string (bb d), .int .i64 tm, .int .i64 p, .int .i64 e, .slice q l.length cap, .bool c]] w fun en w' => en = .returned (.tuple #[.string ⟨#[]⟩, .int .i64 r, .int .i64 r]) ∧ St W0 w' K L := by
  obtain ⟨rb, hrb⟩ : ∃ b, w.heap.size = b := ⟨_, rfl⟩
  obtain ⟨po, hpo⟩ : ∃ b, rb + 1 = b := ⟨_, rfl⟩
  obtain ⟨bq, hbq⟩ : ∃ b, po + 1 = b := ⟨_, rfl⟩
  have g0 := (h.allocRaw #[.bool nl, .string (bb d), .int .i64 tm, .int .i64 p, .int .i64 e, .slice q l.length cap, .bool c] 66).allocOut
  have g1 := g0.allocRaw #[.string (bb d), .int .i64 p, .int .i64 e, .bool c] 136
  simp only [World.size_alloc, hrb, hpo, hbq] at g0 g1
  have c0 := g0.p1.rawCell 0; have c1 := g0.p1.rawCell 1; have c2 := g0.p1.rawCell 2; have c3 := g0.p1.rawCell 3; have c4 := g0.p1.rawCell 4; have c5 := g0.p1.rawCell 5; have c6 := g0.p1.rawCell 6; simp at c0 c1 c2 c3 c4 c5 c6
  have H := Lib.hid g1
  have HK := Lib.hid hk
  have HE := Lib.hid hE
  have H0 := Lib.hid h0
  have HIL2 := Lib.hid hil
  clear h g0 g1 hk hE h0 hil
  go_enter Try.func39, Try.ntmps39
  go_wp2_with (first
    | (go_at_call 90; (with_reducible refine (end_write_bad po [] r d p e c HE.out H0.out HIL2.out H.out.p1).mono ?_); rintro e_ wn ⟨rfl, h⟩; have d0 := h.p1.rawCell 0; have d1 := h.p1.rawCell 1; have d2 := h.p1.rawCell 2; have d3 := h.p1.rawCell 3; simp at d0 d1 d2 d3; replace H := Lib.hid h; clear h)
    | (go_at_call 96; (with_reducible refine (end_check d p e c _ HE.out HIL2.out H.out).mono ?_); rintro e_ wn ⟨rfl, h⟩; replace H := Lib.hid h; clear h)
    | (go_at_call 32; (with_reducible refine (so_textE po [] r H0.out H.out).mono ?_); rintro e_ wn ⟨rfl, h⟩; replace H := Lib.hid h; clear h))
  go_ret3
  exact ⟨rfl, H.out.p1.drop.drop.drop⟩

end Go.Proofs.Ytombolmicfjjpaa

/- Which topics rise (pure). -/
namespace Go.Proofs.Ytombolmicfjjpaa
open Go.RowKit

theorem riseE_tT {l : List (TopS × Value)} (hz : ((l.length : Int) == 0) = false) (hr : tRise (l.map (·.1)) = true) : riseE (l.map (·.1)) = 0 := by
  unfold riseE
  rw [if_neg (by intro h; rw [List.map_eq_nil_iff] at h; subst h; cases hz), hr]
  rfl
theorem riseE_fT {l : List (TopS × Value)} (hz : ((l.length : Int) == 0) = false) (hr : tRise (l.map (·.1)) = false) : riseE (l.map (·.1)) = 13 := by
  unfold riseE
  rw [if_neg (by intro h; rw [List.map_eq_nil_iff] at h; subst h; cases hz), hr]
  rfl
theorem riseE_zT {l : List (TopS × Value)} (hz : ((l.length : Int) == 0) = true) : riseE (l.map (·.1)) = 10 := by
  have h1 : (l.length : Int) = 0 := by simpa using hz
  have h2 : l = [] := List.length_eq_zero_iff.1 (by omega)
  subst h2
  rfl

end Go.Proofs.Ytombolmicfjjpaa

/- Requests of transactions, by definition: Add and End. -/
namespace Go.Proofs.Ytombolmicfjjpaa
open Go.RowKit

set_option maxHeartbeats 8000000 in
set_option maxRecDepth 100000 in
theorem ref18_check24 (v : Int) (nl : Bool) (d : Bs) (tm p e : Int) (l : List (TopS × Value)) (q : Option Addr) (cap : Nat) (c : Bool) (r : Int) (hr : reqE 24 v nl d tm p e (l.map (·.1)) = r) (hf : FewT l) {W0 w : World} {K : Know} {L : List Res} (hk : K.has (Know.tops (.slice q l.length cap) l)) (h : St W0 w K L) :
    Calls Try.prog 40 #[.int .i64 24, .int .i64 v, .agg #[.bool nl, .string (bb d), .int .i64 tm, .int .i64 p, .int .i64 e, .slice q l.length cap, .bool c]] w fun en w' => en = .returned (.int .i64 r) ∧ St W0 w' K L := by
  have H := Lib.hid (h.allocRaw #[.bool nl, .string (bb d), .int .i64 tm, .int .i64 p, .int .i64 e, .slice q l.length cap, .bool c] 66)
  have HF := Lib.hid hf
  have HK := Lib.hid hk
  clear h hf hk
  cases nl with
  | true =>
    have HNM := Lib.hid (show (!true && keyRight d) = false from rfl)
    obtain rfl : (4 : Int) = r := hr
    go_enter Try.func40, Try.ntmps40
    go_wp2_with (first
    | (go_at_call 97; (with_reducible refine (ref18_named true d _ HNM.out H.out).mono ?_); rintro e_ wn ⟨rfl, h⟩; have c0 := h.rawCell 0; have c1 := h.rawCell 1; have c2 := h.rawCell 2; have c3 := h.rawCell 3; have c4 := h.rawCell 4; have c5 := h.rawCell 5; have c6 := h.rawCell 6; simp at c0 c1 c2 c3 c4 c5 c6; replace H := Lib.hid h; clear h))
    go_ret
    exact ⟨rfl, H.out.drop⟩
  | false =>
    obtain ⟨kr, hkr⟩ : ∃ kr, keyRight d = kr := ⟨_, rfl⟩
    have HNM := Lib.hid (show (!false && keyRight d) = kr from hkr)
    obtain ⟨wr, hwr⟩ : ∃ wr, who p e = wr := ⟨_, rfl⟩
    have HW := Lib.hid hwr
    have hcw : chkW d p e = if kr = false then 4 else if wr = false then 11 else 0 := by unfold chkW; rw [hkr, hwr]
    have hr : addE d p e (l.map (·.1)) = r := hr
    unfold addE at hr
    rw [hcw] at hr
    clear hkr hwr hcw
    cases kr with
    | false =>
      obtain rfl : (4 : Int) = r := hr
      go_enter Try.func40, Try.ntmps40
      go_wp2_with (first
    | (go_at_call 97; (with_reducible refine (ref18_named false d _ HNM.out H.out).mono ?_); rintro e_ wn ⟨rfl, h⟩; have c0 := h.rawCell 0; have c1 := h.rawCell 1; have c2 := h.rawCell 2; have c3 := h.rawCell 3; have c4 := h.rawCell 4; have c5 := h.rawCell 5; have c6 := h.rawCell 6; simp at c0 c1 c2 c3 c4 c5 c6; replace H := Lib.hid h; clear h))
      go_ret
      exact ⟨rfl, H.out.drop⟩
    | true =>
      cases wr with
      | false =>
        obtain rfl : (11 : Int) = r := hr
        go_enter Try.func40, Try.ntmps40
        go_wp2_with (first
    | (go_at_call 97; (with_reducible refine (ref18_named false d _ HNM.out H.out).mono ?_); rintro e_ wn ⟨rfl, h⟩; have c0 := h.rawCell 0; have c1 := h.rawCell 1; have c2 := h.rawCell 2; have c3 := h.rawCell 3; have c4 := h.rawCell 4; have c5 := h.rawCell 5; have c6 := h.rawCell 6; simp at c0 c1 c2 c3 c4 c5 c6; replace H := Lib.hid h; clear h)
    | (go_at_call 98; (with_reducible refine (ref18_who false d tm p e q l.length cap c _ HW.out H.out).mono ?_); rintro e_ wn ⟨rfl, h⟩; have c0 := h.rawCell 0; have c1 := h.rawCell 1; have c2 := h.rawCell 2; have c3 := h.rawCell 3; have c4 := h.rawCell 4; have c5 := h.rawCell 5; have c6 := h.rawCell 6; simp at c0 c1 c2 c3 c4 c5 c6; replace H := Lib.hid h; clear h))
        go_ret
        exact ⟨rfl, H.out.drop⟩
      | true =>
        have hr : riseE (l.map (·.1)) = r := hr
        cases hz : ((l.length : Int) == 0) with
        | true =>
          obtain rfl : (10 : Int) = r := (riseE_zT hz).symm.trans hr
          clear hr
          go_enter Try.func40, Try.ntmps40
          go_wp2_with (first
    | (go_at_call 97; (with_reducible refine (ref18_named false d _ HNM.out H.out).mono ?_); rintro e_ wn ⟨rfl, h⟩; have c0 := h.rawCell 0; have c1 := h.rawCell 1; have c2 := h.rawCell 2; have c3 := h.rawCell 3; have c4 := h.rawCell 4; have c5 := h.rawCell 5; have c6 := h.rawCell 6; simp at c0 c1 c2 c3 c4 c5 c6; replace H := Lib.hid h; clear h)
    | (go_at_call 98; (with_reducible refine (ref18_who false d tm p e q l.length cap c _ HW.out H.out).mono ?_); rintro e_ wn ⟨rfl, h⟩; have c0 := h.rawCell 0; have c1 := h.rawCell 1; have c2 := h.rawCell 2; have c3 := h.rawCell 3; have c4 := h.rawCell 4; have c5 := h.rawCell 5; have c6 := h.rawCell 6; simp at c0 c1 c2 c3 c4 c5 c6; replace H := Lib.hid h; clear h))
          go_ret
          exact ⟨rfl, H.out.drop⟩
        | false =>
          obtain ⟨rr, hrr⟩ : ∃ rr, tRise (l.map (·.1)) = rr := ⟨_, rfl⟩
          have HRI := Lib.hid hrr
          cases rr with
          | true =>
            obtain rfl : (0 : Int) = r := (riseE_tT hz hrr).symm.trans hr
            clear hr hrr
            go_enter Try.func40, Try.ntmps40
            go_wp2_with (first
    | (go_at_call 97; (with_reducible refine (ref18_named false d _ HNM.out H.out).mono ?_); rintro e_ wn ⟨rfl, h⟩; have c0 := h.rawCell 0; have c1 := h.rawCell 1; have c2 := h.rawCell 2; have c3 := h.rawCell 3; have c4 := h.rawCell 4; have c5 := h.rawCell 5; have c6 := h.rawCell 6; simp at c0 c1 c2 c3 c4 c5 c6; replace H := Lib.hid h; clear h)
    | (go_at_call 98; (with_reducible refine (ref18_who false d tm p e q l.length cap c _ HW.out H.out).mono ?_); rintro e_ wn ⟨rfl, h⟩; have c0 := h.rawCell 0; have c1 := h.rawCell 1; have c2 := h.rawCell 2; have c3 := h.rawCell 3; have c4 := h.rawCell 4; have c5 := h.rawCell 5; have c6 := h.rawCell 6; simp at c0 c1 c2 c3 c4 c5 c6; replace H := Lib.hid h; clear h)
    | (go_at_call 45; (with_reducible refine (ref14_rise l q cap _ HRI.out HF.out HK.out H.out).mono ?_); rintro e_ wn ⟨rfl, h⟩; have c0 := h.rawCell 0; have c1 := h.rawCell 1; have c2 := h.rawCell 2; have c3 := h.rawCell 3; have c4 := h.rawCell 4; have c5 := h.rawCell 5; have c6 := h.rawCell 6; simp at c0 c1 c2 c3 c4 c5 c6; replace H := Lib.hid h; clear h))
            go_ret
            exact ⟨rfl, H.out.drop⟩
          | false =>
            obtain rfl : (13 : Int) = r := (riseE_fT hz hrr).symm.trans hr
            clear hr hrr
            go_enter Try.func40, Try.ntmps40
            go_wp2_with (first
    | (go_at_call 97; (with_reducible refine (ref18_named false d _ HNM.out H.out).mono ?_); rintro e_ wn ⟨rfl, h⟩; have c0 := h.rawCell 0; have c1 := h.rawCell 1; have c2 := h.rawCell 2; have c3 := h.rawCell 3; have c4 := h.rawCell 4; have c5 := h.rawCell 5; have c6 := h.rawCell 6; simp at c0 c1 c2 c3 c4 c5 c6; replace H := Lib.hid h; clear h)
    | (go_at_call 98; (with_reducible refine (ref18_who false d tm p e q l.length cap c _ HW.out H.out).mono ?_); rintro e_ wn ⟨rfl, h⟩; have c0 := h.rawCell 0; have c1 := h.rawCell 1; have c2 := h.rawCell 2; have c3 := h.rawCell 3; have c4 := h.rawCell 4; have c5 := h.rawCell 5; have c6 := h.rawCell 6; simp at c0 c1 c2 c3 c4 c5 c6; replace H := Lib.hid h; clear h)
    | (go_at_call 45; (with_reducible refine (ref14_rise l q cap _ HRI.out HF.out HK.out H.out).mono ?_); rintro e_ wn ⟨rfl, h⟩; have c0 := h.rawCell 0; have c1 := h.rawCell 1; have c2 := h.rawCell 2; have c3 := h.rawCell 3; have c4 := h.rawCell 4; have c5 := h.rawCell 5; have c6 := h.rawCell 6; simp at c0 c1 c2 c3 c4 c5 c6; replace H := Lib.hid h; clear h))
            go_ret
            exact ⟨rfl, H.out.drop⟩

set_option maxHeartbeats 8000000 in
set_option maxRecDepth 100000 in
theorem ref18_check26 (v : Int) (nl : Bool) (d : Bs) (tm p e : Int) (l : List (TopS × Value)) (q : Option Addr) (cap : Nat) (c : Bool) (r : Int) (hr : reqE 26 v nl d tm p e (l.map (·.1)) = r) (hf : FewT l) {W0 w : World} {K : Know} {L : List Res} (hk : K.has (Know.tops (.slice q l.length cap) l)) (h : St W0 w K L) :
    Calls Try.prog 40 #[.int .i64 26, .int .i64 v, .agg #[.bool nl, .string (bb d), .int .i64 tm, .int .i64 p, .int .i64 e, .slice q l.length cap, .bool c]] w fun en w' => en = .returned (.int .i64 r) ∧ St W0 w' K L := by
  have H := Lib.hid (h.allocRaw #[.bool nl, .string (bb d), .int .i64 tm, .int .i64 p, .int .i64 e, .slice q l.length cap, .bool c] 66)
  have HF := Lib.hid hf
  have HK := Lib.hid hk
  clear h hf hk
  cases nl with
  | true =>
    have HNM := Lib.hid (show (!true && keyRight d) = false from rfl)
    obtain rfl : (4 : Int) = r := hr
    go_enter Try.func40, Try.ntmps40
    go_wp2_with (first
    | (go_at_call 97; (with_reducible refine (ref18_named true d _ HNM.out H.out).mono ?_); rintro e_ wn ⟨rfl, h⟩; have c0 := h.rawCell 0; have c1 := h.rawCell 1; have c2 := h.rawCell 2; have c3 := h.rawCell 3; have c4 := h.rawCell 4; have c5 := h.rawCell 5; have c6 := h.rawCell 6; simp at c0 c1 c2 c3 c4 c5 c6; replace H := Lib.hid h; clear h))
    go_ret
    exact ⟨rfl, H.out.drop⟩
  | false =>
    obtain ⟨kr, hkr⟩ : ∃ kr, keyRight d = kr := ⟨_, rfl⟩
    have HNM := Lib.hid (show (!false && keyRight d) = kr from hkr)
    obtain ⟨wr, hwr⟩ : ∃ wr, who p e = wr := ⟨_, rfl⟩
    have HW := Lib.hid hwr
    have hcw : chkW d p e = if kr = false then 4 else if wr = false then 11 else 0 := by unfold chkW; rw [hkr, hwr]
    have hr : chkW d p e = r := hr
    skip
    rw [hcw] at hr
    clear hkr hwr hcw
    cases kr with
    | false =>
      obtain rfl : (4 : Int) = r := hr
      go_enter Try.func40, Try.ntmps40
      go_wp2_with (first
    | (go_at_call 97; (with_reducible refine (ref18_named false d _ HNM.out H.out).mono ?_); rintro e_ wn ⟨rfl, h⟩; have c0 := h.rawCell 0; have c1 := h.rawCell 1; have c2 := h.rawCell 2; have c3 := h.rawCell 3; have c4 := h.rawCell 4; have c5 := h.rawCell 5; have c6 := h.rawCell 6; simp at c0 c1 c2 c3 c4 c5 c6; replace H := Lib.hid h; clear h))
      go_ret
      exact ⟨rfl, H.out.drop⟩
    | true =>
      cases wr with
      | false =>
        obtain rfl : (11 : Int) = r := hr
        go_enter Try.func40, Try.ntmps40
        go_wp2_with (first
    | (go_at_call 97; (with_reducible refine (ref18_named false d _ HNM.out H.out).mono ?_); rintro e_ wn ⟨rfl, h⟩; have c0 := h.rawCell 0; have c1 := h.rawCell 1; have c2 := h.rawCell 2; have c3 := h.rawCell 3; have c4 := h.rawCell 4; have c5 := h.rawCell 5; have c6 := h.rawCell 6; simp at c0 c1 c2 c3 c4 c5 c6; replace H := Lib.hid h; clear h)
    | (go_at_call 98; (with_reducible refine (ref18_who false d tm p e q l.length cap c _ HW.out H.out).mono ?_); rintro e_ wn ⟨rfl, h⟩; have c0 := h.rawCell 0; have c1 := h.rawCell 1; have c2 := h.rawCell 2; have c3 := h.rawCell 3; have c4 := h.rawCell 4; have c5 := h.rawCell 5; have c6 := h.rawCell 6; simp at c0 c1 c2 c3 c4 c5 c6; replace H := Lib.hid h; clear h))
        go_ret
        exact ⟨rfl, H.out.drop⟩
      | true =>
        obtain rfl : (0 : Int) = r := hr
        go_enter Try.func40, Try.ntmps40
        go_wp2_with (first
    | (go_at_call 97; (with_reducible refine (ref18_named false d _ HNM.out H.out).mono ?_); rintro e_ wn ⟨rfl, h⟩; have c0 := h.rawCell 0; have c1 := h.rawCell 1; have c2 := h.rawCell 2; have c3 := h.rawCell 3; have c4 := h.rawCell 4; have c5 := h.rawCell 5; have c6 := h.rawCell 6; simp at c0 c1 c2 c3 c4 c5 c6; replace H := Lib.hid h; clear h)
    | (go_at_call 98; (with_reducible refine (ref18_who false d tm p e q l.length cap c _ HW.out H.out).mono ?_); rintro e_ wn ⟨rfl, h⟩; have c0 := h.rawCell 0; have c1 := h.rawCell 1; have c2 := h.rawCell 2; have c3 := h.rawCell 3; have c4 := h.rawCell 4; have c5 := h.rawCell 5; have c6 := h.rawCell 6; simp at c0 c1 c2 c3 c4 c5 c6; replace H := Lib.hid h; clear h))
        go_ret
        exact ⟨rfl, H.out.drop⟩

end Go.Proofs.Ytombolmicfjjpaa

/- Requests of transactions, by definition: Begin. -/
namespace Go.Proofs.Ytombolmicfjjpaa
open Go.RowKit

set_option maxHeartbeats 8000000 in
set_option maxRecDepth 100000 in
theorem ref18_check22 (v : Int) (nl : Bool) (d : Bs) (tm p e : Int) (l : List (TopS × Value)) (q : Option Addr) (cap : Nat) (c : Bool) (r : Int) (hr : reqE 22 v nl d tm p e (l.map (·.1)) = r) (hf : FewT l) {W0 w : World} {K : Know} {L : List Res} (hk : K.has (Know.tops (.slice q l.length cap) l)) (h : St W0 w K L) :
    Calls Try.prog 40 #[.int .i64 22, .int .i64 v, .agg #[.bool nl, .string (bb d), .int .i64 tm, .int .i64 p, .int .i64 e, .slice q l.length cap, .bool c]] w fun en w' => en = .returned (.int .i64 r) ∧ St W0 w' K L := by
  have H := Lib.hid (h.allocRaw #[.bool nl, .string (bb d), .int .i64 tm, .int .i64 p, .int .i64 e, .slice q l.length cap, .bool c] 66)
  have HF := Lib.hid hf
  have HK := Lib.hid hk
  clear h hf hk
  have hr : begE v nl d tm p e = r := hr
  unfold begE at hr
  cases nl with
  | true =>
    cases d with
    | cons a t =>
      obtain rfl : (4 : Int) = r := hr
      go_enter Try.func40, Try.ntmps40
      go_wp2_with (fail)
      go_ret
      exact ⟨rfl, H.out.drop⟩
    | nil =>
      rw [if_neg (show ¬ idOk true [] = false by decide)] at hr
      by_cases h1 : tm < 0
      · obtain rfl : (11 : Int) = r := by rw [← hr, if_pos (.inl h1)]
        clear hr
        go_enter Try.func40, Try.ntmps40
        go_wp2_with (fail)
        go_ret
        exact ⟨rfl, H.out.drop⟩
      by_cases h2 : 2147483647 < tm
      · obtain rfl : (11 : Int) = r := by rw [← hr, if_pos (.inr h2)]
        clear hr
        go_enter Try.func40, Try.ntmps40
        go_wp2_with (fail)
        go_ret
        exact ⟨rfl, H.out.drop⟩
      rw [if_neg (by omega)] at hr
      obtain ⟨wr, hwr⟩ : ∃ wr, who p e = wr := ⟨_, rfl⟩
      have HW := Lib.hid hwr
      unfold was at hr
      rw [hwr] at hr
      clear hwr
      by_cases h1 : p = -1
      · have g1 : (p == -1) = true := by rw [beq_iff_eq]; exact h1
        by_cases h2 : e = -1
        · have g2 : (e == -1) = true := by rw [beq_iff_eq]; exact h2
          rw [g1, g2] at hr
          clear h1 h2
          obtain rfl : (0 : Int) = r := hr
          go_enter Try.func40, Try.ntmps40
          go_wp2_with (first
    | (go_at_call 98; (with_reducible refine (ref18_who true [] tm p e q l.length cap c _ HW.out H.out).mono ?_); rintro e_ wn ⟨rfl, h⟩; have c0 := h.rawCell 0; have c1 := h.rawCell 1; have c2 := h.rawCell 2; have c3 := h.rawCell 3; have c4 := h.rawCell 4; have c5 := h.rawCell 5; have c6 := h.rawCell 6; simp at c0 c1 c2 c3 c4 c5 c6; replace H := Lib.hid h; clear h))
          go_ret
          exact ⟨rfl, H.out.drop⟩
        · have g2 : (e == -1) = false := by rw [beq_eq_false_iff_ne]; exact h2
          rw [g1, g2] at hr
          clear h1 h2
          by_cases h3 : v = 1
          · have g3 : (v == 1) = true := by rw [beq_iff_eq]; exact h3
            rw [g3] at hr
            clear h3
            cases wr with
            | true =>
              obtain rfl : (0 : Int) = r := hr
              go_enter Try.func40, Try.ntmps40
              go_wp2_with (first
    | (go_at_call 98; (with_reducible refine (ref18_who true [] tm p e q l.length cap c _ HW.out H.out).mono ?_); rintro e_ wn ⟨rfl, h⟩; have c0 := h.rawCell 0; have c1 := h.rawCell 1; have c2 := h.rawCell 2; have c3 := h.rawCell 3; have c4 := h.rawCell 4; have c5 := h.rawCell 5; have c6 := h.rawCell 6; simp at c0 c1 c2 c3 c4 c5 c6; replace H := Lib.hid h; clear h))
              go_ret
              exact ⟨rfl, H.out.drop⟩
            | false =>
              obtain rfl : (11 : Int) = r := hr
              go_enter Try.func40, Try.ntmps40
              go_wp2_with (first
    | (go_at_call 98; (with_reducible refine (ref18_who true [] tm p e q l.length cap c _ HW.out H.out).mono ?_); rintro e_ wn ⟨rfl, h⟩; have c0 := h.rawCell 0; have c1 := h.rawCell 1; have c2 := h.rawCell 2; have c3 := h.rawCell 3; have c4 := h.rawCell 4; have c5 := h.rawCell 5; have c6 := h.rawCell 6; simp at c0 c1 c2 c3 c4 c5 c6; replace H := Lib.hid h; clear h))
              go_ret
              exact ⟨rfl, H.out.drop⟩
          · have g3 : (v == 1) = false := by rw [beq_eq_false_iff_ne]; exact h3
            rw [g3] at hr
            clear h3
            obtain rfl : (11 : Int) = r := hr
            go_enter Try.func40, Try.ntmps40
            go_wp2_with (first
    | (go_at_call 98; (with_reducible refine (ref18_who true [] tm p e q l.length cap c _ HW.out H.out).mono ?_); rintro e_ wn ⟨rfl, h⟩; have c0 := h.rawCell 0; have c1 := h.rawCell 1; have c2 := h.rawCell 2; have c3 := h.rawCell 3; have c4 := h.rawCell 4; have c5 := h.rawCell 5; have c6 := h.rawCell 6; simp at c0 c1 c2 c3 c4 c5 c6; replace H := Lib.hid h; clear h))
            go_ret
            exact ⟨rfl, H.out.drop⟩
      · have g1 : (p == -1) = false := by rw [beq_eq_false_iff_ne]; exact h1
        rw [g1] at hr
        clear h1
        by_cases h3 : v = 1
        · have g3 : (v == 1) = true := by rw [beq_iff_eq]; exact h3
          rw [g3] at hr
          clear h3
          cases wr with
          | true =>
            obtain rfl : (0 : Int) = r := hr
            go_enter Try.func40, Try.ntmps40
            go_wp2_with (first
    | (go_at_call 98; (with_reducible refine (ref18_who true [] tm p e q l.length cap c _ HW.out H.out).mono ?_); rintro e_ wn ⟨rfl, h⟩; have c0 := h.rawCell 0; have c1 := h.rawCell 1; have c2 := h.rawCell 2; have c3 := h.rawCell 3; have c4 := h.rawCell 4; have c5 := h.rawCell 5; have c6 := h.rawCell 6; simp at c0 c1 c2 c3 c4 c5 c6; replace H := Lib.hid h; clear h))
            go_ret
            exact ⟨rfl, H.out.drop⟩
          | false =>
            obtain rfl : (11 : Int) = r := hr
            go_enter Try.func40, Try.ntmps40
            go_wp2_with (first
    | (go_at_call 98; (with_reducible refine (ref18_who true [] tm p e q l.length cap c _ HW.out H.out).mono ?_); rintro e_ wn ⟨rfl, h⟩; have c0 := h.rawCell 0; have c1 := h.rawCell 1; have c2 := h.rawCell 2; have c3 := h.rawCell 3; have c4 := h.rawCell 4; have c5 := h.rawCell 5; have c6 := h.rawCell 6; simp at c0 c1 c2 c3 c4 c5 c6; replace H := Lib.hid h; clear h))
            go_ret
            exact ⟨rfl, H.out.drop⟩
        · have g3 : (v == 1) = false := by rw [beq_eq_false_iff_ne]; exact h3
          rw [g3] at hr
          clear h3
          obtain rfl : (11 : Int) = r := hr
          go_enter Try.func40, Try.ntmps40
          go_wp2_with (first
    | (go_at_call 98; (with_reducible refine (ref18_who true [] tm p e q l.length cap c _ HW.out H.out).mono ?_); rintro e_ wn ⟨rfl, h⟩; have c0 := h.rawCell 0; have c1 := h.rawCell 1; have c2 := h.rawCell 2; have c3 := h.rawCell 3; have c4 := h.rawCell 4; have c5 := h.rawCell 5; have c6 := h.rawCell 6; simp at c0 c1 c2 c3 c4 c5 c6; replace H := Lib.hid h; clear h))
          go_ret
          exact ⟨rfl, H.out.drop⟩
  | false =>
    obtain ⟨kr, hkr⟩ : ∃ kr, keyRight d = kr := ⟨_, rfl⟩
    have HNM := Lib.hid (show (!false && keyRight d) = kr from hkr)
    rw [show idOk false d = kr from hkr] at hr
    clear hkr
    cases kr with
    | false =>
      obtain rfl : (4 : Int) = r := hr
      go_enter Try.func40, Try.ntmps40
      go_wp2_with (first
    | (go_at_call 97; (with_reducible refine (ref18_named false d _ HNM.out H.out).mono ?_); rintro e_ wn ⟨rfl, h⟩; have c0 := h.rawCell 0; have c1 := h.rawCell 1; have c2 := h.rawCell 2; have c3 := h.rawCell 3; have c4 := h.rawCell 4; have c5 := h.rawCell 5; have c6 := h.rawCell 6; simp at c0 c1 c2 c3 c4 c5 c6; replace H := Lib.hid h; clear h))
      go_ret
      exact ⟨rfl, H.out.drop⟩
    | true =>
      rw [if_neg (show ¬ true = false by decide)] at hr
      by_cases h1 : tm < 0
      · obtain rfl : (11 : Int) = r := by rw [← hr, if_pos (.inl h1)]
        clear hr
        go_enter Try.func40, Try.ntmps40
        go_wp2_with (first
    | (go_at_call 97; (with_reducible refine (ref18_named false d _ HNM.out H.out).mono ?_); rintro e_ wn ⟨rfl, h⟩; have c0 := h.rawCell 0; have c1 := h.rawCell 1; have c2 := h.rawCell 2; have c3 := h.rawCell 3; have c4 := h.rawCell 4; have c5 := h.rawCell 5; have c6 := h.rawCell 6; simp at c0 c1 c2 c3 c4 c5 c6; replace H := Lib.hid h; clear h))
        go_ret
        exact ⟨rfl, H.out.drop⟩
      by_cases h2 : 2147483647 < tm
      · obtain rfl : (11 : Int) = r := by rw [← hr, if_pos (.inr h2)]
        clear hr
        go_enter Try.func40, Try.ntmps40
        go_wp2_with (first
    | (go_at_call 97; (with_reducible refine (ref18_named false d _ HNM.out H.out).mono ?_); rintro e_ wn ⟨rfl, h⟩; have c0 := h.rawCell 0; have c1 := h.rawCell 1; have c2 := h.rawCell 2; have c3 := h.rawCell 3; have c4 := h.rawCell 4; have c5 := h.rawCell 5; have c6 := h.rawCell 6; simp at c0 c1 c2 c3 c4 c5 c6; replace H := Lib.hid h; clear h))
        go_ret
        exact ⟨rfl, H.out.drop⟩
      rw [if_neg (by omega)] at hr
      obtain ⟨wr, hwr⟩ : ∃ wr, who p e = wr := ⟨_, rfl⟩
      have HW := Lib.hid hwr
      unfold was at hr
      rw [hwr] at hr
      clear hwr
      by_cases h1 : p = -1
      · have g1 : (p == -1) = true := by rw [beq_iff_eq]; exact h1
        by_cases h2 : e = -1
        · have g2 : (e == -1) = true := by rw [beq_iff_eq]; exact h2
          rw [g1, g2] at hr
          clear h1 h2
          obtain rfl : (0 : Int) = r := hr
          go_enter Try.func40, Try.ntmps40
          go_wp2_with (first
    | (go_at_call 97; (with_reducible refine (ref18_named false d _ HNM.out H.out).mono ?_); rintro e_ wn ⟨rfl, h⟩; have c0 := h.rawCell 0; have c1 := h.rawCell 1; have c2 := h.rawCell 2; have c3 := h.rawCell 3; have c4 := h.rawCell 4; have c5 := h.rawCell 5; have c6 := h.rawCell 6; simp at c0 c1 c2 c3 c4 c5 c6; replace H := Lib.hid h; clear h)
    | (go_at_call 98; (with_reducible refine (ref18_who false d tm p e q l.length cap c _ HW.out H.out).mono ?_); rintro e_ wn ⟨rfl, h⟩; have c0 := h.rawCell 0; have c1 := h.rawCell 1; have c2 := h.rawCell 2; have c3 := h.rawCell 3; have c4 := h.rawCell 4; have c5 := h.rawCell 5; have c6 := h.rawCell 6; simp at c0 c1 c2 c3 c4 c5 c6; replace H := Lib.hid h; clear h))
          go_ret
          exact ⟨rfl, H.out.drop⟩
        · have g2 : (e == -1) = false := by rw [beq_eq_false_iff_ne]; exact h2
          rw [g1, g2] at hr
          clear h1 h2
          by_cases h3 : v = 1
          · have g3 : (v == 1) = true := by rw [beq_iff_eq]; exact h3
            rw [g3] at hr
            clear h3
            cases wr with
            | true =>
              obtain rfl : (0 : Int) = r := hr
              go_enter Try.func40, Try.ntmps40
              go_wp2_with (first
    | (go_at_call 97; (with_reducible refine (ref18_named false d _ HNM.out H.out).mono ?_); rintro e_ wn ⟨rfl, h⟩; have c0 := h.rawCell 0; have c1 := h.rawCell 1; have c2 := h.rawCell 2; have c3 := h.rawCell 3; have c4 := h.rawCell 4; have c5 := h.rawCell 5; have c6 := h.rawCell 6; simp at c0 c1 c2 c3 c4 c5 c6; replace H := Lib.hid h; clear h)
    | (go_at_call 98; (with_reducible refine (ref18_who false d tm p e q l.length cap c _ HW.out H.out).mono ?_); rintro e_ wn ⟨rfl, h⟩; have c0 := h.rawCell 0; have c1 := h.rawCell 1; have c2 := h.rawCell 2; have c3 := h.rawCell 3; have c4 := h.rawCell 4; have c5 := h.rawCell 5; have c6 := h.rawCell 6; simp at c0 c1 c2 c3 c4 c5 c6; replace H := Lib.hid h; clear h))
              go_ret
              exact ⟨rfl, H.out.drop⟩
            | false =>
              obtain rfl : (11 : Int) = r := hr
              go_enter Try.func40, Try.ntmps40
              go_wp2_with (first
    | (go_at_call 97; (with_reducible refine (ref18_named false d _ HNM.out H.out).mono ?_); rintro e_ wn ⟨rfl, h⟩; have c0 := h.rawCell 0; have c1 := h.rawCell 1; have c2 := h.rawCell 2; have c3 := h.rawCell 3; have c4 := h.rawCell 4; have c5 := h.rawCell 5; have c6 := h.rawCell 6; simp at c0 c1 c2 c3 c4 c5 c6; replace H := Lib.hid h; clear h)
    | (go_at_call 98; (with_reducible refine (ref18_who false d tm p e q l.length cap c _ HW.out H.out).mono ?_); rintro e_ wn ⟨rfl, h⟩; have c0 := h.rawCell 0; have c1 := h.rawCell 1; have c2 := h.rawCell 2; have c3 := h.rawCell 3; have c4 := h.rawCell 4; have c5 := h.rawCell 5; have c6 := h.rawCell 6; simp at c0 c1 c2 c3 c4 c5 c6; replace H := Lib.hid h; clear h))
              go_ret
              exact ⟨rfl, H.out.drop⟩
          · have g3 : (v == 1) = false := by rw [beq_eq_false_iff_ne]; exact h3
            rw [g3] at hr
            clear h3
            obtain rfl : (11 : Int) = r := hr
            go_enter Try.func40, Try.ntmps40
            go_wp2_with (first
    | (go_at_call 97; (with_reducible refine (ref18_named false d _ HNM.out H.out).mono ?_); rintro e_ wn ⟨rfl, h⟩; have c0 := h.rawCell 0; have c1 := h.rawCell 1; have c2 := h.rawCell 2; have c3 := h.rawCell 3; have c4 := h.rawCell 4; have c5 := h.rawCell 5; have c6 := h.rawCell 6; simp at c0 c1 c2 c3 c4 c5 c6; replace H := Lib.hid h; clear h)
    | (go_at_call 98; (with_reducible refine (ref18_who false d tm p e q l.length cap c _ HW.out H.out).mono ?_); rintro e_ wn ⟨rfl, h⟩; have c0 := h.rawCell 0; have c1 := h.rawCell 1; have c2 := h.rawCell 2; have c3 := h.rawCell 3; have c4 := h.rawCell 4; have c5 := h.rawCell 5; have c6 := h.rawCell 6; simp at c0 c1 c2 c3 c4 c5 c6; replace H := Lib.hid h; clear h))
            go_ret
            exact ⟨rfl, H.out.drop⟩
      · have g1 : (p == -1) = false := by rw [beq_eq_false_iff_ne]; exact h1
        rw [g1] at hr
        clear h1
        by_cases h3 : v = 1
        · have g3 : (v == 1) = true := by rw [beq_iff_eq]; exact h3
          rw [g3] at hr
          clear h3
          cases wr with
          | true =>
            obtain rfl : (0 : Int) = r := hr
            go_enter Try.func40, Try.ntmps40
            go_wp2_with (first
    | (go_at_call 97; (with_reducible refine (ref18_named false d _ HNM.out H.out).mono ?_); rintro e_ wn ⟨rfl, h⟩; have c0 := h.rawCell 0; have c1 := h.rawCell 1; have c2 := h.rawCell 2; have c3 := h.rawCell 3; have c4 := h.rawCell 4; have c5 := h.rawCell 5; have c6 := h.rawCell 6; simp at c0 c1 c2 c3 c4 c5 c6; replace H := Lib.hid h; clear h)
    | (go_at_call 98; (with_reducible refine (ref18_who false d tm p e q l.length cap c _ HW.out H.out).mono ?_); rintro e_ wn ⟨rfl, h⟩; have c0 := h.rawCell 0; have c1 := h.rawCell 1; have c2 := h.rawCell 2; have c3 := h.rawCell 3; have c4 := h.rawCell 4; have c5 := h.rawCell 5; have c6 := h.rawCell 6; simp at c0 c1 c2 c3 c4 c5 c6; replace H := Lib.hid h; clear h))
            go_ret
            exact ⟨rfl, H.out.drop⟩
          | false =>
            obtain rfl : (11 : Int) = r := hr
            go_enter Try.func40, Try.ntmps40
            go_wp2_with (first
    | (go_at_call 97; (with_reducible refine (ref18_named false d _ HNM.out H.out).mono ?_); rintro e_ wn ⟨rfl, h⟩; have c0 := h.rawCell 0; have c1 := h.rawCell 1; have c2 := h.rawCell 2; have c3 := h.rawCell 3; have c4 := h.rawCell 4; have c5 := h.rawCell 5; have c6 := h.rawCell 6; simp at c0 c1 c2 c3 c4 c5 c6; replace H := Lib.hid h; clear h)
    | (go_at_call 98; (with_reducible refine (ref18_who false d tm p e q l.length cap c _ HW.out H.out).mono ?_); rintro e_ wn ⟨rfl, h⟩; have c0 := h.rawCell 0; have c1 := h.rawCell 1; have c2 := h.rawCell 2; have c3 := h.rawCell 3; have c4 := h.rawCell 4; have c5 := h.rawCell 5; have c6 := h.rawCell 6; simp at c0 c1 c2 c3 c4 c5 c6; replace H := Lib.hid h; clear h))
            go_ret
            exact ⟨rfl, H.out.drop⟩
        · have g3 : (v == 1) = false := by rw [beq_eq_false_iff_ne]; exact h3
          rw [g3] at hr
          clear h3
          obtain rfl : (11 : Int) = r := hr
          go_enter Try.func40, Try.ntmps40
          go_wp2_with (first
    | (go_at_call 97; (with_reducible refine (ref18_named false d _ HNM.out H.out).mono ?_); rintro e_ wn ⟨rfl, h⟩; have c0 := h.rawCell 0; have c1 := h.rawCell 1; have c2 := h.rawCell 2; have c3 := h.rawCell 3; have c4 := h.rawCell 4; have c5 := h.rawCell 5; have c6 := h.rawCell 6; simp at c0 c1 c2 c3 c4 c5 c6; replace H := Lib.hid h; clear h)
    | (go_at_call 98; (with_reducible refine (ref18_who false d tm p e q l.length cap c _ HW.out H.out).mono ?_); rintro e_ wn ⟨rfl, h⟩; have c0 := h.rawCell 0; have c1 := h.rawCell 1; have c2 := h.rawCell 2; have c3 := h.rawCell 3; have c4 := h.rawCell 4; have c5 := h.rawCell 5; have c6 := h.rawCell 6; simp at c0 c1 c2 c3 c4 c5 c6; replace H := Lib.hid h; clear h))
          go_ret
          exact ⟨rfl, H.out.drop⟩

end Go.Proofs.Ytombolmicfjjpaa
