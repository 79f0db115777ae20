/- Values, encoded by definition. -/
import Derived.Test.YtombolmicfjjpaaGTxnReads6
import Derived.Deep.DeepCutAuto
import Derived.Test.YtombolmicfjjpaaGTxnReads4
import Derived.Deep.RegionHeld3
/- Requests of transactions, written. -/
namespace Go.Proofs.Ytombolmicfjjpaa
open Go.RowKit

set_option maxHeartbeats 4000000 in
set_option maxRecDepth 100000 in
theorem beg_write_ok0 (b : Nat) (o o1 o2 : Bs) (nl : Bool) (d : Bs) (tm p e : Int) (h1 : o ++ encF 2 ⟨nl, d⟩ = o1) (h2 : o1 ++ beBytes tm (4 : Int).toNat = o2) (hk : begE 0 nl d tm p e = 0) (hp : p < 9223372036854775808) (hl : o.length ≤ 1000000) {W0 w : World} {K : Know} {L : List Res} (h : St W0 w K (.out b ⟨o, 0⟩ :: L)) :
    Calls Try.prog 92 #[.agg #[.bool nl, .string (bb d), .int .i64 tm, .int .i64 p, .int .i64 e], outPtr b, .int .i64 0] w fun en w' => en = .returned (.tuple #[]) ∧ St W0 w' K (.out b ⟨o2, 0⟩ :: L) := by
  obtain ⟨bB, hbB⟩ : ∃ b, w.heap.size = b := ⟨_, rfl⟩
  obtain ⟨vB, hvB⟩ : ∃ b, bB + 1 = b := ⟨_, rfl⟩
  have g1 := (h.allocRaw #[.bool nl, .string (bb d), .int .i64 tm, .int .i64 p, .int .i64 e] 141).allocRaw #[.int .i64 0] 3
  simp only [World.size_alloc, hbB, hvB] at g1
  have H := Lib.hid (show St W0 _ K (.out b ⟨o, 0⟩ :: .raw vB #[.int .i64 0] 3 :: .raw bB #[.bool nl, .string (bb d), .int .i64 tm, .int .i64 p, .int .i64 e] 141 :: L) from g1.p2)
  clear g1
  have hok := begE_ok hk
  obtain ⟨hil, hri, hfi⟩ := idOk_len hok.1
  have hrg := was_rng hok.2.2
  have HRI := Lib.hid hri
  have HFI := Lib.hid hfi
  have HIL := Lib.hid hil
  have H1 := Lib.hid h1
  have H2 := Lib.hid h2
  have HK_ := Lib.hid hk
  have HIL2 := Lib.hid (show d.length ≤ 140737488355328 by omega)
  have HFT := Lib.hid (vfits4 tm (by omega))
  have hl1 : o1.length = o.length + (d.length + 2) := by rw [← h1, List.length_append]; unfold encF; rw [List.length_append, beBytes_length]; simp only; omega
  have hl2 : o2.length = o1.length + 4 := by rw [← h2, List.length_append, beBytes_length]; rfl
  have HL := Lib.hid (show o.length ≤ 100000000000000 by omega)
  have HL1 := Lib.hid (show o1.length ≤ 100000000000000 by omega)
  have HL2 := Lib.hid (show o2.length ≤ 100000000 by omega)
  have HT := Lib.hid (show ((0 : Int) == 0) = true by rfl)
  have HO := Lib.hid (show (if (0 : Int) = 0 then (⟨o, 0⟩ : OutS) else (⟨o, 0⟩ : OutS).fail 0) = ⟨o, 0⟩ by rfl)
  clear h h1 h2 hk hp hl hl1 hl2 hok hil hri hfi hrg
  go_enter Try.func92, Try.ntmps92
  go_wp2_with (first
    | (go_at_call 116; (with_reducible refine (may_beg b _ _ bB vB 0 nl d tm p e _ _ HK_.out HIL2.out HT.out HO.out H.out).mono ?_); rintro e_ wn ⟨rfl, h⟩; have d0 := h.p2.rawCell 0; have d1 := h.p2.rawCell 1; have d2 := h.p2.rawCell 2; have d3 := h.p2.rawCell 3; have d4 := h.p2.rawCell 4; have dv := h.p1.rawCell 0; simp at d0 d1 d2 d3 d4 dv; replace H := Lib.hid h; clear h)
    | (go_at_call 113; (with_reducible refine (blob_putFixedT b o o1 nl d H1.out HRI.out HFI.out HIL.out HL.out H.out).mono ?_); rintro e_ wn ⟨rfl, h⟩; have d0 := h.p2.rawCell 0; have d1 := h.p2.rawCell 1; have d2 := h.p2.rawCell 2; have d3 := h.p2.rawCell 3; have d4 := h.p2.rawCell 4; have dv := h.p1.rawCell 0; simp at d0 d1 d2 d3 d4 dv; replace H := Lib.hid h; clear h)
    | (go_at_call 69; (with_reducible refine (so_intV b o1 o2 tm 4 H2.out HFT.out HL1.out H.out).mono ?_); rintro e_ wn ⟨rfl, h⟩; have d0 := h.p2.rawCell 0; have d1 := h.p2.rawCell 1; have d2 := h.p2.rawCell 2; have d3 := h.p2.rawCell 3; have d4 := h.p2.rawCell 4; have dv := h.p1.rawCell 0; simp at d0 d1 d2 d3 d4 dv; replace H := Lib.hid h; clear h))
  go_end0
  exact ⟨rfl, H.out.p2.drop.p1.drop⟩

set_option maxHeartbeats 4000000 in
set_option maxRecDepth 100000 in
theorem beg_write_ok1 (b : Nat) (o o1 o2 o3 o4 : Bs) (nl : Bool) (d : Bs) (tm p e : Int) (h1 : o ++ encF 2 ⟨nl, d⟩ = o1) (h2 : o1 ++ beBytes tm (4 : Int).toNat = o2) (h3 : o2 ++ beBytes p (8 : Int).toNat = o3) (h4 : o3 ++ beBytes e (2 : Int).toNat = o4) (hk : begE 1 nl d tm p e = 0) (hp : p < 9223372036854775808) (hl : o.length ≤ 1000000) {W0 w : World} {K : Know} {L : List Res} (h : St W0 w K (.out b ⟨o, 0⟩ :: L)) :
    Calls Try.prog 92 #[.agg #[.bool nl, .string (bb d), .int .i64 tm, .int .i64 p, .int .i64 e], outPtr b, .int .i64 1] w fun en w' => en = .returned (.tuple #[]) ∧ St W0 w' K (.out b ⟨o4, 0⟩ :: L) := by
  obtain ⟨bB, hbB⟩ : ∃ b, w.heap.size = b := ⟨_, rfl⟩
  obtain ⟨vB, hvB⟩ : ∃ b, bB + 1 = b := ⟨_, rfl⟩
  have g1 := (h.allocRaw #[.bool nl, .string (bb d), .int .i64 tm, .int .i64 p, .int .i64 e] 141).allocRaw #[.int .i64 1] 3
  simp only [World.size_alloc, hbB, hvB] at g1
  have H := Lib.hid (show St W0 _ K (.out b ⟨o, 0⟩ :: .raw vB #[.int .i64 1] 3 :: .raw bB #[.bool nl, .string (bb d), .int .i64 tm, .int .i64 p, .int .i64 e] 141 :: L) from g1.p2)
  clear g1
  have hok := begE_ok hk
  obtain ⟨hil, hri, hfi⟩ := idOk_len hok.1
  have hrg := was_rng hok.2.2
  have HRI := Lib.hid hri
  have HFI := Lib.hid hfi
  have HIL := Lib.hid hil
  have H1 := Lib.hid h1
  have H2 := Lib.hid h2
  have HK_ := Lib.hid hk
  have HIL2 := Lib.hid (show d.length ≤ 140737488355328 by omega)
  have HFT := Lib.hid (vfits4 tm (by omega))
  have hl1 : o1.length = o.length + (d.length + 2) := by rw [← h1, List.length_append]; unfold encF; rw [List.length_append, beBytes_length]; simp only; omega
  have hl2 : o2.length = o1.length + 4 := by rw [← h2, List.length_append, beBytes_length]; rfl
  have HL := Lib.hid (show o.length ≤ 100000000000000 by omega)
  have HL1 := Lib.hid (show o1.length ≤ 100000000000000 by omega)
  have HL2 := Lib.hid (show o2.length ≤ 100000000 by omega)
  have HT := Lib.hid (show ((0 : Int) == 0) = true by rfl)
  have HO := Lib.hid (show (if (0 : Int) = 0 then (⟨o, 0⟩ : OutS) else (⟨o, 0⟩ : OutS).fail 0) = ⟨o, 0⟩ by rfl)
  have H3 := Lib.hid h3
  have H4 := Lib.hid h4
  have HF8 := Lib.hid (vfits8 p (by omega))
  have HF2 := Lib.hid (vfits2 e (by omega))
  clear h h1 h2 hk hp hl hl1 hl2 hok hil hri hfi hrg h3 h4
  go_enter Try.func92, Try.ntmps92
  go_wp2_with (first
    | (go_at_call 116; (with_reducible refine (may_beg b _ _ bB vB 1 nl d tm p e _ _ HK_.out HIL2.out HT.out HO.out H.out).mono ?_); rintro e_ wn ⟨rfl, h⟩; have d0 := h.p2.rawCell 0; have d1 := h.p2.rawCell 1; have d2 := h.p2.rawCell 2; have d3 := h.p2.rawCell 3; have d4 := h.p2.rawCell 4; have dv := h.p1.rawCell 0; simp at d0 d1 d2 d3 d4 dv; replace H := Lib.hid h; clear h)
    | (go_at_call 113; (with_reducible refine (blob_putFixedT b o o1 nl d H1.out HRI.out HFI.out HIL.out HL.out H.out).mono ?_); rintro e_ wn ⟨rfl, h⟩; have d0 := h.p2.rawCell 0; have d1 := h.p2.rawCell 1; have d2 := h.p2.rawCell 2; have d3 := h.p2.rawCell 3; have d4 := h.p2.rawCell 4; have dv := h.p1.rawCell 0; simp at d0 d1 d2 d3 d4 dv; replace H := Lib.hid h; clear h)
    | (go_at_call 69; (with_reducible refine (so_intV b o1 o2 tm 4 H2.out HFT.out HL1.out H.out).mono ?_); rintro e_ wn ⟨rfl, h⟩; have d0 := h.p2.rawCell 0; have d1 := h.p2.rawCell 1; have d2 := h.p2.rawCell 2; have d3 := h.p2.rawCell 3; have d4 := h.p2.rawCell 4; have dv := h.p1.rawCell 0; simp at d0 d1 d2 d3 d4 dv; replace H := Lib.hid h; clear h)
    | (go_at_call 117; (with_reducible refine (txn_putWriter b o2 o3 o4 p e H3.out H4.out HF8.out HF2.out HL2.out H.out).mono ?_); rintro e_ wn ⟨rfl, h⟩; have d0 := h.p2.rawCell 0; have d1 := h.p2.rawCell 1; have d2 := h.p2.rawCell 2; have d3 := h.p2.rawCell 3; have d4 := h.p2.rawCell 4; have dv := h.p1.rawCell 0; simp at d0 d1 d2 d3 d4 dv; replace H := Lib.hid h; clear h))
  go_end0
  exact ⟨rfl, H.out.p2.drop.p1.drop⟩

set_option maxHeartbeats 4000000 in
set_option maxRecDepth 100000 in
theorem beg_write_bad (b : Nat) (o : Bs) (r : Int) (v : Int) (nl : Bool) (d : Bs) (tm p e : Int) (hr : begE v nl d tm p e = r) (h0 : r ≠ 0) (hil : d.length ≤ 140737488355328) {W0 w : World} {K : Know} {L : List Res} (h : St W0 w K (.out b ⟨o, 0⟩ :: L)) :
    Calls Try.prog 92 #[.agg #[.bool nl, .string (bb d), .int .i64 tm, .int .i64 p, .int .i64 e], outPtr b, .int .i64 v] w fun en w' => en = .returned (.tuple #[]) ∧ St W0 w' K (.out b ⟨o, r⟩ :: L) := by
  obtain ⟨bB, hbB⟩ : ∃ b, w.heap.size = b := ⟨_, rfl⟩
  obtain ⟨vB, hvB⟩ : ∃ b, bB + 1 = b := ⟨_, rfl⟩
  have g1 := (h.allocRaw #[.bool nl, .string (bb d), .int .i64 tm, .int .i64 p, .int .i64 e] 141).allocRaw #[.int .i64 v] 3
  simp only [World.size_alloc, hbB, hvB] at g1
  have H := Lib.hid (show St W0 _ K (.out b ⟨o, 0⟩ :: .raw vB #[.int .i64 v] 3 :: .raw bB #[.bool nl, .string (bb d), .int .i64 tm, .int .i64 p, .int .i64 e] 141 :: L) from g1.p2)
  clear g1
  have HK_ := Lib.hid hr
  have HIL2 := Lib.hid hil
  have g0 : (r == 0) = false := by rw [beq_eq_false_iff_ne]; exact h0
  have HT := Lib.hid g0
  have HO := Lib.hid (show (if r = 0 then (⟨o, 0⟩ : OutS) else (⟨o, 0⟩ : OutS).fail r) = ⟨o, r⟩ by rw [if_neg h0]; rfl)
  clear h hr hil h0 g0
  go_enter Try.func92, Try.ntmps92
  go_wp2_with (first
    | (go_at_call 116; (with_reducible refine (may_beg b _ _ bB vB v nl d tm p e _ _ HK_.out HIL2.out HT.out HO.out H.out).mono ?_); rintro e_ wn ⟨rfl, h⟩; have d0 := h.p2.rawCell 0; have d1 := h.p2.rawCell 1; have d2 := h.p2.rawCell 2; have d3 := h.p2.rawCell 3; have d4 := h.p2.rawCell 4; have dv := h.p1.rawCell 0; simp at d0 d1 d2 d3 d4 dv; replace H := Lib.hid h; clear h))
  (try simp only [Exit.inBlock, Exit.then]); refine bodyPost_ret (results_none rfl _ _ _) rfl ?_
  exact ⟨rfl, H.out.p2.drop.p1.drop⟩

set_option maxHeartbeats 4000000 in
set_option maxRecDepth 100000 in
theorem add_write_ok (b : Nat) (o o1 o2 o3 o4 : Bs) (d : Bs) (p e : Int) (l : List (TopS × Value)) (q : Option Addr) (cap : Nat) (h1 : o ++ encF 2 ⟨false, d⟩ = o1) (h2 : o1 ++ beBytes p (8 : Int).toNat = o2) (h3 : o2 ++ beBytes e (2 : Int).toNat = o3) (h4 : o3 ++ encTs (l.map (·.1)) = o4) (hk0 : addE d p e (l.map (·.1)) = 0) (hp : p < 9223372036854775808) (hl : o.length ≤ 100000) (hf : FewT l) (hfit : FitTs (l.map (·.1))) {W0 w : World} {K : Know} {L : List Res} (hk : K.has (Know.tops (.slice q l.length cap) l)) (h : St W0 w K (.out b ⟨o, 0⟩ :: L)) :
    Calls Try.prog 94 #[.agg #[.string (bb d), .int .i64 p, .int .i64 e, .slice q l.length cap], outPtr b] w fun en w' => en = .returned (.tuple #[]) ∧ St W0 w' K (.out b ⟨o4, 0⟩ :: L) := by
  have hok := addE_ok hk0
  have hcw := chkW_ok hok.1
  have hw := who_t hcw.2
  have hil := ((keyRight_iff d).1 hcw.1).2
  have H := Lib.hid (h.allocRaw #[.string (bb d), .int .i64 p, .int .i64 e, .slice q l.length cap] 144)
  have H1 := Lib.hid h1
  have H2 := Lib.hid h2
  have H3 := Lib.hid h3
  have H4 := Lib.hid h4
  have HK0 := Lib.hid hk0
  have HK := Lib.hid hk
  have HF := Lib.hid hf
  have HFIT := Lib.hid hfit
  have HIL := Lib.hid hil
  have HIL2 := Lib.hid (show d.length ≤ 140737488355328 by omega)
  have HF8 := Lib.hid (vfits8 p (by omega))
  have HF2 := Lib.hid (vfits2 e (by omega))
  have hl1 : o1.length = o.length + (d.length + 2) := by rw [← h1, List.length_append]; unfold encF; rw [List.length_append, beBytes_length]; simp only; omega
  have hl2 : o2.length = o1.length + 8 := by rw [← h2, List.length_append, beBytes_length]; rfl
  have hl3 : o3.length = o2.length + 2 := by rw [← h3, List.length_append, beBytes_length]; rfl
  have HL := Lib.hid (show o.length ≤ 100000000000000 by omega)
  have HL1 := Lib.hid (show o1.length ≤ 100000000 by omega)
  have HL3 := Lib.hid (show o3.length ≤ 1000000 by omega)
  have HT := Lib.hid (show ((0 : Int) == 0) = true by rfl)
  have HO := Lib.hid (show (if (0 : Int) = 0 then (⟨o, 0⟩ : OutS) else (⟨o, 0⟩ : OutS).fail 0) = ⟨o, 0⟩ by rfl)
  clear h h1 h2 h3 h4 hk0 hk hf hfit hil hp hl hl1 hl2 hl3 hw hok hcw
  go_enter Try.func94, Try.ntmps94
  go_wp2_with (first
    | (go_at_call 116; (with_reducible refine (may_add b _ _ d p e l q cap _ _ HK0.out HIL2.out HF.out HT.out HO.out HK.out H.out.p1).mono ?_); rintro e_ wn ⟨rfl, h⟩; have d0 := h.p1.rawCell 0; have d1 := h.p1.rawCell 1; have d2 := h.p1.rawCell 2; have d3 := h.p1.rawCell 3; simp at d0 d1 d2 d3; replace H := Lib.hid h; clear h)
    | (go_at_call 86; (with_reducible refine (blob_putTextV b o o1 d H1.out HIL.out HL.out H.out).mono ?_); rintro e_ wn ⟨rfl, h⟩; have d0 := h.p1.rawCell 0; have d1 := h.p1.rawCell 1; have d2 := h.p1.rawCell 2; have d3 := h.p1.rawCell 3; simp at d0 d1 d2 d3; replace H := Lib.hid h; clear h)
    | (go_at_call 117; (with_reducible refine (txn_putWriter b o1 o2 o3 p e H2.out H3.out HF8.out HF2.out HL1.out H.out).mono ?_); rintro e_ wn ⟨rfl, h⟩; have d0 := h.p1.rawCell 0; have d1 := h.p1.rawCell 1; have d2 := h.p1.rawCell 2; have d3 := h.p1.rawCell 3; simp at d0 d1 d2 d3; replace H := Lib.hid h; clear h)
    | (go_at_call 31; (with_reducible refine (val_putTopics b o3 o4 l q cap H4.out HL3.out HFIT.out HK.out H.out).mono ?_); rintro e_ wn ⟨rfl, h⟩; have d0 := h.p1.rawCell 0; have d1 := h.p1.rawCell 1; have d2 := h.p1.rawCell 2; have d3 := h.p1.rawCell 3; simp at d0 d1 d2 d3; replace H := Lib.hid h; clear h))
  go_end0
  exact ⟨rfl, H.out.p1.drop⟩
set_option maxHeartbeats 4000000 in
set_option maxRecDepth 100000 in
theorem add_write_bad (b : Nat) (o : Bs) (r : Int) (d : Bs) (p e : Int) (l : List (TopS × Value)) (q : Option Addr) (cap : Nat) (hr : addE d p e (l.map (·.1)) = r) (h0 : r ≠ 0) (hil : d.length ≤ 140737488355328) (hf : FewT l) {W0 w : World} {K : Know} {L : List Res} (hk : K.has (Know.tops (.slice q l.length cap) l)) (h : St W0 w K (.out b ⟨o, 0⟩ :: L)) :
    Calls Try.prog 94 #[.agg #[.string (bb d), .int .i64 p, .int .i64 e, .slice q l.length cap], outPtr b] w fun en w' => en = .returned (.tuple #[]) ∧ St W0 w' K (.out b ⟨o, r⟩ :: L) := by
  have H := Lib.hid (h.allocRaw #[.string (bb d), .int .i64 p, .int .i64 e, .slice q l.length cap] 144)
  have HR := Lib.hid hr
  have HK := Lib.hid hk
  have HF := Lib.hid hf
  have HIL2 := Lib.hid hil
  have g0 : (r == 0) = false := by rw [beq_eq_false_iff_ne]; exact h0
  have HT := Lib.hid g0
  have HO := Lib.hid (show (if r = 0 then (⟨o, 0⟩ : OutS) else (⟨o, 0⟩ : OutS).fail r) = ⟨o, r⟩ by rw [if_neg h0]; rfl)
  clear h hr hk hf hil h0 g0
  go_enter Try.func94, Try.ntmps94
  go_wp2_with (go_at_call 116; (with_reducible refine (may_add b _ _ d p e l q cap _ _ HR.out HIL2.out HF.out HT.out HO.out HK.out H.out.p1).mono ?_); rintro e_ wn ⟨rfl, h⟩; have d0 := h.p1.rawCell 0; have d1 := h.p1.rawCell 1; have d2 := h.p1.rawCell 2; have d3 := h.p1.rawCell 3; simp at d0 d1 d2 d3; replace H := Lib.hid h; clear h)
  (try simp only [Exit.inBlock, Exit.then]); refine bodyPost_ret (results_none rfl _ _ _) rfl ?_
  exact ⟨rfl, H.out.p1.drop⟩
set_option maxHeartbeats 4000000 in
set_option maxRecDepth 100000 in
theorem end_write_bad (b : Nat) (o : Bs) (r : Int) (id : Bs) (p e : Int) (c : Bool) (hr : chkW id p e = r) (h0 : r ≠ 0) (hil : id.length ≤ 140737488355328) {W0 w : World} {K : Know} {L : List Res} (h : St W0 w K (.out b ⟨o, 0⟩ :: L)) :
    Calls Try.prog 90 #[.agg #[.string (bb id), .int .i64 p, .int .i64 e, .bool c], outPtr b] w fun en w' => en = .returned (.tuple #[]) ∧ St W0 w' K (.out b ⟨o, r⟩ :: L) := by
  have H := Lib.hid (h.allocRaw #[.string (bb id), .int .i64 p, .int .i64 e, .bool c] 136)
  have HR := Lib.hid hr
  have HIL2 := Lib.hid hil
  have g0 : (r == 0) = false := by rw [beq_eq_false_iff_ne]; exact h0
  have HT := Lib.hid g0
  have HO := Lib.hid (show (if r = 0 then (⟨o, 0⟩ : OutS) else (⟨o, 0⟩ : OutS).fail r) = ⟨o, r⟩ by rw [if_neg h0]; rfl)
  clear h hr hil h0 g0
  go_enter Try.func90, Try.ntmps90
  go_wp2_with (go_at_call 116; (with_reducible refine (may_end b _ _ id p e c _ _ HR.out HT.out HO.out HIL2.out H.out.p1).mono ?_); rintro e_ wn ⟨rfl, h⟩; have d0 := h.p1.rawCell 0; have d1 := h.p1.rawCell 1; have d2 := h.p1.rawCell 2; have d3 := h.p1.rawCell 3; simp at d0 d1 d2 d3; replace H := Lib.hid h; clear h)
  (try simp only [Exit.inBlock, Exit.then]); refine bodyPost_ret (results_none rfl _ _ _) rfl ?_
  exact ⟨rfl, H.out.p1.drop⟩

end Go.Proofs.Ytombolmicfjjpaa

/- Requests of transactions, written for the law. -/
namespace Go.Proofs.Ytombolmicfjjpaa
open Go.RowKit

theorem so_textE (p : Nat) (o : Bs) (r : Int) (h0 : r ≠ 0) {W0 w : World} {K : Know} {L : List Res} (h : St W0 w K (.out p ⟨o, r⟩ :: L)) :
    Calls Try.prog 32 #[outPtr p] w fun en w' => en = .returned (.tuple #[.string ⟨#[]⟩, .int .i64 r]) ∧ St W0 w' K (.out p ⟨o, r⟩ :: L) := by
  have h2 := so_text p ⟨o, r⟩ h
  unfold OutS.text at h2
  simp only [if_neg h0] at h2
  exact h2
theorem so_textT (p : Nat) (e : Bs) {W0 w : World} {K : Know} {L : List Res} (h : St W0 w K (.out p ⟨e, 0⟩ :: L)) :
    Calls Try.prog 32 #[outPtr p] w fun en w' => en = .returned (.tuple #[.string (bb e), .int .i64 0]) ∧ St W0 w' K (.out p ⟨e, 0⟩ :: L) := so_text p ⟨e, 0⟩ h

set_option maxHeartbeats 6000000 in
set_option maxRecDepth 100000 in
theorem l18w_220 (nl : Bool) (d : Bs) (tm p e : Int) (l : List (TopS × Value)) (q : Option Addr) (cap : Nat) (c : Bool) (o1 o2 : Bs) (h1 : [] ++ encF 2 ⟨nl, d⟩ = o1) (h2 : o1 ++ beBytes tm (4 : Int).toNat = o2) (hE : begE 0 nl d tm p e = 0) (hp : p < 9223372036854775808) (hil : d.length ≤ 32767) {W0 w : World} {K : Know} {L : List Res} (hk : K.has (Know.tops (.slice q l.length cap) l)) (h : St W0 w K L) :
    Calls Try.prog 39 #[.int .i64 22, .int .i64 0, .agg #[.bool nl, .string (bb d), .int .i64 tm, .int .i64 p, .int .i64 e, .slice q l.length cap, .bool c]] w fun en w' => en = .returned (.tuple #[.string (bb o2), .int .i64 0, .int .i64 0]) ∧ St W0 w' K L := by
  obtain ⟨rb, hrb⟩ : ∃ b, w.heap.size = b := ⟨_, rfl⟩
  obtain ⟨po, hpo⟩ : ∃ b, rb + 1 = b := ⟨_, rfl⟩
  obtain ⟨bq, hbq⟩ : ∃ b, po + 1 = b := ⟨_, rfl⟩
  have g0 := (h.allocRaw #[.bool nl, .string (bb d), .int .i64 tm, .int .i64 p, .int .i64 e, .slice q l.length cap, .bool c] 66).allocOut
  have g1 := g0.allocRaw #[.bool nl, .string (bb d), .int .i64 tm, .int .i64 p, .int .i64 e] 141
  simp only [World.size_alloc, hrb, hpo, hbq] at g0 g1
  have c0 := g0.p1.rawCell 0; have c1 := g0.p1.rawCell 1; have c2 := g0.p1.rawCell 2; have c3 := g0.p1.rawCell 3; have c4 := g0.p1.rawCell 4; have c5 := g0.p1.rawCell 5; have c6 := g0.p1.rawCell 6; simp at c0 c1 c2 c3 c4 c5 c6
  have H := Lib.hid g1
  have HK := Lib.hid hk
  have H1 := Lib.hid h1
  have H2 := Lib.hid h2
  have HE := Lib.hid hE
  have HP := Lib.hid hp
  have HIL := Lib.hid hil
  have HIL2 := Lib.hid (show d.length ≤ 140737488355328 by omega)
  have HZ := Lib.hid (show ([] : Bs).length ≤ 100000 by decide)
  have HZ6 := Lib.hid (show ([] : Bs).length ≤ 1000000 by decide)
  clear h g0 g1 hk h1 h2 hE hp hil
  go_enter Try.func39, Try.ntmps39
  go_wp2_with (first
    | (go_at_call 92; (with_reducible refine (beg_write_ok0 po [] o1 o2 nl d tm p e H1.out H2.out HE.out HP.out HZ6.out H.out.p1).mono ?_); rintro e_ wn ⟨rfl, h⟩; have d0 := h.p1.rawCell 0; have d1 := h.p1.rawCell 1; have d2 := h.p1.rawCell 2; have d3 := h.p1.rawCell 3; have d4 := h.p1.rawCell 4; simp at d0 d1 d2 d3 d4; replace H := Lib.hid h; clear h)
    | (go_at_call 93; (with_reducible refine (beg_check 0 nl d tm p e _ HE.out HIL2.out H.out).mono ?_); rintro e_ wn ⟨rfl, h⟩; replace H := Lib.hid h; clear h)
    | (go_at_call 32; (with_reducible refine (so_textT po o2 H.out).mono ?_); rintro e_ wn ⟨rfl, h⟩; replace H := Lib.hid h; clear h))
  go_ret3
  exact ⟨rfl, H.out.p1.drop.drop.drop⟩

set_option maxHeartbeats 6000000 in
set_option maxRecDepth 100000 in
theorem l18w_221 (nl : Bool) (d : Bs) (tm p e : Int) (l : List (TopS × Value)) (q : Option Addr) (cap : Nat) (c : Bool) (o1 o2 o3 o4 : Bs) (h1 : [] ++ encF 2 ⟨nl, d⟩ = o1) (h2 : o1 ++ beBytes tm (4 : Int).toNat = o2) (h3 : o2 ++ beBytes p (8 : Int).toNat = o3) (h4 : o3 ++ beBytes e (2 : Int).toNat = o4) (hE : begE 1 nl d tm p e = 0) (hp : p < 9223372036854775808) (hil : d.length ≤ 32767) {W0 w : World} {K : Know} {L : List Res} (hk : K.has (Know.tops (.slice q l.length cap) l)) (h : St W0 w K L) :
    Calls Try.prog 39 #[.int .i64 22, .int .i64 1, .agg #[.bool nl, .string (bb d), .int .i64 tm, .int .i64 p, .int .i64 e, .slice q l.length cap, .bool c]] w fun en w' => en = .returned (.tuple #[.string (bb o4), .int .i64 0, .int .i64 0]) ∧ St W0 w' K L := by
  obtain ⟨rb, hrb⟩ : ∃ b, w.heap.size = b := ⟨_, rfl⟩
  obtain ⟨po, hpo⟩ : ∃ b, rb + 1 = b := ⟨_, rfl⟩
  obtain ⟨bq, hbq⟩ : ∃ b, po + 1 = b := ⟨_, rfl⟩
  have g0 := (h.allocRaw #[.bool nl, .string (bb d), .int .i64 tm, .int .i64 p, .int .i64 e, .slice q l.length cap, .bool c] 66).allocOut
  have g1 := g0.allocRaw #[.bool nl, .string (bb d), .int .i64 tm, .int .i64 p, .int .i64 e] 141
  simp only [World.size_alloc, hrb, hpo, hbq] at g0 g1
  have c0 := g0.p1.rawCell 0; have c1 := g0.p1.rawCell 1; have c2 := g0.p1.rawCell 2; have c3 := g0.p1.rawCell 3; have c4 := g0.p1.rawCell 4; have c5 := g0.p1.rawCell 5; have c6 := g0.p1.rawCell 6; simp at c0 c1 c2 c3 c4 c5 c6
  have H := Lib.hid g1
  have HK := Lib.hid hk
  have H1 := Lib.hid h1
  have H2 := Lib.hid h2
  have H3 := Lib.hid h3
  have H4 := Lib.hid h4
  have HE := Lib.hid hE
  have HP := Lib.hid hp
  have HIL := Lib.hid hil
  have HIL2 := Lib.hid (show d.length ≤ 140737488355328 by omega)
  have HZ := Lib.hid (show ([] : Bs).length ≤ 100000 by decide)
  have HZ6 := Lib.hid (show ([] : Bs).length ≤ 1000000 by decide)
  clear h g0 g1 hk h1 h2 h3 h4 hE hp hil
  go_enter Try.func39, Try.ntmps39
  go_wp2_with (first
    | (go_at_call 92; (with_reducible refine (beg_write_ok1 po [] o1 o2 o3 o4 nl d tm p e H1.out H2.out H3.out H4.out HE.out HP.out HZ6.out H.out.p1).mono ?_); rintro e_ wn ⟨rfl, h⟩; have d0 := h.p1.rawCell 0; have d1 := h.p1.rawCell 1; have d2 := h.p1.rawCell 2; have d3 := h.p1.rawCell 3; have d4 := h.p1.rawCell 4; simp at d0 d1 d2 d3 d4; replace H := Lib.hid h; clear h)
    | (go_at_call 93; (with_reducible refine (beg_check 1 nl d tm p e _ HE.out HIL2.out H.out).mono ?_); rintro e_ wn ⟨rfl, h⟩; replace H := Lib.hid h; clear h)
    | (go_at_call 32; (with_reducible refine (so_textT po o4 H.out).mono ?_); rintro e_ wn ⟨rfl, h⟩; replace H := Lib.hid h; clear h))
  go_ret3
  exact ⟨rfl, H.out.p1.drop.drop.drop⟩

set_option maxHeartbeats 6000000 in
set_option maxRecDepth 100000 in
theorem l18w_22b (v : Int) (nl : Bool) (d : Bs) (tm p e : Int) (l : List (TopS × Value)) (q : Option Addr) (cap : Nat) (c : Bool) (r : Int) (hE : begE v nl d tm p e = r) (h0 : r ≠ 0) (hil : d.length ≤ 140737488355328) {W0 w : World} {K : Know} {L : List Res} (hk : K.has (Know.tops (.slice q l.length cap) l)) (h : St W0 w K L) :
    Calls Try.prog 39 #[.int .i64 22, .int .i64 v, .agg #[.bool nl, .string (bb d), .int .i64 tm, .int .i64 p, .int .i64 e, .slice q l.length cap, .bool c]] w fun en w' => en = .returned (.tuple #[.string ⟨#[]⟩, .int .i64 r, .int .i64 r]) ∧ St W0 w' K L := by
  obtain ⟨rb, hrb⟩ : ∃ b, w.heap.size = b := ⟨_, rfl⟩
  obtain ⟨po, hpo⟩ : ∃ b, rb + 1 = b := ⟨_, rfl⟩
  obtain ⟨bq, hbq⟩ : ∃ b, po + 1 = b := ⟨_, rfl⟩
  have g0 := (h.allocRaw #[.bool nl, .string (bb d), .int .i64 tm, .int .i64 p, .int .i64 e, .slice q l.length cap, .bool c] 66).allocOut
  have g1 := g0.allocRaw #[.bool nl, .string (bb d), .int .i64 tm, .int .i64 p, .int .i64 e] 141
  simp only [World.size_alloc, hrb, hpo, hbq] at g0 g1
  have c0 := g0.p1.rawCell 0; have c1 := g0.p1.rawCell 1; have c2 := g0.p1.rawCell 2; have c3 := g0.p1.rawCell 3; have c4 := g0.p1.rawCell 4; have c5 := g0.p1.rawCell 5; have c6 := g0.p1.rawCell 6; simp at c0 c1 c2 c3 c4 c5 c6
  have H := Lib.hid g1
  have HK := Lib.hid hk
  have HE := Lib.hid hE
  have H0 := Lib.hid h0
  have HIL2 := Lib.hid hil
  clear h g0 g1 hk hE h0 hil
  go_enter Try.func39, Try.ntmps39
  go_wp2_with (first
    | (go_at_call 92; (with_reducible refine (beg_write_bad po [] r v nl d tm p e HE.out H0.out HIL2.out H.out.p1).mono ?_); rintro e_ wn ⟨rfl, h⟩; have d0 := h.p1.rawCell 0; have d1 := h.p1.rawCell 1; have d2 := h.p1.rawCell 2; have d3 := h.p1.rawCell 3; have d4 := h.p1.rawCell 4; simp at d0 d1 d2 d3 d4; replace H := Lib.hid h; clear h)
    | (go_at_call 93; (with_reducible refine (beg_check v nl d tm p e _ HE.out HIL2.out H.out).mono ?_); rintro e_ wn ⟨rfl, h⟩; replace H := Lib.hid h; clear h)
    | (go_at_call 32; (with_reducible refine (so_textE po [] r H0.out H.out).mono ?_); rintro e_ wn ⟨rfl, h⟩; replace H := Lib.hid h; clear h))
  go_ret3
  exact ⟨rfl, H.out.p1.drop.drop.drop⟩

set_option maxHeartbeats 6000000 in
set_option maxRecDepth 100000 in
theorem l18w_24 (v : Int) (nl : Bool) (d : Bs) (tm p e : Int) (l : List (TopS × Value)) (q : Option Addr) (cap : Nat) (c : Bool) (o1 o2 o3 o4 : Bs) (h1 : [] ++ encF 2 ⟨false, d⟩ = o1) (h2 : o1 ++ beBytes p (8 : Int).toNat = o2) (h3 : o2 ++ beBytes e (2 : Int).toNat = o3) (h4 : o3 ++ encTs (l.map (·.1)) = o4) (hE : addE d p e (l.map (·.1)) = 0) (hp : p < 9223372036854775808) (hil : d.length ≤ 32767) (hf : FewT l) (hfit : FitTs (l.map (·.1))) {W0 w : World} {K : Know} {L : List Res} (hk : K.has (Know.tops (.slice q l.length cap) l)) (h : St W0 w K L) :
    Calls Try.prog 39 #[.int .i64 24, .int .i64 v, .agg #[.bool nl, .string (bb d), .int .i64 tm, .int .i64 p, .int .i64 e, .slice q l.length cap, .bool c]] w fun en w' => en = .returned (.tuple #[.string (bb o4), .int .i64 0, .int .i64 0]) ∧ St W0 w' K L := by
  obtain ⟨rb, hrb⟩ : ∃ b, w.heap.size = b := ⟨_, rfl⟩
  obtain ⟨po, hpo⟩ : ∃ b, rb + 1 = b := ⟨_, rfl⟩
  obtain ⟨bq, hbq⟩ : ∃ b, po + 1 = b := ⟨_, rfl⟩
  have g0 := (h.allocRaw #[.bool nl, .string (bb d), .int .i64 tm, .int .i64 p, .int .i64 e, .slice q l.length cap, .bool c] 66).allocOut
  have g1 := g0.allocRaw #[.string (bb d), .int .i64 p, .int .i64 e, .slice q l.length cap] 144
  simp only [World.size_alloc, hrb, hpo, hbq] at g0 g1
  have c0 := g0.p1.rawCell 0; have c1 := g0.p1.rawCell 1; have c2 := g0.p1.rawCell 2; have c3 := g0.p1.rawCell 3; have c4 := g0.p1.rawCell 4; have c5 := g0.p1.rawCell 5; have c6 := g0.p1.rawCell 6; simp at c0 c1 c2 c3 c4 c5 c6
  have H := Lib.hid g1
  have HK := Lib.hid hk
  have H1 := Lib.hid h1
  have H2 := Lib.hid h2
  have H3 := Lib.hid h3
  have H4 := Lib.hid h4
  have HE := Lib.hid hE
  have HP := Lib.hid hp
  have HIL := Lib.hid hil
  have HIL2 := Lib.hid (show d.length ≤ 140737488355328 by omega)
  have HZ := Lib.hid (show ([] : Bs).length ≤ 100000 by decide)
  have HZ6 := Lib.hid (show ([] : Bs).length ≤ 1000000 by decide)
  have HF := Lib.hid hf
  have HFIT := Lib.hid hfit
  clear h g0 g1 hk h1 h2 h3 h4 hE hp hil hf hfit
  go_enter Try.func39, Try.ntmps39
  go_wp2_with (first
    | (go_at_call 94; (with_reducible refine (add_write_ok po [] o1 o2 o3 o4 d p e l q cap H1.out H2.out H3.out H4.out HE.out HP.out HZ.out HF.out HFIT.out HK.out H.out.p1).mono ?_); rintro e_ wn ⟨rfl, h⟩; have d0 := h.p1.rawCell 0; have d1 := h.p1.rawCell 1; have d2 := h.p1.rawCell 2; have d3 := h.p1.rawCell 3; simp at d0 d1 d2 d3; replace H := Lib.hid h; clear h)
    | (go_at_call 95; (with_reducible refine (add_check d p e l q cap _ HE.out HIL2.out HF.out HK.out H.out).mono ?_); rintro e_ wn ⟨rfl, h⟩; replace H := Lib.hid h; clear h)
    | (go_at_call 32; (with_reducible refine (so_textT po o4 H.out).mono ?_); rintro e_ wn ⟨rfl, h⟩; replace H := Lib.hid h; clear h))
  go_ret3
  exact ⟨rfl, H.out.p1.drop.drop.drop⟩

set_option maxHeartbeats 6000000 in
set_option maxRecDepth 100000 in
theorem l18w_24b (v : Int) (nl : Bool) (d : Bs) (tm p e : Int) (l : List (TopS × Value)) (q : Option Addr) (cap : Nat) (c : Bool) (r : Int) (hE : addE d p e (l.map (·.1)) = r) (h0 : r ≠ 0) (hil : d.length ≤ 140737488355328) (hf : FewT l) {W0 w : World} {K : Know} {L : List Res} (hk : K.has (Know.tops (.slice q l.length cap) l)) (h : St W0 w K L) :
    Calls Try.prog 39 #[.int .i64 24, .int .i64 v, .agg #[.bool nl, .string (bb d), .int .i64 tm, .int .i64 p, .int .i64 e, .slice q l.length cap, .bool c]] w fun en w' => en = .returned (.tuple #[.string ⟨#[]⟩, .int .i64 r, .int .i64 r]) ∧ St W0 w' K L := by
  obtain ⟨rb, hrb⟩ : ∃ b, w.heap.size = b := ⟨_, rfl⟩
  obtain ⟨po, hpo⟩ : ∃ b, rb + 1 = b := ⟨_, rfl⟩
  obtain ⟨bq, hbq⟩ : ∃ b, po + 1 = b := ⟨_, rfl⟩
  have g0 := (h.allocRaw #[.bool nl, .string (bb d), .int .i64 tm, .int .i64 p, .int .i64 e, .slice q l.length cap, .bool c] 66).allocOut
  have g1 := g0.allocRaw #[.string (bb d), .int .i64 p, .int .i64 e, .slice q l.length cap] 144
  simp only [World.size_alloc, hrb, hpo, hbq] at g0 g1
  have c0 := g0.p1.rawCell 0; have c1 := g0.p1.rawCell 1; have c2 := g0.p1.rawCell 2; have c3 := g0.p1.rawCell 3; have c4 := g0.p1.rawCell 4; have c5 := g0.p1.rawCell 5; have c6 := g0.p1.rawCell 6; simp at c0 c1 c2 c3 c4 c5 c6
  have H := Lib.hid g1
  have HK := Lib.hid hk
  have HE := Lib.hid hE
  have H0 := Lib.hid h0
  have HIL2 := Lib.hid hil
  have HF := Lib.hid hf
  clear h g0 g1 hk hE h0 hil hf
  go_enter Try.func39, Try.ntmps39
  go_wp2_with (first
    | (go_at_call 94; (with_reducible refine (add_write_bad po [] r d p e l q cap HE.out H0.out HIL2.out HF.out HK.out H.out.p1).mono ?_); rintro e_ wn ⟨rfl, h⟩; have d0 := h.p1.rawCell 0; have d1 := h.p1.rawCell 1; have d2 := h.p1.rawCell 2; have d3 := h.p1.rawCell 3; simp at d0 d1 d2 d3; replace H := Lib.hid h; clear h)
    | (go_at_call 95; (with_reducible refine (add_check d p e l q cap _ HE.out HIL2.out HF.out HK.out H.out).mono ?_); rintro e_ wn ⟨rfl, h⟩; replace H := Lib.hid h; clear h)
    | (go_at_call 32; (with_reducible refine (so_textE po [] r H0.out H.out).mono ?_); rintro e_ wn ⟨rfl, h⟩; replace H := Lib.hid h; clear h))
  go_ret3
  exact ⟨rfl, H.out.p1.drop.drop.drop⟩

set_option maxHeartbeats 6000000 in
set_option maxRecDepth 100000 in
theorem l18w_26 (v : Int) (nl : Bool) (d : Bs) (tm p e : Int) (l : List (TopS × Value)) (q : Option Addr) (cap : Nat) (c : Bool) (o1 o2 o3 o4 : Bs) (h1 : [] ++ encF 2 ⟨false, d⟩ = o1) (h2 : o1 ++ beBytes p (8 : Int).toNat = o2) (h3 : o2 ++ beBytes e (2 : Int).toNat = o3) (h4 : o3 ++ encO c = o4) (hE : chkW d p e = 0) (hp : p < 9223372036854775808) (hil : d.length ≤ 32767) {W0 w : World} {K : Know} {L : List Res} (hk : K.has (Know.tops (.slice q l.length cap) l)) (h : St W0 w K L) :
    Calls Try.prog 39 #[.int .i64 26, .int .i64 v, .agg #[.bool nl, .string (bb d), .int .i64 tm, .int .i64 p, .int .i64 e, .slice q l.length cap, .bool c]] w fun en w' => en = .returned (.tuple #[.string (bb o4), .int .i64 0, .int .i64 0]) ∧ St W0 w' K L := by
  obtain ⟨rb, hrb⟩ : ∃ b, w.heap.size = b := ⟨_, rfl⟩
  obtain ⟨po, hpo⟩ : ∃ b, rb + 1 = b := ⟨_, rfl⟩
  obtain ⟨bq, hbq⟩ : ∃ b, po + 1 = b := ⟨_, rfl⟩
  have g0 := (h.allocRaw #[.bool nl, .string (bb d), .int .i64 tm, .int .i64 p, .int .i64 e, .slice q l.length cap, .bool c] 66).allocOut
  have g1 := g0.allocRaw #[.string (bb d), .int .i64 p, .int .i64 e, .bool c] 136
  simp only [World.size_alloc, hrb, hpo, hbq] at g0 g1
  have c0 := g0.p1.rawCell 0; have c1 := g0.p1.rawCell 1; have c2 := g0.p1.rawCell 2; have c3 := g0.p1.rawCell 3; have c4 := g0.p1.rawCell 4; have c5 := g0.p1.rawCell 5; have c6 := g0.p1.rawCell 6; simp at c0 c1 c2 c3 c4 c5 c6
  have H := Lib.hid g1
  have HK := Lib.hid hk
  have H1 := Lib.hid h1
  have H2 := Lib.hid h2
  have H3 := Lib.hid h3
  have H4 := Lib.hid h4
  have HE := Lib.hid hE
  have HP := Lib.hid hp
  have HIL := Lib.hid hil
  have HIL2 := Lib.hid (show d.length ≤ 140737488355328 by omega)
  have HZ := Lib.hid (show ([] : Bs).length ≤ 100000 by decide)
  have HZ6 := Lib.hid (show ([] : Bs).length ≤ 1000000 by decide)
  clear h g0 g1 hk h1 h2 h3 h4 hE hp hil
  go_enter Try.func39, Try.ntmps39
  go_wp2_with (first
    | (go_at_call 90; (with_reducible refine (end_write_ok po [] o1 o2 o3 o4 d p e c H1.out H2.out H3.out H4.out HE.out HIL.out HP.out HZ6.out H.out.p1).mono ?_); rintro e_ wn ⟨rfl, h⟩; have d0 := h.p1.rawCell 0; have d1 := h.p1.rawCell 1; have d2 := h.p1.rawCell 2; have d3 := h.p1.rawCell 3; simp at d0 d1 d2 d3; replace H := Lib.hid h; clear h)
    | (go_at_call 96; (with_reducible refine (end_check d p e c _ HE.out HIL2.out H.out).mono ?_); rintro e_ wn ⟨rfl, h⟩; replace H := Lib.hid h; clear h)
    | (go_at_call 32; (with_reducible refine (so_textT po o4 H.out).mono ?_); rintro e_ wn ⟨rfl, h⟩; replace H := Lib.hid h; clear h))
  go_ret3
  exact ⟨rfl, H.out.p1.drop.drop.drop⟩

set_option maxHeartbeats 6000000 in
set_option maxRecDepth 100000 in
theorem l18w_26b (v : Int) (nl : Bool) (d : Bs) (tm p e : Int) (l : List (TopS × Value)) (q : Option Addr) (cap : Nat) (c : Bool) (r : Int) (hE : chkW d p e = r) (h0 : r ≠ 0) (hil : d.length ≤ 140737488355328) {W0 w : World} {K : Know} {L : List Res} (hk : K.has (Know.tops (.slice q l.length cap) l)) (h : St W0 w K L) :
    Calls Try.prog 39 #[.int .i64 26, .int .i64 v, .agg #[.bool nl, .string (bb d), .int .i64 tm, .int .i64 p, .int .i64 e, .slice q l.length cap, .bool c]] w fun en w' => en = .returned (.tuple #[.string ⟨#[]⟩, .int .i64 r, .int .i64 r]) ∧ St W0 w' K L := by
  obtain ⟨rb, hrb⟩ : ∃ b, w.heap.size = b := ⟨_, rfl⟩
  obtain ⟨po, hpo⟩ : ∃ b, rb + 1 = b := ⟨_, rfl⟩
  obtain ⟨bq, hbq⟩ : ∃ b, po + 1 = b := ⟨_, rfl⟩
  have g0 := (h.allocRaw #[.bool nl, .string (bb d), .int .i64 tm, .int .i64 p, .int .i64 e, .slice q l.length cap, .bool c] 66).allocOut
  have g1 := g0.allocRaw #[.string (bb d), .int .i64 p, .int .i64 e, .bool c] 136
  simp only [World.size_alloc, hrb, hpo, hbq] at g0 g1
  have c0 := g0.p1.rawCell 0; have c1 := g0.p1.rawCell 1; have c2 := g0.p1.rawCell 2; have c3 := g0.p1.rawCell 3; have c4 := g0.p1.rawCell 4; have c5 := g0.p1.rawCell 5; have c6 := g0.p1.rawCell 6; simp at c0 c1 c2 c3 c4 c5 c6
  have H := Lib.hid g1
  have HK := Lib.hid hk
  have HE := Lib.hid hE
  have H0 := Lib.hid h0
  have HIL2 := Lib.hid hil
  clear h g0 g1 hk hE h0 hil
  go_enter Try.func39, Try.ntmps39
  go_wp2_with (first
    | (go_at_call 90; (with_reducible refine (end_write_bad po [] r d p e c HE.out H0.out HIL2.out H.out.p1).mono ?_); rintro e_ wn ⟨rfl, h⟩; have d0 := h.p1.rawCell 0; have d1 := h.p1.rawCell 1; have d2 := h.p1.rawCell 2; have d3 := h.p1.rawCell 3; simp at d0 d1 d2 d3; replace H := Lib.hid h; clear h)
    | (go_at_call 96; (with_reducible refine (end_check d p e c _ HE.out HIL2.out H.out).mono ?_); rintro e_ wn ⟨rfl, h⟩; replace H := Lib.hid h; clear h)
    | (go_at_call 32; (with_reducible refine (so_textE po [] r H0.out H.out).mono ?_); rintro e_ wn ⟨rfl, h⟩; replace H := Lib.hid h; clear h))
  go_ret3
  exact ⟨rfl, H.out.p1.drop.drop.drop⟩

end Go.Proofs.Ytombolmicfjjpaa

/- Topics, written by definition. -/
namespace Go.Proofs.Ytombolmicfjjpaa
open Go.RowKit

theorem preT_le2 (l : List TopS) (h : FitTs l) (k : Nat) (hk : k ≤ l.length) : (preT l k).length ≤ 100000000000000 := by
  have h1 := preT_le l h k hk
  have h2 := h.1
  omega
set_option maxHeartbeats 2000000 in
set_option maxRecDepth 100000 in
theorem ref14_topics (l : List (TopS × Value)) (q : Option Addr) (cap : Nat) (r : Bs) (hr : encTs (l.map (·.1)) = r) (hf : FitTs (l.map (·.1))) {W0 w : World} {K : Know} {L : List Res} (hk : K.has (Know.tops (.slice q l.length cap) l)) (h : St W0 w K L) :
    Calls Try.prog 33 #[.slice q l.length cap] w fun en w' => en = .returned (.string (bb r)) ∧ St W0 w' K L := by
  have H := Lib.hid h
  have HK := Lib.hid hk
  have HR := Lib.hid hr
  have HF := Lib.hid hf
  have hni : (l.length : Int) ≤ 1000000 := by have := hf.1; rw [List.length_map] at this; omega
  have HRN := Lib.hid (show -9223372036854775808 ≤ (l.length : Int) ∧ (l.length : Int) < 9223372036854775808 by omega)
  have HP00 := Lib.hid (show beBytes (l.length : Int) 4 = preT (l.map (·.1)) 0 by rw [preT_zero, List.length_map])
  clear h hk hr hf
  go_enter Try.func33, Try.ntmps33
  go_wp2_with (go_at_call 75; (with_reducible refine (sr_bytesV (l.length : Int) 4 4 rfl (by decide) _ HP00.out HRN.out H.out).mono ?_); rintro e_ wn ⟨rfl, h⟩; replace H := Lib.hid h; clear h)
  go_loopw [3, 4, 5] (fun sv iv _ wr => ∃ k : Nat, k ≤ l.length ∧ iv = .int .i64 k ∧ sv = .string (bb (preT (l.map (·.1)) k)) ∧ St W0 wr K L) (fun _ iv _ _ => l.length - (intOf iv).toNat)
  case atStart => exact ⟨0, Nat.zero_le _, rfl, rfl, H.out⟩
  case round =>
    obtain ⟨k, hkl, rfl, rfl, hst⟩ := hrel
    clear H
    have H := Lib.hid hst
    clear hst
    by_cases hlt : k < l.length
    · as_aux_lemma =>
      obtain ⟨b, off, hqq⟩ := tops_at HK.out H.out (by omega)
      subst hqq
      obtain ⟨⟨⟨nm, ps⟩, vx⟩, hx⟩ : ∃ x, l[k] = x := ⟨_, rfl⟩
      obtain ⟨c0, c1⟩ : wr.cell? ⟨b, off + k * 2, none⟩ = some (.string (bb nm)) ∧ wr.cell? ⟨b, off + k * 2 + 1, none⟩ = some vx := tops_cell HK.out H.out k hlt _ hx
      have hmem : ((⟨nm, ps⟩ : TopS), vx) ∈ l := hx ▸ List.getElem_mem hlt
      have hxk : K.has (Know.flat RI vx 1 ps) := tops_parts HK.out hmem
      obtain ⟨qx, capx, hvx⟩ := flat_form hxk H.out
      subst hvx
      have HXK := Lib.hid hxk
      have hmk : k < (l.map (·.1)).length := by rw [List.length_map]; exact hlt
      have hmg : (l.map (·.1))[k] = ⟨nm, ps⟩ := by rw [List.getElem_map, hx]
      have hfx : (⟨nm, ps⟩ : TopS).Fit := HF.out.2 _ (hmg ▸ List.getElem_mem hmk)
      have HNM := Lib.hid hfx.1
      have HPL := Lib.hid hfx.2.1
      have HPS := Lib.hid hfx.2.2
      have hkn : (k : Int) < (l.length : Int) := by omega
      have hnl : (nm.length : Int) ≤ 32767 := by have := hfx.1; simp only at this; omega
      have hpl : (ps.length : Int) ≤ 1000000 := by have := hfx.2.1; simp only at this; omega
      have hst1 := preT_step (l.map (·.1)) k hmk _ hmg
      have hle1 := preT_le (l.map (·.1)) HF.out (k + 1) hmk
      have hln : (l.map (·.1)).length ≤ 1000000 := HF.out.1
      simp only at hst1
      obtain ⟨B0, hB0⟩ : ∃ B, preT (l.map (·.1)) k = B := ⟨_, rfl⟩
      obtain ⟨F1, hF1⟩ : ∃ B, encF 2 ⟨false, nm⟩ = B := ⟨_, rfl⟩
      obtain ⟨F2, hF2⟩ : ∃ B, beBytes (ps.length : Int) 4 = B := ⟨_, rfl⟩
      obtain ⟨B1, hB1⟩ : ∃ B, B0 ++ F1 = B := ⟨_, rfl⟩
      obtain ⟨B2, hB2⟩ : ∃ B, B1 ++ F2 = B := ⟨_, rfl⟩
      have HB3 := Lib.hid (show preT (l.map (·.1)) (k + 1) = B2 ++ be4s ps by rw [hst1, ← hB2, ← hB1, ← hB0, ← hF1, ← hF2]; simp only [List.append_assoc])
      have hlen : (B2 ++ be4s ps).length ≤ 100000000000000 := by
        rw [← HB3.out]
        exact preT_le2 _ HF.out _ hmk
      have hl0 : B1.length ≤ 100000000000000 ∧ B2.length + 4 * ps.length ≤ 100000000000000 := by
        rw [List.length_append, be4s_len] at hlen
        rw [← hB2, List.length_append] at hlen ⊢
        omega
      have hl1 := congrArg List.length hB1
      have hl2 := congrArg List.length hB2
      rw [List.length_append] at hl1 hl2
      have hcat1 : bb B0 ++ bb F1 = bb B1 := by rw [← hB1]; exact bb_append _ _
      have hcat2 : bb B1 ++ bb F2 = bb B2 := by rw [← hB2]; exact bb_append _ _
      have hg1 : ¬ (9223372036854775807 < B0.length + F1.length) := by omega
      have hg2 : ¬ (9223372036854775807 < B1.length + F2.length) := by omega
      have HF1 := Lib.hid hF1
      have HF2 := Lib.hid hF2
      have HL0 := Lib.hid hl0
      have HRP := Lib.hid (show -9223372036854775808 ≤ (ps.length : Int) ∧ (ps.length : Int) < 9223372036854775808 by omega)
      have hp0 : ps = [] ∨ ∃ pb poff, qx = some ⟨pb, poff, none⟩ := by
        by_cases hps : ps = []
        · exact .inl hps
        · exact .inr (flat_at HXK.out H.out (List.length_pos_iff.2 hps))
      have HP0 := Lib.hid hp0
      have HKP := Lib.hid (show ∀ w', St W0 w' K L → (w'.cell? ⟨b, off + k * 2, none⟩ = some (.string (bb nm)) ∧ w'.cell? ⟨b, off + k * 2 + 1, none⟩ = some (.slice qx ps.length capx)) from fun w' hs => tops_cell HK.out hs k hlt _ hx)
      rw [hB0]
      clear hx hmem hxk hmk hmg hfx hst1 hle1 hln hB0 hB1 hB2 hF1 hF2 hlen hl0 hp0 hl1 hl2
      go_wp2
      have hs := H.out.drew
      refine wp_region_held_drew (S := fun w' => w'.cell? ⟨b, off + k * 2, none⟩ = some (.string (bb nm)) ∧ w'.cell? ⟨b, off + k * 2 + 1, none⟩ = some (.slice qx ps.length capx)) (by kernel_rfl) (HKP.out _ hs) (fun hHeld => ?_)
      refine wpAnyH_take (i := 0) (oi := { dst := some 15, op := Op.move (Operand.tmp 3), type := 9, pos := "ref.go:61", after := #[], guard := none }) (v := ?_) rfl (by kernel_rfl) (by kernel_rfl) (by kernel_rfl) (fun _ _ _ h => h) (Or.inl ⟨by rfl, ?_⟩) (by assumption) ?_
      rotate_left
      · intro w hSw; (try dsimp only at hSw); go_simp; try with_reducible rfl
      simp only [Act.put, List.setIfInBounds_toArray, List.set_cons_zero, List.set_cons_succ]
      refine wpAnyH_take (i := 1) (oi := { dst := some 16, op := Op.move (Operand.tmp 0), type := 22, pos := "ref.go:61", after := #[], guard := none }) (v := ?_) rfl (by kernel_rfl) (by kernel_rfl) (by kernel_rfl) (fun _ _ _ h => h) (Or.inl ⟨by rfl, ?_⟩) (by assumption) ?_
      rotate_left
      · intro w hSw; (try dsimp only at hSw); go_simp; try with_reducible rfl
      simp only [Act.put, List.setIfInBounds_toArray, List.set_cons_zero, List.set_cons_succ]
      refine wpAnyH_take (i := 2) (oi := { dst := some 17, op := Op.move (Operand.tmp 4), type := 3, pos := "ref.go:61", after := #[], guard := none }) (v := ?_) rfl (by kernel_rfl) (by kernel_rfl) (by kernel_rfl) (fun _ _ _ h => h) (Or.inl ⟨by rfl, ?_⟩) (by assumption) ?_
      rotate_left
      · intro w hSw; (try dsimp only at hSw); go_simp; try with_reducible rfl
      simp only [Act.put, List.setIfInBounds_toArray, List.set_cons_zero, List.set_cons_succ]
      refine wpAnyH_take (i := 3) (oi := { dst := some 18, op := Op.indexAddr 22 (Operand.tmp 16) (Operand.tmp 17), type := 0, pos := "ref.go:61", after := #[{ on := 1, ground := Ground.data }, { on := 2, ground := Ground.data }], guard := none }) (v := ?_) rfl (by kernel_rfl) (by kernel_rfl) (by kernel_rfl) (fun _ _ _ h => h) (Or.inl ⟨by rfl, ?_⟩) (by assumption) ?_
      rotate_left
      · intro w hSw; (try dsimp only at hSw); go_simp; try with_reducible rfl
      simp only [Act.put, List.setIfInBounds_toArray, List.set_cons_zero, List.set_cons_succ]
      refine wpAnyH_take (i := 4) (oi := { dst := some 19, op := Op.fieldAddr 51 (Operand.tmp 18) 0, type := 0, pos := "ref.go:61", after := #[{ on := 3, ground := Ground.data }], guard := none }) (v := ?_) rfl (by kernel_rfl) (by kernel_rfl) (by kernel_rfl) (fun _ _ _ h => h) (Or.inl ⟨by rfl, ?_⟩) (by assumption) ?_
      rotate_left
      · intro w hSw; (try dsimp only at hSw); go_simp; try with_reducible rfl
      simp only [Act.put, List.setIfInBounds_toArray, List.set_cons_zero, List.set_cons_succ]
      refine wpAnyH_take (i := 5) (oi := { dst := some 20, op := Op.load 9 (Operand.tmp 19), type := 9, pos := "ref.go:61", after := #[{ on := 4, ground := Ground.data }], guard := none }) (v := ?_) rfl (by kernel_rfl) (by kernel_rfl) (by kernel_rfl) (fun _ _ _ h => h) (Or.inl ⟨by rfl, ?_⟩) (by assumption) ?_
      rotate_left
      · intro w hSw; (try dsimp only at hSw); go_simp; try with_reducible rfl
      simp only [Act.put, List.setIfInBounds_toArray, List.set_cons_zero, List.set_cons_succ]
      refine wpAnyH_take (i := 6) (oi := { dst := some 21, op := Op.build 64 #[(1, Operand.tmp 20)], type := 64, pos := "ref.go:61", after := #[{ on := 5, ground := Ground.data }], guard := none }) (v := ?_) rfl (by kernel_rfl) (by kernel_rfl) (by kernel_rfl) (fun _ _ _ h => h) (Or.inl ⟨by rfl, ?_⟩) (by assumption) ?_
      rotate_left
      · intro w hSw; (try dsimp only at hSw); go_simp; try with_reducible rfl
      simp only [Act.put, List.setIfInBounds_toArray, List.set_cons_zero, List.set_cons_succ]
      refine wpAnyH_take (i := 9) (oi := { dst := some 24, op := Op.move (Operand.tmp 0), type := 22, pos := "ref.go:61", after := #[], guard := none }) (v := ?_) rfl (by kernel_rfl) (by kernel_rfl) (by kernel_rfl) (fun _ _ _ h => h) (Or.inl ⟨by rfl, ?_⟩) (by assumption) ?_
      rotate_left
      · intro w hSw; (try dsimp only at hSw); go_simp; try with_reducible rfl
      simp only [Act.put, List.setIfInBounds_toArray, List.set_cons_zero, List.set_cons_succ]
      refine wpAnyH_take (i := 10) (oi := { dst := some 25, op := Op.move (Operand.tmp 4), type := 3, pos := "ref.go:61", after := #[], guard := none }) (v := ?_) rfl (by kernel_rfl) (by kernel_rfl) (by kernel_rfl) (fun _ _ _ h => h) (Or.inl ⟨by rfl, ?_⟩) (by assumption) ?_
      rotate_left
      · intro w hSw; (try dsimp only at hSw); go_simp; try with_reducible rfl
      simp only [Act.put, List.setIfInBounds_toArray, List.set_cons_zero, List.set_cons_succ]
      refine wpAnyH_take (i := 11) (oi := { dst := some 26, op := Op.indexAddr 22 (Operand.tmp 24) (Operand.tmp 25), type := 0, pos := "ref.go:61", after := #[{ on := 9, ground := Ground.data }, { on := 10, ground := Ground.data }], guard := none }) (v := ?_) rfl (by kernel_rfl) (by kernel_rfl) (by kernel_rfl) (fun _ _ _ h => h) (Or.inl ⟨by rfl, ?_⟩) (by assumption) ?_
      rotate_left
      · intro w hSw; (try dsimp only at hSw); go_simp; try with_reducible rfl
      simp only [Act.put, List.setIfInBounds_toArray, List.set_cons_zero, List.set_cons_succ]
      refine wpAnyH_take (i := 12) (oi := { dst := some 27, op := Op.fieldAddr 51 (Operand.tmp 26) 1, type := 0, pos := "ref.go:61", after := #[{ on := 11, ground := Ground.data }], guard := none }) (v := ?_) rfl (by kernel_rfl) (by kernel_rfl) (by kernel_rfl) (fun _ _ _ h => h) (Or.inl ⟨by rfl, ?_⟩) (by assumption) ?_
      rotate_left
      · intro w hSw; (try dsimp only at hSw); go_simp; try with_reducible rfl
      simp only [Act.put, List.setIfInBounds_toArray, List.set_cons_zero, List.set_cons_succ]
      refine wpAnyH_take (i := 13) (oi := { dst := some 28, op := Op.load 49 (Operand.tmp 27), type := 49, pos := "ref.go:61", after := #[{ on := 12, ground := Ground.data }], guard := none }) (v := ?_) rfl (by kernel_rfl) (by kernel_rfl) (by kernel_rfl) (fun _ _ _ h => h) (Or.inl ⟨by rfl, ?_⟩) (by assumption) ?_
      rotate_left
      · intro w hSw; (try dsimp only at hSw); go_simp; try with_reducible rfl
      simp only [Act.put, List.setIfInBounds_toArray, List.set_cons_zero, List.set_cons_succ]
      refine wpAnyH_take (i := 14) (oi := { dst := some 29, op := Op.call { callee := Callee.builtin Builtin.len, args := #[Operand.tmp 28], argTypes := #[49] }, type := 3, pos := "ref.go:61", after := #[{ on := 13, ground := Ground.data }], guard := none }) (v := ?_) rfl (by kernel_rfl) (by kernel_rfl) (by kernel_rfl) (fun _ _ _ h => h) (Or.inl ⟨by rfl, ?_⟩) (by assumption) ?_
      rotate_left
      · intro w hSw; (try dsimp only at hSw); go_simp; try with_reducible rfl
      simp only [Act.put, List.setIfInBounds_toArray, List.set_cons_zero, List.set_cons_succ]
      refine wpAnyH_ready (rs := [7]) (by kernel_rfl) (by simp) (AllReadyH.cons (o := { dst := some 22, op := Op.call { callee := Callee.value (Operand.func 87), args := #[Operand.tmp 21, Operand.const (Value.int IntKind.i64 2)], argTypes := #[64, 3] }, type := 9, pos := "ref.go:61", after := #[{ on := 6, ground := Ground.data }], guard := none }) rfl (fun KK hK => ?_) AllReadyH.nil)
      · go_simp
        go_at_call 87
        with_reducible refine (ref04_fixedV nm F1 HF1.out HNM.out hs).mono ?_
        rintro e wq ⟨rfl, hs⟩
        refine hK.out _ _ (HKP.out _ hs) (fun hHeld => ?_)
        clear hK KK
        try simp only [Act.put, List.setIfInBounds_toArray, List.set_cons_zero, List.set_cons_succ]
        refine wpAnyH_take (i := 8) (oi := { dst := some 23, op := Op.binOp BinOp.add 9 (Operand.tmp 15) (Operand.tmp 22) 9, type := 9, pos := "ref.go:61", after := #[{ on := 0, ground := Ground.data }, { on := 7, ground := Ground.data }], guard := none }) (v := ?_) rfl (by kernel_rfl) (by kernel_rfl) (by kernel_rfl) (fun _ _ _ h => h) (Or.inl ⟨by rfl, ?_⟩) (by assumption) ?_
        rotate_left
        · intro w hSw; (try dsimp only at hSw); go_simp; try with_reducible rfl
        simp only [Act.put, List.setIfInBounds_toArray, List.set_cons_zero, List.set_cons_succ]
        refine wpAnyH_ready (rs := [15]) (by kernel_rfl) (by simp) (AllReadyH.cons (o := { dst := some 30, op := Op.call { callee := Callee.value (Operand.func 75), args := #[Operand.tmp 29, Operand.const (Value.int IntKind.i64 4)], argTypes := #[3, 3] }, type := 9, pos := "ref.go:61", after := #[{ on := 14, ground := Ground.data }, { on := 7, ground := Ground.chain }], guard := none }) rfl (fun KK hK => ?_) AllReadyH.nil)
        · go_simp
          go_at_call 75
          with_reducible refine (sr_bytesV (ps.length : Int) 4 4 rfl (by decide) F2 HF2.out HRP.out hs).mono ?_
          rintro e wq ⟨rfl, hs⟩
          refine hK.out _ _ (HKP.out _ hs) (fun hHeld => ?_)
          clear hK KK
          try simp only [Act.put, List.setIfInBounds_toArray, List.set_cons_zero, List.set_cons_succ]
          refine wpAnyH_take (i := 16) (oi := { dst := some 31, op := Op.binOp BinOp.add 9 (Operand.tmp 23) (Operand.tmp 30) 9, type := 9, pos := "ref.go:61", after := #[{ on := 8, ground := Ground.data }, { on := 15, ground := Ground.data }], guard := none }) (v := ?_) rfl (by kernel_rfl) (by kernel_rfl) (by kernel_rfl) (fun _ _ _ h => h) (Or.inl ⟨by rfl, ?_⟩) (by assumption) ?_
          rotate_left
          · intro w hSw; (try dsimp only at hSw); go_simp; try with_reducible rfl
          simp only [Act.put, List.setIfInBounds_toArray, List.set_cons_zero, List.set_cons_succ]
          refine wpAnyH_take (i := 17) (oi := { dst := some 3, op := Op.assign (Operand.tmp 31), type := 9, pos := "ref.go:61", after := #[{ on := 16, ground := Ground.data }, { on := 15, ground := Ground.chain }, { on := 0, ground := Ground.phase }, { on := 1, ground := Ground.phase }, { on := 2, ground := Ground.phase }, { on := 3, ground := Ground.phase }, { on := 4, ground := Ground.phase }, { on := 5, ground := Ground.phase }, { on := 6, ground := Ground.phase }, { on := 7, ground := Ground.phase }, { on := 8, ground := Ground.phase }, { on := 9, ground := Ground.phase }, { on := 10, ground := Ground.phase }, { on := 11, ground := Ground.phase }, { on := 12, ground := Ground.phase }, { on := 13, ground := Ground.phase }, { on := 14, ground := Ground.phase }, { on := 15, ground := Ground.phase }, { on := 16, ground := Ground.phase }], guard := none }) (v := ?_) rfl (by kernel_rfl) (by kernel_rfl) (by kernel_rfl) (fun _ _ _ h => h) (Or.inl ⟨by rfl, ?_⟩) (by assumption) ?_
          rotate_left
          · intro w hSw; (try dsimp only at hSw); go_simp; try with_reducible rfl
          simp only [Act.put, List.setIfInBounds_toArray, List.set_cons_zero, List.set_cons_succ]
          refine wpAnyH_done (by kernel_rfl) ?_ _
          go_wp2_with fail
          clear H
          have H := Lib.hid hs
          clear hs
          go_loopw [3, 5] (fun sv jv wr => ∃ j : Nat, j ≤ ps.length ∧ jv = .int .i64 j ∧ sv = .string (bb (B2 ++ be4s (ps.take j))) ∧ St W0 wr K L) (fun _ jv _ => ps.length - (intOf jv).toNat)
          case atStart => exact ⟨0, Nat.zero_le _, rfl, by rw [List.take_zero]; show _ = Value.string (bb (B2 ++ [])); rw [List.append_nil], H.out⟩
          case round =>
            obtain ⟨j, hjl, rfl, rfl, hst⟩ := hrel
            clear H
            have H := Lib.hid hst
            clear hst
            obtain ⟨c0, c1⟩ := HKP.out _ H.out
            by_cases hlj : j < ps.length
            · have hps : ¬ ps = [] := by rintro rfl; simp at hlj
              rcases HP0.out with hps2 | ⟨pb, poff, hq⟩
              · exact absurd hps2 hps
              subst hq
              have d0 := int_cell HXK.out H.out j hlj
              obtain ⟨x, hx⟩ : ∃ x, ps.getD j 0 = x := ⟨_, rfl⟩
              rw [hx] at d0
              have hxr := HPS.out x (hx ▸ getD_mem ps j hlj)
              have hst := be4s_step ps j hlj x hx
              obtain ⟨C, hC⟩ : ∃ C, B2 ++ be4s (ps.take j) = C := ⟨_, rfl⟩
              obtain ⟨X, hX⟩ : ∃ X, beBytes x 4 = X := ⟨_, rfl⟩
              obtain ⟨D, hD⟩ : ∃ D, C ++ X = D := ⟨_, rfl⟩
              have hcat : bb C ++ bb X = bb D := by rw [← hD]; exact bb_append _ _
              have HD2 := Lib.hid (show B2 ++ be4s (ps.take (j + 1)) = D by rw [hst, ← List.append_assoc, hC, hX, hD])
              have hXl : X.length = 4 := by rw [← hX]; exact beBytes_length x 4
              have hCl : C.length ≤ 100000000000000 := by
                rw [← hC, List.length_append, be4s_len, List.length_take]
                have := HL0.out.2
                omega
              have hg : ¬ (9223372036854775807 < C.length + X.length) := by omega
              have HX := Lib.hid hX
              have HXR := Lib.hid (show -9223372036854775808 ≤ x ∧ x < 9223372036854775808 by omega)
              have hji : (j : Int) < (ps.length : Int) := by omega
              rw [hC]
              clear hC hst hx hps hxr hX hD hXl hCl
              go_wp2_with (go_at_call 75; (with_reducible refine (sr_bytesV x 4 4 rfl (by decide) X HX.out HXR.out H.out).mono ?_); rintro e_ wn ⟨rfl, h⟩; replace H := Lib.hid h; clear h)
              go_roundw
              case rel => exact ⟨j + 1, hlj, by go_num, by rw [HD2.out], H.out⟩
              case measure => first | (simp [intOf]; done) | (simp [intOf]; omega)
            · obtain rfl : j = ps.length := by omega
              rw [List.take_length, ← HB3.out]
              go_wp2
              go_roundw
              case rel => exact ⟨k + 1, hlt, by go_num, rfl, H.out⟩
              case measure => first | (simp [intOf]; done) | (simp [intOf]; omega)
    · obtain rfl : k = l.length := by omega
      rw [show preT (l.map (·.1)) l.length = r by rw [← HR.out, ← preT_all, List.length_map]]
      go_wp2
      go_ret
      exact ⟨rfl, H.out⟩

end Go.Proofs.Ytombolmicfjjpaa

/- Values, encoded by definition. -/
namespace Go.Proofs.Ytombolmicfjjpaa
open Go.RowKit

set_option maxHeartbeats 2000000 in
set_option maxRecDepth 100000 in
theorem ref14_encode (p e t s u st : Int) (l : List (TopS × Value)) (q : Option Addr) (cap : Nat) (he : ValS.err ⟨p, e, t, s, l.map (·.1), u, st⟩ = 0) (hR : ValS.R ⟨p, e, t, s, l.map (·.1), u, st⟩) (hf : FewT l) {W0 w : World} {K : Know} {L : List Res} (hk : K.has (Know.tops (.slice q l.length cap) l)) (h : St W0 w K L) :
    Calls Try.prog 19 #[.agg #[.int .i64 p, .int .i64 e, .int .i64 t, .int .i64 s, .slice q l.length cap, .int .i64 u, .int .i64 st]] w fun en w' => en = .returned (.string (bb (ValS.enc ⟨p, e, t, s, l.map (·.1), u, st⟩))) ∧ St W0 w' K L := by
  have HK := Lib.hid hk
  have HF := Lib.hid hf
  obtain ⟨vb, hvb⟩ : ∃ b, w.heap.size = b := ⟨_, rfl⟩
  have h1 := h.allocRaw #[.int .i64 p, .int .i64 e, .int .i64 t, .int .i64 s, .slice q l.length cap, .int .i64 u, .int .i64 st] 24
  rw [hvb] at h1
  have c0 := (h1).rawCell 0
  have c1 := (h1).rawCell 1
  have c2 := (h1).rawCell 2
  have c3 := (h1).rawCell 3
  have c4 := (h1).rawCell 4
  have c5 := (h1).rawCell 5
  have c6 := (h1).rawCell 6
  simp at c0 c1 c2 c3 c4 c5 c6
  have H := Lib.hid h1
  have hp := ValS.ok_parts _ he
  have hft := fit_of_rise l hf hp.2.2.2.2
  obtain ⟨r1, r2, r3, r4, r5, r6⟩ := hR
  simp only at r1 r2 r3 r4 r5 r6
  have HFT := Lib.hid hft
  obtain ⟨g0, hg0⟩ : ∃ y, beBytes 0 2 = y := ⟨_, rfl⟩
  obtain ⟨g1, hg1⟩ : ∃ y, beBytes p 8 = y := ⟨_, rfl⟩
  obtain ⟨g2, hg2⟩ : ∃ y, beBytes e 2 = y := ⟨_, rfl⟩
  obtain ⟨g3, hg3⟩ : ∃ y, beBytes t 4 = y := ⟨_, rfl⟩
  obtain ⟨g4, hg4⟩ : ∃ y, beBytes s 1 = y := ⟨_, rfl⟩
  obtain ⟨g5, hg5⟩ : ∃ y, encTs (l.map (·.1)) = y := ⟨_, rfl⟩
  obtain ⟨g6, hg6⟩ : ∃ y, beBytes u 8 = y := ⟨_, rfl⟩
  obtain ⟨g7, hg7⟩ : ∃ y, beBytes st 8 = y := ⟨_, rfl⟩
  obtain ⟨y1, hy1⟩ : ∃ y, g0 ++ g1 = y := ⟨_, rfl⟩
  obtain ⟨y2, hy2⟩ : ∃ y, y1 ++ g2 = y := ⟨_, rfl⟩
  obtain ⟨y3, hy3⟩ : ∃ y, y2 ++ g3 = y := ⟨_, rfl⟩
  obtain ⟨y4, hy4⟩ : ∃ y, y3 ++ g4 = y := ⟨_, rfl⟩
  obtain ⟨y5, hy5⟩ : ∃ y, y4 ++ g5 = y := ⟨_, rfl⟩
  obtain ⟨y6, hy6⟩ : ∃ y, y5 ++ g6 = y := ⟨_, rfl⟩
  obtain ⟨y7, hy7⟩ : ∃ y, y6 ++ g7 = y := ⟨_, rfl⟩
  have hye : y7 = ValS.enc ⟨p, e, t, s, l.map (·.1), u, st⟩ := by rw [← hy7, ← hy6, ← hy5, ← hy4, ← hy3, ← hy2, ← hy1, ← hg0, ← hg1, ← hg2, ← hg3, ← hg4, ← hg5, ← hg6, ← hg7]; rfl
  have hTl : g5.length ≤ 5000000000000 := by rw [← hg5, ← preT_all]; have h1 := preT_le _ hft _ (Nat.le_refl _); have h2 := hft.1; omega
  have hn0 : g0.length = 2 := by rw [← hg0]; exact beBytes_length _ _
  have Z0 := Lib.hid hg0
  have N0 := Lib.hid (show -9223372036854775808 ≤ (0 : Int) ∧ (0 : Int) < 9223372036854775808 by decide)
  have hn1 : g1.length = 8 := by rw [← hg1]; exact beBytes_length _ _
  have Z1 := Lib.hid hg1
  have N1 := Lib.hid (show -9223372036854775808 ≤ (p : Int) ∧ (p : Int) < 9223372036854775808 by assumption)
  have hn2 : g2.length = 2 := by rw [← hg2]; exact beBytes_length _ _
  have Z2 := Lib.hid hg2
  have N2 := Lib.hid (show -9223372036854775808 ≤ (e : Int) ∧ (e : Int) < 9223372036854775808 by assumption)
  have hn3 : g3.length = 4 := by rw [← hg3]; exact beBytes_length _ _
  have Z3 := Lib.hid hg3
  have N3 := Lib.hid (show -9223372036854775808 ≤ (t : Int) ∧ (t : Int) < 9223372036854775808 by assumption)
  have hn4 : g4.length = 1 := by rw [← hg4]; exact beBytes_length _ _
  have Z4 := Lib.hid hg4
  have N4 := Lib.hid (show -9223372036854775808 ≤ (s : Int) ∧ (s : Int) < 9223372036854775808 by assumption)
  have Z5 := Lib.hid hg5
  have hn6 : g6.length = 8 := by rw [← hg6]; exact beBytes_length _ _
  have Z6 := Lib.hid hg6
  have N6 := Lib.hid (show -9223372036854775808 ≤ (u : Int) ∧ (u : Int) < 9223372036854775808 by assumption)
  have hn7 : g7.length = 8 := by rw [← hg7]; exact beBytes_length _ _
  have Z7 := Lib.hid hg7
  have N7 := Lib.hid (show -9223372036854775808 ≤ (st : Int) ∧ (st : Int) < 9223372036854775808 by assumption)
  have hl1 := congrArg List.length hy1
  rw [List.length_append] at hl1
  have hcat1 : bb g0 ++ bb g1 = bb y1 := by rw [← hy1]; exact bb_append _ _
  have hl2 := congrArg List.length hy2
  rw [List.length_append] at hl2
  have hcat2 : bb y1 ++ bb g2 = bb y2 := by rw [← hy2]; exact bb_append _ _
  have hl3 := congrArg List.length hy3
  rw [List.length_append] at hl3
  have hcat3 : bb y2 ++ bb g3 = bb y3 := by rw [← hy3]; exact bb_append _ _
  have hl4 := congrArg List.length hy4
  rw [List.length_append] at hl4
  have hcat4 : bb y3 ++ bb g4 = bb y4 := by rw [← hy4]; exact bb_append _ _
  have hl5 := congrArg List.length hy5
  rw [List.length_append] at hl5
  have hcat5 : bb y4 ++ bb g5 = bb y5 := by rw [← hy5]; exact bb_append _ _
  have hl6 := congrArg List.length hy6
  rw [List.length_append] at hl6
  have hcat6 : bb y5 ++ bb g6 = bb y6 := by rw [← hy6]; exact bb_append _ _
  have hl7 := congrArg List.length hy7
  rw [List.length_append] at hl7
  have hcat7 : bb y6 ++ bb g7 = bb y7 := by rw [← hy7]; exact bb_append _ _
  have hgg : ¬ (9223372036854775807 < g0.length + g1.length) ∧ ¬ (9223372036854775807 < y1.length + g2.length) ∧ ¬ (9223372036854775807 < y2.length + g3.length) ∧ ¬ (9223372036854775807 < y3.length + g4.length) ∧ ¬ (9223372036854775807 < y4.length + g5.length) ∧ ¬ (9223372036854775807 < y5.length + g6.length) ∧ ¬ (9223372036854775807 < y6.length + g7.length) := by omega
  obtain ⟨q1, q2, q3, q4, q5, q6, q7⟩ := hgg
  rw [← hye]
  have HKP := Lib.hid (show ∀ w', St W0 w' K (.raw vb #[.int .i64 p, .int .i64 e, .int .i64 t, .int .i64 s, .slice q l.length cap, .int .i64 u, .int .i64 st] 24 :: L) → (w'.cell? ⟨vb, 0, none⟩ = some (.int .i64 p) ∧ w'.cell? ⟨vb, 1, none⟩ = some (.int .i64 e) ∧ w'.cell? ⟨vb, 2, none⟩ = some (.int .i64 t) ∧ w'.cell? ⟨vb, 3, none⟩ = some (.int .i64 s) ∧ w'.cell? ⟨vb, 4, none⟩ = some (.slice q l.length cap) ∧ w'.cell? ⟨vb, 5, none⟩ = some (.int .i64 u) ∧ w'.cell? ⟨vb, 6, none⟩ = some (.int .i64 st)) from fun w' hs => ⟨hs.rawCell 0, hs.rawCell 1, hs.rawCell 2, hs.rawCell 3, hs.rawCell 4, hs.rawCell 5, hs.rawCell 6⟩)
  clear h h1 hk hf he hp hft r1 r2 r3 r4 r5 r6 hTl hye hg0 hn0 hg1 hn1 hg2 hn2 hg3 hn3 hg4 hn4 hg5 hg6 hn6 hg7 hn7 hy1 hl1 hy2 hl2 hy3 hl3 hy4 hl4 hy5 hl5 hy6 hl6 hy7 hl7
  go_enter Try.func19, Try.ntmps19
  go_wp2
  have hs := H.out.drew
  refine wp_region_held_drew (S := fun w' => w'.cell? ⟨vb, 0, none⟩ = some (.int .i64 p) ∧ w'.cell? ⟨vb, 1, none⟩ = some (.int .i64 e) ∧ w'.cell? ⟨vb, 2, none⟩ = some (.int .i64 t) ∧ w'.cell? ⟨vb, 3, none⟩ = some (.int .i64 s) ∧ w'.cell? ⟨vb, 4, none⟩ = some (.slice q l.length cap) ∧ w'.cell? ⟨vb, 5, none⟩ = some (.int .i64 u) ∧ w'.cell? ⟨vb, 6, none⟩ = some (.int .i64 st)) (by kernel_rfl) (HKP.out _ hs) (fun hHeld => ?_)
  refine wpAnyH_take (i := 1) (oi := { dst := some 4, op := Op.fieldAddr 24 (Operand.tmp 1) 0, type := 0, pos := "ref.go:71", after := #[], guard := none }) (v := ?_) rfl (by kernel_rfl) (by kernel_rfl) (by kernel_rfl) (fun _ _ _ h => h) (Or.inl ⟨by rfl, ?_⟩) (by assumption) ?_
  rotate_left
  · intro w hSw; (try dsimp only at hSw); go_simp; try with_reducible rfl
  simp only [Act.put, List.setIfInBounds_toArray, List.set_cons_zero, List.set_cons_succ]
  refine wpAnyH_take (i := 2) (oi := { dst := some 5, op := Op.load 3 (Operand.tmp 4), type := 3, pos := "ref.go:71", after := #[{ on := 1, ground := Ground.data }], guard := none }) (v := ?_) rfl (by kernel_rfl) (by kernel_rfl) (by kernel_rfl) (fun _ _ _ h => h) (Or.inl ⟨by rfl, ?_⟩) (by assumption) ?_
  rotate_left
  · intro w hSw; (try dsimp only at hSw); go_simp; try with_reducible rfl
  simp only [Act.put, List.setIfInBounds_toArray, List.set_cons_zero, List.set_cons_succ]
  refine wpAnyH_take (i := 5) (oi := { dst := some 8, op := Op.fieldAddr 24 (Operand.tmp 1) 1, type := 0, pos := "ref.go:71", after := #[], guard := none }) (v := ?_) rfl (by kernel_rfl) (by kernel_rfl) (by kernel_rfl) (fun _ _ _ h => h) (Or.inl ⟨by rfl, ?_⟩) (by assumption) ?_
  rotate_left
  · intro w hSw; (try dsimp only at hSw); go_simp; try with_reducible rfl
  simp only [Act.put, List.setIfInBounds_toArray, List.set_cons_zero, List.set_cons_succ]
  refine wpAnyH_take (i := 6) (oi := { dst := some 9, op := Op.load 3 (Operand.tmp 8), type := 3, pos := "ref.go:71", after := #[{ on := 5, ground := Ground.data }], guard := none }) (v := ?_) rfl (by kernel_rfl) (by kernel_rfl) (by kernel_rfl) (fun _ _ _ h => h) (Or.inl ⟨by rfl, ?_⟩) (by assumption) ?_
  rotate_left
  · intro w hSw; (try dsimp only at hSw); go_simp; try with_reducible rfl
  simp only [Act.put, List.setIfInBounds_toArray, List.set_cons_zero, List.set_cons_succ]
  refine wpAnyH_take (i := 9) (oi := { dst := some 12, op := Op.fieldAddr 24 (Operand.tmp 1) 2, type := 0, pos := "ref.go:71", after := #[], guard := none }) (v := ?_) rfl (by kernel_rfl) (by kernel_rfl) (by kernel_rfl) (fun _ _ _ h => h) (Or.inl ⟨by rfl, ?_⟩) (by assumption) ?_
  rotate_left
  · intro w hSw; (try dsimp only at hSw); go_simp; try with_reducible rfl
  simp only [Act.put, List.setIfInBounds_toArray, List.set_cons_zero, List.set_cons_succ]
  refine wpAnyH_take (i := 10) (oi := { dst := some 13, op := Op.load 3 (Operand.tmp 12), type := 3, pos := "ref.go:71", after := #[{ on := 9, ground := Ground.data }], guard := none }) (v := ?_) rfl (by kernel_rfl) (by kernel_rfl) (by kernel_rfl) (fun _ _ _ h => h) (Or.inl ⟨by rfl, ?_⟩) (by assumption) ?_
  rotate_left
  · intro w hSw; (try dsimp only at hSw); go_simp; try with_reducible rfl
  simp only [Act.put, List.setIfInBounds_toArray, List.set_cons_zero, List.set_cons_succ]
  refine wpAnyH_take (i := 13) (oi := { dst := some 16, op := Op.fieldAddr 24 (Operand.tmp 1) 3, type := 0, pos := "ref.go:71", after := #[], guard := none }) (v := ?_) rfl (by kernel_rfl) (by kernel_rfl) (by kernel_rfl) (fun _ _ _ h => h) (Or.inl ⟨by rfl, ?_⟩) (by assumption) ?_
  rotate_left
  · intro w hSw; (try dsimp only at hSw); go_simp; try with_reducible rfl
  simp only [Act.put, List.setIfInBounds_toArray, List.set_cons_zero, List.set_cons_succ]
  refine wpAnyH_take (i := 14) (oi := { dst := some 17, op := Op.load 3 (Operand.tmp 16), type := 3, pos := "ref.go:71", after := #[{ on := 13, ground := Ground.data }], guard := none }) (v := ?_) rfl (by kernel_rfl) (by kernel_rfl) (by kernel_rfl) (fun _ _ _ h => h) (Or.inl ⟨by rfl, ?_⟩) (by assumption) ?_
  rotate_left
  · intro w hSw; (try dsimp only at hSw); go_simp; try with_reducible rfl
  simp only [Act.put, List.setIfInBounds_toArray, List.set_cons_zero, List.set_cons_succ]
  refine wpAnyH_take (i := 17) (oi := { dst := some 20, op := Op.fieldAddr 24 (Operand.tmp 1) 4, type := 0, pos := "ref.go:71", after := #[], guard := none }) (v := ?_) rfl (by kernel_rfl) (by kernel_rfl) (by kernel_rfl) (fun _ _ _ h => h) (Or.inl ⟨by rfl, ?_⟩) (by assumption) ?_
  rotate_left
  · intro w hSw; (try dsimp only at hSw); go_simp; try with_reducible rfl
  simp only [Act.put, List.setIfInBounds_toArray, List.set_cons_zero, List.set_cons_succ]
  refine wpAnyH_take (i := 18) (oi := { dst := some 21, op := Op.load 22 (Operand.tmp 20), type := 22, pos := "ref.go:71", after := #[{ on := 17, ground := Ground.data }], guard := none }) (v := ?_) rfl (by kernel_rfl) (by kernel_rfl) (by kernel_rfl) (fun _ _ _ h => h) (Or.inl ⟨by rfl, ?_⟩) (by assumption) ?_
  rotate_left
  · intro w hSw; (try dsimp only at hSw); go_simp; try with_reducible rfl
  simp only [Act.put, List.setIfInBounds_toArray, List.set_cons_zero, List.set_cons_succ]
  refine wpAnyH_take (i := 21) (oi := { dst := some 24, op := Op.fieldAddr 24 (Operand.tmp 1) 5, type := 0, pos := "ref.go:71", after := #[], guard := none }) (v := ?_) rfl (by kernel_rfl) (by kernel_rfl) (by kernel_rfl) (fun _ _ _ h => h) (Or.inl ⟨by rfl, ?_⟩) (by assumption) ?_
  rotate_left
  · intro w hSw; (try dsimp only at hSw); go_simp; try with_reducible rfl
  simp only [Act.put, List.setIfInBounds_toArray, List.set_cons_zero, List.set_cons_succ]
  refine wpAnyH_take (i := 22) (oi := { dst := some 25, op := Op.load 3 (Operand.tmp 24), type := 3, pos := "ref.go:71", after := #[{ on := 21, ground := Ground.data }], guard := none }) (v := ?_) rfl (by kernel_rfl) (by kernel_rfl) (by kernel_rfl) (fun _ _ _ h => h) (Or.inl ⟨by rfl, ?_⟩) (by assumption) ?_
  rotate_left
  · intro w hSw; (try dsimp only at hSw); go_simp; try with_reducible rfl
  simp only [Act.put, List.setIfInBounds_toArray, List.set_cons_zero, List.set_cons_succ]
  refine wpAnyH_take (i := 25) (oi := { dst := some 28, op := Op.fieldAddr 24 (Operand.tmp 1) 6, type := 0, pos := "ref.go:71", after := #[], guard := none }) (v := ?_) rfl (by kernel_rfl) (by kernel_rfl) (by kernel_rfl) (fun _ _ _ h => h) (Or.inl ⟨by rfl, ?_⟩) (by assumption) ?_
  rotate_left
  · intro w hSw; (try dsimp only at hSw); go_simp; try with_reducible rfl
  simp only [Act.put, List.setIfInBounds_toArray, List.set_cons_zero, List.set_cons_succ]
  refine wpAnyH_take (i := 26) (oi := { dst := some 29, op := Op.load 3 (Operand.tmp 28), type := 3, pos := "ref.go:71", after := #[{ on := 25, ground := Ground.data }], guard := none }) (v := ?_) rfl (by kernel_rfl) (by kernel_rfl) (by kernel_rfl) (fun _ _ _ h => h) (Or.inl ⟨by rfl, ?_⟩) (by assumption) ?_
  rotate_left
  · intro w hSw; (try dsimp only at hSw); go_simp; try with_reducible rfl
  simp only [Act.put, List.setIfInBounds_toArray, List.set_cons_zero, List.set_cons_succ]
  refine wpAnyH_ready (rs := [0]) (by kernel_rfl) (by simp) (AllReadyH.cons (o := { dst := some 3, op := Op.call { callee := Callee.value (Operand.func 75), args := #[Operand.const (Value.int IntKind.i64 0), Operand.const (Value.int IntKind.i64 2)], argTypes := #[3, 3] }, type := 9, pos := "ref.go:71", after := #[], guard := none }) rfl (fun KK hK => ?_) AllReadyH.nil)
  · go_simp
    go_at_call 75
    with_reducible refine (sr_bytesV 0 2 2 rfl (by decide) g0 Z0.out N0.out hs).mono ?_
    rintro e wq ⟨rfl, hs⟩
    refine hK.out _ _ (HKP.out _ hs) (fun hHeld => ?_)
    clear hK KK
    try simp only [Act.put, List.setIfInBounds_toArray, List.set_cons_zero, List.set_cons_succ]
    refine wpAnyH_ready (rs := [3]) (by kernel_rfl) (by simp) (AllReadyH.cons (o := { dst := some 6, op := Op.call { callee := Callee.value (Operand.func 75), args := #[Operand.tmp 5, Operand.const (Value.int IntKind.i64 8)], argTypes := #[3, 3] }, type := 9, pos := "ref.go:71", after := #[{ on := 2, ground := Ground.data }, { on := 0, ground := Ground.chain }], guard := none }) rfl (fun KK hK => ?_) AllReadyH.nil)
    · go_simp
      go_at_call 75
      with_reducible refine (sr_bytesV p 8 8 rfl (by decide) g1 Z1.out N1.out hs).mono ?_
      rintro e wq ⟨rfl, hs⟩
      refine hK.out _ _ (HKP.out _ hs) (fun hHeld => ?_)
      clear hK KK
      try simp only [Act.put, List.setIfInBounds_toArray, List.set_cons_zero, List.set_cons_succ]
      refine wpAnyH_take (i := 4) (oi := { dst := some 7, op := Op.binOp BinOp.add 9 (Operand.tmp 3) (Operand.tmp 6) 9, type := 9, pos := "ref.go:71", after := #[{ on := 0, ground := Ground.data }, { on := 3, ground := Ground.data }], guard := none }) (v := ?_) rfl (by kernel_rfl) (by kernel_rfl) (by kernel_rfl) (fun _ _ _ h => h) (Or.inl ⟨by rfl, ?_⟩) (by assumption) ?_
      rotate_left
      · intro w hSw; (try dsimp only at hSw); go_simp; try with_reducible rfl
      simp only [Act.put, List.setIfInBounds_toArray, List.set_cons_zero, List.set_cons_succ]
      refine wpAnyH_ready (rs := [7]) (by kernel_rfl) (by simp) (AllReadyH.cons (o := { dst := some 10, op := Op.call { callee := Callee.value (Operand.func 75), args := #[Operand.tmp 9, Operand.const (Value.int IntKind.i64 2)], argTypes := #[3, 3] }, type := 9, pos := "ref.go:71", after := #[{ on := 6, ground := Ground.data }, { on := 3, ground := Ground.chain }], guard := none }) rfl (fun KK hK => ?_) AllReadyH.nil)
      · go_simp
        go_at_call 75
        with_reducible refine (sr_bytesV e 2 2 rfl (by decide) g2 Z2.out N2.out hs).mono ?_
        rintro e wq ⟨rfl, hs⟩
        refine hK.out _ _ (HKP.out _ hs) (fun hHeld => ?_)
        clear hK KK
        try simp only [Act.put, List.setIfInBounds_toArray, List.set_cons_zero, List.set_cons_succ]
        refine wpAnyH_take (i := 8) (oi := { dst := some 11, op := Op.binOp BinOp.add 9 (Operand.tmp 7) (Operand.tmp 10) 9, type := 9, pos := "ref.go:71", after := #[{ on := 4, ground := Ground.data }, { on := 7, ground := Ground.data }], guard := none }) (v := ?_) rfl (by kernel_rfl) (by kernel_rfl) (by kernel_rfl) (fun _ _ _ h => h) (Or.inl ⟨by rfl, ?_⟩) (by assumption) ?_
        rotate_left
        · intro w hSw; (try dsimp only at hSw); go_simp; try with_reducible rfl
        simp only [Act.put, List.setIfInBounds_toArray, List.set_cons_zero, List.set_cons_succ]
        refine wpAnyH_ready (rs := [11]) (by kernel_rfl) (by simp) (AllReadyH.cons (o := { dst := some 14, op := Op.call { callee := Callee.value (Operand.func 75), args := #[Operand.tmp 13, Operand.const (Value.int IntKind.i64 4)], argTypes := #[3, 3] }, type := 9, pos := "ref.go:71", after := #[{ on := 10, ground := Ground.data }, { on := 7, ground := Ground.chain }], guard := none }) rfl (fun KK hK => ?_) AllReadyH.nil)
        · go_simp
          go_at_call 75
          with_reducible refine (sr_bytesV t 4 4 rfl (by decide) g3 Z3.out N3.out hs).mono ?_
          rintro e wq ⟨rfl, hs⟩
          refine hK.out _ _ (HKP.out _ hs) (fun hHeld => ?_)
          clear hK KK
          try simp only [Act.put, List.setIfInBounds_toArray, List.set_cons_zero, List.set_cons_succ]
          refine wpAnyH_take (i := 12) (oi := { dst := some 15, op := Op.binOp BinOp.add 9 (Operand.tmp 11) (Operand.tmp 14) 9, type := 9, pos := "ref.go:71", after := #[{ on := 8, ground := Ground.data }, { on := 11, ground := Ground.data }], guard := none }) (v := ?_) rfl (by kernel_rfl) (by kernel_rfl) (by kernel_rfl) (fun _ _ _ h => h) (Or.inl ⟨by rfl, ?_⟩) (by assumption) ?_
          rotate_left
          · intro w hSw; (try dsimp only at hSw); go_simp; try with_reducible rfl
          simp only [Act.put, List.setIfInBounds_toArray, List.set_cons_zero, List.set_cons_succ]
          refine wpAnyH_ready (rs := [15]) (by kernel_rfl) (by simp) (AllReadyH.cons (o := { dst := some 18, op := Op.call { callee := Callee.value (Operand.func 75), args := #[Operand.tmp 17, Operand.const (Value.int IntKind.i64 1)], argTypes := #[3, 3] }, type := 9, pos := "ref.go:71", after := #[{ on := 14, ground := Ground.data }, { on := 11, ground := Ground.chain }], guard := none }) rfl (fun KK hK => ?_) AllReadyH.nil)
          · go_simp
            go_at_call 75
            with_reducible refine (sr_bytesV s 1 1 rfl (by decide) g4 Z4.out N4.out hs).mono ?_
            rintro e wq ⟨rfl, hs⟩
            refine hK.out _ _ (HKP.out _ hs) (fun hHeld => ?_)
            clear hK KK
            try simp only [Act.put, List.setIfInBounds_toArray, List.set_cons_zero, List.set_cons_succ]
            refine wpAnyH_take (i := 16) (oi := { dst := some 19, op := Op.binOp BinOp.add 9 (Operand.tmp 15) (Operand.tmp 18) 9, type := 9, pos := "ref.go:71", after := #[{ on := 12, ground := Ground.data }, { on := 15, ground := Ground.data }], guard := none }) (v := ?_) rfl (by kernel_rfl) (by kernel_rfl) (by kernel_rfl) (fun _ _ _ h => h) (Or.inl ⟨by rfl, ?_⟩) (by assumption) ?_
            rotate_left
            · intro w hSw; (try dsimp only at hSw); go_simp; try with_reducible rfl
            simp only [Act.put, List.setIfInBounds_toArray, List.set_cons_zero, List.set_cons_succ]
            refine wpAnyH_ready (rs := [19]) (by kernel_rfl) (by simp) (AllReadyH.cons (o := { dst := some 22, op := Op.call { callee := Callee.value (Operand.func 33), args := #[Operand.tmp 21], argTypes := #[22] }, type := 9, pos := "ref.go:71", after := #[{ on := 18, ground := Ground.data }, { on := 15, ground := Ground.chain }], guard := none }) rfl (fun KK hK => ?_) AllReadyH.nil)
            · go_simp
              go_at_call 33
              with_reducible refine (ref14_topics l _ _ g5 Z5.out HFT.out HK.out hs).mono ?_
              rintro e wq ⟨rfl, hs⟩
              refine hK.out _ _ (HKP.out _ hs) (fun hHeld => ?_)
              clear hK KK
              try simp only [Act.put, List.setIfInBounds_toArray, List.set_cons_zero, List.set_cons_succ]
              refine wpAnyH_take (i := 20) (oi := { dst := some 23, op := Op.binOp BinOp.add 9 (Operand.tmp 19) (Operand.tmp 22) 9, type := 9, pos := "ref.go:71", after := #[{ on := 16, ground := Ground.data }, { on := 19, ground := Ground.data }], guard := none }) (v := ?_) rfl (by kernel_rfl) (by kernel_rfl) (by kernel_rfl) (fun _ _ _ h => h) (Or.inl ⟨by rfl, ?_⟩) (by assumption) ?_
              rotate_left
              · intro w hSw; (try dsimp only at hSw); go_simp; try with_reducible rfl
              simp only [Act.put, List.setIfInBounds_toArray, List.set_cons_zero, List.set_cons_succ]
              refine wpAnyH_ready (rs := [23]) (by kernel_rfl) (by simp) (AllReadyH.cons (o := { dst := some 26, op := Op.call { callee := Callee.value (Operand.func 75), args := #[Operand.tmp 25, Operand.const (Value.int IntKind.i64 8)], argTypes := #[3, 3] }, type := 9, pos := "ref.go:71", after := #[{ on := 22, ground := Ground.data }, { on := 19, ground := Ground.chain }], guard := none }) rfl (fun KK hK => ?_) AllReadyH.nil)
              · go_simp
                go_at_call 75
                with_reducible refine (sr_bytesV u 8 8 rfl (by decide) g6 Z6.out N6.out hs).mono ?_
                rintro e wq ⟨rfl, hs⟩
                refine hK.out _ _ (HKP.out _ hs) (fun hHeld => ?_)
                clear hK KK
                try simp only [Act.put, List.setIfInBounds_toArray, List.set_cons_zero, List.set_cons_succ]
                refine wpAnyH_take (i := 24) (oi := { dst := some 27, op := Op.binOp BinOp.add 9 (Operand.tmp 23) (Operand.tmp 26) 9, type := 9, pos := "ref.go:71", after := #[{ on := 20, ground := Ground.data }, { on := 23, ground := Ground.data }], guard := none }) (v := ?_) rfl (by kernel_rfl) (by kernel_rfl) (by kernel_rfl) (fun _ _ _ h => h) (Or.inl ⟨by rfl, ?_⟩) (by assumption) ?_
                rotate_left
                · intro w hSw; (try dsimp only at hSw); go_simp; try with_reducible rfl
                simp only [Act.put, List.setIfInBounds_toArray, List.set_cons_zero, List.set_cons_succ]
                refine wpAnyH_ready (rs := [27]) (by kernel_rfl) (by simp) (AllReadyH.cons (o := { dst := some 30, op := Op.call { callee := Callee.value (Operand.func 75), args := #[Operand.tmp 29, Operand.const (Value.int IntKind.i64 8)], argTypes := #[3, 3] }, type := 9, pos := "ref.go:71", after := #[{ on := 26, ground := Ground.data }, { on := 23, ground := Ground.chain }], guard := none }) rfl (fun KK hK => ?_) AllReadyH.nil)
                · go_simp
                  go_at_call 75
                  with_reducible refine (sr_bytesV st 8 8 rfl (by decide) g7 Z7.out N7.out hs).mono ?_
                  rintro e wq ⟨rfl, hs⟩
                  refine hK.out _ _ (HKP.out _ hs) (fun hHeld => ?_)
                  clear hK KK
                  try simp only [Act.put, List.setIfInBounds_toArray, List.set_cons_zero, List.set_cons_succ]
                  refine wpAnyH_take (i := 28) (oi := { dst := some 31, op := Op.binOp BinOp.add 9 (Operand.tmp 27) (Operand.tmp 30) 9, type := 9, pos := "ref.go:71", after := #[{ on := 24, ground := Ground.data }, { on := 27, ground := Ground.data }], guard := none }) (v := ?_) rfl (by kernel_rfl) (by kernel_rfl) (by kernel_rfl) (fun _ _ _ h => h) (Or.inl ⟨by rfl, ?_⟩) (by assumption) ?_
                  rotate_left
                  · intro w hSw; (try dsimp only at hSw); go_simp; try with_reducible rfl
                  simp only [Act.put, List.setIfInBounds_toArray, List.set_cons_zero, List.set_cons_succ]
                  refine wpAnyH_take (i := 29) (oi := { dst := some 2, op := Op.assign (Operand.tmp 31), type := 9, pos := "ref.go:71", after := #[{ on := 28, ground := Ground.data }, { on := 27, ground := Ground.chain }, { on := 0, ground := Ground.phase }, { on := 1, ground := Ground.phase }, { on := 2, ground := Ground.phase }, { on := 3, ground := Ground.phase }, { on := 4, ground := Ground.phase }, { on := 5, ground := Ground.phase }, { on := 6, ground := Ground.phase }, { on := 7, ground := Ground.phase }, { on := 8, ground := Ground.phase }, { on := 9, ground := Ground.phase }, { on := 10, ground := Ground.phase }, { on := 11, ground := Ground.phase }, { on := 12, ground := Ground.phase }, { on := 13, ground := Ground.phase }, { on := 14, ground := Ground.phase }, { on := 15, ground := Ground.phase }, { on := 16, ground := Ground.phase }, { on := 17, ground := Ground.phase }, { on := 18, ground := Ground.phase }, { on := 19, ground := Ground.phase }, { on := 20, ground := Ground.phase }, { on := 21, ground := Ground.phase }, { on := 22, ground := Ground.phase }, { on := 23, ground := Ground.phase }, { on := 24, ground := Ground.phase }, { on := 25, ground := Ground.phase }, { on := 26, ground := Ground.phase }, { on := 27, ground := Ground.phase }, { on := 28, ground := Ground.phase }], guard := none }) (v := ?_) rfl (by kernel_rfl) (by kernel_rfl) (by kernel_rfl) (fun _ _ _ h => h) (Or.inl ⟨by rfl, ?_⟩) (by assumption) ?_
                  rotate_left
                  · intro w hSw; (try dsimp only at hSw); go_simp; try with_reducible rfl
                  simp only [Act.put, List.setIfInBounds_toArray, List.set_cons_zero, List.set_cons_succ]
                  refine wpAnyH_done (by kernel_rfl) ?_ _
                  go_wp2_with fail
                  go_ret
                  exact ⟨rfl, hs.drop⟩

end Go.Proofs.Ytombolmicfjjpaa
