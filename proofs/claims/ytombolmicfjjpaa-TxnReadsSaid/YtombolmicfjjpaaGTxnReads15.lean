/- Which of the requests. -/
import Derived.Test.YtombolmicfjjpaaGTxnReads14
import Derived.Test.YtombolmicfjjpaaGTxnReads6
import Derived.Test.YtombolmicfjjpaaGTxnReads5
import Derived.Handy
import Derived.Test.YtombolmicfjjpaaGTxnReads10
/- Begin, read. -/
namespace Go.Proofs.Ytombolmicfjjpaa
open Go.RowKit

set_option maxHeartbeats 6000000 in
set_option maxRecDepth 100000 in
theorem read_beg0_ok (b : Nat) (i i1 i2 : InS) (nl : Bool) (d : Bs) (tm : Int) (h1 : i.fixed 2 = (⟨nl, d⟩, i1)) (h2 : i1.int 4 = (tm, i2)) (hi : i2.err = 0) (hr : begE 0 nl d tm (-1) (-1) = 0) (hl : d.length ≤ 140737488355328) {W0 w : World} {K : Know} {L : List Res} (h : St W0 w K (.inp b i :: L)) :
    Calls Try.prog 99 #[inPtr b, .int .i64 0] w fun en w' => en = .returned (.agg #[.bool nl, .string (bb d), .int .i64 tm, .int .i64 (-1), .int .i64 (-1)]) ∧ St W0 w' K (.inp b i2 :: L) := by
  obtain ⟨rb, hrb⟩ : ∃ b, w.heap.size = b := ⟨_, rfl⟩
  obtain ⟨eb, heb⟩ : ∃ b, rb + 1 = b := ⟨_, rfl⟩
  have g1 := (h.allocRaw #[.bool false, .string ⟨#[]⟩, .int .i64 0, .int .i64 0, .int .i64 0] 141).allocRaw #[.bool false, .string ⟨#[]⟩, .int .i64 0, .int .i64 (-1), .int .i64 (-1)] 141
  simp only [World.size_alloc, hrb, heb] at g1
  have H := Lib.hid g1.p2
  have H1 := Lib.hid h1
  have H2 := Lib.hid h2
  have HI := Lib.hid hi
  have HR := Lib.hid hr
  have HL := Lib.hid hl
  have HT := Lib.hid (show ((0 : Int) == 0) = true by rfl)
  have HJ := Lib.hid (show (if (0 : Int) = 0 then i2 else i2.fail 0) = i2 by rfl)
  clear h g1 h1 h2 hi hr hl
  go_enter Try.func99, Try.ntmps99
  go_wp2_with (first
    | (go_at_call 111; (with_reducible refine (blob_fixedT b i i1 nl d H1.out H.out).mono ?_); rintro e_ wn ⟨rfl, h⟩; have f0 := h.p1.rawFree 0; have g0 := h.p1.rawCell 0; simp at g0; have f1 := h.p1.rawFree 1; have g1 := h.p1.rawCell 1; simp at g1; have h := (show St W0 ((wn.setCell ⟨eb, 0, none⟩ (.bool nl)).setCell ⟨eb, 1, none⟩ (.string (bb d))) K (.inp b i1 :: .raw eb #[.bool nl, .string (bb d), .int .i64 0, .int .i64 (-1), .int .i64 (-1)] 141 :: .raw rb #[.bool false, .string ⟨#[]⟩, .int .i64 0, .int .i64 0, .int .i64 0] 141 :: L) from ((h.p1.rawSet 0 (.bool nl)).rawSet 1 (.string (bb d))).p1); replace H := Lib.hid h; clear h)
    | (go_at_call 72; (with_reducible refine (s_intV b i1 i2 tm 4 H2.out H.out).mono ?_); rintro e_ wn ⟨rfl, h⟩; have f2 := h.p1.rawFree 2; have g2 := h.p1.rawCell 2; simp at g2; have h := (show St W0 (wn.setCell ⟨eb, 2, none⟩ (.int .i64 tm)) K (.inp b i2 :: .raw eb #[.bool nl, .string (bb d), .int .i64 tm, .int .i64 (-1), .int .i64 (-1)] 141 :: .raw rb #[.bool false, .string ⟨#[]⟩, .int .i64 0, .int .i64 0, .int .i64 0] 141 :: L) from (h.p1.rawSet 2 (.int .i64 tm)).p1); have c0 := h.p1.rawCell 0; have c1 := h.p1.rawCell 1; have c2 := h.p1.rawCell 2; have c3 := h.p1.rawCell 3; have c4 := h.p1.rawCell 4; simp at c0 c1 c2 c3 c4; replace H := Lib.hid h; clear h)
    | (go_at_call 119; clear c0 c1 c2 c3 c4; (with_reducible refine (whole_begO b i2 0 nl d tm (-1) (-1) HR.out HL.out HI.out H.out).mono ?_); rintro e_ wn ⟨rfl, h⟩; have c0 := h.p1.rawCell 0; have d0 := h.p2.rawCell 0; have r0 := h.p2.rawFree 0; have c1 := h.p1.rawCell 1; have d1 := h.p2.rawCell 1; have r1 := h.p2.rawFree 1; have c2 := h.p1.rawCell 2; have d2 := h.p2.rawCell 2; have r2 := h.p2.rawFree 2; have c3 := h.p1.rawCell 3; have d3 := h.p2.rawCell 3; have r3 := h.p2.rawFree 3; have c4 := h.p1.rawCell 4; have d4 := h.p2.rawCell 4; have r4 := h.p2.rawFree 4; simp at c0 d0 c1 d1 c2 d2 c3 d3 c4 d4; replace H := Lib.hid h; clear h))
  have hz : St W0 _ _ (.raw rb #[.bool nl, .string (bb d), .int .i64 tm, .int .i64 (-1), .int .i64 (-1)] 141 :: .inp b i2 :: .raw eb #[.bool nl, .string (bb d), .int .i64 tm, .int .i64 (-1), .int .i64 (-1)] 141 :: L) := (((((H.out.p2.rawSet 0 _).rawSet 1 _).rawSet 2 _).rawSet 3 _).rawSet 4 _)
  refine bodyPost_ret (rc_cell_only rfl _ _ rb [.bool nl, .string (bb d), .int .i64 tm, .int .i64 (-1), .int .i64 (-1)] _ rfl (rc_range hz) Try.underlying141 rfl (by kernel_rfl)) rfl ?_
  exact ⟨rfl, hz.drop.p1.drop⟩

set_option maxHeartbeats 6000000 in
set_option maxRecDepth 100000 in
theorem read_beg0_chk (b : Nat) (i i1 i2 j : InS) (nl : Bool) (d : Bs) (tm : Int) (h1 : i.fixed 2 = (⟨nl, d⟩, i1)) (h2 : i1.int 4 = (tm, i2)) (hi : i2.err = 0) (r : Int) (hr : begE 0 nl d tm (-1) (-1) = r) (h0 : r ≠ 0) (hj : i2.fail r = j) (hl : d.length ≤ 140737488355328) {W0 w : World} {K : Know} {L : List Res} (h : St W0 w K (.inp b i :: L)) :
    Calls Try.prog 99 #[inPtr b, .int .i64 0] w fun en w' => en = .returned (.agg #[.bool false, .string ⟨#[]⟩, .int .i64 0, .int .i64 0, .int .i64 0]) ∧ St W0 w' K (.inp b j :: L) := by
  obtain ⟨rb, hrb⟩ : ∃ b, w.heap.size = b := ⟨_, rfl⟩
  obtain ⟨eb, heb⟩ : ∃ b, rb + 1 = b := ⟨_, rfl⟩
  have g1 := (h.allocRaw #[.bool false, .string ⟨#[]⟩, .int .i64 0, .int .i64 0, .int .i64 0] 141).allocRaw #[.bool false, .string ⟨#[]⟩, .int .i64 0, .int .i64 (-1), .int .i64 (-1)] 141
  simp only [World.size_alloc, hrb, heb] at g1
  have H := Lib.hid g1.p2
  have H1 := Lib.hid h1
  have H2 := Lib.hid h2
  have HI := Lib.hid hi
  have HR := Lib.hid hr
  have HL := Lib.hid hl
  have HT := Lib.hid (show (r == 0) = false by rw [beq_eq_false_iff_ne]; exact h0)
  have HJ := Lib.hid (show (if r = 0 then i2 else i2.fail r) = j by rw [if_neg h0]; exact hj)
  clear h g1 h1 h2 hi hr hl h0 hj
  go_enter Try.func99, Try.ntmps99
  go_wp2_with (first
    | (go_at_call 111; (with_reducible refine (blob_fixedT b i i1 nl d H1.out H.out).mono ?_); rintro e_ wn ⟨rfl, h⟩; have f0 := h.p1.rawFree 0; have g0 := h.p1.rawCell 0; simp at g0; have f1 := h.p1.rawFree 1; have g1 := h.p1.rawCell 1; simp at g1; have h := (show St W0 ((wn.setCell ⟨eb, 0, none⟩ (.bool nl)).setCell ⟨eb, 1, none⟩ (.string (bb d))) K (.inp b i1 :: .raw eb #[.bool nl, .string (bb d), .int .i64 0, .int .i64 (-1), .int .i64 (-1)] 141 :: .raw rb #[.bool false, .string ⟨#[]⟩, .int .i64 0, .int .i64 0, .int .i64 0] 141 :: L) from ((h.p1.rawSet 0 (.bool nl)).rawSet 1 (.string (bb d))).p1); replace H := Lib.hid h; clear h)
    | (go_at_call 72; (with_reducible refine (s_intV b i1 i2 tm 4 H2.out H.out).mono ?_); rintro e_ wn ⟨rfl, h⟩; have f2 := h.p1.rawFree 2; have g2 := h.p1.rawCell 2; simp at g2; have h := (show St W0 (wn.setCell ⟨eb, 2, none⟩ (.int .i64 tm)) K (.inp b i2 :: .raw eb #[.bool nl, .string (bb d), .int .i64 tm, .int .i64 (-1), .int .i64 (-1)] 141 :: .raw rb #[.bool false, .string ⟨#[]⟩, .int .i64 0, .int .i64 0, .int .i64 0] 141 :: L) from (h.p1.rawSet 2 (.int .i64 tm)).p1); have c0 := h.p1.rawCell 0; have c1 := h.p1.rawCell 1; have c2 := h.p1.rawCell 2; have c3 := h.p1.rawCell 3; have c4 := h.p1.rawCell 4; simp at c0 c1 c2 c3 c4; replace H := Lib.hid h; clear h)
    | (go_at_call 119; clear c0 c1 c2 c3 c4; (with_reducible refine (whole_beg b i2 _ 0 nl d tm (-1) (-1) _ _ HR.out HL.out HI.out HT.out HJ.out H.out).mono ?_); rintro e_ wn ⟨rfl, h⟩; have c0 := h.p1.rawCell 0; have d0 := h.p2.rawCell 0; have r0 := h.p2.rawFree 0; have c1 := h.p1.rawCell 1; have d1 := h.p2.rawCell 1; have r1 := h.p2.rawFree 1; have c2 := h.p1.rawCell 2; have d2 := h.p2.rawCell 2; have r2 := h.p2.rawFree 2; have c3 := h.p1.rawCell 3; have d3 := h.p2.rawCell 3; have r3 := h.p2.rawFree 3; have c4 := h.p1.rawCell 4; have d4 := h.p2.rawCell 4; have r4 := h.p2.rawFree 4; simp at c0 d0 c1 d1 c2 d2 c3 d3 c4 d4; replace H := Lib.hid h; clear h))
  have hz : St W0 _ _ (.raw rb #[.bool false, .string ⟨#[]⟩, .int .i64 0, .int .i64 0, .int .i64 0] 141 :: .inp b j :: .raw eb #[.bool nl, .string (bb d), .int .i64 tm, .int .i64 (-1), .int .i64 (-1)] 141 :: L) := (((((H.out.p2.rawSet 0 _).rawSet 1 _).rawSet 2 _).rawSet 3 _).rawSet 4 _)
  refine bodyPost_ret (rc_cell_only rfl _ _ rb [.bool false, .string ⟨#[]⟩, .int .i64 0, .int .i64 0, .int .i64 0] _ rfl (rc_range hz) Try.underlying141 rfl (by kernel_rfl)) rfl ?_
  exact ⟨rfl, hz.drop.p1.drop⟩

set_option maxHeartbeats 6000000 in
set_option maxRecDepth 100000 in
theorem read_beg0_err (b : Nat) (i i1 i2 : InS) (nl : Bool) (d : Bs) (tm : Int) (h1 : i.fixed 2 = (⟨nl, d⟩, i1)) (h2 : i1.int 4 = (tm, i2)) (x : Int) (hi : i2.err = x) (h0 : x ≠ 0) {W0 w : World} {K : Know} {L : List Res} (h : St W0 w K (.inp b i :: L)) :
    Calls Try.prog 99 #[inPtr b, .int .i64 0] w fun en w' => en = .returned (.agg #[.bool false, .string ⟨#[]⟩, .int .i64 0, .int .i64 0, .int .i64 0]) ∧ St W0 w' K (.inp b i2 :: L) := by
  obtain ⟨rb, hrb⟩ : ∃ b, w.heap.size = b := ⟨_, rfl⟩
  obtain ⟨eb, heb⟩ : ∃ b, rb + 1 = b := ⟨_, rfl⟩
  have g1 := (h.allocRaw #[.bool false, .string ⟨#[]⟩, .int .i64 0, .int .i64 0, .int .i64 0] 141).allocRaw #[.bool false, .string ⟨#[]⟩, .int .i64 0, .int .i64 (-1), .int .i64 (-1)] 141
  simp only [World.size_alloc, hrb, heb] at g1
  have H := Lib.hid g1.p2
  have H1 := Lib.hid h1
  have H2 := Lib.hid h2
  have HI := Lib.hid hi
  have H0 := Lib.hid h0
  clear h g1 h1 h2 hi h0
  go_enter Try.func99, Try.ntmps99
  go_wp2_with (first
    | (go_at_call 111; (with_reducible refine (blob_fixedT b i i1 nl d H1.out H.out).mono ?_); rintro e_ wn ⟨rfl, h⟩; have f0 := h.p1.rawFree 0; have g0 := h.p1.rawCell 0; simp at g0; have f1 := h.p1.rawFree 1; have g1 := h.p1.rawCell 1; simp at g1; have h := (show St W0 ((wn.setCell ⟨eb, 0, none⟩ (.bool nl)).setCell ⟨eb, 1, none⟩ (.string (bb d))) K (.inp b i1 :: .raw eb #[.bool nl, .string (bb d), .int .i64 0, .int .i64 (-1), .int .i64 (-1)] 141 :: .raw rb #[.bool false, .string ⟨#[]⟩, .int .i64 0, .int .i64 0, .int .i64 0] 141 :: L) from ((h.p1.rawSet 0 (.bool nl)).rawSet 1 (.string (bb d))).p1); replace H := Lib.hid h; clear h)
    | (go_at_call 72; (with_reducible refine (s_intV b i1 i2 tm 4 H2.out H.out).mono ?_); rintro e_ wn ⟨rfl, h⟩; have f2 := h.p1.rawFree 2; have g2 := h.p1.rawCell 2; simp at g2; have h := (show St W0 (wn.setCell ⟨eb, 2, none⟩ (.int .i64 tm)) K (.inp b i2 :: .raw eb #[.bool nl, .string (bb d), .int .i64 tm, .int .i64 (-1), .int .i64 (-1)] 141 :: .raw rb #[.bool false, .string ⟨#[]⟩, .int .i64 0, .int .i64 0, .int .i64 0] 141 :: L) from (h.p1.rawSet 2 (.int .i64 tm)).p1); have c0 := h.p1.rawCell 0; have c1 := h.p1.rawCell 1; have c2 := h.p1.rawCell 2; have c3 := h.p1.rawCell 3; have c4 := h.p1.rawCell 4; simp at c0 c1 c2 c3 c4; replace H := Lib.hid h; clear h)
    | (go_at_call 119; clear c0 c1 c2 c3 c4; (with_reducible refine (whole_err b i2 x HI.out H0.out _ H.out).mono ?_); rintro e_ wn ⟨rfl, h⟩; have c0 := h.p1.rawCell 0; have d0 := h.p2.rawCell 0; have r0 := h.p2.rawFree 0; have c1 := h.p1.rawCell 1; have d1 := h.p2.rawCell 1; have r1 := h.p2.rawFree 1; have c2 := h.p1.rawCell 2; have d2 := h.p2.rawCell 2; have r2 := h.p2.rawFree 2; have c3 := h.p1.rawCell 3; have d3 := h.p2.rawCell 3; have r3 := h.p2.rawFree 3; have c4 := h.p1.rawCell 4; have d4 := h.p2.rawCell 4; have r4 := h.p2.rawFree 4; simp at c0 d0 c1 d1 c2 d2 c3 d3 c4 d4; replace H := Lib.hid h; clear h))
  have hz : St W0 _ _ (.raw rb #[.bool false, .string ⟨#[]⟩, .int .i64 0, .int .i64 0, .int .i64 0] 141 :: .inp b i2 :: .raw eb #[.bool nl, .string (bb d), .int .i64 tm, .int .i64 (-1), .int .i64 (-1)] 141 :: L) := (((((H.out.p2.rawSet 0 _).rawSet 1 _).rawSet 2 _).rawSet 3 _).rawSet 4 _)
  refine bodyPost_ret (rc_cell_only rfl _ _ rb [.bool false, .string ⟨#[]⟩, .int .i64 0, .int .i64 0, .int .i64 0] _ rfl (rc_range hz) Try.underlying141 rfl (by kernel_rfl)) rfl ?_
  exact ⟨rfl, hz.drop.p1.drop⟩

set_option maxHeartbeats 6000000 in
set_option maxRecDepth 100000 in
theorem read_beg1_ok (b : Nat) (i i1 i2 i3 i4 : InS) (nl : Bool) (d : Bs) (tm p e : Int) (h1 : i.fixed 2 = (⟨nl, d⟩, i1)) (h2 : i1.int 4 = (tm, i2)) (h3 : i2.int 8 = (p, i3)) (h4 : i3.int 2 = (e, i4)) (hi : i4.err = 0) (hr : begE 1 nl d tm p e = 0) (hl : d.length ≤ 140737488355328) {W0 w : World} {K : Know} {L : List Res} (h : St W0 w K (.inp b i :: L)) :
    Calls Try.prog 99 #[inPtr b, .int .i64 1] w fun en w' => en = .returned (.agg #[.bool nl, .string (bb d), .int .i64 tm, .int .i64 p, .int .i64 e]) ∧ St W0 w' K (.inp b i4 :: L) := by
  obtain ⟨rb, hrb⟩ : ∃ b, w.heap.size = b := ⟨_, rfl⟩
  obtain ⟨eb, heb⟩ : ∃ b, rb + 1 = b := ⟨_, rfl⟩
  have g1 := (h.allocRaw #[.bool false, .string ⟨#[]⟩, .int .i64 0, .int .i64 0, .int .i64 0] 141).allocRaw #[.bool false, .string ⟨#[]⟩, .int .i64 0, .int .i64 (-1), .int .i64 (-1)] 141
  simp only [World.size_alloc, hrb, heb] at g1
  have H := Lib.hid g1.p2
  have H1 := Lib.hid h1
  have H2 := Lib.hid h2
  have H3 := Lib.hid h3
  have H4 := Lib.hid h4
  have HI := Lib.hid hi
  have HR := Lib.hid hr
  have HL := Lib.hid hl
  have HT := Lib.hid (show ((0 : Int) == 0) = true by rfl)
  have HJ := Lib.hid (show (if (0 : Int) = 0 then i4 else i4.fail 0) = i4 by rfl)
  clear h g1 h1 h2 h3 h4 hi hr hl
  go_enter Try.func99, Try.ntmps99
  go_wp2_with (first
    | (go_at_call 111; (with_reducible refine (blob_fixedT b i i1 nl d H1.out H.out).mono ?_); rintro e_ wn ⟨rfl, h⟩; have f0 := h.p1.rawFree 0; have g0 := h.p1.rawCell 0; simp at g0; have f1 := h.p1.rawFree 1; have g1 := h.p1.rawCell 1; simp at g1; have h := (show St W0 ((wn.setCell ⟨eb, 0, none⟩ (.bool nl)).setCell ⟨eb, 1, none⟩ (.string (bb d))) K (.inp b i1 :: .raw eb #[.bool nl, .string (bb d), .int .i64 0, .int .i64 (-1), .int .i64 (-1)] 141 :: .raw rb #[.bool false, .string ⟨#[]⟩, .int .i64 0, .int .i64 0, .int .i64 0] 141 :: L) from ((h.p1.rawSet 0 (.bool nl)).rawSet 1 (.string (bb d))).p1); replace H := Lib.hid h; clear h)
    | (go_at_call 72; (with_reducible refine (s_intV b i1 i2 tm 4 H2.out H.out).mono ?_); rintro e_ wn ⟨rfl, h⟩; have f2 := h.p1.rawFree 2; have g2 := h.p1.rawCell 2; simp at g2; have h := (show St W0 (wn.setCell ⟨eb, 2, none⟩ (.int .i64 tm)) K (.inp b i2 :: .raw eb #[.bool nl, .string (bb d), .int .i64 tm, .int .i64 (-1), .int .i64 (-1)] 141 :: .raw rb #[.bool false, .string ⟨#[]⟩, .int .i64 0, .int .i64 0, .int .i64 0] 141 :: L) from (h.p1.rawSet 2 (.int .i64 tm)).p1); replace H := Lib.hid h; clear h)
    | (go_at_call 118; (with_reducible refine (txn_readWriter b i2 i3 i4 p e H3.out H4.out H.out).mono ?_); rintro e_ wn ⟨rfl, h⟩; have f3 := h.p1.rawFree 3; have g3 := h.p1.rawCell 3; simp at g3; have f4 := h.p1.rawFree 4; have g4 := h.p1.rawCell 4; simp at g4; have h := (show St W0 ((wn.setCell ⟨eb, 3, none⟩ (.int .i64 p)).setCell ⟨eb, 4, none⟩ (.int .i64 e)) K (.inp b i4 :: .raw eb #[.bool nl, .string (bb d), .int .i64 tm, .int .i64 p, .int .i64 e] 141 :: .raw rb #[.bool false, .string ⟨#[]⟩, .int .i64 0, .int .i64 0, .int .i64 0] 141 :: L) from ((h.p1.rawSet 3 (.int .i64 p)).rawSet 4 (.int .i64 e)).p1); have c0 := h.p1.rawCell 0; have c1 := h.p1.rawCell 1; have c2 := h.p1.rawCell 2; have c3 := h.p1.rawCell 3; have c4 := h.p1.rawCell 4; simp at c0 c1 c2 c3 c4; replace H := Lib.hid h; clear h)
    | (go_at_call 119; clear c0 c1 c2 c3 c4; (with_reducible refine (whole_begO b i4 1 nl d tm p e HR.out HL.out HI.out H.out).mono ?_); rintro e_ wn ⟨rfl, h⟩; have c0 := h.p1.rawCell 0; have d0 := h.p2.rawCell 0; have r0 := h.p2.rawFree 0; have c1 := h.p1.rawCell 1; have d1 := h.p2.rawCell 1; have r1 := h.p2.rawFree 1; have c2 := h.p1.rawCell 2; have d2 := h.p2.rawCell 2; have r2 := h.p2.rawFree 2; have c3 := h.p1.rawCell 3; have d3 := h.p2.rawCell 3; have r3 := h.p2.rawFree 3; have c4 := h.p1.rawCell 4; have d4 := h.p2.rawCell 4; have r4 := h.p2.rawFree 4; simp at c0 d0 c1 d1 c2 d2 c3 d3 c4 d4; replace H := Lib.hid h; clear h))
  have hz : St W0 _ _ (.raw rb #[.bool nl, .string (bb d), .int .i64 tm, .int .i64 p, .int .i64 e] 141 :: .inp b i4 :: .raw eb #[.bool nl, .string (bb d), .int .i64 tm, .int .i64 p, .int .i64 e] 141 :: L) := (((((H.out.p2.rawSet 0 _).rawSet 1 _).rawSet 2 _).rawSet 3 _).rawSet 4 _)
  refine bodyPost_ret (rc_cell_only rfl _ _ rb [.bool nl, .string (bb d), .int .i64 tm, .int .i64 p, .int .i64 e] _ rfl (rc_range hz) Try.underlying141 rfl (by kernel_rfl)) rfl ?_
  exact ⟨rfl, hz.drop.p1.drop⟩

set_option maxHeartbeats 6000000 in
set_option maxRecDepth 100000 in
theorem read_beg1_chk (b : Nat) (i i1 i2 i3 i4 j : InS) (nl : Bool) (d : Bs) (tm p e : Int) (h1 : i.fixed 2 = (⟨nl, d⟩, i1)) (h2 : i1.int 4 = (tm, i2)) (h3 : i2.int 8 = (p, i3)) (h4 : i3.int 2 = (e, i4)) (hi : i4.err = 0) (r : Int) (hr : begE 1 nl d tm p e = r) (h0 : r ≠ 0) (hj : i4.fail r = j) (hl : d.length ≤ 140737488355328) {W0 w : World} {K : Know} {L : List Res} (h : St W0 w K (.inp b i :: L)) :
    Calls Try.prog 99 #[inPtr b, .int .i64 1] w fun en w' => en = .returned (.agg #[.bool false, .string ⟨#[]⟩, .int .i64 0, .int .i64 0, .int .i64 0]) ∧ St W0 w' K (.inp b j :: L) := by
  obtain ⟨rb, hrb⟩ : ∃ b, w.heap.size = b := ⟨_, rfl⟩
  obtain ⟨eb, heb⟩ : ∃ b, rb + 1 = b := ⟨_, rfl⟩
  have g1 := (h.allocRaw #[.bool false, .string ⟨#[]⟩, .int .i64 0, .int .i64 0, .int .i64 0] 141).allocRaw #[.bool false, .string ⟨#[]⟩, .int .i64 0, .int .i64 (-1), .int .i64 (-1)] 141
  simp only [World.size_alloc, hrb, heb] at g1
  have H := Lib.hid g1.p2
  have H1 := Lib.hid h1
  have H2 := Lib.hid h2
  have H3 := Lib.hid h3
  have H4 := Lib.hid h4
  have HI := Lib.hid hi
  have HR := Lib.hid hr
  have HL := Lib.hid hl
  have HT := Lib.hid (show (r == 0) = false by rw [beq_eq_false_iff_ne]; exact h0)
  have HJ := Lib.hid (show (if r = 0 then i4 else i4.fail r) = j by rw [if_neg h0]; exact hj)
  clear h g1 h1 h2 h3 h4 hi hr hl h0 hj
  go_enter Try.func99, Try.ntmps99
  go_wp2_with (first
    | (go_at_call 111; (with_reducible refine (blob_fixedT b i i1 nl d H1.out H.out).mono ?_); rintro e_ wn ⟨rfl, h⟩; have f0 := h.p1.rawFree 0; have g0 := h.p1.rawCell 0; simp at g0; have f1 := h.p1.rawFree 1; have g1 := h.p1.rawCell 1; simp at g1; have h := (show St W0 ((wn.setCell ⟨eb, 0, none⟩ (.bool nl)).setCell ⟨eb, 1, none⟩ (.string (bb d))) K (.inp b i1 :: .raw eb #[.bool nl, .string (bb d), .int .i64 0, .int .i64 (-1), .int .i64 (-1)] 141 :: .raw rb #[.bool false, .string ⟨#[]⟩, .int .i64 0, .int .i64 0, .int .i64 0] 141 :: L) from ((h.p1.rawSet 0 (.bool nl)).rawSet 1 (.string (bb d))).p1); replace H := Lib.hid h; clear h)
    | (go_at_call 72; (with_reducible refine (s_intV b i1 i2 tm 4 H2.out H.out).mono ?_); rintro e_ wn ⟨rfl, h⟩; have f2 := h.p1.rawFree 2; have g2 := h.p1.rawCell 2; simp at g2; have h := (show St W0 (wn.setCell ⟨eb, 2, none⟩ (.int .i64 tm)) K (.inp b i2 :: .raw eb #[.bool nl, .string (bb d), .int .i64 tm, .int .i64 (-1), .int .i64 (-1)] 141 :: .raw rb #[.bool false, .string ⟨#[]⟩, .int .i64 0, .int .i64 0, .int .i64 0] 141 :: L) from (h.p1.rawSet 2 (.int .i64 tm)).p1); replace H := Lib.hid h; clear h)
    | (go_at_call 118; (with_reducible refine (txn_readWriter b i2 i3 i4 p e H3.out H4.out H.out).mono ?_); rintro e_ wn ⟨rfl, h⟩; have f3 := h.p1.rawFree 3; have g3 := h.p1.rawCell 3; simp at g3; have f4 := h.p1.rawFree 4; have g4 := h.p1.rawCell 4; simp at g4; have h := (show St W0 ((wn.setCell ⟨eb, 3, none⟩ (.int .i64 p)).setCell ⟨eb, 4, none⟩ (.int .i64 e)) K (.inp b i4 :: .raw eb #[.bool nl, .string (bb d), .int .i64 tm, .int .i64 p, .int .i64 e] 141 :: .raw rb #[.bool false, .string ⟨#[]⟩, .int .i64 0, .int .i64 0, .int .i64 0] 141 :: L) from ((h.p1.rawSet 3 (.int .i64 p)).rawSet 4 (.int .i64 e)).p1); have c0 := h.p1.rawCell 0; have c1 := h.p1.rawCell 1; have c2 := h.p1.rawCell 2; have c3 := h.p1.rawCell 3; have c4 := h.p1.rawCell 4; simp at c0 c1 c2 c3 c4; replace H := Lib.hid h; clear h)
    | (go_at_call 119; clear c0 c1 c2 c3 c4; (with_reducible refine (whole_beg b i4 _ 1 nl d tm p e _ _ HR.out HL.out HI.out HT.out HJ.out H.out).mono ?_); rintro e_ wn ⟨rfl, h⟩; have c0 := h.p1.rawCell 0; have d0 := h.p2.rawCell 0; have r0 := h.p2.rawFree 0; have c1 := h.p1.rawCell 1; have d1 := h.p2.rawCell 1; have r1 := h.p2.rawFree 1; have c2 := h.p1.rawCell 2; have d2 := h.p2.rawCell 2; have r2 := h.p2.rawFree 2; have c3 := h.p1.rawCell 3; have d3 := h.p2.rawCell 3; have r3 := h.p2.rawFree 3; have c4 := h.p1.rawCell 4; have d4 := h.p2.rawCell 4; have r4 := h.p2.rawFree 4; simp at c0 d0 c1 d1 c2 d2 c3 d3 c4 d4; replace H := Lib.hid h; clear h))
  have hz : St W0 _ _ (.raw rb #[.bool false, .string ⟨#[]⟩, .int .i64 0, .int .i64 0, .int .i64 0] 141 :: .inp b j :: .raw eb #[.bool nl, .string (bb d), .int .i64 tm, .int .i64 p, .int .i64 e] 141 :: L) := (((((H.out.p2.rawSet 0 _).rawSet 1 _).rawSet 2 _).rawSet 3 _).rawSet 4 _)
  refine bodyPost_ret (rc_cell_only rfl _ _ rb [.bool false, .string ⟨#[]⟩, .int .i64 0, .int .i64 0, .int .i64 0] _ rfl (rc_range hz) Try.underlying141 rfl (by kernel_rfl)) rfl ?_
  exact ⟨rfl, hz.drop.p1.drop⟩

set_option maxHeartbeats 6000000 in
set_option maxRecDepth 100000 in
theorem read_beg1_err (b : Nat) (i i1 i2 i3 i4 : InS) (nl : Bool) (d : Bs) (tm p e : Int) (h1 : i.fixed 2 = (⟨nl, d⟩, i1)) (h2 : i1.int 4 = (tm, i2)) (h3 : i2.int 8 = (p, i3)) (h4 : i3.int 2 = (e, i4)) (x : Int) (hi : i4.err = x) (h0 : x ≠ 0) {W0 w : World} {K : Know} {L : List Res} (h : St W0 w K (.inp b i :: L)) :
    Calls Try.prog 99 #[inPtr b, .int .i64 1] w fun en w' => en = .returned (.agg #[.bool false, .string ⟨#[]⟩, .int .i64 0, .int .i64 0, .int .i64 0]) ∧ St W0 w' K (.inp b i4 :: L) := by
  obtain ⟨rb, hrb⟩ : ∃ b, w.heap.size = b := ⟨_, rfl⟩
  obtain ⟨eb, heb⟩ : ∃ b, rb + 1 = b := ⟨_, rfl⟩
  have g1 := (h.allocRaw #[.bool false, .string ⟨#[]⟩, .int .i64 0, .int .i64 0, .int .i64 0] 141).allocRaw #[.bool false, .string ⟨#[]⟩, .int .i64 0, .int .i64 (-1), .int .i64 (-1)] 141
  simp only [World.size_alloc, hrb, heb] at g1
  have H := Lib.hid g1.p2
  have H1 := Lib.hid h1
  have H2 := Lib.hid h2
  have H3 := Lib.hid h3
  have H4 := Lib.hid h4
  have HI := Lib.hid hi
  have H0 := Lib.hid h0
  clear h g1 h1 h2 h3 h4 hi h0
  go_enter Try.func99, Try.ntmps99
  go_wp2_with (first
    | (go_at_call 111; (with_reducible refine (blob_fixedT b i i1 nl d H1.out H.out).mono ?_); rintro e_ wn ⟨rfl, h⟩; have f0 := h.p1.rawFree 0; have g0 := h.p1.rawCell 0; simp at g0; have f1 := h.p1.rawFree 1; have g1 := h.p1.rawCell 1; simp at g1; have h := (show St W0 ((wn.setCell ⟨eb, 0, none⟩ (.bool nl)).setCell ⟨eb, 1, none⟩ (.string (bb d))) K (.inp b i1 :: .raw eb #[.bool nl, .string (bb d), .int .i64 0, .int .i64 (-1), .int .i64 (-1)] 141 :: .raw rb #[.bool false, .string ⟨#[]⟩, .int .i64 0, .int .i64 0, .int .i64 0] 141 :: L) from ((h.p1.rawSet 0 (.bool nl)).rawSet 1 (.string (bb d))).p1); replace H := Lib.hid h; clear h)
    | (go_at_call 72; (with_reducible refine (s_intV b i1 i2 tm 4 H2.out H.out).mono ?_); rintro e_ wn ⟨rfl, h⟩; have f2 := h.p1.rawFree 2; have g2 := h.p1.rawCell 2; simp at g2; have h := (show St W0 (wn.setCell ⟨eb, 2, none⟩ (.int .i64 tm)) K (.inp b i2 :: .raw eb #[.bool nl, .string (bb d), .int .i64 tm, .int .i64 (-1), .int .i64 (-1)] 141 :: .raw rb #[.bool false, .string ⟨#[]⟩, .int .i64 0, .int .i64 0, .int .i64 0] 141 :: L) from (h.p1.rawSet 2 (.int .i64 tm)).p1); replace H := Lib.hid h; clear h)
    | (go_at_call 118; (with_reducible refine (txn_readWriter b i2 i3 i4 p e H3.out H4.out H.out).mono ?_); rintro e_ wn ⟨rfl, h⟩; have f3 := h.p1.rawFree 3; have g3 := h.p1.rawCell 3; simp at g3; have f4 := h.p1.rawFree 4; have g4 := h.p1.rawCell 4; simp at g4; have h := (show St W0 ((wn.setCell ⟨eb, 3, none⟩ (.int .i64 p)).setCell ⟨eb, 4, none⟩ (.int .i64 e)) K (.inp b i4 :: .raw eb #[.bool nl, .string (bb d), .int .i64 tm, .int .i64 p, .int .i64 e] 141 :: .raw rb #[.bool false, .string ⟨#[]⟩, .int .i64 0, .int .i64 0, .int .i64 0] 141 :: L) from ((h.p1.rawSet 3 (.int .i64 p)).rawSet 4 (.int .i64 e)).p1); have c0 := h.p1.rawCell 0; have c1 := h.p1.rawCell 1; have c2 := h.p1.rawCell 2; have c3 := h.p1.rawCell 3; have c4 := h.p1.rawCell 4; simp at c0 c1 c2 c3 c4; replace H := Lib.hid h; clear h)
    | (go_at_call 119; clear c0 c1 c2 c3 c4; (with_reducible refine (whole_err b i4 x HI.out H0.out _ H.out).mono ?_); rintro e_ wn ⟨rfl, h⟩; have c0 := h.p1.rawCell 0; have d0 := h.p2.rawCell 0; have r0 := h.p2.rawFree 0; have c1 := h.p1.rawCell 1; have d1 := h.p2.rawCell 1; have r1 := h.p2.rawFree 1; have c2 := h.p1.rawCell 2; have d2 := h.p2.rawCell 2; have r2 := h.p2.rawFree 2; have c3 := h.p1.rawCell 3; have d3 := h.p2.rawCell 3; have r3 := h.p2.rawFree 3; have c4 := h.p1.rawCell 4; have d4 := h.p2.rawCell 4; have r4 := h.p2.rawFree 4; simp at c0 d0 c1 d1 c2 d2 c3 d3 c4 d4; replace H := Lib.hid h; clear h))
  have hz : St W0 _ _ (.raw rb #[.bool false, .string ⟨#[]⟩, .int .i64 0, .int .i64 0, .int .i64 0] 141 :: .inp b i4 :: .raw eb #[.bool nl, .string (bb d), .int .i64 tm, .int .i64 p, .int .i64 e] 141 :: L) := (((((H.out.p2.rawSet 0 _).rawSet 1 _).rawSet 2 _).rawSet 3 _).rawSet 4 _)
  refine bodyPost_ret (rc_cell_only rfl _ _ rb [.bool false, .string ⟨#[]⟩, .int .i64 0, .int .i64 0, .int .i64 0] _ rfl (rc_range hz) Try.underlying141 rfl (by kernel_rfl)) rfl ?_
  exact ⟨rfl, hz.drop.p1.drop⟩

end Go.Proofs.Ytombolmicfjjpaa

/- Add and End, read. -/
namespace Go.Proofs.Ytombolmicfjjpaa
open Go.RowKit

set_option maxHeartbeats 6000000 in
set_option maxRecDepth 100000 in
theorem read_add_ok (b : Nat) (i i1 i2 i3 i4 : InS) (d : Bs) (p e : Int) (tl : List TopS) (h1 : i.text = (d, i1)) (h2 : i1.int 8 = (p, i2)) (h3 : i2.int 2 = (e, i3)) (h4 : i3.tops = (tl, i4)) (hi : i4.err = 0) (hr : addE d p e tl = 0) (hl : d.length ≤ 140737488355328) (hf : FewL tl) {W0 w : World} {K : Know} {L : List Res} (h : St W0 w K (.inp b i :: L)) :
    Calls Try.prog 100 #[inPtr b] w fun en w' => ∃ (q : Option Addr) (cap : Nat) (lr : List (TopS × Value)), en = .returned (.agg #[.string (bb d), .int .i64 p, .int .i64 e, .slice q lr.length cap]) ∧ lr.map (·.1) = tl ∧ St W0 w' (K.and (Know.tops (.slice q lr.length cap) lr)) (.inp b i4 :: L) := by
  obtain ⟨rb, hrb⟩ : ∃ b, w.heap.size = b := ⟨_, rfl⟩
  obtain ⟨eb, heb⟩ : ∃ b, rb + 1 = b := ⟨_, rfl⟩
  have g1 := (h.allocRaw #[.string ⟨#[]⟩, .int .i64 0, .int .i64 0, .slice none 0 0] 144).allocRaw #[.string ⟨#[]⟩, .int .i64 0, .int .i64 0, .slice none 0 0] 144
  simp only [World.size_alloc, hrb, heb] at g1
  have H := Lib.hid g1.p2
  have H1 := Lib.hid h1
  have H2 := Lib.hid h2
  have H3 := Lib.hid h3
  have H4 := Lib.hid h4
  have HI := Lib.hid hi
  have HR := Lib.hid hr
  have HL := Lib.hid hl
  have HFL := Lib.hid hf
  have HT := Lib.hid (show ((0 : Int) == 0) = true by rfl)
  have HJ := Lib.hid (show (if (0 : Int) = 0 then i4 else i4.fail 0) = i4 by rfl)
  clear h g1 h1 h2 h3 h4 hi hr hl hf
  go_enter Try.func100, Try.ntmps100
  go_wp2_with (first
    | (go_at_call 78; (with_reducible refine (blob_textV b _ _ d H1.out H.out).mono ?_); rintro e_ wn ⟨rfl, h⟩; have f0 := h.p1.rawFree 0; have g0 := h.p1.rawCell 0; simp at g0; have h := (show St W0 (wn.setCell ⟨eb, 0, none⟩ (.string (bb d))) K (.inp b i1 :: .raw eb #[.string (bb d), .int .i64 0, .int .i64 0, .slice none 0 0] 144 :: .raw rb #[.string ⟨#[]⟩, .int .i64 0, .int .i64 0, .slice none 0 0] 144 :: L) from (h.p1.rawSet 0 (.string (bb d))).p1); replace H := Lib.hid h; clear h)
    | (go_at_call 118; (with_reducible refine (txn_readWriter b _ _ _ p e H2.out H3.out H.out).mono ?_); rintro e_ wn ⟨rfl, h⟩; have f1 := h.p1.rawFree 1; have g1 := h.p1.rawCell 1; simp at g1; have f2 := h.p1.rawFree 2; have g2 := h.p1.rawCell 2; simp at g2; have h := (show St W0 ((wn.setCell ⟨eb, 1, none⟩ (.int .i64 p)).setCell ⟨eb, 2, none⟩ (.int .i64 e)) K (.inp b i3 :: .raw eb #[.string (bb d), .int .i64 p, .int .i64 e, .slice none 0 0] 144 :: .raw rb #[.string ⟨#[]⟩, .int .i64 0, .int .i64 0, .slice none 0 0] 144 :: L) from ((h.p1.rawSet 1 (.int .i64 p)).rawSet 2 (.int .i64 e)).p1); replace H := Lib.hid h; clear h)
    | (go_at_call 25; (with_reducible refine (val_topics b _ _ tl H4.out H.out).mono ?_); rintro e_ wn ⟨v_, lr, rfl, hlr, h⟩; obtain ⟨q, cap, rfl⟩ := tops_form (Know.has_right (Know.has_refl _)) h; have HLR := Lib.hid hlr; clear hlr; have f3 := h.p1.rawFree 3; have g3 := h.p1.rawCell 3; simp at g3; have h := (show St W0 (wn.setCell ⟨eb, 3, none⟩ (.slice q lr.length cap)) (K.and (Know.tops (.slice q lr.length cap) lr)) (.inp b i4 :: .raw eb #[.string (bb d), .int .i64 p, .int .i64 e, .slice q lr.length cap] 144 :: .raw rb #[.string ⟨#[]⟩, .int .i64 0, .int .i64 0, .slice none 0 0] 144 :: L) from (h.p1.rawSet 3 (.slice q lr.length cap)).p1); have c0 := h.p1.rawCell 0; have c1 := h.p1.rawCell 1; have c2 := h.p1.rawCell 2; have c3 := h.p1.rawCell 3; simp at c0 c1 c2 c3; replace H := Lib.hid h; clear h)
    | (go_at_call 119; clear c0 c1 c2 c3; (with_reducible refine (whole_addO b i4 d p e lr q cap (by rw [HLR.out]; exact HR.out) HL.out (fewT_of (by rw [HLR.out]; exact HFL.out)) HI.out (Know.has_right (Know.has_refl _)) H.out).mono ?_); rintro e_ wn ⟨rfl, h⟩; have c0 := h.p1.rawCell 0; have d0 := h.p2.rawCell 0; have r0 := h.p2.rawFree 0; have c1 := h.p1.rawCell 1; have d1 := h.p2.rawCell 1; have r1 := h.p2.rawFree 1; have c2 := h.p1.rawCell 2; have d2 := h.p2.rawCell 2; have r2 := h.p2.rawFree 2; have c3 := h.p1.rawCell 3; have d3 := h.p2.rawCell 3; have r3 := h.p2.rawFree 3; simp at c0 d0 c1 d1 c2 d2 c3 d3; replace H := Lib.hid h; clear h))
  have hz : St W0 _ _ (.raw rb #[.string (bb d), .int .i64 p, .int .i64 e, .slice q lr.length cap] 144 :: .inp b i4 :: .raw eb #[.string (bb d), .int .i64 p, .int .i64 e, .slice q lr.length cap] 144 :: L) := ((((H.out.p2.rawSet 0 _).rawSet 1 _).rawSet 2 _).rawSet 3 _)
  refine bodyPost_ret (rc_cell_only rfl _ _ rb [.string (bb d), .int .i64 p, .int .i64 e, .slice q lr.length cap] _ rfl (rc_range hz) Try.underlying144 rfl (by kernel_rfl)) rfl ?_
  exact ⟨q, cap, lr, rfl, HLR.out, hz.drop.p1.drop⟩

set_option maxHeartbeats 6000000 in
set_option maxRecDepth 100000 in
theorem read_add_chk (b : Nat) (i i1 i2 i3 i4 j : InS) (d : Bs) (p e : Int) (tl : List TopS) (h1 : i.text = (d, i1)) (h2 : i1.int 8 = (p, i2)) (h3 : i2.int 2 = (e, i3)) (h4 : i3.tops = (tl, i4)) (hi : i4.err = 0) (r : Int) (hr : addE d p e tl = r) (h0 : r ≠ 0) (hj : i4.fail r = j) (hl : d.length ≤ 140737488355328) (hf : FewL tl) {W0 w : World} {K : Know} {L : List Res} (h : St W0 w K (.inp b i :: L)) :
    Calls Try.prog 100 #[inPtr b] w fun en w' => en = .returned (.agg #[.string ⟨#[]⟩, .int .i64 0, .int .i64 0, .slice none 0 0]) ∧ St W0 w' K (.inp b j :: L) := by
  obtain ⟨rb, hrb⟩ : ∃ b, w.heap.size = b := ⟨_, rfl⟩
  obtain ⟨eb, heb⟩ : ∃ b, rb + 1 = b := ⟨_, rfl⟩
  have g1 := (h.allocRaw #[.string ⟨#[]⟩, .int .i64 0, .int .i64 0, .slice none 0 0] 144).allocRaw #[.string ⟨#[]⟩, .int .i64 0, .int .i64 0, .slice none 0 0] 144
  simp only [World.size_alloc, hrb, heb] at g1
  have H := Lib.hid g1.p2
  have H1 := Lib.hid h1
  have H2 := Lib.hid h2
  have H3 := Lib.hid h3
  have H4 := Lib.hid h4
  have HI := Lib.hid hi
  have HR := Lib.hid hr
  have HL := Lib.hid hl
  have HFL := Lib.hid hf
  have HT := Lib.hid (show (r == 0) = false by rw [beq_eq_false_iff_ne]; exact h0)
  have HJ := Lib.hid (show (if r = 0 then i4 else i4.fail r) = j by rw [if_neg h0]; exact hj)
  clear h g1 h1 h2 h3 h4 hi hr hl hf h0 hj
  go_enter Try.func100, Try.ntmps100
  go_wp2_with (first
    | (go_at_call 78; (with_reducible refine (blob_textV b _ _ d H1.out H.out).mono ?_); rintro e_ wn ⟨rfl, h⟩; have f0 := h.p1.rawFree 0; have g0 := h.p1.rawCell 0; simp at g0; have h := (show St W0 (wn.setCell ⟨eb, 0, none⟩ (.string (bb d))) K (.inp b i1 :: .raw eb #[.string (bb d), .int .i64 0, .int .i64 0, .slice none 0 0] 144 :: .raw rb #[.string ⟨#[]⟩, .int .i64 0, .int .i64 0, .slice none 0 0] 144 :: L) from (h.p1.rawSet 0 (.string (bb d))).p1); replace H := Lib.hid h; clear h)
    | (go_at_call 118; (with_reducible refine (txn_readWriter b _ _ _ p e H2.out H3.out H.out).mono ?_); rintro e_ wn ⟨rfl, h⟩; have f1 := h.p1.rawFree 1; have g1 := h.p1.rawCell 1; simp at g1; have f2 := h.p1.rawFree 2; have g2 := h.p1.rawCell 2; simp at g2; have h := (show St W0 ((wn.setCell ⟨eb, 1, none⟩ (.int .i64 p)).setCell ⟨eb, 2, none⟩ (.int .i64 e)) K (.inp b i3 :: .raw eb #[.string (bb d), .int .i64 p, .int .i64 e, .slice none 0 0] 144 :: .raw rb #[.string ⟨#[]⟩, .int .i64 0, .int .i64 0, .slice none 0 0] 144 :: L) from ((h.p1.rawSet 1 (.int .i64 p)).rawSet 2 (.int .i64 e)).p1); replace H := Lib.hid h; clear h)
    | (go_at_call 25; (with_reducible refine (val_topics b _ _ tl H4.out H.out).mono ?_); rintro e_ wn ⟨v_, lr, rfl, hlr, h⟩; obtain ⟨q, cap, rfl⟩ := tops_form (Know.has_right (Know.has_refl _)) h; have HLR := Lib.hid hlr; clear hlr; have f3 := h.p1.rawFree 3; have g3 := h.p1.rawCell 3; simp at g3; have h := (show St W0 (wn.setCell ⟨eb, 3, none⟩ (.slice q lr.length cap)) (K.and (Know.tops (.slice q lr.length cap) lr)) (.inp b i4 :: .raw eb #[.string (bb d), .int .i64 p, .int .i64 e, .slice q lr.length cap] 144 :: .raw rb #[.string ⟨#[]⟩, .int .i64 0, .int .i64 0, .slice none 0 0] 144 :: L) from (h.p1.rawSet 3 (.slice q lr.length cap)).p1); have c0 := h.p1.rawCell 0; have c1 := h.p1.rawCell 1; have c2 := h.p1.rawCell 2; have c3 := h.p1.rawCell 3; simp at c0 c1 c2 c3; replace H := Lib.hid h; clear h)
    | (go_at_call 119; clear c0 c1 c2 c3; (with_reducible refine (whole_add b i4 _ d p e lr q cap _ _ (by rw [HLR.out]; exact HR.out) HL.out (fewT_of (by rw [HLR.out]; exact HFL.out)) HI.out HT.out HJ.out (Know.has_right (Know.has_refl _)) H.out).mono ?_); rintro e_ wn ⟨rfl, h⟩; have c0 := h.p1.rawCell 0; have d0 := h.p2.rawCell 0; have r0 := h.p2.rawFree 0; have c1 := h.p1.rawCell 1; have d1 := h.p2.rawCell 1; have r1 := h.p2.rawFree 1; have c2 := h.p1.rawCell 2; have d2 := h.p2.rawCell 2; have r2 := h.p2.rawFree 2; have c3 := h.p1.rawCell 3; have d3 := h.p2.rawCell 3; have r3 := h.p2.rawFree 3; simp at c0 d0 c1 d1 c2 d2 c3 d3; replace H := Lib.hid h; clear h))
  have hz : St W0 _ _ (.raw rb #[.string ⟨#[]⟩, .int .i64 0, .int .i64 0, .slice none 0 0] 144 :: .inp b j :: .raw eb #[.string (bb d), .int .i64 p, .int .i64 e, .slice q lr.length cap] 144 :: L) := ((((H.out.p2.rawSet 0 _).rawSet 1 _).rawSet 2 _).rawSet 3 _)
  refine bodyPost_ret (rc_cell_only rfl _ _ rb [.string ⟨#[]⟩, .int .i64 0, .int .i64 0, .slice none 0 0] _ rfl (rc_range hz) Try.underlying144 rfl (by kernel_rfl)) rfl ?_
  exact ⟨rfl, (hz.drop.p1.drop).know (Know.has_left (Know.has_refl _))⟩

set_option maxHeartbeats 6000000 in
set_option maxRecDepth 100000 in
theorem read_add_err (b : Nat) (i i1 i2 i3 i4 : InS) (d : Bs) (p e : Int) (tl : List TopS) (h1 : i.text = (d, i1)) (h2 : i1.int 8 = (p, i2)) (h3 : i2.int 2 = (e, i3)) (h4 : i3.tops = (tl, i4)) (x : Int) (hi : i4.err = x) (h0 : x ≠ 0) {W0 w : World} {K : Know} {L : List Res} (h : St W0 w K (.inp b i :: L)) :
    Calls Try.prog 100 #[inPtr b] w fun en w' => en = .returned (.agg #[.string ⟨#[]⟩, .int .i64 0, .int .i64 0, .slice none 0 0]) ∧ St W0 w' K (.inp b i4 :: L) := by
  obtain ⟨rb, hrb⟩ : ∃ b, w.heap.size = b := ⟨_, rfl⟩
  obtain ⟨eb, heb⟩ : ∃ b, rb + 1 = b := ⟨_, rfl⟩
  have g1 := (h.allocRaw #[.string ⟨#[]⟩, .int .i64 0, .int .i64 0, .slice none 0 0] 144).allocRaw #[.string ⟨#[]⟩, .int .i64 0, .int .i64 0, .slice none 0 0] 144
  simp only [World.size_alloc, hrb, heb] at g1
  have H := Lib.hid g1.p2
  have H1 := Lib.hid h1
  have H2 := Lib.hid h2
  have H3 := Lib.hid h3
  have H4 := Lib.hid h4
  have HI := Lib.hid hi
  have H0 := Lib.hid h0
  clear h g1 h1 h2 h3 h4 hi h0
  go_enter Try.func100, Try.ntmps100
  go_wp2_with (first
    | (go_at_call 78; (with_reducible refine (blob_textV b _ _ d H1.out H.out).mono ?_); rintro e_ wn ⟨rfl, h⟩; have f0 := h.p1.rawFree 0; have g0 := h.p1.rawCell 0; simp at g0; have h := (show St W0 (wn.setCell ⟨eb, 0, none⟩ (.string (bb d))) K (.inp b i1 :: .raw eb #[.string (bb d), .int .i64 0, .int .i64 0, .slice none 0 0] 144 :: .raw rb #[.string ⟨#[]⟩, .int .i64 0, .int .i64 0, .slice none 0 0] 144 :: L) from (h.p1.rawSet 0 (.string (bb d))).p1); replace H := Lib.hid h; clear h)
    | (go_at_call 118; (with_reducible refine (txn_readWriter b _ _ _ p e H2.out H3.out H.out).mono ?_); rintro e_ wn ⟨rfl, h⟩; have f1 := h.p1.rawFree 1; have g1 := h.p1.rawCell 1; simp at g1; have f2 := h.p1.rawFree 2; have g2 := h.p1.rawCell 2; simp at g2; have h := (show St W0 ((wn.setCell ⟨eb, 1, none⟩ (.int .i64 p)).setCell ⟨eb, 2, none⟩ (.int .i64 e)) K (.inp b i3 :: .raw eb #[.string (bb d), .int .i64 p, .int .i64 e, .slice none 0 0] 144 :: .raw rb #[.string ⟨#[]⟩, .int .i64 0, .int .i64 0, .slice none 0 0] 144 :: L) from ((h.p1.rawSet 1 (.int .i64 p)).rawSet 2 (.int .i64 e)).p1); replace H := Lib.hid h; clear h)
    | (go_at_call 25; (with_reducible refine (val_topics b _ _ tl H4.out H.out).mono ?_); rintro e_ wn ⟨v_, lr, rfl, hlr, h⟩; obtain ⟨q, cap, rfl⟩ := tops_form (Know.has_right (Know.has_refl _)) h; have HLR := Lib.hid hlr; clear hlr; have f3 := h.p1.rawFree 3; have g3 := h.p1.rawCell 3; simp at g3; have h := (show St W0 (wn.setCell ⟨eb, 3, none⟩ (.slice q lr.length cap)) (K.and (Know.tops (.slice q lr.length cap) lr)) (.inp b i4 :: .raw eb #[.string (bb d), .int .i64 p, .int .i64 e, .slice q lr.length cap] 144 :: .raw rb #[.string ⟨#[]⟩, .int .i64 0, .int .i64 0, .slice none 0 0] 144 :: L) from (h.p1.rawSet 3 (.slice q lr.length cap)).p1); have c0 := h.p1.rawCell 0; have c1 := h.p1.rawCell 1; have c2 := h.p1.rawCell 2; have c3 := h.p1.rawCell 3; simp at c0 c1 c2 c3; replace H := Lib.hid h; clear h)
    | (go_at_call 119; clear c0 c1 c2 c3; (with_reducible refine (whole_err b i4 x HI.out H0.out _ H.out).mono ?_); rintro e_ wn ⟨rfl, h⟩; have c0 := h.p1.rawCell 0; have d0 := h.p2.rawCell 0; have r0 := h.p2.rawFree 0; have c1 := h.p1.rawCell 1; have d1 := h.p2.rawCell 1; have r1 := h.p2.rawFree 1; have c2 := h.p1.rawCell 2; have d2 := h.p2.rawCell 2; have r2 := h.p2.rawFree 2; have c3 := h.p1.rawCell 3; have d3 := h.p2.rawCell 3; have r3 := h.p2.rawFree 3; simp at c0 d0 c1 d1 c2 d2 c3 d3; replace H := Lib.hid h; clear h))
  have hz : St W0 _ _ (.raw rb #[.string ⟨#[]⟩, .int .i64 0, .int .i64 0, .slice none 0 0] 144 :: .inp b i4 :: .raw eb #[.string (bb d), .int .i64 p, .int .i64 e, .slice q lr.length cap] 144 :: L) := ((((H.out.p2.rawSet 0 _).rawSet 1 _).rawSet 2 _).rawSet 3 _)
  refine bodyPost_ret (rc_cell_only rfl _ _ rb [.string ⟨#[]⟩, .int .i64 0, .int .i64 0, .slice none 0 0] _ rfl (rc_range hz) Try.underlying144 rfl (by kernel_rfl)) rfl ?_
  exact ⟨rfl, (hz.drop.p1.drop).know (Know.has_left (Know.has_refl _))⟩

set_option maxHeartbeats 6000000 in
set_option maxRecDepth 100000 in
theorem read_end_chk (b : Nat) (i i1 i2 i3 i4 j : InS) (id : Bs) (p e : Int) (c : Bool) (h1 : i.text = (id, i1)) (h2 : i1.int 8 = (p, i2)) (h3 : i2.int 2 = (e, i3)) (h4 : i3.boolP = (c, i4)) (hi : i4.err = 0) (r : Int) (hr : chkW id p e = r) (h0 : r ≠ 0) (hj : i4.fail r = j) (hl : id.length ≤ 140737488355328) {W0 w : World} {K : Know} {L : List Res} (h : St W0 w K (.inp b i :: L)) :
    Calls Try.prog 91 #[inPtr b] w fun en w' => en = .returned (.agg #[.string ⟨#[]⟩, .int .i64 0, .int .i64 0, .bool false]) ∧ St W0 w' K (.inp b j :: L) := by
  obtain ⟨rb, hrb⟩ : ∃ b, w.heap.size = b := ⟨_, rfl⟩
  obtain ⟨eb, heb⟩ : ∃ b, rb + 1 = b := ⟨_, rfl⟩
  have g1 := (h.allocRaw #[.string ⟨#[]⟩, .int .i64 0, .int .i64 0, .bool false] 136).allocRaw #[.string ⟨#[]⟩, .int .i64 0, .int .i64 0, .bool false] 136
  simp only [World.size_alloc, hrb, heb] at g1
  have H := Lib.hid g1.p2
  have H1 := Lib.hid h1
  have H2 := Lib.hid h2
  have H3 := Lib.hid h3
  have H4 := Lib.hid h4
  have HI := Lib.hid hi
  have HR := Lib.hid hr
  have HL := Lib.hid hl
  have HT := Lib.hid (show (r == 0) = false by rw [beq_eq_false_iff_ne]; exact h0)
  have HJ := Lib.hid (show (if r = 0 then i4 else i4.fail r) = j by rw [if_neg h0]; exact hj)
  clear h g1 h1 h2 h3 h4 hi hr hl h0 hj
  go_enter Try.func91, Try.ntmps91
  go_wp2_with (first
    | (go_at_call 78; (with_reducible refine (blob_textV b _ _ id H1.out H.out).mono ?_); rintro e_ wn ⟨rfl, h⟩; have f0 := h.p1.rawFree 0; have g0 := h.p1.rawCell 0; simp at g0; have h := (show St W0 (wn.setCell ⟨eb, 0, none⟩ (.string (bb id))) K (.inp b i1 :: .raw eb #[.string (bb id), .int .i64 0, .int .i64 0, .bool false] 136 :: .raw rb #[.string ⟨#[]⟩, .int .i64 0, .int .i64 0, .bool false] 136 :: L) from (h.p1.rawSet 0 (.string (bb id))).p1); replace H := Lib.hid h; clear h)
    | (go_at_call 118; (with_reducible refine (txn_readWriter b _ _ _ p e H2.out H3.out H.out).mono ?_); rintro e_ wn ⟨rfl, h⟩; have f1 := h.p1.rawFree 1; have g1 := h.p1.rawCell 1; simp at g1; have f2 := h.p1.rawFree 2; have g2 := h.p1.rawCell 2; simp at g2; have h := (show St W0 ((wn.setCell ⟨eb, 1, none⟩ (.int .i64 p)).setCell ⟨eb, 2, none⟩ (.int .i64 e)) K (.inp b i3 :: .raw eb #[.string (bb id), .int .i64 p, .int .i64 e, .bool false] 136 :: .raw rb #[.string ⟨#[]⟩, .int .i64 0, .int .i64 0, .bool false] 136 :: L) from ((h.p1.rawSet 1 (.int .i64 p)).rawSet 2 (.int .i64 e)).p1); replace H := Lib.hid h; clear h)
    | (go_at_call 48; (with_reducible refine (s_bool b _ _ c H4.out H.out).mono ?_); rintro e_ wn ⟨rfl, h⟩; have f3 := h.p1.rawFree 3; have g3 := h.p1.rawCell 3; simp at g3; have h := (show St W0 (wn.setCell ⟨eb, 3, none⟩ (.bool c)) K (.inp b i4 :: .raw eb #[.string (bb id), .int .i64 p, .int .i64 e, .bool c] 136 :: .raw rb #[.string ⟨#[]⟩, .int .i64 0, .int .i64 0, .bool false] 136 :: L) from (h.p1.rawSet 3 (.bool c)).p1); have c0 := h.p1.rawCell 0; have c1 := h.p1.rawCell 1; have c2 := h.p1.rawCell 2; have c3 := h.p1.rawCell 3; simp at c0 c1 c2 c3; replace H := Lib.hid h; clear h)
    | (go_at_call 119; clear c0 c1 c2 c3; (with_reducible refine (whole_endG b i4 _ id p e c _ _ HR.out HL.out HI.out HT.out HJ.out H.out).mono ?_); rintro e_ wn ⟨rfl, h⟩; have c0 := h.p1.rawCell 0; have d0 := h.p2.rawCell 0; have r0 := h.p2.rawFree 0; have c1 := h.p1.rawCell 1; have d1 := h.p2.rawCell 1; have r1 := h.p2.rawFree 1; have c2 := h.p1.rawCell 2; have d2 := h.p2.rawCell 2; have r2 := h.p2.rawFree 2; have c3 := h.p1.rawCell 3; have d3 := h.p2.rawCell 3; have r3 := h.p2.rawFree 3; simp at c0 d0 c1 d1 c2 d2 c3 d3; replace H := Lib.hid h; clear h))
  have hz : St W0 _ _ (.raw rb #[.string ⟨#[]⟩, .int .i64 0, .int .i64 0, .bool false] 136 :: .inp b j :: .raw eb #[.string (bb id), .int .i64 p, .int .i64 e, .bool c] 136 :: L) := ((((H.out.p2.rawSet 0 _).rawSet 1 _).rawSet 2 _).rawSet 3 _)
  refine bodyPost_ret (rc_cell_only rfl _ _ rb [.string ⟨#[]⟩, .int .i64 0, .int .i64 0, .bool false] _ rfl (rc_range hz) Try.underlying136 rfl (by kernel_rfl)) rfl ?_
  exact ⟨rfl, hz.drop.p1.drop⟩

set_option maxHeartbeats 6000000 in
set_option maxRecDepth 100000 in
theorem read_end_err (b : Nat) (i i1 i2 i3 i4 : InS) (id : Bs) (p e : Int) (c : Bool) (h1 : i.text = (id, i1)) (h2 : i1.int 8 = (p, i2)) (h3 : i2.int 2 = (e, i3)) (h4 : i3.boolP = (c, i4)) (x : Int) (hi : i4.err = x) (h0 : x ≠ 0) {W0 w : World} {K : Know} {L : List Res} (h : St W0 w K (.inp b i :: L)) :
    Calls Try.prog 91 #[inPtr b] w fun en w' => en = .returned (.agg #[.string ⟨#[]⟩, .int .i64 0, .int .i64 0, .bool false]) ∧ St W0 w' K (.inp b i4 :: L) := by
  obtain ⟨rb, hrb⟩ : ∃ b, w.heap.size = b := ⟨_, rfl⟩
  obtain ⟨eb, heb⟩ : ∃ b, rb + 1 = b := ⟨_, rfl⟩
  have g1 := (h.allocRaw #[.string ⟨#[]⟩, .int .i64 0, .int .i64 0, .bool false] 136).allocRaw #[.string ⟨#[]⟩, .int .i64 0, .int .i64 0, .bool false] 136
  simp only [World.size_alloc, hrb, heb] at g1
  have H := Lib.hid g1.p2
  have H1 := Lib.hid h1
  have H2 := Lib.hid h2
  have H3 := Lib.hid h3
  have H4 := Lib.hid h4
  have HI := Lib.hid hi
  have H0 := Lib.hid h0
  clear h g1 h1 h2 h3 h4 hi h0
  go_enter Try.func91, Try.ntmps91
  go_wp2_with (first
    | (go_at_call 78; (with_reducible refine (blob_textV b _ _ id H1.out H.out).mono ?_); rintro e_ wn ⟨rfl, h⟩; have f0 := h.p1.rawFree 0; have g0 := h.p1.rawCell 0; simp at g0; have h := (show St W0 (wn.setCell ⟨eb, 0, none⟩ (.string (bb id))) K (.inp b i1 :: .raw eb #[.string (bb id), .int .i64 0, .int .i64 0, .bool false] 136 :: .raw rb #[.string ⟨#[]⟩, .int .i64 0, .int .i64 0, .bool false] 136 :: L) from (h.p1.rawSet 0 (.string (bb id))).p1); replace H := Lib.hid h; clear h)
    | (go_at_call 118; (with_reducible refine (txn_readWriter b _ _ _ p e H2.out H3.out H.out).mono ?_); rintro e_ wn ⟨rfl, h⟩; have f1 := h.p1.rawFree 1; have g1 := h.p1.rawCell 1; simp at g1; have f2 := h.p1.rawFree 2; have g2 := h.p1.rawCell 2; simp at g2; have h := (show St W0 ((wn.setCell ⟨eb, 1, none⟩ (.int .i64 p)).setCell ⟨eb, 2, none⟩ (.int .i64 e)) K (.inp b i3 :: .raw eb #[.string (bb id), .int .i64 p, .int .i64 e, .bool false] 136 :: .raw rb #[.string ⟨#[]⟩, .int .i64 0, .int .i64 0, .bool false] 136 :: L) from ((h.p1.rawSet 1 (.int .i64 p)).rawSet 2 (.int .i64 e)).p1); replace H := Lib.hid h; clear h)
    | (go_at_call 48; (with_reducible refine (s_bool b _ _ c H4.out H.out).mono ?_); rintro e_ wn ⟨rfl, h⟩; have f3 := h.p1.rawFree 3; have g3 := h.p1.rawCell 3; simp at g3; have h := (show St W0 (wn.setCell ⟨eb, 3, none⟩ (.bool c)) K (.inp b i4 :: .raw eb #[.string (bb id), .int .i64 p, .int .i64 e, .bool c] 136 :: .raw rb #[.string ⟨#[]⟩, .int .i64 0, .int .i64 0, .bool false] 136 :: L) from (h.p1.rawSet 3 (.bool c)).p1); have c0 := h.p1.rawCell 0; have c1 := h.p1.rawCell 1; have c2 := h.p1.rawCell 2; have c3 := h.p1.rawCell 3; simp at c0 c1 c2 c3; replace H := Lib.hid h; clear h)
    | (go_at_call 119; clear c0 c1 c2 c3; (with_reducible refine (whole_err b i4 x HI.out H0.out _ H.out).mono ?_); rintro e_ wn ⟨rfl, h⟩; have c0 := h.p1.rawCell 0; have d0 := h.p2.rawCell 0; have r0 := h.p2.rawFree 0; have c1 := h.p1.rawCell 1; have d1 := h.p2.rawCell 1; have r1 := h.p2.rawFree 1; have c2 := h.p1.rawCell 2; have d2 := h.p2.rawCell 2; have r2 := h.p2.rawFree 2; have c3 := h.p1.rawCell 3; have d3 := h.p2.rawCell 3; have r3 := h.p2.rawFree 3; simp at c0 d0 c1 d1 c2 d2 c3 d3; replace H := Lib.hid h; clear h))
  have hz : St W0 _ _ (.raw rb #[.string ⟨#[]⟩, .int .i64 0, .int .i64 0, .bool false] 136 :: .inp b i4 :: .raw eb #[.string (bb id), .int .i64 p, .int .i64 e, .bool c] 136 :: L) := ((((H.out.p2.rawSet 0 _).rawSet 1 _).rawSet 2 _).rawSet 3 _)
  refine bodyPost_ret (rc_cell_only rfl _ _ rb [.string ⟨#[]⟩, .int .i64 0, .int .i64 0, .bool false] _ rfl (rc_range hz) Try.underlying136 rfl (by kernel_rfl)) rfl ?_
  exact ⟨rfl, hz.drop.p1.drop⟩

end Go.Proofs.Ytombolmicfjjpaa

/- Requests of transactions, read for the law. -/
namespace Go.Proofs.Ytombolmicfjjpaa
open Go.RowKit

set_option maxHeartbeats 6000000 in
set_option maxRecDepth 100000 in
theorem l18r_220_ok (b : Nat) (i i1 i2 : InS) (nl : Bool) (d : Bs) (tm : Int) (h1 : i.fixed 2 = (⟨nl, d⟩, i1)) (h2 : i1.int 4 = (tm, i2)) (hi : i2.err = 0) (hr : begE 0 nl d tm (-1) (-1) = 0) (hl : d.length ≤ 140737488355328) {W0 w : World} {K : Know} {L : List Res} (h : St W0 w K (.inp b i :: L)) :
    Calls Try.prog 43 #[.int .i64 22, .int .i64 0, inPtr b] w fun en w' => en = .returned (.agg #[.bool nl, .string (bb d), .int .i64 tm, .int .i64 (-1), .int .i64 (-1), .slice none 0 0, .bool false]) ∧ St W0 w' K (.inp b i2 :: L) := by
  obtain ⟨rb, hrb⟩ : ∃ b, w.heap.size = b := ⟨_, rfl⟩
  have g1 := h.allocRaw #[.bool false, .string ⟨#[]⟩, .int .i64 0, .int .i64 0, .int .i64 0, .slice none 0 0, .bool false] 66
  rw [hrb] at g1
  have H := Lib.hid g1.p1
  have Hh1 := Lib.hid h1
  have Hh2 := Lib.hid h2
  have Hhi := Lib.hid hi
  have Hhr := Lib.hid hr
  have Hhl := Lib.hid hl
  clear h g1 h1 h2 hi hr hl
  go_enter Try.func43, Try.ntmps43
  go_wp2_with (go_at_call 99; (with_reducible refine (read_beg0_ok b i i1 i2 nl d tm Hh1.out Hh2.out Hhi.out Hhr.out Hhl.out H.out).mono ?_); rintro e_ wn ⟨rfl, h⟩; obtain ⟨eb, heb⟩ : ∃ b, wn.heap.size = b := ⟨_, rfl⟩; have h := h.allocRaw #[.bool nl, .string (bb d), .int .i64 tm, .int .i64 (-1), .int .i64 (-1)] 141; rw [heb] at h; have d0 := h.p2.rawCell 0; have r0 := h.p2.rawFree 0; have d1 := h.p2.rawCell 1; have r1 := h.p2.rawFree 1; have d2 := h.p2.rawCell 2; have r2 := h.p2.rawFree 2; have d3 := h.p2.rawCell 3; have r3 := h.p2.rawFree 3; have d4 := h.p2.rawCell 4; have r4 := h.p2.rawFree 4; have d5 := h.p2.rawCell 5; have r5 := h.p2.rawFree 5; have d6 := h.p2.rawCell 6; have r6 := h.p2.rawFree 6; simp at d0 d1 d2 d3 d4 d5 d6; replace H := Lib.hid h; clear h)
  have hz : St W0 _ K (.raw rb #[.bool nl, .string (bb d), .int .i64 tm, .int .i64 (-1), .int .i64 (-1), .slice none 0 0, .bool false] 66 :: .raw eb #[.bool nl, .string (bb d), .int .i64 tm, .int .i64 (-1), .int .i64 (-1)] 141 :: .inp b i2 :: L) := (((((((H.out.p2.rawSet 0 _).rawSet 1 _).rawSet 2 _).rawSet 3 _).rawSet 4 _).rawSet 5 _).rawSet 6 _)
  refine bodyPost_ret (rc_cell_only rfl _ _ rb [.bool nl, .string (bb d), .int .i64 tm, .int .i64 (-1), .int .i64 (-1), .slice none 0 0, .bool false] _ rfl (rc_range hz) Try.underlying66 rfl (by kernel_rfl)) rfl ?_
  exact ⟨rfl, hz.drop.drop⟩

set_option maxHeartbeats 6000000 in
set_option maxRecDepth 100000 in
theorem l18r_220_chk (b : Nat) (i i1 i2 j : InS) (nl : Bool) (d : Bs) (tm : Int) (h1 : i.fixed 2 = (⟨nl, d⟩, i1)) (h2 : i1.int 4 = (tm, i2)) (hi : i2.err = 0) (r : Int) (hr : begE 0 nl d tm (-1) (-1) = r) (h0 : r ≠ 0) (hj : i2.fail r = j) (hl : d.length ≤ 140737488355328) {W0 w : World} {K : Know} {L : List Res} (h : St W0 w K (.inp b i :: L)) :
    Calls Try.prog 43 #[.int .i64 22, .int .i64 0, inPtr b] w fun en w' => en = .returned (.agg #[.bool false, .string ⟨#[]⟩, .int .i64 0, .int .i64 0, .int .i64 0, .slice none 0 0, .bool false]) ∧ St W0 w' K (.inp b j :: L) := by
  obtain ⟨rb, hrb⟩ : ∃ b, w.heap.size = b := ⟨_, rfl⟩
  have g1 := h.allocRaw #[.bool false, .string ⟨#[]⟩, .int .i64 0, .int .i64 0, .int .i64 0, .slice none 0 0, .bool false] 66
  rw [hrb] at g1
  have H := Lib.hid g1.p1
  have Hh1 := Lib.hid h1
  have Hh2 := Lib.hid h2
  have Hhi := Lib.hid hi
  have Hhr := Lib.hid hr
  have Hh0 := Lib.hid h0
  have Hhj := Lib.hid hj
  have Hhl := Lib.hid hl
  clear h g1 h1 h2 hi hr h0 hj hl
  go_enter Try.func43, Try.ntmps43
  go_wp2_with (go_at_call 99; (with_reducible refine (read_beg0_chk b i i1 i2 j nl d tm Hh1.out Hh2.out Hhi.out r Hhr.out Hh0.out Hhj.out Hhl.out H.out).mono ?_); rintro e_ wn ⟨rfl, h⟩; obtain ⟨eb, heb⟩ : ∃ b, wn.heap.size = b := ⟨_, rfl⟩; have h := h.allocRaw #[.bool false, .string ⟨#[]⟩, .int .i64 0, .int .i64 0, .int .i64 0] 141; rw [heb] at h; have d0 := h.p2.rawCell 0; have r0 := h.p2.rawFree 0; have d1 := h.p2.rawCell 1; have r1 := h.p2.rawFree 1; have d2 := h.p2.rawCell 2; have r2 := h.p2.rawFree 2; have d3 := h.p2.rawCell 3; have r3 := h.p2.rawFree 3; have d4 := h.p2.rawCell 4; have r4 := h.p2.rawFree 4; have d5 := h.p2.rawCell 5; have r5 := h.p2.rawFree 5; have d6 := h.p2.rawCell 6; have r6 := h.p2.rawFree 6; simp at d0 d1 d2 d3 d4 d5 d6; replace H := Lib.hid h; clear h)
  have hz : St W0 _ K (.raw rb #[.bool false, .string ⟨#[]⟩, .int .i64 0, .int .i64 0, .int .i64 0, .slice none 0 0, .bool false] 66 :: .raw eb #[.bool false, .string ⟨#[]⟩, .int .i64 0, .int .i64 0, .int .i64 0] 141 :: .inp b j :: L) := (((((((H.out.p2.rawSet 0 _).rawSet 1 _).rawSet 2 _).rawSet 3 _).rawSet 4 _).rawSet 5 _).rawSet 6 _)
  refine bodyPost_ret (rc_cell_only rfl _ _ rb [.bool false, .string ⟨#[]⟩, .int .i64 0, .int .i64 0, .int .i64 0, .slice none 0 0, .bool false] _ rfl (rc_range hz) Try.underlying66 rfl (by kernel_rfl)) rfl ?_
  exact ⟨rfl, hz.drop.drop⟩

set_option maxHeartbeats 6000000 in
set_option maxRecDepth 100000 in
theorem l18r_220_err (b : Nat) (i i1 i2 : InS) (nl : Bool) (d : Bs) (tm : Int) (h1 : i.fixed 2 = (⟨nl, d⟩, i1)) (h2 : i1.int 4 = (tm, i2)) (x : Int) (hi : i2.err = x) (h0 : x ≠ 0) {W0 w : World} {K : Know} {L : List Res} (h : St W0 w K (.inp b i :: L)) :
    Calls Try.prog 43 #[.int .i64 22, .int .i64 0, inPtr b] w fun en w' => en = .returned (.agg #[.bool false, .string ⟨#[]⟩, .int .i64 0, .int .i64 0, .int .i64 0, .slice none 0 0, .bool false]) ∧ St W0 w' K (.inp b i2 :: L) := by
  obtain ⟨rb, hrb⟩ : ∃ b, w.heap.size = b := ⟨_, rfl⟩
  have g1 := h.allocRaw #[.bool false, .string ⟨#[]⟩, .int .i64 0, .int .i64 0, .int .i64 0, .slice none 0 0, .bool false] 66
  rw [hrb] at g1
  have H := Lib.hid g1.p1
  have Hh1 := Lib.hid h1
  have Hh2 := Lib.hid h2
  have Hhi := Lib.hid hi
  have Hh0 := Lib.hid h0
  clear h g1 h1 h2 hi h0
  go_enter Try.func43, Try.ntmps43
  go_wp2_with (go_at_call 99; (with_reducible refine (read_beg0_err b i i1 i2 nl d tm Hh1.out Hh2.out x Hhi.out Hh0.out H.out).mono ?_); rintro e_ wn ⟨rfl, h⟩; obtain ⟨eb, heb⟩ : ∃ b, wn.heap.size = b := ⟨_, rfl⟩; have h := h.allocRaw #[.bool false, .string ⟨#[]⟩, .int .i64 0, .int .i64 0, .int .i64 0] 141; rw [heb] at h; have d0 := h.p2.rawCell 0; have r0 := h.p2.rawFree 0; have d1 := h.p2.rawCell 1; have r1 := h.p2.rawFree 1; have d2 := h.p2.rawCell 2; have r2 := h.p2.rawFree 2; have d3 := h.p2.rawCell 3; have r3 := h.p2.rawFree 3; have d4 := h.p2.rawCell 4; have r4 := h.p2.rawFree 4; have d5 := h.p2.rawCell 5; have r5 := h.p2.rawFree 5; have d6 := h.p2.rawCell 6; have r6 := h.p2.rawFree 6; simp at d0 d1 d2 d3 d4 d5 d6; replace H := Lib.hid h; clear h)
  have hz : St W0 _ K (.raw rb #[.bool false, .string ⟨#[]⟩, .int .i64 0, .int .i64 0, .int .i64 0, .slice none 0 0, .bool false] 66 :: .raw eb #[.bool false, .string ⟨#[]⟩, .int .i64 0, .int .i64 0, .int .i64 0] 141 :: .inp b i2 :: L) := (((((((H.out.p2.rawSet 0 _).rawSet 1 _).rawSet 2 _).rawSet 3 _).rawSet 4 _).rawSet 5 _).rawSet 6 _)
  refine bodyPost_ret (rc_cell_only rfl _ _ rb [.bool false, .string ⟨#[]⟩, .int .i64 0, .int .i64 0, .int .i64 0, .slice none 0 0, .bool false] _ rfl (rc_range hz) Try.underlying66 rfl (by kernel_rfl)) rfl ?_
  exact ⟨rfl, hz.drop.drop⟩

set_option maxHeartbeats 6000000 in
set_option maxRecDepth 100000 in
theorem l18r_221_ok (b : Nat) (i i1 i2 i3 i4 : InS) (nl : Bool) (d : Bs) (tm p e : Int) (h1 : i.fixed 2 = (⟨nl, d⟩, i1)) (h2 : i1.int 4 = (tm, i2)) (h3 : i2.int 8 = (p, i3)) (h4 : i3.int 2 = (e, i4)) (hi : i4.err = 0) (hr : begE 1 nl d tm p e = 0) (hl : d.length ≤ 140737488355328) {W0 w : World} {K : Know} {L : List Res} (h : St W0 w K (.inp b i :: L)) :
    Calls Try.prog 43 #[.int .i64 22, .int .i64 1, inPtr b] w fun en w' => en = .returned (.agg #[.bool nl, .string (bb d), .int .i64 tm, .int .i64 p, .int .i64 e, .slice none 0 0, .bool false]) ∧ St W0 w' K (.inp b i4 :: L) := by
  obtain ⟨rb, hrb⟩ : ∃ b, w.heap.size = b := ⟨_, rfl⟩
  have g1 := h.allocRaw #[.bool false, .string ⟨#[]⟩, .int .i64 0, .int .i64 0, .int .i64 0, .slice none 0 0, .bool false] 66
  rw [hrb] at g1
  have H := Lib.hid g1.p1
  have Hh1 := Lib.hid h1
  have Hh2 := Lib.hid h2
  have Hh3 := Lib.hid h3
  have Hh4 := Lib.hid h4
  have Hhi := Lib.hid hi
  have Hhr := Lib.hid hr
  have Hhl := Lib.hid hl
  clear h g1 h1 h2 h3 h4 hi hr hl
  go_enter Try.func43, Try.ntmps43
  go_wp2_with (go_at_call 99; (with_reducible refine (read_beg1_ok b i i1 i2 i3 i4 nl d tm p e Hh1.out Hh2.out Hh3.out Hh4.out Hhi.out Hhr.out Hhl.out H.out).mono ?_); rintro e_ wn ⟨rfl, h⟩; obtain ⟨eb, heb⟩ : ∃ b, wn.heap.size = b := ⟨_, rfl⟩; have h := h.allocRaw #[.bool nl, .string (bb d), .int .i64 tm, .int .i64 p, .int .i64 e] 141; rw [heb] at h; have d0 := h.p2.rawCell 0; have r0 := h.p2.rawFree 0; have d1 := h.p2.rawCell 1; have r1 := h.p2.rawFree 1; have d2 := h.p2.rawCell 2; have r2 := h.p2.rawFree 2; have d3 := h.p2.rawCell 3; have r3 := h.p2.rawFree 3; have d4 := h.p2.rawCell 4; have r4 := h.p2.rawFree 4; have d5 := h.p2.rawCell 5; have r5 := h.p2.rawFree 5; have d6 := h.p2.rawCell 6; have r6 := h.p2.rawFree 6; simp at d0 d1 d2 d3 d4 d5 d6; replace H := Lib.hid h; clear h)
  have hz : St W0 _ K (.raw rb #[.bool nl, .string (bb d), .int .i64 tm, .int .i64 p, .int .i64 e, .slice none 0 0, .bool false] 66 :: .raw eb #[.bool nl, .string (bb d), .int .i64 tm, .int .i64 p, .int .i64 e] 141 :: .inp b i4 :: L) := (((((((H.out.p2.rawSet 0 _).rawSet 1 _).rawSet 2 _).rawSet 3 _).rawSet 4 _).rawSet 5 _).rawSet 6 _)
  refine bodyPost_ret (rc_cell_only rfl _ _ rb [.bool nl, .string (bb d), .int .i64 tm, .int .i64 p, .int .i64 e, .slice none 0 0, .bool false] _ rfl (rc_range hz) Try.underlying66 rfl (by kernel_rfl)) rfl ?_
  exact ⟨rfl, hz.drop.drop⟩

set_option maxHeartbeats 6000000 in
set_option maxRecDepth 100000 in
theorem l18r_221_chk (b : Nat) (i i1 i2 i3 i4 j : InS) (nl : Bool) (d : Bs) (tm p e : Int) (h1 : i.fixed 2 = (⟨nl, d⟩, i1)) (h2 : i1.int 4 = (tm, i2)) (h3 : i2.int 8 = (p, i3)) (h4 : i3.int 2 = (e, i4)) (hi : i4.err = 0) (r : Int) (hr : begE 1 nl d tm p e = r) (h0 : r ≠ 0) (hj : i4.fail r = j) (hl : d.length ≤ 140737488355328) {W0 w : World} {K : Know} {L : List Res} (h : St W0 w K (.inp b i :: L)) :
    Calls Try.prog 43 #[.int .i64 22, .int .i64 1, inPtr b] w fun en w' => en = .returned (.agg #[.bool false, .string ⟨#[]⟩, .int .i64 0, .int .i64 0, .int .i64 0, .slice none 0 0, .bool false]) ∧ St W0 w' K (.inp b j :: L) := by
  obtain ⟨rb, hrb⟩ : ∃ b, w.heap.size = b := ⟨_, rfl⟩
  have g1 := h.allocRaw #[.bool false, .string ⟨#[]⟩, .int .i64 0, .int .i64 0, .int .i64 0, .slice none 0 0, .bool false] 66
  rw [hrb] at g1
  have H := Lib.hid g1.p1
  have Hh1 := Lib.hid h1
  have Hh2 := Lib.hid h2
  have Hh3 := Lib.hid h3
  have Hh4 := Lib.hid h4
  have Hhi := Lib.hid hi
  have Hhr := Lib.hid hr
  have Hh0 := Lib.hid h0
  have Hhj := Lib.hid hj
  have Hhl := Lib.hid hl
  clear h g1 h1 h2 h3 h4 hi hr h0 hj hl
  go_enter Try.func43, Try.ntmps43
  go_wp2_with (go_at_call 99; (with_reducible refine (read_beg1_chk b i i1 i2 i3 i4 j nl d tm p e Hh1.out Hh2.out Hh3.out Hh4.out Hhi.out r Hhr.out Hh0.out Hhj.out Hhl.out H.out).mono ?_); rintro e_ wn ⟨rfl, h⟩; obtain ⟨eb, heb⟩ : ∃ b, wn.heap.size = b := ⟨_, rfl⟩; have h := h.allocRaw #[.bool false, .string ⟨#[]⟩, .int .i64 0, .int .i64 0, .int .i64 0] 141; rw [heb] at h; have d0 := h.p2.rawCell 0; have r0 := h.p2.rawFree 0; have d1 := h.p2.rawCell 1; have r1 := h.p2.rawFree 1; have d2 := h.p2.rawCell 2; have r2 := h.p2.rawFree 2; have d3 := h.p2.rawCell 3; have r3 := h.p2.rawFree 3; have d4 := h.p2.rawCell 4; have r4 := h.p2.rawFree 4; have d5 := h.p2.rawCell 5; have r5 := h.p2.rawFree 5; have d6 := h.p2.rawCell 6; have r6 := h.p2.rawFree 6; simp at d0 d1 d2 d3 d4 d5 d6; replace H := Lib.hid h; clear h)
  have hz : St W0 _ K (.raw rb #[.bool false, .string ⟨#[]⟩, .int .i64 0, .int .i64 0, .int .i64 0, .slice none 0 0, .bool false] 66 :: .raw eb #[.bool false, .string ⟨#[]⟩, .int .i64 0, .int .i64 0, .int .i64 0] 141 :: .inp b j :: L) := (((((((H.out.p2.rawSet 0 _).rawSet 1 _).rawSet 2 _).rawSet 3 _).rawSet 4 _).rawSet 5 _).rawSet 6 _)
  refine bodyPost_ret (rc_cell_only rfl _ _ rb [.bool false, .string ⟨#[]⟩, .int .i64 0, .int .i64 0, .int .i64 0, .slice none 0 0, .bool false] _ rfl (rc_range hz) Try.underlying66 rfl (by kernel_rfl)) rfl ?_
  exact ⟨rfl, hz.drop.drop⟩

set_option maxHeartbeats 6000000 in
set_option maxRecDepth 100000 in
theorem l18r_221_err (b : Nat) (i i1 i2 i3 i4 : InS) (nl : Bool) (d : Bs) (tm p e : Int) (h1 : i.fixed 2 = (⟨nl, d⟩, i1)) (h2 : i1.int 4 = (tm, i2)) (h3 : i2.int 8 = (p, i3)) (h4 : i3.int 2 = (e, i4)) (x : Int) (hi : i4.err = x) (h0 : x ≠ 0) {W0 w : World} {K : Know} {L : List Res} (h : St W0 w K (.inp b i :: L)) :
    Calls Try.prog 43 #[.int .i64 22, .int .i64 1, inPtr b] w fun en w' => en = .returned (.agg #[.bool false, .string ⟨#[]⟩, .int .i64 0, .int .i64 0, .int .i64 0, .slice none 0 0, .bool false]) ∧ St W0 w' K (.inp b i4 :: L) := by
  obtain ⟨rb, hrb⟩ : ∃ b, w.heap.size = b := ⟨_, rfl⟩
  have g1 := h.allocRaw #[.bool false, .string ⟨#[]⟩, .int .i64 0, .int .i64 0, .int .i64 0, .slice none 0 0, .bool false] 66
  rw [hrb] at g1
  have H := Lib.hid g1.p1
  have Hh1 := Lib.hid h1
  have Hh2 := Lib.hid h2
  have Hh3 := Lib.hid h3
  have Hh4 := Lib.hid h4
  have Hhi := Lib.hid hi
  have Hh0 := Lib.hid h0
  clear h g1 h1 h2 h3 h4 hi h0
  go_enter Try.func43, Try.ntmps43
  go_wp2_with (go_at_call 99; (with_reducible refine (read_beg1_err b i i1 i2 i3 i4 nl d tm p e Hh1.out Hh2.out Hh3.out Hh4.out x Hhi.out Hh0.out H.out).mono ?_); rintro e_ wn ⟨rfl, h⟩; obtain ⟨eb, heb⟩ : ∃ b, wn.heap.size = b := ⟨_, rfl⟩; have h := h.allocRaw #[.bool false, .string ⟨#[]⟩, .int .i64 0, .int .i64 0, .int .i64 0] 141; rw [heb] at h; have d0 := h.p2.rawCell 0; have r0 := h.p2.rawFree 0; have d1 := h.p2.rawCell 1; have r1 := h.p2.rawFree 1; have d2 := h.p2.rawCell 2; have r2 := h.p2.rawFree 2; have d3 := h.p2.rawCell 3; have r3 := h.p2.rawFree 3; have d4 := h.p2.rawCell 4; have r4 := h.p2.rawFree 4; have d5 := h.p2.rawCell 5; have r5 := h.p2.rawFree 5; have d6 := h.p2.rawCell 6; have r6 := h.p2.rawFree 6; simp at d0 d1 d2 d3 d4 d5 d6; replace H := Lib.hid h; clear h)
  have hz : St W0 _ K (.raw rb #[.bool false, .string ⟨#[]⟩, .int .i64 0, .int .i64 0, .int .i64 0, .slice none 0 0, .bool false] 66 :: .raw eb #[.bool false, .string ⟨#[]⟩, .int .i64 0, .int .i64 0, .int .i64 0] 141 :: .inp b i4 :: L) := (((((((H.out.p2.rawSet 0 _).rawSet 1 _).rawSet 2 _).rawSet 3 _).rawSet 4 _).rawSet 5 _).rawSet 6 _)
  refine bodyPost_ret (rc_cell_only rfl _ _ rb [.bool false, .string ⟨#[]⟩, .int .i64 0, .int .i64 0, .int .i64 0, .slice none 0 0, .bool false] _ rfl (rc_range hz) Try.underlying66 rfl (by kernel_rfl)) rfl ?_
  exact ⟨rfl, hz.drop.drop⟩

set_option maxHeartbeats 6000000 in
set_option maxRecDepth 100000 in
theorem l18r_24_ok (b : Nat) (v : Int) (i i1 i2 i3 i4 : InS) (d : Bs) (p e : Int) (tl : List TopS) (h1 : i.text = (d, i1)) (h2 : i1.int 8 = (p, i2)) (h3 : i2.int 2 = (e, i3)) (h4 : i3.tops = (tl, i4)) (hi : i4.err = 0) (hr : addE d p e tl = 0) (hl : d.length ≤ 140737488355328) (hf : FewL tl) {W0 w : World} {K : Know} {L : List Res} (h : St W0 w K (.inp b i :: L)) :
    Calls Try.prog 43 #[.int .i64 24, .int .i64 v, inPtr b] w fun en w' => ∃ (q : Option Addr) (cap : Nat) (lr : List (TopS × Value)), en = .returned (.agg #[.bool false, .string (bb d), .int .i64 0, .int .i64 p, .int .i64 e, .slice q lr.length cap, .bool false]) ∧ lr.map (·.1) = tl ∧ St W0 w' (K.and (Know.tops (.slice q lr.length cap) lr)) (.inp b i4 :: L) := by
  obtain ⟨rb, hrb⟩ : ∃ b, w.heap.size = b := ⟨_, rfl⟩
  have g1 := h.allocRaw #[.bool false, .string ⟨#[]⟩, .int .i64 0, .int .i64 0, .int .i64 0, .slice none 0 0, .bool false] 66
  rw [hrb] at g1
  have H := Lib.hid g1.p1
  have Hh1 := Lib.hid h1
  have Hh2 := Lib.hid h2
  have Hh3 := Lib.hid h3
  have Hh4 := Lib.hid h4
  have Hhi := Lib.hid hi
  have Hhr := Lib.hid hr
  have Hhl := Lib.hid hl
  have Hhf := Lib.hid hf
  clear h g1 h1 h2 h3 h4 hi hr hl hf
  go_enter Try.func43, Try.ntmps43
  go_wp2_with (go_at_call 100; (with_reducible refine (read_add_ok b i i1 i2 i3 i4 d p e tl Hh1.out Hh2.out Hh3.out Hh4.out Hhi.out Hhr.out Hhl.out Hhf.out H.out).mono ?_); rintro e_ wn ⟨q, cap, lr, rfl, hlr, h⟩; have HLR := Lib.hid hlr; clear hlr; obtain ⟨eb, heb⟩ : ∃ b, wn.heap.size = b := ⟨_, rfl⟩; have h := h.allocRaw #[.string (bb d), .int .i64 p, .int .i64 e, .slice q lr.length cap] 144; rw [heb] at h; have d0 := h.p2.rawCell 0; have r0 := h.p2.rawFree 0; have d1 := h.p2.rawCell 1; have r1 := h.p2.rawFree 1; have d2 := h.p2.rawCell 2; have r2 := h.p2.rawFree 2; have d3 := h.p2.rawCell 3; have r3 := h.p2.rawFree 3; have d4 := h.p2.rawCell 4; have r4 := h.p2.rawFree 4; have d5 := h.p2.rawCell 5; have r5 := h.p2.rawFree 5; have d6 := h.p2.rawCell 6; have r6 := h.p2.rawFree 6; simp at d0 d1 d2 d3 d4 d5 d6; replace H := Lib.hid h; clear h)
  have hz : St W0 _ (K.and (Know.tops (.slice q lr.length cap) lr)) (.raw rb #[.bool false, .string (bb d), .int .i64 0, .int .i64 p, .int .i64 e, .slice q lr.length cap, .bool false] 66 :: .raw eb #[.string (bb d), .int .i64 p, .int .i64 e, .slice q lr.length cap] 144 :: .inp b i4 :: L) := (((((((H.out.p2.rawSet 0 _).rawSet 1 _).rawSet 2 _).rawSet 3 _).rawSet 4 _).rawSet 5 _).rawSet 6 _)
  refine bodyPost_ret (rc_cell_only rfl _ _ rb [.bool false, .string (bb d), .int .i64 0, .int .i64 p, .int .i64 e, .slice q lr.length cap, .bool false] _ rfl (rc_range hz) Try.underlying66 rfl (by kernel_rfl)) rfl ?_
  exact ⟨q, cap, lr, rfl, HLR.out, hz.drop.drop⟩

set_option maxHeartbeats 6000000 in
set_option maxRecDepth 100000 in
theorem l18r_24_chk (b : Nat) (v : Int) (i i1 i2 i3 i4 j : InS) (d : Bs) (p e : Int) (tl : List TopS) (h1 : i.text = (d, i1)) (h2 : i1.int 8 = (p, i2)) (h3 : i2.int 2 = (e, i3)) (h4 : i3.tops = (tl, i4)) (hi : i4.err = 0) (r : Int) (hr : addE d p e tl = r) (h0 : r ≠ 0) (hj : i4.fail r = j) (hl : d.length ≤ 140737488355328) (hf : FewL tl) {W0 w : World} {K : Know} {L : List Res} (h : St W0 w K (.inp b i :: L)) :
    Calls Try.prog 43 #[.int .i64 24, .int .i64 v, inPtr b] w fun en w' => en = .returned (.agg #[.bool false, .string ⟨#[]⟩, .int .i64 0, .int .i64 0, .int .i64 0, .slice none 0 0, .bool false]) ∧ St W0 w' K (.inp b j :: L) := by
  obtain ⟨rb, hrb⟩ : ∃ b, w.heap.size = b := ⟨_, rfl⟩
  have g1 := h.allocRaw #[.bool false, .string ⟨#[]⟩, .int .i64 0, .int .i64 0, .int .i64 0, .slice none 0 0, .bool false] 66
  rw [hrb] at g1
  have H := Lib.hid g1.p1
  have Hh1 := Lib.hid h1
  have Hh2 := Lib.hid h2
  have Hh3 := Lib.hid h3
  have Hh4 := Lib.hid h4
  have Hhi := Lib.hid hi
  have Hhr := Lib.hid hr
  have Hh0 := Lib.hid h0
  have Hhj := Lib.hid hj
  have Hhl := Lib.hid hl
  have Hhf := Lib.hid hf
  clear h g1 h1 h2 h3 h4 hi hr h0 hj hl hf
  go_enter Try.func43, Try.ntmps43
  go_wp2_with (go_at_call 100; (with_reducible refine (read_add_chk b i i1 i2 i3 i4 j d p e tl Hh1.out Hh2.out Hh3.out Hh4.out Hhi.out r Hhr.out Hh0.out Hhj.out Hhl.out Hhf.out H.out).mono ?_); rintro e_ wn ⟨rfl, h⟩; obtain ⟨eb, heb⟩ : ∃ b, wn.heap.size = b := ⟨_, rfl⟩; have h := h.allocRaw #[.string ⟨#[]⟩, .int .i64 0, .int .i64 0, .slice none 0 0] 144; rw [heb] at h; have d0 := h.p2.rawCell 0; have r0 := h.p2.rawFree 0; have d1 := h.p2.rawCell 1; have r1 := h.p2.rawFree 1; have d2 := h.p2.rawCell 2; have r2 := h.p2.rawFree 2; have d3 := h.p2.rawCell 3; have r3 := h.p2.rawFree 3; have d4 := h.p2.rawCell 4; have r4 := h.p2.rawFree 4; have d5 := h.p2.rawCell 5; have r5 := h.p2.rawFree 5; have d6 := h.p2.rawCell 6; have r6 := h.p2.rawFree 6; simp at d0 d1 d2 d3 d4 d5 d6; replace H := Lib.hid h; clear h)
  have hz : St W0 _ K (.raw rb #[.bool false, .string ⟨#[]⟩, .int .i64 0, .int .i64 0, .int .i64 0, .slice none 0 0, .bool false] 66 :: .raw eb #[.string ⟨#[]⟩, .int .i64 0, .int .i64 0, .slice none 0 0] 144 :: .inp b j :: L) := (((((((H.out.p2.rawSet 0 _).rawSet 1 _).rawSet 2 _).rawSet 3 _).rawSet 4 _).rawSet 5 _).rawSet 6 _)
  refine bodyPost_ret (rc_cell_only rfl _ _ rb [.bool false, .string ⟨#[]⟩, .int .i64 0, .int .i64 0, .int .i64 0, .slice none 0 0, .bool false] _ rfl (rc_range hz) Try.underlying66 rfl (by kernel_rfl)) rfl ?_
  exact ⟨rfl, hz.drop.drop⟩

set_option maxHeartbeats 6000000 in
set_option maxRecDepth 100000 in
theorem l18r_24_err (b : Nat) (v : Int) (i i1 i2 i3 i4 : InS) (d : Bs) (p e : Int) (tl : List TopS) (h1 : i.text = (d, i1)) (h2 : i1.int 8 = (p, i2)) (h3 : i2.int 2 = (e, i3)) (h4 : i3.tops = (tl, i4)) (x : Int) (hi : i4.err = x) (h0 : x ≠ 0) {W0 w : World} {K : Know} {L : List Res} (h : St W0 w K (.inp b i :: L)) :
    Calls Try.prog 43 #[.int .i64 24, .int .i64 v, inPtr b] w fun en w' => en = .returned (.agg #[.bool false, .string ⟨#[]⟩, .int .i64 0, .int .i64 0, .int .i64 0, .slice none 0 0, .bool false]) ∧ St W0 w' K (.inp b i4 :: L) := by
  obtain ⟨rb, hrb⟩ : ∃ b, w.heap.size = b := ⟨_, rfl⟩
  have g1 := h.allocRaw #[.bool false, .string ⟨#[]⟩, .int .i64 0, .int .i64 0, .int .i64 0, .slice none 0 0, .bool false] 66
  rw [hrb] at g1
  have H := Lib.hid g1.p1
  have Hh1 := Lib.hid h1
  have Hh2 := Lib.hid h2
  have Hh3 := Lib.hid h3
  have Hh4 := Lib.hid h4
  have Hhi := Lib.hid hi
  have Hh0 := Lib.hid h0
  clear h g1 h1 h2 h3 h4 hi h0
  go_enter Try.func43, Try.ntmps43
  go_wp2_with (go_at_call 100; (with_reducible refine (read_add_err b i i1 i2 i3 i4 d p e tl Hh1.out Hh2.out Hh3.out Hh4.out x Hhi.out Hh0.out H.out).mono ?_); rintro e_ wn ⟨rfl, h⟩; obtain ⟨eb, heb⟩ : ∃ b, wn.heap.size = b := ⟨_, rfl⟩; have h := h.allocRaw #[.string ⟨#[]⟩, .int .i64 0, .int .i64 0, .slice none 0 0] 144; rw [heb] at h; have d0 := h.p2.rawCell 0; have r0 := h.p2.rawFree 0; have d1 := h.p2.rawCell 1; have r1 := h.p2.rawFree 1; have d2 := h.p2.rawCell 2; have r2 := h.p2.rawFree 2; have d3 := h.p2.rawCell 3; have r3 := h.p2.rawFree 3; have d4 := h.p2.rawCell 4; have r4 := h.p2.rawFree 4; have d5 := h.p2.rawCell 5; have r5 := h.p2.rawFree 5; have d6 := h.p2.rawCell 6; have r6 := h.p2.rawFree 6; simp at d0 d1 d2 d3 d4 d5 d6; replace H := Lib.hid h; clear h)
  have hz : St W0 _ K (.raw rb #[.bool false, .string ⟨#[]⟩, .int .i64 0, .int .i64 0, .int .i64 0, .slice none 0 0, .bool false] 66 :: .raw eb #[.string ⟨#[]⟩, .int .i64 0, .int .i64 0, .slice none 0 0] 144 :: .inp b i4 :: L) := (((((((H.out.p2.rawSet 0 _).rawSet 1 _).rawSet 2 _).rawSet 3 _).rawSet 4 _).rawSet 5 _).rawSet 6 _)
  refine bodyPost_ret (rc_cell_only rfl _ _ rb [.bool false, .string ⟨#[]⟩, .int .i64 0, .int .i64 0, .int .i64 0, .slice none 0 0, .bool false] _ rfl (rc_range hz) Try.underlying66 rfl (by kernel_rfl)) rfl ?_
  exact ⟨rfl, hz.drop.drop⟩

set_option maxHeartbeats 6000000 in
set_option maxRecDepth 100000 in
theorem l18r_26_chk (b : Nat) (v : Int) (i i1 i2 i3 i4 j : InS) (d : Bs) (p e : Int) (c : Bool) (h1 : i.text = (d, i1)) (h2 : i1.int 8 = (p, i2)) (h3 : i2.int 2 = (e, i3)) (h4 : i3.boolP = (c, i4)) (hi : i4.err = 0) (r : Int) (hr : chkW d p e = r) (h0 : r ≠ 0) (hj : i4.fail r = j) (hl : d.length ≤ 140737488355328) {W0 w : World} {K : Know} {L : List Res} (h : St W0 w K (.inp b i :: L)) :
    Calls Try.prog 43 #[.int .i64 26, .int .i64 v, inPtr b] w fun en w' => en = .returned (.agg #[.bool false, .string ⟨#[]⟩, .int .i64 0, .int .i64 0, .int .i64 0, .slice none 0 0, .bool false]) ∧ St W0 w' K (.inp b j :: L) := by
  obtain ⟨rb, hrb⟩ : ∃ b, w.heap.size = b := ⟨_, rfl⟩
  have g1 := h.allocRaw #[.bool false, .string ⟨#[]⟩, .int .i64 0, .int .i64 0, .int .i64 0, .slice none 0 0, .bool false] 66
  rw [hrb] at g1
  have H := Lib.hid g1.p1
  have Hh1 := Lib.hid h1
  have Hh2 := Lib.hid h2
  have Hh3 := Lib.hid h3
  have Hh4 := Lib.hid h4
  have Hhi := Lib.hid hi
  have Hhr := Lib.hid hr
  have Hh0 := Lib.hid h0
  have Hhj := Lib.hid hj
  have Hhl := Lib.hid hl
  clear h g1 h1 h2 h3 h4 hi hr h0 hj hl
  go_enter Try.func43, Try.ntmps43
  go_wp2_with (go_at_call 91; (with_reducible refine (read_end_chk b i i1 i2 i3 i4 j d p e c Hh1.out Hh2.out Hh3.out Hh4.out Hhi.out r Hhr.out Hh0.out Hhj.out Hhl.out H.out).mono ?_); rintro e_ wn ⟨rfl, h⟩; obtain ⟨eb, heb⟩ : ∃ b, wn.heap.size = b := ⟨_, rfl⟩; have h := h.allocRaw #[.string ⟨#[]⟩, .int .i64 0, .int .i64 0, .bool false] 136; rw [heb] at h; have d0 := h.p2.rawCell 0; have r0 := h.p2.rawFree 0; have d1 := h.p2.rawCell 1; have r1 := h.p2.rawFree 1; have d2 := h.p2.rawCell 2; have r2 := h.p2.rawFree 2; have d3 := h.p2.rawCell 3; have r3 := h.p2.rawFree 3; have d4 := h.p2.rawCell 4; have r4 := h.p2.rawFree 4; have d5 := h.p2.rawCell 5; have r5 := h.p2.rawFree 5; have d6 := h.p2.rawCell 6; have r6 := h.p2.rawFree 6; simp at d0 d1 d2 d3 d4 d5 d6; replace H := Lib.hid h; clear h)
  have hz : St W0 _ K (.raw rb #[.bool false, .string ⟨#[]⟩, .int .i64 0, .int .i64 0, .int .i64 0, .slice none 0 0, .bool false] 66 :: .raw eb #[.string ⟨#[]⟩, .int .i64 0, .int .i64 0, .bool false] 136 :: .inp b j :: L) := (((((((H.out.p2.rawSet 0 _).rawSet 1 _).rawSet 2 _).rawSet 3 _).rawSet 4 _).rawSet 5 _).rawSet 6 _)
  refine bodyPost_ret (rc_cell_only rfl _ _ rb [.bool false, .string ⟨#[]⟩, .int .i64 0, .int .i64 0, .int .i64 0, .slice none 0 0, .bool false] _ rfl (rc_range hz) Try.underlying66 rfl (by kernel_rfl)) rfl ?_
  exact ⟨rfl, hz.drop.drop⟩

set_option maxHeartbeats 6000000 in
set_option maxRecDepth 100000 in
theorem l18r_26_err (b : Nat) (v : Int) (i i1 i2 i3 i4 : InS) (d : Bs) (p e : Int) (c : Bool) (h1 : i.text = (d, i1)) (h2 : i1.int 8 = (p, i2)) (h3 : i2.int 2 = (e, i3)) (h4 : i3.boolP = (c, i4)) (x : Int) (hi : i4.err = x) (h0 : x ≠ 0) {W0 w : World} {K : Know} {L : List Res} (h : St W0 w K (.inp b i :: L)) :
    Calls Try.prog 43 #[.int .i64 26, .int .i64 v, inPtr b] w fun en w' => en = .returned (.agg #[.bool false, .string ⟨#[]⟩, .int .i64 0, .int .i64 0, .int .i64 0, .slice none 0 0, .bool false]) ∧ St W0 w' K (.inp b i4 :: L) := by
  obtain ⟨rb, hrb⟩ : ∃ b, w.heap.size = b := ⟨_, rfl⟩
  have g1 := h.allocRaw #[.bool false, .string ⟨#[]⟩, .int .i64 0, .int .i64 0, .int .i64 0, .slice none 0 0, .bool false] 66
  rw [hrb] at g1
  have H := Lib.hid g1.p1
  have Hh1 := Lib.hid h1
  have Hh2 := Lib.hid h2
  have Hh3 := Lib.hid h3
  have Hh4 := Lib.hid h4
  have Hhi := Lib.hid hi
  have Hh0 := Lib.hid h0
  clear h g1 h1 h2 h3 h4 hi h0
  go_enter Try.func43, Try.ntmps43
  go_wp2_with (go_at_call 91; (with_reducible refine (read_end_err b i i1 i2 i3 i4 d p e c Hh1.out Hh2.out Hh3.out Hh4.out x Hhi.out Hh0.out H.out).mono ?_); rintro e_ wn ⟨rfl, h⟩; obtain ⟨eb, heb⟩ : ∃ b, wn.heap.size = b := ⟨_, rfl⟩; have h := h.allocRaw #[.string ⟨#[]⟩, .int .i64 0, .int .i64 0, .bool false] 136; rw [heb] at h; have d0 := h.p2.rawCell 0; have r0 := h.p2.rawFree 0; have d1 := h.p2.rawCell 1; have r1 := h.p2.rawFree 1; have d2 := h.p2.rawCell 2; have r2 := h.p2.rawFree 2; have d3 := h.p2.rawCell 3; have r3 := h.p2.rawFree 3; have d4 := h.p2.rawCell 4; have r4 := h.p2.rawFree 4; have d5 := h.p2.rawCell 5; have r5 := h.p2.rawFree 5; have d6 := h.p2.rawCell 6; have r6 := h.p2.rawFree 6; simp at d0 d1 d2 d3 d4 d5 d6; replace H := Lib.hid h; clear h)
  have hz : St W0 _ K (.raw rb #[.bool false, .string ⟨#[]⟩, .int .i64 0, .int .i64 0, .int .i64 0, .slice none 0 0, .bool false] 66 :: .raw eb #[.string ⟨#[]⟩, .int .i64 0, .int .i64 0, .bool false] 136 :: .inp b i4 :: L) := (((((((H.out.p2.rawSet 0 _).rawSet 1 _).rawSet 2 _).rawSet 3 _).rawSet 4 _).rawSet 5 _).rawSet 6 _)
  refine bodyPost_ret (rc_cell_only rfl _ _ rb [.bool false, .string ⟨#[]⟩, .int .i64 0, .int .i64 0, .int .i64 0, .slice none 0 0, .bool false] _ rfl (rc_range hz) Try.underlying66 rfl (by kernel_rfl)) rfl ?_
  exact ⟨rfl, hz.drop.drop⟩

set_option maxHeartbeats 6000000 in
set_option maxRecDepth 100000 in
theorem l18r_26_ok (b : Nat) (v : Int) (i i1 i2 i3 i4 : InS) (d : Bs) (p e : Int) (c : Bool) (h1 : i.text = (d, i1)) (h2 : i1.int 8 = (p, i2)) (h3 : i2.int 2 = (e, i3)) (h4 : i3.boolP = (c, i4)) (hi : i4.err = 0) (hr : chkW d p e = 0) (hl : d.length ≤ 140737488355328) {W0 w : World} {K : Know} {L : List Res} (h : St W0 w K (.inp b i :: L)) :
    Calls Try.prog 43 #[.int .i64 26, .int .i64 v, inPtr b] w fun en w' => en = .returned (.agg #[.bool false, .string (bb d), .int .i64 0, .int .i64 p, .int .i64 e, .slice none 0 0, .bool c]) ∧ St W0 w' K (.inp b i4 :: L) := by
  obtain ⟨rb, hrb⟩ : ∃ b, w.heap.size = b := ⟨_, rfl⟩
  have g1 := h.allocRaw #[.bool false, .string ⟨#[]⟩, .int .i64 0, .int .i64 0, .int .i64 0, .slice none 0 0, .bool false] 66
  rw [hrb] at g1
  have H := Lib.hid g1.p1
  have Hh1 := Lib.hid h1
  have Hh2 := Lib.hid h2
  have Hh3 := Lib.hid h3
  have Hh4 := Lib.hid h4
  have Hhi := Lib.hid hi
  have Hhr := Lib.hid hr
  have Hhl := Lib.hid hl
  clear h g1 h1 h2 h3 h4 hi hr hl
  go_enter Try.func43, Try.ntmps43
  go_wp2_with (go_at_call 91; (with_reducible refine (read_end_ok b i i1 i2 i3 i4 d p e c Hh1.out Hh2.out Hh3.out Hh4.out Hhi.out Hhr.out Hhl.out H.out).mono ?_); rintro e_ wn ⟨rfl, h⟩; obtain ⟨eb, heb⟩ : ∃ b, wn.heap.size = b := ⟨_, rfl⟩; have h := h.allocRaw #[.string (bb d), .int .i64 p, .int .i64 e, .bool c] 136; rw [heb] at h; have d0 := h.p2.rawCell 0; have r0 := h.p2.rawFree 0; have d1 := h.p2.rawCell 1; have r1 := h.p2.rawFree 1; have d2 := h.p2.rawCell 2; have r2 := h.p2.rawFree 2; have d3 := h.p2.rawCell 3; have r3 := h.p2.rawFree 3; have d4 := h.p2.rawCell 4; have r4 := h.p2.rawFree 4; have d5 := h.p2.rawCell 5; have r5 := h.p2.rawFree 5; have d6 := h.p2.rawCell 6; have r6 := h.p2.rawFree 6; simp at d0 d1 d2 d3 d4 d5 d6; replace H := Lib.hid h; clear h)
  have hz : St W0 _ K (.raw rb #[.bool false, .string (bb d), .int .i64 0, .int .i64 p, .int .i64 e, .slice none 0 0, .bool c] 66 :: .raw eb #[.string (bb d), .int .i64 p, .int .i64 e, .bool c] 136 :: .inp b i4 :: L) := (((((((H.out.p2.rawSet 0 _).rawSet 1 _).rawSet 2 _).rawSet 3 _).rawSet 4 _).rawSet 5 _).rawSet 6 _)
  refine bodyPost_ret (rc_cell_only rfl _ _ rb [.bool false, .string (bb d), .int .i64 0, .int .i64 p, .int .i64 e, .slice none 0 0, .bool c] _ rfl (rc_range hz) Try.underlying66 rfl (by kernel_rfl)) rfl ?_
  exact ⟨rfl, hz.drop.drop⟩

end Go.Proofs.Ytombolmicfjjpaa

/- Which of the requests. -/
namespace Go.Proofs.Ytombolmicfjjpaa
open Go.RowKit

set_option maxHeartbeats 1000000 in
set_option maxRecDepth 100000 in
theorem law18_kinds0 (n : Int) (hm : n.tmod 3 = 0) (hw : IntKind.u8.wrap n = n) {W0 w : World} {K : Know} {L : List Res} (h : St W0 w K L) :
    Calls Try.prog 38 #[.int .u8 n] w fun en w' => en = .returned (.int .i64 22) ∧ St W0 w' K L := by
  have H := Lib.hid h
  have hi : ∀ w, (Instr.index 139 (.agg #[.int .i64 22, .int .i64 24, .int .i64 26]) (.int .u8 0)).run Try.prog w = .ok (.int .i64 22) w := fun _ => by kernel_rfl
  have hw2 : IntKind.u8.wrap 0 = 0 := by decide
  clear h
  go_enter Try.func38, Try.ntmps38
  go_wp2_with (fail)
  go_ret
  exact ⟨rfl, H.out⟩

set_option maxHeartbeats 1000000 in
set_option maxRecDepth 100000 in
theorem law18_kinds1 (n : Int) (hm : n.tmod 3 = 1) (hw : IntKind.u8.wrap n = n) {W0 w : World} {K : Know} {L : List Res} (h : St W0 w K L) :
    Calls Try.prog 38 #[.int .u8 n] w fun en w' => en = .returned (.int .i64 24) ∧ St W0 w' K L := by
  have H := Lib.hid h
  have hi : ∀ w, (Instr.index 139 (.agg #[.int .i64 22, .int .i64 24, .int .i64 26]) (.int .u8 1)).run Try.prog w = .ok (.int .i64 24) w := fun _ => by kernel_rfl
  have hw2 : IntKind.u8.wrap 1 = 1 := by decide
  clear h
  go_enter Try.func38, Try.ntmps38
  go_wp2_with (fail)
  go_ret
  exact ⟨rfl, H.out⟩

set_option maxHeartbeats 1000000 in
set_option maxRecDepth 100000 in
theorem law18_kinds2 (n : Int) (hm : n.tmod 3 = 2) (hw : IntKind.u8.wrap n = n) {W0 w : World} {K : Know} {L : List Res} (h : St W0 w K L) :
    Calls Try.prog 38 #[.int .u8 n] w fun en w' => en = .returned (.int .i64 26) ∧ St W0 w' K L := by
  have H := Lib.hid h
  have hi : ∀ w, (Instr.index 139 (.agg #[.int .i64 22, .int .i64 24, .int .i64 26]) (.int .u8 2)).run Try.prog w = .ok (.int .i64 26) w := fun _ => by kernel_rfl
  have hw2 : IntKind.u8.wrap 2 = 2 := by decide
  clear h
  go_enter Try.func38, Try.ntmps38
  go_wp2_with (fail)
  go_ret
  exact ⟨rfl, H.out⟩

end Go.Proofs.Ytombolmicfjjpaa
