/- TxnWrites: too long, too many. -/
import Derived.Test.YtombolmicfjjpaaGTxnWrites9
import Derived.Test.YtombolmicfjjpaaGTxnWrites5
import Derived.Handy
import Derived.Test.YtombolmicfjjpaaGTxnWrites4
import Derived.Deep.RegionHeld3
import Derived.Deep.DeepCutAuto
import Derived.Test.YtombolmicfjjpaaArgs
import Derived.SizedLaws
import Derived.Deep.Slices
import Derived.Test.YtombolmicfjjpaaGTxnWrites1
/- Requests of transactions, read for the law. -/
namespace Go.Proofs.Ytombolmicfjjpaa
open Go.RowKit

set_option maxHeartbeats 6000000 in
set_option maxRecDepth 100000 in
theorem l18r_220_ok (b : Nat) (i i1 i2 : InS) (nl : Bool) (d : Bs) (tm : Int) (h1 : i.fixed 2 = (⟨nl, d⟩, i1)) (h2 : i1.int 4 = (tm, i2)) (hi : i2.err = 0) (hr : begE 0 nl d tm (-1) (-1) = 0) (hl : d.length ≤ 140737488355328) {W0 w : World} {K : Know} {L : List Res} (h : St W0 w K (.inp b i :: L)) :
    Calls Try.prog 43 #[.int .i64 22, .int .i64 0, inPtr b] w fun en w' => en = .returned (.agg #[.bool nl, .string (bb d), .int .i64 tm, .int .i64 (-1), .int .i64 (-1), .slice none 0 0, .bool false]) ∧ St W0 w' K (.inp b i2 :: L) := by
  obtain ⟨rb, hrb⟩ : ∃ b, w.heap.size = b := ⟨_, rfl⟩
  have g1 := h.allocRaw #[.bool false, .string ⟨#[]⟩, .int .i64 0, .int .i64 0, .int .i64 0, .slice none 0 0, .bool false] 66
  rw [hrb] at g1
  have H := Lib.hid g1.p1
  have Hh1 := Lib.hid h1
  have Hh2 := Lib.hid h2
  have Hhi := Lib.hid hi
  have Hhr := Lib.hid hr
  have Hhl := Lib.hid hl
  clear h g1 h1 h2 hi hr hl
  go_enter Try.func43, Try.ntmps43
  go_wp2_with (go_at_call 99; (with_reducible refine (read_beg0_ok b i i1 i2 nl d tm Hh1.out Hh2.out Hhi.out Hhr.out Hhl.out H.out).mono ?_); rintro e_ wn ⟨rfl, h⟩; obtain ⟨eb, heb⟩ : ∃ b, wn.heap.size = b := ⟨_, rfl⟩; have h := h.allocRaw #[.bool nl, .string (bb d), .int .i64 tm, .int .i64 (-1), .int .i64 (-1)] 141; rw [heb] at h; have d0 := h.p2.rawCell 0; have r0 := h.p2.rawFree 0; have d1 := h.p2.rawCell 1; have r1 := h.p2.rawFree 1; have d2 := h.p2.rawCell 2; have r2 := h.p2.rawFree 2; have d3 := h.p2.rawCell 3; have r3 := h.p2.rawFree 3; have d4 := h.p2.rawCell 4; have r4 := h.p2.rawFree 4; have d5 := h.p2.rawCell 5; have r5 := h.p2.rawFree 5; have d6 := h.p2.rawCell 6; have r6 := h.p2.rawFree 6; simp at d0 d1 d2 d3 d4 d5 d6; replace H := Lib.hid h; clear h)
  have hz : St W0 _ K (.raw rb #[.bool nl, .string (bb d), .int .i64 tm, .int .i64 (-1), .int .i64 (-1), .slice none 0 0, .bool false] 66 :: .raw eb #[.bool nl, .string (bb d), .int .i64 tm, .int .i64 (-1), .int .i64 (-1)] 141 :: .inp b i2 :: L) := (((((((H.out.p2.rawSet 0 _).rawSet 1 _).rawSet 2 _).rawSet 3 _).rawSet 4 _).rawSet 5 _).rawSet 6 _)
  refine bodyPost_ret (rc_cell_only rfl _ _ rb [.bool nl, .string (bb d), .int .i64 tm, .int .i64 (-1), .int .i64 (-1), .slice none 0 0, .bool false] _ rfl (rc_range hz) Try.underlying66 rfl (by kernel_rfl)) rfl ?_
  exact ⟨rfl, hz.drop.drop⟩

set_option maxHeartbeats 6000000 in
set_option maxRecDepth 100000 in
theorem l18r_220_chk (b : Nat) (i i1 i2 j : InS) (nl : Bool) (d : Bs) (tm : Int) (h1 : i.fixed 2 = (⟨nl, d⟩, i1)) (h2 : i1.int 4 = (tm, i2)) (hi : i2.err = 0) (r : Int) (hr : begE 0 nl d tm (-1) (-1) = r) (h0 : r ≠ 0) (hj : i2.fail r = j) (hl : d.length ≤ 140737488355328) {W0 w : World} {K : Know} {L : List Res} (h : St W0 w K (.inp b i :: L)) :
    Calls Try.prog 43 #[.int .i64 22, .int .i64 0, inPtr b] w fun en w' => en = .returned (.agg #[.bool false, .string ⟨#[]⟩, .int .i64 0, .int .i64 0, .int .i64 0, .slice none 0 0, .bool false]) ∧ St W0 w' K (.inp b j :: L) := by
  obtain ⟨rb, hrb⟩ : ∃ b, w.heap.size = b := ⟨_, rfl⟩
  have g1 := h.allocRaw #[.bool false, .string ⟨#[]⟩, .int .i64 0, .int .i64 0, .int .i64 0, .slice none 0 0, .bool false] 66
  rw [hrb] at g1
  have H := Lib.hid g1.p1
  have Hh1 := Lib.hid h1
  have Hh2 := Lib.hid h2
  have Hhi := Lib.hid hi
  have Hhr := Lib.hid hr
  have Hh0 := Lib.hid h0
  have Hhj := Lib.hid hj
  have Hhl := Lib.hid hl
  clear h g1 h1 h2 hi hr h0 hj hl
  go_enter Try.func43, Try.ntmps43
  go_wp2_with (go_at_call 99; (with_reducible refine (read_beg0_chk b i i1 i2 j nl d tm Hh1.out Hh2.out Hhi.out r Hhr.out Hh0.out Hhj.out Hhl.out H.out).mono ?_); rintro e_ wn ⟨rfl, h⟩; obtain ⟨eb, heb⟩ : ∃ b, wn.heap.size = b := ⟨_, rfl⟩; have h := h.allocRaw #[.bool false, .string ⟨#[]⟩, .int .i64 0, .int .i64 0, .int .i64 0] 141; rw [heb] at h; have d0 := h.p2.rawCell 0; have r0 := h.p2.rawFree 0; have d1 := h.p2.rawCell 1; have r1 := h.p2.rawFree 1; have d2 := h.p2.rawCell 2; have r2 := h.p2.rawFree 2; have d3 := h.p2.rawCell 3; have r3 := h.p2.rawFree 3; have d4 := h.p2.rawCell 4; have r4 := h.p2.rawFree 4; have d5 := h.p2.rawCell 5; have r5 := h.p2.rawFree 5; have d6 := h.p2.rawCell 6; have r6 := h.p2.rawFree 6; simp at d0 d1 d2 d3 d4 d5 d6; replace H := Lib.hid h; clear h)
  have hz : St W0 _ K (.raw rb #[.bool false, .string ⟨#[]⟩, .int .i64 0, .int .i64 0, .int .i64 0, .slice none 0 0, .bool false] 66 :: .raw eb #[.bool false, .string ⟨#[]⟩, .int .i64 0, .int .i64 0, .int .i64 0] 141 :: .inp b j :: L) := (((((((H.out.p2.rawSet 0 _).rawSet 1 _).rawSet 2 _).rawSet 3 _).rawSet 4 _).rawSet 5 _).rawSet 6 _)
  refine bodyPost_ret (rc_cell_only rfl _ _ rb [.bool false, .string ⟨#[]⟩, .int .i64 0, .int .i64 0, .int .i64 0, .slice none 0 0, .bool false] _ rfl (rc_range hz) Try.underlying66 rfl (by kernel_rfl)) rfl ?_
  exact ⟨rfl, hz.drop.drop⟩

set_option maxHeartbeats 6000000 in
set_option maxRecDepth 100000 in
theorem l18r_220_err (b : Nat) (i i1 i2 : InS) (nl : Bool) (d : Bs) (tm : Int) (h1 : i.fixed 2 = (⟨nl, d⟩, i1)) (h2 : i1.int 4 = (tm, i2)) (x : Int) (hi : i2.err = x) (h0 : x ≠ 0) {W0 w : World} {K : Know} {L : List Res} (h : St W0 w K (.inp b i :: L)) :
    Calls Try.prog 43 #[.int .i64 22, .int .i64 0, inPtr b] w fun en w' => en = .returned (.agg #[.bool false, .string ⟨#[]⟩, .int .i64 0, .int .i64 0, .int .i64 0, .slice none 0 0, .bool false]) ∧ St W0 w' K (.inp b i2 :: L) := by
  obtain ⟨rb, hrb⟩ : ∃ b, w.heap.size = b := ⟨_, rfl⟩
  have g1 := h.allocRaw #[.bool false, .string ⟨#[]⟩, .int .i64 0, .int .i64 0, .int .i64 0, .slice none 0 0, .bool false] 66
  rw [hrb] at g1
  have H := Lib.hid g1.p1
  have Hh1 := Lib.hid h1
  have Hh2 := Lib.hid h2
  have Hhi := Lib.hid hi
  have Hh0 := Lib.hid h0
  clear h g1 h1 h2 hi h0
  go_enter Try.func43, Try.ntmps43
  go_wp2_with (go_at_call 99; (with_reducible refine (read_beg0_err b i i1 i2 nl d tm Hh1.out Hh2.out x Hhi.out Hh0.out H.out).mono ?_); rintro e_ wn ⟨rfl, h⟩; obtain ⟨eb, heb⟩ : ∃ b, wn.heap.size = b := ⟨_, rfl⟩; have h := h.allocRaw #[.bool false, .string ⟨#[]⟩, .int .i64 0, .int .i64 0, .int .i64 0] 141; rw [heb] at h; have d0 := h.p2.rawCell 0; have r0 := h.p2.rawFree 0; have d1 := h.p2.rawCell 1; have r1 := h.p2.rawFree 1; have d2 := h.p2.rawCell 2; have r2 := h.p2.rawFree 2; have d3 := h.p2.rawCell 3; have r3 := h.p2.rawFree 3; have d4 := h.p2.rawCell 4; have r4 := h.p2.rawFree 4; have d5 := h.p2.rawCell 5; have r5 := h.p2.rawFree 5; have d6 := h.p2.rawCell 6; have r6 := h.p2.rawFree 6; simp at d0 d1 d2 d3 d4 d5 d6; replace H := Lib.hid h; clear h)
  have hz : St W0 _ K (.raw rb #[.bool false, .string ⟨#[]⟩, .int .i64 0, .int .i64 0, .int .i64 0, .slice none 0 0, .bool false] 66 :: .raw eb #[.bool false, .string ⟨#[]⟩, .int .i64 0, .int .i64 0, .int .i64 0] 141 :: .inp b i2 :: L) := (((((((H.out.p2.rawSet 0 _).rawSet 1 _).rawSet 2 _).rawSet 3 _).rawSet 4 _).rawSet 5 _).rawSet 6 _)
  refine bodyPost_ret (rc_cell_only rfl _ _ rb [.bool false, .string ⟨#[]⟩, .int .i64 0, .int .i64 0, .int .i64 0, .slice none 0 0, .bool false] _ rfl (rc_range hz) Try.underlying66 rfl (by kernel_rfl)) rfl ?_
  exact ⟨rfl, hz.drop.drop⟩

set_option maxHeartbeats 6000000 in
set_option maxRecDepth 100000 in
theorem l18r_221_ok (b : Nat) (i i1 i2 i3 i4 : InS) (nl : Bool) (d : Bs) (tm p e : Int) (h1 : i.fixed 2 = (⟨nl, d⟩, i1)) (h2 : i1.int 4 = (tm, i2)) (h3 : i2.int 8 = (p, i3)) (h4 : i3.int 2 = (e, i4)) (hi : i4.err = 0) (hr : begE 1 nl d tm p e = 0) (hl : d.length ≤ 140737488355328) {W0 w : World} {K : Know} {L : List Res} (h : St W0 w K (.inp b i :: L)) :
    Calls Try.prog 43 #[.int .i64 22, .int .i64 1, inPtr b] w fun en w' => en = .returned (.agg #[.bool nl, .string (bb d), .int .i64 tm, .int .i64 p, .int .i64 e, .slice none 0 0, .bool false]) ∧ St W0 w' K (.inp b i4 :: L) := by
  obtain ⟨rb, hrb⟩ : ∃ b, w.heap.size = b := ⟨_, rfl⟩
  have g1 := h.allocRaw #[.bool false, .string ⟨#[]⟩, .int .i64 0, .int .i64 0, .int .i64 0, .slice none 0 0, .bool false] 66
  rw [hrb] at g1
  have H := Lib.hid g1.p1
  have Hh1 := Lib.hid h1
  have Hh2 := Lib.hid h2
  have Hh3 := Lib.hid h3
  have Hh4 := Lib.hid h4
  have Hhi := Lib.hid hi
  have Hhr := Lib.hid hr
  have Hhl := Lib.hid hl
  clear h g1 h1 h2 h3 h4 hi hr hl
  go_enter Try.func43, Try.ntmps43
  go_wp2_with (go_at_call 99; (with_reducible refine (read_beg1_ok b i i1 i2 i3 i4 nl d tm p e Hh1.out Hh2.out Hh3.out Hh4.out Hhi.out Hhr.out Hhl.out H.out).mono ?_); rintro e_ wn ⟨rfl, h⟩; obtain ⟨eb, heb⟩ : ∃ b, wn.heap.size = b := ⟨_, rfl⟩; have h := h.allocRaw #[.bool nl, .string (bb d), .int .i64 tm, .int .i64 p, .int .i64 e] 141; rw [heb] at h; have d0 := h.p2.rawCell 0; have r0 := h.p2.rawFree 0; have d1 := h.p2.rawCell 1; have r1 := h.p2.rawFree 1; have d2 := h.p2.rawCell 2; have r2 := h.p2.rawFree 2; have d3 := h.p2.rawCell 3; have r3 := h.p2.rawFree 3; have d4 := h.p2.rawCell 4; have r4 := h.p2.rawFree 4; have d5 := h.p2.rawCell 5; have r5 := h.p2.rawFree 5; have d6 := h.p2.rawCell 6; have r6 := h.p2.rawFree 6; simp at d0 d1 d2 d3 d4 d5 d6; replace H := Lib.hid h; clear h)
  have hz : St W0 _ K (.raw rb #[.bool nl, .string (bb d), .int .i64 tm, .int .i64 p, .int .i64 e, .slice none 0 0, .bool false] 66 :: .raw eb #[.bool nl, .string (bb d), .int .i64 tm, .int .i64 p, .int .i64 e] 141 :: .inp b i4 :: L) := (((((((H.out.p2.rawSet 0 _).rawSet 1 _).rawSet 2 _).rawSet 3 _).rawSet 4 _).rawSet 5 _).rawSet 6 _)
  refine bodyPost_ret (rc_cell_only rfl _ _ rb [.bool nl, .string (bb d), .int .i64 tm, .int .i64 p, .int .i64 e, .slice none 0 0, .bool false] _ rfl (rc_range hz) Try.underlying66 rfl (by kernel_rfl)) rfl ?_
  exact ⟨rfl, hz.drop.drop⟩

set_option maxHeartbeats 6000000 in
set_option maxRecDepth 100000 in
theorem l18r_221_chk (b : Nat) (i i1 i2 i3 i4 j : InS) (nl : Bool) (d : Bs) (tm p e : Int) (h1 : i.fixed 2 = (⟨nl, d⟩, i1)) (h2 : i1.int 4 = (tm, i2)) (h3 : i2.int 8 = (p, i3)) (h4 : i3.int 2 = (e, i4)) (hi : i4.err = 0) (r : Int) (hr : begE 1 nl d tm p e = r) (h0 : r ≠ 0) (hj : i4.fail r = j) (hl : d.length ≤ 140737488355328) {W0 w : World} {K : Know} {L : List Res} (h : St W0 w K (.inp b i :: L)) :
    Calls Try.prog 43 #[.int .i64 22, .int .i64 1, inPtr b] w fun en w' => en = .returned (.agg #[.bool false, .string ⟨#[]⟩, .int .i64 0, .int .i64 0, .int .i64 0, .slice none 0 0, .bool false]) ∧ St W0 w' K (.inp b j :: L) := by
  obtain ⟨rb, hrb⟩ : ∃ b, w.heap.size = b := ⟨_, rfl⟩
  have g1 := h.allocRaw #[.bool false, .string ⟨#[]⟩, .int .i64 0, .int .i64 0, .int .i64 0, .slice none 0 0, .bool false] 66
  rw [hrb] at g1
  have H := Lib.hid g1.p1
  have Hh1 := Lib.hid h1
  have Hh2 := Lib.hid h2
  have Hh3 := Lib.hid h3
  have Hh4 := Lib.hid h4
  have Hhi := Lib.hid hi
  have Hhr := Lib.hid hr
  have Hh0 := Lib.hid h0
  have Hhj := Lib.hid hj
  have Hhl := Lib.hid hl
  clear h g1 h1 h2 h3 h4 hi hr h0 hj hl
  go_enter Try.func43, Try.ntmps43
  go_wp2_with (go_at_call 99; (with_reducible refine (read_beg1_chk b i i1 i2 i3 i4 j nl d tm p e Hh1.out Hh2.out Hh3.out Hh4.out Hhi.out r Hhr.out Hh0.out Hhj.out Hhl.out H.out).mono ?_); rintro e_ wn ⟨rfl, h⟩; obtain ⟨eb, heb⟩ : ∃ b, wn.heap.size = b := ⟨_, rfl⟩; have h := h.allocRaw #[.bool false, .string ⟨#[]⟩, .int .i64 0, .int .i64 0, .int .i64 0] 141; rw [heb] at h; have d0 := h.p2.rawCell 0; have r0 := h.p2.rawFree 0; have d1 := h.p2.rawCell 1; have r1 := h.p2.rawFree 1; have d2 := h.p2.rawCell 2; have r2 := h.p2.rawFree 2; have d3 := h.p2.rawCell 3; have r3 := h.p2.rawFree 3; have d4 := h.p2.rawCell 4; have r4 := h.p2.rawFree 4; have d5 := h.p2.rawCell 5; have r5 := h.p2.rawFree 5; have d6 := h.p2.rawCell 6; have r6 := h.p2.rawFree 6; simp at d0 d1 d2 d3 d4 d5 d6; replace H := Lib.hid h; clear h)
  have hz : St W0 _ K (.raw rb #[.bool false, .string ⟨#[]⟩, .int .i64 0, .int .i64 0, .int .i64 0, .slice none 0 0, .bool false] 66 :: .raw eb #[.bool false, .string ⟨#[]⟩, .int .i64 0, .int .i64 0, .int .i64 0] 141 :: .inp b j :: L) := (((((((H.out.p2.rawSet 0 _).rawSet 1 _).rawSet 2 _).rawSet 3 _).rawSet 4 _).rawSet 5 _).rawSet 6 _)
  refine bodyPost_ret (rc_cell_only rfl _ _ rb [.bool false, .string ⟨#[]⟩, .int .i64 0, .int .i64 0, .int .i64 0, .slice none 0 0, .bool false] _ rfl (rc_range hz) Try.underlying66 rfl (by kernel_rfl)) rfl ?_
  exact ⟨rfl, hz.drop.drop⟩

set_option maxHeartbeats 6000000 in
set_option maxRecDepth 100000 in
theorem l18r_221_err (b : Nat) (i i1 i2 i3 i4 : InS) (nl : Bool) (d : Bs) (tm p e : Int) (h1 : i.fixed 2 = (⟨nl, d⟩, i1)) (h2 : i1.int 4 = (tm, i2)) (h3 : i2.int 8 = (p, i3)) (h4 : i3.int 2 = (e, i4)) (x : Int) (hi : i4.err = x) (h0 : x ≠ 0) {W0 w : World} {K : Know} {L : List Res} (h : St W0 w K (.inp b i :: L)) :
    Calls Try.prog 43 #[.int .i64 22, .int .i64 1, inPtr b] w fun en w' => en = .returned (.agg #[.bool false, .string ⟨#[]⟩, .int .i64 0, .int .i64 0, .int .i64 0, .slice none 0 0, .bool false]) ∧ St W0 w' K (.inp b i4 :: L) := by
  obtain ⟨rb, hrb⟩ : ∃ b, w.heap.size = b := ⟨_, rfl⟩
  have g1 := h.allocRaw #[.bool false, .string ⟨#[]⟩, .int .i64 0, .int .i64 0, .int .i64 0, .slice none 0 0, .bool false] 66
  rw [hrb] at g1
  have H := Lib.hid g1.p1
  have Hh1 := Lib.hid h1
  have Hh2 := Lib.hid h2
  have Hh3 := Lib.hid h3
  have Hh4 := Lib.hid h4
  have Hhi := Lib.hid hi
  have Hh0 := Lib.hid h0
  clear h g1 h1 h2 h3 h4 hi h0
  go_enter Try.func43, Try.ntmps43
  go_wp2_with (go_at_call 99; (with_reducible refine (read_beg1_err b i i1 i2 i3 i4 nl d tm p e Hh1.out Hh2.out Hh3.out Hh4.out x Hhi.out Hh0.out H.out).mono ?_); rintro e_ wn ⟨rfl, h⟩; obtain ⟨eb, heb⟩ : ∃ b, wn.heap.size = b := ⟨_, rfl⟩; have h := h.allocRaw #[.bool false, .string ⟨#[]⟩, .int .i64 0, .int .i64 0, .int .i64 0] 141; rw [heb] at h; have d0 := h.p2.rawCell 0; have r0 := h.p2.rawFree 0; have d1 := h.p2.rawCell 1; have r1 := h.p2.rawFree 1; have d2 := h.p2.rawCell 2; have r2 := h.p2.rawFree 2; have d3 := h.p2.rawCell 3; have r3 := h.p2.rawFree 3; have d4 := h.p2.rawCell 4; have r4 := h.p2.rawFree 4; have d5 := h.p2.rawCell 5; have r5 := h.p2.rawFree 5; have d6 := h.p2.rawCell 6; have r6 := h.p2.rawFree 6; simp at d0 d1 d2 d3 d4 d5 d6; replace H := Lib.hid h; clear h)
  have hz : St W0 _ K (.raw rb #[.bool false, .string ⟨#[]⟩, .int .i64 0, .int .i64 0, .int .i64 0, .slice none 0 0, .bool false] 66 :: .raw eb #[.bool false, .string ⟨#[]⟩, .int .i64 0, .int .i64 0, .int .i64 0] 141 :: .inp b i4 :: L) := (((((((H.out.p2.rawSet 0 _).rawSet 1 _).rawSet 2 _).rawSet 3 _).rawSet 4 _).rawSet 5 _).rawSet 6 _)
  refine bodyPost_ret (rc_cell_only rfl _ _ rb [.bool false, .string ⟨#[]⟩, .int .i64 0, .int .i64 0, .int .i64 0, .slice none 0 0, .bool false] _ rfl (rc_range hz) Try.underlying66 rfl (by kernel_rfl)) rfl ?_
  exact ⟨rfl, hz.drop.drop⟩

set_option maxHeartbeats 6000000 in
set_option maxRecDepth 100000 in
theorem l18r_24_ok (b : Nat) (v : Int) (i i1 i2 i3 i4 : InS) (d : Bs) (p e : Int) (tl : List TopS) (h1 : i.text = (d, i1)) (h2 : i1.int 8 = (p, i2)) (h3 : i2.int 2 = (e, i3)) (h4 : i3.tops = (tl, i4)) (hi : i4.err = 0) (hr : addE d p e tl = 0) (hl : d.length ≤ 140737488355328) (hf : FewL tl) {W0 w : World} {K : Know} {L : List Res} (h : St W0 w K (.inp b i :: L)) :
    Calls Try.prog 43 #[.int .i64 24, .int .i64 v, inPtr b] w fun en w' => ∃ (q : Option Addr) (cap : Nat) (lr : List (TopS × Value)), en = .returned (.agg #[.bool false, .string (bb d), .int .i64 0, .int .i64 p, .int .i64 e, .slice q lr.length cap, .bool false]) ∧ lr.map (·.1) = tl ∧ St W0 w' (K.and (Know.tops (.slice q lr.length cap) lr)) (.inp b i4 :: L) := by
  obtain ⟨rb, hrb⟩ : ∃ b, w.heap.size = b := ⟨_, rfl⟩
  have g1 := h.allocRaw #[.bool false, .string ⟨#[]⟩, .int .i64 0, .int .i64 0, .int .i64 0, .slice none 0 0, .bool false] 66
  rw [hrb] at g1
  have H := Lib.hid g1.p1
  have Hh1 := Lib.hid h1
  have Hh2 := Lib.hid h2
  have Hh3 := Lib.hid h3
  have Hh4 := Lib.hid h4
  have Hhi := Lib.hid hi
  have Hhr := Lib.hid hr
  have Hhl := Lib.hid hl
  have Hhf := Lib.hid hf
  clear h g1 h1 h2 h3 h4 hi hr hl hf
  go_enter Try.func43, Try.ntmps43
  go_wp2_with (go_at_call 100; (with_reducible refine (read_add_ok b i i1 i2 i3 i4 d p e tl Hh1.out Hh2.out Hh3.out Hh4.out Hhi.out Hhr.out Hhl.out Hhf.out H.out).mono ?_); rintro e_ wn ⟨q, cap, lr, rfl, hlr, h⟩; have HLR := Lib.hid hlr; clear hlr; obtain ⟨eb, heb⟩ : ∃ b, wn.heap.size = b := ⟨_, rfl⟩; have h := h.allocRaw #[.string (bb d), .int .i64 p, .int .i64 e, .slice q lr.length cap] 144; rw [heb] at h; have d0 := h.p2.rawCell 0; have r0 := h.p2.rawFree 0; have d1 := h.p2.rawCell 1; have r1 := h.p2.rawFree 1; have d2 := h.p2.rawCell 2; have r2 := h.p2.rawFree 2; have d3 := h.p2.rawCell 3; have r3 := h.p2.rawFree 3; have d4 := h.p2.rawCell 4; have r4 := h.p2.rawFree 4; have d5 := h.p2.rawCell 5; have r5 := h.p2.rawFree 5; have d6 := h.p2.rawCell 6; have r6 := h.p2.rawFree 6; simp at d0 d1 d2 d3 d4 d5 d6; replace H := Lib.hid h; clear h)
  have hz : St W0 _ (K.and (Know.tops (.slice q lr.length cap) lr)) (.raw rb #[.bool false, .string (bb d), .int .i64 0, .int .i64 p, .int .i64 e, .slice q lr.length cap, .bool false] 66 :: .raw eb #[.string (bb d), .int .i64 p, .int .i64 e, .slice q lr.length cap] 144 :: .inp b i4 :: L) := (((((((H.out.p2.rawSet 0 _).rawSet 1 _).rawSet 2 _).rawSet 3 _).rawSet 4 _).rawSet 5 _).rawSet 6 _)
  refine bodyPost_ret (rc_cell_only rfl _ _ rb [.bool false, .string (bb d), .int .i64 0, .int .i64 p, .int .i64 e, .slice q lr.length cap, .bool false] _ rfl (rc_range hz) Try.underlying66 rfl (by kernel_rfl)) rfl ?_
  exact ⟨q, cap, lr, rfl, HLR.out, hz.drop.drop⟩

set_option maxHeartbeats 6000000 in
set_option maxRecDepth 100000 in
theorem l18r_24_chk (b : Nat) (v : Int) (i i1 i2 i3 i4 j : InS) (d : Bs) (p e : Int) (tl : List TopS) (h1 : i.text = (d, i1)) (h2 : i1.int 8 = (p, i2)) (h3 : i2.int 2 = (e, i3)) (h4 : i3.tops = (tl, i4)) (hi : i4.err = 0) (r : Int) (hr : addE d p e tl = r) (h0 : r ≠ 0) (hj : i4.fail r = j) (hl : d.length ≤ 140737488355328) (hf : FewL tl) {W0 w : World} {K : Know} {L : List Res} (h : St W0 w K (.inp b i :: L)) :
    Calls Try.prog 43 #[.int .i64 24, .int .i64 v, inPtr b] w fun en w' => en = .returned (.agg #[.bool false, .string ⟨#[]⟩, .int .i64 0, .int .i64 0, .int .i64 0, .slice none 0 0, .bool false]) ∧ St W0 w' K (.inp b j :: L) := by
  obtain ⟨rb, hrb⟩ : ∃ b, w.heap.size = b := ⟨_, rfl⟩
  have g1 := h.allocRaw #[.bool false, .string ⟨#[]⟩, .int .i64 0, .int .i64 0, .int .i64 0, .slice none 0 0, .bool false] 66
  rw [hrb] at g1
  have H := Lib.hid g1.p1
  have Hh1 := Lib.hid h1
  have Hh2 := Lib.hid h2
  have Hh3 := Lib.hid h3
  have Hh4 := Lib.hid h4
  have Hhi := Lib.hid hi
  have Hhr := Lib.hid hr
  have Hh0 := Lib.hid h0
  have Hhj := Lib.hid hj
  have Hhl := Lib.hid hl
  have Hhf := Lib.hid hf
  clear h g1 h1 h2 h3 h4 hi hr h0 hj hl hf
  go_enter Try.func43, Try.ntmps43
  go_wp2_with (go_at_call 100; (with_reducible refine (read_add_chk b i i1 i2 i3 i4 j d p e tl Hh1.out Hh2.out Hh3.out Hh4.out Hhi.out r Hhr.out Hh0.out Hhj.out Hhl.out Hhf.out H.out).mono ?_); rintro e_ wn ⟨rfl, h⟩; obtain ⟨eb, heb⟩ : ∃ b, wn.heap.size = b := ⟨_, rfl⟩; have h := h.allocRaw #[.string ⟨#[]⟩, .int .i64 0, .int .i64 0, .slice none 0 0] 144; rw [heb] at h; have d0 := h.p2.rawCell 0; have r0 := h.p2.rawFree 0; have d1 := h.p2.rawCell 1; have r1 := h.p2.rawFree 1; have d2 := h.p2.rawCell 2; have r2 := h.p2.rawFree 2; have d3 := h.p2.rawCell 3; have r3 := h.p2.rawFree 3; have d4 := h.p2.rawCell 4; have r4 := h.p2.rawFree 4; have d5 := h.p2.rawCell 5; have r5 := h.p2.rawFree 5; have d6 := h.p2.rawCell 6; have r6 := h.p2.rawFree 6; simp at d0 d1 d2 d3 d4 d5 d6; replace H := Lib.hid h; clear h)
  have hz : St W0 _ K (.raw rb #[.bool false, .string ⟨#[]⟩, .int .i64 0, .int .i64 0, .int .i64 0, .slice none 0 0, .bool false] 66 :: .raw eb #[.string ⟨#[]⟩, .int .i64 0, .int .i64 0, .slice none 0 0] 144 :: .inp b j :: L) := (((((((H.out.p2.rawSet 0 _).rawSet 1 _).rawSet 2 _).rawSet 3 _).rawSet 4 _).rawSet 5 _).rawSet 6 _)
  refine bodyPost_ret (rc_cell_only rfl _ _ rb [.bool false, .string ⟨#[]⟩, .int .i64 0, .int .i64 0, .int .i64 0, .slice none 0 0, .bool false] _ rfl (rc_range hz) Try.underlying66 rfl (by kernel_rfl)) rfl ?_
  exact ⟨rfl, hz.drop.drop⟩

set_option maxHeartbeats 6000000 in
set_option maxRecDepth 100000 in
theorem l18r_24_err (b : Nat) (v : Int) (i i1 i2 i3 i4 : InS) (d : Bs) (p e : Int) (tl : List TopS) (h1 : i.text = (d, i1)) (h2 : i1.int 8 = (p, i2)) (h3 : i2.int 2 = (e, i3)) (h4 : i3.tops = (tl, i4)) (x : Int) (hi : i4.err = x) (h0 : x ≠ 0) {W0 w : World} {K : Know} {L : List Res} (h : St W0 w K (.inp b i :: L)) :
    Calls Try.prog 43 #[.int .i64 24, .int .i64 v, inPtr b] w fun en w' => en = .returned (.agg #[.bool false, .string ⟨#[]⟩, .int .i64 0, .int .i64 0, .int .i64 0, .slice none 0 0, .bool false]) ∧ St W0 w' K (.inp b i4 :: L) := by
  obtain ⟨rb, hrb⟩ : ∃ b, w.heap.size = b := ⟨_, rfl⟩
  have g1 := h.allocRaw #[.bool false, .string ⟨#[]⟩, .int .i64 0, .int .i64 0, .int .i64 0, .slice none 0 0, .bool false] 66
  rw [hrb] at g1
  have H := Lib.hid g1.p1
  have Hh1 := Lib.hid h1
  have Hh2 := Lib.hid h2
  have Hh3 := Lib.hid h3
  have Hh4 := Lib.hid h4
  have Hhi := Lib.hid hi
  have Hh0 := Lib.hid h0
  clear h g1 h1 h2 h3 h4 hi h0
  go_enter Try.func43, Try.ntmps43
  go_wp2_with (go_at_call 100; (with_reducible refine (read_add_err b i i1 i2 i3 i4 d p e tl Hh1.out Hh2.out Hh3.out Hh4.out x Hhi.out Hh0.out H.out).mono ?_); rintro e_ wn ⟨rfl, h⟩; obtain ⟨eb, heb⟩ : ∃ b, wn.heap.size = b := ⟨_, rfl⟩; have h := h.allocRaw #[.string ⟨#[]⟩, .int .i64 0, .int .i64 0, .slice none 0 0] 144; rw [heb] at h; have d0 := h.p2.rawCell 0; have r0 := h.p2.rawFree 0; have d1 := h.p2.rawCell 1; have r1 := h.p2.rawFree 1; have d2 := h.p2.rawCell 2; have r2 := h.p2.rawFree 2; have d3 := h.p2.rawCell 3; have r3 := h.p2.rawFree 3; have d4 := h.p2.rawCell 4; have r4 := h.p2.rawFree 4; have d5 := h.p2.rawCell 5; have r5 := h.p2.rawFree 5; have d6 := h.p2.rawCell 6; have r6 := h.p2.rawFree 6; simp at d0 d1 d2 d3 d4 d5 d6; replace H := Lib.hid h; clear h)
  have hz : St W0 _ K (.raw rb #[.bool false, .string ⟨#[]⟩, .int .i64 0, .int .i64 0, .int .i64 0, .slice none 0 0, .bool false] 66 :: .raw eb #[.string ⟨#[]⟩, .int .i64 0, .int .i64 0, .slice none 0 0] 144 :: .inp b i4 :: L) := (((((((H.out.p2.rawSet 0 _).rawSet 1 _).rawSet 2 _).rawSet 3 _).rawSet 4 _).rawSet 5 _).rawSet 6 _)
  refine bodyPost_ret (rc_cell_only rfl _ _ rb [.bool false, .string ⟨#[]⟩, .int .i64 0, .int .i64 0, .int .i64 0, .slice none 0 0, .bool false] _ rfl (rc_range hz) Try.underlying66 rfl (by kernel_rfl)) rfl ?_
  exact ⟨rfl, hz.drop.drop⟩

set_option maxHeartbeats 6000000 in
set_option maxRecDepth 100000 in
theorem l18r_26_chk (b : Nat) (v : Int) (i i1 i2 i3 i4 j : InS) (d : Bs) (p e : Int) (c : Bool) (h1 : i.text = (d, i1)) (h2 : i1.int 8 = (p, i2)) (h3 : i2.int 2 = (e, i3)) (h4 : i3.boolP = (c, i4)) (hi : i4.err = 0) (r : Int) (hr : chkW d p e = r) (h0 : r ≠ 0) (hj : i4.fail r = j) (hl : d.length ≤ 140737488355328) {W0 w : World} {K : Know} {L : List Res} (h : St W0 w K (.inp b i :: L)) :
    Calls Try.prog 43 #[.int .i64 26, .int .i64 v, inPtr b] w fun en w' => en = .returned (.agg #[.bool false, .string ⟨#[]⟩, .int .i64 0, .int .i64 0, .int .i64 0, .slice none 0 0, .bool false]) ∧ St W0 w' K (.inp b j :: L) := by
  obtain ⟨rb, hrb⟩ : ∃ b, w.heap.size = b := ⟨_, rfl⟩
  have g1 := h.allocRaw #[.bool false, .string ⟨#[]⟩, .int .i64 0, .int .i64 0, .int .i64 0, .slice none 0 0, .bool false] 66
  rw [hrb] at g1
  have H := Lib.hid g1.p1
  have Hh1 := Lib.hid h1
  have Hh2 := Lib.hid h2
  have Hh3 := Lib.hid h3
  have Hh4 := Lib.hid h4
  have Hhi := Lib.hid hi
  have Hhr := Lib.hid hr
  have Hh0 := Lib.hid h0
  have Hhj := Lib.hid hj
  have Hhl := Lib.hid hl
  clear h g1 h1 h2 h3 h4 hi hr h0 hj hl
  go_enter Try.func43, Try.ntmps43
  go_wp2_with (go_at_call 91; (with_reducible refine (read_end_chk b i i1 i2 i3 i4 j d p e c Hh1.out Hh2.out Hh3.out Hh4.out Hhi.out r Hhr.out Hh0.out Hhj.out Hhl.out H.out).mono ?_); rintro e_ wn ⟨rfl, h⟩; obtain ⟨eb, heb⟩ : ∃ b, wn.heap.size = b := ⟨_, rfl⟩; have h := h.allocRaw #[.string ⟨#[]⟩, .int .i64 0, .int .i64 0, .bool false] 136; rw [heb] at h; have d0 := h.p2.rawCell 0; have r0 := h.p2.rawFree 0; have d1 := h.p2.rawCell 1; have r1 := h.p2.rawFree 1; have d2 := h.p2.rawCell 2; have r2 := h.p2.rawFree 2; have d3 := h.p2.rawCell 3; have r3 := h.p2.rawFree 3; have d4 := h.p2.rawCell 4; have r4 := h.p2.rawFree 4; have d5 := h.p2.rawCell 5; have r5 := h.p2.rawFree 5; have d6 := h.p2.rawCell 6; have r6 := h.p2.rawFree 6; simp at d0 d1 d2 d3 d4 d5 d6; replace H := Lib.hid h; clear h)
  have hz : St W0 _ K (.raw rb #[.bool false, .string ⟨#[]⟩, .int .i64 0, .int .i64 0, .int .i64 0, .slice none 0 0, .bool false] 66 :: .raw eb #[.string ⟨#[]⟩, .int .i64 0, .int .i64 0, .bool false] 136 :: .inp b j :: L) := (((((((H.out.p2.rawSet 0 _).rawSet 1 _).rawSet 2 _).rawSet 3 _).rawSet 4 _).rawSet 5 _).rawSet 6 _)
  refine bodyPost_ret (rc_cell_only rfl _ _ rb [.bool false, .string ⟨#[]⟩, .int .i64 0, .int .i64 0, .int .i64 0, .slice none 0 0, .bool false] _ rfl (rc_range hz) Try.underlying66 rfl (by kernel_rfl)) rfl ?_
  exact ⟨rfl, hz.drop.drop⟩

set_option maxHeartbeats 6000000 in
set_option maxRecDepth 100000 in
theorem l18r_26_err (b : Nat) (v : Int) (i i1 i2 i3 i4 : InS) (d : Bs) (p e : Int) (c : Bool) (h1 : i.text = (d, i1)) (h2 : i1.int 8 = (p, i2)) (h3 : i2.int 2 = (e, i3)) (h4 : i3.boolP = (c, i4)) (x : Int) (hi : i4.err = x) (h0 : x ≠ 0) {W0 w : World} {K : Know} {L : List Res} (h : St W0 w K (.inp b i :: L)) :
    Calls Try.prog 43 #[.int .i64 26, .int .i64 v, inPtr b] w fun en w' => en = .returned (.agg #[.bool false, .string ⟨#[]⟩, .int .i64 0, .int .i64 0, .int .i64 0, .slice none 0 0, .bool false]) ∧ St W0 w' K (.inp b i4 :: L) := by
  obtain ⟨rb, hrb⟩ : ∃ b, w.heap.size = b := ⟨_, rfl⟩
  have g1 := h.allocRaw #[.bool false, .string ⟨#[]⟩, .int .i64 0, .int .i64 0, .int .i64 0, .slice none 0 0, .bool false] 66
  rw [hrb] at g1
  have H := Lib.hid g1.p1
  have Hh1 := Lib.hid h1
  have Hh2 := Lib.hid h2
  have Hh3 := Lib.hid h3
  have Hh4 := Lib.hid h4
  have Hhi := Lib.hid hi
  have Hh0 := Lib.hid h0
  clear h g1 h1 h2 h3 h4 hi h0
  go_enter Try.func43, Try.ntmps43
  go_wp2_with (go_at_call 91; (with_reducible refine (read_end_err b i i1 i2 i3 i4 d p e c Hh1.out Hh2.out Hh3.out Hh4.out x Hhi.out Hh0.out H.out).mono ?_); rintro e_ wn ⟨rfl, h⟩; obtain ⟨eb, heb⟩ : ∃ b, wn.heap.size = b := ⟨_, rfl⟩; have h := h.allocRaw #[.string ⟨#[]⟩, .int .i64 0, .int .i64 0, .bool false] 136; rw [heb] at h; have d0 := h.p2.rawCell 0; have r0 := h.p2.rawFree 0; have d1 := h.p2.rawCell 1; have r1 := h.p2.rawFree 1; have d2 := h.p2.rawCell 2; have r2 := h.p2.rawFree 2; have d3 := h.p2.rawCell 3; have r3 := h.p2.rawFree 3; have d4 := h.p2.rawCell 4; have r4 := h.p2.rawFree 4; have d5 := h.p2.rawCell 5; have r5 := h.p2.rawFree 5; have d6 := h.p2.rawCell 6; have r6 := h.p2.rawFree 6; simp at d0 d1 d2 d3 d4 d5 d6; replace H := Lib.hid h; clear h)
  have hz : St W0 _ K (.raw rb #[.bool false, .string ⟨#[]⟩, .int .i64 0, .int .i64 0, .int .i64 0, .slice none 0 0, .bool false] 66 :: .raw eb #[.string ⟨#[]⟩, .int .i64 0, .int .i64 0, .bool false] 136 :: .inp b i4 :: L) := (((((((H.out.p2.rawSet 0 _).rawSet 1 _).rawSet 2 _).rawSet 3 _).rawSet 4 _).rawSet 5 _).rawSet 6 _)
  refine bodyPost_ret (rc_cell_only rfl _ _ rb [.bool false, .string ⟨#[]⟩, .int .i64 0, .int .i64 0, .int .i64 0, .slice none 0 0, .bool false] _ rfl (rc_range hz) Try.underlying66 rfl (by kernel_rfl)) rfl ?_
  exact ⟨rfl, hz.drop.drop⟩

set_option maxHeartbeats 6000000 in
set_option maxRecDepth 100000 in
theorem l18r_26_ok (b : Nat) (v : Int) (i i1 i2 i3 i4 : InS) (d : Bs) (p e : Int) (c : Bool) (h1 : i.text = (d, i1)) (h2 : i1.int 8 = (p, i2)) (h3 : i2.int 2 = (e, i3)) (h4 : i3.boolP = (c, i4)) (hi : i4.err = 0) (hr : chkW d p e = 0) (hl : d.length ≤ 140737488355328) {W0 w : World} {K : Know} {L : List Res} (h : St W0 w K (.inp b i :: L)) :
    Calls Try.prog 43 #[.int .i64 26, .int .i64 v, inPtr b] w fun en w' => en = .returned (.agg #[.bool false, .string (bb d), .int .i64 0, .int .i64 p, .int .i64 e, .slice none 0 0, .bool c]) ∧ St W0 w' K (.inp b i4 :: L) := by
  obtain ⟨rb, hrb⟩ : ∃ b, w.heap.size = b := ⟨_, rfl⟩
  have g1 := h.allocRaw #[.bool false, .string ⟨#[]⟩, .int .i64 0, .int .i64 0, .int .i64 0, .slice none 0 0, .bool false] 66
  rw [hrb] at g1
  have H := Lib.hid g1.p1
  have Hh1 := Lib.hid h1
  have Hh2 := Lib.hid h2
  have Hh3 := Lib.hid h3
  have Hh4 := Lib.hid h4
  have Hhi := Lib.hid hi
  have Hhr := Lib.hid hr
  have Hhl := Lib.hid hl
  clear h g1 h1 h2 h3 h4 hi hr hl
  go_enter Try.func43, Try.ntmps43
  go_wp2_with (go_at_call 91; (with_reducible refine (read_end_ok b i i1 i2 i3 i4 d p e c Hh1.out Hh2.out Hh3.out Hh4.out Hhi.out Hhr.out Hhl.out H.out).mono ?_); rintro e_ wn ⟨rfl, h⟩; obtain ⟨eb, heb⟩ : ∃ b, wn.heap.size = b := ⟨_, rfl⟩; have h := h.allocRaw #[.string (bb d), .int .i64 p, .int .i64 e, .bool c] 136; rw [heb] at h; have d0 := h.p2.rawCell 0; have r0 := h.p2.rawFree 0; have d1 := h.p2.rawCell 1; have r1 := h.p2.rawFree 1; have d2 := h.p2.rawCell 2; have r2 := h.p2.rawFree 2; have d3 := h.p2.rawCell 3; have r3 := h.p2.rawFree 3; have d4 := h.p2.rawCell 4; have r4 := h.p2.rawFree 4; have d5 := h.p2.rawCell 5; have r5 := h.p2.rawFree 5; have d6 := h.p2.rawCell 6; have r6 := h.p2.rawFree 6; simp at d0 d1 d2 d3 d4 d5 d6; replace H := Lib.hid h; clear h)
  have hz : St W0 _ K (.raw rb #[.bool false, .string (bb d), .int .i64 0, .int .i64 p, .int .i64 e, .slice none 0 0, .bool c] 66 :: .raw eb #[.string (bb d), .int .i64 p, .int .i64 e, .bool c] 136 :: .inp b i4 :: L) := (((((((H.out.p2.rawSet 0 _).rawSet 1 _).rawSet 2 _).rawSet 3 _).rawSet 4 _).rawSet 5 _).rawSet 6 _)
  refine bodyPost_ret (rc_cell_only rfl _ _ rb [.bool false, .string (bb d), .int .i64 0, .int .i64 p, .int .i64 e, .slice none 0 0, .bool c] _ rfl (rc_range hz) Try.underlying66 rfl (by kernel_rfl)) rfl ?_
  exact ⟨rfl, hz.drop.drop⟩

end Go.Proofs.Ytombolmicfjjpaa

/- Which of the requests. -/
namespace Go.Proofs.Ytombolmicfjjpaa
open Go.RowKit

set_option maxHeartbeats 1000000 in
set_option maxRecDepth 100000 in
theorem law18_kinds0 (n : Int) (hm : n.tmod 3 = 0) (hw : IntKind.u8.wrap n = n) {W0 w : World} {K : Know} {L : List Res} (h : St W0 w K L) :
    Calls Try.prog 38 #[.int .u8 n] w fun en w' => en = .returned (.int .i64 22) ∧ St W0 w' K L := by
  have H := Lib.hid h
  have hi : ∀ w, (Instr.index 139 (.agg #[.int .i64 22, .int .i64 24, .int .i64 26]) (.int .u8 0)).run Try.prog w = .ok (.int .i64 22) w := fun _ => by kernel_rfl
  have hw2 : IntKind.u8.wrap 0 = 0 := by decide
  clear h
  go_enter Try.func38, Try.ntmps38
  go_wp2_with (fail)
  go_ret
  exact ⟨rfl, H.out⟩

set_option maxHeartbeats 1000000 in
set_option maxRecDepth 100000 in
theorem law18_kinds1 (n : Int) (hm : n.tmod 3 = 1) (hw : IntKind.u8.wrap n = n) {W0 w : World} {K : Know} {L : List Res} (h : St W0 w K L) :
    Calls Try.prog 38 #[.int .u8 n] w fun en w' => en = .returned (.int .i64 24) ∧ St W0 w' K L := by
  have H := Lib.hid h
  have hi : ∀ w, (Instr.index 139 (.agg #[.int .i64 22, .int .i64 24, .int .i64 26]) (.int .u8 1)).run Try.prog w = .ok (.int .i64 24) w := fun _ => by kernel_rfl
  have hw2 : IntKind.u8.wrap 1 = 1 := by decide
  clear h
  go_enter Try.func38, Try.ntmps38
  go_wp2_with (fail)
  go_ret
  exact ⟨rfl, H.out⟩

set_option maxHeartbeats 1000000 in
set_option maxRecDepth 100000 in
theorem law18_kinds2 (n : Int) (hm : n.tmod 3 = 2) (hw : IntKind.u8.wrap n = n) {W0 w : World} {K : Know} {L : List Res} (h : St W0 w K L) :
    Calls Try.prog 38 #[.int .u8 n] w fun en w' => en = .returned (.int .i64 26) ∧ St W0 w' K L := by
  have H := Lib.hid h
  have hi : ∀ w, (Instr.index 139 (.agg #[.int .i64 22, .int .i64 24, .int .i64 26]) (.int .u8 2)).run Try.prog w = .ok (.int .i64 26) w := fun _ => by kernel_rfl
  have hw2 : IntKind.u8.wrap 2 = 2 := by decide
  clear h
  go_enter Try.func38, Try.ntmps38
  go_wp2_with (fail)
  go_ret
  exact ⟨rfl, H.out⟩

end Go.Proofs.Ytombolmicfjjpaa

/- One end (pure). -/
namespace Go.Proofs.Ytombolmicfjjpaa
open Go.RowKit

def z18 : Bs := [0, 1, 97, 0, 0, 0, 0, 0, 0, 0, 0, 0, 0, 1]
theorem few_nilT : FewT [] := ⟨by decide, fun x hx => by cases hx⟩

end Go.Proofs.Ytombolmicfjjpaa

/- One end. -/
namespace Go.Proofs.Ytombolmicfjjpaa
open Go.RowKit

theorem end_write_z (b : Nat) {W0 w : World} {K : Know} {L : List Res} (h : St W0 w K (.out b ⟨[], 0⟩ :: L)) :
    Calls Try.prog 90 #[.agg #[.string ⟨#[97]⟩, .int .i64 0, .int .i64 0, .bool true], outPtr b] w fun en w' => en = .returned (.tuple #[]) ∧ St W0 w' K (.out b ⟨z18, 0⟩ :: L) :=
  end_write_ok b [] [0, 1, 97] [0, 1, 97, 0, 0, 0, 0, 0, 0, 0, 0] [0, 1, 97, 0, 0, 0, 0, 0, 0, 0, 0, 0, 0] z18 [97] 0 0 true (by kernel_rfl) (by kernel_rfl) (by kernel_rfl) (by kernel_rfl) (by kernel_rfl) (by decide) (by decide) (by decide) h
theorem text_z (b : Nat) {W0 w : World} {K : Know} {L : List Res} (h : St W0 w K (.out b ⟨z18, 0⟩ :: L)) :
    Calls Try.prog 32 #[outPtr b] w fun en w' => en = .returned (.tuple #[.string ⟨#[0, 1, 97, 0, 0, 0, 0, 0, 0, 0, 0, 0, 0, 1]⟩, .int .i64 0]) ∧ St W0 w' K (.out b ⟨z18, 0⟩ :: L) := so_textV b z18 h
theorem new_z {W0 w : World} {K : Know} {L : List Res} (h : St W0 w K L) :
    Calls Try.prog 24 #[.string ⟨#[0, 1, 97, 0, 0, 0, 0, 0, 0, 0, 0, 0, 0, 1]⟩] w fun en w' => ∃ b, en = .returned (inPtr b) ∧ St W0 w' K (.inp b ⟨z18, 0, 0⟩ :: L) := s_new z18 (by decide) h
theorem read_end_z (b : Nat) {W0 w : World} {K : Know} {L : List Res} (h : St W0 w K (.inp b ⟨z18, 0, 0⟩ :: L)) :
    Calls Try.prog 91 #[inPtr b] w fun en w' => en = .returned (.agg #[.string ⟨#[97]⟩, .int .i64 0, .int .i64 0, .bool true]) ∧ St W0 w' K (.inp b ⟨z18, 14, 0⟩ :: L) :=
  read_end_ok b ⟨z18, 0, 0⟩ ⟨z18, 3, 0⟩ ⟨z18, 11, 0⟩ ⟨z18, 13, 0⟩ ⟨z18, 14, 0⟩ [97] 0 0 true (by kernel_rfl) (by kernel_rfl) (by kernel_rfl) (by kernel_rfl) (by kernel_rfl) (by kernel_rfl) (by decide) h
theorem rise_z {W0 w : World} {K : Know} {L : List Res} (h : St W0 w K L) :
    Calls Try.prog 47 #[.slice none 0 0] w fun en w' => en = .returned (.int .i64 10) ∧ St W0 w' K L := by
  have h2 : St W0 w (K.and (Know.tops (.slice none 0 0) [])) L := h.know (tops_nil K)
  refine (txn_rise [] none 0 10 (by kernel_rfl) few_nilT (Know.has_right (Know.has_refl _)) h2).mono ?_
  rintro e_ wn ⟨rfl, h3⟩
  exact ⟨rfl, h3.know (Know.has_left (Know.has_refl _))⟩
theorem who_z {W0 w : World} {K : Know} {L : List Res} (h : St W0 w K L) :
    Calls Try.prog 46 #[.int .i64 0, .int .i64 0] w fun en w' => en = .returned (.bool true) ∧ St W0 w' K L := txn_who 0 0 true (by kernel_rfl) h
set_option maxHeartbeats 1000000 in
set_option maxRecDepth 100000 in
theorem speaks18 {W0 w : World} {K : Know} {L : List Res} (h : St W0 w K L) :
    Calls Try.prog 37 #[] w fun en w' => en = .returned (.bool true) ∧ St W0 w' K L := by
  obtain ⟨po, hpo⟩ : ∃ b, w.heap.size = b := ⟨_, rfl⟩
  have h0 := h.allocOut
  rw [hpo] at h0
  have H := Lib.hid h0
  clear h h0
  go_enter Try.func37, Try.ntmps37
  go_wp2_with (first
    | (go_at_call 90; (with_reducible refine (end_write_z po H.out).mono ?_); rintro e_ wn ⟨rfl, h⟩; replace H := Lib.hid h; clear h)
    | (go_at_call 32; (with_reducible refine (text_z po H.out).mono ?_); rintro e_ wn ⟨rfl, h⟩; replace H := Lib.hid h; clear h)
    | (go_at_call 24; (with_reducible refine (new_z H.out).mono ?_); rintro e_ wn ⟨bi, rfl, h⟩; replace H := Lib.hid h; clear h)
    | (go_at_call 91; (with_reducible refine (read_end_z bi H.out).mono ?_); rintro e_ wn ⟨rfl, h⟩; replace H := Lib.hid h; clear h)
    | (go_at_call 47; (with_reducible refine (rise_z H.out).mono ?_); rintro e_ wn ⟨rfl, h⟩; replace H := Lib.hid h; clear h)
    | (go_at_call 46; (with_reducible refine (who_z H.out).mono ?_); rintro e_ wn ⟨rfl, h⟩; replace H := Lib.hid h; clear h))
  go_ret
  exact ⟨rfl, H.out.drop.drop⟩

end Go.Proofs.Ytombolmicfjjpaa

/- How many topics are looked at. -/
namespace Go.Proofs.Ytombolmicfjjpaa
open Go.RowKit

set_option maxHeartbeats 2000000 in
set_option maxRecDepth 100000 in
theorem law14_few (l : List (TopS × Value)) (q : Option Addr) (cap : Nat) (hnl : l.length ≤ 140737488351232) (hb : ∀ x ∈ l, x.1.name.length ≤ 140737488351232 ∧ x.1.parts.length ≤ 17592186043904) (r : Int) (hr : few (l.map (·.1)) = r) {W0 w : World} {K : Know} {L : List Res} (hk : K.has (Know.tops (.slice q l.length cap) l)) (h : St W0 w K L) :
    Calls Try.prog 14 #[.slice q l.length cap] w fun en w' => en = .returned (.int .i64 r) ∧ St W0 w' K L := by
  have H := Lib.hid h
  have HK := Lib.hid hk
  have HR := Lib.hid hr
  have HB := Lib.hid hb
  clear h hk hr hb
  go_enter Try.func14, Try.ntmps14
  go_wp2
  go_loopw [3, 8] (fun sv iv wr => ∃ (k m : Nat), k ≤ l.length ∧ iv = .int .i64 k ∧ sv = .int .i64 m ∧ topWs ((l.map (·.1)).take k) = m ∧ m ≤ 1000 ∧ St W0 wr K L) (fun _ iv _ => l.length - (intOf iv).toNat)
  case atStart => exact ⟨0, 0, Nat.zero_le _, rfl, rfl, by simp [topWs], by omega, H.out⟩
  case round =>
    obtain ⟨k, m, hkl, rfl, rfl, hm, hm0, hst⟩ := hrel
    clear H
    have H := Lib.hid hst
    clear hst
    by_cases hlt : k < l.length
    · as_aux_lemma =>
      obtain ⟨b, off, hqq⟩ := tops_at HK.out H.out (by omega)
      subst hqq
      obtain ⟨⟨⟨nm, ps⟩, vx⟩, hx⟩ : ∃ x, l[k] = x := ⟨_, rfl⟩
      obtain ⟨c0, c1⟩ : wr.cell? ⟨b, off + k * 2, none⟩ = some (.string (bb nm)) ∧ wr.cell? ⟨b, off + k * 2 + 1, none⟩ = some vx := tops_cell HK.out H.out k hlt _ hx
      have hmem : ((⟨nm, ps⟩ : TopS), vx) ∈ l := hx ▸ List.getElem_mem hlt
      have hxk : K.has (Know.flat RI vx 1 ps) := tops_parts HK.out hmem
      obtain ⟨qx, capx, hvx⟩ := flat_form hxk H.out
      subst hvx
      have HXK := Lib.hid hxk
      have hmk : k < (l.map (·.1)).length := by rw [List.length_map]; exact hlt
      have hmg : (l.map (·.1))[k] = ⟨nm, ps⟩ := by rw [List.getElem_map, hx]
      have hkn : (k : Int) < (l.length : Int) := by omega
      obtain ⟨hn1, hn2⟩ := HB.out _ hmem
      replace hn1 : nm.length ≤ 140737488351232 := hn1
      replace hn2 : ps.length ≤ 17592186043904 := hn2
      have hst1 := topWs_take (l.map (·.1)) k hmk _ hmg
      rw [hm] at hst1
      replace hst1 : topWs ((l.map (·.1)).take (k + 1)) = m + (nm.length + 4 * ps.length + 6) := hst1
      have hlk := topWs_le (l.map (·.1)) (k + 1)
      obtain ⟨M, hM⟩ : ∃ M : Nat, m + (nm.length + 4 * ps.length + 6) = M := ⟨_, rfl⟩
      have hMi : (m : Int) + ((nm.length : Int) + 4 * (ps.length : Int) + 6) = (M : Int) := by omega
      have hm1 : (m : Int) ≤ 1000 := by omega
      have hMb : M ≤ 1000000000000000 := by omega
      rw [hM] at hst1
      by_cases hMl : M ≤ 1000
      · have g1 : ¬ (1000 < (m : Int) + ((nm.length : Int) + 4 * (ps.length : Int) + 6)) := by omega
        have HST := Lib.hid hst1
        have HMI := Lib.hid hMi
        have HML := Lib.hid hMl
        clear hst1 hx hmem hxk hmk hmg hm hM hMl hlk hm0 hMi hMb
        go_wp2
        go_roundw
        case rel => exact ⟨k + 1, M, hlt, by go_num, by rw [HMI.out], HST.out, HML.out, H.out.alloc _⟩
        case measure => first | (simp [intOf]; done) | (simp [intOf]; omega)
      · have g1 : 1000 < (m : Int) + ((nm.length : Int) + 4 * (ps.length : Int) + 6) := by omega
        have hz : r = 0 := by
          rw [← HR.out]; unfold few
          rw [if_neg (by omega)]
        subst hz
        have HMI := Lib.hid hMi
        clear hst1 hx hmem hxk hmk hmg hm hM hMl hlk hm0 hMi hMb
        go_wp2
        go_ret
        exact ⟨rfl, H.out.alloc _⟩
    · obtain rfl : k = l.length := by omega
      have hz : r = 1 := by
        rw [← HR.out]; unfold few
        rw [List.take_of_length_le (by rw [List.length_map]; exact Nat.le_refl _)] at hm
        rw [if_pos (by omega)]
      subst hz
      go_wp2
      go_ret
      exact ⟨rfl, H.out⟩

end Go.Proofs.Ytombolmicfjjpaa

/- Lists of cells. -/
namespace Go.Proofs.Ytombolmicfjjpaa
open Go.RowKit

theorem cells_u8 : Try.prog.cellsOf 5 = 1 := by kernel_rfl
theorem cells_int : Try.prog.cellsOf 3 = 1 := by kernel_rfl
theorem cells_str : Try.prog.cellsOf 9 = 1 := by kernel_rfl
theorem len2 {α : Type} {l : List α} (h : l.length = 2) : ∃ a b, l = [a, b] := by
  match l, h with
  | [a, b], _ => exact ⟨a, b, rfl⟩
theorem len3 {α : Type} {l : List α} (h : l.length = 3) : ∃ a b c, l = [a, b, c] := by
  match l, h with
  | [a, b, c], _ => exact ⟨a, b, c, rfl⟩
theorem len4 {α : Type} {l : List α} (h : l.length = 4) : ∃ a b c d, l = [a, b, c, d] := by
  match l, h with
  | [a, b, c, d], _ => exact ⟨a, b, c, d, rfl⟩

end Go.Proofs.Ytombolmicfjjpaa

/- What arguments are made of, with the reach of each part. -/
namespace Go.Proofs.Ytombolmicfjjpaa
open Go.RowKit
open Go.ChangeShapes Go.WideShapes Go.ChangeAt Go.Deep

/-- No part is beyond all reach. -/
def Light {H : Type} (t : TypeId) (d : DataW H) : Prop := ∀ k ∈ d.weights Try.prog t, k ≤ reachBytes
theorem reach_eq : reachBytes = 140737488351232 := rfl

section
variable {H : Type} {enc : TypeId × Value → H} {w : World} {spare : Nat → Bool} {held : Bool}

theorem light_arg {ts : List TypeId} {ds : List (DataW H)} (h : (DataW.weightsEach Try.prog ts ds).all (· ≤ reachBytes) = true) {j : Nat} {t : TypeId} {d : DataW H} (ht : ts[j]? = some t) (hd : ds[j]? = some d) : Light t d := by
  intro k hk
  have := List.all_eq_true.1 h k (DataW.weights_mem_each ht hd k hk)
  simpa using this

theorem opens_field {t : TypeId} {fs : Array Field} {n N : Nat} {cs : List Value} {y : DataW H × List MemPlace} (ht : Try.prog.underlying t = some (.struct fs)) (h : DataW.trod enc Try.prog w 0 spare held n t cs = some y) (hl : Light t y.1) (hN : ∀ x ∈ y.2, x.block < N) :
    cs.length = Try.prog.cellsOf t ∧ ∃ m, ∀ (i : Nat) (f : Field), fs[i]? = some f → ∃ z, DataW.trod enc Try.prog w 0 spare held m f.type ((cs.drop f.offset).take (Try.prog.cellsOf f.type)) = some z ∧ Light f.type z.1 ∧ ∀ x ∈ z.2, x.block < N := by
  obtain ⟨xs, m, _, rfl, hc, hxl, hg⟩ := DataW.trod_struct ht h
  refine ⟨hc, m, fun i f hf => ?_⟩
  have hi : i < fs.size := (Array.getElem?_eq_some_iff.1 hf).1
  have hx : xs[i]? = some (xs[i]'(by omega)) := List.getElem?_eq_getElem (by omega)
  refine ⟨_, (hg i f hf).trans hx, ?_, fun x hxx => hN x (List.mem_flatMap.2 ⟨_, List.getElem_mem _, hxx⟩)⟩
  intro k hk
  refine hl k ?_
  simp only [DataW.weights, ht]
  exact DataW.weights_mem_each (j := i) (by rw [List.getElem?_map, Array.getElem?_toList, hf]; rfl) (by rw [List.getElem?_map, hx]; rfl) k hk

theorem opens_str {t : TypeId} {n : Nat} {cs : List Value} {y : DataW H × List MemPlace} (ht : Try.prog.underlying t = some .string) (h : DataW.trod enc Try.prog w 0 spare held n t cs = some y) (hl : Light t y.1) : ∃ s : Bs, cs = [.string (bb s)] ∧ s.length ≤ 140737488351232 := by
  obtain ⟨s, e, e2, q⟩ := DataW.trod_string ht h
  refine ⟨s.data.toList, e, ?_⟩
  subst e2
  have := hl s.data.toList.length (by simp [DataW.weights])
  rw [reach_eq] at this
  exact this
theorem opens_i64 {t : TypeId} {n : Nat} {cs : List Value} {y : DataW H × List MemPlace} (ht : Try.prog.underlying t = some (.int .i64)) (h : DataW.trod enc Try.prog w 0 spare held n t cs = some y) : ∃ x : Int, cs = [.int .i64 x] ∧ -9223372036854775808 ≤ x ∧ x < 9223372036854775808 := by
  obtain ⟨x, e, _, q⟩ := DataW.trod_int ht h
  exact ⟨x, e, wf_i64 q⟩
theorem opens_bool {t : TypeId} {n : Nat} {cs : List Value} {y : DataW H × List MemPlace} (ht : Try.prog.underlying t = some .bool) (h : DataW.trod enc Try.prog w 0 spare held n t cs = some y) : ∃ x : Bool, cs = [.bool x] := by
  obtain ⟨x, e, _⟩ := DataW.trod_bool ht h
  exact ⟨x, e⟩

theorem weightsAll_mem' {P : Program} {e : TypeId} : ∀ {l : List (DataW H)} {d : DataW H}, d ∈ l → ∀ k ∈ d.weights P e, k ∈ DataW.weightsAll P e l
  | a :: l, d, hd, k, hk => by
    simp only [DataW.weightsAll, List.mem_append]
    rcases List.mem_cons.1 hd with rfl | hd
    · exact .inl hk
    · exact .inr (weightsAll_mem' hd k hk)

theorem opens_rows {α : Type} {R : World → List Value → α → Prop} {t e : TypeId} {sz N : Nat} (ht : Try.prog.underlying t = some (.slice e)) (hC : Try.prog.cellsOf e = sz) (hsz : 0 < sz)
    (hR : ∀ n cs y, DataW.trod enc Try.prog w 0 spare held n e cs = some y → Light e y.1 → (∀ x ∈ y.2, x.block < N) → ∃ x, R w cs x)
    {fuel : Nat} {cs : List Value} {x : DataW H × List MemPlace} (h : DataW.trod enc Try.prog w 0 spare held fuel t cs = some x) (hl : Light t x.1) (hlt : ∀ y ∈ x.2, y.block < N) (hN : N ≤ w.heap.size) :
    ∃ v l, cs = [v] ∧ RowsOf R (· < N) w v sz l ∧ l.length * Try.prog.bytesOf e ≤ 140737488351232 ∧ l.length ≤ maxLen := by
  rcases open_slice ht h with ⟨rfl, rfl⟩ | ⟨a, len, cap, m, n, D, Pl, rfl, hb, hlc, hm, hmm, hx, hi⟩
  · exact ⟨_, [], rfl, ⟨none, 0, rfl, fun h => absurd h (by simp)⟩, by simp, by simp⟩
  · have hlm : len ≤ m := by rw [hmm]; split <;> omega
    have hp2 : x.2 = MemPlace.row a (m * Try.prog.cellsOf e) ++ (List.range m).flatMap Pl := by rw [hx]
    have hx1 : x.1 = .slice ((List.range len).map D) ((List.range (m - len)).map fun j => D (len + j)) := by rw [hx]
    have hsum : len * Try.prog.bytesOf e ≤ 140737488351232 := by
      have := hl (((List.range len).map D).length * Try.prog.bytesOf e + ((List.range (m - len)).map fun j => D (len + j)).length * Try.prog.bytesOf e) (by rw [hx1]; simp [DataW.weights, ht, Nat.add_mul])
      rw [reach_eq] at this
      simp only [List.length_map, List.length_range] at this
      omega
    have hle : ∀ i, i < len → Light e (D i) := by
      intro i hil k hk
      refine hl k ?_
      rw [hx1]
      simp only [DataW.weights, ht, List.mem_cons, List.mem_append]
      exact .inr (.inl (weightsAll_mem' (List.mem_map.2 ⟨i, List.mem_range.2 hil, rfl⟩) k hk))
    have key : ∀ i, i < len → ∃ y : α, ∃ cs', cs'.length = sz ∧ R w cs' y ∧ (∀ f u, cs'[f]? = some u → w.cell? ((a.add (i * sz)).add f) = some u) := by
      intro i hil
      obtain ⟨cs', hc, htr⟩ := hi i (by omega)
      obtain ⟨_, hcl, hat⟩ := World.cells?_some hc
      obtain ⟨y, hy⟩ := hR n cs' _ htr (hle i hil) (fun z hz => hlt z (by rw [hp2, List.mem_append]; exact .inr (List.mem_flatMap.2 ⟨i, by simp; omega, hz⟩)))
      rw [hC] at hcl hat
      refine ⟨y, cs', hcl, hy, fun f u hu => ?_⟩
      have hf : f < sz := by rw [← hcl]; exact (List.getElem?_eq_some_iff.1 hu).1
      rw [hat f hf, hu]
    obtain ⟨l, hll, hq⟩ := list_of len _ key
    refine ⟨_, l, rfl, ⟨some a, cap, by rw [hll], fun h0 => ?_⟩, by rw [hll]; exact hsum, by omega⟩
    obtain ⟨cs0, h1, h2, h3⟩ := hq 0 h0
    have hc0 : w.cell? a = some (cs0[0]'(by omega)) := by
      have := h3 0 _ (List.getElem?_eq_getElem (by omega))
      simpa [Addr.add] using this
    have hsp : a.spot = none := by
      cases hs : a.spot with
      | none => rfl
      | some s =>
        unfold World.cell? at hc0
        split at hc0 <;> simp_all
    obtain ⟨ab, ao, asp⟩ := a
    simp only at hsp
    subst hsp
    have hlt0 : ab < N := hlt (.cell ab ao) (by
      rw [hp2, List.mem_append]
      left
      simp only [MemPlace.row, List.mem_map, List.mem_range]
      exact ⟨0, by rw [hC]; exact Nat.mul_pos (by omega) hsz, by simp⟩)
    refine ⟨ab, ao, rfl, hlt0, Nat.lt_of_lt_of_le hlt0 hN, fun i hi => ?_⟩
    obtain ⟨cs', g1, g2, g3⟩ := hq i hi
    refine ⟨cs', g1, g2, fun f u hu => ?_⟩
    have := g3 f u hu
    have e1 : ∀ (o q : Nat), (⟨ab, o, none⟩ : Addr).add q = ⟨ab, o + q, none⟩ := by intro o q; unfold Addr.add; split <;> simp_all
    rw [e1, e1, Nat.add_assoc] at this
    exact this
end

/-- Of a row's things, what is said of each, apart. -/
theorem RowsOf.part {α : Type} {R : World → List Value → α → Prop} {Q : α → Prop} {D : Nat → Prop} {w : World} {v : Value} {sz : Nat} {l : List α} (h : RowsOf (fun w cs x => R w cs x ∧ Q x) D w v sz l) : RowsOf R D w v sz l ∧ ∀ x ∈ l, Q x := by
  refine ⟨h.mono (fun _ _ h => h) (fun _ _ h => h.1), fun x hx => ?_⟩
  obtain ⟨i, hi, rfl⟩ := List.mem_iff_getElem.1 hx
  obtain ⟨p, cap, rfl, h⟩ := h
  obtain ⟨b, off, rfl, _, _, hc⟩ := h (by omega)
  obtain ⟨cs, _, h2, _⟩ := hc i hi
  exact h2.2

end Go.Proofs.Ytombolmicfjjpaa

/- The elements of arguments, opened, with their reach: numbers, and Blobs. -/
namespace Go.Proofs.Ytombolmicfjjpaa
open Go.RowKit
open Go.ChangeShapes Go.WideShapes Go.ChangeAt Go.Deep

theorem cells_blob : Try.prog.cellsOf 64 = 2 := by kernel_rfl
theorem cells_bool : Try.prog.cellsOf 4 = 1 := by kernel_rfl
section
variable {H : Type} {enc : TypeId × Value → H} {w : World} {spare : Nat → Bool} {held : Bool}
set_option maxRecDepth 100000 in
theorem blob_opens {N : Nat} : ∀ n cs y, DataW.trod enc Try.prog w 0 spare held n 64 cs = some y → Light 64 y.1 → (∀ x ∈ y.2, x.block < N) → ∃ x : BlobS, cs = [.bool x.null, .string (bb x.data)] ∧ x.data.length ≤ 140737488351232 := by
  intro n cs y h hl hN
  obtain ⟨hc, m, hf⟩ := opens_field Try.underlying64 h hl hN
  rw [cells_blob] at hc
  obtain ⟨a, b, rfl⟩ := len2 hc
  obtain ⟨z0, g0, l0, _⟩ := hf 0 _ rfl
  obtain ⟨z1, g1, l1, _⟩ := hf 1 _ rfl
  have g0 : DataW.trod enc Try.prog w 0 spare held m 4 (List.take (Try.prog.cellsOf 4) (List.drop 0 [a, b])) = some z0 := g0
  have g1 : DataW.trod enc Try.prog w 0 spare held m 9 (List.take (Try.prog.cellsOf 9) (List.drop 1 [a, b])) = some z1 := g1
  rw [cells_bool] at g0
  rw [cells_str] at g1
  obtain ⟨x, e0⟩ := opens_bool Try.underlying4 g0
  obtain ⟨s, e1, hs⟩ := opens_str Try.underlying9 g1 l1
  simp at e0 e1
  subst e0 e1
  exact ⟨⟨x, s⟩, rfl, hs⟩
theorem rb_opens {N : Nat} : ∀ n cs y, DataW.trod enc Try.prog w 0 spare held n 64 cs = some y → Light 64 y.1 → (∀ x ∈ y.2, x.block < N) → ∃ x : BlobS, RB cs x ∧ x.data.length ≤ 140737488351232 := blob_opens
theorem ri_opens {N : Nat} : ∀ n cs y, DataW.trod enc Try.prog w 0 spare held n 3 cs = some y → Light 3 y.1 → (∀ x ∈ y.2, x.block < N) → ∃ x : Int, RI cs x ∧ (-9223372036854775808 ≤ x ∧ x < 9223372036854775808) := fun n cs y h _ _ => opens_i64 Try.underlying3 h
end
end Go.Proofs.Ytombolmicfjjpaa

/- The elements of arguments, opened, with their reach: topics, and values. -/
namespace Go.Proofs.Ytombolmicfjjpaa
open Go.RowKit

open Go.ChangeShapes Go.WideShapes Go.ChangeAt Go.Deep

theorem cells_tops : Try.prog.cellsOf 22 = 1 := by kernel_rfl
theorem cells_top : Try.prog.cellsOf 51 = 2 := by kernel_rfl
theorem cells_ints : Try.prog.cellsOf 49 = 1 := by kernel_rfl
theorem cells_val : Try.prog.cellsOf 24 = 7 := by kernel_rfl
theorem bytes_int : Try.prog.bytesOf 3 = 8 := by kernel_rfl
/-- What is known of a topic that came in. -/
def QTop (W : World) (x : TopS × Value) : Prop := RowsOf (fun _ cs x => RI cs x) (· < W.heap.size) W x.2 1 x.1.parts ∧ x.1.name.length ≤ 140737488351232 ∧ x.1.parts.length ≤ 17592186043904 ∧ ∀ n ∈ x.1.parts, -9223372036854775808 ≤ n ∧ n < 9223372036854775808
/-- Topics that came in. -/
def FewI (l : List (TopS × Value)) : Prop := l.length ≤ 140737488351232 ∧ ∀ x ∈ l, x.1.name.length ≤ 140737488351232 ∧ x.1.parts.length ≤ 17592186043904 ∧ ∀ n ∈ x.1.parts, -9223372036854775808 ≤ n ∧ n < 9223372036854775808
theorem bytes_top : Try.prog.bytesOf 51 = 40 := by kernel_rfl
theorem QTop.few {W : World} {l : List (TopS × Value)} (hn : l.length * Try.prog.bytesOf 51 ≤ 140737488351232) (h : ∀ x ∈ l, QTop W x) : FewI l := ⟨by rw [bytes_top] at hn; omega, fun x hx => (h x hx).2⟩
theorem QTop.start {W : World} {v : Value} {l : List (TopS × Value)} (hr : RowsOf (fun _ cs x => RTop cs x) (· < W.heap.size) W v 2 l) (h : ∀ x ∈ l, QTop W x) : St W W (Know.tops v l) [] := St.start ⟨hr, fun x hx => (h x hx).1⟩
section
variable {H : Type} {enc : TypeId × Value → H} {w : World} {spare : Nat → Bool} {held : Bool}
set_option maxHeartbeats 1000000 in
set_option maxRecDepth 100000 in
theorem rtop_opens : ∀ n cs y, DataW.trod enc Try.prog w 0 spare held n 51 cs = some y → Light 51 y.1 → (∀ x ∈ y.2, x.block < w.heap.size) → ∃ x : TopS × Value, RTop cs x ∧ QTop w x := by
  intro n cs y hf hl hN
  have hNw : w.heap.size ≤ w.heap.size := Nat.le_refl _
  obtain ⟨hc, m, hg⟩ := opens_field Try.underlying51 hf hl hN
  rw [cells_top] at hc
  match cs, hc with
  | [c0, c1], _ =>
    obtain ⟨z0, g0, l0, n0⟩ := hg 0 _ rfl
    have g0 : DataW.trod enc Try.prog w 0 spare held m 9 (List.take (Try.prog.cellsOf 9) (List.drop 0 [c0, c1])) = some z0 := g0
    rw [cells_str] at g0
    obtain ⟨z1, g1, l1, n1⟩ := hg 1 _ rfl
    have g1 : DataW.trod enc Try.prog w 0 spare held m 49 (List.take (Try.prog.cellsOf 49) (List.drop 1 [c0, c1])) = some z1 := g1
    rw [cells_ints] at g1
    obtain ⟨x0, e0, s0⟩ := opens_str Try.underlying9 g0 l0
    obtain ⟨v1, x1, e1, hr, hm, _⟩ := opens_rows (R := fun w cs x => (fun _ cs x => RI cs x) w cs x ∧ (fun x : Int => -9223372036854775808 ≤ x ∧ x < 9223372036854775808) x) (N := w.heap.size) Try.underlying49 cells_int (by decide) ri_opens g1 l1 n1 hNw
    obtain ⟨hr1, hq⟩ := hr.part
    simp at e0 e1
    subst e0 e1
    rw [bytes_int] at hm
    have hm2 : x1.length ≤ 17592186043904 := by omega
    exact ⟨(⟨x0, x1⟩, _), rfl, hr1, s0, hm2, hq⟩
set_option maxHeartbeats 2000000 in
set_option maxRecDepth 100000 in
theorem val_opens : ∀ n cs y, DataW.trod enc Try.prog w 0 spare held n 24 cs = some y → Light 24 y.1 → (∀ x ∈ y.2, x.block < w.heap.size) →
    ∃ (p e t s u st : Int) (l : List (TopS × Value)) (rv : Value), cs = [.int .i64 p, .int .i64 e, .int .i64 t, .int .i64 s, rv, .int .i64 u, .int .i64 st] ∧
      ValS.R ⟨p, e, t, s, l.map (·.1), u, st⟩ ∧ RowsOf (fun _ cs x => RTop cs x) (· < w.heap.size) w rv 2 l ∧ l.length * Try.prog.bytesOf 51 ≤ 140737488351232 ∧ (∀ x ∈ l, QTop w x) := by
  intro n cs y hf hl hN
  obtain ⟨hc, m, hg⟩ := opens_field Try.underlying24 hf hl hN
  rw [cells_val] at hc
  match cs, hc with
  | [c0, c1, c2, c3, c4, c5, c6], _ =>
    obtain ⟨z0, g0, l0, n0⟩ := hg 0 _ rfl
    have g0 : DataW.trod enc Try.prog w 0 spare held m 3 (List.take (Try.prog.cellsOf 3) (List.drop 0 [c0, c1, c2, c3, c4, c5, c6])) = some z0 := g0
    rw [cells_int] at g0
    obtain ⟨z1, g1, l1, n1⟩ := hg 1 _ rfl
    have g1 : DataW.trod enc Try.prog w 0 spare held m 3 (List.take (Try.prog.cellsOf 3) (List.drop 1 [c0, c1, c2, c3, c4, c5, c6])) = some z1 := g1
    rw [cells_int] at g1
    obtain ⟨z2, g2, l2, n2⟩ := hg 2 _ rfl
    have g2 : DataW.trod enc Try.prog w 0 spare held m 3 (List.take (Try.prog.cellsOf 3) (List.drop 2 [c0, c1, c2, c3, c4, c5, c6])) = some z2 := g2
    rw [cells_int] at g2
    obtain ⟨z3, g3, l3, n3⟩ := hg 3 _ rfl
    have g3 : DataW.trod enc Try.prog w 0 spare held m 3 (List.take (Try.prog.cellsOf 3) (List.drop 3 [c0, c1, c2, c3, c4, c5, c6])) = some z3 := g3
    rw [cells_int] at g3
    obtain ⟨z4, g4, l4, n4⟩ := hg 4 _ rfl
    have g4 : DataW.trod enc Try.prog w 0 spare held m 22 (List.take (Try.prog.cellsOf 22) (List.drop 4 [c0, c1, c2, c3, c4, c5, c6])) = some z4 := g4
    rw [cells_tops] at g4
    obtain ⟨z5, g5, l5, n5⟩ := hg 5 _ rfl
    have g5 : DataW.trod enc Try.prog w 0 spare held m 3 (List.take (Try.prog.cellsOf 3) (List.drop 5 [c0, c1, c2, c3, c4, c5, c6])) = some z5 := g5
    rw [cells_int] at g5
    obtain ⟨z6, g6, l6, n6⟩ := hg 6 _ rfl
    have g6 : DataW.trod enc Try.prog w 0 spare held m 3 (List.take (Try.prog.cellsOf 3) (List.drop 6 [c0, c1, c2, c3, c4, c5, c6])) = some z6 := g6
    rw [cells_int] at g6
    obtain ⟨x0, e0, r0⟩ := opens_i64 Try.underlying3 g0
    obtain ⟨x1, e1, r1⟩ := opens_i64 Try.underlying3 g1
    obtain ⟨x2, e2, r2⟩ := opens_i64 Try.underlying3 g2
    obtain ⟨x3, e3, r3⟩ := opens_i64 Try.underlying3 g3
    obtain ⟨x5, e5, r5⟩ := opens_i64 Try.underlying3 g5
    obtain ⟨x6, e6, r6⟩ := opens_i64 Try.underlying3 g6
    obtain ⟨v4, x4, e4, hrq, hm4, _⟩ := opens_rows (R := fun w' cs x => (fun _ cs x => RTop cs x) w' cs x ∧ QTop w x) (N := w.heap.size) Try.underlying22 cells_top (by decide) rtop_opens g4 l4 n4 (Nat.le_refl _)
    obtain ⟨hr, hq⟩ := hrq.part
    simp at e0 e1 e2 e3 e4 e5 e6
    subst e0 e1 e2 e3 e4 e5 e6
    exact ⟨x0, x1, x2, x3, x5, x6, x4, _, rfl, ⟨r0, r1, r2, r3, r5, r6⟩, hr, hm4, hq⟩
set_option maxHeartbeats 2000000 in
set_option maxRecDepth 100000 in
theorem val_open {r : Reach} {b0 : Nat} {v : Value} {d : DataW H} {p : List MemPlace} (hv : Value.okWide Try.prog w r b0 24 v) (h : DataW.Trod enc Try.prog w 0 spare held 24 v d p) (hl : Light 24 d) (hN : ∀ x ∈ p, x.block < w.heap.size) :
    ∃ (p e t s u st : Int) (l : List (TopS × Value)) (q : Option Addr) (cap : Nat), v = .agg #[.int .i64 p, .int .i64 e, .int .i64 t, .int .i64 s, .slice q l.length cap, .int .i64 u, .int .i64 st] ∧
      ValS.R ⟨p, e, t, s, l.map (·.1), u, st⟩ ∧ FewI l ∧ St w w (Know.tops (.slice q l.length cap) l) [] := by
  obtain ⟨cs, rfl, hsz⟩ := okWide_struct Try.underlying24 hv
  obtain ⟨fuel, hf⟩ := h
  obtain ⟨p, e, t, s, u, st, l, rv, ec, hR, hr, hm, hq⟩ := val_opens _ _ _ hf hl hN
  obtain ⟨c⟩ := cs
  have ec : c = _ := ec
  subst ec
  obtain ⟨q, cap, hrv⟩ : ∃ q cap, rv = .slice q l.length cap := by obtain ⟨p, cap, hv, _⟩ := hr; exact ⟨p, cap, hv⟩
  subst hrv
  exact ⟨_, _, _, _, _, _, l, q, cap, rfl, hR, QTop.few hm hq, QTop.start hr hq⟩
end

end Go.Proofs.Ytombolmicfjjpaa

/- TxnWrites: too long, too many. -/
namespace Go.Proofs.Ytombolmicfjjpaa
open Go.RowKit

set_option maxHeartbeats 4000000 in
set_option maxRecDepth 100000 in
theorem tww_long0 (n m : Int) (nl : Bool) (d : Bs) (tm p e : Int) (l : List (TopS × Value)) (q : Option Addr) (cap : Nat) (c : Bool) (hfi : FewI l) (v : Int) (hm : n.tmod 3 = 0) (hwn : IntKind.u8.wrap n = n) (hv : m.tmod 2 = v) (hv01 : v = 0 ∨ v = 1) (hl : 40000 < d.length) {W0 w : World} {K : Know} {L : List Res} (hk : K.has (Know.tops (.slice q l.length cap) l)) (h : St W0 w K L) :
    Calls Try.prog 7 #[.int .u8 n, .int .u8 m, .agg #[.bool nl, .string (bb d), .int .i64 tm, .int .i64 p, .int .i64 e, .slice q l.length cap, .bool c]] w fun en w' => en = .returned (.bool true) ∧ Below W0.heap.size W0 w' := by
  obtain ⟨rb, hrb⟩ : ∃ b, w.heap.size = b := ⟨_, rfl⟩
  have h0 := h.allocRaw #[.bool nl, .string (bb d), .int .i64 tm, .int .i64 p, .int .i64 e, .slice q l.length cap, .bool c] 66
  rw [hrb] at h0
  have H := Lib.hid h0
  have HK := Lib.hid hk
  have HM := Lib.hid hm
  have HWn := Lib.hid hwn
  have HNL := Lib.hid hfi.1
  have HNB := Lib.hid (show ∀ x ∈ l, x.1.name.length ≤ 140737488351232 ∧ x.1.parts.length ≤ 17592186043904 from fun x hx => ⟨(hfi.2 x hx).1, (hfi.2 x hx).2.1⟩)
  have hv1 : IntKind.u8.wrap v = v := by rcases hv01 with rfl | rfl <;> decide
  have hv2 : IntKind.i64.wrap v = v := by rcases hv01 with rfl | rfl <;> decide
  have hli : 40000 < (d.length : Int) := by omega
  clear h h0 hk hfi hm hwn hl
  go_enter Try.func7, Try.ntmps7
  go_wp2_with (first
    | (go_at_call 37; (with_reducible refine (speaks18 H.out).mono ?_); rintro e_ wn ⟨rfl, h⟩; have c0 := h.rawCell 0; have c1 := h.rawCell 1; have c2 := h.rawCell 2; have c3 := h.rawCell 3; have c4 := h.rawCell 4; have c5 := h.rawCell 5; have c6 := h.rawCell 6; simp at c0 c1 c2 c3 c4 c5 c6; replace H := Lib.hid h; clear h)
    | (go_at_call 38; (with_reducible refine (law18_kinds0 n HM.out HWn.out H.out).mono ?_); rintro e_ wn ⟨rfl, h⟩; have c0 := h.rawCell 0; have c1 := h.rawCell 1; have c2 := h.rawCell 2; have c3 := h.rawCell 3; have c4 := h.rawCell 4; have c5 := h.rawCell 5; have c6 := h.rawCell 6; simp at c0 c1 c2 c3 c4 c5 c6; replace H := Lib.hid h; clear h))
  go_ret
  exact ⟨rfl, H.out.below⟩

set_option maxHeartbeats 4000000 in
set_option maxRecDepth 100000 in
theorem tww_few0 (n m : Int) (nl : Bool) (d : Bs) (tm p e : Int) (l : List (TopS × Value)) (q : Option Addr) (cap : Nat) (c : Bool) (hfi : FewI l) (v : Int) (hm : n.tmod 3 = 0) (hwn : IntKind.u8.wrap n = n) (hv : m.tmod 2 = v) (hv01 : v = 0 ∨ v = 1) (hl : d.length ≤ 40000) (hw : few (l.map (·.1)) = 0) {W0 w : World} {K : Know} {L : List Res} (hk : K.has (Know.tops (.slice q l.length cap) l)) (h : St W0 w K L) :
    Calls Try.prog 7 #[.int .u8 n, .int .u8 m, .agg #[.bool nl, .string (bb d), .int .i64 tm, .int .i64 p, .int .i64 e, .slice q l.length cap, .bool c]] w fun en w' => en = .returned (.bool true) ∧ Below W0.heap.size W0 w' := by
  obtain ⟨rb, hrb⟩ : ∃ b, w.heap.size = b := ⟨_, rfl⟩
  have h0 := h.allocRaw #[.bool nl, .string (bb d), .int .i64 tm, .int .i64 p, .int .i64 e, .slice q l.length cap, .bool c] 66
  rw [hrb] at h0
  have H := Lib.hid h0
  have HK := Lib.hid hk
  have HM := Lib.hid hm
  have HWn := Lib.hid hwn
  have HNL := Lib.hid hfi.1
  have HNB := Lib.hid (show ∀ x ∈ l, x.1.name.length ≤ 140737488351232 ∧ x.1.parts.length ≤ 17592186043904 from fun x hx => ⟨(hfi.2 x hx).1, (hfi.2 x hx).2.1⟩)
  have hv1 : IntKind.u8.wrap v = v := by rcases hv01 with rfl | rfl <;> decide
  have hv2 : IntKind.i64.wrap v = v := by rcases hv01 with rfl | rfl <;> decide
  have hli : ¬ 40000 < (d.length : Int) := by omega
  have HFW := Lib.hid hw
  clear h h0 hk hfi hm hwn hl hw
  go_enter Try.func7, Try.ntmps7
  go_wp2_with (first
    | (go_at_call 37; (with_reducible refine (speaks18 H.out).mono ?_); rintro e_ wn ⟨rfl, h⟩; have c0 := h.rawCell 0; have c1 := h.rawCell 1; have c2 := h.rawCell 2; have c3 := h.rawCell 3; have c4 := h.rawCell 4; have c5 := h.rawCell 5; have c6 := h.rawCell 6; simp at c0 c1 c2 c3 c4 c5 c6; replace H := Lib.hid h; clear h)
    | (go_at_call 38; (with_reducible refine (law18_kinds0 n HM.out HWn.out H.out).mono ?_); rintro e_ wn ⟨rfl, h⟩; have c0 := h.rawCell 0; have c1 := h.rawCell 1; have c2 := h.rawCell 2; have c3 := h.rawCell 3; have c4 := h.rawCell 4; have c5 := h.rawCell 5; have c6 := h.rawCell 6; simp at c0 c1 c2 c3 c4 c5 c6; replace H := Lib.hid h; clear h)
    | (go_at_call 14; (with_reducible refine (law14_few l q cap HNL.out HNB.out 0 HFW.out HK.out H.out).mono ?_); rintro e_ wn ⟨rfl, h⟩; replace H := Lib.hid h; clear h))
  go_ret
  exact ⟨rfl, H.out.below⟩

set_option maxHeartbeats 4000000 in
set_option maxRecDepth 100000 in
theorem tww_long1 (n m : Int) (nl : Bool) (d : Bs) (tm p e : Int) (l : List (TopS × Value)) (q : Option Addr) (cap : Nat) (c : Bool) (hfi : FewI l) (v : Int) (hm : n.tmod 3 = 1) (hwn : IntKind.u8.wrap n = n) (hv : m.tmod 2 = v) (hv01 : v = 0 ∨ v = 1) (hl : 40000 < d.length) {W0 w : World} {K : Know} {L : List Res} (hk : K.has (Know.tops (.slice q l.length cap) l)) (h : St W0 w K L) :
    Calls Try.prog 7 #[.int .u8 n, .int .u8 m, .agg #[.bool nl, .string (bb d), .int .i64 tm, .int .i64 p, .int .i64 e, .slice q l.length cap, .bool c]] w fun en w' => en = .returned (.bool true) ∧ Below W0.heap.size W0 w' := by
  obtain ⟨rb, hrb⟩ : ∃ b, w.heap.size = b := ⟨_, rfl⟩
  have h0 := h.allocRaw #[.bool nl, .string (bb d), .int .i64 tm, .int .i64 p, .int .i64 e, .slice q l.length cap, .bool c] 66
  rw [hrb] at h0
  have H := Lib.hid h0
  have HK := Lib.hid hk
  have HM := Lib.hid hm
  have HWn := Lib.hid hwn
  have HNL := Lib.hid hfi.1
  have HNB := Lib.hid (show ∀ x ∈ l, x.1.name.length ≤ 140737488351232 ∧ x.1.parts.length ≤ 17592186043904 from fun x hx => ⟨(hfi.2 x hx).1, (hfi.2 x hx).2.1⟩)
  have hv1 : IntKind.u8.wrap v = v := by rcases hv01 with rfl | rfl <;> decide
  have hv2 : IntKind.i64.wrap v = v := by rcases hv01 with rfl | rfl <;> decide
  have hli : 40000 < (d.length : Int) := by omega
  clear h h0 hk hfi hm hwn hl
  go_enter Try.func7, Try.ntmps7
  go_wp2_with (first
    | (go_at_call 37; (with_reducible refine (speaks18 H.out).mono ?_); rintro e_ wn ⟨rfl, h⟩; have c0 := h.rawCell 0; have c1 := h.rawCell 1; have c2 := h.rawCell 2; have c3 := h.rawCell 3; have c4 := h.rawCell 4; have c5 := h.rawCell 5; have c6 := h.rawCell 6; simp at c0 c1 c2 c3 c4 c5 c6; replace H := Lib.hid h; clear h)
    | (go_at_call 38; (with_reducible refine (law18_kinds1 n HM.out HWn.out H.out).mono ?_); rintro e_ wn ⟨rfl, h⟩; have c0 := h.rawCell 0; have c1 := h.rawCell 1; have c2 := h.rawCell 2; have c3 := h.rawCell 3; have c4 := h.rawCell 4; have c5 := h.rawCell 5; have c6 := h.rawCell 6; simp at c0 c1 c2 c3 c4 c5 c6; replace H := Lib.hid h; clear h))
  go_ret
  exact ⟨rfl, H.out.below⟩

set_option maxHeartbeats 4000000 in
set_option maxRecDepth 100000 in
theorem tww_few1 (n m : Int) (nl : Bool) (d : Bs) (tm p e : Int) (l : List (TopS × Value)) (q : Option Addr) (cap : Nat) (c : Bool) (hfi : FewI l) (v : Int) (hm : n.tmod 3 = 1) (hwn : IntKind.u8.wrap n = n) (hv : m.tmod 2 = v) (hv01 : v = 0 ∨ v = 1) (hl : d.length ≤ 40000) (hw : few (l.map (·.1)) = 0) {W0 w : World} {K : Know} {L : List Res} (hk : K.has (Know.tops (.slice q l.length cap) l)) (h : St W0 w K L) :
    Calls Try.prog 7 #[.int .u8 n, .int .u8 m, .agg #[.bool nl, .string (bb d), .int .i64 tm, .int .i64 p, .int .i64 e, .slice q l.length cap, .bool c]] w fun en w' => en = .returned (.bool true) ∧ Below W0.heap.size W0 w' := by
  obtain ⟨rb, hrb⟩ : ∃ b, w.heap.size = b := ⟨_, rfl⟩
  have h0 := h.allocRaw #[.bool nl, .string (bb d), .int .i64 tm, .int .i64 p, .int .i64 e, .slice q l.length cap, .bool c] 66
  rw [hrb] at h0
  have H := Lib.hid h0
  have HK := Lib.hid hk
  have HM := Lib.hid hm
  have HWn := Lib.hid hwn
  have HNL := Lib.hid hfi.1
  have HNB := Lib.hid (show ∀ x ∈ l, x.1.name.length ≤ 140737488351232 ∧ x.1.parts.length ≤ 17592186043904 from fun x hx => ⟨(hfi.2 x hx).1, (hfi.2 x hx).2.1⟩)
  have hv1 : IntKind.u8.wrap v = v := by rcases hv01 with rfl | rfl <;> decide
  have hv2 : IntKind.i64.wrap v = v := by rcases hv01 with rfl | rfl <;> decide
  have hli : ¬ 40000 < (d.length : Int) := by omega
  have HFW := Lib.hid hw
  clear h h0 hk hfi hm hwn hl hw
  go_enter Try.func7, Try.ntmps7
  go_wp2_with (first
    | (go_at_call 37; (with_reducible refine (speaks18 H.out).mono ?_); rintro e_ wn ⟨rfl, h⟩; have c0 := h.rawCell 0; have c1 := h.rawCell 1; have c2 := h.rawCell 2; have c3 := h.rawCell 3; have c4 := h.rawCell 4; have c5 := h.rawCell 5; have c6 := h.rawCell 6; simp at c0 c1 c2 c3 c4 c5 c6; replace H := Lib.hid h; clear h)
    | (go_at_call 38; (with_reducible refine (law18_kinds1 n HM.out HWn.out H.out).mono ?_); rintro e_ wn ⟨rfl, h⟩; have c0 := h.rawCell 0; have c1 := h.rawCell 1; have c2 := h.rawCell 2; have c3 := h.rawCell 3; have c4 := h.rawCell 4; have c5 := h.rawCell 5; have c6 := h.rawCell 6; simp at c0 c1 c2 c3 c4 c5 c6; replace H := Lib.hid h; clear h)
    | (go_at_call 14; (with_reducible refine (law14_few l q cap HNL.out HNB.out 0 HFW.out HK.out H.out).mono ?_); rintro e_ wn ⟨rfl, h⟩; replace H := Lib.hid h; clear h))
  go_ret
  exact ⟨rfl, H.out.below⟩

set_option maxHeartbeats 4000000 in
set_option maxRecDepth 100000 in
theorem tww_long2 (n m : Int) (nl : Bool) (d : Bs) (tm p e : Int) (l : List (TopS × Value)) (q : Option Addr) (cap : Nat) (c : Bool) (hfi : FewI l) (v : Int) (hm : n.tmod 3 = 2) (hwn : IntKind.u8.wrap n = n) (hv : m.tmod 2 = v) (hv01 : v = 0 ∨ v = 1) (hl : 40000 < d.length) {W0 w : World} {K : Know} {L : List Res} (hk : K.has (Know.tops (.slice q l.length cap) l)) (h : St W0 w K L) :
    Calls Try.prog 7 #[.int .u8 n, .int .u8 m, .agg #[.bool nl, .string (bb d), .int .i64 tm, .int .i64 p, .int .i64 e, .slice q l.length cap, .bool c]] w fun en w' => en = .returned (.bool true) ∧ Below W0.heap.size W0 w' := by
  obtain ⟨rb, hrb⟩ : ∃ b, w.heap.size = b := ⟨_, rfl⟩
  have h0 := h.allocRaw #[.bool nl, .string (bb d), .int .i64 tm, .int .i64 p, .int .i64 e, .slice q l.length cap, .bool c] 66
  rw [hrb] at h0
  have H := Lib.hid h0
  have HK := Lib.hid hk
  have HM := Lib.hid hm
  have HWn := Lib.hid hwn
  have HNL := Lib.hid hfi.1
  have HNB := Lib.hid (show ∀ x ∈ l, x.1.name.length ≤ 140737488351232 ∧ x.1.parts.length ≤ 17592186043904 from fun x hx => ⟨(hfi.2 x hx).1, (hfi.2 x hx).2.1⟩)
  have hv1 : IntKind.u8.wrap v = v := by rcases hv01 with rfl | rfl <;> decide
  have hv2 : IntKind.i64.wrap v = v := by rcases hv01 with rfl | rfl <;> decide
  have hli : 40000 < (d.length : Int) := by omega
  clear h h0 hk hfi hm hwn hl
  go_enter Try.func7, Try.ntmps7
  go_wp2_with (first
    | (go_at_call 37; (with_reducible refine (speaks18 H.out).mono ?_); rintro e_ wn ⟨rfl, h⟩; have c0 := h.rawCell 0; have c1 := h.rawCell 1; have c2 := h.rawCell 2; have c3 := h.rawCell 3; have c4 := h.rawCell 4; have c5 := h.rawCell 5; have c6 := h.rawCell 6; simp at c0 c1 c2 c3 c4 c5 c6; replace H := Lib.hid h; clear h)
    | (go_at_call 38; (with_reducible refine (law18_kinds2 n HM.out HWn.out H.out).mono ?_); rintro e_ wn ⟨rfl, h⟩; have c0 := h.rawCell 0; have c1 := h.rawCell 1; have c2 := h.rawCell 2; have c3 := h.rawCell 3; have c4 := h.rawCell 4; have c5 := h.rawCell 5; have c6 := h.rawCell 6; simp at c0 c1 c2 c3 c4 c5 c6; replace H := Lib.hid h; clear h))
  go_ret
  exact ⟨rfl, H.out.below⟩

set_option maxHeartbeats 4000000 in
set_option maxRecDepth 100000 in
theorem tww_few2 (n m : Int) (nl : Bool) (d : Bs) (tm p e : Int) (l : List (TopS × Value)) (q : Option Addr) (cap : Nat) (c : Bool) (hfi : FewI l) (v : Int) (hm : n.tmod 3 = 2) (hwn : IntKind.u8.wrap n = n) (hv : m.tmod 2 = v) (hv01 : v = 0 ∨ v = 1) (hl : d.length ≤ 40000) (hw : few (l.map (·.1)) = 0) {W0 w : World} {K : Know} {L : List Res} (hk : K.has (Know.tops (.slice q l.length cap) l)) (h : St W0 w K L) :
    Calls Try.prog 7 #[.int .u8 n, .int .u8 m, .agg #[.bool nl, .string (bb d), .int .i64 tm, .int .i64 p, .int .i64 e, .slice q l.length cap, .bool c]] w fun en w' => en = .returned (.bool true) ∧ Below W0.heap.size W0 w' := by
  obtain ⟨rb, hrb⟩ : ∃ b, w.heap.size = b := ⟨_, rfl⟩
  have h0 := h.allocRaw #[.bool nl, .string (bb d), .int .i64 tm, .int .i64 p, .int .i64 e, .slice q l.length cap, .bool c] 66
  rw [hrb] at h0
  have H := Lib.hid h0
  have HK := Lib.hid hk
  have HM := Lib.hid hm
  have HWn := Lib.hid hwn
  have HNL := Lib.hid hfi.1
  have HNB := Lib.hid (show ∀ x ∈ l, x.1.name.length ≤ 140737488351232 ∧ x.1.parts.length ≤ 17592186043904 from fun x hx => ⟨(hfi.2 x hx).1, (hfi.2 x hx).2.1⟩)
  have hv1 : IntKind.u8.wrap v = v := by rcases hv01 with rfl | rfl <;> decide
  have hv2 : IntKind.i64.wrap v = v := by rcases hv01 with rfl | rfl <;> decide
  have hli : ¬ 40000 < (d.length : Int) := by omega
  have HFW := Lib.hid hw
  clear h h0 hk hfi hm hwn hl hw
  go_enter Try.func7, Try.ntmps7
  go_wp2_with (first
    | (go_at_call 37; (with_reducible refine (speaks18 H.out).mono ?_); rintro e_ wn ⟨rfl, h⟩; have c0 := h.rawCell 0; have c1 := h.rawCell 1; have c2 := h.rawCell 2; have c3 := h.rawCell 3; have c4 := h.rawCell 4; have c5 := h.rawCell 5; have c6 := h.rawCell 6; simp at c0 c1 c2 c3 c4 c5 c6; replace H := Lib.hid h; clear h)
    | (go_at_call 38; (with_reducible refine (law18_kinds2 n HM.out HWn.out H.out).mono ?_); rintro e_ wn ⟨rfl, h⟩; have c0 := h.rawCell 0; have c1 := h.rawCell 1; have c2 := h.rawCell 2; have c3 := h.rawCell 3; have c4 := h.rawCell 4; have c5 := h.rawCell 5; have c6 := h.rawCell 6; simp at c0 c1 c2 c3 c4 c5 c6; replace H := Lib.hid h; clear h)
    | (go_at_call 14; (with_reducible refine (law14_few l q cap HNL.out HNB.out 0 HFW.out HK.out H.out).mono ?_); rintro e_ wn ⟨rfl, h⟩; replace H := Lib.hid h; clear h))
  go_ret
  exact ⟨rfl, H.out.below⟩

end Go.Proofs.Ytombolmicfjjpaa
