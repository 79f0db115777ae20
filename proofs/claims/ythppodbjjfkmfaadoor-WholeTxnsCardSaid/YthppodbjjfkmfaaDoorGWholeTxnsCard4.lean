/- Begin and End, opened. -/
import Derived.Test.YthppodbjjfkmfaaDoorGWholeTxnsCard3
import Derived.Deep.RegionHeld3
import Derived.Deep.DeepCutAuto
import Derived.Handy
import Derived.Test.YthppodbjjfkmfaaDoorArgs
import Derived.SizedLaws
import Derived.Deep.Slices
import Derived.Test.YthppodbjjfkmfaaDoorL06F
import Derived.Test.YthppodbjjfkmfaaDoorGWholeTxnsCard2
import Derived.Lib.SmallJoins
/- WholeTxns: Begin. -/
namespace Go.Proofs.YthppodbjjfkmfaaDoor
open Go.RowKit

set_option maxHeartbeats 12000000 in
set_option maxRecDepth 100000 in
theorem wt_220 (n : Int) (u : Bool) (cd : Bs) (nl : Bool) (d : Bs) (tm : Int) (id : Bs) (p2 e2 : Int) (c : Bool) (hn : -9223372036854775808 ≤ n ∧ n < 9223372036854775808) (hl : cd.length ≤ 1000) (hl2 : d.length ≤ 1000) (hl3 : id.length ≤ 1000) (hq : headErr ⟨22, 0, n, ⟨u, cd⟩⟩ = 0) (hR : HeadS.R ⟨22, 0, n, ⟨u, cd⟩⟩) (r2 : Int) (hr2 : chkW id p2 e2 = r2) (hE : begE 0 nl d tm (-1) (-1) = 0) {W0 w : World} {K : Know} {L : List Res} (hk : K.has Know.reqs) (h : St W0 w K L) :
    Calls Tryd.prog 3 #[.agg #[.int .i64 22, .int .i64 0, .int .i64 n, .bool u, .string (bb cd)], .agg #[.bool nl, .string (bb d), .int .i64 tm, .int .i64 (-1), .int .i64 (-1)], .agg #[.string (bb id), .int .i64 p2, .int .i64 e2, .bool c]] w fun en w' => en = .returned (.bool true) ∧ Below W0.heap.size W0 w' := by
  obtain ⟨hb, hhb⟩ : ∃ b, w.heap.size = b := ⟨_, rfl⟩
  obtain ⟨bq, hbq⟩ : ∃ b, hb + 1 = b := ⟨_, rfl⟩
  obtain ⟨eq, heq⟩ : ∃ b, bq + 1 = b := ⟨_, rfl⟩
  have g1 := ((h.allocRaw #[.int .i64 22, .int .i64 0, .int .i64 n, .bool u, .string (bb cd)] 25).allocRaw #[.bool nl, .string (bb d), .int .i64 tm, .int .i64 (-1), .int .i64 (-1)] 27).allocRaw #[.string (bb id), .int .i64 p2, .int .i64 e2, .bool c] 29
  simp only [World.size_alloc, hhb, hbq, heq] at g1
  have H := Lib.hid g1
  have HK := Lib.hid hk
  have HN := Lib.hid hn
  have l1 : ¬ 1000 < (cd.length : Int) := by omega
  have l2 : ¬ 1000 < (d.length : Int) := by omega
  have l3 : ¬ 1000 < (id.length : Int) := by omega
  have HL1 := Lib.hid hl
  have HL2 := Lib.hid hl2
  have HL3 := Lib.hid hl3
  have HQ := Lib.hid hq
  have HR := Lib.hid hR
  have HR2 := Lib.hid hr2
  have hlen := head_lenW ⟨22, 0, n, ⟨u, cd⟩⟩ hl
  obtain ⟨B, hB⟩ : ∃ B, encHead ⟨22, 0, n, ⟨u, cd⟩⟩ = B := ⟨_, rfl⟩
  have hx := (head_put _ hq).1
  rw [hB] at hx hlen
  have HX := Lib.hid hx
  have HBL := Lib.hid (show B.length ≤ 1000000 by omega)
  have HDL := Lib.hid (show d.length ≤ 140737488355328 by omega)
  have HIL := Lib.hid (show id.length ≤ 140737488355328 by omega)
  have HE := Lib.hid hE
  have hok := begE_ok hE
  have HP := Lib.hid (show (-1 : Int) < 9223372036854775808 by decide)
  obtain ⟨o1, h1⟩ : ∃ y, B ++ encF 2 ⟨nl, d⟩ = y := ⟨_, rfl⟩
  obtain ⟨o2, h2⟩ : ∃ y, o1 ++ beBytes tm (4 : Int).toNat = y := ⟨_, rfl⟩
  have hS : o2 = B ++ (encF 2 ⟨nl, d⟩ ++ (beBytes tm 4)) := by rw [← h2, ← h1]; simp only [List.append_assoc]; rfl
  have hRD := head_backW ⟨22, 0, n, ⟨u, cd⟩⟩ hq (encF 2 ⟨nl, d⟩ ++ (beBytes tm 4))
  rw [hB, ← hS] at hRD
  have b1 := fixed_stepW o2 B (beBytes tm 4) nl d hok.1 (by rw [hS]; simp only [List.append_assoc])
  have b2 := int_stepV o2 (B ++ encF 2 ⟨nl, d⟩) ([]) tm 4 (by decide) (by decide) (vfits4 tm (by omega)) (by rw [hS]; simp only [List.append_assoc, List.append_nil])
  rw [show B ++ encF 2 ⟨nl, d⟩ ++ beBytes tm 4 = o2 by rw [hS]; simp only [List.append_assoc]] at b2
  have H1 := Lib.hid h1
  have H2 := Lib.hid h2
  have B1 := Lib.hid b1
  have B2 := Lib.hid b2
  have HSL := Lib.hid (show o2.length ≤ 140737488355328 by have h9 : o2.length ≤ 100000 := (by rw [hS]; simp only [List.length_append, beBytes_length, encF]; omega); omega)
  have HRD := Lib.hid hRD
  have e0 : (u == u) = true := beq_self_eq_true _
  have e1 : (cd == cd) = true := beq_self_eq_true _
  have e2_ : (nl == nl) = true := beq_self_eq_true _
  have e3 : (d == d) = true := beq_self_eq_true _
  have e4 : (id == id) = true := beq_self_eq_true _
  have e5 : (c == c) = true := beq_self_eq_true _
  have e6 : ((B.length : Int) == (B.length : Int)) = true := beq_self_eq_true _
  have e7 : ((B.length : Int) != (B.length : Int)) = false := by simp [bne]
  clear h g1 hk hn hl hl2 hl3 hq hR hr2 hB hx hlen hE hok hS hRD h1 h2 b1 b2
  go_enter Tryd.func3, Tryd.ntmps3
  go_upto_region 21 with (first
    | (go_at_call 4; (with_reducible refine (rc26 HK.out H.out).mono ?_); rintro e_ wn ⟨rfl, h⟩; replace H := Lib.hid h; clear h)
    | (go_at_call 4; (with_reducible refine (rc261 HK.out H.out).mono ?_); rintro e_ wn ⟨rfl, h⟩; have z0 := h.rawCell 0; have z1 := h.rawCell 1; have z2 := h.rawCell 2; have z3 := h.rawCell 3; simp at z0 z1 z2 z3; have y0 := h.p1.rawCell 0; have y1 := h.p1.rawCell 1; have y2 := h.p1.rawCell 2; have y3 := h.p1.rawCell 3; have y4 := h.p1.rawCell 4; simp at y0 y1 y2 y3 y4; have x0 := h.p2.rawCell 0; have x1 := h.p2.rawCell 1; have x2 := h.p2.rawCell 2; have x3 := h.p2.rawCell 3; have x4 := h.p2.rawCell 4; simp at x0 x1 x2 x3 x4; replace H := Lib.hid h; clear h)
    | (go_at_call 4; clear z0 z1 z2 z3 y0 y1 y2 y3 y4 x0 x1 x2 x3 x4; (with_reducible refine (req_check 22 0 n u cd 0 HQ.out HN.out HK.out H.out).mono ?_); rintro e_ wn ⟨rfl, h⟩; have z0 := h.rawCell 0; have z1 := h.rawCell 1; have z2 := h.rawCell 2; have z3 := h.rawCell 3; simp at z0 z1 z2 z3; have y0 := h.p1.rawCell 0; have y1 := h.p1.rawCell 1; have y2 := h.p1.rawCell 2; have y3 := h.p1.rawCell 3; have y4 := h.p1.rawCell 4; simp at y0 y1 y2 y3 y4; have x0 := h.p2.rawCell 0; have x1 := h.p2.rawCell 1; have x2 := h.p2.rawCell 2; have x3 := h.p2.rawCell 3; have x4 := h.p2.rawCell 4; simp at x0 x1 x2 x3 x4; obtain ⟨po, hpo⟩ : ∃ b, wn.heap.size = b := ⟨_, rfl⟩; replace h := h.allocOut; rw [hpo] at h; have z0 := h.p1.rawCell 0; have z1 := h.p1.rawCell 1; have z2 := h.p1.rawCell 2; have z3 := h.p1.rawCell 3; simp at z0 z1 z2 z3; have y0 := h.p2.rawCell 0; have y1 := h.p2.rawCell 1; have y2 := h.p2.rawCell 2; have y3 := h.p2.rawCell 3; have y4 := h.p2.rawCell 4; simp at y0 y1 y2 y3 y4; have x0 := h.p3.rawCell 0; have x1 := h.p3.rawCell 1; have x2 := h.p3.rawCell 2; have x3 := h.p3.rawCell 3; have x4 := h.p3.rawCell 4; simp at x0 x1 x2 x3 x4; replace H := Lib.hid h; clear h)
    | (go_at_call 5; clear z0 z1 z2 z3 y0 y1 y2 y3 y4 x0 x1 x2 x3 x4; (with_reducible refine (req_write5 po 22 0 n u cd _ HX.out HR.out HK.out H.out).mono ?_); rintro e_ wn ⟨rfl, h⟩; have z0 := h.p1.rawCell 0; have z1 := h.p1.rawCell 1; have z2 := h.p1.rawCell 2; have z3 := h.p1.rawCell 3; simp at z0 z1 z2 z3; have y0 := h.p2.rawCell 0; have y1 := h.p2.rawCell 1; have y2 := h.p2.rawCell 2; have y3 := h.p2.rawCell 3; have y4 := h.p2.rawCell 4; simp at y0 y1 y2 y3 y4; have x0 := h.p3.rawCell 0; have x1 := h.p3.rawCell 1; have x2 := h.p3.rawCell 2; have x3 := h.p3.rawCell 3; have x4 := h.p3.rawCell 4; simp at x0 x1 x2 x3 x4; replace H := Lib.hid h; clear h)
    | (go_at_call 6; clear z0 z1 z2 z3 y0 y1 y2 y3 y4 x0 x1 x2 x3 x4; (with_reducible refine (so_lenW po B H.out).mono ?_); rintro e_ wn ⟨rfl, h⟩; have z0 := h.p1.rawCell 0; have z1 := h.p1.rawCell 1; have z2 := h.p1.rawCell 2; have z3 := h.p1.rawCell 3; simp at z0 z1 z2 z3; have y0 := h.p2.rawCell 0; have y1 := h.p2.rawCell 1; have y2 := h.p2.rawCell 2; have y3 := h.p2.rawCell 3; have y4 := h.p2.rawCell 4; simp at y0 y1 y2 y3 y4; have x0 := h.p3.rawCell 0; have x1 := h.p3.rawCell 1; have x2 := h.p3.rawCell 2; have x3 := h.p3.rawCell 3; have x4 := h.p3.rawCell 4; simp at x0 x1 x2 x3 x4; replace H := Lib.hid h; clear h)
    | (go_at_call 7; clear z0 z1 z2 z3 y0 y1 y2 y3 y4 x0 x1 x2 x3 x4; (with_reducible refine (end_check id p2 e2 c _ HR2.out HIL.out H.out).mono ?_); rintro e_ wn ⟨rfl, h⟩; have z0 := h.p1.rawCell 0; have z1 := h.p1.rawCell 1; have z2 := h.p1.rawCell 2; have z3 := h.p1.rawCell 3; simp at z0 z1 z2 z3; have y0 := h.p2.rawCell 0; have y1 := h.p2.rawCell 1; have y2 := h.p2.rawCell 2; have y3 := h.p2.rawCell 3; have y4 := h.p2.rawCell 4; simp at y0 y1 y2 y3 y4; have x0 := h.p3.rawCell 0; have x1 := h.p3.rawCell 1; have x2 := h.p3.rawCell 2; have x3 := h.p3.rawCell 3; have x4 := h.p3.rawCell 4; simp at x0 x1 x2 x3 x4; replace H := Lib.hid h; clear h)
    | (go_at_call 8; clear z0 z1 z2 z3 y0 y1 y2 y3 y4 x0 x1 x2 x3 x4; (with_reducible refine (beg_write_ok0 po B o1 o2 nl d tm (-1) (-1) H1.out H2.out HE.out HP.out HBL.out H.out).mono ?_); rintro e_ wn ⟨rfl, h⟩; have z0 := h.p1.rawCell 0; have z1 := h.p1.rawCell 1; have z2 := h.p1.rawCell 2; have z3 := h.p1.rawCell 3; simp at z0 z1 z2 z3; have y0 := h.p2.rawCell 0; have y1 := h.p2.rawCell 1; have y2 := h.p2.rawCell 2; have y3 := h.p2.rawCell 3; have y4 := h.p2.rawCell 4; simp at y0 y1 y2 y3 y4; have x0 := h.p3.rawCell 0; have x1 := h.p3.rawCell 1; have x2 := h.p3.rawCell 2; have x3 := h.p3.rawCell 3; have x4 := h.p3.rawCell 4; simp at x0 x1 x2 x3 x4; replace H := Lib.hid h; clear h)
    | (go_at_call 9; clear z0 z1 z2 z3 y0 y1 y2 y3 y4 x0 x1 x2 x3 x4; (with_reducible refine (beg_check 0 nl d tm (-1) (-1) _ HE.out HDL.out H.out).mono ?_); rintro e_ wn ⟨rfl, h⟩; have z0 := h.p1.rawCell 0; have z1 := h.p1.rawCell 1; have z2 := h.p1.rawCell 2; have z3 := h.p1.rawCell 3; simp at z0 z1 z2 z3; have y0 := h.p2.rawCell 0; have y1 := h.p2.rawCell 1; have y2 := h.p2.rawCell 2; have y3 := h.p2.rawCell 3; have y4 := h.p2.rawCell 4; simp at y0 y1 y2 y3 y4; have x0 := h.p3.rawCell 0; have x1 := h.p3.rawCell 1; have x2 := h.p3.rawCell 2; have x3 := h.p3.rawCell 3; have x4 := h.p3.rawCell 4; simp at x0 x1 x2 x3 x4; replace H := Lib.hid h; clear h)
    | (go_at_call 11; clear z0 z1 z2 z3 y0 y1 y2 y3 y4 x0 x1 x2 x3 x4; (with_reducible refine (so_textW po o2 H.out).mono ?_); rintro e_ wn ⟨rfl, h⟩; have z0 := h.p1.rawCell 0; have z1 := h.p1.rawCell 1; have z2 := h.p1.rawCell 2; have z3 := h.p1.rawCell 3; simp at z0 z1 z2 z3; have y0 := h.p2.rawCell 0; have y1 := h.p2.rawCell 1; have y2 := h.p2.rawCell 2; have y3 := h.p2.rawCell 3; have y4 := h.p2.rawCell 4; simp at y0 y1 y2 y3 y4; have x0 := h.p3.rawCell 0; have x1 := h.p3.rawCell 1; have x2 := h.p3.rawCell 2; have x3 := h.p3.rawCell 3; have x4 := h.p3.rawCell 4; simp at x0 x1 x2 x3 x4; replace H := Lib.hid h; clear h)
    | (go_at_call 12; clear z0 z1 z2 z3 y0 y1 y2 y3 y4 x0 x1 x2 x3 x4; (with_reducible refine (s_new o2 HSL.out H.out).mono ?_); rintro e_ wn ⟨bi, rfl, h⟩; have z0 := h.p2.rawCell 0; have z1 := h.p2.rawCell 1; have z2 := h.p2.rawCell 2; have z3 := h.p2.rawCell 3; simp at z0 z1 z2 z3; have y0 := h.p3.rawCell 0; have y1 := h.p3.rawCell 1; have y2 := h.p3.rawCell 2; have y3 := h.p3.rawCell 3; have y4 := h.p3.rawCell 4; simp at y0 y1 y2 y3 y4; have x0 := h.p4.rawCell 0; have x1 := h.p4.rawCell 1; have x2 := h.p4.rawCell 2; have x3 := h.p4.rawCell 3; have x4 := h.p4.rawCell 4; simp at x0 x1 x2 x3 x4; replace H := Lib.hid h; clear h)
    | (go_at_call 13; clear z0 z1 z2 z3 y0 y1 y2 y3 y4 x0 x1 x2 x3 x4; (with_reducible refine (req_readQ bi _ _ 22 0 n u cd HRD.out HK.out H.out).mono ?_); rintro e_ wn ⟨rfl, h⟩; obtain ⟨xb, hxb⟩ : ∃ b, wn.heap.size = b := ⟨_, rfl⟩; have h := h.allocRaw #[.int .i64 22, .int .i64 0, .int .i64 n, .bool u, .string (bb cd)] 25; rw [hxb] at h; replace h := h.p1; have z0 := h.p3.rawCell 0; have z1 := h.p3.rawCell 1; have z2 := h.p3.rawCell 2; have z3 := h.p3.rawCell 3; simp at z0 z1 z2 z3; have y0 := h.p4.rawCell 0; have y1 := h.p4.rawCell 1; have y2 := h.p4.rawCell 2; have y3 := h.p4.rawCell 3; have y4 := h.p4.rawCell 4; simp at y0 y1 y2 y3 y4; have x0 := h.p5.rawCell 0; have x1 := h.p5.rawCell 1; have x2 := h.p5.rawCell 2; have x3 := h.p5.rawCell 3; have x4 := h.p5.rawCell 4; simp at x0 x1 x2 x3 x4; have t0 := h.p1.rawCell 0; have t1 := h.p1.rawCell 1; have t2 := h.p1.rawCell 2; have t3 := h.p1.rawCell 3; have t4 := h.p1.rawCell 4; simp at t0 t1 t2 t3 t4; replace H := Lib.hid h; clear h)
    | (go_at_call 14; clear z0 z1 z2 z3 y0 y1 y2 y3 y4 x0 x1 x2 x3 x4; clear t0 t1 t2 t3 t4; (with_reducible refine (s_atW bi o2 B.length H.out).mono ?_); rintro e_ wn ⟨rfl, h⟩; have z0 := h.p3.rawCell 0; have z1 := h.p3.rawCell 1; have z2 := h.p3.rawCell 2; have z3 := h.p3.rawCell 3; simp at z0 z1 z2 z3; have y0 := h.p4.rawCell 0; have y1 := h.p4.rawCell 1; have y2 := h.p4.rawCell 2; have y3 := h.p4.rawCell 3; have y4 := h.p4.rawCell 4; simp at y0 y1 y2 y3 y4; have x0 := h.p5.rawCell 0; have x1 := h.p5.rawCell 1; have x2 := h.p5.rawCell 2; have x3 := h.p5.rawCell 3; have x4 := h.p5.rawCell 4; simp at x0 x1 x2 x3 x4; have t0 := h.p1.rawCell 0; have t1 := h.p1.rawCell 1; have t2 := h.p1.rawCell 2; have t3 := h.p1.rawCell 3; have t4 := h.p1.rawCell 4; simp at t0 t1 t2 t3 t4; replace H := Lib.hid h; clear h))
  have hs := H.out.drew
  have HKQ := Lib.hid (show ∀ w' i, St W0 w' K (.inp bi i :: .raw xb #[.int .i64 22, .int .i64 0, .int .i64 n, .bool u, .string (bb cd)] 25 :: .out po ⟨o2, 0⟩ :: .raw eq #[.string (bb id), .int .i64 p2, .int .i64 e2, .bool c] 29 :: .raw bq #[.bool nl, .string (bb d), .int .i64 tm, .int .i64 (-1), .int .i64 (-1)] 27 :: .raw hb #[.int .i64 22, .int .i64 0, .int .i64 n, .bool u, .string (bb cd)] 25 :: L) → (w'.cell? ⟨eq, 0, none⟩ = some (.string (bb id)) ∧ w'.cell? ⟨eq, 1, none⟩ = some (.int .i64 p2) ∧ w'.cell? ⟨eq, 2, none⟩ = some (.int .i64 e2) ∧ w'.cell? ⟨eq, 3, none⟩ = some (.bool c) ∧ w'.cell? ⟨bq, 0, none⟩ = some (.bool nl) ∧ w'.cell? ⟨bq, 1, none⟩ = some (.string (bb d)) ∧ w'.cell? ⟨bq, 2, none⟩ = some (.int .i64 tm) ∧ w'.cell? ⟨bq, 3, none⟩ = some (.int .i64 (-1)) ∧ w'.cell? ⟨bq, 4, none⟩ = some (.int .i64 (-1)) ∧ w'.cell? ⟨xb, 0, none⟩ = some (.int .i64 22) ∧ w'.cell? ⟨xb, 1, none⟩ = some (.int .i64 0) ∧ w'.cell? ⟨xb, 2, none⟩ = some (.int .i64 n) ∧ w'.cell? ⟨xb, 3, none⟩ = some (.bool u) ∧ w'.cell? ⟨xb, 4, none⟩ = some (.string (bb cd))) from fun w' i hs => ⟨hs.p3.rawCell 0, hs.p3.rawCell 1, hs.p3.rawCell 2, hs.p3.rawCell 3, hs.p4.rawCell 0, hs.p4.rawCell 1, hs.p4.rawCell 2, hs.p4.rawCell 3, hs.p4.rawCell 4, hs.p1.rawCell 0, hs.p1.rawCell 1, hs.p1.rawCell 2, hs.p1.rawCell 3, hs.p1.rawCell 4⟩)
  refine wp_region_held_drew (S := fun w' => w'.cell? ⟨eq, 0, none⟩ = some (.string (bb id)) ∧ w'.cell? ⟨eq, 1, none⟩ = some (.int .i64 p2) ∧ w'.cell? ⟨eq, 2, none⟩ = some (.int .i64 e2) ∧ w'.cell? ⟨eq, 3, none⟩ = some (.bool c) ∧ w'.cell? ⟨bq, 0, none⟩ = some (.bool nl) ∧ w'.cell? ⟨bq, 1, none⟩ = some (.string (bb d)) ∧ w'.cell? ⟨bq, 2, none⟩ = some (.int .i64 tm) ∧ w'.cell? ⟨bq, 3, none⟩ = some (.int .i64 (-1)) ∧ w'.cell? ⟨bq, 4, none⟩ = some (.int .i64 (-1)) ∧ w'.cell? ⟨xb, 0, none⟩ = some (.int .i64 22) ∧ w'.cell? ⟨xb, 1, none⟩ = some (.int .i64 0) ∧ w'.cell? ⟨xb, 2, none⟩ = some (.int .i64 n) ∧ w'.cell? ⟨xb, 3, none⟩ = some (.bool u) ∧ w'.cell? ⟨xb, 4, none⟩ = some (.string (bb cd))) (by kernel_rfl) (HKQ.out _ _ hs) (fun hHeld => ?_)
  refine wpAnyH_take (i := 0) (oi := { dst := some 106, op := Op.move (Operand.tmp 12), type := 44, pos := "top09.go:39", after := #[], guard := none }) (v := ?_) rfl (by kernel_rfl) (by kernel_rfl) (by kernel_rfl) (fun _ _ _ h => h) (Or.inl ⟨by rfl, ?_⟩) (by assumption) ?_
  rotate_left
  · intro w hSw; (try dsimp only at hSw); go_simp; try with_reducible rfl
  simp only [Act.put, List.setIfInBounds_toArray, List.set_cons_zero, List.set_cons_succ]
  refine wpAnyH_take (i := 1) (oi := { dst := some 107, op := Op.fieldAddr 25 (Operand.tmp 13) 1, type := 0, pos := "top09.go:39", after := #[], guard := none }) (v := ?_) rfl (by kernel_rfl) (by kernel_rfl) (by kernel_rfl) (fun _ _ _ h => h) (Or.inl ⟨by rfl, ?_⟩) (by assumption) ?_
  rotate_left
  · intro w hSw; (try dsimp only at hSw); go_simp; try with_reducible rfl
  simp only [Act.put, List.setIfInBounds_toArray, List.set_cons_zero, List.set_cons_succ]
  refine wpAnyH_take (i := 2) (oi := { dst := some 108, op := Op.load 3 (Operand.tmp 107), type := 3, pos := "top09.go:39", after := #[{ on := 1, ground := Ground.data }], guard := none }) (v := ?_) rfl (by kernel_rfl) (by kernel_rfl) (by kernel_rfl) (fun _ _ _ h => h) (Or.inl ⟨by rfl, ?_⟩) (by assumption) ?_
  rotate_left
  · intro w hSw; (try dsimp only at hSw); go_simp; try with_reducible rfl
  simp only [Act.put, List.setIfInBounds_toArray, List.set_cons_zero, List.set_cons_succ]
  refine wpAnyH_take (i := 4) (oi := { dst := some 110, op := Op.load 27 (Operand.tmp 4), type := 27, pos := "top09.go:39", after := #[], guard := none }) (v := ?_) rfl (by kernel_rfl) (by kernel_rfl) (by kernel_rfl) (fun _ _ _ h => h) (Or.inl ⟨by rfl, ?_⟩) (by assumption) ?_
  rotate_left
  · intro w hSw; (try dsimp only at hSw); go_simp; try with_reducible rfl
  simp only [Act.put, List.setIfInBounds_toArray, List.set_cons_zero, List.set_cons_succ]
  refine wpAnyH_ready (rs := [3]) (by kernel_rfl) (by simp) (AllReadyH.cons (o := { dst := some 109, op := Op.call { callee := Callee.value (Operand.func 15), args := #[Operand.tmp 106, Operand.tmp 108], argTypes := #[44, 3] }, type := 27, pos := "top09.go:39", after := #[{ on := 0, ground := Ground.data }, { on := 2, ground := Ground.data }], guard := none }) rfl (fun KK hK => ?_) AllReadyH.nil)
  · go_simp
    go_at_call 15
    with_reducible refine (read_beg0_ok bi _ _ _ nl d tm B1.out B2.out (err_endW o2) HE.out HDL.out hs).mono ?_
    rintro e wq ⟨rfl, hs⟩
    refine hK.out _ _ (HKQ.out _ _ hs) (fun hHeld => ?_)
    clear hK KK
    try simp only [Act.put, List.setIfInBounds_toArray, List.set_cons_zero, List.set_cons_succ]
    refine wpAnyH_take (i := 5) (oi := { dst := some 111, op := Op.binOp BinOp.eql 27 (Operand.tmp 109) (Operand.tmp 110) 27, type := 4, pos := "top09.go:39", after := #[{ on := 3, ground := Ground.data }, { on := 4, ground := Ground.data }], guard := none }) (v := ?_) rfl (by kernel_rfl) (by kernel_rfl) (by kernel_rfl) (fun _ _ _ h => h) (Or.inl ⟨by rfl, ?_⟩) (by assumption) ?_
    rotate_left
    · intro w hSw; (try dsimp only at hSw); go_simp; try with_reducible rfl
    simp only [Act.put, List.setIfInBounds_toArray, List.set_cons_zero, List.set_cons_succ]
    refine wpAnyH_take (i := 6) (oi := { dst := some 112, op := Op.move (Operand.tmp 111), type := 4, pos := "top09.go:39", after := #[{ on := 5, ground := Ground.data }, { on := 3, ground := Ground.chain }], guard := none }) (v := ?_) rfl (by kernel_rfl) (by kernel_rfl) (by kernel_rfl) (fun _ _ _ h => h) (Or.inl ⟨by rfl, ?_⟩) (by assumption) ?_
    rotate_left
    · intro w hSw; (try dsimp only at hSw); go_simp; try with_reducible rfl
    simp only [Act.put, List.setIfInBounds_toArray, List.set_cons_zero, List.set_cons_succ]
    refine wpAnyH_take (i := 7) (oi := { dst := some 113, op := Op.move (Operand.tmp 12), type := 44, pos := "top09.go:39", after := #[{ on := 6, ground := Ground.guard }], guard := some (6, true) }) (v := ?_) rfl (by kernel_rfl) (by kernel_rfl) (by kernel_rfl) (fun _ _ _ h => h) (Or.inl ⟨by rfl, ?_⟩) (by assumption) ?_
    rotate_left
    · intro w hSw; (try dsimp only at hSw); go_simp; try with_reducible rfl
    simp only [Act.put, List.setIfInBounds_toArray, List.set_cons_zero, List.set_cons_succ]
    refine wpAnyH_ready (rs := [8]) (by kernel_rfl) (by simp) (AllReadyH.cons (o := { dst := some 114, op := Op.call { callee := Callee.value (Operand.func 16), args := #[Operand.tmp 113], argTypes := #[44] }, type := 30, pos := "top09.go:39", after := #[{ on := 7, ground := Ground.data }, { on := 6, ground := Ground.chain }, { on := 6, ground := Ground.guard }], guard := some (6, true) }) rfl (fun KK hK => ?_) AllReadyH.nil)
    · go_simp
      go_at_call 16
      with_reducible refine (s_closeW bi o2 hs).mono ?_
      rintro e wq ⟨rfl, hs⟩
      refine hK.out _ _ (HKQ.out _ _ hs) (fun hHeld => ?_)
      clear hK KK
      try simp only [Act.put, List.setIfInBounds_toArray, List.set_cons_zero, List.set_cons_succ]
      refine wpAnyH_take (i := 9) (oi := { dst := some 115, op := Op.binOp BinOp.eql 30 (Operand.tmp 114) (Operand.const (Value.int IntKind.i64 0)) 30, type := 4, pos := "top09.go:39", after := #[{ on := 8, ground := Ground.data }, { on := 6, ground := Ground.guard }], guard := some (6, true) }) (v := ?_) rfl (by kernel_rfl) (by kernel_rfl) (by kernel_rfl) (fun _ _ _ h => h) (Or.inl ⟨by rfl, ?_⟩) (by assumption) ?_
      rotate_left
      · intro w hSw; (try dsimp only at hSw); go_simp; try with_reducible rfl
      simp only [Act.put, List.setIfInBounds_toArray, List.set_cons_zero, List.set_cons_succ]
      refine wpAnyH_take (i := 10) (oi := { dst := some 116, op := Op.pick (Operand.tmp 112) (Operand.tmp 115) (Operand.const (Value.bool false)), type := 4, pos := "top09.go:39", after := #[{ on := 6, ground := Ground.data }, { on := 9, ground := Ground.data }], guard := none }) (v := ?_) rfl (by kernel_rfl) (by kernel_rfl) (by kernel_rfl) (fun _ _ _ h => h) (Or.inl ⟨by rfl, ?_⟩) (by assumption) ?_
      rotate_left
      · intro w hSw; (try dsimp only at hSw); go_simp; try with_reducible rfl
      simp only [Act.put, List.setIfInBounds_toArray, List.set_cons_zero, List.set_cons_succ]
      refine wpAnyH_take (i := 11) (oi := { dst := some 6, op := Op.assign (Operand.tmp 116), type := 4, pos := "top09.go:39", after := #[{ on := 10, ground := Ground.data }, { on := 8, ground := Ground.chain }, { on := 0, ground := Ground.phase }, { on := 1, ground := Ground.phase }, { on := 2, ground := Ground.phase }, { on := 3, ground := Ground.phase }, { on := 4, ground := Ground.phase }, { on := 5, ground := Ground.phase }, { on := 6, ground := Ground.phase }, { on := 7, ground := Ground.phase }, { on := 8, ground := Ground.phase }, { on := 9, ground := Ground.phase }, { on := 10, ground := Ground.phase }], guard := none }) (v := ?_) rfl (by kernel_rfl) (by kernel_rfl) (by kernel_rfl) (fun _ _ _ h => h) (Or.inl ⟨by rfl, ?_⟩) (by assumption) ?_
      rotate_left
      · intro w hSw; (try dsimp only at hSw); go_simp; try with_reducible rfl
      simp only [Act.put, List.setIfInBounds_toArray, List.set_cons_zero, List.set_cons_succ]
      refine wpAnyH_done (by kernel_rfl) ?_ _
      go_wp2_with fail
      go_ret
      exact ⟨rfl, hs.below⟩

set_option maxHeartbeats 12000000 in
set_option maxRecDepth 100000 in
theorem wt_221 (n : Int) (u : Bool) (cd : Bs) (nl : Bool) (d : Bs) (tm p e : Int) (id : Bs) (p2 e2 : Int) (c : Bool) (hn : -9223372036854775808 ≤ n ∧ n < 9223372036854775808) (hl : cd.length ≤ 1000) (hl2 : d.length ≤ 1000) (hl3 : id.length ≤ 1000) (hq : headErr ⟨22, 1, n, ⟨u, cd⟩⟩ = 0) (hR : HeadS.R ⟨22, 1, n, ⟨u, cd⟩⟩) (r2 : Int) (hr2 : chkW id p2 e2 = r2) (hE : begE 1 nl d tm p e = 0) (hp : p < 9223372036854775808) {W0 w : World} {K : Know} {L : List Res} (hk : K.has Know.reqs) (h : St W0 w K L) :
    Calls Tryd.prog 3 #[.agg #[.int .i64 22, .int .i64 1, .int .i64 n, .bool u, .string (bb cd)], .agg #[.bool nl, .string (bb d), .int .i64 tm, .int .i64 p, .int .i64 e], .agg #[.string (bb id), .int .i64 p2, .int .i64 e2, .bool c]] w fun en w' => en = .returned (.bool true) ∧ Below W0.heap.size W0 w' := by
  obtain ⟨hb, hhb⟩ : ∃ b, w.heap.size = b := ⟨_, rfl⟩
  obtain ⟨bq, hbq⟩ : ∃ b, hb + 1 = b := ⟨_, rfl⟩
  obtain ⟨eq, heq⟩ : ∃ b, bq + 1 = b := ⟨_, rfl⟩
  have g1 := ((h.allocRaw #[.int .i64 22, .int .i64 1, .int .i64 n, .bool u, .string (bb cd)] 25).allocRaw #[.bool nl, .string (bb d), .int .i64 tm, .int .i64 p, .int .i64 e] 27).allocRaw #[.string (bb id), .int .i64 p2, .int .i64 e2, .bool c] 29
  simp only [World.size_alloc, hhb, hbq, heq] at g1
  have H := Lib.hid g1
  have HK := Lib.hid hk
  have HN := Lib.hid hn
  have l1 : ¬ 1000 < (cd.length : Int) := by omega
  have l2 : ¬ 1000 < (d.length : Int) := by omega
  have l3 : ¬ 1000 < (id.length : Int) := by omega
  have HL1 := Lib.hid hl
  have HL2 := Lib.hid hl2
  have HL3 := Lib.hid hl3
  have HQ := Lib.hid hq
  have HR := Lib.hid hR
  have HR2 := Lib.hid hr2
  have hlen := head_lenW ⟨22, 1, n, ⟨u, cd⟩⟩ hl
  obtain ⟨B, hB⟩ : ∃ B, encHead ⟨22, 1, n, ⟨u, cd⟩⟩ = B := ⟨_, rfl⟩
  have hx := (head_put _ hq).1
  rw [hB] at hx hlen
  have HX := Lib.hid hx
  have HBL := Lib.hid (show B.length ≤ 1000000 by omega)
  have HDL := Lib.hid (show d.length ≤ 140737488355328 by omega)
  have HIL := Lib.hid (show id.length ≤ 140737488355328 by omega)
  have HE := Lib.hid hE
  have hok := begE_ok hE
  have HP := Lib.hid hp
  obtain ⟨o1, h1⟩ : ∃ y, B ++ encF 2 ⟨nl, d⟩ = y := ⟨_, rfl⟩
  obtain ⟨o2, h2⟩ : ∃ y, o1 ++ beBytes tm (4 : Int).toNat = y := ⟨_, rfl⟩
  obtain ⟨o3, h3⟩ : ∃ y, o2 ++ beBytes p (8 : Int).toNat = y := ⟨_, rfl⟩
  obtain ⟨o4, h4⟩ : ∃ y, o3 ++ beBytes e (2 : Int).toNat = y := ⟨_, rfl⟩
  have hrg := was_rng hok.2.2
  have hS : o4 = B ++ (encF 2 ⟨nl, d⟩ ++ (beBytes tm 4 ++ (beBytes p 8 ++ beBytes e 2))) := by rw [← h4, ← h3, ← h2, ← h1]; simp only [List.append_assoc]; rfl
  have hRD := head_backW ⟨22, 1, n, ⟨u, cd⟩⟩ hq (encF 2 ⟨nl, d⟩ ++ (beBytes tm 4 ++ (beBytes p 8 ++ beBytes e 2)))
  rw [hB, ← hS] at hRD
  have b1 := fixed_stepW o4 B (beBytes tm 4 ++ (beBytes p 8 ++ beBytes e 2)) nl d hok.1 (by rw [hS]; simp only [List.append_assoc])
  have b2 := int_stepV o4 (B ++ encF 2 ⟨nl, d⟩) (beBytes p 8 ++ beBytes e 2) tm 4 (by decide) (by decide) (vfits4 tm (by omega)) (by rw [hS]; simp only [List.append_assoc, List.append_nil])
  have b3 := int_stepV o4 (B ++ encF 2 ⟨nl, d⟩ ++ beBytes tm 4) (beBytes e 2) p 8 (by decide) (by decide) (vfits8 p (by omega)) (by rw [hS]; simp only [List.append_assoc])
  have b4 := int_stepV o4 (B ++ encF 2 ⟨nl, d⟩ ++ beBytes tm 4 ++ beBytes p 8) [] e 2 (by decide) (by decide) (vfits2 e (by omega)) (by rw [hS]; simp only [List.append_assoc, List.append_nil])
  rw [show B ++ encF 2 ⟨nl, d⟩ ++ beBytes tm 4 ++ beBytes p 8 ++ beBytes e 2 = o4 by rw [hS]; simp only [List.append_assoc]] at b4
  have H1 := Lib.hid h1
  have H2 := Lib.hid h2
  have H3 := Lib.hid h3
  have H4 := Lib.hid h4
  have B1 := Lib.hid b1
  have B2 := Lib.hid b2
  have B3 := Lib.hid b3
  have B4 := Lib.hid b4
  have HSL := Lib.hid (show o4.length ≤ 140737488355328 by have h9 : o4.length ≤ 100000 := (by rw [hS]; simp only [List.length_append, beBytes_length, encF]; omega); omega)
  have HRD := Lib.hid hRD
  have e0 : (u == u) = true := beq_self_eq_true _
  have e1 : (cd == cd) = true := beq_self_eq_true _
  have e2_ : (nl == nl) = true := beq_self_eq_true _
  have e3 : (d == d) = true := beq_self_eq_true _
  have e4 : (id == id) = true := beq_self_eq_true _
  have e5 : (c == c) = true := beq_self_eq_true _
  have e6 : ((B.length : Int) == (B.length : Int)) = true := beq_self_eq_true _
  have e7 : ((B.length : Int) != (B.length : Int)) = false := by simp [bne]
  clear h g1 hk hn hl hl2 hl3 hq hR hr2 hB hx hlen hE hok hS hRD h1 h2 h3 h4 b1 b2 b3 b4 hp hrg
  go_enter Tryd.func3, Tryd.ntmps3
  go_upto_region 21 with (first
    | (go_at_call 4; (with_reducible refine (rc26 HK.out H.out).mono ?_); rintro e_ wn ⟨rfl, h⟩; replace H := Lib.hid h; clear h)
    | (go_at_call 4; (with_reducible refine (rc261 HK.out H.out).mono ?_); rintro e_ wn ⟨rfl, h⟩; have z0 := h.rawCell 0; have z1 := h.rawCell 1; have z2 := h.rawCell 2; have z3 := h.rawCell 3; simp at z0 z1 z2 z3; have y0 := h.p1.rawCell 0; have y1 := h.p1.rawCell 1; have y2 := h.p1.rawCell 2; have y3 := h.p1.rawCell 3; have y4 := h.p1.rawCell 4; simp at y0 y1 y2 y3 y4; have x0 := h.p2.rawCell 0; have x1 := h.p2.rawCell 1; have x2 := h.p2.rawCell 2; have x3 := h.p2.rawCell 3; have x4 := h.p2.rawCell 4; simp at x0 x1 x2 x3 x4; replace H := Lib.hid h; clear h)
    | (go_at_call 4; clear z0 z1 z2 z3 y0 y1 y2 y3 y4 x0 x1 x2 x3 x4; (with_reducible refine (req_check 22 1 n u cd 0 HQ.out HN.out HK.out H.out).mono ?_); rintro e_ wn ⟨rfl, h⟩; have z0 := h.rawCell 0; have z1 := h.rawCell 1; have z2 := h.rawCell 2; have z3 := h.rawCell 3; simp at z0 z1 z2 z3; have y0 := h.p1.rawCell 0; have y1 := h.p1.rawCell 1; have y2 := h.p1.rawCell 2; have y3 := h.p1.rawCell 3; have y4 := h.p1.rawCell 4; simp at y0 y1 y2 y3 y4; have x0 := h.p2.rawCell 0; have x1 := h.p2.rawCell 1; have x2 := h.p2.rawCell 2; have x3 := h.p2.rawCell 3; have x4 := h.p2.rawCell 4; simp at x0 x1 x2 x3 x4; obtain ⟨po, hpo⟩ : ∃ b, wn.heap.size = b := ⟨_, rfl⟩; replace h := h.allocOut; rw [hpo] at h; have z0 := h.p1.rawCell 0; have z1 := h.p1.rawCell 1; have z2 := h.p1.rawCell 2; have z3 := h.p1.rawCell 3; simp at z0 z1 z2 z3; have y0 := h.p2.rawCell 0; have y1 := h.p2.rawCell 1; have y2 := h.p2.rawCell 2; have y3 := h.p2.rawCell 3; have y4 := h.p2.rawCell 4; simp at y0 y1 y2 y3 y4; have x0 := h.p3.rawCell 0; have x1 := h.p3.rawCell 1; have x2 := h.p3.rawCell 2; have x3 := h.p3.rawCell 3; have x4 := h.p3.rawCell 4; simp at x0 x1 x2 x3 x4; replace H := Lib.hid h; clear h)
    | (go_at_call 5; clear z0 z1 z2 z3 y0 y1 y2 y3 y4 x0 x1 x2 x3 x4; (with_reducible refine (req_write5 po 22 1 n u cd _ HX.out HR.out HK.out H.out).mono ?_); rintro e_ wn ⟨rfl, h⟩; have z0 := h.p1.rawCell 0; have z1 := h.p1.rawCell 1; have z2 := h.p1.rawCell 2; have z3 := h.p1.rawCell 3; simp at z0 z1 z2 z3; have y0 := h.p2.rawCell 0; have y1 := h.p2.rawCell 1; have y2 := h.p2.rawCell 2; have y3 := h.p2.rawCell 3; have y4 := h.p2.rawCell 4; simp at y0 y1 y2 y3 y4; have x0 := h.p3.rawCell 0; have x1 := h.p3.rawCell 1; have x2 := h.p3.rawCell 2; have x3 := h.p3.rawCell 3; have x4 := h.p3.rawCell 4; simp at x0 x1 x2 x3 x4; replace H := Lib.hid h; clear h)
    | (go_at_call 6; clear z0 z1 z2 z3 y0 y1 y2 y3 y4 x0 x1 x2 x3 x4; (with_reducible refine (so_lenW po B H.out).mono ?_); rintro e_ wn ⟨rfl, h⟩; have z0 := h.p1.rawCell 0; have z1 := h.p1.rawCell 1; have z2 := h.p1.rawCell 2; have z3 := h.p1.rawCell 3; simp at z0 z1 z2 z3; have y0 := h.p2.rawCell 0; have y1 := h.p2.rawCell 1; have y2 := h.p2.rawCell 2; have y3 := h.p2.rawCell 3; have y4 := h.p2.rawCell 4; simp at y0 y1 y2 y3 y4; have x0 := h.p3.rawCell 0; have x1 := h.p3.rawCell 1; have x2 := h.p3.rawCell 2; have x3 := h.p3.rawCell 3; have x4 := h.p3.rawCell 4; simp at x0 x1 x2 x3 x4; replace H := Lib.hid h; clear h)
    | (go_at_call 7; clear z0 z1 z2 z3 y0 y1 y2 y3 y4 x0 x1 x2 x3 x4; (with_reducible refine (end_check id p2 e2 c _ HR2.out HIL.out H.out).mono ?_); rintro e_ wn ⟨rfl, h⟩; have z0 := h.p1.rawCell 0; have z1 := h.p1.rawCell 1; have z2 := h.p1.rawCell 2; have z3 := h.p1.rawCell 3; simp at z0 z1 z2 z3; have y0 := h.p2.rawCell 0; have y1 := h.p2.rawCell 1; have y2 := h.p2.rawCell 2; have y3 := h.p2.rawCell 3; have y4 := h.p2.rawCell 4; simp at y0 y1 y2 y3 y4; have x0 := h.p3.rawCell 0; have x1 := h.p3.rawCell 1; have x2 := h.p3.rawCell 2; have x3 := h.p3.rawCell 3; have x4 := h.p3.rawCell 4; simp at x0 x1 x2 x3 x4; replace H := Lib.hid h; clear h)
    | (go_at_call 8; clear z0 z1 z2 z3 y0 y1 y2 y3 y4 x0 x1 x2 x3 x4; (with_reducible refine (beg_write_ok1 po B o1 o2 o3 o4 nl d tm p e H1.out H2.out H3.out H4.out HE.out HP.out HBL.out H.out).mono ?_); rintro e_ wn ⟨rfl, h⟩; have z0 := h.p1.rawCell 0; have z1 := h.p1.rawCell 1; have z2 := h.p1.rawCell 2; have z3 := h.p1.rawCell 3; simp at z0 z1 z2 z3; have y0 := h.p2.rawCell 0; have y1 := h.p2.rawCell 1; have y2 := h.p2.rawCell 2; have y3 := h.p2.rawCell 3; have y4 := h.p2.rawCell 4; simp at y0 y1 y2 y3 y4; have x0 := h.p3.rawCell 0; have x1 := h.p3.rawCell 1; have x2 := h.p3.rawCell 2; have x3 := h.p3.rawCell 3; have x4 := h.p3.rawCell 4; simp at x0 x1 x2 x3 x4; replace H := Lib.hid h; clear h)
    | (go_at_call 9; clear z0 z1 z2 z3 y0 y1 y2 y3 y4 x0 x1 x2 x3 x4; (with_reducible refine (beg_check 1 nl d tm p e _ HE.out HDL.out H.out).mono ?_); rintro e_ wn ⟨rfl, h⟩; have z0 := h.p1.rawCell 0; have z1 := h.p1.rawCell 1; have z2 := h.p1.rawCell 2; have z3 := h.p1.rawCell 3; simp at z0 z1 z2 z3; have y0 := h.p2.rawCell 0; have y1 := h.p2.rawCell 1; have y2 := h.p2.rawCell 2; have y3 := h.p2.rawCell 3; have y4 := h.p2.rawCell 4; simp at y0 y1 y2 y3 y4; have x0 := h.p3.rawCell 0; have x1 := h.p3.rawCell 1; have x2 := h.p3.rawCell 2; have x3 := h.p3.rawCell 3; have x4 := h.p3.rawCell 4; simp at x0 x1 x2 x3 x4; replace H := Lib.hid h; clear h)
    | (go_at_call 11; clear z0 z1 z2 z3 y0 y1 y2 y3 y4 x0 x1 x2 x3 x4; (with_reducible refine (so_textW po o4 H.out).mono ?_); rintro e_ wn ⟨rfl, h⟩; have z0 := h.p1.rawCell 0; have z1 := h.p1.rawCell 1; have z2 := h.p1.rawCell 2; have z3 := h.p1.rawCell 3; simp at z0 z1 z2 z3; have y0 := h.p2.rawCell 0; have y1 := h.p2.rawCell 1; have y2 := h.p2.rawCell 2; have y3 := h.p2.rawCell 3; have y4 := h.p2.rawCell 4; simp at y0 y1 y2 y3 y4; have x0 := h.p3.rawCell 0; have x1 := h.p3.rawCell 1; have x2 := h.p3.rawCell 2; have x3 := h.p3.rawCell 3; have x4 := h.p3.rawCell 4; simp at x0 x1 x2 x3 x4; replace H := Lib.hid h; clear h)
    | (go_at_call 12; clear z0 z1 z2 z3 y0 y1 y2 y3 y4 x0 x1 x2 x3 x4; (with_reducible refine (s_new o4 HSL.out H.out).mono ?_); rintro e_ wn ⟨bi, rfl, h⟩; have z0 := h.p2.rawCell 0; have z1 := h.p2.rawCell 1; have z2 := h.p2.rawCell 2; have z3 := h.p2.rawCell 3; simp at z0 z1 z2 z3; have y0 := h.p3.rawCell 0; have y1 := h.p3.rawCell 1; have y2 := h.p3.rawCell 2; have y3 := h.p3.rawCell 3; have y4 := h.p3.rawCell 4; simp at y0 y1 y2 y3 y4; have x0 := h.p4.rawCell 0; have x1 := h.p4.rawCell 1; have x2 := h.p4.rawCell 2; have x3 := h.p4.rawCell 3; have x4 := h.p4.rawCell 4; simp at x0 x1 x2 x3 x4; replace H := Lib.hid h; clear h)
    | (go_at_call 13; clear z0 z1 z2 z3 y0 y1 y2 y3 y4 x0 x1 x2 x3 x4; (with_reducible refine (req_readQ bi _ _ 22 1 n u cd HRD.out HK.out H.out).mono ?_); rintro e_ wn ⟨rfl, h⟩; obtain ⟨xb, hxb⟩ : ∃ b, wn.heap.size = b := ⟨_, rfl⟩; have h := h.allocRaw #[.int .i64 22, .int .i64 1, .int .i64 n, .bool u, .string (bb cd)] 25; rw [hxb] at h; replace h := h.p1; have z0 := h.p3.rawCell 0; have z1 := h.p3.rawCell 1; have z2 := h.p3.rawCell 2; have z3 := h.p3.rawCell 3; simp at z0 z1 z2 z3; have y0 := h.p4.rawCell 0; have y1 := h.p4.rawCell 1; have y2 := h.p4.rawCell 2; have y3 := h.p4.rawCell 3; have y4 := h.p4.rawCell 4; simp at y0 y1 y2 y3 y4; have x0 := h.p5.rawCell 0; have x1 := h.p5.rawCell 1; have x2 := h.p5.rawCell 2; have x3 := h.p5.rawCell 3; have x4 := h.p5.rawCell 4; simp at x0 x1 x2 x3 x4; have t0 := h.p1.rawCell 0; have t1 := h.p1.rawCell 1; have t2 := h.p1.rawCell 2; have t3 := h.p1.rawCell 3; have t4 := h.p1.rawCell 4; simp at t0 t1 t2 t3 t4; replace H := Lib.hid h; clear h)
    | (go_at_call 14; clear z0 z1 z2 z3 y0 y1 y2 y3 y4 x0 x1 x2 x3 x4; clear t0 t1 t2 t3 t4; (with_reducible refine (s_atW bi o4 B.length H.out).mono ?_); rintro e_ wn ⟨rfl, h⟩; have z0 := h.p3.rawCell 0; have z1 := h.p3.rawCell 1; have z2 := h.p3.rawCell 2; have z3 := h.p3.rawCell 3; simp at z0 z1 z2 z3; have y0 := h.p4.rawCell 0; have y1 := h.p4.rawCell 1; have y2 := h.p4.rawCell 2; have y3 := h.p4.rawCell 3; have y4 := h.p4.rawCell 4; simp at y0 y1 y2 y3 y4; have x0 := h.p5.rawCell 0; have x1 := h.p5.rawCell 1; have x2 := h.p5.rawCell 2; have x3 := h.p5.rawCell 3; have x4 := h.p5.rawCell 4; simp at x0 x1 x2 x3 x4; have t0 := h.p1.rawCell 0; have t1 := h.p1.rawCell 1; have t2 := h.p1.rawCell 2; have t3 := h.p1.rawCell 3; have t4 := h.p1.rawCell 4; simp at t0 t1 t2 t3 t4; replace H := Lib.hid h; clear h))
  have hs := H.out.drew
  have HKQ := Lib.hid (show ∀ w' i, St W0 w' K (.inp bi i :: .raw xb #[.int .i64 22, .int .i64 1, .int .i64 n, .bool u, .string (bb cd)] 25 :: .out po ⟨o4, 0⟩ :: .raw eq #[.string (bb id), .int .i64 p2, .int .i64 e2, .bool c] 29 :: .raw bq #[.bool nl, .string (bb d), .int .i64 tm, .int .i64 p, .int .i64 e] 27 :: .raw hb #[.int .i64 22, .int .i64 1, .int .i64 n, .bool u, .string (bb cd)] 25 :: L) → (w'.cell? ⟨eq, 0, none⟩ = some (.string (bb id)) ∧ w'.cell? ⟨eq, 1, none⟩ = some (.int .i64 p2) ∧ w'.cell? ⟨eq, 2, none⟩ = some (.int .i64 e2) ∧ w'.cell? ⟨eq, 3, none⟩ = some (.bool c) ∧ w'.cell? ⟨bq, 0, none⟩ = some (.bool nl) ∧ w'.cell? ⟨bq, 1, none⟩ = some (.string (bb d)) ∧ w'.cell? ⟨bq, 2, none⟩ = some (.int .i64 tm) ∧ w'.cell? ⟨bq, 3, none⟩ = some (.int .i64 p) ∧ w'.cell? ⟨bq, 4, none⟩ = some (.int .i64 e) ∧ w'.cell? ⟨xb, 0, none⟩ = some (.int .i64 22) ∧ w'.cell? ⟨xb, 1, none⟩ = some (.int .i64 1) ∧ w'.cell? ⟨xb, 2, none⟩ = some (.int .i64 n) ∧ w'.cell? ⟨xb, 3, none⟩ = some (.bool u) ∧ w'.cell? ⟨xb, 4, none⟩ = some (.string (bb cd))) from fun w' i hs => ⟨hs.p3.rawCell 0, hs.p3.rawCell 1, hs.p3.rawCell 2, hs.p3.rawCell 3, hs.p4.rawCell 0, hs.p4.rawCell 1, hs.p4.rawCell 2, hs.p4.rawCell 3, hs.p4.rawCell 4, hs.p1.rawCell 0, hs.p1.rawCell 1, hs.p1.rawCell 2, hs.p1.rawCell 3, hs.p1.rawCell 4⟩)
  refine wp_region_held_drew (S := fun w' => w'.cell? ⟨eq, 0, none⟩ = some (.string (bb id)) ∧ w'.cell? ⟨eq, 1, none⟩ = some (.int .i64 p2) ∧ w'.cell? ⟨eq, 2, none⟩ = some (.int .i64 e2) ∧ w'.cell? ⟨eq, 3, none⟩ = some (.bool c) ∧ w'.cell? ⟨bq, 0, none⟩ = some (.bool nl) ∧ w'.cell? ⟨bq, 1, none⟩ = some (.string (bb d)) ∧ w'.cell? ⟨bq, 2, none⟩ = some (.int .i64 tm) ∧ w'.cell? ⟨bq, 3, none⟩ = some (.int .i64 p) ∧ w'.cell? ⟨bq, 4, none⟩ = some (.int .i64 e) ∧ w'.cell? ⟨xb, 0, none⟩ = some (.int .i64 22) ∧ w'.cell? ⟨xb, 1, none⟩ = some (.int .i64 1) ∧ w'.cell? ⟨xb, 2, none⟩ = some (.int .i64 n) ∧ w'.cell? ⟨xb, 3, none⟩ = some (.bool u) ∧ w'.cell? ⟨xb, 4, none⟩ = some (.string (bb cd))) (by kernel_rfl) (HKQ.out _ _ hs) (fun hHeld => ?_)
  refine wpAnyH_take (i := 0) (oi := { dst := some 106, op := Op.move (Operand.tmp 12), type := 44, pos := "top09.go:39", after := #[], guard := none }) (v := ?_) rfl (by kernel_rfl) (by kernel_rfl) (by kernel_rfl) (fun _ _ _ h => h) (Or.inl ⟨by rfl, ?_⟩) (by assumption) ?_
  rotate_left
  · intro w hSw; (try dsimp only at hSw); go_simp; try with_reducible rfl
  simp only [Act.put, List.setIfInBounds_toArray, List.set_cons_zero, List.set_cons_succ]
  refine wpAnyH_take (i := 1) (oi := { dst := some 107, op := Op.fieldAddr 25 (Operand.tmp 13) 1, type := 0, pos := "top09.go:39", after := #[], guard := none }) (v := ?_) rfl (by kernel_rfl) (by kernel_rfl) (by kernel_rfl) (fun _ _ _ h => h) (Or.inl ⟨by rfl, ?_⟩) (by assumption) ?_
  rotate_left
  · intro w hSw; (try dsimp only at hSw); go_simp; try with_reducible rfl
  simp only [Act.put, List.setIfInBounds_toArray, List.set_cons_zero, List.set_cons_succ]
  refine wpAnyH_take (i := 2) (oi := { dst := some 108, op := Op.load 3 (Operand.tmp 107), type := 3, pos := "top09.go:39", after := #[{ on := 1, ground := Ground.data }], guard := none }) (v := ?_) rfl (by kernel_rfl) (by kernel_rfl) (by kernel_rfl) (fun _ _ _ h => h) (Or.inl ⟨by rfl, ?_⟩) (by assumption) ?_
  rotate_left
  · intro w hSw; (try dsimp only at hSw); go_simp; try with_reducible rfl
  simp only [Act.put, List.setIfInBounds_toArray, List.set_cons_zero, List.set_cons_succ]
  refine wpAnyH_take (i := 4) (oi := { dst := some 110, op := Op.load 27 (Operand.tmp 4), type := 27, pos := "top09.go:39", after := #[], guard := none }) (v := ?_) rfl (by kernel_rfl) (by kernel_rfl) (by kernel_rfl) (fun _ _ _ h => h) (Or.inl ⟨by rfl, ?_⟩) (by assumption) ?_
  rotate_left
  · intro w hSw; (try dsimp only at hSw); go_simp; try with_reducible rfl
  simp only [Act.put, List.setIfInBounds_toArray, List.set_cons_zero, List.set_cons_succ]
  refine wpAnyH_ready (rs := [3]) (by kernel_rfl) (by simp) (AllReadyH.cons (o := { dst := some 109, op := Op.call { callee := Callee.value (Operand.func 15), args := #[Operand.tmp 106, Operand.tmp 108], argTypes := #[44, 3] }, type := 27, pos := "top09.go:39", after := #[{ on := 0, ground := Ground.data }, { on := 2, ground := Ground.data }], guard := none }) rfl (fun KK hK => ?_) AllReadyH.nil)
  · go_simp
    go_at_call 15
    with_reducible refine (read_beg1_ok bi _ _ _ _ _ nl d tm p e B1.out B2.out B3.out B4.out (err_endW o4) HE.out HDL.out hs).mono ?_
    rintro e wq ⟨rfl, hs⟩
    refine hK.out _ _ (HKQ.out _ _ hs) (fun hHeld => ?_)
    clear hK KK
    try simp only [Act.put, List.setIfInBounds_toArray, List.set_cons_zero, List.set_cons_succ]
    refine wpAnyH_take (i := 5) (oi := { dst := some 111, op := Op.binOp BinOp.eql 27 (Operand.tmp 109) (Operand.tmp 110) 27, type := 4, pos := "top09.go:39", after := #[{ on := 3, ground := Ground.data }, { on := 4, ground := Ground.data }], guard := none }) (v := ?_) rfl (by kernel_rfl) (by kernel_rfl) (by kernel_rfl) (fun _ _ _ h => h) (Or.inl ⟨by rfl, ?_⟩) (by assumption) ?_
    rotate_left
    · intro w hSw; (try dsimp only at hSw); go_simp; try with_reducible rfl
    simp only [Act.put, List.setIfInBounds_toArray, List.set_cons_zero, List.set_cons_succ]
    refine wpAnyH_take (i := 6) (oi := { dst := some 112, op := Op.move (Operand.tmp 111), type := 4, pos := "top09.go:39", after := #[{ on := 5, ground := Ground.data }, { on := 3, ground := Ground.chain }], guard := none }) (v := ?_) rfl (by kernel_rfl) (by kernel_rfl) (by kernel_rfl) (fun _ _ _ h => h) (Or.inl ⟨by rfl, ?_⟩) (by assumption) ?_
    rotate_left
    · intro w hSw; (try dsimp only at hSw); go_simp; try with_reducible rfl
    simp only [Act.put, List.setIfInBounds_toArray, List.set_cons_zero, List.set_cons_succ]
    refine wpAnyH_take (i := 7) (oi := { dst := some 113, op := Op.move (Operand.tmp 12), type := 44, pos := "top09.go:39", after := #[{ on := 6, ground := Ground.guard }], guard := some (6, true) }) (v := ?_) rfl (by kernel_rfl) (by kernel_rfl) (by kernel_rfl) (fun _ _ _ h => h) (Or.inl ⟨by rfl, ?_⟩) (by assumption) ?_
    rotate_left
    · intro w hSw; (try dsimp only at hSw); go_simp; try with_reducible rfl
    simp only [Act.put, List.setIfInBounds_toArray, List.set_cons_zero, List.set_cons_succ]
    refine wpAnyH_ready (rs := [8]) (by kernel_rfl) (by simp) (AllReadyH.cons (o := { dst := some 114, op := Op.call { callee := Callee.value (Operand.func 16), args := #[Operand.tmp 113], argTypes := #[44] }, type := 30, pos := "top09.go:39", after := #[{ on := 7, ground := Ground.data }, { on := 6, ground := Ground.chain }, { on := 6, ground := Ground.guard }], guard := some (6, true) }) rfl (fun KK hK => ?_) AllReadyH.nil)
    · go_simp
      go_at_call 16
      with_reducible refine (s_closeW bi o4 hs).mono ?_
      rintro e wq ⟨rfl, hs⟩
      refine hK.out _ _ (HKQ.out _ _ hs) (fun hHeld => ?_)
      clear hK KK
      try simp only [Act.put, List.setIfInBounds_toArray, List.set_cons_zero, List.set_cons_succ]
      refine wpAnyH_take (i := 9) (oi := { dst := some 115, op := Op.binOp BinOp.eql 30 (Operand.tmp 114) (Operand.const (Value.int IntKind.i64 0)) 30, type := 4, pos := "top09.go:39", after := #[{ on := 8, ground := Ground.data }, { on := 6, ground := Ground.guard }], guard := some (6, true) }) (v := ?_) rfl (by kernel_rfl) (by kernel_rfl) (by kernel_rfl) (fun _ _ _ h => h) (Or.inl ⟨by rfl, ?_⟩) (by assumption) ?_
      rotate_left
      · intro w hSw; (try dsimp only at hSw); go_simp; try with_reducible rfl
      simp only [Act.put, List.setIfInBounds_toArray, List.set_cons_zero, List.set_cons_succ]
      refine wpAnyH_take (i := 10) (oi := { dst := some 116, op := Op.pick (Operand.tmp 112) (Operand.tmp 115) (Operand.const (Value.bool false)), type := 4, pos := "top09.go:39", after := #[{ on := 6, ground := Ground.data }, { on := 9, ground := Ground.data }], guard := none }) (v := ?_) rfl (by kernel_rfl) (by kernel_rfl) (by kernel_rfl) (fun _ _ _ h => h) (Or.inl ⟨by rfl, ?_⟩) (by assumption) ?_
      rotate_left
      · intro w hSw; (try dsimp only at hSw); go_simp; try with_reducible rfl
      simp only [Act.put, List.setIfInBounds_toArray, List.set_cons_zero, List.set_cons_succ]
      refine wpAnyH_take (i := 11) (oi := { dst := some 6, op := Op.assign (Operand.tmp 116), type := 4, pos := "top09.go:39", after := #[{ on := 10, ground := Ground.data }, { on := 8, ground := Ground.chain }, { on := 0, ground := Ground.phase }, { on := 1, ground := Ground.phase }, { on := 2, ground := Ground.phase }, { on := 3, ground := Ground.phase }, { on := 4, ground := Ground.phase }, { on := 5, ground := Ground.phase }, { on := 6, ground := Ground.phase }, { on := 7, ground := Ground.phase }, { on := 8, ground := Ground.phase }, { on := 9, ground := Ground.phase }, { on := 10, ground := Ground.phase }], guard := none }) (v := ?_) rfl (by kernel_rfl) (by kernel_rfl) (by kernel_rfl) (fun _ _ _ h => h) (Or.inl ⟨by rfl, ?_⟩) (by assumption) ?_
      rotate_left
      · intro w hSw; (try dsimp only at hSw); go_simp; try with_reducible rfl
      simp only [Act.put, List.setIfInBounds_toArray, List.set_cons_zero, List.set_cons_succ]
      refine wpAnyH_done (by kernel_rfl) ?_ _
      go_wp2_with fail
      go_ret
      exact ⟨rfl, hs.below⟩

end Go.Proofs.YthppodbjjfkmfaaDoor

/- WholeTxns: End. -/
namespace Go.Proofs.YthppodbjjfkmfaaDoor
open Go.RowKit

set_option maxHeartbeats 12000000 in
set_option maxRecDepth 100000 in
theorem wt_26 (v : Int) (n : Int) (u : Bool) (cd : Bs) (nl : Bool) (d : Bs) (tm p e : Int) (id : Bs) (p2 e2 : Int) (c : Bool) (hn : -9223372036854775808 ≤ n ∧ n < 9223372036854775808) (hl : cd.length ≤ 1000) (hl2 : d.length ≤ 1000) (hl3 : id.length ≤ 1000) (hq : headErr ⟨26, v, n, ⟨u, cd⟩⟩ = 0) (hR : HeadS.R ⟨26, v, n, ⟨u, cd⟩⟩) (hr2 : chkW id p2 e2 = 0) (hp : p2 < 9223372036854775808) {W0 w : World} {K : Know} {L : List Res} (hk : K.has Know.reqs) (h : St W0 w K L) :
    Calls Tryd.prog 3 #[.agg #[.int .i64 26, .int .i64 v, .int .i64 n, .bool u, .string (bb cd)], .agg #[.bool nl, .string (bb d), .int .i64 tm, .int .i64 p, .int .i64 e], .agg #[.string (bb id), .int .i64 p2, .int .i64 e2, .bool c]] w fun en w' => en = .returned (.bool true) ∧ Below W0.heap.size W0 w' := by
  obtain ⟨hb, hhb⟩ : ∃ b, w.heap.size = b := ⟨_, rfl⟩
  obtain ⟨bq, hbq⟩ : ∃ b, hb + 1 = b := ⟨_, rfl⟩
  obtain ⟨eq, heq⟩ : ∃ b, bq + 1 = b := ⟨_, rfl⟩
  have g1 := ((h.allocRaw #[.int .i64 26, .int .i64 v, .int .i64 n, .bool u, .string (bb cd)] 25).allocRaw #[.bool nl, .string (bb d), .int .i64 tm, .int .i64 p, .int .i64 e] 27).allocRaw #[.string (bb id), .int .i64 p2, .int .i64 e2, .bool c] 29
  simp only [World.size_alloc, hhb, hbq, heq] at g1
  have H := Lib.hid g1
  have HK := Lib.hid hk
  have HN := Lib.hid hn
  have l1 : ¬ 1000 < (cd.length : Int) := by omega
  have l2 : ¬ 1000 < (d.length : Int) := by omega
  have l3 : ¬ 1000 < (id.length : Int) := by omega
  have HL1 := Lib.hid hl
  have HL2 := Lib.hid hl2
  have HL3 := Lib.hid hl3
  have HQ := Lib.hid hq
  have HR := Lib.hid hR
  have HR2 := Lib.hid hr2
  have hlen := head_lenW ⟨26, v, n, ⟨u, cd⟩⟩ hl
  obtain ⟨B, hB⟩ : ∃ B, encHead ⟨26, v, n, ⟨u, cd⟩⟩ = B := ⟨_, rfl⟩
  have hx := (head_put _ hq).1
  rw [hB] at hx hlen
  have HX := Lib.hid hx
  have HBL := Lib.hid (show B.length ≤ 1000000 by omega)
  have HDL := Lib.hid (show d.length ≤ 140737488355328 by omega)
  have HIL := Lib.hid (show id.length ≤ 140737488355328 by omega)
  have hcw := chkW_ok hr2
  have hwt := who_t hcw.2
  have hil := ((keyRight_iff id).1 hcw.1).2
  have HIL3 := Lib.hid hil
  have HP := Lib.hid hp
  obtain ⟨o1, h1⟩ : ∃ y, B ++ encF 2 ⟨false, id⟩ = y := ⟨_, rfl⟩
  obtain ⟨o2, h2⟩ : ∃ y, o1 ++ beBytes p2 (8 : Int).toNat = y := ⟨_, rfl⟩
  obtain ⟨o3, h3⟩ : ∃ y, o2 ++ beBytes e2 (2 : Int).toNat = y := ⟨_, rfl⟩
  obtain ⟨o4, h4⟩ : ∃ y, o3 ++ encO c = y := ⟨_, rfl⟩
  have hS : o4 = B ++ (encF 2 ⟨false, id⟩ ++ (beBytes p2 8 ++ (beBytes e2 2 ++ encO c))) := by rw [← h4, ← h3, ← h2, ← h1]; simp only [List.append_assoc]; rfl
  have hRD := head_backW ⟨26, v, n, ⟨u, cd⟩⟩ hq (encF 2 ⟨false, id⟩ ++ (beBytes p2 8 ++ (beBytes e2 2 ++ encO c)))
  rw [hB, ← hS] at hRD
  have b1 := text_stepW o4 B (beBytes p2 8 ++ (beBytes e2 2 ++ encO c)) id hil (by rw [hS]; simp only [List.append_assoc])
  have b2 := int_stepV o4 (B ++ encF 2 ⟨false, id⟩) (beBytes e2 2 ++ encO c) p2 8 (by decide) (by decide) (vfits8 p2 (by omega)) (by rw [hS]; simp only [List.append_assoc])
  have b3 := int_stepV o4 (B ++ encF 2 ⟨false, id⟩ ++ beBytes p2 8) (encO c) e2 2 (by decide) (by decide) (vfits2 e2 (by omega)) (by rw [hS]; simp only [List.append_assoc])
  have b4 := bool_stepW o4 (B ++ encF 2 ⟨false, id⟩ ++ beBytes p2 8 ++ beBytes e2 2) [] c (by rw [hS]; simp only [List.append_assoc, List.append_nil])
  rw [show B ++ encF 2 ⟨false, id⟩ ++ beBytes p2 8 ++ beBytes e2 2 ++ encO c = o4 by rw [hS]; simp only [List.append_assoc]] at b4
  have H1 := Lib.hid h1
  have H2 := Lib.hid h2
  have H3 := Lib.hid h3
  have H4 := Lib.hid h4
  have B1 := Lib.hid b1
  have B2 := Lib.hid b2
  have B3 := Lib.hid b3
  have B4 := Lib.hid b4
  have HSL := Lib.hid (show o4.length ≤ 140737488355328 by have h9 : o4.length ≤ 100000 := (by rw [hS]; simp only [List.length_append, beBytes_length, encF, encO, List.length_cons, List.length_nil]; omega); omega)
  have HRD := Lib.hid hRD
  have e0 : (u == u) = true := beq_self_eq_true _
  have e1 : (cd == cd) = true := beq_self_eq_true _
  have e2_ : (nl == nl) = true := beq_self_eq_true _
  have e3 : (d == d) = true := beq_self_eq_true _
  have e4 : (id == id) = true := beq_self_eq_true _
  have e5 : (c == c) = true := beq_self_eq_true _
  have e6 : ((B.length : Int) == (B.length : Int)) = true := beq_self_eq_true _
  have e7 : ((B.length : Int) != (B.length : Int)) = false := by simp [bne]
  clear h g1 hk hn hl hl2 hl3 hq hR hr2 hB hx hlen hcw hwt hil hp hS hRD h1 h2 h3 h4 b1 b2 b3 b4
  go_enter Tryd.func3, Tryd.ntmps3
  go_upto_region 22 with (first
    | (go_at_call 4; (with_reducible refine (rc26 HK.out H.out).mono ?_); rintro e_ wn ⟨rfl, h⟩; replace H := Lib.hid h; clear h)
    | (go_at_call 4; (with_reducible refine (rc261 HK.out H.out).mono ?_); rintro e_ wn ⟨rfl, h⟩; have z0 := h.rawCell 0; have z1 := h.rawCell 1; have z2 := h.rawCell 2; have z3 := h.rawCell 3; simp at z0 z1 z2 z3; have y0 := h.p1.rawCell 0; have y1 := h.p1.rawCell 1; have y2 := h.p1.rawCell 2; have y3 := h.p1.rawCell 3; have y4 := h.p1.rawCell 4; simp at y0 y1 y2 y3 y4; have x0 := h.p2.rawCell 0; have x1 := h.p2.rawCell 1; have x2 := h.p2.rawCell 2; have x3 := h.p2.rawCell 3; have x4 := h.p2.rawCell 4; simp at x0 x1 x2 x3 x4; replace H := Lib.hid h; clear h)
    | (go_at_call 4; clear z0 z1 z2 z3 y0 y1 y2 y3 y4 x0 x1 x2 x3 x4; (with_reducible refine (req_check 26 v n u cd 0 HQ.out HN.out HK.out H.out).mono ?_); rintro e_ wn ⟨rfl, h⟩; have z0 := h.rawCell 0; have z1 := h.rawCell 1; have z2 := h.rawCell 2; have z3 := h.rawCell 3; simp at z0 z1 z2 z3; have y0 := h.p1.rawCell 0; have y1 := h.p1.rawCell 1; have y2 := h.p1.rawCell 2; have y3 := h.p1.rawCell 3; have y4 := h.p1.rawCell 4; simp at y0 y1 y2 y3 y4; have x0 := h.p2.rawCell 0; have x1 := h.p2.rawCell 1; have x2 := h.p2.rawCell 2; have x3 := h.p2.rawCell 3; have x4 := h.p2.rawCell 4; simp at x0 x1 x2 x3 x4; obtain ⟨po, hpo⟩ : ∃ b, wn.heap.size = b := ⟨_, rfl⟩; replace h := h.allocOut; rw [hpo] at h; have z0 := h.p1.rawCell 0; have z1 := h.p1.rawCell 1; have z2 := h.p1.rawCell 2; have z3 := h.p1.rawCell 3; simp at z0 z1 z2 z3; have y0 := h.p2.rawCell 0; have y1 := h.p2.rawCell 1; have y2 := h.p2.rawCell 2; have y3 := h.p2.rawCell 3; have y4 := h.p2.rawCell 4; simp at y0 y1 y2 y3 y4; have x0 := h.p3.rawCell 0; have x1 := h.p3.rawCell 1; have x2 := h.p3.rawCell 2; have x3 := h.p3.rawCell 3; have x4 := h.p3.rawCell 4; simp at x0 x1 x2 x3 x4; replace H := Lib.hid h; clear h)
    | (go_at_call 5; clear z0 z1 z2 z3 y0 y1 y2 y3 y4 x0 x1 x2 x3 x4; (with_reducible refine (req_write5 po 26 v n u cd _ HX.out HR.out HK.out H.out).mono ?_); rintro e_ wn ⟨rfl, h⟩; have z0 := h.p1.rawCell 0; have z1 := h.p1.rawCell 1; have z2 := h.p1.rawCell 2; have z3 := h.p1.rawCell 3; simp at z0 z1 z2 z3; have y0 := h.p2.rawCell 0; have y1 := h.p2.rawCell 1; have y2 := h.p2.rawCell 2; have y3 := h.p2.rawCell 3; have y4 := h.p2.rawCell 4; simp at y0 y1 y2 y3 y4; have x0 := h.p3.rawCell 0; have x1 := h.p3.rawCell 1; have x2 := h.p3.rawCell 2; have x3 := h.p3.rawCell 3; have x4 := h.p3.rawCell 4; simp at x0 x1 x2 x3 x4; replace H := Lib.hid h; clear h)
    | (go_at_call 6; clear z0 z1 z2 z3 y0 y1 y2 y3 y4 x0 x1 x2 x3 x4; (with_reducible refine (so_lenW po B H.out).mono ?_); rintro e_ wn ⟨rfl, h⟩; have z0 := h.p1.rawCell 0; have z1 := h.p1.rawCell 1; have z2 := h.p1.rawCell 2; have z3 := h.p1.rawCell 3; simp at z0 z1 z2 z3; have y0 := h.p2.rawCell 0; have y1 := h.p2.rawCell 1; have y2 := h.p2.rawCell 2; have y3 := h.p2.rawCell 3; have y4 := h.p2.rawCell 4; simp at y0 y1 y2 y3 y4; have x0 := h.p3.rawCell 0; have x1 := h.p3.rawCell 1; have x2 := h.p3.rawCell 2; have x3 := h.p3.rawCell 3; have x4 := h.p3.rawCell 4; simp at x0 x1 x2 x3 x4; replace H := Lib.hid h; clear h)
    | (go_at_call 7; clear z0 z1 z2 z3 y0 y1 y2 y3 y4 x0 x1 x2 x3 x4; (with_reducible refine (end_check id p2 e2 c _ HR2.out HIL.out H.out).mono ?_); rintro e_ wn ⟨rfl, h⟩; have z0 := h.p1.rawCell 0; have z1 := h.p1.rawCell 1; have z2 := h.p1.rawCell 2; have z3 := h.p1.rawCell 3; simp at z0 z1 z2 z3; have y0 := h.p2.rawCell 0; have y1 := h.p2.rawCell 1; have y2 := h.p2.rawCell 2; have y3 := h.p2.rawCell 3; have y4 := h.p2.rawCell 4; simp at y0 y1 y2 y3 y4; have x0 := h.p3.rawCell 0; have x1 := h.p3.rawCell 1; have x2 := h.p3.rawCell 2; have x3 := h.p3.rawCell 3; have x4 := h.p3.rawCell 4; simp at x0 x1 x2 x3 x4; replace H := Lib.hid h; clear h)
    | (go_at_call 10; clear z0 z1 z2 z3 y0 y1 y2 y3 y4 x0 x1 x2 x3 x4; (with_reducible refine (end_write_ok po B o1 o2 o3 o4 id p2 e2 c H1.out H2.out H3.out H4.out HR2.out HIL3.out HP.out HBL.out H.out).mono ?_); rintro e_ wn ⟨rfl, h⟩; have z0 := h.p1.rawCell 0; have z1 := h.p1.rawCell 1; have z2 := h.p1.rawCell 2; have z3 := h.p1.rawCell 3; simp at z0 z1 z2 z3; have y0 := h.p2.rawCell 0; have y1 := h.p2.rawCell 1; have y2 := h.p2.rawCell 2; have y3 := h.p2.rawCell 3; have y4 := h.p2.rawCell 4; simp at y0 y1 y2 y3 y4; have x0 := h.p3.rawCell 0; have x1 := h.p3.rawCell 1; have x2 := h.p3.rawCell 2; have x3 := h.p3.rawCell 3; have x4 := h.p3.rawCell 4; simp at x0 x1 x2 x3 x4; replace H := Lib.hid h; clear h)
    | (go_at_call 11; clear z0 z1 z2 z3 y0 y1 y2 y3 y4 x0 x1 x2 x3 x4; (with_reducible refine (so_textW po o4 H.out).mono ?_); rintro e_ wn ⟨rfl, h⟩; have z0 := h.p1.rawCell 0; have z1 := h.p1.rawCell 1; have z2 := h.p1.rawCell 2; have z3 := h.p1.rawCell 3; simp at z0 z1 z2 z3; have y0 := h.p2.rawCell 0; have y1 := h.p2.rawCell 1; have y2 := h.p2.rawCell 2; have y3 := h.p2.rawCell 3; have y4 := h.p2.rawCell 4; simp at y0 y1 y2 y3 y4; have x0 := h.p3.rawCell 0; have x1 := h.p3.rawCell 1; have x2 := h.p3.rawCell 2; have x3 := h.p3.rawCell 3; have x4 := h.p3.rawCell 4; simp at x0 x1 x2 x3 x4; replace H := Lib.hid h; clear h)
    | (go_at_call 12; clear z0 z1 z2 z3 y0 y1 y2 y3 y4 x0 x1 x2 x3 x4; (with_reducible refine (s_new o4 HSL.out H.out).mono ?_); rintro e_ wn ⟨bi, rfl, h⟩; have z0 := h.p2.rawCell 0; have z1 := h.p2.rawCell 1; have z2 := h.p2.rawCell 2; have z3 := h.p2.rawCell 3; simp at z0 z1 z2 z3; have y0 := h.p3.rawCell 0; have y1 := h.p3.rawCell 1; have y2 := h.p3.rawCell 2; have y3 := h.p3.rawCell 3; have y4 := h.p3.rawCell 4; simp at y0 y1 y2 y3 y4; have x0 := h.p4.rawCell 0; have x1 := h.p4.rawCell 1; have x2 := h.p4.rawCell 2; have x3 := h.p4.rawCell 3; have x4 := h.p4.rawCell 4; simp at x0 x1 x2 x3 x4; replace H := Lib.hid h; clear h)
    | (go_at_call 13; clear z0 z1 z2 z3 y0 y1 y2 y3 y4 x0 x1 x2 x3 x4; (with_reducible refine (req_readQ bi _ _ 26 v n u cd HRD.out HK.out H.out).mono ?_); rintro e_ wn ⟨rfl, h⟩; obtain ⟨xb, hxb⟩ : ∃ b, wn.heap.size = b := ⟨_, rfl⟩; have h := h.allocRaw #[.int .i64 26, .int .i64 v, .int .i64 n, .bool u, .string (bb cd)] 25; rw [hxb] at h; replace h := h.p1; have z0 := h.p3.rawCell 0; have z1 := h.p3.rawCell 1; have z2 := h.p3.rawCell 2; have z3 := h.p3.rawCell 3; simp at z0 z1 z2 z3; have y0 := h.p4.rawCell 0; have y1 := h.p4.rawCell 1; have y2 := h.p4.rawCell 2; have y3 := h.p4.rawCell 3; have y4 := h.p4.rawCell 4; simp at y0 y1 y2 y3 y4; have x0 := h.p5.rawCell 0; have x1 := h.p5.rawCell 1; have x2 := h.p5.rawCell 2; have x3 := h.p5.rawCell 3; have x4 := h.p5.rawCell 4; simp at x0 x1 x2 x3 x4; have t0 := h.p1.rawCell 0; have t1 := h.p1.rawCell 1; have t2 := h.p1.rawCell 2; have t3 := h.p1.rawCell 3; have t4 := h.p1.rawCell 4; simp at t0 t1 t2 t3 t4; replace H := Lib.hid h; clear h)
    | (go_at_call 14; clear z0 z1 z2 z3 y0 y1 y2 y3 y4 x0 x1 x2 x3 x4; clear t0 t1 t2 t3 t4; (with_reducible refine (s_atW bi o4 B.length H.out).mono ?_); rintro e_ wn ⟨rfl, h⟩; have z0 := h.p3.rawCell 0; have z1 := h.p3.rawCell 1; have z2 := h.p3.rawCell 2; have z3 := h.p3.rawCell 3; simp at z0 z1 z2 z3; have y0 := h.p4.rawCell 0; have y1 := h.p4.rawCell 1; have y2 := h.p4.rawCell 2; have y3 := h.p4.rawCell 3; have y4 := h.p4.rawCell 4; simp at y0 y1 y2 y3 y4; have x0 := h.p5.rawCell 0; have x1 := h.p5.rawCell 1; have x2 := h.p5.rawCell 2; have x3 := h.p5.rawCell 3; have x4 := h.p5.rawCell 4; simp at x0 x1 x2 x3 x4; have t0 := h.p1.rawCell 0; have t1 := h.p1.rawCell 1; have t2 := h.p1.rawCell 2; have t3 := h.p1.rawCell 3; have t4 := h.p1.rawCell 4; simp at t0 t1 t2 t3 t4; replace H := Lib.hid h; clear h))
  have hs := H.out.drew
  have HKQ := Lib.hid (show ∀ w' i, St W0 w' K (.inp bi i :: .raw xb #[.int .i64 26, .int .i64 v, .int .i64 n, .bool u, .string (bb cd)] 25 :: .out po ⟨o4, 0⟩ :: .raw eq #[.string (bb id), .int .i64 p2, .int .i64 e2, .bool c] 29 :: .raw bq #[.bool nl, .string (bb d), .int .i64 tm, .int .i64 p, .int .i64 e] 27 :: .raw hb #[.int .i64 26, .int .i64 v, .int .i64 n, .bool u, .string (bb cd)] 25 :: L) → (w'.cell? ⟨eq, 0, none⟩ = some (.string (bb id)) ∧ w'.cell? ⟨eq, 1, none⟩ = some (.int .i64 p2) ∧ w'.cell? ⟨eq, 2, none⟩ = some (.int .i64 e2) ∧ w'.cell? ⟨eq, 3, none⟩ = some (.bool c) ∧ w'.cell? ⟨bq, 0, none⟩ = some (.bool nl) ∧ w'.cell? ⟨bq, 1, none⟩ = some (.string (bb d)) ∧ w'.cell? ⟨bq, 2, none⟩ = some (.int .i64 tm) ∧ w'.cell? ⟨bq, 3, none⟩ = some (.int .i64 p) ∧ w'.cell? ⟨bq, 4, none⟩ = some (.int .i64 e) ∧ w'.cell? ⟨xb, 0, none⟩ = some (.int .i64 26) ∧ w'.cell? ⟨xb, 1, none⟩ = some (.int .i64 v) ∧ w'.cell? ⟨xb, 2, none⟩ = some (.int .i64 n) ∧ w'.cell? ⟨xb, 3, none⟩ = some (.bool u) ∧ w'.cell? ⟨xb, 4, none⟩ = some (.string (bb cd))) from fun w' i hs => ⟨hs.p3.rawCell 0, hs.p3.rawCell 1, hs.p3.rawCell 2, hs.p3.rawCell 3, hs.p4.rawCell 0, hs.p4.rawCell 1, hs.p4.rawCell 2, hs.p4.rawCell 3, hs.p4.rawCell 4, hs.p1.rawCell 0, hs.p1.rawCell 1, hs.p1.rawCell 2, hs.p1.rawCell 3, hs.p1.rawCell 4⟩)
  refine wp_region_held_drew (S := fun w' => w'.cell? ⟨eq, 0, none⟩ = some (.string (bb id)) ∧ w'.cell? ⟨eq, 1, none⟩ = some (.int .i64 p2) ∧ w'.cell? ⟨eq, 2, none⟩ = some (.int .i64 e2) ∧ w'.cell? ⟨eq, 3, none⟩ = some (.bool c) ∧ w'.cell? ⟨bq, 0, none⟩ = some (.bool nl) ∧ w'.cell? ⟨bq, 1, none⟩ = some (.string (bb d)) ∧ w'.cell? ⟨bq, 2, none⟩ = some (.int .i64 tm) ∧ w'.cell? ⟨bq, 3, none⟩ = some (.int .i64 p) ∧ w'.cell? ⟨bq, 4, none⟩ = some (.int .i64 e) ∧ w'.cell? ⟨xb, 0, none⟩ = some (.int .i64 26) ∧ w'.cell? ⟨xb, 1, none⟩ = some (.int .i64 v) ∧ w'.cell? ⟨xb, 2, none⟩ = some (.int .i64 n) ∧ w'.cell? ⟨xb, 3, none⟩ = some (.bool u) ∧ w'.cell? ⟨xb, 4, none⟩ = some (.string (bb cd))) (by kernel_rfl) (HKQ.out _ _ hs) (fun hHeld => ?_)
  refine wpAnyH_take (i := 0) (oi := { dst := some 117, op := Op.move (Operand.tmp 12), type := 44, pos := "top09.go:41", after := #[], guard := none }) (v := ?_) rfl (by kernel_rfl) (by kernel_rfl) (by kernel_rfl) (fun _ _ _ h => h) (Or.inl ⟨by rfl, ?_⟩) (by assumption) ?_
  rotate_left
  · intro w hSw; (try dsimp only at hSw); go_simp; try with_reducible rfl
  simp only [Act.put, List.setIfInBounds_toArray, List.set_cons_zero, List.set_cons_succ]
  refine wpAnyH_take (i := 2) (oi := { dst := some 119, op := Op.load 29 (Operand.tmp 5), type := 29, pos := "top09.go:41", after := #[], guard := none }) (v := ?_) rfl (by kernel_rfl) (by kernel_rfl) (by kernel_rfl) (fun _ _ _ h => h) (Or.inl ⟨by rfl, ?_⟩) (by assumption) ?_
  rotate_left
  · intro w hSw; (try dsimp only at hSw); go_simp; try with_reducible rfl
  simp only [Act.put, List.setIfInBounds_toArray, List.set_cons_zero, List.set_cons_succ]
  refine wpAnyH_ready (rs := [1]) (by kernel_rfl) (by simp) (AllReadyH.cons (o := { dst := some 118, op := Op.call { callee := Callee.value (Operand.func 17), args := #[Operand.tmp 117], argTypes := #[44] }, type := 29, pos := "top09.go:41", after := #[{ on := 0, ground := Ground.data }], guard := none }) rfl (fun KK hK => ?_) AllReadyH.nil)
  · go_simp
    go_at_call 17
    with_reducible refine (read_end_ok bi _ _ _ _ _ id p2 e2 c B1.out B2.out B3.out B4.out (err_endW o4) HR2.out HIL.out hs).mono ?_
    rintro e wq ⟨rfl, hs⟩
    refine hK.out _ _ (HKQ.out _ _ hs) (fun hHeld => ?_)
    clear hK KK
    try simp only [Act.put, List.setIfInBounds_toArray, List.set_cons_zero, List.set_cons_succ]
    refine wpAnyH_take (i := 3) (oi := { dst := some 120, op := Op.binOp BinOp.eql 29 (Operand.tmp 118) (Operand.tmp 119) 29, type := 4, pos := "top09.go:41", after := #[{ on := 1, ground := Ground.data }, { on := 2, ground := Ground.data }], guard := none }) (v := ?_) rfl (by kernel_rfl) (by kernel_rfl) (by kernel_rfl) (fun _ _ _ h => h) (Or.inl ⟨by rfl, ?_⟩) (by assumption) ?_
    rotate_left
    · intro w hSw; (try dsimp only at hSw); go_simp; try with_reducible rfl
    simp only [Act.put, List.setIfInBounds_toArray, List.set_cons_zero, List.set_cons_succ]
    refine wpAnyH_take (i := 4) (oi := { dst := some 121, op := Op.move (Operand.tmp 120), type := 4, pos := "top09.go:41", after := #[{ on := 3, ground := Ground.data }, { on := 1, ground := Ground.chain }], guard := none }) (v := ?_) rfl (by kernel_rfl) (by kernel_rfl) (by kernel_rfl) (fun _ _ _ h => h) (Or.inl ⟨by rfl, ?_⟩) (by assumption) ?_
    rotate_left
    · intro w hSw; (try dsimp only at hSw); go_simp; try with_reducible rfl
    simp only [Act.put, List.setIfInBounds_toArray, List.set_cons_zero, List.set_cons_succ]
    refine wpAnyH_take (i := 5) (oi := { dst := some 122, op := Op.move (Operand.tmp 12), type := 44, pos := "top09.go:41", after := #[{ on := 4, ground := Ground.guard }], guard := some (4, true) }) (v := ?_) rfl (by kernel_rfl) (by kernel_rfl) (by kernel_rfl) (fun _ _ _ h => h) (Or.inl ⟨by rfl, ?_⟩) (by assumption) ?_
    rotate_left
    · intro w hSw; (try dsimp only at hSw); go_simp; try with_reducible rfl
    simp only [Act.put, List.setIfInBounds_toArray, List.set_cons_zero, List.set_cons_succ]
    refine wpAnyH_ready (rs := [6]) (by kernel_rfl) (by simp) (AllReadyH.cons (o := { dst := some 123, op := Op.call { callee := Callee.value (Operand.func 16), args := #[Operand.tmp 122], argTypes := #[44] }, type := 30, pos := "top09.go:41", after := #[{ on := 5, ground := Ground.data }, { on := 4, ground := Ground.chain }, { on := 4, ground := Ground.guard }], guard := some (4, true) }) rfl (fun KK hK => ?_) AllReadyH.nil)
    · go_simp
      go_at_call 16
      with_reducible refine (s_closeW bi o4 hs).mono ?_
      rintro e wq ⟨rfl, hs⟩
      refine hK.out _ _ (HKQ.out _ _ hs) (fun hHeld => ?_)
      clear hK KK
      try simp only [Act.put, List.setIfInBounds_toArray, List.set_cons_zero, List.set_cons_succ]
      refine wpAnyH_take (i := 7) (oi := { dst := some 124, op := Op.binOp BinOp.eql 30 (Operand.tmp 123) (Operand.const (Value.int IntKind.i64 0)) 30, type := 4, pos := "top09.go:41", after := #[{ on := 6, ground := Ground.data }, { on := 4, ground := Ground.guard }], guard := some (4, true) }) (v := ?_) rfl (by kernel_rfl) (by kernel_rfl) (by kernel_rfl) (fun _ _ _ h => h) (Or.inl ⟨by rfl, ?_⟩) (by assumption) ?_
      rotate_left
      · intro w hSw; (try dsimp only at hSw); go_simp; try with_reducible rfl
      simp only [Act.put, List.setIfInBounds_toArray, List.set_cons_zero, List.set_cons_succ]
      refine wpAnyH_take (i := 8) (oi := { dst := some 125, op := Op.pick (Operand.tmp 121) (Operand.tmp 124) (Operand.const (Value.bool false)), type := 4, pos := "top09.go:41", after := #[{ on := 4, ground := Ground.data }, { on := 7, ground := Ground.data }], guard := none }) (v := ?_) rfl (by kernel_rfl) (by kernel_rfl) (by kernel_rfl) (fun _ _ _ h => h) (Or.inl ⟨by rfl, ?_⟩) (by assumption) ?_
      rotate_left
      · intro w hSw; (try dsimp only at hSw); go_simp; try with_reducible rfl
      simp only [Act.put, List.setIfInBounds_toArray, List.set_cons_zero, List.set_cons_succ]
      refine wpAnyH_take (i := 9) (oi := { dst := some 6, op := Op.assign (Operand.tmp 125), type := 4, pos := "top09.go:41", after := #[{ on := 8, ground := Ground.data }, { on := 6, ground := Ground.chain }, { on := 0, ground := Ground.phase }, { on := 1, ground := Ground.phase }, { on := 2, ground := Ground.phase }, { on := 3, ground := Ground.phase }, { on := 4, ground := Ground.phase }, { on := 5, ground := Ground.phase }, { on := 6, ground := Ground.phase }, { on := 7, ground := Ground.phase }, { on := 8, ground := Ground.phase }], guard := none }) (v := ?_) rfl (by kernel_rfl) (by kernel_rfl) (by kernel_rfl) (fun _ _ _ h => h) (Or.inl ⟨by rfl, ?_⟩) (by assumption) ?_
      rotate_left
      · intro w hSw; (try dsimp only at hSw); go_simp; try with_reducible rfl
      simp only [Act.put, List.setIfInBounds_toArray, List.set_cons_zero, List.set_cons_succ]
      refine wpAnyH_done (by kernel_rfl) ?_ _
      go_wp2_with fail
      go_ret
      exact ⟨rfl, hs.below⟩

end Go.Proofs.YthppodbjjfkmfaaDoor

/- WholeTxns, any. -/
namespace Go.Proofs.YthppodbjjfkmfaaDoor
open Go.RowKit

theorem wholeTxns_any (k v n : Int) (u : Bool) (cd : Bs) (nl : Bool) (d : Bs) (tm p e : Int) (id : Bs) (p2 e2 : Int) (c : Bool) (hR : HeadS.R ⟨k, v, n, ⟨u, cd⟩⟩) (hp : (-9223372036854775808 ≤ p ∧ p < 9223372036854775808)) (hp2 : (-9223372036854775808 ≤ p2 ∧ p2 < 9223372036854775808)) {W0 w : World} {K : Know} {L : List Res} (hk : K.has Know.reqs) (h : St W0 w K L) :
    Calls Tryd.prog 3 #[.agg #[.int .i64 k, .int .i64 v, .int .i64 n, .bool u, .string (bb cd)], .agg #[.bool nl, .string (bb d), .int .i64 tm, .int .i64 p, .int .i64 e], .agg #[.string (bb id), .int .i64 p2, .int .i64 e2, .bool c]] w fun en w' => en = .returned (.bool true) ∧ Below W0.heap.size W0 w' := by
  have hn := hR.2.2
  by_cases hl : cd.length ≤ 1000
  rotate_left
  · exact wt_1 k v n u cd nl d tm p e id p2 e2 c hn (by omega) hk h
  by_cases hl2 : d.length ≤ 1000
  rotate_left
  · exact wt_2 k v n u cd nl d tm p e id p2 e2 c hn hl (by omega) hk h
  by_cases hl3 : id.length ≤ 1000
  rotate_left
  · exact wt_3 k v n u cd nl d tm p e id p2 e2 c hn hl hl2 (by omega) hk h
  by_cases hq : headErr ⟨k, v, n, ⟨u, cd⟩⟩ = 0
  rotate_left
  · exact wt_4 k v n u cd nl d tm p e id p2 e2 c hn hl hl2 hl3 _ rfl hq hk h
  by_cases h22 : k = 22
  · subst h22
    by_cases hE : begE v nl d tm p e = 0
    · rcases ver22 (head_put _ hq).2.1 with rfl | rfl
      · obtain ⟨rfl, rfl⟩ := was_0W (begE_ok hE).2.2
        exact wt_220 n u cd nl d tm id p2 e2 c hn hl hl2 hl3 hq hR _ rfl hE hk h
      · exact wt_221 n u cd nl d tm p e id p2 e2 c hn hl hl2 hl3 hq hR _ rfl hE hp.2 hk h
    · exact wt_22b v n u cd nl d tm p e id p2 e2 c hn hl hl2 hl3 hq hR _ rfl _ rfl hE hk h
  by_cases h26 : k = 26
  · subst h26
    by_cases hE : chkW id p2 e2 = 0
    · exact wt_26 v n u cd nl d tm p e id p2 e2 c hn hl hl2 hl3 hq hR hE hp2.2 hk h
    · exact wt_26b v n u cd nl d tm p e id p2 e2 c hn hl hl2 hl3 hq hR _ rfl hE hk h
  · exact wt_5 k v n u cd nl d tm p e id p2 e2 c hn hl hl2 hl3 hq h22 h26 hk h

end Go.Proofs.YthppodbjjfkmfaaDoor

/- Lists of cells. -/
namespace Go.Proofs.YthppodbjjfkmfaaDoor
open Go.RowKit

theorem cells_u8 : Tryd.prog.cellsOf 5 = 1 := by kernel_rfl
theorem cells_int : Tryd.prog.cellsOf 3 = 1 := by kernel_rfl
theorem cells_str : Tryd.prog.cellsOf 9 = 1 := by kernel_rfl
theorem len2 {α : Type} {l : List α} (h : l.length = 2) : ∃ a b, l = [a, b] := by
  match l, h with
  | [a, b], _ => exact ⟨a, b, rfl⟩
theorem len3 {α : Type} {l : List α} (h : l.length = 3) : ∃ a b c, l = [a, b, c] := by
  match l, h with
  | [a, b, c], _ => exact ⟨a, b, c, rfl⟩
theorem len4 {α : Type} {l : List α} (h : l.length = 4) : ∃ a b c d, l = [a, b, c, d] := by
  match l, h with
  | [a, b, c, d], _ => exact ⟨a, b, c, d, rfl⟩

end Go.Proofs.YthppodbjjfkmfaaDoor

/- What arguments are made of, with the reach of each part. -/
namespace Go.Proofs.YthppodbjjfkmfaaDoor
open Go.RowKit
open Go.ChangeShapes Go.WideShapes Go.ChangeAt Go.Deep

/-- No part is beyond all reach. -/
def Light {H : Type} (t : TypeId) (d : DataW H) : Prop := ∀ k ∈ d.weights Tryd.prog t, k ≤ reachBytes
theorem reach_eq : reachBytes = 140737488351232 := rfl

section
variable {H : Type} {enc : TypeId × Value → H} {w : World} {spare : Nat → Bool} {held : Bool}

theorem light_arg {ts : List TypeId} {ds : List (DataW H)} (h : (DataW.weightsEach Tryd.prog ts ds).all (· ≤ reachBytes) = true) {j : Nat} {t : TypeId} {d : DataW H} (ht : ts[j]? = some t) (hd : ds[j]? = some d) : Light t d := by
  intro k hk
  have := List.all_eq_true.1 h k (DataW.weights_mem_each ht hd k hk)
  simpa using this

theorem opens_field {t : TypeId} {fs : Array Field} {n N : Nat} {cs : List Value} {y : DataW H × List MemPlace} (ht : Tryd.prog.underlying t = some (.struct fs)) (h : DataW.trod enc Tryd.prog w 0 spare held n t cs = some y) (hl : Light t y.1) (hN : ∀ x ∈ y.2, x.block < N) :
    cs.length = Tryd.prog.cellsOf t ∧ ∃ m, ∀ (i : Nat) (f : Field), fs[i]? = some f → ∃ z, DataW.trod enc Tryd.prog w 0 spare held m f.type ((cs.drop f.offset).take (Tryd.prog.cellsOf f.type)) = some z ∧ Light f.type z.1 ∧ ∀ x ∈ z.2, x.block < N := by
  obtain ⟨xs, m, _, rfl, hc, hxl, hg⟩ := DataW.trod_struct ht h
  refine ⟨hc, m, fun i f hf => ?_⟩
  have hi : i < fs.size := (Array.getElem?_eq_some_iff.1 hf).1
  have hx : xs[i]? = some (xs[i]'(by omega)) := List.getElem?_eq_getElem (by omega)
  refine ⟨_, (hg i f hf).trans hx, ?_, fun x hxx => hN x (List.mem_flatMap.2 ⟨_, List.getElem_mem _, hxx⟩)⟩
  intro k hk
  refine hl k ?_
  simp only [DataW.weights, ht]
  exact DataW.weights_mem_each (j := i) (by rw [List.getElem?_map, Array.getElem?_toList, hf]; rfl) (by rw [List.getElem?_map, hx]; rfl) k hk

theorem opens_str {t : TypeId} {n : Nat} {cs : List Value} {y : DataW H × List MemPlace} (ht : Tryd.prog.underlying t = some .string) (h : DataW.trod enc Tryd.prog w 0 spare held n t cs = some y) (hl : Light t y.1) : ∃ s : Bs, cs = [.string (bb s)] ∧ s.length ≤ 140737488351232 := by
  obtain ⟨s, e, e2, q⟩ := DataW.trod_string ht h
  refine ⟨s.data.toList, e, ?_⟩
  subst e2
  have := hl s.data.toList.length (by simp [DataW.weights])
  rw [reach_eq] at this
  exact this
theorem opens_i64 {t : TypeId} {n : Nat} {cs : List Value} {y : DataW H × List MemPlace} (ht : Tryd.prog.underlying t = some (.int .i64)) (h : DataW.trod enc Tryd.prog w 0 spare held n t cs = some y) : ∃ x : Int, cs = [.int .i64 x] ∧ -9223372036854775808 ≤ x ∧ x < 9223372036854775808 := by
  obtain ⟨x, e, _, q⟩ := DataW.trod_int ht h
  exact ⟨x, e, wf_i64 q⟩
theorem opens_bool {t : TypeId} {n : Nat} {cs : List Value} {y : DataW H × List MemPlace} (ht : Tryd.prog.underlying t = some .bool) (h : DataW.trod enc Tryd.prog w 0 spare held n t cs = some y) : ∃ x : Bool, cs = [.bool x] := by
  obtain ⟨x, e, _⟩ := DataW.trod_bool ht h
  exact ⟨x, e⟩

theorem weightsAll_mem' {P : Program} {e : TypeId} : ∀ {l : List (DataW H)} {d : DataW H}, d ∈ l → ∀ k ∈ d.weights P e, k ∈ DataW.weightsAll P e l
  | a :: l, d, hd, k, hk => by
    simp only [DataW.weightsAll, List.mem_append]
    rcases List.mem_cons.1 hd with rfl | hd
    · exact .inl hk
    · exact .inr (weightsAll_mem' hd k hk)

theorem opens_rows {α : Type} {R : World → List Value → α → Prop} {t e : TypeId} {sz N : Nat} (ht : Tryd.prog.underlying t = some (.slice e)) (hC : Tryd.prog.cellsOf e = sz) (hsz : 0 < sz)
    (hR : ∀ n cs y, DataW.trod enc Tryd.prog w 0 spare held n e cs = some y → Light e y.1 → (∀ x ∈ y.2, x.block < N) → ∃ x, R w cs x)
    {fuel : Nat} {cs : List Value} {x : DataW H × List MemPlace} (h : DataW.trod enc Tryd.prog w 0 spare held fuel t cs = some x) (hl : Light t x.1) (hlt : ∀ y ∈ x.2, y.block < N) (hN : N ≤ w.heap.size) :
    ∃ v l, cs = [v] ∧ RowsOf R (· < N) w v sz l ∧ l.length * Tryd.prog.bytesOf e ≤ 140737488351232 ∧ l.length ≤ maxLen := by
  rcases open_slice ht h with ⟨rfl, rfl⟩ | ⟨a, len, cap, m, n, D, Pl, rfl, hb, hlc, hm, hmm, hx, hi⟩
  · exact ⟨_, [], rfl, ⟨none, 0, rfl, fun h => absurd h (by simp)⟩, by simp, by simp⟩
  · have hlm : len ≤ m := by rw [hmm]; split <;> omega
    have hp2 : x.2 = MemPlace.row a (m * Tryd.prog.cellsOf e) ++ (List.range m).flatMap Pl := by rw [hx]
    have hx1 : x.1 = .slice ((List.range len).map D) ((List.range (m - len)).map fun j => D (len + j)) := by rw [hx]
    have hsum : len * Tryd.prog.bytesOf e ≤ 140737488351232 := by
      have := hl (((List.range len).map D).length * Tryd.prog.bytesOf e + ((List.range (m - len)).map fun j => D (len + j)).length * Tryd.prog.bytesOf e) (by rw [hx1]; simp [DataW.weights, ht, Nat.add_mul])
      rw [reach_eq] at this
      simp only [List.length_map, List.length_range] at this
      omega
    have hle : ∀ i, i < len → Light e (D i) := by
      intro i hil k hk
      refine hl k ?_
      rw [hx1]
      simp only [DataW.weights, ht, List.mem_cons, List.mem_append]
      exact .inr (.inl (weightsAll_mem' (List.mem_map.2 ⟨i, List.mem_range.2 hil, rfl⟩) k hk))
    have key : ∀ i, i < len → ∃ y : α, ∃ cs', cs'.length = sz ∧ R w cs' y ∧ (∀ f u, cs'[f]? = some u → w.cell? ((a.add (i * sz)).add f) = some u) := by
      intro i hil
      obtain ⟨cs', hc, htr⟩ := hi i (by omega)
      obtain ⟨_, hcl, hat⟩ := World.cells?_some hc
      obtain ⟨y, hy⟩ := hR n cs' _ htr (hle i hil) (fun z hz => hlt z (by rw [hp2, List.mem_append]; exact .inr (List.mem_flatMap.2 ⟨i, by simp; omega, hz⟩)))
      rw [hC] at hcl hat
      refine ⟨y, cs', hcl, hy, fun f u hu => ?_⟩
      have hf : f < sz := by rw [← hcl]; exact (List.getElem?_eq_some_iff.1 hu).1
      rw [hat f hf, hu]
    obtain ⟨l, hll, hq⟩ := list_of len _ key
    refine ⟨_, l, rfl, ⟨some a, cap, by rw [hll], fun h0 => ?_⟩, by rw [hll]; exact hsum, by omega⟩
    obtain ⟨cs0, h1, h2, h3⟩ := hq 0 h0
    have hc0 : w.cell? a = some (cs0[0]'(by omega)) := by
      have := h3 0 _ (List.getElem?_eq_getElem (by omega))
      simpa [Addr.add] using this
    have hsp : a.spot = none := by
      cases hs : a.spot with
      | none => rfl
      | some s =>
        unfold World.cell? at hc0
        split at hc0 <;> simp_all
    obtain ⟨ab, ao, asp⟩ := a
    simp only at hsp
    subst hsp
    have hlt0 : ab < N := hlt (.cell ab ao) (by
      rw [hp2, List.mem_append]
      left
      simp only [MemPlace.row, List.mem_map, List.mem_range]
      exact ⟨0, by rw [hC]; exact Nat.mul_pos (by omega) hsz, by simp⟩)
    refine ⟨ab, ao, rfl, hlt0, Nat.lt_of_lt_of_le hlt0 hN, fun i hi => ?_⟩
    obtain ⟨cs', g1, g2, g3⟩ := hq i hi
    refine ⟨cs', g1, g2, fun f u hu => ?_⟩
    have := g3 f u hu
    have e1 : ∀ (o q : Nat), (⟨ab, o, none⟩ : Addr).add q = ⟨ab, o + q, none⟩ := by intro o q; unfold Addr.add; split <;> simp_all
    rw [e1, e1, Nat.add_assoc] at this
    exact this
end

/-- Of a row's things, what is said of each, apart. -/
theorem RowsOf.part {α : Type} {R : World → List Value → α → Prop} {Q : α → Prop} {D : Nat → Prop} {w : World} {v : Value} {sz : Nat} {l : List α} (h : RowsOf (fun w cs x => R w cs x ∧ Q x) D w v sz l) : RowsOf R D w v sz l ∧ ∀ x ∈ l, Q x := by
  refine ⟨h.mono (fun _ _ h => h) (fun _ _ h => h.1), fun x hx => ?_⟩
  obtain ⟨i, hi, rfl⟩ := List.mem_iff_getElem.1 hx
  obtain ⟨p, cap, rfl, h⟩ := h
  obtain ⟨b, off, rfl, _, _, hc⟩ := h (by omega)
  obtain ⟨cs, _, h2, _⟩ := hc i hi
  exact h2.2

end Go.Proofs.YthppodbjjfkmfaaDoor

/- The elements of arguments, opened: headers. -/
namespace Go.Proofs.YthppodbjjfkmfaaDoor
open Go.RowKit

open Go.ChangeShapes Go.WideShapes Go.ChangeAt Go.Deep

theorem cells_blob : Tryd.prog.cellsOf 23 = 2 := by kernel_rfl
theorem cells_bool : Tryd.prog.cellsOf 4 = 1 := by kernel_rfl
section
variable {H : Type} {enc : TypeId × Value → H} {w : World} {spare : Nat → Bool} {held : Bool}
set_option maxRecDepth 100000 in
theorem blob_open : ∀ n a b y, DataW.trod enc Tryd.prog w 0 spare held n 23 [a, b] = some y → ∃ (nl : Bool) (d : ByteArray), a = .bool nl ∧ b = .string d ∧ d.size ≤ maxLen := by
  intro n a b y h
  obtain ⟨xs, n', _, hx, hl, hxl, hg⟩ := DataW.trod_struct Tryd.underlying23 h
  have g0 : DataW.trod enc Tryd.prog w 0 spare held n' 4 (List.take (Tryd.prog.cellsOf 4) (List.drop 0 [a, b])) = xs[0]? := hg 0 _ rfl
  have g1 : DataW.trod enc Tryd.prog w 0 spare held n' 9 (List.take (Tryd.prog.cellsOf 9) (List.drop 1 [a, b])) = xs[1]? := hg 1 _ rfl
  rw [cells_bool] at g0
  rw [cells_str] at g1
  obtain ⟨y0, y1, rfl⟩ := len2 hxl
  obtain ⟨x0, e0, _⟩ := DataW.trod_bool Tryd.underlying4 g0
  obtain ⟨x1, e1, _, q1⟩ := DataW.trod_string Tryd.underlying9 g1
  simp at e0 e1
  exact ⟨x0, x1, e0, e1, q1⟩
end
end Go.Proofs.YthppodbjjfkmfaaDoor

/- The elements of arguments, opened, with their reach: headers. -/
namespace Go.Proofs.YthppodbjjfkmfaaDoor
open Go.RowKit
open Go.ChangeShapes Go.WideShapes Go.ChangeAt Go.Deep

section
variable {H : Type} {enc : TypeId × Value → H} {w : World} {spare : Nat → Bool} {held : Bool}
set_option maxRecDepth 100000 in
theorem blob_opens {N : Nat} : ∀ n cs y, DataW.trod enc Tryd.prog w 0 spare held n 23 cs = some y → Light 23 y.1 → (∀ x ∈ y.2, x.block < N) → ∃ x : BlobS, cs = [.bool x.null, .string (bb x.data)] ∧ x.data.length ≤ 140737488351232 := by
  intro n cs y h hl hN
  obtain ⟨hc, m, hf⟩ := opens_field Tryd.underlying23 h hl hN
  rw [cells_blob] at hc
  obtain ⟨a, b, rfl⟩ := len2 hc
  obtain ⟨z0, g0, l0, _⟩ := hf 0 _ rfl
  obtain ⟨z1, g1, l1, _⟩ := hf 1 _ rfl
  have g0 : DataW.trod enc Tryd.prog w 0 spare held m 4 (List.take (Tryd.prog.cellsOf 4) (List.drop 0 [a, b])) = some z0 := g0
  have g1 : DataW.trod enc Tryd.prog w 0 spare held m 9 (List.take (Tryd.prog.cellsOf 9) (List.drop 1 [a, b])) = some z1 := g1
  rw [cells_bool] at g0
  rw [cells_str] at g1
  obtain ⟨x, e0⟩ := opens_bool Tryd.underlying4 g0
  obtain ⟨s, e1, hs⟩ := opens_str Tryd.underlying9 g1 l1
  simp at e0 e1
  subst e0 e1
  exact ⟨⟨x, s⟩, rfl, hs⟩
end
end Go.Proofs.YthppodbjjfkmfaaDoor

/- Layer 17, walked: RequestWrites. -/
namespace Go.Proofs.YthppodbjjfkmfaaDoor
open Go.RowKit

end Go.Proofs.YthppodbjjfkmfaaDoor

/- A head of a request, opened, with its reach. -/
namespace Go.Proofs.YthppodbjjfkmfaaDoor
open Go.Joins Go.RowKit
open Go.ChangeShapes Go.WideShapes Go.ChangeAt Go.Deep

theorem cells_head : Tryd.prog.cellsOf 25 = 5 := by kernel_rfl
section
variable {H : Type} {enc : TypeId × Value → H} {w : World} {spare : Nat → Bool} {held : Bool}
set_option maxHeartbeats 1000000 in
set_option maxRecDepth 100000 in
theorem head_open {r : Reach} {b0 N : Nat} {v : Value} {d : DataW H} {p : List MemPlace} (hv : Value.okWide Tryd.prog w r b0 25 v) (h : DataW.Trod enc Tryd.prog w 0 spare held 25 v d p) (hl : Light 25 d) (hN : ∀ x ∈ p, x.block < N) :
    ∃ (x : HeadS), v = .agg #[.int .i64 x.kind, .int .i64 x.ver, .int .i64 x.num, .bool x.cli.null, .string (bb x.cli.data)] ∧ x.R := by
  obtain ⟨cs, rfl, hsz⟩ := okWide_struct Tryd.underlying25 hv
  obtain ⟨l⟩ := cs
  match l, hsz.trans cells_head with
  | [c0, c1, c2, c3, c4], _ =>
    obtain ⟨fuel, hf⟩ := h
    obtain ⟨hc, m, hg⟩ := opens_field Tryd.underlying25 hf hl hN
    obtain ⟨z0, g0, l0, n0⟩ := hg 0 _ rfl
    have g0 : DataW.trod enc Tryd.prog w 0 spare held m 3 (List.take (Tryd.prog.cellsOf 3) (List.drop 0 [c0, c1, c2, c3, c4])) = some z0 := g0
    rw [cells_int] at g0
    obtain ⟨z1, g1, l1, n1⟩ := hg 1 _ rfl
    have g1 : DataW.trod enc Tryd.prog w 0 spare held m 3 (List.take (Tryd.prog.cellsOf 3) (List.drop 1 [c0, c1, c2, c3, c4])) = some z1 := g1
    rw [cells_int] at g1
    obtain ⟨z2, g2, l2, n2⟩ := hg 2 _ rfl
    have g2 : DataW.trod enc Tryd.prog w 0 spare held m 3 (List.take (Tryd.prog.cellsOf 3) (List.drop 2 [c0, c1, c2, c3, c4])) = some z2 := g2
    rw [cells_int] at g2
    obtain ⟨z3, g3, l3, n3⟩ := hg 3 _ rfl
    have g3 : DataW.trod enc Tryd.prog w 0 spare held m 23 (List.take (Tryd.prog.cellsOf 23) (List.drop 3 [c0, c1, c2, c3, c4])) = some z3 := g3
    rw [cells_blob] at g3
    obtain ⟨x0, e0, r0⟩ := opens_i64 Tryd.underlying3 g0
    obtain ⟨x1, e1, r1⟩ := opens_i64 Tryd.underlying3 g1
    obtain ⟨x2, e2, r2⟩ := opens_i64 Tryd.underlying3 g2
    obtain ⟨x3, e3, s3⟩ := blob_opens _ _ _ g3 l3 n3
    simp at e0 e1 e2 e3
    obtain ⟨e3a, e3b⟩ := e3
    subst e0 e1 e2 e3a e3b
    exact ⟨⟨x0, x1, x2, x3⟩, rfl, ⟨r0, r1, r2⟩⟩
end
end Go.Proofs.YthppodbjjfkmfaaDoor

/- Begin and End, opened. -/
namespace Go.Proofs.YthppodbjjfkmfaaDoor
open Go.RowKit

open Go.Joins
open Go.ChangeShapes Go.WideShapes Go.ChangeAt Go.Deep

theorem cells_strW : Tryd.prog.cellsOf 9 = 1 := by kernel_rfl
theorem cells_boolW : Tryd.prog.cellsOf 4 = 1 := by kernel_rfl
theorem cells_intW : Tryd.prog.cellsOf 3 = 1 := by kernel_rfl
theorem cells_blobW : Tryd.prog.cellsOf 23 = 2 := by kernel_rfl
theorem cells_begin : Tryd.prog.cellsOf 27 = 5 := by kernel_rfl
section
variable {H : Type} {enc : TypeId × Value → H} {w : World} {spare : Nat → Bool} {held : Bool}
set_option maxHeartbeats 1000000 in
set_option maxRecDepth 100000 in
theorem begin_open {r : Reach} {b0 N : Nat} {v : Value} {d : DataW H} {p : List MemPlace} (hv : Value.okWide Tryd.prog w r b0 27 v) (h : DataW.Trod enc Tryd.prog w 0 spare held 27 v d p) (hl : Light 27 d) (hN : ∀ x ∈ p, x.block < N) :
    ∃ (nl : Bool) (dd : Bs) (tm p e : Int), v = .agg #[.bool nl, .string (bb dd), .int .i64 tm, .int .i64 p, .int .i64 e] ∧ (-9223372036854775808 ≤ p ∧ p < 9223372036854775808) := by
  obtain ⟨cs, rfl, hsz⟩ := okWide_struct Tryd.underlying27 hv
  obtain ⟨l⟩ := cs
  match l, hsz.trans cells_begin with
  | [c0, c1, c2, c3, c4], _ =>
    obtain ⟨fuel, hf⟩ := h
    obtain ⟨hc, m, hg⟩ := opens_field Tryd.underlying27 hf hl hN
    obtain ⟨z0, g0, l0, n0⟩ := hg 0 _ rfl
    have g0 : DataW.trod enc Tryd.prog w 0 spare held m 23 (List.take (Tryd.prog.cellsOf 23) (List.drop 0 [c0, c1, c2, c3, c4])) = some z0 := g0
    rw [cells_blobW] at g0
    obtain ⟨z1, g1, l1, n1⟩ := hg 1 _ rfl
    have g1 : DataW.trod enc Tryd.prog w 0 spare held m 3 (List.take (Tryd.prog.cellsOf 3) (List.drop 2 [c0, c1, c2, c3, c4])) = some z1 := g1
    rw [cells_intW] at g1
    obtain ⟨z2, g2, l2, n2⟩ := hg 2 _ rfl
    have g2 : DataW.trod enc Tryd.prog w 0 spare held m 3 (List.take (Tryd.prog.cellsOf 3) (List.drop 3 [c0, c1, c2, c3, c4])) = some z2 := g2
    rw [cells_intW] at g2
    obtain ⟨z3, g3, l3, n3⟩ := hg 3 _ rfl
    have g3 : DataW.trod enc Tryd.prog w 0 spare held m 3 (List.take (Tryd.prog.cellsOf 3) (List.drop 4 [c0, c1, c2, c3, c4])) = some z3 := g3
    rw [cells_intW] at g3
    obtain ⟨x0, e0, s0⟩ := blob_opens _ _ _ g0 l0 n0
    obtain ⟨x1, e1, r1⟩ := opens_i64 Tryd.underlying3 g1
    obtain ⟨x2, e2, r2⟩ := opens_i64 Tryd.underlying3 g2
    obtain ⟨x3, e3, r3⟩ := opens_i64 Tryd.underlying3 g3
    simp at e0 e1 e2 e3
    obtain ⟨e0a, e0b⟩ := e0
    subst e0a e0b e1 e2 e3
    exact ⟨x0.null, x0.data, x1, x2, x3, rfl, r2⟩
end
theorem cells_end : Tryd.prog.cellsOf 29 = 4 := by kernel_rfl
section
variable {H : Type} {enc : TypeId × Value → H} {w : World} {spare : Nat → Bool} {held : Bool}
set_option maxHeartbeats 1000000 in
set_option maxRecDepth 100000 in
theorem end_open {r : Reach} {b0 N : Nat} {v : Value} {d : DataW H} {p : List MemPlace} (hv : Value.okWide Tryd.prog w r b0 29 v) (h : DataW.Trod enc Tryd.prog w 0 spare held 29 v d p) (hl : Light 29 d) (hN : ∀ x ∈ p, x.block < N) :
    ∃ (id : Bs) (p2 e2 : Int) (c : Bool), v = .agg #[.string (bb id), .int .i64 p2, .int .i64 e2, .bool c] ∧ (-9223372036854775808 ≤ p2 ∧ p2 < 9223372036854775808) := by
  obtain ⟨cs, rfl, hsz⟩ := okWide_struct Tryd.underlying29 hv
  obtain ⟨l⟩ := cs
  match l, hsz.trans cells_end with
  | [c0, c1, c2, c3], _ =>
    obtain ⟨fuel, hf⟩ := h
    obtain ⟨hc, m, hg⟩ := opens_field Tryd.underlying29 hf hl hN
    obtain ⟨z0, g0, l0, n0⟩ := hg 0 _ rfl
    have g0 : DataW.trod enc Tryd.prog w 0 spare held m 9 (List.take (Tryd.prog.cellsOf 9) (List.drop 0 [c0, c1, c2, c3])) = some z0 := g0
    rw [cells_strW] at g0
    obtain ⟨z1, g1, l1, n1⟩ := hg 1 _ rfl
    have g1 : DataW.trod enc Tryd.prog w 0 spare held m 3 (List.take (Tryd.prog.cellsOf 3) (List.drop 1 [c0, c1, c2, c3])) = some z1 := g1
    rw [cells_intW] at g1
    obtain ⟨z2, g2, l2, n2⟩ := hg 2 _ rfl
    have g2 : DataW.trod enc Tryd.prog w 0 spare held m 3 (List.take (Tryd.prog.cellsOf 3) (List.drop 2 [c0, c1, c2, c3])) = some z2 := g2
    rw [cells_intW] at g2
    obtain ⟨z3, g3, l3, n3⟩ := hg 3 _ rfl
    have g3 : DataW.trod enc Tryd.prog w 0 spare held m 4 (List.take (Tryd.prog.cellsOf 4) (List.drop 3 [c0, c1, c2, c3])) = some z3 := g3
    rw [cells_boolW] at g3
    obtain ⟨x0, e0, s0⟩ := opens_str Tryd.underlying9 g0 l0
    obtain ⟨x1, e1, r1⟩ := opens_i64 Tryd.underlying3 g1
    obtain ⟨x2, e2, r2⟩ := opens_i64 Tryd.underlying3 g2
    obtain ⟨x3, e3⟩ := opens_bool Tryd.underlying4 g3
    simp at e0 e1 e2 e3
    subst e0 e1 e2 e3
    exact ⟨x0, x1, x2, x3, rfl, r1⟩
end

end Go.Proofs.YthppodbjjfkmfaaDoor
