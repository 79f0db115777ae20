/- Layer 17, walked: RequestWrites, what it stands on. -/
import Derived.Test.YtngnhdiafbjfkaaDoorReq7
namespace Go.Proofs.YtngnhdiafbjfkaaDoor
open Go.RowKit

theorem req_write5 (p : Nat) (a v n : Int) (u : Bool) (d : Bs) (o2 : OutS) (hx : (⟨[], 0⟩ : OutS).head ⟨a, v, n, ⟨u, d⟩⟩ = o2) (hR : HeadS.R ⟨a, v, n, ⟨u, d⟩⟩) {W0 w : World} {K : Know} {L : List Res} (hk : K.has Know.reqs) (h : St W0 w K (.out p ⟨[], 0⟩ :: L)) :
    Calls Tryd.prog 14 #[outPtr p, .agg #[.int .i64 a, .int .i64 v, .int .i64 n, .bool u, .string (bb d)]] w fun en w' => en = .returned (.tuple #[]) ∧ St W0 w' K (.out p o2 :: L) := req_writeV p ⟨a, v, n, ⟨u, d⟩⟩ o2 _ rfl hx hR hk h

set_option maxHeartbeats 1000000 in
set_option maxRecDepth 100000 in
theorem reqWrites_long (h0 : HeadS) (hR : h0.R) (hl : 40000 < h0.cli.data.length) {W0 w : World} {K : Know} (hk : K.has Know.reqs) (h : St W0 w K []) :
    Calls Tryd.prog 5 #[.agg #[.int .i64 h0.kind, .int .i64 h0.ver, .int .i64 h0.num, .bool h0.cli.null, .string (bb h0.cli.data)]] w fun en w' => en = .returned (.bool true) ∧ Below W0.heap.size W0 w' := by
  obtain ⟨a, v, n, ⟨u, d⟩⟩ := h0
  simp only at *
  have h1 := h.allocRaw #[.int .i64 a, .int .i64 v, .int .i64 n, .bool u, .string (bb d)] 38
  obtain ⟨xb, hxb⟩ : ∃ b, w.heap.size = b := ⟨_, rfl⟩
  rw [hxb] at h1
  have H := Lib.hid h1
  have HK := Lib.hid hk
  have HR := Lib.hid hR
  have HN3 := Lib.hid hR.2.2
  obtain ⟨x0, x1, x2, x3, x4, y0, y1, y2, y3, y4⟩ := raw5 (b := xb) (h1)
  have d1 : decide ((40000 : Int) < (d.length : Int)) = true := decide_eq_true (by omega)
  clear h h1 hk hR hl
  go_enter Tryd.func5, Tryd.ntmps5
  go_wp2_with (go_at_call 13; (with_reducible refine (speaks17 HK.out H.out).mono ?_); rintro e wn ⟨rfl, h⟩; replace H := Lib.hid h; clear h; obtain ⟨x0, x1, x2, x3, x4, y0, y1, y2, y3, y4⟩ := raw5 (b := xb) (H.out))
  go_ret
  exact ⟨rfl, H.out.below⟩

set_option maxHeartbeats 1000000 in
set_option maxRecDepth 100000 in
theorem reqWrites_bad (h0 : HeadS) (hR : h0.R) (hl : h0.cli.data.length ≤ 40000) (e : Int) (he : headErr h0 = e) (g : e ≠ 0) {W0 w : World} {K : Know} (hk : K.has Know.reqs) (h : St W0 w K []) :
    Calls Tryd.prog 5 #[.agg #[.int .i64 h0.kind, .int .i64 h0.ver, .int .i64 h0.num, .bool h0.cli.null, .string (bb h0.cli.data)]] w fun en w' => en = .returned (.bool true) ∧ Below W0.heap.size W0 w' := by
  obtain ⟨a, v, n, ⟨u, d⟩⟩ := h0
  simp only at *
  have h1 := h.allocRaw #[.int .i64 a, .int .i64 v, .int .i64 n, .bool u, .string (bb d)] 38
  obtain ⟨xb, hxb⟩ : ∃ b, w.heap.size = b := ⟨_, rfl⟩
  rw [hxb] at h1
  have H := Lib.hid h1
  have HK := Lib.hid hk
  have HR := Lib.hid hR
  have HN3 := Lib.hid hR.2.2
  obtain ⟨x0, x1, x2, x3, x4, y0, y1, y2, y3, y4⟩ := raw5 (b := xb) (h1)
  have d1 : decide ((40000 : Int) < (d.length : Int)) = false := decide_eq_false (by omega)
  have HE := Lib.hid he
  have HX := Lib.hid (show (⟨[], 0⟩ : OutS).head ⟨a, v, n, ⟨u, d⟩⟩ = ⟨[], e⟩ by rw [← he]; exact head_bad _ (by rw [he]; exact g))
  have HT := Lib.hid (show (⟨[], e⟩ : OutS).text = ([], e) from if_neg g)
  have HBL := Lib.hid (show ([] : Bs).length ≤ 140737488355328 by simp)
  have gz : (e == 0) = false := by rw [beq_eq_false_iff_ne]; exact g
  clear h h1 hk hR hl he g
  go_enter Tryd.func5, Tryd.ntmps5
  go_wp2_with (first
    | (go_at_call 13; (with_reducible refine (speaks17 HK.out H.out).mono ?_); rintro e wn ⟨rfl, h⟩; obtain ⟨u0, u1, u2, u3, u4, f0, f1, f2, f3, f4⟩ := raw5 (b := xb) (h); have h := h.allocOut; obtain ⟨po, hpo⟩ : ∃ b, wn.heap.size = b := ⟨_, rfl⟩; rw [hpo] at h; replace H := Lib.hid h; clear h; obtain ⟨x0, x1, x2, x3, x4, y0, y1, y2, y3, y4⟩ := raw5 (b := xb) (H.out.p1))
    | (go_at_call 14; (with_reducible refine (req_write5 po a v n u d _ HX.out HR.out HK.out H.out).mono ?_); rintro e wn ⟨rfl, h⟩; replace H := Lib.hid h; clear h; obtain ⟨x0, x1, x2, x3, x4, y0, y1, y2, y3, y4⟩ := raw5 (b := xb) (H.out.p1))
    | (go_at_call 15; (with_reducible refine (so_textQ po _ _ _ HT.out H.out).mono ?_); rintro e wn ⟨rfl, h⟩; replace H := Lib.hid h; clear h; obtain ⟨x0, x1, x2, x3, x4, y0, y1, y2, y3, y4⟩ := raw5 (b := xb) (H.out.p1))
    | (go_at_call 16; (with_reducible refine (ref17_check a v n u d _ HE.out H.out).mono ?_); rintro e wn ⟨rfl, h⟩; replace H := Lib.hid h; clear h; obtain ⟨x0, x1, x2, x3, x4, y0, y1, y2, y3, y4⟩ := raw5 (b := xb) (H.out.p1))
    | (go_at_call 17; (with_reducible refine (req_check a v n u d _ HE.out HN3.out HK.out H.out).mono ?_); rintro e wn ⟨rfl, h⟩; replace H := Lib.hid h; clear h; obtain ⟨x0, x1, x2, x3, x4, y0, y1, y2, y3, y4⟩ := raw5 (b := xb) (H.out.p1))
    | (go_at_call 18; (with_reducible refine (s_new _ HBL.out H.out).mono ?_); rintro e wn ⟨bi, rfl, h⟩; replace H := Lib.hid h; clear h; obtain ⟨x0, x1, x2, x3, x4, y0, y1, y2, y3, y4⟩ := raw5 (b := xb) H.out.p2))
  go_ret
  exact ⟨rfl, H.out.below⟩

theorem ref17_write5 (a v n : Int) (u : Bool) (d : Bs) (B : Bs) (hB : encHead ⟨a, v, n, ⟨u, d⟩⟩ = B) (hR : HeadS.R ⟨a, v, n, ⟨u, d⟩⟩) (hd : d.length ≤ 100000) {W0 w : World} {K : Know} {L : List Res} (h : St W0 w K L) :
    Calls Tryd.prog 19 #[.agg #[.int .i64 a, .int .i64 v, .int .i64 n, .bool u, .string (bb d)]] w fun en w' => en = .returned (.string (bb B)) ∧ St W0 w' K L := ref17_writeV ⟨a, v, n, ⟨u, d⟩⟩ B hB hR hd h
theorem req_readQ (p : Nat) (i j : InS) (a v n : Int) (u : Bool) (d : Bs) (hx : i.head = (⟨a, v, n, ⟨u, d⟩⟩, j)) {W0 w : World} {K : Know} {L : List Res} (hk : K.has Know.reqs) (h : St W0 w K (.inp p i :: L)) :
    Calls Tryd.prog 20 #[inPtr p] w fun en w' => en = .returned (.agg #[.int .i64 a, .int .i64 v, .int .i64 n, .bool u, .string (bb d)]) ∧ St W0 w' K (.inp p j :: L) := req_readH p i j ⟨a, v, n, ⟨u, d⟩⟩ hx hk h
theorem s_closeQ (p : Nat) (i j : InS) (e : Int) (hx : i.close = j) (he : j.err = e) {W0 w : World} {K : Know} {L : List Res} (h : St W0 w K (.inp p i :: L)) :
    Calls Tryd.prog 21 #[inPtr p] w fun en w' => en = .returned (.int .i64 e) ∧ St W0 w' K (.inp p j :: L) := by
  subst he; subst hx; exact s_close p i h

end Go.Proofs.YtngnhdiafbjfkaaDoor
