/- Heads of requests, read. -/
import Derived.Test.YtngnhdiafbjfkaaDoorReq1
import Derived.Test.YtngnhdiafbjfkaaDoorBlob2
import Derived.Deep.DeepCutAuto
namespace Go.Proofs.YtngnhdiafbjfkaaDoor
open Go.RowKit

theorem results_cell_only {P : Program} {fn : Func} {p : Tmp} {ty : TypeId} (h : fn.results = #[.cell p ty]) (tmps : Array Value) (w : World) (b : Nat) (cs : List Value) (dd : TypeDesc)
    (hp : tmps.getD p undef = .pointer (some ⟨b, 0, none⟩)) (hc : w.rangeAt b 0 cs) (hu : P.underlying ty = some dd) (hd : dd.isRow = true) (hi : (P.info? ty).map (·.size) = some cs.length) :
    (results fn tmps).run P w = .ok (.agg cs.toArray) w := by
  have hp' : tmps[p]?.getD undef = .pointer (some ⟨b, 0, none⟩) := by simpa using hp
  simp [results, h, hp', asAddr, run_loadVar_mid w b 0 ty cs dd hc hu hd hi]
theorem s_intQ (p : Nat) (i j : InS) (n q : Int) (hx : i.int n = (q, j)) {W0 w : World} {K : Know} {L : List Res} (h : St W0 w K (.inp p i :: L)) :
    Calls Tryd.prog 34 #[inPtr p, .int .i64 n] w fun en w' => en = .returned (.int .i64 q) ∧ St W0 w' K (.inp p j :: L) := by
  have := s_int p i n h; rw [hx] at this; exact this
theorem s_failQ (p : Nat) (i j : InS) (e : Int) (hx : i.fail e = j) {W0 w : World} {K : Know} {L : List Res} (h : St W0 w K (.inp p i :: L)) :
    Calls Tryd.prog 35 #[inPtr p, .int .i64 e] w fun en w' => en = .returned (.tuple #[]) ∧ St W0 w' K (.inp p j :: L) := by
  have := s_fail p i e h; rw [hx] at this; exact this
theorem s_errQ (p : Nat) (i : InS) (e : Int) (hx : i.err = e) {W0 w : World} {K : Know} {L : List Res} (h : St W0 w K (.inp p i :: L)) :
    Calls Tryd.prog 23 #[inPtr p] w fun en w' => en = .returned (.int .i64 e) ∧ St W0 w' K (.inp p i :: L) := by
  have := s_err p i h; rw [hx] at this; exact this
theorem blob_fixed2 (p : Nat) (i j : InS) (u : Bool) (d : Bs) (hx : i.fixed 2 = (⟨u, d⟩, j)) {W0 w : World} {K : Know} {L : List Res} (h : St W0 w K (.inp p i :: L)) :
    Calls Tryd.prog 36 #[inPtr p, .int .i64 2] w fun en w' => en = .returned (.agg #[.bool u, .string (bb d)]) ∧ St W0 w' K (.inp p j :: L) := by
  have := blob_fixed p i 2 h; rw [hx] at this; exact this

set_option maxHeartbeats 1000000 in
set_option maxRecDepth 100000 in
theorem req_read (p : Nat) (i0 i1 i2 i3 i4 i5 : InS) (a v n : Int) (u : Bool) (d : Bs) (e er : Int) (h0 : i0.int 2 = (a, i1)) (h1 : i1.int 2 = (v, i2)) (hv : verErr a v = e) (h2 : (if e = 0 then i2 else i2.fail e) = i3) (h3 : i3.int 4 = (n, i4)) (h4 : i4.fixed 2 = (⟨u, d⟩, i5)) (h5 : i5.err = er)
    (y : HeadS) (hy : (if er = 0 then (⟨a, v, n, ⟨u, d⟩⟩ : HeadS) else HeadS.z) = y) {W0 w : World} {K : Know} {L : List Res} (hk : K.has Know.reqs) (h : St W0 w K (.inp p i0 :: L)) :
    Calls Tryd.prog 20 #[inPtr p] w fun en w' => en = .returned (.agg #[.int .i64 y.kind, .int .i64 y.ver, .int .i64 y.num, .bool y.cli.null, .string (bb y.cli.data)]) ∧ St W0 w' K (.inp p i5 :: L) := by
  have g1 := h.allocRaw #[.int .i64 0, .int .i64 0, .int .i64 0, .bool false, .string ⟨#[]⟩] 38
  have g2 := g1.allocRaw #[.int .i64 0, .int .i64 0, .int .i64 0, .bool false, .string ⟨#[]⟩] 38
  obtain ⟨rb, hrb⟩ : ∃ b, w.heap.size = b := ⟨_, rfl⟩
  obtain ⟨hb, hhb⟩ : ∃ b, rb + 1 = b := ⟨_, rfl⟩
  simp only [World.size_alloc, hrb, hhb] at g2
  have E0 := Lib.hid h0
  have E1 := Lib.hid h1
  have EV := Lib.hid hv
  have E2 := Lib.hid h2
  have E3 := Lib.hid h3
  have E4 := Lib.hid h4
  have E5 := Lib.hid h5
  have HY := Lib.hid hy
  have HK := Lib.hid hk
  have H := Lib.hid g2
  have t1 : True := trivial
  clear g1 g2 h h0 h1 hv h2 h3 h4 h5 hy hk
  by_cases he : e = 0
  · subst he
    obtain rfl : i2 = i3 := by have := E2.out; rw [if_pos rfl] at this; exact this
    clear E2
    by_cases her : er = 0
    · subst her
      obtain rfl := HY.out
      clear HY
      go_enter Tryd.func20, Tryd.ntmps20
      go_wp2_with (first
        | (go_at_call 34; have _t := t1; clear _t; (with_reducible refine (s_intQ p i0 i1 2 a E0.out (show St W0 _ K (.inp p i0 :: .raw hb #[.int .i64 0, .int .i64 0, .int .i64 0, .bool false, .string ⟨#[]⟩] 38 :: .raw rb #[.int .i64 0, .int .i64 0, .int .i64 0, .bool false, .string ⟨#[]⟩] 38 :: L) from H.out.p2)).mono ?_); rintro e_ wn ⟨rfl, h⟩; have h : St W0 _ K (.raw hb #[.int .i64 0, .int .i64 0, .int .i64 0, .bool false, .string ⟨#[]⟩] 38 :: .raw rb #[.int .i64 0, .int .i64 0, .int .i64 0, .bool false, .string ⟨#[]⟩] 38 :: .inp p i1 :: L) := h.p2.p2; replace H := Lib.hid h; clear h; obtain ⟨x0, x1, x2, x3, x4, y0, y1, y2, y3, y4⟩ := raw5 (b := hb) (H.out); have t2 : True := trivial; clear t1)
        | (go_at_call 34; have _t := t2; clear _t; (with_reducible refine (s_intQ p i1 i2 2 v E1.out (show St W0 _ K (.inp p i1 :: .raw hb #[.int .i64 a, .int .i64 0, .int .i64 0, .bool false, .string ⟨#[]⟩] 38 :: .raw rb #[.int .i64 0, .int .i64 0, .int .i64 0, .bool false, .string ⟨#[]⟩] 38 :: L) from (H.out.rawSet 0 (.int .i64 a)).p2)).mono ?_); rintro e_ wn ⟨rfl, h⟩; have h : St W0 _ K (.raw hb #[.int .i64 a, .int .i64 0, .int .i64 0, .bool false, .string ⟨#[]⟩] 38 :: .raw rb #[.int .i64 0, .int .i64 0, .int .i64 0, .bool false, .string ⟨#[]⟩] 38 :: .inp p i2 :: L) := h.p2.p2; replace H := Lib.hid h; clear h; obtain ⟨x0, x1, x2, x3, x4, y0, y1, y2, y3, y4⟩ := raw5 (b := hb) (H.out); obtain ⟨z0, z1, z2, z3, z4, _⟩ := raw5 (b := hb) (show St W0 _ K (.raw hb #[.int .i64 a, .int .i64 v, .int .i64 0, .bool false, .string ⟨#[]⟩] 38 :: _) from H.out.rawSet 1 (.int .i64 v)); have t3 : True := trivial; clear t2)
        | (go_at_call 11; (with_reducible refine (ver_check a v 0 EV.out HK.out (show St W0 _ K (.raw hb #[.int .i64 a, .int .i64 v, .int .i64 0, .bool false, .string ⟨#[]⟩] 38 :: .raw rb #[.int .i64 0, .int .i64 0, .int .i64 0, .bool false, .string ⟨#[]⟩] 38 :: .inp p i2 :: L) from H.out.rawSet 1 (.int .i64 v))).mono ?_); rintro e_ wn ⟨rfl, h⟩; replace H := Lib.hid h; clear h)
        | (go_at_call 34; have _t := t3; clear _t; (with_reducible refine (s_intQ p i2 i4 4 n E3.out (H.out.p2)).mono ?_); rintro e_ wn ⟨rfl, h⟩; have h : St W0 _ K (.raw hb #[.int .i64 a, .int .i64 v, .int .i64 0, .bool false, .string ⟨#[]⟩] 38 :: .raw rb #[.int .i64 0, .int .i64 0, .int .i64 0, .bool false, .string ⟨#[]⟩] 38 :: .inp p i4 :: L) := h.p2.p2; replace H := Lib.hid h; clear h; obtain ⟨x0, x1, x2, x3, x4, y0, y1, y2, y3, y4⟩ := raw5 (b := hb) (H.out); clear t3)
        | (go_at_call 36; (with_reducible refine (blob_fixed2 p i4 i5 u d E4.out (show St W0 _ K (.inp p i4 :: .raw hb #[.int .i64 a, .int .i64 v, .int .i64 n, .bool false, .string ⟨#[]⟩] 38 :: .raw rb #[.int .i64 0, .int .i64 0, .int .i64 0, .bool false, .string ⟨#[]⟩] 38 :: L) from (H.out.rawSet 2 (.int .i64 n)).p2)).mono ?_); rintro e_ wn ⟨rfl, h⟩; have h : St W0 _ K (.raw hb #[.int .i64 a, .int .i64 v, .int .i64 n, .bool false, .string ⟨#[]⟩] 38 :: .raw rb #[.int .i64 0, .int .i64 0, .int .i64 0, .bool false, .string ⟨#[]⟩] 38 :: .inp p i5 :: L) := h.p2.p2; replace H := Lib.hid h; clear h; obtain ⟨x0, x1, x2, x3, x4, y0, y1, y2, y3, y4⟩ := raw5 (b := hb) (H.out))
        | (go_at_call 23; (with_reducible refine (s_errQ p i5 0 E5.out (show St W0 _ K (.inp p i5 :: .raw hb #[.int .i64 a, .int .i64 v, .int .i64 n, .bool u, .string (bb d)] 38 :: .raw rb #[.int .i64 0, .int .i64 0, .int .i64 0, .bool false, .string ⟨#[]⟩] 38 :: L) from ((H.out.rawSet 3 (.bool u)).rawSet 4 (.string (bb d))).p2)).mono ?_); rintro e_ wn ⟨rfl, h⟩; have h : St W0 _ K (.raw rb #[.int .i64 0, .int .i64 0, .int .i64 0, .bool false, .string ⟨#[]⟩] 38 :: .raw hb #[.int .i64 a, .int .i64 v, .int .i64 n, .bool u, .string (bb d)] 38 :: .inp p i5 :: L) := h.p1.p2; replace H := Lib.hid h; clear h; obtain ⟨p0, p1, p2, p3, p4, q0, q1, q2, q3, q4⟩ := raw5 (b := rb) (H.out); obtain ⟨x0, x1, x2, x3, x4, y0, y1, y2, y3, y4⟩ := raw5 (b := hb) (H.out.p1)))
      have hz : St W0 _ K (.raw rb #[.int .i64 a, .int .i64 v, .int .i64 n, .bool u, .string (bb d)] 38 :: _) := (((((H.out.rawSet 0 _).rawSet 1 _).rawSet 2 _).rawSet 3 _).rawSet 4 _)
      refine bodyPost_ret (results_cell_only rfl _ _ rb [.int .i64 a, .int .i64 v, .int .i64 n, .bool u, .string (bb d)] _ rfl (St.range hz) Tryd.underlying38 rfl (by kernel_rfl)) rfl ?_
      exact ⟨rfl, hz.drop.drop⟩
    · have gr : (er == 0) = false := by rw [beq_eq_false_iff_ne]; exact her
      obtain rfl : HeadS.z = y := by have := HY.out; rw [if_neg her] at this; exact this
      clear HY her
      go_enter Tryd.func20, Tryd.ntmps20
      go_wp2_with (first
        | (go_at_call 34; have _t := t1; clear _t; (with_reducible refine (s_intQ p i0 i1 2 a E0.out (show St W0 _ K (.inp p i0 :: .raw hb #[.int .i64 0, .int .i64 0, .int .i64 0, .bool false, .string ⟨#[]⟩] 38 :: .raw rb #[.int .i64 0, .int .i64 0, .int .i64 0, .bool false, .string ⟨#[]⟩] 38 :: L) from H.out.p2)).mono ?_); rintro e_ wn ⟨rfl, h⟩; have h : St W0 _ K (.raw hb #[.int .i64 0, .int .i64 0, .int .i64 0, .bool false, .string ⟨#[]⟩] 38 :: .raw rb #[.int .i64 0, .int .i64 0, .int .i64 0, .bool false, .string ⟨#[]⟩] 38 :: .inp p i1 :: L) := h.p2.p2; replace H := Lib.hid h; clear h; obtain ⟨x0, x1, x2, x3, x4, y0, y1, y2, y3, y4⟩ := raw5 (b := hb) (H.out); have t2 : True := trivial; clear t1)
        | (go_at_call 34; have _t := t2; clear _t; (with_reducible refine (s_intQ p i1 i2 2 v E1.out (show St W0 _ K (.inp p i1 :: .raw hb #[.int .i64 a, .int .i64 0, .int .i64 0, .bool false, .string ⟨#[]⟩] 38 :: .raw rb #[.int .i64 0, .int .i64 0, .int .i64 0, .bool false, .string ⟨#[]⟩] 38 :: L) from (H.out.rawSet 0 (.int .i64 a)).p2)).mono ?_); rintro e_ wn ⟨rfl, h⟩; have h : St W0 _ K (.raw hb #[.int .i64 a, .int .i64 0, .int .i64 0, .bool false, .string ⟨#[]⟩] 38 :: .raw rb #[.int .i64 0, .int .i64 0, .int .i64 0, .bool false, .string ⟨#[]⟩] 38 :: .inp p i2 :: L) := h.p2.p2; replace H := Lib.hid h; clear h; obtain ⟨x0, x1, x2, x3, x4, y0, y1, y2, y3, y4⟩ := raw5 (b := hb) (H.out); obtain ⟨z0, z1, z2, z3, z4, _⟩ := raw5 (b := hb) (show St W0 _ K (.raw hb #[.int .i64 a, .int .i64 v, .int .i64 0, .bool false, .string ⟨#[]⟩] 38 :: _) from H.out.rawSet 1 (.int .i64 v)); have t3 : True := trivial; clear t2)
        | (go_at_call 11; (with_reducible refine (ver_check a v 0 EV.out HK.out (show St W0 _ K (.raw hb #[.int .i64 a, .int .i64 v, .int .i64 0, .bool false, .string ⟨#[]⟩] 38 :: .raw rb #[.int .i64 0, .int .i64 0, .int .i64 0, .bool false, .string ⟨#[]⟩] 38 :: .inp p i2 :: L) from H.out.rawSet 1 (.int .i64 v))).mono ?_); rintro e_ wn ⟨rfl, h⟩; replace H := Lib.hid h; clear h)
        | (go_at_call 34; have _t := t3; clear _t; (with_reducible refine (s_intQ p i2 i4 4 n E3.out (H.out.p2)).mono ?_); rintro e_ wn ⟨rfl, h⟩; have h : St W0 _ K (.raw hb #[.int .i64 a, .int .i64 v, .int .i64 0, .bool false, .string ⟨#[]⟩] 38 :: .raw rb #[.int .i64 0, .int .i64 0, .int .i64 0, .bool false, .string ⟨#[]⟩] 38 :: .inp p i4 :: L) := h.p2.p2; replace H := Lib.hid h; clear h; obtain ⟨x0, x1, x2, x3, x4, y0, y1, y2, y3, y4⟩ := raw5 (b := hb) (H.out); clear t3)
        | (go_at_call 36; (with_reducible refine (blob_fixed2 p i4 i5 u d E4.out (show St W0 _ K (.inp p i4 :: .raw hb #[.int .i64 a, .int .i64 v, .int .i64 n, .bool false, .string ⟨#[]⟩] 38 :: .raw rb #[.int .i64 0, .int .i64 0, .int .i64 0, .bool false, .string ⟨#[]⟩] 38 :: L) from (H.out.rawSet 2 (.int .i64 n)).p2)).mono ?_); rintro e_ wn ⟨rfl, h⟩; have h : St W0 _ K (.raw hb #[.int .i64 a, .int .i64 v, .int .i64 n, .bool false, .string ⟨#[]⟩] 38 :: .raw rb #[.int .i64 0, .int .i64 0, .int .i64 0, .bool false, .string ⟨#[]⟩] 38 :: .inp p i5 :: L) := h.p2.p2; replace H := Lib.hid h; clear h; obtain ⟨x0, x1, x2, x3, x4, y0, y1, y2, y3, y4⟩ := raw5 (b := hb) (H.out))
        | (go_at_call 23; (with_reducible refine (s_errQ p i5 er E5.out (show St W0 _ K (.inp p i5 :: .raw hb #[.int .i64 a, .int .i64 v, .int .i64 n, .bool u, .string (bb d)] 38 :: .raw rb #[.int .i64 0, .int .i64 0, .int .i64 0, .bool false, .string ⟨#[]⟩] 38 :: L) from ((H.out.rawSet 3 (.bool u)).rawSet 4 (.string (bb d))).p2)).mono ?_); rintro e_ wn ⟨rfl, h⟩; have h : St W0 _ K (.raw rb #[.int .i64 0, .int .i64 0, .int .i64 0, .bool false, .string ⟨#[]⟩] 38 :: .raw hb #[.int .i64 a, .int .i64 v, .int .i64 n, .bool u, .string (bb d)] 38 :: .inp p i5 :: L) := h.p1.p2; replace H := Lib.hid h; clear h; obtain ⟨p0, p1, p2, p3, p4, q0, q1, q2, q3, q4⟩ := raw5 (b := rb) (H.out); obtain ⟨x0, x1, x2, x3, x4, y0, y1, y2, y3, y4⟩ := raw5 (b := hb) (H.out.p1)))
      have hz : St W0 _ K (.raw rb #[.int .i64 0, .int .i64 0, .int .i64 0, .bool false, .string ⟨#[]⟩] 38 :: _) := (((((H.out.rawSet 0 _).rawSet 1 _).rawSet 2 _).rawSet 3 _).rawSet 4 _)
      refine bodyPost_ret (results_cell_only rfl _ _ rb [.int .i64 0, .int .i64 0, .int .i64 0, .bool false, .string ⟨#[]⟩] _ rfl (St.range hz) Tryd.underlying38 rfl (by kernel_rfl)) rfl ?_
      exact ⟨rfl, hz.drop.drop⟩
  · have gz : (e == 0) = false := by rw [beq_eq_false_iff_ne]; exact he
    replace E2 := Lib.hid (show i2.fail e = i3 by have := E2.out; rw [if_neg he] at this; exact this)
    clear he
    by_cases her : er = 0
    · subst her
      obtain rfl := HY.out
      clear HY
      go_enter Tryd.func20, Tryd.ntmps20
      go_wp2_with (first
        | (go_at_call 34; have _t := t1; clear _t; (with_reducible refine (s_intQ p i0 i1 2 a E0.out (show St W0 _ K (.inp p i0 :: .raw hb #[.int .i64 0, .int .i64 0, .int .i64 0, .bool false, .string ⟨#[]⟩] 38 :: .raw rb #[.int .i64 0, .int .i64 0, .int .i64 0, .bool false, .string ⟨#[]⟩] 38 :: L) from H.out.p2)).mono ?_); rintro e_ wn ⟨rfl, h⟩; have h : St W0 _ K (.raw hb #[.int .i64 0, .int .i64 0, .int .i64 0, .bool false, .string ⟨#[]⟩] 38 :: .raw rb #[.int .i64 0, .int .i64 0, .int .i64 0, .bool false, .string ⟨#[]⟩] 38 :: .inp p i1 :: L) := h.p2.p2; replace H := Lib.hid h; clear h; obtain ⟨x0, x1, x2, x3, x4, y0, y1, y2, y3, y4⟩ := raw5 (b := hb) (H.out); have t2 : True := trivial; clear t1)
        | (go_at_call 34; have _t := t2; clear _t; (with_reducible refine (s_intQ p i1 i2 2 v E1.out (show St W0 _ K (.inp p i1 :: .raw hb #[.int .i64 a, .int .i64 0, .int .i64 0, .bool false, .string ⟨#[]⟩] 38 :: .raw rb #[.int .i64 0, .int .i64 0, .int .i64 0, .bool false, .string ⟨#[]⟩] 38 :: L) from (H.out.rawSet 0 (.int .i64 a)).p2)).mono ?_); rintro e_ wn ⟨rfl, h⟩; have h : St W0 _ K (.raw hb #[.int .i64 a, .int .i64 0, .int .i64 0, .bool false, .string ⟨#[]⟩] 38 :: .raw rb #[.int .i64 0, .int .i64 0, .int .i64 0, .bool false, .string ⟨#[]⟩] 38 :: .inp p i2 :: L) := h.p2.p2; replace H := Lib.hid h; clear h; obtain ⟨x0, x1, x2, x3, x4, y0, y1, y2, y3, y4⟩ := raw5 (b := hb) (H.out); obtain ⟨z0, z1, z2, z3, z4, _⟩ := raw5 (b := hb) (show St W0 _ K (.raw hb #[.int .i64 a, .int .i64 v, .int .i64 0, .bool false, .string ⟨#[]⟩] 38 :: _) from H.out.rawSet 1 (.int .i64 v)); have t3 : True := trivial; clear t2)
        | (go_at_call 11; (with_reducible refine (ver_check a v e EV.out HK.out (show St W0 _ K (.raw hb #[.int .i64 a, .int .i64 v, .int .i64 0, .bool false, .string ⟨#[]⟩] 38 :: .raw rb #[.int .i64 0, .int .i64 0, .int .i64 0, .bool false, .string ⟨#[]⟩] 38 :: .inp p i2 :: L) from H.out.rawSet 1 (.int .i64 v))).mono ?_); rintro e_ wn ⟨rfl, h⟩; replace H := Lib.hid h; clear h)
        | (go_at_call 35; (with_reducible refine (s_failQ p i2 i3 e E2.out (H.out.p2)).mono ?_); rintro e_ wn ⟨rfl, h⟩; have h : St W0 _ K (.raw hb #[.int .i64 a, .int .i64 v, .int .i64 0, .bool false, .string ⟨#[]⟩] 38 :: .raw rb #[.int .i64 0, .int .i64 0, .int .i64 0, .bool false, .string ⟨#[]⟩] 38 :: .inp p i3 :: L) := h.p2.p2; replace H := Lib.hid h; clear h)
        | (go_at_call 34; have _t := t3; clear _t; (with_reducible refine (s_intQ p i3 i4 4 n E3.out (H.out.p2)).mono ?_); rintro e_ wn ⟨rfl, h⟩; have h : St W0 _ K (.raw hb #[.int .i64 a, .int .i64 v, .int .i64 0, .bool false, .string ⟨#[]⟩] 38 :: .raw rb #[.int .i64 0, .int .i64 0, .int .i64 0, .bool false, .string ⟨#[]⟩] 38 :: .inp p i4 :: L) := h.p2.p2; replace H := Lib.hid h; clear h; obtain ⟨x0, x1, x2, x3, x4, y0, y1, y2, y3, y4⟩ := raw5 (b := hb) (H.out); clear t3)
        | (go_at_call 36; (with_reducible refine (blob_fixed2 p i4 i5 u d E4.out (show St W0 _ K (.inp p i4 :: .raw hb #[.int .i64 a, .int .i64 v, .int .i64 n, .bool false, .string ⟨#[]⟩] 38 :: .raw rb #[.int .i64 0, .int .i64 0, .int .i64 0, .bool false, .string ⟨#[]⟩] 38 :: L) from (H.out.rawSet 2 (.int .i64 n)).p2)).mono ?_); rintro e_ wn ⟨rfl, h⟩; have h : St W0 _ K (.raw hb #[.int .i64 a, .int .i64 v, .int .i64 n, .bool false, .string ⟨#[]⟩] 38 :: .raw rb #[.int .i64 0, .int .i64 0, .int .i64 0, .bool false, .string ⟨#[]⟩] 38 :: .inp p i5 :: L) := h.p2.p2; replace H := Lib.hid h; clear h; obtain ⟨x0, x1, x2, x3, x4, y0, y1, y2, y3, y4⟩ := raw5 (b := hb) (H.out))
        | (go_at_call 23; (with_reducible refine (s_errQ p i5 0 E5.out (show St W0 _ K (.inp p i5 :: .raw hb #[.int .i64 a, .int .i64 v, .int .i64 n, .bool u, .string (bb d)] 38 :: .raw rb #[.int .i64 0, .int .i64 0, .int .i64 0, .bool false, .string ⟨#[]⟩] 38 :: L) from ((H.out.rawSet 3 (.bool u)).rawSet 4 (.string (bb d))).p2)).mono ?_); rintro e_ wn ⟨rfl, h⟩; have h : St W0 _ K (.raw rb #[.int .i64 0, .int .i64 0, .int .i64 0, .bool false, .string ⟨#[]⟩] 38 :: .raw hb #[.int .i64 a, .int .i64 v, .int .i64 n, .bool u, .string (bb d)] 38 :: .inp p i5 :: L) := h.p1.p2; replace H := Lib.hid h; clear h; obtain ⟨p0, p1, p2, p3, p4, q0, q1, q2, q3, q4⟩ := raw5 (b := rb) (H.out); obtain ⟨x0, x1, x2, x3, x4, y0, y1, y2, y3, y4⟩ := raw5 (b := hb) (H.out.p1)))
      have hz : St W0 _ K (.raw rb #[.int .i64 a, .int .i64 v, .int .i64 n, .bool u, .string (bb d)] 38 :: _) := (((((H.out.rawSet 0 _).rawSet 1 _).rawSet 2 _).rawSet 3 _).rawSet 4 _)
      refine bodyPost_ret (results_cell_only rfl _ _ rb [.int .i64 a, .int .i64 v, .int .i64 n, .bool u, .string (bb d)] _ rfl (St.range hz) Tryd.underlying38 rfl (by kernel_rfl)) rfl ?_
      exact ⟨rfl, hz.drop.drop⟩
    · have gr : (er == 0) = false := by rw [beq_eq_false_iff_ne]; exact her
      obtain rfl : HeadS.z = y := by have := HY.out; rw [if_neg her] at this; exact this
      clear HY her
      go_enter Tryd.func20, Tryd.ntmps20
      go_wp2_with (first
        | (go_at_call 34; have _t := t1; clear _t; (with_reducible refine (s_intQ p i0 i1 2 a E0.out (show St W0 _ K (.inp p i0 :: .raw hb #[.int .i64 0, .int .i64 0, .int .i64 0, .bool false, .string ⟨#[]⟩] 38 :: .raw rb #[.int .i64 0, .int .i64 0, .int .i64 0, .bool false, .string ⟨#[]⟩] 38 :: L) from H.out.p2)).mono ?_); rintro e_ wn ⟨rfl, h⟩; have h : St W0 _ K (.raw hb #[.int .i64 0, .int .i64 0, .int .i64 0, .bool false, .string ⟨#[]⟩] 38 :: .raw rb #[.int .i64 0, .int .i64 0, .int .i64 0, .bool false, .string ⟨#[]⟩] 38 :: .inp p i1 :: L) := h.p2.p2; replace H := Lib.hid h; clear h; obtain ⟨x0, x1, x2, x3, x4, y0, y1, y2, y3, y4⟩ := raw5 (b := hb) (H.out); have t2 : True := trivial; clear t1)
        | (go_at_call 34; have _t := t2; clear _t; (with_reducible refine (s_intQ p i1 i2 2 v E1.out (show St W0 _ K (.inp p i1 :: .raw hb #[.int .i64 a, .int .i64 0, .int .i64 0, .bool false, .string ⟨#[]⟩] 38 :: .raw rb #[.int .i64 0, .int .i64 0, .int .i64 0, .bool false, .string ⟨#[]⟩] 38 :: L) from (H.out.rawSet 0 (.int .i64 a)).p2)).mono ?_); rintro e_ wn ⟨rfl, h⟩; have h : St W0 _ K (.raw hb #[.int .i64 a, .int .i64 0, .int .i64 0, .bool false, .string ⟨#[]⟩] 38 :: .raw rb #[.int .i64 0, .int .i64 0, .int .i64 0, .bool false, .string ⟨#[]⟩] 38 :: .inp p i2 :: L) := h.p2.p2; replace H := Lib.hid h; clear h; obtain ⟨x0, x1, x2, x3, x4, y0, y1, y2, y3, y4⟩ := raw5 (b := hb) (H.out); obtain ⟨z0, z1, z2, z3, z4, _⟩ := raw5 (b := hb) (show St W0 _ K (.raw hb #[.int .i64 a, .int .i64 v, .int .i64 0, .bool false, .string ⟨#[]⟩] 38 :: _) from H.out.rawSet 1 (.int .i64 v)); have t3 : True := trivial; clear t2)
        | (go_at_call 11; (with_reducible refine (ver_check a v e EV.out HK.out (show St W0 _ K (.raw hb #[.int .i64 a, .int .i64 v, .int .i64 0, .bool false, .string ⟨#[]⟩] 38 :: .raw rb #[.int .i64 0, .int .i64 0, .int .i64 0, .bool false, .string ⟨#[]⟩] 38 :: .inp p i2 :: L) from H.out.rawSet 1 (.int .i64 v))).mono ?_); rintro e_ wn ⟨rfl, h⟩; replace H := Lib.hid h; clear h)
        | (go_at_call 35; (with_reducible refine (s_failQ p i2 i3 e E2.out (H.out.p2)).mono ?_); rintro e_ wn ⟨rfl, h⟩; have h : St W0 _ K (.raw hb #[.int .i64 a, .int .i64 v, .int .i64 0, .bool false, .string ⟨#[]⟩] 38 :: .raw rb #[.int .i64 0, .int .i64 0, .int .i64 0, .bool false, .string ⟨#[]⟩] 38 :: .inp p i3 :: L) := h.p2.p2; replace H := Lib.hid h; clear h)
        | (go_at_call 34; have _t := t3; clear _t; (with_reducible refine (s_intQ p i3 i4 4 n E3.out (H.out.p2)).mono ?_); rintro e_ wn ⟨rfl, h⟩; have h : St W0 _ K (.raw hb #[.int .i64 a, .int .i64 v, .int .i64 0, .bool false, .string ⟨#[]⟩] 38 :: .raw rb #[.int .i64 0, .int .i64 0, .int .i64 0, .bool false, .string ⟨#[]⟩] 38 :: .inp p i4 :: L) := h.p2.p2; replace H := Lib.hid h; clear h; obtain ⟨x0, x1, x2, x3, x4, y0, y1, y2, y3, y4⟩ := raw5 (b := hb) (H.out); clear t3)
        | (go_at_call 36; (with_reducible refine (blob_fixed2 p i4 i5 u d E4.out (show St W0 _ K (.inp p i4 :: .raw hb #[.int .i64 a, .int .i64 v, .int .i64 n, .bool false, .string ⟨#[]⟩] 38 :: .raw rb #[.int .i64 0, .int .i64 0, .int .i64 0, .bool false, .string ⟨#[]⟩] 38 :: L) from (H.out.rawSet 2 (.int .i64 n)).p2)).mono ?_); rintro e_ wn ⟨rfl, h⟩; have h : St W0 _ K (.raw hb #[.int .i64 a, .int .i64 v, .int .i64 n, .bool false, .string ⟨#[]⟩] 38 :: .raw rb #[.int .i64 0, .int .i64 0, .int .i64 0, .bool false, .string ⟨#[]⟩] 38 :: .inp p i5 :: L) := h.p2.p2; replace H := Lib.hid h; clear h; obtain ⟨x0, x1, x2, x3, x4, y0, y1, y2, y3, y4⟩ := raw5 (b := hb) (H.out))
        | (go_at_call 23; (with_reducible refine (s_errQ p i5 er E5.out (show St W0 _ K (.inp p i5 :: .raw hb #[.int .i64 a, .int .i64 v, .int .i64 n, .bool u, .string (bb d)] 38 :: .raw rb #[.int .i64 0, .int .i64 0, .int .i64 0, .bool false, .string ⟨#[]⟩] 38 :: L) from ((H.out.rawSet 3 (.bool u)).rawSet 4 (.string (bb d))).p2)).mono ?_); rintro e_ wn ⟨rfl, h⟩; have h : St W0 _ K (.raw rb #[.int .i64 0, .int .i64 0, .int .i64 0, .bool false, .string ⟨#[]⟩] 38 :: .raw hb #[.int .i64 a, .int .i64 v, .int .i64 n, .bool u, .string (bb d)] 38 :: .inp p i5 :: L) := h.p1.p2; replace H := Lib.hid h; clear h; obtain ⟨p0, p1, p2, p3, p4, q0, q1, q2, q3, q4⟩ := raw5 (b := rb) (H.out); obtain ⟨x0, x1, x2, x3, x4, y0, y1, y2, y3, y4⟩ := raw5 (b := hb) (H.out.p1)))
      have hz : St W0 _ K (.raw rb #[.int .i64 0, .int .i64 0, .int .i64 0, .bool false, .string ⟨#[]⟩] 38 :: _) := (((((H.out.rawSet 0 _).rawSet 1 _).rawSet 2 _).rawSet 3 _).rawSet 4 _)
      refine bodyPost_ret (results_cell_only rfl _ _ rb [.int .i64 0, .int .i64 0, .int .i64 0, .bool false, .string ⟨#[]⟩] _ rfl (St.range hz) Tryd.underlying38 rfl (by kernel_rfl)) rfl ?_
      exact ⟨rfl, hz.drop.drop⟩

end Go.Proofs.YtngnhdiafbjfkaaDoor
