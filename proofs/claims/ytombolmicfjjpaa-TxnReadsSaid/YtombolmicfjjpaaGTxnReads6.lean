/- Requests of transactions: may they be written. -/
import Derived.Test.YtombolmicfjjpaaGTxnReads5
import Derived.Test.YtombolmicfjjpaaGTxnReads4
import Derived.Test.YtombolmicfjjpaaGTxnReads2
/- Values, decoded. -/
namespace Go.Proofs.Ytombolmicfjjpaa
open Go.RowKit

theorem St.sets7 {W0 w : World} {K : Know} {L : List Res} {b : Nat} {T : TypeId} {a0 a1 a2 a3 a4 a5 a6 : Value} (v0 v1 v2 v3 v4 v5 v6 : Value) (h : St W0 w K (.raw b #[a0, a1, a2, a3, a4, a5, a6] T :: L)) : St W0 (((((((w.setCell ⟨b, 0, none⟩ v0).setCell ⟨b, 1, none⟩ v1).setCell ⟨b, 2, none⟩ v2).setCell ⟨b, 3, none⟩ v3).setCell ⟨b, 4, none⟩ v4).setCell ⟨b, 5, none⟩ v5).setCell ⟨b, 6, none⟩ v6) K (.raw b #[v0, v1, v2, v3, v4, v5, v6] T :: L) := by
  have h : St W0 _ K (.raw b #[v0, a1, a2, a3, a4, a5, a6] T :: L) := h.rawSet 0 v0
  have h : St W0 _ K (.raw b #[v0, v1, a2, a3, a4, a5, a6] T :: L) := h.rawSet 1 v1
  have h : St W0 _ K (.raw b #[v0, v1, v2, a3, a4, a5, a6] T :: L) := h.rawSet 2 v2
  have h : St W0 _ K (.raw b #[v0, v1, v2, v3, a4, a5, a6] T :: L) := h.rawSet 3 v3
  have h : St W0 _ K (.raw b #[v0, v1, v2, v3, v4, a5, a6] T :: L) := h.rawSet 4 v4
  have h : St W0 _ K (.raw b #[v0, v1, v2, v3, v4, v5, a6] T :: L) := h.rawSet 5 v5
  have h : St W0 _ K (.raw b #[v0, v1, v2, v3, v4, v5, v6] T :: L) := h.rawSet 6 v6
  exact h
theorem s_failV (p : Nat) (i j : InS) (e : Int) (hx : i.fail e = j) {W0 w : World} {K : Know} {L : List Res} (h : St W0 w K (.inp p i :: L)) :
    Calls Try.prog 73 #[inPtr p, .int .i64 e] w fun en w' => en = .returned (.tuple #[]) ∧ St W0 w' K (.inp p j :: L) := by
  subst hx; exact s_fail p i e h
theorem s_closeV (p : Nat) (i : InS) (e : Int) (hx : i.close.err = e) {W0 w : World} {K : Know} {L : List Res} (h : St W0 w K (.inp p i :: L)) :
    Calls Try.prog 34 #[inPtr p] w fun en w' => en = .returned (.int .i64 e) ∧ St W0 w' K (.inp p i.close :: L) := by
  subst hx; exact s_close p i h
set_option maxHeartbeats 12000000 in
set_option maxRecDepth 100000 in
theorem val_decode_bad (S : Bs) (hsl : S.length ≤ 1000000) (v : ValS) (E : Int) (hv : valDec S = (v, E)) (h0 : E ≠ 0) {W0 w : World} {K : Know} {L : List Res} (h : St W0 w K L) :
    Calls Try.prog 18 #[.string (bb S)] w fun en w' => en = .returned (.tuple #[.agg #[.int .i64 0, .int .i64 0, .int .i64 0, .int .i64 0, .slice none 0 0, .int .i64 0, .int .i64 0], .int .i64 E]) ∧ St W0 w' K L := by
  obtain ⟨rb, hrb⟩ : ∃ b, w.heap.size = b := ⟨_, rfl⟩
  have g1 := h.allocRaw #[.int .i64 0, .int .i64 0, .int .i64 0, .int .i64 0, .slice none 0 0, .int .i64 0, .int .i64 0] 24
  rw [hrb] at g1
  have H := Lib.hid g1
  have HSL := Lib.hid (show S.length ≤ 140737488355328 by omega)
  obtain ⟨⟨a, j0⟩, ha⟩ : ∃ r, (⟨S, 0, 0⟩ : InS).int 2 = r := ⟨_, rfl⟩
  have HA := Lib.hid ha
  have hat := decI_at S
  obtain ⟨j, hj⟩ : ∃ j, decI S = j := ⟨_, rfl⟩
  have hjj : j = if a = 0 then j0 else j0.fail 7 := by rw [← hj]; unfold decI; rw [ha]
  obtain ⟨⟨p, i1⟩, h1⟩ : ∃ r, j.int 8 = r := ⟨_, rfl⟩
  obtain ⟨⟨e, i2⟩, h2⟩ : ∃ r, i1.int 2 = r := ⟨_, rfl⟩
  obtain ⟨⟨t, i3⟩, h3⟩ : ∃ r, i2.int 4 = r := ⟨_, rfl⟩
  obtain ⟨⟨s, i4⟩, h4⟩ : ∃ r, i3.int 1 = r := ⟨_, rfl⟩
  obtain ⟨⟨l, i5⟩, h5⟩ : ∃ r, i4.tops = r := ⟨_, rfl⟩
  obtain ⟨⟨u, i6⟩, h6⟩ : ∃ r, i5.int 8 = r := ⟨_, rfl⟩
  obtain ⟨⟨st, i7⟩, h7⟩ : ∃ r, i6.int 8 = r := ⟨_, rfl⟩
  have hF := valF_eq h1 h2 h3 h4 h5 h6 h7
  rw [hj] at hat
  have hfl := valF_few hat hsl
  rw [hF] at hfl
  have H1 := Lib.hid h1
  have H2 := Lib.hid h2
  have H3 := Lib.hid h3
  have H4 := Lib.hid h4
  have H5 := Lib.hid h5
  have H6 := Lib.hid h6
  have H7 := Lib.hid h7
  have HFL := Lib.hid (show FewL l from hfl)
  obtain ⟨ec, hec⟩ : ∃ ec, i7.close.err = ec := ⟨_, rfl⟩
  have HEC := Lib.hid hec
  have hde : decE S = ec := by unfold decE; rw [hj, hF]; exact hec
  have hb := valDec_bad hv h0
  rw [hde, hj, hF] at hb
  have gE : (E == 0) = false := by rw [beq_eq_false_iff_ne]; exact h0
  have gE2 : (E != 0) = true := by simp [bne, gE]
  have hdz := fun (hz : ec = 0) => decE_zero (s := S) (by rw [hde]; exact hz)
  rw [ha] at hdz
  rcases hb with hb | ⟨hb1, hb2⟩
  · subst hb
    by_cases ha0 : a = 0
    · as_aux_lemma =>
      rw [if_pos ha0] at hjj
      subst hjj
      subst ha0
      clear h g1 ha hat hj h1 h2 h3 h4 h5 h6 h7 hF hfl hec hde hdz hv hsl h0
      go_enter Try.func18, Try.ntmps18
      go_wp2_with (first
    | (go_at_call 24; (with_reducible refine (s_new S HSL.out H.out).mono ?_); rintro e_ wn ⟨bi, rfl, h⟩; replace H := Lib.hid h; clear h)
    | (go_at_call 72; (with_reducible refine (s_intV bi _ _ _ 2 HA.out H.out).mono ?_); rintro e_ wn ⟨rfl, h⟩; replace H := Lib.hid h; clear h)
    | (go_at_call 74; (with_reducible refine (val_fields bi _ _ _ _ _ _ _ _ p e t s u st l H1.out H2.out H3.out H4.out H5.out H6.out H7.out H.out).mono ?_); rintro e_ wn ⟨qt, capt, lr, rfl, hlr, h⟩; obtain ⟨vb, hvb⟩ : ∃ b, wn.heap.size = b := ⟨_, rfl⟩; have h := h.allocRaw #[.int .i64 p, .int .i64 e, .int .i64 t, .int .i64 s, .slice qt lr.length capt, .int .i64 u, .int .i64 st] 24; rw [hvb] at h; have HLR := Lib.hid hlr; clear hlr; replace H := Lib.hid h; clear h)
    | (go_at_call 34; (with_reducible refine (s_closeV bi _ _ HEC.out H.out.p1).mono ?_); rintro e_ wn ⟨rfl, h⟩; have c0 := h.p1.rawCell 0; have c1 := h.p1.rawCell 1; have c2 := h.p1.rawCell 2; have c3 := h.p1.rawCell 3; have c4 := h.p1.rawCell 4; have c5 := h.p1.rawCell 5; have c6 := h.p1.rawCell 6; simp at c0 c1 c2 c3 c4 c5 c6; have d0 := h.p2.rawCell 0; have r0 := h.p2.rawFree 0; have d1 := h.p2.rawCell 1; have r1 := h.p2.rawFree 1; have d2 := h.p2.rawCell 2; have r2 := h.p2.rawFree 2; have d3 := h.p2.rawCell 3; have r3 := h.p2.rawFree 3; have d4 := h.p2.rawCell 4; have r4 := h.p2.rawFree 4; have d5 := h.p2.rawCell 5; have r5 := h.p2.rawFree 5; have d6 := h.p2.rawCell 6; have r6 := h.p2.rawFree 6; simp at d0 d1 d2 d3 d4 d5 d6; replace H := Lib.hid h; clear h))
      have hz : St W0 _ _ (.raw rb #[.int .i64 0, .int .i64 0, .int .i64 0, .int .i64 0, .slice none 0 0, .int .i64 0, .int .i64 0] 24 :: _) := St.sets7 _ _ _ _ _ _ _ (H.out.p2)
      refine bodyPost_ret (rc_cell_tmp rfl _ _ rb [.int .i64 0, .int .i64 0, .int .i64 0, .int .i64 0, .slice none 0 0, .int .i64 0, .int .i64 0] _ rfl (rc_range hz) Try.underlying24 rfl (by kernel_rfl)) rfl ?_
      exact ⟨rfl, (hz.drop.drop.drop).know (Know.has_left (Know.has_refl _))⟩
    · as_aux_lemma =>
      rw [if_neg ha0] at hjj
      have HJ := Lib.hid hjj.symm
      have ga : (a == 0) = false := by rw [beq_eq_false_iff_ne]; exact ha0
      have ga2 : (a != 0) = true := by simp [bne, ga]
      clear h g1 ha hat hj h1 h2 h3 h4 h5 h6 h7 hF hfl hec hde hdz hv hsl h0 hjj ha0
      go_enter Try.func18, Try.ntmps18
      go_wp2_with (first
    | (go_at_call 24; (with_reducible refine (s_new S HSL.out H.out).mono ?_); rintro e_ wn ⟨bi, rfl, h⟩; replace H := Lib.hid h; clear h)
    | (go_at_call 72; (with_reducible refine (s_intV bi _ _ _ 2 HA.out H.out).mono ?_); rintro e_ wn ⟨rfl, h⟩; replace H := Lib.hid h; clear h)
    | (go_at_call 73; (with_reducible refine (s_failV bi _ _ 7 HJ.out H.out).mono ?_); rintro e_ wn ⟨rfl, h⟩; replace H := Lib.hid h; clear h)
    | (go_at_call 74; (with_reducible refine (val_fields bi _ _ _ _ _ _ _ _ p e t s u st l H1.out H2.out H3.out H4.out H5.out H6.out H7.out H.out).mono ?_); rintro e_ wn ⟨qt, capt, lr, rfl, hlr, h⟩; obtain ⟨vb, hvb⟩ : ∃ b, wn.heap.size = b := ⟨_, rfl⟩; have h := h.allocRaw #[.int .i64 p, .int .i64 e, .int .i64 t, .int .i64 s, .slice qt lr.length capt, .int .i64 u, .int .i64 st] 24; rw [hvb] at h; have HLR := Lib.hid hlr; clear hlr; replace H := Lib.hid h; clear h)
    | (go_at_call 34; (with_reducible refine (s_closeV bi _ _ HEC.out H.out.p1).mono ?_); rintro e_ wn ⟨rfl, h⟩; have c0 := h.p1.rawCell 0; have c1 := h.p1.rawCell 1; have c2 := h.p1.rawCell 2; have c3 := h.p1.rawCell 3; have c4 := h.p1.rawCell 4; have c5 := h.p1.rawCell 5; have c6 := h.p1.rawCell 6; simp at c0 c1 c2 c3 c4 c5 c6; have d0 := h.p2.rawCell 0; have r0 := h.p2.rawFree 0; have d1 := h.p2.rawCell 1; have r1 := h.p2.rawFree 1; have d2 := h.p2.rawCell 2; have r2 := h.p2.rawFree 2; have d3 := h.p2.rawCell 3; have r3 := h.p2.rawFree 3; have d4 := h.p2.rawCell 4; have r4 := h.p2.rawFree 4; have d5 := h.p2.rawCell 5; have r5 := h.p2.rawFree 5; have d6 := h.p2.rawCell 6; have r6 := h.p2.rawFree 6; simp at d0 d1 d2 d3 d4 d5 d6; replace H := Lib.hid h; clear h))
      have hz : St W0 _ _ (.raw rb #[.int .i64 0, .int .i64 0, .int .i64 0, .int .i64 0, .slice none 0 0, .int .i64 0, .int .i64 0] 24 :: _) := St.sets7 _ _ _ _ _ _ _ (H.out.p2)
      refine bodyPost_ret (rc_cell_tmp rfl _ _ rb [.int .i64 0, .int .i64 0, .int .i64 0, .int .i64 0, .slice none 0 0, .int .i64 0, .int .i64 0] _ rfl (rc_range hz) Try.underlying24 rfl (by kernel_rfl)) rfl ?_
      exact ⟨rfl, (hz.drop.drop.drop).know (Know.has_left (Know.has_refl _))⟩
  · as_aux_lemma =>
    have ha0 : a = 0 := hdz hb1
    rw [if_pos ha0] at hjj
    subst hjj
    subst ha0
    subst hb1
    have HE := Lib.hid (show ValS.err ⟨p, e, t, s, l, u, st⟩ = E from hb2)
    clear h g1 ha hat hj h1 h2 h3 h4 h5 h6 h7 hF hfl hec hde hdz hv hsl h0 hb2
    go_enter Try.func18, Try.ntmps18
    go_wp2_with (first
    | (go_at_call 24; (with_reducible refine (s_new S HSL.out H.out).mono ?_); rintro e_ wn ⟨bi, rfl, h⟩; replace H := Lib.hid h; clear h)
    | (go_at_call 72; (with_reducible refine (s_intV bi _ _ _ 2 HA.out H.out).mono ?_); rintro e_ wn ⟨rfl, h⟩; replace H := Lib.hid h; clear h)
    | (go_at_call 74; (with_reducible refine (val_fields bi _ _ _ _ _ _ _ _ p e t s u st l H1.out H2.out H3.out H4.out H5.out H6.out H7.out H.out).mono ?_); rintro e_ wn ⟨qt, capt, lr, rfl, hlr, h⟩; obtain ⟨vb, hvb⟩ : ∃ b, wn.heap.size = b := ⟨_, rfl⟩; have h := h.allocRaw #[.int .i64 p, .int .i64 e, .int .i64 t, .int .i64 s, .slice qt lr.length capt, .int .i64 u, .int .i64 st] 24; rw [hvb] at h; have HLR := Lib.hid hlr; clear hlr; replace H := Lib.hid h; clear h)
    | (go_at_call 34; (with_reducible refine (s_closeV bi _ _ HEC.out H.out.p1).mono ?_); rintro e_ wn ⟨rfl, h⟩; have c0 := h.p1.rawCell 0; have c1 := h.p1.rawCell 1; have c2 := h.p1.rawCell 2; have c3 := h.p1.rawCell 3; have c4 := h.p1.rawCell 4; have c5 := h.p1.rawCell 5; have c6 := h.p1.rawCell 6; simp at c0 c1 c2 c3 c4 c5 c6; have d0 := h.p2.rawCell 0; have r0 := h.p2.rawFree 0; have d1 := h.p2.rawCell 1; have r1 := h.p2.rawFree 1; have d2 := h.p2.rawCell 2; have r2 := h.p2.rawFree 2; have d3 := h.p2.rawCell 3; have r3 := h.p2.rawFree 3; have d4 := h.p2.rawCell 4; have r4 := h.p2.rawFree 4; have d5 := h.p2.rawCell 5; have r5 := h.p2.rawFree 5; have d6 := h.p2.rawCell 6; have r6 := h.p2.rawFree 6; simp at d0 d1 d2 d3 d4 d5 d6; replace H := Lib.hid h; clear h)
    | (go_at_call 17; (with_reducible refine (val_checkV p e t s u st lr _ _ E (by rw [HLR.out]; exact HE.out) (fewT_of (by rw [HLR.out]; exact HFL.out)) (Know.has_right (Know.has_refl _)) H.out).mono ?_); rintro e_ wn ⟨rfl, h⟩; have c0 := h.p1.rawCell 0; have c1 := h.p1.rawCell 1; have c2 := h.p1.rawCell 2; have c3 := h.p1.rawCell 3; have c4 := h.p1.rawCell 4; have c5 := h.p1.rawCell 5; have c6 := h.p1.rawCell 6; simp at c0 c1 c2 c3 c4 c5 c6; have d0 := h.p2.rawCell 0; have r0 := h.p2.rawFree 0; have d1 := h.p2.rawCell 1; have r1 := h.p2.rawFree 1; have d2 := h.p2.rawCell 2; have r2 := h.p2.rawFree 2; have d3 := h.p2.rawCell 3; have r3 := h.p2.rawFree 3; have d4 := h.p2.rawCell 4; have r4 := h.p2.rawFree 4; have d5 := h.p2.rawCell 5; have r5 := h.p2.rawFree 5; have d6 := h.p2.rawCell 6; have r6 := h.p2.rawFree 6; simp at d0 d1 d2 d3 d4 d5 d6; replace H := Lib.hid h; clear h))
    have hz : St W0 _ _ (.raw rb #[.int .i64 0, .int .i64 0, .int .i64 0, .int .i64 0, .slice none 0 0, .int .i64 0, .int .i64 0] 24 :: _) := St.sets7 _ _ _ _ _ _ _ (H.out.p2)
    refine bodyPost_ret (rc_cell_tmp rfl _ _ rb [.int .i64 0, .int .i64 0, .int .i64 0, .int .i64 0, .slice none 0 0, .int .i64 0, .int .i64 0] _ rfl (rc_range hz) Try.underlying24 rfl (by kernel_rfl)) rfl ?_
    exact ⟨rfl, (hz.drop.drop.drop).know (Know.has_left (Know.has_refl _))⟩
set_option maxHeartbeats 12000000 in
set_option maxRecDepth 100000 in
theorem val_decode_ok (S : Bs) (hsl : S.length ≤ 1000000) (v : ValS) (hv : valDec S = (v, 0)) {W0 w : World} {K : Know} {L : List Res} (h : St W0 w K L) :
    Calls Try.prog 18 #[.string (bb S)] w fun en w' => ∃ (qt : Option Addr) (capt : Nat) (lr : List (TopS × Value)), en = .returned (.tuple #[.agg #[.int .i64 v.prod, .int .i64 v.epoch, .int .i64 v.timeout, .int .i64 v.state, .slice qt lr.length capt, .int .i64 v.upd, .int .i64 v.started], .int .i64 0]) ∧ lr.map (·.1) = v.tops ∧ St W0 w' (K.and (Know.tops (.slice qt lr.length capt) lr)) L := by
  obtain ⟨rb, hrb⟩ : ∃ b, w.heap.size = b := ⟨_, rfl⟩
  have g1 := h.allocRaw #[.int .i64 0, .int .i64 0, .int .i64 0, .int .i64 0, .slice none 0 0, .int .i64 0, .int .i64 0] 24
  rw [hrb] at g1
  have H := Lib.hid g1
  have HSL := Lib.hid (show S.length ≤ 140737488355328 by omega)
  obtain ⟨⟨a, j0⟩, ha⟩ : ∃ r, (⟨S, 0, 0⟩ : InS).int 2 = r := ⟨_, rfl⟩
  have HA := Lib.hid ha
  have hat := decI_at S
  obtain ⟨j, hj⟩ : ∃ j, decI S = j := ⟨_, rfl⟩
  have hjj : j = if a = 0 then j0 else j0.fail 7 := by rw [← hj]; unfold decI; rw [ha]
  obtain ⟨⟨p, i1⟩, h1⟩ : ∃ r, j.int 8 = r := ⟨_, rfl⟩
  obtain ⟨⟨e, i2⟩, h2⟩ : ∃ r, i1.int 2 = r := ⟨_, rfl⟩
  obtain ⟨⟨t, i3⟩, h3⟩ : ∃ r, i2.int 4 = r := ⟨_, rfl⟩
  obtain ⟨⟨s, i4⟩, h4⟩ : ∃ r, i3.int 1 = r := ⟨_, rfl⟩
  obtain ⟨⟨l, i5⟩, h5⟩ : ∃ r, i4.tops = r := ⟨_, rfl⟩
  obtain ⟨⟨u, i6⟩, h6⟩ : ∃ r, i5.int 8 = r := ⟨_, rfl⟩
  obtain ⟨⟨st, i7⟩, h7⟩ : ∃ r, i6.int 8 = r := ⟨_, rfl⟩
  have hF := valF_eq h1 h2 h3 h4 h5 h6 h7
  rw [hj] at hat
  have hfl := valF_few hat hsl
  rw [hF] at hfl
  have H1 := Lib.hid h1
  have H2 := Lib.hid h2
  have H3 := Lib.hid h3
  have H4 := Lib.hid h4
  have H5 := Lib.hid h5
  have H6 := Lib.hid h6
  have H7 := Lib.hid h7
  have HFL := Lib.hid (show FewL l from hfl)
  obtain ⟨ec, hec⟩ : ∃ ec, i7.close.err = ec := ⟨_, rfl⟩
  have HEC := Lib.hid hec
  have hde : decE S = ec := by unfold decE; rw [hj, hF]; exact hec
  obtain ⟨hb1, hb2, hb3⟩ := valDec_ok hv (.inr trivial)
  rw [hde] at hb1
  rw [hj, hF] at hb2
  have hdz := decE_zero (s := S) (by rw [hde]; exact hb1)
  rw [ha] at hdz
  have ha0 : a = 0 := hdz
  rw [if_pos ha0] at hjj
  have hb2 : (⟨p, e, t, s, l, u, st⟩ : ValS) = v := hb2
  subst hb2
  subst hjj
  subst ha0
  subst hb1
  have HE := Lib.hid hb3
  clear h g1 ha hat hj h1 h2 h3 h4 h5 h6 h7 hF hfl hec hde hdz hv hsl hb3
  go_enter Try.func18, Try.ntmps18
  go_wp2_with (first
    | (go_at_call 24; (with_reducible refine (s_new S HSL.out H.out).mono ?_); rintro e_ wn ⟨bi, rfl, h⟩; replace H := Lib.hid h; clear h)
    | (go_at_call 72; (with_reducible refine (s_intV bi _ _ _ 2 HA.out H.out).mono ?_); rintro e_ wn ⟨rfl, h⟩; replace H := Lib.hid h; clear h)
    | (go_at_call 74; (with_reducible refine (val_fields bi _ _ _ _ _ _ _ _ p e t s u st l H1.out H2.out H3.out H4.out H5.out H6.out H7.out H.out).mono ?_); rintro e_ wn ⟨qt, capt, lr, rfl, hlr, h⟩; obtain ⟨vb, hvb⟩ : ∃ b, wn.heap.size = b := ⟨_, rfl⟩; have h := h.allocRaw #[.int .i64 p, .int .i64 e, .int .i64 t, .int .i64 s, .slice qt lr.length capt, .int .i64 u, .int .i64 st] 24; rw [hvb] at h; have HLR := Lib.hid hlr; clear hlr; replace H := Lib.hid h; clear h)
    | (go_at_call 34; (with_reducible refine (s_closeV bi _ _ HEC.out H.out.p1).mono ?_); rintro e_ wn ⟨rfl, h⟩; have c0 := h.p1.rawCell 0; have c1 := h.p1.rawCell 1; have c2 := h.p1.rawCell 2; have c3 := h.p1.rawCell 3; have c4 := h.p1.rawCell 4; have c5 := h.p1.rawCell 5; have c6 := h.p1.rawCell 6; simp at c0 c1 c2 c3 c4 c5 c6; have d0 := h.p2.rawCell 0; have r0 := h.p2.rawFree 0; have d1 := h.p2.rawCell 1; have r1 := h.p2.rawFree 1; have d2 := h.p2.rawCell 2; have r2 := h.p2.rawFree 2; have d3 := h.p2.rawCell 3; have r3 := h.p2.rawFree 3; have d4 := h.p2.rawCell 4; have r4 := h.p2.rawFree 4; have d5 := h.p2.rawCell 5; have r5 := h.p2.rawFree 5; have d6 := h.p2.rawCell 6; have r6 := h.p2.rawFree 6; simp at d0 d1 d2 d3 d4 d5 d6; replace H := Lib.hid h; clear h)
    | (go_at_call 17; (with_reducible refine (val_checkV p e t s u st lr _ _ 0 (by rw [HLR.out]; exact HE.out) (fewT_of (by rw [HLR.out]; exact HFL.out)) (Know.has_right (Know.has_refl _)) H.out).mono ?_); rintro e_ wn ⟨rfl, h⟩; have c0 := h.p1.rawCell 0; have c1 := h.p1.rawCell 1; have c2 := h.p1.rawCell 2; have c3 := h.p1.rawCell 3; have c4 := h.p1.rawCell 4; have c5 := h.p1.rawCell 5; have c6 := h.p1.rawCell 6; simp at c0 c1 c2 c3 c4 c5 c6; have d0 := h.p2.rawCell 0; have r0 := h.p2.rawFree 0; have d1 := h.p2.rawCell 1; have r1 := h.p2.rawFree 1; have d2 := h.p2.rawCell 2; have r2 := h.p2.rawFree 2; have d3 := h.p2.rawCell 3; have r3 := h.p2.rawFree 3; have d4 := h.p2.rawCell 4; have r4 := h.p2.rawFree 4; have d5 := h.p2.rawCell 5; have r5 := h.p2.rawFree 5; have d6 := h.p2.rawCell 6; have r6 := h.p2.rawFree 6; simp at d0 d1 d2 d3 d4 d5 d6; replace H := Lib.hid h; clear h))
  have hz : St W0 _ _ (.raw rb #[.int .i64 p, .int .i64 e, .int .i64 t, .int .i64 s, .slice qt lr.length capt, .int .i64 u, .int .i64 st] 24 :: _) := St.sets7 _ _ _ _ _ _ _ (H.out.p2)
  refine bodyPost_ret (rc_cell_tmp rfl _ _ rb [.int .i64 p, .int .i64 e, .int .i64 t, .int .i64 s, .slice qt lr.length capt, .int .i64 u, .int .i64 st] _ rfl (rc_range hz) Try.underlying24 rfl (by kernel_rfl)) rfl ?_
  exact ⟨qt, capt, lr, rfl, HLR.out, hz.drop.drop.drop⟩

end Go.Proofs.Ytombolmicfjjpaa

/- Parts of requests of transactions. -/
namespace Go.Proofs.Ytombolmicfjjpaa
open Go.RowKit

set_option maxHeartbeats 1000000 in
set_option maxRecDepth 100000 in
theorem txn_who (p e : Int) (r : Bool) (hr : who p e = r) {W0 w : World} {K : Know} {L : List Res} (h : St W0 w K L) :
    Calls Try.prog 46 #[.int .i64 p, .int .i64 e] w fun en w' => en = .returned (.bool r) ∧ St W0 w' K L := by
  have H := Lib.hid h
  clear h
  cases r with
  | true =>
    obtain ⟨h1, h2, h3⟩ := who_t hr
    clear hr

    go_enter Try.func46, Try.ntmps46
    go_wp2
    go_ret
    exact ⟨rfl, H.out⟩
  | false =>
    by_cases h1 : p < 0
    · have g1 : ¬ (0 ≤ p) := by omega
      clear hr

      go_enter Try.func46, Try.ntmps46
      go_wp2
      go_ret
      exact ⟨rfl, H.out⟩
    · have g1 : 0 ≤ p := by omega
      by_cases h2 : e < 0
      · have g2 : ¬ (0 ≤ e) := by omega
        clear hr

        go_enter Try.func46, Try.ntmps46
        go_wp2
        go_ret
        exact ⟨rfl, H.out⟩
      · have g2 : 0 ≤ e := by omega
        have g3 : ¬ (e ≤ 32767) := by rcases who_f hr with h | h | h <;> omega
        clear hr

        go_enter Try.func46, Try.ntmps46
        go_wp2
        go_ret
        exact ⟨rfl, H.out⟩

set_option maxHeartbeats 1000000 in
set_option maxRecDepth 100000 in
theorem txn_rise (l : List (TopS × Value)) (q : Option Addr) (cap : Nat) (E : Int) (hE : riseE (l.map (·.1)) = E) (hf : FewT l) {W0 w : World} {K : Know} {L : List Res} (hk : K.has (Know.tops (.slice q l.length cap) l)) (h : St W0 w K L) :
    Calls Try.prog 47 #[.slice q l.length cap] w fun en w' => en = .returned (.int .i64 E) ∧ St W0 w' K L := by
  have H := Lib.hid h
  have HE := Lib.hid ((riseE_eq _).trans hE)
  have HF := Lib.hid hf
  have HK := Lib.hid hk
  clear h hE hf hk
  go_enter Try.func47, Try.ntmps47
  go_wp2_with (go_at_call 17; (with_reducible refine (val_checkV 0 0 0 1 0 0 l _ _ _ HE.out HF.out HK.out H.out).mono ?_); rintro e_ wn ⟨rfl, h⟩; replace H := Lib.hid h; clear h)
  go_ret
  exact ⟨rfl, H.out⟩
set_option maxHeartbeats 1000000 in
set_option maxRecDepth 100000 in
theorem s_bool (b : Nat) (i j : InS) (c : Bool) (hx : i.boolP = (c, j)) {W0 w : World} {K : Know} {L : List Res} (h : St W0 w K (.inp b i :: L)) :
    Calls Try.prog 48 #[inPtr b] w fun en w' => en = .returned (.bool c) ∧ St W0 w' K (.inp b j :: L) := by
  have H := Lib.hid h
  clear h
  obtain ⟨⟨n, k⟩, hn⟩ : ∃ r, i.int 1 = r := ⟨_, rfl⟩
  have HN := Lib.hid hn
  unfold InS.boolP at hx
  rw [hn] at hx
  simp only [Prod.mk.injEq] at hx
  obtain ⟨hc, hj⟩ := hx
  clear hn
  by_cases h0 : n = 0
  · rw [if_neg (by omega)] at hj
    subst h0 hj hc
    go_enter Try.func48, Try.ntmps48
    go_wp2_with (go_at_call 72; (with_reducible refine (s_intV b _ _ _ 1 HN.out H.out).mono ?_); rintro e_ wn ⟨rfl, h⟩; replace H := Lib.hid h; clear h)
    go_ret
    exact ⟨rfl, H.out⟩
  · by_cases h1 : n = 1
    · rw [if_neg (by omega)] at hj
      subst h1 hj hc
      go_enter Try.func48, Try.ntmps48
      go_wp2_with (go_at_call 72; (with_reducible refine (s_intV b _ _ _ 1 HN.out H.out).mono ?_); rintro e_ wn ⟨rfl, h⟩; replace H := Lib.hid h; clear h)
      go_ret
      exact ⟨rfl, H.out⟩
    · rw [if_pos ⟨h0, h1⟩] at hj
      have g0 : (n == 0) = false := by rw [beq_eq_false_iff_ne]; exact h0
      have g00 : (n != 0) = true := by simp [bne, g0]
      have g1 : (n == 1) = false := by rw [beq_eq_false_iff_ne]; exact h1
      have g11 : (n != 1) = true := by simp [bne, g1]
      rw [g1] at hc
      subst hc
      have HJ := Lib.hid hj
      clear hj h0 h1
      go_enter Try.func48, Try.ntmps48
      go_wp2_with (first
    | (go_at_call 72; (with_reducible refine (s_intV b _ _ _ 1 HN.out H.out).mono ?_); rintro e_ wn ⟨rfl, h⟩; replace H := Lib.hid h; clear h)
    | (go_at_call 73; (with_reducible refine (s_failV b _ _ 11 HJ.out H.out).mono ?_); rintro e_ wn ⟨rfl, h⟩; replace H := Lib.hid h; clear h))
      go_ret
      exact ⟨rfl, H.out⟩
theorem so_byteV (b : Nat) (e e2 : Bs) (c : UInt8) (n : Int) (hn : n = c.toNat) (he : e ++ [c] = e2) (hl : e.length ≤ 100000000000000) {W0 w : World} {K : Know} {L : List Res} (h : St W0 w K (.out b ⟨e, 0⟩ :: L)) :
    Calls Try.prog 102 #[outPtr b, .int .u8 n] w fun en w' => en = .returned (.tuple #[]) ∧ St W0 w' K (.out b ⟨e2, 0⟩ :: L) := by
  subst he hn; exact so_byte b ⟨e, 0⟩ c h (by unfold OutS.ok; simp only; omega)
set_option maxHeartbeats 1000000 in
set_option maxRecDepth 100000 in
theorem txn_putBool (b : Nat) (e e2 : Bs) (c : Bool) (he : e ++ encO c = e2) (hl : e.length ≤ 100000000000000) {W0 w : World} {K : Know} {L : List Res} (h : St W0 w K (.out b ⟨e, 0⟩ :: L)) :
    Calls Try.prog 49 #[outPtr b, .bool c] w fun en w' => en = .returned (.tuple #[]) ∧ St W0 w' K (.out b ⟨e2, 0⟩ :: L) := by
  have H := Lib.hid h
  have HE := Lib.hid he
  have HL := Lib.hid hl
  clear h he hl
  cases c with
  | true =>
    have HE2 : Hid (e ++ [1] = e2) := Lib.hid HE.out
    have HN2 := Lib.hid (show (1 : Int) = ((1 : UInt8).toNat : Int) by decide)
    go_enter Try.func49, Try.ntmps49
    go_wp2_with (go_at_call 102; (with_reducible refine (so_byteV b e e2 1 1 HN2.out HE2.out HL.out H.out).mono ?_); rintro e_ wn ⟨rfl, h⟩; replace H := Lib.hid h; clear h)
    go_end0
    exact ⟨rfl, H.out⟩
  | false =>
    have HE2 : Hid (e ++ [0] = e2) := Lib.hid HE.out
    have HN2 := Lib.hid (show (0 : Int) = ((0 : UInt8).toNat : Int) by decide)
    go_enter Try.func49, Try.ntmps49
    go_wp2_with (go_at_call 102; (with_reducible refine (so_byteV b e e2 0 0 HN2.out HE2.out HL.out H.out).mono ?_); rintro e_ wn ⟨rfl, h⟩; replace H := Lib.hid h; clear h)
    go_end0
    exact ⟨rfl, H.out⟩
set_option maxHeartbeats 1000000 in
set_option maxRecDepth 100000 in
theorem txn_checkWriter (id : Bs) (p e : Int) (r : Int) (hr : chkW id p e = r) (hl : id.length ≤ 140737488355328) {W0 w : World} {K : Know} {L : List Res} (h : St W0 w K L) :
    Calls Try.prog 123 #[.string (bb id), .int .i64 p, .int .i64 e] w fun en w' => en = .returned (.int .i64 r) ∧ St W0 w' K L := by
  have H := Lib.hid h
  have HL := Lib.hid hl
  unfold chkW at hr
  obtain ⟨a, ha⟩ : ∃ a, keyRight id = a := ⟨_, rfl⟩
  obtain ⟨c, hc⟩ : ∃ c, who p e = c := ⟨_, rfl⟩
  have HA := Lib.hid ha
  have HC := Lib.hid hc
  rw [ha, hc] at hr
  clear h hl ha hc
  cases a with
  | false =>
    obtain rfl : (4 : Int) = r := hr
    go_enter Try.func123, Try.ntmps123
    go_wp2_with (go_at_call 89; (with_reducible refine (key_right' id _ HL.out HA.out H.out).mono ?_); rintro e_ wn ⟨rfl, h⟩; replace H := Lib.hid h; clear h)
    go_ret
    exact ⟨rfl, H.out⟩
  | true =>
    cases c with
    | false =>
      obtain rfl : (11 : Int) = r := hr
      go_enter Try.func123, Try.ntmps123
      go_wp2_with (first
    | (go_at_call 89; (with_reducible refine (key_right' id _ HL.out HA.out H.out).mono ?_); rintro e_ wn ⟨rfl, h⟩; replace H := Lib.hid h; clear h)
    | (go_at_call 46; (with_reducible refine (txn_who p e _ HC.out H.out).mono ?_); rintro e_ wn ⟨rfl, h⟩; replace H := Lib.hid h; clear h))
      go_ret
      exact ⟨rfl, H.out⟩
    | true =>
      obtain rfl : (0 : Int) = r := hr
      go_enter Try.func123, Try.ntmps123
      go_wp2_with (first
    | (go_at_call 89; (with_reducible refine (key_right' id _ HL.out HA.out H.out).mono ?_); rintro e_ wn ⟨rfl, h⟩; replace H := Lib.hid h; clear h)
    | (go_at_call 46; (with_reducible refine (txn_who p e _ HC.out H.out).mono ?_); rintro e_ wn ⟨rfl, h⟩; replace H := Lib.hid h; clear h))
      go_ret
      exact ⟨rfl, H.out⟩
set_option maxHeartbeats 1000000 in
set_option maxRecDepth 100000 in
theorem end_check (id : Bs) (p e : Int) (c : Bool) (r : Int) (hr : chkW id p e = r) (hl : id.length ≤ 140737488355328) {W0 w : World} {K : Know} {L : List Res} (h : St W0 w K L) :
    Calls Try.prog 96 #[.agg #[.string (bb id), .int .i64 p, .int .i64 e, .bool c]] w fun en w' => en = .returned (.int .i64 r) ∧ St W0 w' K L := by
  have h0 := h.allocRaw #[.string (bb id), .int .i64 p, .int .i64 e, .bool c] 136
  have H := Lib.hid h0
  have HR := Lib.hid hr
  have HL := Lib.hid hl
  clear h h0 hr hl
  go_enter Try.func96, Try.ntmps96
  go_wp2_with (go_at_call 123; (with_reducible refine (txn_checkWriter id p e _ HR.out HL.out H.out).mono ?_); rintro e_ wn ⟨rfl, h⟩; replace H := Lib.hid h; clear h)
  go_ret
  exact ⟨rfl, H.out.drop⟩

end Go.Proofs.Ytombolmicfjjpaa

/- Ends of transactions, written. -/
namespace Go.Proofs.Ytombolmicfjjpaa
open Go.RowKit

theorem so_failT (p : Nat) (o o2 : OutS) (e : Int) (hx : o.fail e = o2) {W0 w : World} {K : Know} {L : List Res} (h : St W0 w K (.out p o :: L)) :
    Calls Try.prog 103 #[outPtr p, .int .i64 e] w fun en w' => en = .returned (.tuple #[]) ∧ St W0 w' K (.out p o2 :: L) := by
  subst hx; exact so_fail p o e h
set_option maxHeartbeats 1000000 in
set_option maxRecDepth 100000 in
theorem may_end (b : Nat) (o o2 : OutS) (id : Bs) (p e : Int) (c : Bool) (r : Int) (t : Bool) (hr : chkW id p e = r) (ht : (r == 0) = t) (ho : (if r = 0 then o else o.fail r) = o2) (hl : id.length ≤ 140737488355328) {W0 w : World} {K : Know} {L : List Res} (h : St W0 w K (.out b o :: L)) :
    Calls Try.prog 116 #[outPtr b, .func (.func 96) #[.agg #[.string (bb id), .int .i64 p, .int .i64 e, .bool c]] #[]] w fun en w' => en = .returned (.bool t) ∧ St W0 w' K (.out b o2 :: L) := by
  have H := Lib.hid h
  have HR := Lib.hid hr
  have HL := Lib.hid hl
  clear h hr hl
  by_cases h0 : r = 0
  · rw [if_pos h0] at ho
    subst ho h0
    obtain rfl : true = t := ht
    go_enter Try.func116, Try.ntmps116
    go_wp2_with (go_at_call 96; go_loud ((with_reducible refine (end_check id p e c _ HR.out HL.out H.out).mono ?_)); rintro e_ wn ⟨rfl, h⟩; replace H := Lib.hid h; clear h)
    go_ret
    exact ⟨rfl, H.out⟩
  · rw [if_neg h0] at ho
    have HO := Lib.hid ho
    have g0 : (r == 0) = false := by rw [beq_eq_false_iff_ne]; exact h0
    have g00 : (r != 0) = true := by simp [bne, g0]
    rw [g0] at ht
    subst ht
    clear ho h0
    go_enter Try.func116, Try.ntmps116
    go_wp2_with (first
    | (go_at_call 96; (with_reducible refine (end_check id p e c _ HR.out HL.out H.out).mono ?_); rintro e_ wn ⟨rfl, h⟩; replace H := Lib.hid h; clear h)
    | (go_at_call 103; (with_reducible refine (so_failT b _ _ _ HO.out H.out).mono ?_); rintro e_ wn ⟨rfl, h⟩; replace H := Lib.hid h; clear h))
    go_ret
    exact ⟨rfl, H.out⟩

end Go.Proofs.Ytombolmicfjjpaa

/- Ends of transactions, written and read. -/
namespace Go.Proofs.Ytombolmicfjjpaa
open Go.RowKit

theorem chkW_ok {id : Bs} {p e : Int} (h : chkW id p e = 0) : keyRight id = true ∧ who p e = true := by
  unfold chkW at h
  by_cases h1 : keyRight id = false
  · rw [if_pos h1] at h; cases h
  · rw [if_neg h1] at h
    by_cases h2 : who p e = false
    · rw [if_pos h2] at h; cases h
    · exact ⟨by simpa using h1, by simpa using h2⟩
set_option maxHeartbeats 1000000 in
set_option maxRecDepth 100000 in
theorem txn_putWriter (b : Nat) (o o1 o2 : Bs) (p e : Int) (h1 : o ++ beBytes p (8 : Int).toNat = o1) (h2 : o1 ++ beBytes e (2 : Int).toNat = o2) (hf8 : fits p 8) (hf2 : fits e 2) (hl : o.length ≤ 100000000) {W0 w : World} {K : Know} {L : List Res} (h : St W0 w K (.out b ⟨o, 0⟩ :: L)) :
    Calls Try.prog 117 #[outPtr b, .int .i64 p, .int .i64 e] w fun en w' => en = .returned (.tuple #[]) ∧ St W0 w' K (.out b ⟨o2, 0⟩ :: L) := by
  have H := Lib.hid h
  have H1 := Lib.hid h1
  have H2 := Lib.hid h2
  have HF8 := Lib.hid hf8
  have HF2 := Lib.hid hf2
  have HL := Lib.hid (show o.length ≤ 100000000000000 by omega)
  have HL2 := Lib.hid (show o1.length ≤ 100000000000000 by rw [← h1, List.length_append, beBytes_length]; have : (8 : Int).toNat = 8 := rfl; omega)
  clear h h1 h2 hf8 hf2 hl
  go_enter Try.func117, Try.ntmps117
  go_wp2_with (first
    | (go_at_call 69; (with_reducible refine (so_intV b o o1 p 8 H1.out HF8.out HL.out H.out).mono ?_); rintro e_ wn ⟨rfl, h⟩; replace H := Lib.hid h; clear h)
    | (go_at_call 69; (with_reducible refine (so_intV b o1 o2 e 2 H2.out HF2.out HL2.out H.out).mono ?_); rintro e_ wn ⟨rfl, h⟩; replace H := Lib.hid h; clear h))
  go_end0
  exact ⟨rfl, H.out⟩
set_option maxHeartbeats 2000000 in
set_option maxRecDepth 100000 in
theorem end_write_ok (b : Nat) (o o1 o2 o3 o4 : Bs) (id : Bs) (p e : Int) (c : Bool) (h1 : o ++ encF 2 ⟨false, id⟩ = o1) (h2 : o1 ++ beBytes p (8 : Int).toNat = o2) (h3 : o2 ++ beBytes e (2 : Int).toNat = o3) (h4 : o3 ++ encO c = o4) (hk : chkW id p e = 0) (hil : id.length ≤ 32767) (hp : p < 9223372036854775808) (hl : o.length ≤ 1000000) {W0 w : World} {K : Know} {L : List Res} (h : St W0 w K (.out b ⟨o, 0⟩ :: L)) :
    Calls Try.prog 90 #[.agg #[.string (bb id), .int .i64 p, .int .i64 e, .bool c], outPtr b] w fun en w' => en = .returned (.tuple #[]) ∧ St W0 w' K (.out b ⟨o4, 0⟩ :: L) := by
  have hw := who_t (chkW_ok hk).2
  have h0 := h.allocRaw #[.string (bb id), .int .i64 p, .int .i64 e, .bool c] 136
  have H := Lib.hid h0
  have H1 := Lib.hid h1
  have H2 := Lib.hid h2
  have H3 := Lib.hid h3
  have H4 := Lib.hid h4
  have HK := Lib.hid hk
  have HIL := Lib.hid hil
  have HIL2 := Lib.hid (show id.length ≤ 140737488355328 by omega)
  have HF8 := Lib.hid (vfits8 p (by omega))
  have HF2 := Lib.hid (vfits2 e (by omega))
  have hl1 : o1.length = o.length + (id.length + 2) := by rw [← h1, List.length_append]; unfold encF; rw [List.length_append, beBytes_length]; simp only; omega
  have hl2 : o2.length = o1.length + 8 := by rw [← h2, List.length_append, beBytes_length]; rfl
  have hl3 : o3.length = o2.length + 2 := by rw [← h3, List.length_append, beBytes_length]; rfl
  have HL := Lib.hid (show o.length ≤ 100000000000000 by omega)
  have HL1 := Lib.hid (show o1.length ≤ 100000000 by omega)
  have HL3 := Lib.hid (show o3.length ≤ 100000000000000 by omega)
  have HT := Lib.hid (show ((0 : Int) == 0) = true by rfl)
  have HO := Lib.hid (show (if (0 : Int) = 0 then (⟨o, 0⟩ : OutS) else (⟨o, 0⟩ : OutS).fail 0) = ⟨o, 0⟩ by rfl)
  clear h h0 h1 h2 h3 h4 hk hil hp hl hl1 hl2 hl3 hw
  go_enter Try.func90, Try.ntmps90
  go_wp2_with (first
    | (go_at_call 116; (with_reducible refine (may_end b _ _ id p e c _ _ HK.out HT.out HO.out HIL2.out H.out.p1).mono ?_); rintro e_ wn ⟨rfl, h⟩; have d0 := h.p1.rawCell 0; have d1 := h.p1.rawCell 1; have d2 := h.p1.rawCell 2; have d3 := h.p1.rawCell 3; simp at d0 d1 d2 d3; replace H := Lib.hid h; clear h)
    | (go_at_call 86; (with_reducible refine (blob_putTextV b o o1 id H1.out HIL.out HL.out H.out).mono ?_); rintro e_ wn ⟨rfl, h⟩; have d0 := h.p1.rawCell 0; have d1 := h.p1.rawCell 1; have d2 := h.p1.rawCell 2; have d3 := h.p1.rawCell 3; simp at d0 d1 d2 d3; replace H := Lib.hid h; clear h)
    | (go_at_call 117; (with_reducible refine (txn_putWriter b o1 o2 o3 p e H2.out H3.out HF8.out HF2.out HL1.out H.out).mono ?_); rintro e_ wn ⟨rfl, h⟩; have d0 := h.p1.rawCell 0; have d1 := h.p1.rawCell 1; have d2 := h.p1.rawCell 2; have d3 := h.p1.rawCell 3; simp at d0 d1 d2 d3; replace H := Lib.hid h; clear h)
    | (go_at_call 49; (with_reducible refine (txn_putBool b o3 o4 c H4.out HL3.out H.out).mono ?_); rintro e_ wn ⟨rfl, h⟩; replace H := Lib.hid h; clear h))
  go_end0
  exact ⟨rfl, H.out.p1.drop⟩
set_option maxHeartbeats 1000000 in
set_option maxRecDepth 100000 in
theorem txn_readWriter (b : Nat) (i i1 i2 : InS) (p e : Int) (h1 : i.int 8 = (p, i1)) (h2 : i1.int 2 = (e, i2)) {W0 w : World} {K : Know} {L : List Res} (h : St W0 w K (.inp b i :: L)) :
    Calls Try.prog 118 #[inPtr b] w fun en w' => en = .returned (.tuple #[.int .i64 p, .int .i64 e]) ∧ St W0 w' K (.inp b i2 :: L) := by
  have H := Lib.hid h
  have H1 := Lib.hid h1
  have H2 := Lib.hid h2
  clear h h1 h2
  go_enter Try.func118, Try.ntmps118
  go_wp2_with (first
    | (go_at_call 72; (with_reducible refine (s_intV b _ _ _ 8 H1.out H.out).mono ?_); rintro e_ wn ⟨rfl, h⟩; replace H := Lib.hid h; clear h)
    | (go_at_call 72; (with_reducible refine (s_intV b _ _ _ 2 H2.out H.out).mono ?_); rintro e_ wn ⟨rfl, h⟩; replace H := Lib.hid h; clear h))
  go_ret2
  exact ⟨rfl, H.out⟩

end Go.Proofs.Ytombolmicfjjpaa

/- Requests of transactions: what is wrong with them. -/
namespace Go.Proofs.Ytombolmicfjjpaa
open Go.RowKit

set_option maxHeartbeats 2000000 in
set_option maxRecDepth 100000 in
theorem beg_was (v : Int) (nl : Bool) (d : Bs) (tm p e : Int) (r : Bool) (hr : was v p e = r) {W0 w : World} {K : Know} {L : List Res} (h : St W0 w K L) :
    Calls Try.prog 122 #[.agg #[.bool nl, .string (bb d), .int .i64 tm, .int .i64 p, .int .i64 e], .int .i64 v] w fun en w' => en = .returned (.bool r) ∧ St W0 w' K L := by
  have H := Lib.hid (h.allocRaw #[.bool nl, .string (bb d), .int .i64 tm, .int .i64 p, .int .i64 e] 141)
  subst hr
  obtain ⟨c, hc⟩ : ∃ c, who p e = c := ⟨_, rfl⟩
  have HW := Lib.hid hc
  unfold was
  rw [hc]
  clear h hc
  by_cases h1 : p = -1
  · have g1 : (p == -1) = true := by rw [beq_iff_eq]; exact h1
    by_cases h2 : e = -1
    · have g2 : (e == -1) = true := by rw [beq_iff_eq]; exact h2
      rw [g1, g2]
      clear h1 h2
      go_enter Try.func122, Try.ntmps122
      go_wp2_with (first
    | (go_at_call 46; (with_reducible refine (txn_who p e _ HW.out H.out).mono ?_); rintro e_ wn ⟨rfl, h⟩; replace H := Lib.hid h; clear h))
      go_ret
      exact ⟨rfl, H.out.drop⟩
    · have g2 : (e == -1) = false := by rw [beq_eq_false_iff_ne]; exact h2
      rw [g1, g2]
      clear h1 h2
      by_cases h3 : v = 1
      · have g3 : (v == 1) = true := by rw [beq_iff_eq]; exact h3
        rw [g3]
        clear h3
        cases c with
        | true =>
          go_enter Try.func122, Try.ntmps122
          go_wp2_with (first
    | (go_at_call 46; (with_reducible refine (txn_who p e _ HW.out H.out).mono ?_); rintro e_ wn ⟨rfl, h⟩; replace H := Lib.hid h; clear h))
          go_ret
          exact ⟨rfl, H.out.drop⟩
        | false =>
          go_enter Try.func122, Try.ntmps122
          go_wp2_with (first
    | (go_at_call 46; (with_reducible refine (txn_who p e _ HW.out H.out).mono ?_); rintro e_ wn ⟨rfl, h⟩; replace H := Lib.hid h; clear h))
          go_ret
          exact ⟨rfl, H.out.drop⟩
      · have g3 : (v == 1) = false := by rw [beq_eq_false_iff_ne]; exact h3
        rw [g3]
        clear h3
        go_enter Try.func122, Try.ntmps122
        go_wp2_with (first
    | (go_at_call 46; (with_reducible refine (txn_who p e _ HW.out H.out).mono ?_); rintro e_ wn ⟨rfl, h⟩; replace H := Lib.hid h; clear h))
        go_ret
        exact ⟨rfl, H.out.drop⟩
  · have g1 : (p == -1) = false := by rw [beq_eq_false_iff_ne]; exact h1
    rw [g1]
    clear h1
    by_cases h3 : v = 1
    · have g3 : (v == 1) = true := by rw [beq_iff_eq]; exact h3
      rw [g3]
      clear h3
      cases c with
      | true =>
        go_enter Try.func122, Try.ntmps122
        go_wp2_with (first
    | (go_at_call 46; (with_reducible refine (txn_who p e _ HW.out H.out).mono ?_); rintro e_ wn ⟨rfl, h⟩; replace H := Lib.hid h; clear h))
        go_ret
        exact ⟨rfl, H.out.drop⟩
      | false =>
        go_enter Try.func122, Try.ntmps122
        go_wp2_with (first
    | (go_at_call 46; (with_reducible refine (txn_who p e _ HW.out H.out).mono ?_); rintro e_ wn ⟨rfl, h⟩; replace H := Lib.hid h; clear h))
        go_ret
        exact ⟨rfl, H.out.drop⟩
    · have g3 : (v == 1) = false := by rw [beq_eq_false_iff_ne]; exact h3
      rw [g3]
      clear h3
      go_enter Try.func122, Try.ntmps122
      go_wp2_with (first
    | (go_at_call 46; (with_reducible refine (txn_who p e _ HW.out H.out).mono ?_); rintro e_ wn ⟨rfl, h⟩; replace H := Lib.hid h; clear h))
      go_ret
      exact ⟨rfl, H.out.drop⟩

theorem blob_rightQT (u : Bool) (d : Bs) (r : Bool) (hr : (⟨u, d⟩ : BlobS).right = r) {W0 w : World} {K : Know} {L : List Res} (h : St W0 w K L) :
    Calls Try.prog 121 #[.agg #[.bool u, .string (bb d)]] w fun en w' => en = .returned (.bool r) ∧ St W0 w' K L := by
  subst hr; exact blob_right ⟨u, d⟩ h
set_option maxHeartbeats 8000000 in
set_option maxRecDepth 100000 in
theorem beg_check (v : Int) (nl : Bool) (d : Bs) (tm p e : Int) (r : Int) (hr : begE v nl d tm p e = r) (hl : d.length ≤ 140737488355328) {W0 w : World} {K : Know} {L : List Res} (h : St W0 w K L) :
    Calls Try.prog 93 #[.agg #[.bool nl, .string (bb d), .int .i64 tm, .int .i64 p, .int .i64 e], .int .i64 v] w fun en w' => en = .returned (.int .i64 r) ∧ St W0 w' K L := by
  have H := Lib.hid (h.allocRaw #[.bool nl, .string (bb d), .int .i64 tm, .int .i64 p, .int .i64 e] 141)
  have HDL := Lib.hid hl
  clear h hl
  cases nl with
  | true =>
    by_cases hd : d = []
    · subst hd
      have HBR := Lib.hid (show (⟨true, []⟩ : BlobS).right = true from rfl)
      rw [show begE v true [] tm p e = if tm < 0 ∨ 2147483647 < tm then 11 else if was v p e = false then 11 else 0 by unfold begE; rw [show idOk true [] = true from rfl]; rfl] at hr
      by_cases h1 : tm < 0
      · rw [if_pos (.inl h1)] at hr
        subst hr
        go_enter Try.func93, Try.ntmps93
        go_wp2_with (first
    | (go_at_call 121; (with_reducible refine (blob_rightQT _ [] _ HBR.out H.out).mono ?_); rintro e_ wn ⟨rfl, h⟩; have c0 := h.rawCell 0; have c1 := h.rawCell 1; have c2 := h.rawCell 2; have c3 := h.rawCell 3; have c4 := h.rawCell 4; simp at c0 c1 c2 c3 c4; replace H := Lib.hid h; clear h)
    | (go_at_call 122; (with_reducible refine (beg_was v true [] tm p e _ HWS.out H.out).mono ?_); rintro e_ wn ⟨rfl, h⟩; replace H := Lib.hid h; clear h))
        go_ret
        exact ⟨rfl, H.out.drop⟩
      by_cases h2 : 2147483647 < tm
      · rw [if_pos (.inr h2)] at hr
        subst hr
        go_enter Try.func93, Try.ntmps93
        go_wp2_with (first
    | (go_at_call 121; (with_reducible refine (blob_rightQT _ [] _ HBR.out H.out).mono ?_); rintro e_ wn ⟨rfl, h⟩; have c0 := h.rawCell 0; have c1 := h.rawCell 1; have c2 := h.rawCell 2; have c3 := h.rawCell 3; have c4 := h.rawCell 4; simp at c0 c1 c2 c3 c4; replace H := Lib.hid h; clear h)
    | (go_at_call 122; (with_reducible refine (beg_was v true [] tm p e _ HWS.out H.out).mono ?_); rintro e_ wn ⟨rfl, h⟩; replace H := Lib.hid h; clear h))
        go_ret
        exact ⟨rfl, H.out.drop⟩
      rw [if_neg (by omega)] at hr
      obtain ⟨ws, hws⟩ : ∃ ws, was v p e = ws := ⟨_, rfl⟩
      have HWS := Lib.hid hws
      rw [hws] at hr
      clear hws
      cases ws with
      | true =>
        obtain rfl : (0 : Int) = r := hr
        go_enter Try.func93, Try.ntmps93
        go_wp2_with (first
    | (go_at_call 121; (with_reducible refine (blob_rightQT _ [] _ HBR.out H.out).mono ?_); rintro e_ wn ⟨rfl, h⟩; have c0 := h.rawCell 0; have c1 := h.rawCell 1; have c2 := h.rawCell 2; have c3 := h.rawCell 3; have c4 := h.rawCell 4; simp at c0 c1 c2 c3 c4; replace H := Lib.hid h; clear h)
    | (go_at_call 122; (with_reducible refine (beg_was v true [] tm p e _ HWS.out H.out).mono ?_); rintro e_ wn ⟨rfl, h⟩; replace H := Lib.hid h; clear h))
        go_ret
        exact ⟨rfl, H.out.drop⟩
      | false =>
        obtain rfl : (11 : Int) = r := hr
        go_enter Try.func93, Try.ntmps93
        go_wp2_with (first
    | (go_at_call 121; (with_reducible refine (blob_rightQT _ [] _ HBR.out H.out).mono ?_); rintro e_ wn ⟨rfl, h⟩; have c0 := h.rawCell 0; have c1 := h.rawCell 1; have c2 := h.rawCell 2; have c3 := h.rawCell 3; have c4 := h.rawCell 4; simp at c0 c1 c2 c3 c4; replace H := Lib.hid h; clear h)
    | (go_at_call 122; (with_reducible refine (beg_was v true [] tm p e _ HWS.out H.out).mono ?_); rintro e_ wn ⟨rfl, h⟩; replace H := Lib.hid h; clear h))
        go_ret
        exact ⟨rfl, H.out.drop⟩
    · have HBR := Lib.hid (show (⟨true, d⟩ : BlobS).right = false by unfold BlobS.right; cases d with | nil => exact absurd rfl hd | cons _ _ => rfl)
      have hid : idOk true d = false := by cases d with | nil => exact absurd rfl hd | cons _ _ => rfl
      obtain rfl : (4 : Int) = r := by rw [← hr]; unfold begE; rw [hid]; rfl
      clear hr hid hd
      go_enter Try.func93, Try.ntmps93
      go_wp2_with (first
    | (go_at_call 121; (with_reducible refine (blob_rightQT _ d _ HBR.out H.out).mono ?_); rintro e_ wn ⟨rfl, h⟩; have c0 := h.rawCell 0; have c1 := h.rawCell 1; have c2 := h.rawCell 2; have c3 := h.rawCell 3; have c4 := h.rawCell 4; simp at c0 c1 c2 c3 c4; replace H := Lib.hid h; clear h))
      go_ret
      exact ⟨rfl, H.out.drop⟩
  | false =>
    have HBR := Lib.hid (show (⟨false, d⟩ : BlobS).right = true from rfl)
    obtain ⟨kr, hkr⟩ : ∃ kr, keyRight d = kr := ⟨_, rfl⟩
    have HKR := Lib.hid hkr
    cases kr with
    | true =>
      have hid : idOk false d = true := hkr
      rw [show begE v false d tm p e = if tm < 0 ∨ 2147483647 < tm then 11 else if was v p e = false then 11 else 0 by unfold begE; rw [hid]; rfl] at hr
      clear hid hkr 
      by_cases h1 : tm < 0
      · rw [if_pos (.inl h1)] at hr
        subst hr
        go_enter Try.func93, Try.ntmps93
        go_wp2_with (first
    | (go_at_call 121; (with_reducible refine (blob_rightQT _ d _ HBR.out H.out).mono ?_); rintro e_ wn ⟨rfl, h⟩; have c0 := h.rawCell 0; have c1 := h.rawCell 1; have c2 := h.rawCell 2; have c3 := h.rawCell 3; have c4 := h.rawCell 4; simp at c0 c1 c2 c3 c4; replace H := Lib.hid h; clear h)
    | (go_at_call 89; (with_reducible refine (key_right' d _ HDL.out HKR.out H.out).mono ?_); rintro e_ wn ⟨rfl, h⟩; have c0 := h.rawCell 0; have c1 := h.rawCell 1; have c2 := h.rawCell 2; have c3 := h.rawCell 3; have c4 := h.rawCell 4; simp at c0 c1 c2 c3 c4; replace H := Lib.hid h; clear h)
    | (go_at_call 122; (with_reducible refine (beg_was v false d tm p e _ HWS.out H.out).mono ?_); rintro e_ wn ⟨rfl, h⟩; replace H := Lib.hid h; clear h))
        go_ret
        exact ⟨rfl, H.out.drop⟩
      by_cases h2 : 2147483647 < tm
      · rw [if_pos (.inr h2)] at hr
        subst hr
        go_enter Try.func93, Try.ntmps93
        go_wp2_with (first
    | (go_at_call 121; (with_reducible refine (blob_rightQT _ d _ HBR.out H.out).mono ?_); rintro e_ wn ⟨rfl, h⟩; have c0 := h.rawCell 0; have c1 := h.rawCell 1; have c2 := h.rawCell 2; have c3 := h.rawCell 3; have c4 := h.rawCell 4; simp at c0 c1 c2 c3 c4; replace H := Lib.hid h; clear h)
    | (go_at_call 89; (with_reducible refine (key_right' d _ HDL.out HKR.out H.out).mono ?_); rintro e_ wn ⟨rfl, h⟩; have c0 := h.rawCell 0; have c1 := h.rawCell 1; have c2 := h.rawCell 2; have c3 := h.rawCell 3; have c4 := h.rawCell 4; simp at c0 c1 c2 c3 c4; replace H := Lib.hid h; clear h)
    | (go_at_call 122; (with_reducible refine (beg_was v false d tm p e _ HWS.out H.out).mono ?_); rintro e_ wn ⟨rfl, h⟩; replace H := Lib.hid h; clear h))
        go_ret
        exact ⟨rfl, H.out.drop⟩
      rw [if_neg (by omega)] at hr
      obtain ⟨ws, hws⟩ : ∃ ws, was v p e = ws := ⟨_, rfl⟩
      have HWS := Lib.hid hws
      rw [hws] at hr
      clear hws
      cases ws with
      | true =>
        obtain rfl : (0 : Int) = r := hr
        go_enter Try.func93, Try.ntmps93
        go_wp2_with (first
    | (go_at_call 121; (with_reducible refine (blob_rightQT _ d _ HBR.out H.out).mono ?_); rintro e_ wn ⟨rfl, h⟩; have c0 := h.rawCell 0; have c1 := h.rawCell 1; have c2 := h.rawCell 2; have c3 := h.rawCell 3; have c4 := h.rawCell 4; simp at c0 c1 c2 c3 c4; replace H := Lib.hid h; clear h)
    | (go_at_call 89; (with_reducible refine (key_right' d _ HDL.out HKR.out H.out).mono ?_); rintro e_ wn ⟨rfl, h⟩; have c0 := h.rawCell 0; have c1 := h.rawCell 1; have c2 := h.rawCell 2; have c3 := h.rawCell 3; have c4 := h.rawCell 4; simp at c0 c1 c2 c3 c4; replace H := Lib.hid h; clear h)
    | (go_at_call 122; (with_reducible refine (beg_was v false d tm p e _ HWS.out H.out).mono ?_); rintro e_ wn ⟨rfl, h⟩; replace H := Lib.hid h; clear h))
        go_ret
        exact ⟨rfl, H.out.drop⟩
      | false =>
        obtain rfl : (11 : Int) = r := hr
        go_enter Try.func93, Try.ntmps93
        go_wp2_with (first
    | (go_at_call 121; (with_reducible refine (blob_rightQT _ d _ HBR.out H.out).mono ?_); rintro e_ wn ⟨rfl, h⟩; have c0 := h.rawCell 0; have c1 := h.rawCell 1; have c2 := h.rawCell 2; have c3 := h.rawCell 3; have c4 := h.rawCell 4; simp at c0 c1 c2 c3 c4; replace H := Lib.hid h; clear h)
    | (go_at_call 89; (with_reducible refine (key_right' d _ HDL.out HKR.out H.out).mono ?_); rintro e_ wn ⟨rfl, h⟩; have c0 := h.rawCell 0; have c1 := h.rawCell 1; have c2 := h.rawCell 2; have c3 := h.rawCell 3; have c4 := h.rawCell 4; simp at c0 c1 c2 c3 c4; replace H := Lib.hid h; clear h)
    | (go_at_call 122; (with_reducible refine (beg_was v false d tm p e _ HWS.out H.out).mono ?_); rintro e_ wn ⟨rfl, h⟩; replace H := Lib.hid h; clear h))
        go_ret
        exact ⟨rfl, H.out.drop⟩
    | false =>
      have hid : idOk false d = false := hkr
      obtain rfl : (4 : Int) = r := by rw [← hr]; unfold begE; rw [hid]; rfl
      clear hr hid hkr
      go_enter Try.func93, Try.ntmps93
      go_wp2_with (first
    | (go_at_call 121; (with_reducible refine (blob_rightQT _ d _ HBR.out H.out).mono ?_); rintro e_ wn ⟨rfl, h⟩; have c0 := h.rawCell 0; have c1 := h.rawCell 1; have c2 := h.rawCell 2; have c3 := h.rawCell 3; have c4 := h.rawCell 4; simp at c0 c1 c2 c3 c4; replace H := Lib.hid h; clear h)
    | (go_at_call 89; (with_reducible refine (key_right' d _ HDL.out HKR.out H.out).mono ?_); rintro e_ wn ⟨rfl, h⟩; have c0 := h.rawCell 0; have c1 := h.rawCell 1; have c2 := h.rawCell 2; have c3 := h.rawCell 3; have c4 := h.rawCell 4; simp at c0 c1 c2 c3 c4; replace H := Lib.hid h; clear h))
      go_ret
      exact ⟨rfl, H.out.drop⟩

set_option maxHeartbeats 8000000 in
set_option maxRecDepth 100000 in
theorem add_check (d : Bs) (p e : Int) (l : List (TopS × Value)) (q : Option Addr) (cap : Nat) (r : Int) (hr : addE d p e (l.map (·.1)) = r) (hl : d.length ≤ 140737488355328) (hf : FewT l) {W0 w : World} {K : Know} {L : List Res} (hk : K.has (Know.tops (.slice q l.length cap) l)) (h : St W0 w K L) :
    Calls Try.prog 95 #[.agg #[.string (bb d), .int .i64 p, .int .i64 e, .slice q l.length cap]] w fun en w' => en = .returned (.int .i64 r) ∧ St W0 w' K L := by
  have H := Lib.hid (h.allocRaw #[.string (bb d), .int .i64 p, .int .i64 e, .slice q l.length cap] 144)
  have HDL := Lib.hid hl
  have HF := Lib.hid hf
  have HK := Lib.hid hk
  obtain ⟨cw, hcw⟩ : ∃ cw, chkW d p e = cw := ⟨_, rfl⟩
  have HC := Lib.hid hcw
  unfold addE at hr
  rw [hcw] at hr
  clear h hl hf hk hcw
  by_cases h0 : cw = 0
  · subst h0
    have HE := Lib.hid (show riseE (l.map (·.1)) = r from hr)
    clear hr
    go_enter Try.func95, Try.ntmps95
    go_wp2_with (first
    | (go_at_call 123; (with_reducible refine (txn_checkWriter d p e _ HC.out HDL.out H.out).mono ?_); rintro e_ wn ⟨rfl, h⟩; have c3 := h.rawCell 3; simp at c3; replace H := Lib.hid h; clear h)
    | (go_at_call 47; (with_reducible refine (txn_rise l q cap r HE.out HF.out HK.out H.out).mono ?_); rintro e_ wn ⟨rfl, h⟩; replace H := Lib.hid h; clear h))
    go_ret
    exact ⟨rfl, H.out.drop⟩
  · rw [if_pos h0] at hr
    subst hr
    have g1 : (cw == 0) = false := by rw [beq_eq_false_iff_ne]; exact h0
    have g2 : (cw != 0) = true := by simp [bne, g1]
    clear h0
    go_enter Try.func95, Try.ntmps95
    go_wp2_with (first
    | (go_at_call 123; (with_reducible refine (txn_checkWriter d p e _ HC.out HDL.out H.out).mono ?_); rintro e_ wn ⟨rfl, h⟩; have c3 := h.rawCell 3; simp at c3; replace H := Lib.hid h; clear h))
    go_ret
    exact ⟨rfl, H.out.drop⟩

set_option maxHeartbeats 1000000 in
set_option maxRecDepth 100000 in
theorem ref18_named (nl : Bool) (d : Bs) (r : Bool) (hr : (!nl && keyRight d) = r) {W0 w : World} {K : Know} {L : List Res} (h : St W0 w K L) :
    Calls Try.prog 97 #[.agg #[.bool nl, .string (bb d)]] w fun en w' => en = .returned (.bool r) ∧ St W0 w' K L := by
  have H := Lib.hid (h.allocRaw #[.bool nl, .string (bb d)] 64)
  clear h
  cases nl with
  | true =>
    obtain rfl : false = r := hr
    go_enter Try.func97, Try.ntmps97
    go_wp2_with (fail)
    go_ret
    exact ⟨rfl, H.out.drop⟩
  | false =>
    have hr : keyRight d = r := hr
    cases r with
    | true =>
      obtain ⟨h1, h2⟩ := keyRight_t hr
      clear hr
      go_enter Try.func97, Try.ntmps97
      go_wp2_with (fail)
      go_ret
      exact ⟨rfl, H.out.drop⟩
    | false =>
      by_cases h1 : (d.length : Int) < 1
      · have h2 : ¬ (1 : Int) ≤ d.length := by omega
        clear hr
        go_enter Try.func97, Try.ntmps97
        go_wp2_with (fail)
        go_ret
        exact ⟨rfl, H.out.drop⟩
      · have h2 : (1 : Int) ≤ d.length := by omega
        have h3 : ¬ (d.length : Int) ≤ 32767 := by rcases keyRight_f hr with h | h <;> omega
        clear hr h1
        go_enter Try.func97, Try.ntmps97
        go_wp2_with (fail)
        go_ret
        exact ⟨rfl, H.out.drop⟩


set_option maxHeartbeats 1000000 in
set_option maxRecDepth 100000 in
theorem ref18_who (nl : Bool) (d : Bs) (tm p e : Int) (q : Option Addr) (n cap : Nat) (c : Bool) (r : Bool) (hr : who p e = r) {W0 w : World} {K : Know} {L : List Res} (h : St W0 w K L) :
    Calls Try.prog 98 #[.agg #[.bool nl, .string (bb d), .int .i64 tm, .int .i64 p, .int .i64 e, .slice q n cap, .bool c]] w fun en w' => en = .returned (.bool r) ∧ St W0 w' K L := by
  have H := Lib.hid (h.allocRaw #[.bool nl, .string (bb d), .int .i64 tm, .int .i64 p, .int .i64 e, .slice q n cap, .bool c] 66)
  clear h
  cases r with
  | true =>
    obtain ⟨h1, h2, h3⟩ := who_t hr
    clear hr
    go_enter Try.func98, Try.ntmps98
    go_wp2_with (fail)
    go_ret
    exact ⟨rfl, H.out.drop⟩
  | false =>
    by_cases h1 : p < 0
    · have g1 : ¬ (0 ≤ p) := by omega
      clear hr
      go_enter Try.func98, Try.ntmps98
      go_wp2_with (fail)
      go_ret
      exact ⟨rfl, H.out.drop⟩
    · have g1 : 0 ≤ p := by omega
      by_cases h2 : e < 0
      · have g2 : ¬ (0 ≤ e) := by omega
        clear hr
        go_enter Try.func98, Try.ntmps98
        go_wp2_with (fail)
        go_ret
        exact ⟨rfl, H.out.drop⟩
      · have g2 : 0 ≤ e := by omega
        have g3 : ¬ (e ≤ 32767) := by rcases who_f hr with h | h | h <;> omega
        clear hr
        go_enter Try.func98, Try.ntmps98
        go_wp2_with (fail)
        go_ret
        exact ⟨rfl, H.out.drop⟩

end Go.Proofs.Ytombolmicfjjpaa

/- Which topics rise (pure). -/
namespace Go.Proofs.Ytombolmicfjjpaa
open Go.RowKit

theorem riseE_tT {l : List (TopS × Value)} (hz : ((l.length : Int) == 0) = false) (hr : tRise (l.map (·.1)) = true) : riseE (l.map (·.1)) = 0 := by
  unfold riseE
  rw [if_neg (by intro h; rw [List.map_eq_nil_iff] at h; subst h; cases hz), hr]
  rfl
theorem riseE_fT {l : List (TopS × Value)} (hz : ((l.length : Int) == 0) = false) (hr : tRise (l.map (·.1)) = false) : riseE (l.map (·.1)) = 13 := by
  unfold riseE
  rw [if_neg (by intro h; rw [List.map_eq_nil_iff] at h; subst h; cases hz), hr]
  rfl
theorem riseE_zT {l : List (TopS × Value)} (hz : ((l.length : Int) == 0) = true) : riseE (l.map (·.1)) = 10 := by
  have h1 : (l.length : Int) = 0 := by simpa using hz
  have h2 : l = [] := List.length_eq_zero_iff.1 (by omega)
  subst h2
  rfl

end Go.Proofs.Ytombolmicfjjpaa

/- Requests of transactions, by definition: Add and End. -/
namespace Go.Proofs.Ytombolmicfjjpaa
open Go.RowKit

set_option maxHeartbeats 8000000 in
set_option maxRecDepth 100000 in
theorem ref18_check24 (v : Int) (nl : Bool) (d : Bs) (tm p e : Int) (l : List (TopS × Value)) (q : Option Addr) (cap : Nat) (c : Bool) (r : Int) (hr : reqE 24 v nl d tm p e (l.map (·.1)) = r) (hf : FewT l) {W0 w : World} {K : Know} {L : List Res} (hk : K.has (Know.tops (.slice q l.length cap) l)) (h : St W0 w K L) :
    Calls Try.prog 40 #[.int .i64 24, .int .i64 v, .agg #[.bool nl, .string (bb d), .int .i64 tm, .int .i64 p, .int .i64 e, .slice q l.length cap, .bool c]] w fun en w' => en = .returned (.int .i64 r) ∧ St W0 w' K L := by
  have H := Lib.hid (h.allocRaw #[.bool nl, .string (bb d), .int .i64 tm, .int .i64 p, .int .i64 e, .slice q l.length cap, .bool c] 66)
  have HF := Lib.hid hf
  have HK := Lib.hid hk
  clear h hf hk
  cases nl with
  | true =>
    have HNM := Lib.hid (show (!true && keyRight d) = false from rfl)
    obtain rfl : (4 : Int) = r := hr
    go_enter Try.func40, Try.ntmps40
    go_wp2_with (first
    | (go_at_call 97; (with_reducible refine (ref18_named true d _ HNM.out H.out).mono ?_); rintro e_ wn ⟨rfl, h⟩; have c0 := h.rawCell 0; have c1 := h.rawCell 1; have c2 := h.rawCell 2; have c3 := h.rawCell 3; have c4 := h.rawCell 4; have c5 := h.rawCell 5; have c6 := h.rawCell 6; simp at c0 c1 c2 c3 c4 c5 c6; replace H := Lib.hid h; clear h))
    go_ret
    exact ⟨rfl, H.out.drop⟩
  | false =>
    obtain ⟨kr, hkr⟩ : ∃ kr, keyRight d = kr := ⟨_, rfl⟩
    have HNM := Lib.hid (show (!false && keyRight d) = kr from hkr)
    obtain ⟨wr, hwr⟩ : ∃ wr, who p e = wr := ⟨_, rfl⟩
    have HW := Lib.hid hwr
    have hcw : chkW d p e = if kr = false then 4 else if wr = false then 11 else 0 := by unfold chkW; rw [hkr, hwr]
    have hr : addE d p e (l.map (·.1)) = r := hr
    unfold addE at hr
    rw [hcw] at hr
    clear hkr hwr hcw
    cases kr with
    | false =>
      obtain rfl : (4 : Int) = r := hr
      go_enter Try.func40, Try.ntmps40
      go_wp2_with (first
    | (go_at_call 97; (with_reducible refine (ref18_named false d _ HNM.out H.out).mono ?_); rintro e_ wn ⟨rfl, h⟩; have c0 := h.rawCell 0; have c1 := h.rawCell 1; have c2 := h.rawCell 2; have c3 := h.rawCell 3; have c4 := h.rawCell 4; have c5 := h.rawCell 5; have c6 := h.rawCell 6; simp at c0 c1 c2 c3 c4 c5 c6; replace H := Lib.hid h; clear h))
      go_ret
      exact ⟨rfl, H.out.drop⟩
    | true =>
      cases wr with
      | false =>
        obtain rfl : (11 : Int) = r := hr
        go_enter Try.func40, Try.ntmps40
        go_wp2_with (first
    | (go_at_call 97; (with_reducible refine (ref18_named false d _ HNM.out H.out).mono ?_); rintro e_ wn ⟨rfl, h⟩; have c0 := h.rawCell 0; have c1 := h.rawCell 1; have c2 := h.rawCell 2; have c3 := h.rawCell 3; have c4 := h.rawCell 4; have c5 := h.rawCell 5; have c6 := h.rawCell 6; simp at c0 c1 c2 c3 c4 c5 c6; replace H := Lib.hid h; clear h)
    | (go_at_call 98; (with_reducible refine (ref18_who false d tm p e q l.length cap c _ HW.out H.out).mono ?_); rintro e_ wn ⟨rfl, h⟩; have c0 := h.rawCell 0; have c1 := h.rawCell 1; have c2 := h.rawCell 2; have c3 := h.rawCell 3; have c4 := h.rawCell 4; have c5 := h.rawCell 5; have c6 := h.rawCell 6; simp at c0 c1 c2 c3 c4 c5 c6; replace H := Lib.hid h; clear h))
        go_ret
        exact ⟨rfl, H.out.drop⟩
      | true =>
        have hr : riseE (l.map (·.1)) = r := hr
        cases hz : ((l.length : Int) == 0) with
        | true =>
          obtain rfl : (10 : Int) = r := (riseE_zT hz).symm.trans hr
          clear hr
          go_enter Try.func40, Try.ntmps40
          go_wp2_with (first
    | (go_at_call 97; (with_reducible refine (ref18_named false d _ HNM.out H.out).mono ?_); rintro e_ wn ⟨rfl, h⟩; have c0 := h.rawCell 0; have c1 := h.rawCell 1; have c2 := h.rawCell 2; have c3 := h.rawCell 3; have c4 := h.rawCell 4; have c5 := h.rawCell 5; have c6 := h.rawCell 6; simp at c0 c1 c2 c3 c4 c5 c6; replace H := Lib.hid h; clear h)
    | (go_at_call 98; (with_reducible refine (ref18_who false d tm p e q l.length cap c _ HW.out H.out).mono ?_); rintro e_ wn ⟨rfl, h⟩; have c0 := h.rawCell 0; have c1 := h.rawCell 1; have c2 := h.rawCell 2; have c3 := h.rawCell 3; have c4 := h.rawCell 4; have c5 := h.rawCell 5; have c6 := h.rawCell 6; simp at c0 c1 c2 c3 c4 c5 c6; replace H := Lib.hid h; clear h))
          go_ret
          exact ⟨rfl, H.out.drop⟩
        | false =>
          obtain ⟨rr, hrr⟩ : ∃ rr, tRise (l.map (·.1)) = rr := ⟨_, rfl⟩
          have HRI := Lib.hid hrr
          cases rr with
          | true =>
            obtain rfl : (0 : Int) = r := (riseE_tT hz hrr).symm.trans hr
            clear hr hrr
            go_enter Try.func40, Try.ntmps40
            go_wp2_with (first
    | (go_at_call 97; (with_reducible refine (ref18_named false d _ HNM.out H.out).mono ?_); rintro e_ wn ⟨rfl, h⟩; have c0 := h.rawCell 0; have c1 := h.rawCell 1; have c2 := h.rawCell 2; have c3 := h.rawCell 3; have c4 := h.rawCell 4; have c5 := h.rawCell 5; have c6 := h.rawCell 6; simp at c0 c1 c2 c3 c4 c5 c6; replace H := Lib.hid h; clear h)
    | (go_at_call 98; (with_reducible refine (ref18_who false d tm p e q l.length cap c _ HW.out H.out).mono ?_); rintro e_ wn ⟨rfl, h⟩; have c0 := h.rawCell 0; have c1 := h.rawCell 1; have c2 := h.rawCell 2; have c3 := h.rawCell 3; have c4 := h.rawCell 4; have c5 := h.rawCell 5; have c6 := h.rawCell 6; simp at c0 c1 c2 c3 c4 c5 c6; replace H := Lib.hid h; clear h)
    | (go_at_call 45; (with_reducible refine (ref14_rise l q cap _ HRI.out HF.out HK.out H.out).mono ?_); rintro e_ wn ⟨rfl, h⟩; have c0 := h.rawCell 0; have c1 := h.rawCell 1; have c2 := h.rawCell 2; have c3 := h.rawCell 3; have c4 := h.rawCell 4; have c5 := h.rawCell 5; have c6 := h.rawCell 6; simp at c0 c1 c2 c3 c4 c5 c6; replace H := Lib.hid h; clear h))
            go_ret
            exact ⟨rfl, H.out.drop⟩
          | false =>
            obtain rfl : (13 : Int) = r := (riseE_fT hz hrr).symm.trans hr
            clear hr hrr
            go_enter Try.func40, Try.ntmps40
            go_wp2_with (first
    | (go_at_call 97; (with_reducible refine (ref18_named false d _ HNM.out H.out).mono ?_); rintro e_ wn ⟨rfl, h⟩; have c0 := h.rawCell 0; have c1 := h.rawCell 1; have c2 := h.rawCell 2; have c3 := h.rawCell 3; have c4 := h.rawCell 4; have c5 := h.rawCell 5; have c6 := h.rawCell 6; simp at c0 c1 c2 c3 c4 c5 c6; replace H := Lib.hid h; clear h)
    | (go_at_call 98; (with_reducible refine (ref18_who false d tm p e q l.length cap c _ HW.out H.out).mono ?_); rintro e_ wn ⟨rfl, h⟩; have c0 := h.rawCell 0; have c1 := h.rawCell 1; have c2 := h.rawCell 2; have c3 := h.rawCell 3; have c4 := h.rawCell 4; have c5 := h.rawCell 5; have c6 := h.rawCell 6; simp at c0 c1 c2 c3 c4 c5 c6; replace H := Lib.hid h; clear h)
    | (go_at_call 45; (with_reducible refine (ref14_rise l q cap _ HRI.out HF.out HK.out H.out).mono ?_); rintro e_ wn ⟨rfl, h⟩; have c0 := h.rawCell 0; have c1 := h.rawCell 1; have c2 := h.rawCell 2; have c3 := h.rawCell 3; have c4 := h.rawCell 4; have c5 := h.rawCell 5; have c6 := h.rawCell 6; simp at c0 c1 c2 c3 c4 c5 c6; replace H := Lib.hid h; clear h))
            go_ret
            exact ⟨rfl, H.out.drop⟩

set_option maxHeartbeats 8000000 in
set_option maxRecDepth 100000 in
theorem ref18_check26 (v : Int) (nl : Bool) (d : Bs) (tm p e : Int) (l : List (TopS × Value)) (q : Option Addr) (cap : Nat) (c : Bool) (r : Int) (hr : reqE 26 v nl d tm p e (l.map (·.1)) = r) (hf : FewT l) {W0 w : World} {K : Know} {L : List Res} (hk : K.has (Know.tops (.slice q l.length cap) l)) (h : St W0 w K L) :
    Calls Try.prog 40 #[.int .i64 26, .int .i64 v, .agg #[.bool nl, .string (bb d), .int .i64 tm, .int .i64 p, .int .i64 e, .slice q l.length cap, .bool c]] w fun en w' => en = .returned (.int .i64 r) ∧ St W0 w' K L := by
  have H := Lib.hid (h.allocRaw #[.bool nl, .string (bb d), .int .i64 tm, .int .i64 p, .int .i64 e, .slice q l.length cap, .bool c] 66)
  have HF := Lib.hid hf
  have HK := Lib.hid hk
  clear h hf hk
  cases nl with
  | true =>
    have HNM := Lib.hid (show (!true && keyRight d) = false from rfl)
    obtain rfl : (4 : Int) = r := hr
    go_enter Try.func40, Try.ntmps40
    go_wp2_with (first
    | (go_at_call 97; (with_reducible refine (ref18_named true d _ HNM.out H.out).mono ?_); rintro e_ wn ⟨rfl, h⟩; have c0 := h.rawCell 0; have c1 := h.rawCell 1; have c2 := h.rawCell 2; have c3 := h.rawCell 3; have c4 := h.rawCell 4; have c5 := h.rawCell 5; have c6 := h.rawCell 6; simp at c0 c1 c2 c3 c4 c5 c6; replace H := Lib.hid h; clear h))
    go_ret
    exact ⟨rfl, H.out.drop⟩
  | false =>
    obtain ⟨kr, hkr⟩ : ∃ kr, keyRight d = kr := ⟨_, rfl⟩
    have HNM := Lib.hid (show (!false && keyRight d) = kr from hkr)
    obtain ⟨wr, hwr⟩ : ∃ wr, who p e = wr := ⟨_, rfl⟩
    have HW := Lib.hid hwr
    have hcw : chkW d p e = if kr = false then 4 else if wr = false then 11 else 0 := by unfold chkW; rw [hkr, hwr]
    have hr : chkW d p e = r := hr
    skip
    rw [hcw] at hr
    clear hkr hwr hcw
    cases kr with
    | false =>
      obtain rfl : (4 : Int) = r := hr
      go_enter Try.func40, Try.ntmps40
      go_wp2_with (first
    | (go_at_call 97; (with_reducible refine (ref18_named false d _ HNM.out H.out).mono ?_); rintro e_ wn ⟨rfl, h⟩; have c0 := h.rawCell 0; have c1 := h.rawCell 1; have c2 := h.rawCell 2; have c3 := h.rawCell 3; have c4 := h.rawCell 4; have c5 := h.rawCell 5; have c6 := h.rawCell 6; simp at c0 c1 c2 c3 c4 c5 c6; replace H := Lib.hid h; clear h))
      go_ret
      exact ⟨rfl, H.out.drop⟩
    | true =>
      cases wr with
      | false =>
        obtain rfl : (11 : Int) = r := hr
        go_enter Try.func40, Try.ntmps40
        go_wp2_with (first
    | (go_at_call 97; (with_reducible refine (ref18_named false d _ HNM.out H.out).mono ?_); rintro e_ wn ⟨rfl, h⟩; have c0 := h.rawCell 0; have c1 := h.rawCell 1; have c2 := h.rawCell 2; have c3 := h.rawCell 3; have c4 := h.rawCell 4; have c5 := h.rawCell 5; have c6 := h.rawCell 6; simp at c0 c1 c2 c3 c4 c5 c6; replace H := Lib.hid h; clear h)
    | (go_at_call 98; (with_reducible refine (ref18_who false d tm p e q l.length cap c _ HW.out H.out).mono ?_); rintro e_ wn ⟨rfl, h⟩; have c0 := h.rawCell 0; have c1 := h.rawCell 1; have c2 := h.rawCell 2; have c3 := h.rawCell 3; have c4 := h.rawCell 4; have c5 := h.rawCell 5; have c6 := h.rawCell 6; simp at c0 c1 c2 c3 c4 c5 c6; replace H := Lib.hid h; clear h))
        go_ret
        exact ⟨rfl, H.out.drop⟩
      | true =>
        obtain rfl : (0 : Int) = r := hr
        go_enter Try.func40, Try.ntmps40
        go_wp2_with (first
    | (go_at_call 97; (with_reducible refine (ref18_named false d _ HNM.out H.out).mono ?_); rintro e_ wn ⟨rfl, h⟩; have c0 := h.rawCell 0; have c1 := h.rawCell 1; have c2 := h.rawCell 2; have c3 := h.rawCell 3; have c4 := h.rawCell 4; have c5 := h.rawCell 5; have c6 := h.rawCell 6; simp at c0 c1 c2 c3 c4 c5 c6; replace H := Lib.hid h; clear h)
    | (go_at_call 98; (with_reducible refine (ref18_who false d tm p e q l.length cap c _ HW.out H.out).mono ?_); rintro e_ wn ⟨rfl, h⟩; have c0 := h.rawCell 0; have c1 := h.rawCell 1; have c2 := h.rawCell 2; have c3 := h.rawCell 3; have c4 := h.rawCell 4; have c5 := h.rawCell 5; have c6 := h.rawCell 6; simp at c0 c1 c2 c3 c4 c5 c6; replace H := Lib.hid h; clear h))
        go_ret
        exact ⟨rfl, H.out.drop⟩

end Go.Proofs.Ytombolmicfjjpaa

/- Requests of transactions, by definition: Begin. -/
namespace Go.Proofs.Ytombolmicfjjpaa
open Go.RowKit

set_option maxHeartbeats 8000000 in
set_option maxRecDepth 100000 in
theorem ref18_check22 (v : Int) (nl : Bool) (d : Bs) (tm p e : Int) (l : List (TopS × Value)) (q : Option Addr) (cap : Nat) (c : Bool) (r : Int) (hr : reqE 22 v nl d tm p e (l.map (·.1)) = r) (hf : FewT l) {W0 w : World} {K : Know} {L : List Res} (hk : K.has (Know.tops (.slice q l.length cap) l)) (h : St W0 w K L) :
    Calls Try.prog 40 #[.int .i64 22, .int .i64 v, .agg #[.bool nl, .string (bb d), .int .i64 tm, .int .i64 p, .int .i64 e, .slice q l.length cap, .bool c]] w fun en w' => en = .returned (.int .i64 r) ∧ St W0 w' K L := by
  have H := Lib.hid (h.allocRaw #[.bool nl, .string (bb d), .int .i64 tm, .int .i64 p, .int .i64 e, .slice q l.length cap, .bool c] 66)
  have HF := Lib.hid hf
  have HK := Lib.hid hk
  clear h hf hk
  have hr : begE v nl d tm p e = r := hr
  unfold begE at hr
  cases nl with
  | true =>
    cases d with
    | cons a t =>
      obtain rfl : (4 : Int) = r := hr
      go_enter Try.func40, Try.ntmps40
      go_wp2_with (fail)
      go_ret
      exact ⟨rfl, H.out.drop⟩
    | nil =>
      rw [if_neg (show ¬ idOk true [] = false by decide)] at hr
      by_cases h1 : tm < 0
      · obtain rfl : (11 : Int) = r := by rw [← hr, if_pos (.inl h1)]
        clear hr
        go_enter Try.func40, Try.ntmps40
        go_wp2_with (fail)
        go_ret
        exact ⟨rfl, H.out.drop⟩
      by_cases h2 : 2147483647 < tm
      · obtain rfl : (11 : Int) = r := by rw [← hr, if_pos (.inr h2)]
        clear hr
        go_enter Try.func40, Try.ntmps40
        go_wp2_with (fail)
        go_ret
        exact ⟨rfl, H.out.drop⟩
      rw [if_neg (by omega)] at hr
      obtain ⟨wr, hwr⟩ : ∃ wr, who p e = wr := ⟨_, rfl⟩
      have HW := Lib.hid hwr
      unfold was at hr
      rw [hwr] at hr
      clear hwr
      by_cases h1 : p = -1
      · have g1 : (p == -1) = true := by rw [beq_iff_eq]; exact h1
        by_cases h2 : e = -1
        · have g2 : (e == -1) = true := by rw [beq_iff_eq]; exact h2
          rw [g1, g2] at hr
          clear h1 h2
          obtain rfl : (0 : Int) = r := hr
          go_enter Try.func40, Try.ntmps40
          go_wp2_with (first
    | (go_at_call 98; (with_reducible refine (ref18_who true [] tm p e q l.length cap c _ HW.out H.out).mono ?_); rintro e_ wn ⟨rfl, h⟩; have c0 := h.rawCell 0; have c1 := h.rawCell 1; have c2 := h.rawCell 2; have c3 := h.rawCell 3; have c4 := h.rawCell 4; have c5 := h.rawCell 5; have c6 := h.rawCell 6; simp at c0 c1 c2 c3 c4 c5 c6; replace H := Lib.hid h; clear h))
          go_ret
          exact ⟨rfl, H.out.drop⟩
        · have g2 : (e == -1) = false := by rw [beq_eq_false_iff_ne]; exact h2
          rw [g1, g2] at hr
          clear h1 h2
          by_cases h3 : v = 1
          · have g3 : (v == 1) = true := by rw [beq_iff_eq]; exact h3
            rw [g3] at hr
            clear h3
            cases wr with
            | true =>
              obtain rfl : (0 : Int) = r := hr
              go_enter Try.func40, Try.ntmps40
              go_wp2_with (first
    | (go_at_call 98; (with_reducible refine (ref18_who true [] tm p e q l.length cap c _ HW.out H.out).mono ?_); rintro e_ wn ⟨rfl, h⟩; have c0 := h.rawCell 0; have c1 := h.rawCell 1; have c2 := h.rawCell 2; have c3 := h.rawCell 3; have c4 := h.rawCell 4; have c5 := h.rawCell 5; have c6 := h.rawCell 6; simp at c0 c1 c2 c3 c4 c5 c6; replace H := Lib.hid h; clear h))
              go_ret
              exact ⟨rfl, H.out.drop⟩
            | false =>
              obtain rfl : (11 : Int) = r := hr
              go_enter Try.func40, Try.ntmps40
              go_wp2_with (first
    | (go_at_call 98; (with_reducible refine (ref18_who true [] tm p e q l.length cap c _ HW.out H.out).mono ?_); rintro e_ wn ⟨rfl, h⟩; have c0 := h.rawCell 0; have c1 := h.rawCell 1; have c2 := h.rawCell 2; have c3 := h.rawCell 3; have c4 := h.rawCell 4; have c5 := h.rawCell 5; have c6 := h.rawCell 6; simp at c0 c1 c2 c3 c4 c5 c6; replace H := Lib.hid h; clear h))
              go_ret
              exact ⟨rfl, H.out.drop⟩
          · have g3 : (v == 1) = false := by rw [beq_eq_false_iff_ne]; exact h3
            rw [g3] at hr
            clear h3
            obtain rfl : (11 : Int) = r := hr
            go_enter Try.func40, Try.ntmps40
            go_wp2_with (first
    | (go_at_call 98; (with_reducible refine (ref18_who true [] tm p e q l.length cap c _ HW.out H.out).mono ?_); rintro e_ wn ⟨rfl, h⟩; have c0 := h.rawCell 0; have c1 := h.rawCell 1; have c2 := h.rawCell 2; have c3 := h.rawCell 3; have c4 := h.rawCell 4; have c5 := h.rawCell 5; have c6 := h.rawCell 6; simp at c0 c1 c2 c3 c4 c5 c6; replace H := Lib.hid h; clear h))
            go_ret
            exact ⟨rfl, H.out.drop⟩
      · have g1 : (p == -1) = false := by rw [beq_eq_false_iff_ne]; exact h1
        rw [g1] at hr
        clear h1
        by_cases h3 : v = 1
        · have g3 : (v == 1) = true := by rw [beq_iff_eq]; exact h3
          rw [g3] at hr
          clear h3
          cases wr with
          | true =>
            obtain rfl : (0 : Int) = r := hr
            go_enter Try.func40, Try.ntmps40
            go_wp2_with (first
    | (go_at_call 98; (with_reducible refine (ref18_who true [] tm p e q l.length cap c _ HW.out H.out).mono ?_); rintro e_ wn ⟨rfl, h⟩; have c0 := h.rawCell 0; have c1 := h.rawCell 1; have c2 := h.rawCell 2; have c3 := h.rawCell 3; have c4 := h.rawCell 4; have c5 := h.rawCell 5; have c6 := h.rawCell 6; simp at c0 c1 c2 c3 c4 c5 c6; replace H := Lib.hid h; clear h))
            go_ret
            exact ⟨rfl, H.out.drop⟩
          | false =>
            obtain rfl : (11 : Int) = r := hr
            go_enter Try.func40, Try.ntmps40
            go_wp2_with (first
    | (go_at_call 98; (with_reducible refine (ref18_who true [] tm p e q l.length cap c _ HW.out H.out).mono ?_); rintro e_ wn ⟨rfl, h⟩; have c0 := h.rawCell 0; have c1 := h.rawCell 1; have c2 := h.rawCell 2; have c3 := h.rawCell 3; have c4 := h.rawCell 4; have c5 := h.rawCell 5; have c6 := h.rawCell 6; simp at c0 c1 c2 c3 c4 c5 c6; replace H := Lib.hid h; clear h))
            go_ret
            exact ⟨rfl, H.out.drop⟩
        · have g3 : (v == 1) = false := by rw [beq_eq_false_iff_ne]; exact h3
          rw [g3] at hr
          clear h3
          obtain rfl : (11 : Int) = r := hr
          go_enter Try.func40, Try.ntmps40
          go_wp2_with (first
    | (go_at_call 98; (with_reducible refine (ref18_who true [] tm p e q l.length cap c _ HW.out H.out).mono ?_); rintro e_ wn ⟨rfl, h⟩; have c0 := h.rawCell 0; have c1 := h.rawCell 1; have c2 := h.rawCell 2; have c3 := h.rawCell 3; have c4 := h.rawCell 4; have c5 := h.rawCell 5; have c6 := h.rawCell 6; simp at c0 c1 c2 c3 c4 c5 c6; replace H := Lib.hid h; clear h))
          go_ret
          exact ⟨rfl, H.out.drop⟩
  | false =>
    obtain ⟨kr, hkr⟩ : ∃ kr, keyRight d = kr := ⟨_, rfl⟩
    have HNM := Lib.hid (show (!false && keyRight d) = kr from hkr)
    rw [show idOk false d = kr from hkr] at hr
    clear hkr
    cases kr with
    | false =>
      obtain rfl : (4 : Int) = r := hr
      go_enter Try.func40, Try.ntmps40
      go_wp2_with (first
    | (go_at_call 97; (with_reducible refine (ref18_named false d _ HNM.out H.out).mono ?_); rintro e_ wn ⟨rfl, h⟩; have c0 := h.rawCell 0; have c1 := h.rawCell 1; have c2 := h.rawCell 2; have c3 := h.rawCell 3; have c4 := h.rawCell 4; have c5 := h.rawCell 5; have c6 := h.rawCell 6; simp at c0 c1 c2 c3 c4 c5 c6; replace H := Lib.hid h; clear h))
      go_ret
      exact ⟨rfl, H.out.drop⟩
    | true =>
      rw [if_neg (show ¬ true = false by decide)] at hr
      by_cases h1 : tm < 0
      · obtain rfl : (11 : Int) = r := by rw [← hr, if_pos (.inl h1)]
        clear hr
        go_enter Try.func40, Try.ntmps40
        go_wp2_with (first
    | (go_at_call 97; (with_reducible refine (ref18_named false d _ HNM.out H.out).mono ?_); rintro e_ wn ⟨rfl, h⟩; have c0 := h.rawCell 0; have c1 := h.rawCell 1; have c2 := h.rawCell 2; have c3 := h.rawCell 3; have c4 := h.rawCell 4; have c5 := h.rawCell 5; have c6 := h.rawCell 6; simp at c0 c1 c2 c3 c4 c5 c6; replace H := Lib.hid h; clear h))
        go_ret
        exact ⟨rfl, H.out.drop⟩
      by_cases h2 : 2147483647 < tm
      · obtain rfl : (11 : Int) = r := by rw [← hr, if_pos (.inr h2)]
        clear hr
        go_enter Try.func40, Try.ntmps40
        go_wp2_with (first
    | (go_at_call 97; (with_reducible refine (ref18_named false d _ HNM.out H.out).mono ?_); rintro e_ wn ⟨rfl, h⟩; have c0 := h.rawCell 0; have c1 := h.rawCell 1; have c2 := h.rawCell 2; have c3 := h.rawCell 3; have c4 := h.rawCell 4; have c5 := h.rawCell 5; have c6 := h.rawCell 6; simp at c0 c1 c2 c3 c4 c5 c6; replace H := Lib.hid h; clear h))
        go_ret
        exact ⟨rfl, H.out.drop⟩
      rw [if_neg (by omega)] at hr
      obtain ⟨wr, hwr⟩ : ∃ wr, who p e = wr := ⟨_, rfl⟩
      have HW := Lib.hid hwr
      unfold was at hr
      rw [hwr] at hr
      clear hwr
      by_cases h1 : p = -1
      · have g1 : (p == -1) = true := by rw [beq_iff_eq]; exact h1
        by_cases h2 : e = -1
        · have g2 : (e == -1) = true := by rw [beq_iff_eq]; exact h2
          rw [g1, g2] at hr
          clear h1 h2
          obtain rfl : (0 : Int) = r := hr
          go_enter Try.func40, Try.ntmps40
          go_wp2_with (first
    | (go_at_call 97; (with_reducible refine (ref18_named false d _ HNM.out H.out).mono ?_); rintro e_ wn ⟨rfl, h⟩; have c0 := h.rawCell 0; have c1 := h.rawCell 1; have c2 := h.rawCell 2; have c3 := h.rawCell 3; have c4 := h.rawCell 4; have c5 := h.rawCell 5; have c6 := h.rawCell 6; simp at c0 c1 c2 c3 c4 c5 c6; replace H := Lib.hid h; clear h)
    | (go_at_call 98; (with_reducible refine (ref18_who false d tm p e q l.length cap c _ HW.out H.out).mono ?_); rintro e_ wn ⟨rfl, h⟩; have c0 := h.rawCell 0; have c1 := h.rawCell 1; have c2 := h.rawCell 2; have c3 := h.rawCell 3; have c4 := h.rawCell 4; have c5 := h.rawCell 5; have c6 := h.rawCell 6; simp at c0 c1 c2 c3 c4 c5 c6; replace H := Lib.hid h; clear h))
          go_ret
          exact ⟨rfl, H.out.drop⟩
        · have g2 : (e == -1) = false := by rw [beq_eq_false_iff_ne]; exact h2
          rw [g1, g2] at hr
          clear h1 h2
          by_cases h3 : v = 1
          · have g3 : (v == 1) = true := by rw [beq_iff_eq]; exact h3
            rw [g3] at hr
            clear h3
            cases wr with
            | true =>
              obtain rfl : (0 : Int) = r := hr
              go_enter Try.func40, Try.ntmps40
              go_wp2_with (first
    | (go_at_call 97; (with_reducible refine (ref18_named false d _ HNM.out H.out).mono ?_); rintro e_ wn ⟨rfl, h⟩; have c0 := h.rawCell 0; have c1 := h.rawCell 1; have c2 := h.rawCell 2; have c3 := h.rawCell 3; have c4 := h.rawCell 4; have c5 := h.rawCell 5; have c6 := h.rawCell 6; simp at c0 c1 c2 c3 c4 c5 c6; replace H := Lib.hid h; clear h)
    | (go_at_call 98; (with_reducible refine (ref18_who false d tm p e q l.length cap c _ HW.out H.out).mono ?_); rintro e_ wn ⟨rfl, h⟩; have c0 := h.rawCell 0; have c1 := h.rawCell 1; have c2 := h.rawCell 2; have c3 := h.rawCell 3; have c4 := h.rawCell 4; have c5 := h.rawCell 5; have c6 := h.rawCell 6; simp at c0 c1 c2 c3 c4 c5 c6; replace H := Lib.hid h; clear h))
              go_ret
              exact ⟨rfl, H.out.drop⟩
            | false =>
              obtain rfl : (11 : Int) = r := hr
              go_enter Try.func40, Try.ntmps40
              go_wp2_with (first
    | (go_at_call 97; (with_reducible refine (ref18_named false d _ HNM.out H.out).mono ?_); rintro e_ wn ⟨rfl, h⟩; have c0 := h.rawCell 0; have c1 := h.rawCell 1; have c2 := h.rawCell 2; have c3 := h.rawCell 3; have c4 := h.rawCell 4; have c5 := h.rawCell 5; have c6 := h.rawCell 6; simp at c0 c1 c2 c3 c4 c5 c6; replace H := Lib.hid h; clear h)
    | (go_at_call 98; (with_reducible refine (ref18_who false d tm p e q l.length cap c _ HW.out H.out).mono ?_); rintro e_ wn ⟨rfl, h⟩; have c0 := h.rawCell 0; have c1 := h.rawCell 1; have c2 := h.rawCell 2; have c3 := h.rawCell 3; have c4 := h.rawCell 4; have c5 := h.rawCell 5; have c6 := h.rawCell 6; simp at c0 c1 c2 c3 c4 c5 c6; replace H := Lib.hid h; clear h))
              go_ret
              exact ⟨rfl, H.out.drop⟩
          · have g3 : (v == 1) = false := by rw [beq_eq_false_iff_ne]; exact h3
            rw [g3] at hr
            clear h3
            obtain rfl : (11 : Int) = r := hr
            go_enter Try.func40, Try.ntmps40
            go_wp2_with (first
    | (go_at_call 97; (with_reducible refine (ref18_named false d _ HNM.out H.out).mono ?_); rintro e_ wn ⟨rfl, h⟩; have c0 := h.rawCell 0; have c1 := h.rawCell 1; have c2 := h.rawCell 2; have c3 := h.rawCell 3; have c4 := h.rawCell 4; have c5 := h.rawCell 5; have c6 := h.rawCell 6; simp at c0 c1 c2 c3 c4 c5 c6; replace H := Lib.hid h; clear h)
    | (go_at_call 98; (with_reducible refine (ref18_who false d tm p e q l.length cap c _ HW.out H.out).mono ?_); rintro e_ wn ⟨rfl, h⟩; have c0 := h.rawCell 0; have c1 := h.rawCell 1; have c2 := h.rawCell 2; have c3 := h.rawCell 3; have c4 := h.rawCell 4; have c5 := h.rawCell 5; have c6 := h.rawCell 6; simp at c0 c1 c2 c3 c4 c5 c6; replace H := Lib.hid h; clear h))
            go_ret
            exact ⟨rfl, H.out.drop⟩
      · have g1 : (p == -1) = false := by rw [beq_eq_false_iff_ne]; exact h1
        rw [g1] at hr
        clear h1
        by_cases h3 : v = 1
        · have g3 : (v == 1) = true := by rw [beq_iff_eq]; exact h3
          rw [g3] at hr
          clear h3
          cases wr with
          | true =>
            obtain rfl : (0 : Int) = r := hr
            go_enter Try.func40, Try.ntmps40
            go_wp2_with (first
    | (go_at_call 97; (with_reducible refine (ref18_named false d _ HNM.out H.out).mono ?_); rintro e_ wn ⟨rfl, h⟩; have c0 := h.rawCell 0; have c1 := h.rawCell 1; have c2 := h.rawCell 2; have c3 := h.rawCell 3; have c4 := h.rawCell 4; have c5 := h.rawCell 5; have c6 := h.rawCell 6; simp at c0 c1 c2 c3 c4 c5 c6; replace H := Lib.hid h; clear h)
    | (go_at_call 98; (with_reducible refine (ref18_who false d tm p e q l.length cap c _ HW.out H.out).mono ?_); rintro e_ wn ⟨rfl, h⟩; have c0 := h.rawCell 0; have c1 := h.rawCell 1; have c2 := h.rawCell 2; have c3 := h.rawCell 3; have c4 := h.rawCell 4; have c5 := h.rawCell 5; have c6 := h.rawCell 6; simp at c0 c1 c2 c3 c4 c5 c6; replace H := Lib.hid h; clear h))
            go_ret
            exact ⟨rfl, H.out.drop⟩
          | false =>
            obtain rfl : (11 : Int) = r := hr
            go_enter Try.func40, Try.ntmps40
            go_wp2_with (first
    | (go_at_call 97; (with_reducible refine (ref18_named false d _ HNM.out H.out).mono ?_); rintro e_ wn ⟨rfl, h⟩; have c0 := h.rawCell 0; have c1 := h.rawCell 1; have c2 := h.rawCell 2; have c3 := h.rawCell 3; have c4 := h.rawCell 4; have c5 := h.rawCell 5; have c6 := h.rawCell 6; simp at c0 c1 c2 c3 c4 c5 c6; replace H := Lib.hid h; clear h)
    | (go_at_call 98; (with_reducible refine (ref18_who false d tm p e q l.length cap c _ HW.out H.out).mono ?_); rintro e_ wn ⟨rfl, h⟩; have c0 := h.rawCell 0; have c1 := h.rawCell 1; have c2 := h.rawCell 2; have c3 := h.rawCell 3; have c4 := h.rawCell 4; have c5 := h.rawCell 5; have c6 := h.rawCell 6; simp at c0 c1 c2 c3 c4 c5 c6; replace H := Lib.hid h; clear h))
            go_ret
            exact ⟨rfl, H.out.drop⟩
        · have g3 : (v == 1) = false := by rw [beq_eq_false_iff_ne]; exact h3
          rw [g3] at hr
          clear h3
          obtain rfl : (11 : Int) = r := hr
          go_enter Try.func40, Try.ntmps40
          go_wp2_with (first
    | (go_at_call 97; (with_reducible refine (ref18_named false d _ HNM.out H.out).mono ?_); rintro e_ wn ⟨rfl, h⟩; have c0 := h.rawCell 0; have c1 := h.rawCell 1; have c2 := h.rawCell 2; have c3 := h.rawCell 3; have c4 := h.rawCell 4; have c5 := h.rawCell 5; have c6 := h.rawCell 6; simp at c0 c1 c2 c3 c4 c5 c6; replace H := Lib.hid h; clear h)
    | (go_at_call 98; (with_reducible refine (ref18_who false d tm p e q l.length cap c _ HW.out H.out).mono ?_); rintro e_ wn ⟨rfl, h⟩; have c0 := h.rawCell 0; have c1 := h.rawCell 1; have c2 := h.rawCell 2; have c3 := h.rawCell 3; have c4 := h.rawCell 4; have c5 := h.rawCell 5; have c6 := h.rawCell 6; simp at c0 c1 c2 c3 c4 c5 c6; replace H := Lib.hid h; clear h))
          go_ret
          exact ⟨rfl, H.out.drop⟩

end Go.Proofs.Ytombolmicfjjpaa

/- Requests of transactions: may they be written. -/
namespace Go.Proofs.Ytombolmicfjjpaa
open Go.RowKit

theorem blob_putFixedT (p : Nat) (e e2 : Bs) (u : Bool) (s : Bs) (he : e ++ encF 2 ⟨u, s⟩ = e2) (hr : (⟨u, s⟩ : BlobS).right = true) (hf : fits (⟨u, s⟩ : BlobS).len 2) (hs : s.length ≤ 32767) (hl : e.length ≤ 100000000000000) {W0 w : World} {K : Know} {L : List Res} (h : St W0 w K (.out p ⟨e, 0⟩ :: L)) :
    Calls Try.prog 113 #[outPtr p, .agg #[.bool u, .string (bb s)], .int .i64 2] w fun en w' => en = .returned (.tuple #[]) ∧ St W0 w' K (.out p ⟨e2, 0⟩ :: L) := by
  have h2 := blob_putFixed p ⟨e, 0⟩ ⟨u, s⟩ 2 h (by unfold OutS.ok; simp only; omega)
  have e3 : (⟨e, 0⟩ : OutS).putFixed ⟨u, s⟩ 2 = ⟨e2, 0⟩ := by
    unfold OutS.putFixed OutS.int
    rw [if_pos hf, ← he]
    cases u with
    | true =>
      have h3 : s = [] := by cases s with | nil => rfl | cons _ _ => cases hr
      subst h3
      show (⟨(e ++ beBytes (⟨true, []⟩ : BlobS).len 2) ++ [], 0⟩ : OutS) = _
      rw [List.append_assoc]
      rfl
    | false =>
      show (⟨(e ++ beBytes (⟨false, s⟩ : BlobS).len 2) ++ s, 0⟩ : OutS) = _
      rw [List.append_assoc]
      rfl
  rw [e3] at h2
  exact h2
set_option maxHeartbeats 1000000 in
set_option maxRecDepth 100000 in
theorem beg_clo (bB vB : Nat) (v : Int) (nl : Bool) (d : Bs) (tm p e : Int) (r : Int) (hr : begE v nl d tm p e = r) (hl : d.length ≤ 140737488355328) {W0 w : World} {K : Know} {L : List Res} (c0 : w.cell? ⟨bB, 0, none⟩ = some (.bool nl)) (c1 : w.cell? ⟨bB, 1, none⟩ = some (.string (bb d))) (c2 : w.cell? ⟨bB, 2, none⟩ = some (.int .i64 tm)) (c3 : w.cell? ⟨bB, 3, none⟩ = some (.int .i64 p)) (c4 : w.cell? ⟨bB, 4, none⟩ = some (.int .i64 e)) (cv : w.cell? ⟨vB, 0, none⟩ = some (.int .i64 v)) (h : St W0 w K L) :
    Calls Try.prog 120 #[.pointer (some ⟨bB, 0, none⟩), .pointer (some ⟨vB, 0, none⟩)] w fun en w' => en = .returned (.int .i64 r) ∧ St W0 w' K L := by
  have H := Lib.hid h
  have HR := Lib.hid hr
  have HL := Lib.hid hl
  clear h hr hl
  go_enter Try.func120, Try.ntmps120
  go_wp2_with (go_at_call 93; (with_reducible refine (beg_check v nl d tm p e _ HR.out HL.out H.out).mono ?_); rintro e_ wn ⟨rfl, h⟩; replace H := Lib.hid h; clear h)
  go_ret
  exact ⟨rfl, H.out⟩

set_option maxHeartbeats 2000000 in
set_option maxRecDepth 100000 in
theorem may_beg (b : Nat) (o o2 : OutS) (bB vB : Nat) (v : Int) (nl : Bool) (d : Bs) (tm p e : Int) (r : Int) (t : Bool) (hr : begE v nl d tm p e = r) (hl : d.length ≤ 140737488355328) (ht : (r == 0) = t) (ho : (if r = 0 then o else o.fail r) = o2) {W0 w : World} {K : Know} {L : List Res} (h : St W0 w K (.out b o :: .raw vB #[.int .i64 v] 3 :: .raw bB #[.bool nl, .string (bb d), .int .i64 tm, .int .i64 p, .int .i64 e] 141 :: L)) :
    Calls Try.prog 116 #[outPtr b, .func (.func 120) #[] #[.pointer (some ⟨bB, 0, none⟩), .pointer (some ⟨vB, 0, none⟩)]] w fun en w' => en = .returned (.bool t) ∧ St W0 w' K (.out b o2 :: .raw vB #[.int .i64 v] 3 :: .raw bB #[.bool nl, .string (bb d), .int .i64 tm, .int .i64 p, .int .i64 e] 141 :: L) := by
  have H := Lib.hid h
  have C0 := Lib.hid (show w.cell? ⟨bB, 0, none⟩ = some (.bool nl) by have := h.p2.rawCell 0; simpa using this)
  have C1 := Lib.hid (show w.cell? ⟨bB, 1, none⟩ = some (.string (bb d)) by have := h.p2.rawCell 1; simpa using this)
  have C2 := Lib.hid (show w.cell? ⟨bB, 2, none⟩ = some (.int .i64 tm) by have := h.p2.rawCell 2; simpa using this)
  have C3 := Lib.hid (show w.cell? ⟨bB, 3, none⟩ = some (.int .i64 p) by have := h.p2.rawCell 3; simpa using this)
  have C4 := Lib.hid (show w.cell? ⟨bB, 4, none⟩ = some (.int .i64 e) by have := h.p2.rawCell 4; simpa using this)
  have CV := Lib.hid (show w.cell? ⟨vB, 0, none⟩ = some (.int .i64 v) by have := h.p1.rawCell 0; simpa using this)
  have HR := Lib.hid hr
  have HL := Lib.hid hl
  clear h hr hl
  by_cases h0 : r = 0
  · rw [if_pos h0] at ho
    subst ho h0
    obtain rfl : true = t := ht
    go_enter Try.func116, Try.ntmps116
    go_wp2_with (go_at_call 120; (with_reducible refine (beg_clo bB vB v nl d tm p e _ HR.out HL.out C0.out C1.out C2.out C3.out C4.out CV.out H.out).mono ?_); rintro e_ wn ⟨rfl, h⟩; replace H := Lib.hid h; clear h)
    go_ret
    exact ⟨rfl, H.out⟩
  · rw [if_neg h0] at ho
    have HO := Lib.hid ho
    have g0 : (r == 0) = false := by rw [beq_eq_false_iff_ne]; exact h0
    have g00 : (r != 0) = true := by simp [bne, g0]
    rw [g0] at ht
    subst ht
    clear ho h0
    go_enter Try.func116, Try.ntmps116
    go_wp2_with (first
    | (go_at_call 120; (with_reducible refine (beg_clo bB vB v nl d tm p e _ HR.out HL.out C0.out C1.out C2.out C3.out C4.out CV.out H.out).mono ?_); rintro e_ wn ⟨rfl, h⟩; replace H := Lib.hid h; clear h)
    | (go_at_call 103; (with_reducible refine (so_failT b _ _ _ HO.out H.out).mono ?_); rintro e_ wn ⟨rfl, h⟩; replace H := Lib.hid h; clear h))
    go_ret
    exact ⟨rfl, H.out⟩

set_option maxHeartbeats 2000000 in
set_option maxRecDepth 100000 in
theorem may_add (b : Nat) (o o2 : OutS) (d : Bs) (p e : Int) (l : List (TopS × Value)) (q : Option Addr) (cap : Nat) (r : Int) (t : Bool) (hr : addE d p e (l.map (·.1)) = r) (hl : d.length ≤ 140737488355328) (hf : FewT l) (ht : (r == 0) = t) (ho : (if r = 0 then o else o.fail r) = o2) {W0 w : World} {K : Know} {L : List Res} (hk : K.has (Know.tops (.slice q l.length cap) l)) (h : St W0 w K (.out b o :: L)) :
    Calls Try.prog 116 #[outPtr b, .func (.func 95) #[.agg #[.string (bb d), .int .i64 p, .int .i64 e, .slice q l.length cap]] #[]] w fun en w' => en = .returned (.bool t) ∧ St W0 w' K (.out b o2 :: L) := by
  have H := Lib.hid h
  have HR := Lib.hid hr
  have HL := Lib.hid hl
  have HF := Lib.hid hf
  have HK := Lib.hid hk
  clear h hr hl hf hk
  by_cases h0 : r = 0
  · rw [if_pos h0] at ho
    subst ho h0
    obtain rfl : true = t := ht
    go_enter Try.func116, Try.ntmps116
    go_wp2_with (go_at_call 95; (with_reducible refine (add_check d p e l q cap _ HR.out HL.out HF.out HK.out H.out).mono ?_); rintro e_ wn ⟨rfl, h⟩; replace H := Lib.hid h; clear h)
    go_ret
    exact ⟨rfl, H.out⟩
  · rw [if_neg h0] at ho
    have HO := Lib.hid ho
    have g0 : (r == 0) = false := by rw [beq_eq_false_iff_ne]; exact h0
    have g00 : (r != 0) = true := by simp [bne, g0]
    rw [g0] at ht
    subst ht
    clear ho h0
    go_enter Try.func116, Try.ntmps116
    go_wp2_with (first
    | (go_at_call 95; (with_reducible refine (add_check d p e l q cap _ HR.out HL.out HF.out HK.out H.out).mono ?_); rintro e_ wn ⟨rfl, h⟩; replace H := Lib.hid h; clear h)
    | (go_at_call 103; (with_reducible refine (so_failT b _ _ _ HO.out H.out).mono ?_); rintro e_ wn ⟨rfl, h⟩; replace H := Lib.hid h; clear h))
    go_ret
    exact ⟨rfl, H.out⟩

end Go.Proofs.Ytombolmicfjjpaa
