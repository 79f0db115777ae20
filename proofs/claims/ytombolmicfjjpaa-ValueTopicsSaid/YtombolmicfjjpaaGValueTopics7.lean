/- ValueTopics, any. -/
import Derived.Test.YtombolmicfjjpaaGValueTopics6
import Derived.Test.YtombolmicfjjpaaGValueTopics4
import Derived.Deep.RegionHeld3
import Derived.Deep.DeepCutAuto
import Derived.Test.YtombolmicfjjpaaArgs
import Derived.SizedLaws
import Derived.Deep.Slices
import Derived.Test.YtombolmicfjjpaaFld1
import Derived.Test.YtombolmicfjjpaaGValueTopics5
/- Values, decoded. -/
namespace Go.Proofs.Ytombolmicfjjpaa
open Go.RowKit

theorem St.sets7 {W0 w : World} {K : Know} {L : List Res} {b : Nat} {T : TypeId} {a0 a1 a2 a3 a4 a5 a6 : Value} (v0 v1 v2 v3 v4 v5 v6 : Value) (h : St W0 w K (.raw b #[a0, a1, a2, a3, a4, a5, a6] T :: L)) : St W0 (((((((w.setCell ⟨b, 0, none⟩ v0).setCell ⟨b, 1, none⟩ v1).setCell ⟨b, 2, none⟩ v2).setCell ⟨b, 3, none⟩ v3).setCell ⟨b, 4, none⟩ v4).setCell ⟨b, 5, none⟩ v5).setCell ⟨b, 6, none⟩ v6) K (.raw b #[v0, v1, v2, v3, v4, v5, v6] T :: L) := by
  have h : St W0 _ K (.raw b #[v0, a1, a2, a3, a4, a5, a6] T :: L) := h.rawSet 0 v0
  have h : St W0 _ K (.raw b #[v0, v1, a2, a3, a4, a5, a6] T :: L) := h.rawSet 1 v1
  have h : St W0 _ K (.raw b #[v0, v1, v2, a3, a4, a5, a6] T :: L) := h.rawSet 2 v2
  have h : St W0 _ K (.raw b #[v0, v1, v2, v3, a4, a5, a6] T :: L) := h.rawSet 3 v3
  have h : St W0 _ K (.raw b #[v0, v1, v2, v3, v4, a5, a6] T :: L) := h.rawSet 4 v4
  have h : St W0 _ K (.raw b #[v0, v1, v2, v3, v4, v5, a6] T :: L) := h.rawSet 5 v5
  have h : St W0 _ K (.raw b #[v0, v1, v2, v3, v4, v5, v6] T :: L) := h.rawSet 6 v6
  exact h
theorem s_failV (p : Nat) (i j : InS) (e : Int) (hx : i.fail e = j) {W0 w : World} {K : Know} {L : List Res} (h : St W0 w K (.inp p i :: L)) :
    Calls Try.prog 73 #[inPtr p, .int .i64 e] w fun en w' => en = .returned (.tuple #[]) ∧ St W0 w' K (.inp p j :: L) := by
  subst hx; exact s_fail p i e h
theorem s_closeV (p : Nat) (i : InS) (e : Int) (hx : i.close.err = e) {W0 w : World} {K : Know} {L : List Res} (h : St W0 w K (.inp p i :: L)) :
    Calls Try.prog 34 #[inPtr p] w fun en w' => en = .returned (.int .i64 e) ∧ St W0 w' K (.inp p i.close :: L) := by
  subst hx; exact s_close p i h
set_option maxHeartbeats 12000000 in
set_option maxRecDepth 100000 in
theorem val_decode_bad (S : Bs) (hsl : S.length ≤ 1000000) (v : ValS) (E : Int) (hv : valDec S = (v, E)) (h0 : E ≠ 0) {W0 w : World} {K : Know} {L : List Res} (h : St W0 w K L) :
    Calls Try.prog 18 #[.string (bb S)] w fun en w' => en = .returned (.tuple #[.agg #[.int .i64 0, .int .i64 0, .int .i64 0, .int .i64 0, .slice none 0 0, .int .i64 0, .int .i64 0], .int .i64 E]) ∧ St W0 w' K L := by
  obtain ⟨rb, hrb⟩ : ∃ b, w.heap.size = b := ⟨_, rfl⟩
  have g1 := h.allocRaw #[.int .i64 0, .int .i64 0, .int .i64 0, .int .i64 0, .slice none 0 0, .int .i64 0, .int .i64 0] 24
  rw [hrb] at g1
  have H := Lib.hid g1
  have HSL := Lib.hid (show S.length ≤ 140737488355328 by omega)
  obtain ⟨⟨a, j0⟩, ha⟩ : ∃ r, (⟨S, 0, 0⟩ : InS).int 2 = r := ⟨_, rfl⟩
  have HA := Lib.hid ha
  have hat := decI_at S
  obtain ⟨j, hj⟩ : ∃ j, decI S = j := ⟨_, rfl⟩
  have hjj : j = if a = 0 then j0 else j0.fail 7 := by rw [← hj]; unfold decI; rw [ha]
  obtain ⟨⟨p, i1⟩, h1⟩ : ∃ r, j.int 8 = r := ⟨_, rfl⟩
  obtain ⟨⟨e, i2⟩, h2⟩ : ∃ r, i1.int 2 = r := ⟨_, rfl⟩
  obtain ⟨⟨t, i3⟩, h3⟩ : ∃ r, i2.int 4 = r := ⟨_, rfl⟩
  obtain ⟨⟨s, i4⟩, h4⟩ : ∃ r, i3.int 1 = r := ⟨_, rfl⟩
  obtain ⟨⟨l, i5⟩, h5⟩ : ∃ r, i4.tops = r := ⟨_, rfl⟩
  obtain ⟨⟨u, i6⟩, h6⟩ : ∃ r, i5.int 8 = r := ⟨_, rfl⟩
  obtain ⟨⟨st, i7⟩, h7⟩ : ∃ r, i6.int 8 = r := ⟨_, rfl⟩
  have hF := valF_eq h1 h2 h3 h4 h5 h6 h7
  rw [hj] at hat
  have hfl := valF_few hat hsl
  rw [hF] at hfl
  have H1 := Lib.hid h1
  have H2 := Lib.hid h2
  have H3 := Lib.hid h3
  have H4 := Lib.hid h4
  have H5 := Lib.hid h5
  have H6 := Lib.hid h6
  have H7 := Lib.hid h7
  have HFL := Lib.hid (show FewL l from hfl)
  obtain ⟨ec, hec⟩ : ∃ ec, i7.close.err = ec := ⟨_, rfl⟩
  have HEC := Lib.hid hec
  have hde : decE S = ec := by unfold decE; rw [hj, hF]; exact hec
  have hb := valDec_bad hv h0
  rw [hde, hj, hF] at hb
  have gE : (E == 0) = false := by rw [beq_eq_false_iff_ne]; exact h0
  have gE2 : (E != 0) = true := by simp [bne, gE]
  have hdz := fun (hz : ec = 0) => decE_zero (s := S) (by rw [hde]; exact hz)
  rw [ha] at hdz
  rcases hb with hb | ⟨hb1, hb2⟩
  · subst hb
    by_cases ha0 : a = 0
    · as_aux_lemma =>
      rw [if_pos ha0] at hjj
      subst hjj
      subst ha0
      clear h g1 ha hat hj h1 h2 h3 h4 h5 h6 h7 hF hfl hec hde hdz hv hsl h0
      go_enter Try.func18, Try.ntmps18
      go_wp2_with (first
    | (go_at_call 24; (with_reducible refine (s_new S HSL.out H.out).mono ?_); rintro e_ wn ⟨bi, rfl, h⟩; replace H := Lib.hid h; clear h)
    | (go_at_call 72; (with_reducible refine (s_intV bi _ _ _ 2 HA.out H.out).mono ?_); rintro e_ wn ⟨rfl, h⟩; replace H := Lib.hid h; clear h)
    | (go_at_call 74; (with_reducible refine (val_fields bi _ _ _ _ _ _ _ _ p e t s u st l H1.out H2.out H3.out H4.out H5.out H6.out H7.out H.out).mono ?_); rintro e_ wn ⟨qt, capt, lr, rfl, hlr, h⟩; obtain ⟨vb, hvb⟩ : ∃ b, wn.heap.size = b := ⟨_, rfl⟩; have h := h.allocRaw #[.int .i64 p, .int .i64 e, .int .i64 t, .int .i64 s, .slice qt lr.length capt, .int .i64 u, .int .i64 st] 24; rw [hvb] at h; have HLR := Lib.hid hlr; clear hlr; replace H := Lib.hid h; clear h)
    | (go_at_call 34; (with_reducible refine (s_closeV bi _ _ HEC.out H.out.p1).mono ?_); rintro e_ wn ⟨rfl, h⟩; have c0 := h.p1.rawCell 0; have c1 := h.p1.rawCell 1; have c2 := h.p1.rawCell 2; have c3 := h.p1.rawCell 3; have c4 := h.p1.rawCell 4; have c5 := h.p1.rawCell 5; have c6 := h.p1.rawCell 6; simp at c0 c1 c2 c3 c4 c5 c6; have d0 := h.p2.rawCell 0; have r0 := h.p2.rawFree 0; have d1 := h.p2.rawCell 1; have r1 := h.p2.rawFree 1; have d2 := h.p2.rawCell 2; have r2 := h.p2.rawFree 2; have d3 := h.p2.rawCell 3; have r3 := h.p2.rawFree 3; have d4 := h.p2.rawCell 4; have r4 := h.p2.rawFree 4; have d5 := h.p2.rawCell 5; have r5 := h.p2.rawFree 5; have d6 := h.p2.rawCell 6; have r6 := h.p2.rawFree 6; simp at d0 d1 d2 d3 d4 d5 d6; replace H := Lib.hid h; clear h))
      have hz : St W0 _ _ (.raw rb #[.int .i64 0, .int .i64 0, .int .i64 0, .int .i64 0, .slice none 0 0, .int .i64 0, .int .i64 0] 24 :: _) := St.sets7 _ _ _ _ _ _ _ (H.out.p2)
      refine bodyPost_ret (rc_cell_tmp rfl _ _ rb [.int .i64 0, .int .i64 0, .int .i64 0, .int .i64 0, .slice none 0 0, .int .i64 0, .int .i64 0] _ rfl (rc_range hz) Try.underlying24 rfl (by kernel_rfl)) rfl ?_
      exact ⟨rfl, (hz.drop.drop.drop).know (Know.has_left (Know.has_refl _))⟩
    · as_aux_lemma =>
      rw [if_neg ha0] at hjj
      have HJ := Lib.hid hjj.symm
      have ga : (a == 0) = false := by rw [beq_eq_false_iff_ne]; exact ha0
      have ga2 : (a != 0) = true := by simp [bne, ga]
      clear h g1 ha hat hj h1 h2 h3 h4 h5 h6 h7 hF hfl hec hde hdz hv hsl h0 hjj ha0
      go_enter Try.func18, Try.ntmps18
      go_wp2_with (first
    | (go_at_call 24; (with_reducible refine (s_new S HSL.out H.out).mono ?_); rintro e_ wn ⟨bi, rfl, h⟩; replace H := Lib.hid h; clear h)
    | (go_at_call 72; (with_reducible refine (s_intV bi _ _ _ 2 HA.out H.out).mono ?_); rintro e_ wn ⟨rfl, h⟩; replace H := Lib.hid h; clear h)
    | (go_at_call 73; (with_reducible refine (s_failV bi _ _ 7 HJ.out H.out).mono ?_); rintro e_ wn ⟨rfl, h⟩; replace H := Lib.hid h; clear h)
    | (go_at_call 74; (with_reducible refine (val_fields bi _ _ _ _ _ _ _ _ p e t s u st l H1.out H2.out H3.out H4.out H5.out H6.out H7.out H.out).mono ?_); rintro e_ wn ⟨qt, capt, lr, rfl, hlr, h⟩; obtain ⟨vb, hvb⟩ : ∃ b, wn.heap.size = b := ⟨_, rfl⟩; have h := h.allocRaw #[.int .i64 p, .int .i64 e, .int .i64 t, .int .i64 s, .slice qt lr.length capt, .int .i64 u, .int .i64 st] 24; rw [hvb] at h; have HLR := Lib.hid hlr; clear hlr; replace H := Lib.hid h; clear h)
    | (go_at_call 34; (with_reducible refine (s_closeV bi _ _ HEC.out H.out.p1).mono ?_); rintro e_ wn ⟨rfl, h⟩; have c0 := h.p1.rawCell 0; have c1 := h.p1.rawCell 1; have c2 := h.p1.rawCell 2; have c3 := h.p1.rawCell 3; have c4 := h.p1.rawCell 4; have c5 := h.p1.rawCell 5; have c6 := h.p1.rawCell 6; simp at c0 c1 c2 c3 c4 c5 c6; have d0 := h.p2.rawCell 0; have r0 := h.p2.rawFree 0; have d1 := h.p2.rawCell 1; have r1 := h.p2.rawFree 1; have d2 := h.p2.rawCell 2; have r2 := h.p2.rawFree 2; have d3 := h.p2.rawCell 3; have r3 := h.p2.rawFree 3; have d4 := h.p2.rawCell 4; have r4 := h.p2.rawFree 4; have d5 := h.p2.rawCell 5; have r5 := h.p2.rawFree 5; have d6 := h.p2.rawCell 6; have r6 := h.p2.rawFree 6; simp at d0 d1 d2 d3 d4 d5 d6; replace H := Lib.hid h; clear h))
      have hz : St W0 _ _ (.raw rb #[.int .i64 0, .int .i64 0, .int .i64 0, .int .i64 0, .slice none 0 0, .int .i64 0, .int .i64 0] 24 :: _) := St.sets7 _ _ _ _ _ _ _ (H.out.p2)
      refine bodyPost_ret (rc_cell_tmp rfl _ _ rb [.int .i64 0, .int .i64 0, .int .i64 0, .int .i64 0, .slice none 0 0, .int .i64 0, .int .i64 0] _ rfl (rc_range hz) Try.underlying24 rfl (by kernel_rfl)) rfl ?_
      exact ⟨rfl, (hz.drop.drop.drop).know (Know.has_left (Know.has_refl _))⟩
  · as_aux_lemma =>
    have ha0 : a = 0 := hdz hb1
    rw [if_pos ha0] at hjj
    subst hjj
    subst ha0
    subst hb1
    have HE := Lib.hid (show ValS.err ⟨p, e, t, s, l, u, st⟩ = E from hb2)
    clear h g1 ha hat hj h1 h2 h3 h4 h5 h6 h7 hF hfl hec hde hdz hv hsl h0 hb2
    go_enter Try.func18, Try.ntmps18
    go_wp2_with (first
    | (go_at_call 24; (with_reducible refine (s_new S HSL.out H.out).mono ?_); rintro e_ wn ⟨bi, rfl, h⟩; replace H := Lib.hid h; clear h)
    | (go_at_call 72; (with_reducible refine (s_intV bi _ _ _ 2 HA.out H.out).mono ?_); rintro e_ wn ⟨rfl, h⟩; replace H := Lib.hid h; clear h)
    | (go_at_call 74; (with_reducible refine (val_fields bi _ _ _ _ _ _ _ _ p e t s u st l H1.out H2.out H3.out H4.out H5.out H6.out H7.out H.out).mono ?_); rintro e_ wn ⟨qt, capt, lr, rfl, hlr, h⟩; obtain ⟨vb, hvb⟩ : ∃ b, wn.heap.size = b := ⟨_, rfl⟩; have h := h.allocRaw #[.int .i64 p, .int .i64 e, .int .i64 t, .int .i64 s, .slice qt lr.length capt, .int .i64 u, .int .i64 st] 24; rw [hvb] at h; have HLR := Lib.hid hlr; clear hlr; replace H := Lib.hid h; clear h)
    | (go_at_call 34; (with_reducible refine (s_closeV bi _ _ HEC.out H.out.p1).mono ?_); rintro e_ wn ⟨rfl, h⟩; have c0 := h.p1.rawCell 0; have c1 := h.p1.rawCell 1; have c2 := h.p1.rawCell 2; have c3 := h.p1.rawCell 3; have c4 := h.p1.rawCell 4; have c5 := h.p1.rawCell 5; have c6 := h.p1.rawCell 6; simp at c0 c1 c2 c3 c4 c5 c6; have d0 := h.p2.rawCell 0; have r0 := h.p2.rawFree 0; have d1 := h.p2.rawCell 1; have r1 := h.p2.rawFree 1; have d2 := h.p2.rawCell 2; have r2 := h.p2.rawFree 2; have d3 := h.p2.rawCell 3; have r3 := h.p2.rawFree 3; have d4 := h.p2.rawCell 4; have r4 := h.p2.rawFree 4; have d5 := h.p2.rawCell 5; have r5 := h.p2.rawFree 5; have d6 := h.p2.rawCell 6; have r6 := h.p2.rawFree 6; simp at d0 d1 d2 d3 d4 d5 d6; replace H := Lib.hid h; clear h)
    | (go_at_call 17; (with_reducible refine (val_checkV p e t s u st lr _ _ E (by rw [HLR.out]; exact HE.out) (fewT_of (by rw [HLR.out]; exact HFL.out)) (Know.has_right (Know.has_refl _)) H.out).mono ?_); rintro e_ wn ⟨rfl, h⟩; have c0 := h.p1.rawCell 0; have c1 := h.p1.rawCell 1; have c2 := h.p1.rawCell 2; have c3 := h.p1.rawCell 3; have c4 := h.p1.rawCell 4; have c5 := h.p1.rawCell 5; have c6 := h.p1.rawCell 6; simp at c0 c1 c2 c3 c4 c5 c6; have d0 := h.p2.rawCell 0; have r0 := h.p2.rawFree 0; have d1 := h.p2.rawCell 1; have r1 := h.p2.rawFree 1; have d2 := h.p2.rawCell 2; have r2 := h.p2.rawFree 2; have d3 := h.p2.rawCell 3; have r3 := h.p2.rawFree 3; have d4 := h.p2.rawCell 4; have r4 := h.p2.rawFree 4; have d5 := h.p2.rawCell 5; have r5 := h.p2.rawFree 5; have d6 := h.p2.rawCell 6; have r6 := h.p2.rawFree 6; simp at d0 d1 d2 d3 d4 d5 d6; replace H := Lib.hid h; clear h))
    have hz : St W0 _ _ (.raw rb #[.int .i64 0, .int .i64 0, .int .i64 0, .int .i64 0, .slice none 0 0, .int .i64 0, .int .i64 0] 24 :: _) := St.sets7 _ _ _ _ _ _ _ (H.out.p2)
    refine bodyPost_ret (rc_cell_tmp rfl _ _ rb [.int .i64 0, .int .i64 0, .int .i64 0, .int .i64 0, .slice none 0 0, .int .i64 0, .int .i64 0] _ rfl (rc_range hz) Try.underlying24 rfl (by kernel_rfl)) rfl ?_
    exact ⟨rfl, (hz.drop.drop.drop).know (Know.has_left (Know.has_refl _))⟩
set_option maxHeartbeats 12000000 in
set_option maxRecDepth 100000 in
theorem val_decode_ok (S : Bs) (hsl : S.length ≤ 1000000) (v : ValS) (hv : valDec S = (v, 0)) {W0 w : World} {K : Know} {L : List Res} (h : St W0 w K L) :
    Calls Try.prog 18 #[.string (bb S)] w fun en w' => ∃ (qt : Option Addr) (capt : Nat) (lr : List (TopS × Value)), en = .returned (.tuple #[.agg #[.int .i64 v.prod, .int .i64 v.epoch, .int .i64 v.timeout, .int .i64 v.state, .slice qt lr.length capt, .int .i64 v.upd, .int .i64 v.started], .int .i64 0]) ∧ lr.map (·.1) = v.tops ∧ St W0 w' (K.and (Know.tops (.slice qt lr.length capt) lr)) L := by
  obtain ⟨rb, hrb⟩ : ∃ b, w.heap.size = b := ⟨_, rfl⟩
  have g1 := h.allocRaw #[.int .i64 0, .int .i64 0, .int .i64 0, .int .i64 0, .slice none 0 0, .int .i64 0, .int .i64 0] 24
  rw [hrb] at g1
  have H := Lib.hid g1
  have HSL := Lib.hid (show S.length ≤ 140737488355328 by omega)
  obtain ⟨⟨a, j0⟩, ha⟩ : ∃ r, (⟨S, 0, 0⟩ : InS).int 2 = r := ⟨_, rfl⟩
  have HA := Lib.hid ha
  have hat := decI_at S
  obtain ⟨j, hj⟩ : ∃ j, decI S = j := ⟨_, rfl⟩
  have hjj : j = if a = 0 then j0 else j0.fail 7 := by rw [← hj]; unfold decI; rw [ha]
  obtain ⟨⟨p, i1⟩, h1⟩ : ∃ r, j.int 8 = r := ⟨_, rfl⟩
  obtain ⟨⟨e, i2⟩, h2⟩ : ∃ r, i1.int 2 = r := ⟨_, rfl⟩
  obtain ⟨⟨t, i3⟩, h3⟩ : ∃ r, i2.int 4 = r := ⟨_, rfl⟩
  obtain ⟨⟨s, i4⟩, h4⟩ : ∃ r, i3.int 1 = r := ⟨_, rfl⟩
  obtain ⟨⟨l, i5⟩, h5⟩ : ∃ r, i4.tops = r := ⟨_, rfl⟩
  obtain ⟨⟨u, i6⟩, h6⟩ : ∃ r, i5.int 8 = r := ⟨_, rfl⟩
  obtain ⟨⟨st, i7⟩, h7⟩ : ∃ r, i6.int 8 = r := ⟨_, rfl⟩
  have hF := valF_eq h1 h2 h3 h4 h5 h6 h7
  rw [hj] at hat
  have hfl := valF_few hat hsl
  rw [hF] at hfl
  have H1 := Lib.hid h1
  have H2 := Lib.hid h2
  have H3 := Lib.hid h3
  have H4 := Lib.hid h4
  have H5 := Lib.hid h5
  have H6 := Lib.hid h6
  have H7 := Lib.hid h7
  have HFL := Lib.hid (show FewL l from hfl)
  obtain ⟨ec, hec⟩ : ∃ ec, i7.close.err = ec := ⟨_, rfl⟩
  have HEC := Lib.hid hec
  have hde : decE S = ec := by unfold decE; rw [hj, hF]; exact hec
  obtain ⟨hb1, hb2, hb3⟩ := valDec_ok hv (.inr trivial)
  rw [hde] at hb1
  rw [hj, hF] at hb2
  have hdz := decE_zero (s := S) (by rw [hde]; exact hb1)
  rw [ha] at hdz
  have ha0 : a = 0 := hdz
  rw [if_pos ha0] at hjj
  have hb2 : (⟨p, e, t, s, l, u, st⟩ : ValS) = v := hb2
  subst hb2
  subst hjj
  subst ha0
  subst hb1
  have HE := Lib.hid hb3
  clear h g1 ha hat hj h1 h2 h3 h4 h5 h6 h7 hF hfl hec hde hdz hv hsl hb3
  go_enter Try.func18, Try.ntmps18
  go_wp2_with (first
    | (go_at_call 24; (with_reducible refine (s_new S HSL.out H.out).mono ?_); rintro e_ wn ⟨bi, rfl, h⟩; replace H := Lib.hid h; clear h)
    | (go_at_call 72; (with_reducible refine (s_intV bi _ _ _ 2 HA.out H.out).mono ?_); rintro e_ wn ⟨rfl, h⟩; replace H := Lib.hid h; clear h)
    | (go_at_call 74; (with_reducible refine (val_fields bi _ _ _ _ _ _ _ _ p e t s u st l H1.out H2.out H3.out H4.out H5.out H6.out H7.out H.out).mono ?_); rintro e_ wn ⟨qt, capt, lr, rfl, hlr, h⟩; obtain ⟨vb, hvb⟩ : ∃ b, wn.heap.size = b := ⟨_, rfl⟩; have h := h.allocRaw #[.int .i64 p, .int .i64 e, .int .i64 t, .int .i64 s, .slice qt lr.length capt, .int .i64 u, .int .i64 st] 24; rw [hvb] at h; have HLR := Lib.hid hlr; clear hlr; replace H := Lib.hid h; clear h)
    | (go_at_call 34; (with_reducible refine (s_closeV bi _ _ HEC.out H.out.p1).mono ?_); rintro e_ wn ⟨rfl, h⟩; have c0 := h.p1.rawCell 0; have c1 := h.p1.rawCell 1; have c2 := h.p1.rawCell 2; have c3 := h.p1.rawCell 3; have c4 := h.p1.rawCell 4; have c5 := h.p1.rawCell 5; have c6 := h.p1.rawCell 6; simp at c0 c1 c2 c3 c4 c5 c6; have d0 := h.p2.rawCell 0; have r0 := h.p2.rawFree 0; have d1 := h.p2.rawCell 1; have r1 := h.p2.rawFree 1; have d2 := h.p2.rawCell 2; have r2 := h.p2.rawFree 2; have d3 := h.p2.rawCell 3; have r3 := h.p2.rawFree 3; have d4 := h.p2.rawCell 4; have r4 := h.p2.rawFree 4; have d5 := h.p2.rawCell 5; have r5 := h.p2.rawFree 5; have d6 := h.p2.rawCell 6; have r6 := h.p2.rawFree 6; simp at d0 d1 d2 d3 d4 d5 d6; replace H := Lib.hid h; clear h)
    | (go_at_call 17; (with_reducible refine (val_checkV p e t s u st lr _ _ 0 (by rw [HLR.out]; exact HE.out) (fewT_of (by rw [HLR.out]; exact HFL.out)) (Know.has_right (Know.has_refl _)) H.out).mono ?_); rintro e_ wn ⟨rfl, h⟩; have c0 := h.p1.rawCell 0; have c1 := h.p1.rawCell 1; have c2 := h.p1.rawCell 2; have c3 := h.p1.rawCell 3; have c4 := h.p1.rawCell 4; have c5 := h.p1.rawCell 5; have c6 := h.p1.rawCell 6; simp at c0 c1 c2 c3 c4 c5 c6; have d0 := h.p2.rawCell 0; have r0 := h.p2.rawFree 0; have d1 := h.p2.rawCell 1; have r1 := h.p2.rawFree 1; have d2 := h.p2.rawCell 2; have r2 := h.p2.rawFree 2; have d3 := h.p2.rawCell 3; have r3 := h.p2.rawFree 3; have d4 := h.p2.rawCell 4; have r4 := h.p2.rawFree 4; have d5 := h.p2.rawCell 5; have r5 := h.p2.rawFree 5; have d6 := h.p2.rawCell 6; have r6 := h.p2.rawFree 6; simp at d0 d1 d2 d3 d4 d5 d6; replace H := Lib.hid h; clear h))
  have hz : St W0 _ _ (.raw rb #[.int .i64 p, .int .i64 e, .int .i64 t, .int .i64 s, .slice qt lr.length capt, .int .i64 u, .int .i64 st] 24 :: _) := St.sets7 _ _ _ _ _ _ _ (H.out.p2)
  refine bodyPost_ret (rc_cell_tmp rfl _ _ rb [.int .i64 p, .int .i64 e, .int .i64 t, .int .i64 s, .slice qt lr.length capt, .int .i64 u, .int .i64 st] _ rfl (rc_range hz) Try.underlying24 rfl (by kernel_rfl)) rfl ?_
  exact ⟨qt, capt, lr, rfl, HLR.out, hz.drop.drop.drop⟩

end Go.Proofs.Ytombolmicfjjpaa

/- Values, encoded. -/
namespace Go.Proofs.Ytombolmicfjjpaa
open Go.RowKit

set_option maxHeartbeats 2000000 in
set_option maxRecDepth 100000 in
theorem val_encode_bad (p e t s u st : Int) (l : List (TopS × Value)) (q : Option Addr) (cap : Nat) (E : Int) (he : ValS.err ⟨p, e, t, s, l.map (·.1), u, st⟩ = E) (h0 : E ≠ 0) (hf : FewT l) {W0 w : World} {K : Know} {L : List Res} (hk : K.has (Know.tops (.slice q l.length cap) l)) (h : St W0 w K L) :
    Calls Try.prog 15 #[.agg #[.int .i64 p, .int .i64 e, .int .i64 t, .int .i64 s, .slice q l.length cap, .int .i64 u, .int .i64 st]] w fun en w' => en = .returned (.tuple #[.string ⟨#[]⟩, .int .i64 E]) ∧ St W0 w' K L := by
  have HK := Lib.hid hk
  have HF := Lib.hid hf
  obtain ⟨vb, hvb⟩ : ∃ b, w.heap.size = b := ⟨_, rfl⟩
  have h1 := h.allocRaw #[.int .i64 p, .int .i64 e, .int .i64 t, .int .i64 s, .slice q l.length cap, .int .i64 u, .int .i64 st] 24
  rw [hvb] at h1
  have c0 := (h1).rawCell 0
  have c1 := (h1).rawCell 1
  have c2 := (h1).rawCell 2
  have c3 := (h1).rawCell 3
  have c4 := (h1).rawCell 4
  have c5 := (h1).rawCell 5
  have c6 := (h1).rawCell 6
  simp at c0 c1 c2 c3 c4 c5 c6
  have H := Lib.hid h1
  have HE := Lib.hid he
  have gz : (E == 0) = false := by rw [beq_eq_false_iff_ne]; exact h0
  have gz3 : (E != 0) = true := by simp [bne, gz]
  clear h h1 hk hf he h0
  go_enter Try.func15, Try.ntmps15
  go_wp2_with (go_at_call 17; (with_reducible refine (val_checkV p e t s u st l _ _ E HE.out HF.out HK.out H.out).mono ?_); rintro e_ wn ⟨rfl, h⟩; have c0 := (h).rawCell 0; have c1 := (h).rawCell 1; have c2 := (h).rawCell 2; have c3 := (h).rawCell 3; have c4 := (h).rawCell 4; have c5 := (h).rawCell 5; have c6 := (h).rawCell 6; simp at c0 c1 c2 c3 c4 c5 c6; replace H := Lib.hid h; clear h)
  go_ret2
  exact ⟨rfl, H.out.drop⟩

set_option maxHeartbeats 2000000 in
set_option maxRecDepth 100000 in
theorem val_encode_ok (p e t s u st : Int) (l : List (TopS × Value)) (q : Option Addr) (cap : Nat) (he : ValS.err ⟨p, e, t, s, l.map (·.1), u, st⟩ = 0) (hR : ValS.R ⟨p, e, t, s, l.map (·.1), u, st⟩) (hf : FewT l) {W0 w : World} {K : Know} {L : List Res} (hk : K.has (Know.tops (.slice q l.length cap) l)) (h : St W0 w K L) :
    Calls Try.prog 15 #[.agg #[.int .i64 p, .int .i64 e, .int .i64 t, .int .i64 s, .slice q l.length cap, .int .i64 u, .int .i64 st]] w fun en w' => en = .returned (.tuple #[.string (bb (ValS.enc ⟨p, e, t, s, l.map (·.1), u, st⟩)), .int .i64 0]) ∧ St W0 w' K L := by
  have HK := Lib.hid hk
  have HF := Lib.hid hf
  obtain ⟨vb, hvb⟩ : ∃ b, w.heap.size = b := ⟨_, rfl⟩
  have h1 := h.allocRaw #[.int .i64 p, .int .i64 e, .int .i64 t, .int .i64 s, .slice q l.length cap, .int .i64 u, .int .i64 st] 24
  rw [hvb] at h1
  have c0 := (h1).rawCell 0
  have c1 := (h1).rawCell 1
  have c2 := (h1).rawCell 2
  have c3 := (h1).rawCell 3
  have c4 := (h1).rawCell 4
  have c5 := (h1).rawCell 5
  have c6 := (h1).rawCell 6
  simp at c0 c1 c2 c3 c4 c5 c6
  have H := Lib.hid h1
  have HE := Lib.hid he
  have hp := ValS.ok_parts _ he
  have hrg := ranged_parts _ hp.1
  have hft := fit_of_rise l hf hp.2.2.2.2
  have hst := hp.2.1
  obtain ⟨r1, r2, r3, r4, r5, r6⟩ := hR
  simp only at hrg hst r1 r2 r3 r4 r5 r6
  have HFT := Lib.hid hft
  obtain ⟨y0, hy0⟩ : ∃ y : Bs, [] = y := ⟨_, rfl⟩
  obtain ⟨y1, hy1⟩ : ∃ y, y0 ++ beBytes 0 2 = y := ⟨_, rfl⟩
  obtain ⟨y2, hy2⟩ : ∃ y, y1 ++ beBytes p 8 = y := ⟨_, rfl⟩
  obtain ⟨y3, hy3⟩ : ∃ y, y2 ++ beBytes e 2 = y := ⟨_, rfl⟩
  obtain ⟨y4, hy4⟩ : ∃ y, y3 ++ beBytes t 4 = y := ⟨_, rfl⟩
  obtain ⟨y5, hy5⟩ : ∃ y, y4 ++ beBytes s 1 = y := ⟨_, rfl⟩
  obtain ⟨y6, hy6⟩ : ∃ y, y5 ++ encTs (l.map (·.1)) = y := ⟨_, rfl⟩
  obtain ⟨y7, hy7⟩ : ∃ y, y6 ++ beBytes u 8 = y := ⟨_, rfl⟩
  obtain ⟨y8, hy8⟩ : ∃ y, y7 ++ beBytes st 8 = y := ⟨_, rfl⟩
  have hye : y8 = ValS.enc ⟨p, e, t, s, l.map (·.1), u, st⟩ := by rw [← hy8, ← hy7, ← hy6, ← hy5, ← hy4, ← hy3, ← hy2, ← hy1, ← hy0]; rfl
  have hl1 := congrArg List.length hy1
  have hl2 := congrArg List.length hy2
  have hl3 := congrArg List.length hy3
  have hl4 := congrArg List.length hy4
  have hl5 := congrArg List.length hy5
  have hl6 := congrArg List.length hy6
  have hl7 := congrArg List.length hy7
  have hl8 := congrArg List.length hy8
  have hl0 := congrArg List.length hy0
  simp only [List.length_append, beBytes_length, List.length_nil] at hl0 hl1 hl2 hl3 hl4 hl5 hl6 hl7 hl8
  have hTl : (encTs (l.map (·.1))).length ≤ 5000000000000 := by rw [← preT_all]; have h1 := preT_le _ hft _ (Nat.le_refl _); have h2 := hft.1; omega
  have Y1 := Lib.hid (show y0 ++ beBytes 0 (2 : Int).toNat = y1 from hy1)
  have G1 := Lib.hid (vfits2 0 (by omega))
  have Q1 := Lib.hid (show y0.length ≤ 100000000000000 by omega)
  have Y2 := Lib.hid (show y1 ++ beBytes p (8 : Int).toNat = y2 from hy2)
  have G2 := Lib.hid (vfits8 p (by omega))
  have Q2 := Lib.hid (show y1.length ≤ 100000000000000 by omega)
  have Y3 := Lib.hid (show y2 ++ beBytes e (2 : Int).toNat = y3 from hy3)
  have G3 := Lib.hid (vfits2 e (by omega))
  have Q3 := Lib.hid (show y2.length ≤ 100000000000000 by omega)
  have Y4 := Lib.hid (show y3 ++ beBytes t (4 : Int).toNat = y4 from hy4)
  have G4 := Lib.hid (vfits4 t (by omega))
  have Q4 := Lib.hid (show y3.length ≤ 100000000000000 by omega)
  have Y5 := Lib.hid (show y4 ++ beBytes s (1 : Int).toNat = y5 from hy5)
  have G5 := Lib.hid (vfits1 s (by omega))
  have Q5 := Lib.hid (show y4.length ≤ 100000000000000 by omega)
  have Y6 := Lib.hid hy6
  have Q6 := Lib.hid (show y5.length ≤ 1000000 by omega)
  have Y7 := Lib.hid (show y6 ++ beBytes u (8 : Int).toNat = y7 from hy7)
  have G7 := Lib.hid (vfits8 u (by omega))
  have Q7 := Lib.hid (show y6.length ≤ 100000000000000 by omega)
  have Y8 := Lib.hid (show y7 ++ beBytes st (8 : Int).toNat = y8 from hy8)
  have G8 := Lib.hid (vfits8 st (by omega))
  have Q8 := Lib.hid (show y7.length ≤ 100000000000000 by omega)
  rw [← hye]
  clear h h1 hk hf he hp hrg hft hst r1 r2 r3 r4 r5 r6 hTl hye hy1 hy2 hy3 hy4 hy5 hy6 hy7 hy8 hl0 hl1 hl2 hl3 hl4 hl5 hl6 hl7 hl8
  go_enter Try.func15, Try.ntmps15
  go_wp2_with (first
    | (go_at_call 17; (with_reducible refine (val_checkV p e t s u st l _ _ 0 HE.out HF.out HK.out H.out).mono ?_); rintro e_ wn ⟨rfl, h⟩; obtain ⟨po, hpo⟩ : ∃ b, wn.heap.size = b := ⟨_, rfl⟩; have h := h.allocOut; rw [hpo, hy0] at h; have c0 := (h.p1).rawCell 0; have c1 := (h.p1).rawCell 1; have c2 := (h.p1).rawCell 2; have c3 := (h.p1).rawCell 3; have c4 := (h.p1).rawCell 4; have c5 := (h.p1).rawCell 5; have c6 := (h.p1).rawCell 6; simp at c0 c1 c2 c3 c4 c5 c6; replace H := Lib.hid h; clear h)
    | (go_at_call 69; (with_reducible refine (so_intV po y0 y1 0 2 Y1.out G1.out Q1.out H.out).mono ?_); rintro e_ wn ⟨rfl, h⟩; have c0 := (h.p1).rawCell 0; have c1 := (h.p1).rawCell 1; have c2 := (h.p1).rawCell 2; have c3 := (h.p1).rawCell 3; have c4 := (h.p1).rawCell 4; have c5 := (h.p1).rawCell 5; have c6 := (h.p1).rawCell 6; simp at c0 c1 c2 c3 c4 c5 c6; replace H := Lib.hid h; clear h)
    | (go_at_call 69; (with_reducible refine (so_intV po y1 y2 p 8 Y2.out G2.out Q2.out H.out).mono ?_); rintro e_ wn ⟨rfl, h⟩; have c0 := (h.p1).rawCell 0; have c1 := (h.p1).rawCell 1; have c2 := (h.p1).rawCell 2; have c3 := (h.p1).rawCell 3; have c4 := (h.p1).rawCell 4; have c5 := (h.p1).rawCell 5; have c6 := (h.p1).rawCell 6; simp at c0 c1 c2 c3 c4 c5 c6; replace H := Lib.hid h; clear h)
    | (go_at_call 69; (with_reducible refine (so_intV po y2 y3 e 2 Y3.out G3.out Q3.out H.out).mono ?_); rintro e_ wn ⟨rfl, h⟩; have c0 := (h.p1).rawCell 0; have c1 := (h.p1).rawCell 1; have c2 := (h.p1).rawCell 2; have c3 := (h.p1).rawCell 3; have c4 := (h.p1).rawCell 4; have c5 := (h.p1).rawCell 5; have c6 := (h.p1).rawCell 6; simp at c0 c1 c2 c3 c4 c5 c6; replace H := Lib.hid h; clear h)
    | (go_at_call 69; (with_reducible refine (so_intV po y3 y4 t 4 Y4.out G4.out Q4.out H.out).mono ?_); rintro e_ wn ⟨rfl, h⟩; have c0 := (h.p1).rawCell 0; have c1 := (h.p1).rawCell 1; have c2 := (h.p1).rawCell 2; have c3 := (h.p1).rawCell 3; have c4 := (h.p1).rawCell 4; have c5 := (h.p1).rawCell 5; have c6 := (h.p1).rawCell 6; simp at c0 c1 c2 c3 c4 c5 c6; replace H := Lib.hid h; clear h)
    | (go_at_call 69; (with_reducible refine (so_intV po y4 y5 s 1 Y5.out G5.out Q5.out H.out).mono ?_); rintro e_ wn ⟨rfl, h⟩; have c0 := (h.p1).rawCell 0; have c1 := (h.p1).rawCell 1; have c2 := (h.p1).rawCell 2; have c3 := (h.p1).rawCell 3; have c4 := (h.p1).rawCell 4; have c5 := (h.p1).rawCell 5; have c6 := (h.p1).rawCell 6; simp at c0 c1 c2 c3 c4 c5 c6; replace H := Lib.hid h; clear h)
    | (go_at_call 31; (with_reducible refine (val_putTopics po y5 y6 l _ _ Y6.out Q6.out HFT.out HK.out H.out).mono ?_); rintro e_ wn ⟨rfl, h⟩; have c0 := (h.p1).rawCell 0; have c1 := (h.p1).rawCell 1; have c2 := (h.p1).rawCell 2; have c3 := (h.p1).rawCell 3; have c4 := (h.p1).rawCell 4; have c5 := (h.p1).rawCell 5; have c6 := (h.p1).rawCell 6; simp at c0 c1 c2 c3 c4 c5 c6; replace H := Lib.hid h; clear h)
    | (go_at_call 69; (with_reducible refine (so_intV po y6 y7 u 8 Y7.out G7.out Q7.out H.out).mono ?_); rintro e_ wn ⟨rfl, h⟩; have c0 := (h.p1).rawCell 0; have c1 := (h.p1).rawCell 1; have c2 := (h.p1).rawCell 2; have c3 := (h.p1).rawCell 3; have c4 := (h.p1).rawCell 4; have c5 := (h.p1).rawCell 5; have c6 := (h.p1).rawCell 6; simp at c0 c1 c2 c3 c4 c5 c6; replace H := Lib.hid h; clear h)
    | (go_at_call 69; (with_reducible refine (so_intV po y7 y8 st 8 Y8.out G8.out Q8.out H.out).mono ?_); rintro e_ wn ⟨rfl, h⟩; have c0 := (h.p1).rawCell 0; have c1 := (h.p1).rawCell 1; have c2 := (h.p1).rawCell 2; have c3 := (h.p1).rawCell 3; have c4 := (h.p1).rawCell 4; have c5 := (h.p1).rawCell 5; have c6 := (h.p1).rawCell 6; simp at c0 c1 c2 c3 c4 c5 c6; replace H := Lib.hid h; clear h)
    | (go_at_call 32; (with_reducible refine (so_textV po y8 H.out).mono ?_); rintro e_ wn ⟨rfl, h⟩; replace H := Lib.hid h; clear h))
  go_ret2
  exact ⟨rfl, H.out.drop.drop⟩

end Go.Proofs.Ytombolmicfjjpaa

/- How many topics are looked at. -/
namespace Go.Proofs.Ytombolmicfjjpaa
open Go.RowKit

set_option maxHeartbeats 2000000 in
set_option maxRecDepth 100000 in
theorem law14_few (l : List (TopS × Value)) (q : Option Addr) (cap : Nat) (hnl : l.length ≤ 140737488351232) (hb : ∀ x ∈ l, x.1.name.length ≤ 140737488351232 ∧ x.1.parts.length ≤ 17592186043904) (r : Int) (hr : few (l.map (·.1)) = r) {W0 w : World} {K : Know} {L : List Res} (hk : K.has (Know.tops (.slice q l.length cap) l)) (h : St W0 w K L) :
    Calls Try.prog 14 #[.slice q l.length cap] w fun en w' => en = .returned (.int .i64 r) ∧ St W0 w' K L := by
  have H := Lib.hid h
  have HK := Lib.hid hk
  have HR := Lib.hid hr
  have HB := Lib.hid hb
  clear h hk hr hb
  go_enter Try.func14, Try.ntmps14
  go_wp2
  go_loopw [3, 8] (fun sv iv wr => ∃ (k m : Nat), k ≤ l.length ∧ iv = .int .i64 k ∧ sv = .int .i64 m ∧ topWs ((l.map (·.1)).take k) = m ∧ m ≤ 1000 ∧ St W0 wr K L) (fun _ iv _ => l.length - (intOf iv).toNat)
  case atStart => exact ⟨0, 0, Nat.zero_le _, rfl, rfl, by simp [topWs], by omega, H.out⟩
  case round =>
    obtain ⟨k, m, hkl, rfl, rfl, hm, hm0, hst⟩ := hrel
    clear H
    have H := Lib.hid hst
    clear hst
    by_cases hlt : k < l.length
    · as_aux_lemma =>
      obtain ⟨b, off, hqq⟩ := tops_at HK.out H.out (by omega)
      subst hqq
      obtain ⟨⟨⟨nm, ps⟩, vx⟩, hx⟩ : ∃ x, l[k] = x := ⟨_, rfl⟩
      obtain ⟨c0, c1⟩ : wr.cell? ⟨b, off + k * 2, none⟩ = some (.string (bb nm)) ∧ wr.cell? ⟨b, off + k * 2 + 1, none⟩ = some vx := tops_cell HK.out H.out k hlt _ hx
      have hmem : ((⟨nm, ps⟩ : TopS), vx) ∈ l := hx ▸ List.getElem_mem hlt
      have hxk : K.has (Know.flat RI vx 1 ps) := tops_parts HK.out hmem
      obtain ⟨qx, capx, hvx⟩ := flat_form hxk H.out
      subst hvx
      have HXK := Lib.hid hxk
      have hmk : k < (l.map (·.1)).length := by rw [List.length_map]; exact hlt
      have hmg : (l.map (·.1))[k] = ⟨nm, ps⟩ := by rw [List.getElem_map, hx]
      have hkn : (k : Int) < (l.length : Int) := by omega
      obtain ⟨hn1, hn2⟩ := HB.out _ hmem
      replace hn1 : nm.length ≤ 140737488351232 := hn1
      replace hn2 : ps.length ≤ 17592186043904 := hn2
      have hst1 := topWs_take (l.map (·.1)) k hmk _ hmg
      rw [hm] at hst1
      replace hst1 : topWs ((l.map (·.1)).take (k + 1)) = m + (nm.length + 4 * ps.length + 6) := hst1
      have hlk := topWs_le (l.map (·.1)) (k + 1)
      obtain ⟨M, hM⟩ : ∃ M : Nat, m + (nm.length + 4 * ps.length + 6) = M := ⟨_, rfl⟩
      have hMi : (m : Int) + ((nm.length : Int) + 4 * (ps.length : Int) + 6) = (M : Int) := by omega
      have hm1 : (m : Int) ≤ 1000 := by omega
      have hMb : M ≤ 1000000000000000 := by omega
      rw [hM] at hst1
      by_cases hMl : M ≤ 1000
      · have g1 : ¬ (1000 < (m : Int) + ((nm.length : Int) + 4 * (ps.length : Int) + 6)) := by omega
        have HST := Lib.hid hst1
        have HMI := Lib.hid hMi
        have HML := Lib.hid hMl
        clear hst1 hx hmem hxk hmk hmg hm hM hMl hlk hm0 hMi hMb
        go_wp2
        go_roundw
        case rel => exact ⟨k + 1, M, hlt, by go_num, by rw [HMI.out], HST.out, HML.out, H.out.alloc _⟩
        case measure => first | (simp [intOf]; done) | (simp [intOf]; omega)
      · have g1 : 1000 < (m : Int) + ((nm.length : Int) + 4 * (ps.length : Int) + 6) := by omega
        have hz : r = 0 := by
          rw [← HR.out]; unfold few
          rw [if_neg (by omega)]
        subst hz
        have HMI := Lib.hid hMi
        clear hst1 hx hmem hxk hmk hmg hm hM hMl hlk hm0 hMi hMb
        go_wp2
        go_ret
        exact ⟨rfl, H.out.alloc _⟩
    · obtain rfl : k = l.length := by omega
      have hz : r = 1 := by
        rw [← HR.out]; unfold few
        rw [List.take_of_length_le (by rw [List.length_map]; exact Nat.le_refl _)] at hm
        rw [if_pos (by omega)]
      subst hz
      go_wp2
      go_ret
      exact ⟨rfl, H.out⟩

end Go.Proofs.Ytombolmicfjjpaa

/- The values of a transaction that did not begin. -/
namespace Go.Proofs.Ytombolmicfjjpaa
open Go.RowKit

theorem val_decode_okV (S : Bs) (hsl : S.length ≤ 1000000) (p e t s u st : Int) (tops : List TopS) (hv : valDec S = (⟨p, e, t, s, tops, u, st⟩, 0)) {W0 w : World} {K : Know} {L : List Res} (h : St W0 w K L) :
    Calls Try.prog 18 #[.string (bb S)] w fun en w' => ∃ (qt : Option Addr) (capt : Nat) (lr : List (TopS × Value)), en = .returned (.tuple #[.agg #[.int .i64 p, .int .i64 e, .int .i64 t, .int .i64 s, .slice qt lr.length capt, .int .i64 u, .int .i64 st], .int .i64 0]) ∧ lr.map (·.1) = tops ∧ St W0 w' (K.and (Know.tops (.slice qt lr.length capt) lr)) L := val_decode_ok S hsl ⟨p, e, t, s, tops, u, st⟩ hv h
def vz37 : Bs := ValS.enc ⟨0, 0, 0, 0, [], 0, -1⟩
theorem vz37_len : vz37.length = 37 := by kernel_rfl
theorem vz37_len2 : vz37.length ≤ 1000000 := by rw [vz37_len]; decide
theorem vz37_dec : valDec vz37 = (⟨0, 0, 0, 0, [], 0, -1⟩, 0) := by kernel_rfl
theorem few_nil : FewT [] := ⟨by decide, fun x hx => by cases hx⟩
theorem enc_z1 {W0 w : World} {K : Know} {L : List Res} (h : St W0 w K L) : Calls Try.prog 15 #[.agg #[.int .i64 0, .int .i64 0, .int .i64 0, .int .i64 0, .slice none 0 0, .int .i64 0, .int .i64 (-1)]] w fun en w' => en = .returned (.tuple #[.string (bb vz37), .int .i64 0]) ∧ St W0 w' K L := by
  have h2 : St W0 w (K.and (Know.tops (.slice none 0 0) [])) L := h.know (tops_nil K)
  refine (val_encode_ok 0 0 0 0 0 (-1) [] none 0 (by kernel_rfl) (by unfold ValS.R; exact ⟨by decide, by decide, by decide, by decide, by decide, by decide⟩) few_nil (Know.has_right (Know.has_refl _)) h2).mono ?_
  rintro e_ wn ⟨rfl, h3⟩
  exact ⟨rfl, h3.know (Know.has_left (Know.has_refl _))⟩
theorem enc_z2 {W0 w : World} {K : Know} {L : List Res} (h : St W0 w K L) : Calls Try.prog 15 #[.agg #[.int .i64 0, .int .i64 0, .int .i64 0, .int .i64 1, .slice none 0 0, .int .i64 0, .int .i64 0]] w fun en w' => en = .returned (.tuple #[.string ⟨#[]⟩, .int .i64 10]) ∧ St W0 w' K L := by
  have h2 : St W0 w (K.and (Know.tops (.slice none 0 0) [])) L := h.know (tops_nil K)
  refine (val_encode_bad 0 0 0 1 0 0 [] none 0 10 (by kernel_rfl) (by decide) few_nil (Know.has_right (Know.has_refl _)) h2).mono ?_
  rintro e_ wn ⟨rfl, h3⟩
  exact ⟨rfl, h3.know (Know.has_left (Know.has_refl _))⟩
set_option maxHeartbeats 1000000 in
set_option maxRecDepth 100000 in
theorem speaks14 {W0 w : World} {K : Know} {L : List Res} (h : St W0 w K L) :
    Calls Try.prog 13 #[] w fun en w' => en = .returned (.bool true) ∧ St W0 w' K L := by
  have H := Lib.hid h
  have hl := vz37_len
  clear h
  go_enter Try.func13, Try.ntmps13
  go_wp2_with (first
    | (go_at_call 15; (with_reducible refine (enc_z1 H.out).mono ?_); rintro e_ wn ⟨rfl, h⟩; replace H := Lib.hid h; clear h)
    | (go_at_call 15; (with_reducible refine (enc_z2 H.out).mono ?_); rintro e_ wn ⟨rfl, h⟩; have c6 := h.rawCell 6; simp at c6; replace H := Lib.hid h; clear h)
    | (go_at_call 18; (with_reducible refine (val_decode_okV vz37 vz37_len2 0 0 0 0 0 (-1) [] vz37_dec H.out).mono ?_); rintro e_ wn ⟨qt, capt, lr, rfl, hlr, h⟩; obtain ⟨vb, hvb⟩ : ∃ b, wn.heap.size = b := ⟨_, rfl⟩; have h := h.allocRaw #[.int .i64 0, .int .i64 0, .int .i64 0, .int .i64 0, .slice qt lr.length capt, .int .i64 0, .int .i64 (-1)] 24; rw [hvb] at h; replace H := Lib.hid h; clear h))
  go_ret
  exact ⟨rfl, H.out.drop.know (Know.has_left (Know.has_refl _))⟩

end Go.Proofs.Ytombolmicfjjpaa

/- Lists of cells. -/
namespace Go.Proofs.Ytombolmicfjjpaa
open Go.RowKit

theorem cells_u8 : Try.prog.cellsOf 5 = 1 := by kernel_rfl
theorem cells_int : Try.prog.cellsOf 3 = 1 := by kernel_rfl
theorem cells_str : Try.prog.cellsOf 9 = 1 := by kernel_rfl
theorem len2 {α : Type} {l : List α} (h : l.length = 2) : ∃ a b, l = [a, b] := by
  match l, h with
  | [a, b], _ => exact ⟨a, b, rfl⟩
theorem len3 {α : Type} {l : List α} (h : l.length = 3) : ∃ a b c, l = [a, b, c] := by
  match l, h with
  | [a, b, c], _ => exact ⟨a, b, c, rfl⟩
theorem len4 {α : Type} {l : List α} (h : l.length = 4) : ∃ a b c d, l = [a, b, c, d] := by
  match l, h with
  | [a, b, c, d], _ => exact ⟨a, b, c, d, rfl⟩

end Go.Proofs.Ytombolmicfjjpaa

/- What arguments are made of, with the reach of each part. -/
namespace Go.Proofs.Ytombolmicfjjpaa
open Go.RowKit
open Go.ChangeShapes Go.WideShapes Go.ChangeAt Go.Deep

/-- No part is beyond all reach. -/
def Light {H : Type} (t : TypeId) (d : DataW H) : Prop := ∀ k ∈ d.weights Try.prog t, k ≤ reachBytes
theorem reach_eq : reachBytes = 140737488351232 := rfl

section
variable {H : Type} {enc : TypeId × Value → H} {w : World} {spare : Nat → Bool} {held : Bool}

theorem light_arg {ts : List TypeId} {ds : List (DataW H)} (h : (DataW.weightsEach Try.prog ts ds).all (· ≤ reachBytes) = true) {j : Nat} {t : TypeId} {d : DataW H} (ht : ts[j]? = some t) (hd : ds[j]? = some d) : Light t d := by
  intro k hk
  have := List.all_eq_true.1 h k (DataW.weights_mem_each ht hd k hk)
  simpa using this

theorem opens_field {t : TypeId} {fs : Array Field} {n N : Nat} {cs : List Value} {y : DataW H × List MemPlace} (ht : Try.prog.underlying t = some (.struct fs)) (h : DataW.trod enc Try.prog w 0 spare held n t cs = some y) (hl : Light t y.1) (hN : ∀ x ∈ y.2, x.block < N) :
    cs.length = Try.prog.cellsOf t ∧ ∃ m, ∀ (i : Nat) (f : Field), fs[i]? = some f → ∃ z, DataW.trod enc Try.prog w 0 spare held m f.type ((cs.drop f.offset).take (Try.prog.cellsOf f.type)) = some z ∧ Light f.type z.1 ∧ ∀ x ∈ z.2, x.block < N := by
  obtain ⟨xs, m, _, rfl, hc, hxl, hg⟩ := DataW.trod_struct ht h
  refine ⟨hc, m, fun i f hf => ?_⟩
  have hi : i < fs.size := (Array.getElem?_eq_some_iff.1 hf).1
  have hx : xs[i]? = some (xs[i]'(by omega)) := List.getElem?_eq_getElem (by omega)
  refine ⟨_, (hg i f hf).trans hx, ?_, fun x hxx => hN x (List.mem_flatMap.2 ⟨_, List.getElem_mem _, hxx⟩)⟩
  intro k hk
  refine hl k ?_
  simp only [DataW.weights, ht]
  exact DataW.weights_mem_each (j := i) (by rw [List.getElem?_map, Array.getElem?_toList, hf]; rfl) (by rw [List.getElem?_map, hx]; rfl) k hk

theorem opens_str {t : TypeId} {n : Nat} {cs : List Value} {y : DataW H × List MemPlace} (ht : Try.prog.underlying t = some .string) (h : DataW.trod enc Try.prog w 0 spare held n t cs = some y) (hl : Light t y.1) : ∃ s : Bs, cs = [.string (bb s)] ∧ s.length ≤ 140737488351232 := by
  obtain ⟨s, e, e2, q⟩ := DataW.trod_string ht h
  refine ⟨s.data.toList, e, ?_⟩
  subst e2
  have := hl s.data.toList.length (by simp [DataW.weights])
  rw [reach_eq] at this
  exact this
theorem opens_i64 {t : TypeId} {n : Nat} {cs : List Value} {y : DataW H × List MemPlace} (ht : Try.prog.underlying t = some (.int .i64)) (h : DataW.trod enc Try.prog w 0 spare held n t cs = some y) : ∃ x : Int, cs = [.int .i64 x] ∧ -9223372036854775808 ≤ x ∧ x < 9223372036854775808 := by
  obtain ⟨x, e, _, q⟩ := DataW.trod_int ht h
  exact ⟨x, e, wf_i64 q⟩
theorem opens_bool {t : TypeId} {n : Nat} {cs : List Value} {y : DataW H × List MemPlace} (ht : Try.prog.underlying t = some .bool) (h : DataW.trod enc Try.prog w 0 spare held n t cs = some y) : ∃ x : Bool, cs = [.bool x] := by
  obtain ⟨x, e, _⟩ := DataW.trod_bool ht h
  exact ⟨x, e⟩

theorem weightsAll_mem' {P : Program} {e : TypeId} : ∀ {l : List (DataW H)} {d : DataW H}, d ∈ l → ∀ k ∈ d.weights P e, k ∈ DataW.weightsAll P e l
  | a :: l, d, hd, k, hk => by
    simp only [DataW.weightsAll, List.mem_append]
    rcases List.mem_cons.1 hd with rfl | hd
    · exact .inl hk
    · exact .inr (weightsAll_mem' hd k hk)

theorem opens_rows {α : Type} {R : World → List Value → α → Prop} {t e : TypeId} {sz N : Nat} (ht : Try.prog.underlying t = some (.slice e)) (hC : Try.prog.cellsOf e = sz) (hsz : 0 < sz)
    (hR : ∀ n cs y, DataW.trod enc Try.prog w 0 spare held n e cs = some y → Light e y.1 → (∀ x ∈ y.2, x.block < N) → ∃ x, R w cs x)
    {fuel : Nat} {cs : List Value} {x : DataW H × List MemPlace} (h : DataW.trod enc Try.prog w 0 spare held fuel t cs = some x) (hl : Light t x.1) (hlt : ∀ y ∈ x.2, y.block < N) (hN : N ≤ w.heap.size) :
    ∃ v l, cs = [v] ∧ RowsOf R (· < N) w v sz l ∧ l.length * Try.prog.bytesOf e ≤ 140737488351232 ∧ l.length ≤ maxLen := by
  rcases open_slice ht h with ⟨rfl, rfl⟩ | ⟨a, len, cap, m, n, D, Pl, rfl, hb, hlc, hm, hmm, hx, hi⟩
  · exact ⟨_, [], rfl, ⟨none, 0, rfl, fun h => absurd h (by simp)⟩, by simp, by simp⟩
  · have hlm : len ≤ m := by rw [hmm]; split <;> omega
    have hp2 : x.2 = MemPlace.row a (m * Try.prog.cellsOf e) ++ (List.range m).flatMap Pl := by rw [hx]
    have hx1 : x.1 = .slice ((List.range len).map D) ((List.range (m - len)).map fun j => D (len + j)) := by rw [hx]
    have hsum : len * Try.prog.bytesOf e ≤ 140737488351232 := by
      have := hl (((List.range len).map D).length * Try.prog.bytesOf e + ((List.range (m - len)).map fun j => D (len + j)).length * Try.prog.bytesOf e) (by rw [hx1]; simp [DataW.weights, ht, Nat.add_mul])
      rw [reach_eq] at this
      simp only [List.length_map, List.length_range] at this
      omega
    have hle : ∀ i, i < len → Light e (D i) := by
      intro i hil k hk
      refine hl k ?_
      rw [hx1]
      simp only [DataW.weights, ht, List.mem_cons, List.mem_append]
      exact .inr (.inl (weightsAll_mem' (List.mem_map.2 ⟨i, List.mem_range.2 hil, rfl⟩) k hk))
    have key : ∀ i, i < len → ∃ y : α, ∃ cs', cs'.length = sz ∧ R w cs' y ∧ (∀ f u, cs'[f]? = some u → w.cell? ((a.add (i * sz)).add f) = some u) := by
      intro i hil
      obtain ⟨cs', hc, htr⟩ := hi i (by omega)
      obtain ⟨_, hcl, hat⟩ := World.cells?_some hc
      obtain ⟨y, hy⟩ := hR n cs' _ htr (hle i hil) (fun z hz => hlt z (by rw [hp2, List.mem_append]; exact .inr (List.mem_flatMap.2 ⟨i, by simp; omega, hz⟩)))
      rw [hC] at hcl hat
      refine ⟨y, cs', hcl, hy, fun f u hu => ?_⟩
      have hf : f < sz := by rw [← hcl]; exact (List.getElem?_eq_some_iff.1 hu).1
      rw [hat f hf, hu]
    obtain ⟨l, hll, hq⟩ := list_of len _ key
    refine ⟨_, l, rfl, ⟨some a, cap, by rw [hll], fun h0 => ?_⟩, by rw [hll]; exact hsum, by omega⟩
    obtain ⟨cs0, h1, h2, h3⟩ := hq 0 h0
    have hc0 : w.cell? a = some (cs0[0]'(by omega)) := by
      have := h3 0 _ (List.getElem?_eq_getElem (by omega))
      simpa [Addr.add] using this
    have hsp : a.spot = none := by
      cases hs : a.spot with
      | none => rfl
      | some s =>
        unfold World.cell? at hc0
        split at hc0 <;> simp_all
    obtain ⟨ab, ao, asp⟩ := a
    simp only at hsp
    subst hsp
    have hlt0 : ab < N := hlt (.cell ab ao) (by
      rw [hp2, List.mem_append]
      left
      simp only [MemPlace.row, List.mem_map, List.mem_range]
      exact ⟨0, by rw [hC]; exact Nat.mul_pos (by omega) hsz, by simp⟩)
    refine ⟨ab, ao, rfl, hlt0, Nat.lt_of_lt_of_le hlt0 hN, fun i hi => ?_⟩
    obtain ⟨cs', g1, g2, g3⟩ := hq i hi
    refine ⟨cs', g1, g2, fun f u hu => ?_⟩
    have := g3 f u hu
    have e1 : ∀ (o q : Nat), (⟨ab, o, none⟩ : Addr).add q = ⟨ab, o + q, none⟩ := by intro o q; unfold Addr.add; split <;> simp_all
    rw [e1, e1, Nat.add_assoc] at this
    exact this
end

/-- Of a row's things, what is said of each, apart. -/
theorem RowsOf.part {α : Type} {R : World → List Value → α → Prop} {Q : α → Prop} {D : Nat → Prop} {w : World} {v : Value} {sz : Nat} {l : List α} (h : RowsOf (fun w cs x => R w cs x ∧ Q x) D w v sz l) : RowsOf R D w v sz l ∧ ∀ x ∈ l, Q x := by
  refine ⟨h.mono (fun _ _ h => h) (fun _ _ h => h.1), fun x hx => ?_⟩
  obtain ⟨i, hi, rfl⟩ := List.mem_iff_getElem.1 hx
  obtain ⟨p, cap, rfl, h⟩ := h
  obtain ⟨b, off, rfl, _, _, hc⟩ := h (by omega)
  obtain ⟨cs, _, h2, _⟩ := hc i hi
  exact h2.2

end Go.Proofs.Ytombolmicfjjpaa

/- The elements of arguments, opened, with their reach: numbers, and Blobs. -/
namespace Go.Proofs.Ytombolmicfjjpaa
open Go.RowKit
open Go.ChangeShapes Go.WideShapes Go.ChangeAt Go.Deep

theorem cells_blob : Try.prog.cellsOf 64 = 2 := by kernel_rfl
theorem cells_bool : Try.prog.cellsOf 4 = 1 := by kernel_rfl
section
variable {H : Type} {enc : TypeId × Value → H} {w : World} {spare : Nat → Bool} {held : Bool}
set_option maxRecDepth 100000 in
theorem blob_opens {N : Nat} : ∀ n cs y, DataW.trod enc Try.prog w 0 spare held n 64 cs = some y → Light 64 y.1 → (∀ x ∈ y.2, x.block < N) → ∃ x : BlobS, cs = [.bool x.null, .string (bb x.data)] ∧ x.data.length ≤ 140737488351232 := by
  intro n cs y h hl hN
  obtain ⟨hc, m, hf⟩ := opens_field Try.underlying64 h hl hN
  rw [cells_blob] at hc
  obtain ⟨a, b, rfl⟩ := len2 hc
  obtain ⟨z0, g0, l0, _⟩ := hf 0 _ rfl
  obtain ⟨z1, g1, l1, _⟩ := hf 1 _ rfl
  have g0 : DataW.trod enc Try.prog w 0 spare held m 4 (List.take (Try.prog.cellsOf 4) (List.drop 0 [a, b])) = some z0 := g0
  have g1 : DataW.trod enc Try.prog w 0 spare held m 9 (List.take (Try.prog.cellsOf 9) (List.drop 1 [a, b])) = some z1 := g1
  rw [cells_bool] at g0
  rw [cells_str] at g1
  obtain ⟨x, e0⟩ := opens_bool Try.underlying4 g0
  obtain ⟨s, e1, hs⟩ := opens_str Try.underlying9 g1 l1
  simp at e0 e1
  subst e0 e1
  exact ⟨⟨x, s⟩, rfl, hs⟩
theorem rb_opens {N : Nat} : ∀ n cs y, DataW.trod enc Try.prog w 0 spare held n 64 cs = some y → Light 64 y.1 → (∀ x ∈ y.2, x.block < N) → ∃ x : BlobS, RB cs x ∧ x.data.length ≤ 140737488351232 := blob_opens
theorem ri_opens {N : Nat} : ∀ n cs y, DataW.trod enc Try.prog w 0 spare held n 3 cs = some y → Light 3 y.1 → (∀ x ∈ y.2, x.block < N) → ∃ x : Int, RI cs x ∧ (-9223372036854775808 ≤ x ∧ x < 9223372036854775808) := fun n cs y h _ _ => opens_i64 Try.underlying3 h
end
end Go.Proofs.Ytombolmicfjjpaa

/- The elements of arguments, opened, with their reach: topics, and values. -/
namespace Go.Proofs.Ytombolmicfjjpaa
open Go.RowKit

open Go.ChangeShapes Go.WideShapes Go.ChangeAt Go.Deep

theorem cells_tops : Try.prog.cellsOf 22 = 1 := by kernel_rfl
theorem cells_top : Try.prog.cellsOf 51 = 2 := by kernel_rfl
theorem cells_ints : Try.prog.cellsOf 49 = 1 := by kernel_rfl
theorem cells_val : Try.prog.cellsOf 24 = 7 := by kernel_rfl
theorem bytes_int : Try.prog.bytesOf 3 = 8 := by kernel_rfl
/-- What is known of a topic that came in. -/
def QTop (W : World) (x : TopS × Value) : Prop := RowsOf (fun _ cs x => RI cs x) (· < W.heap.size) W x.2 1 x.1.parts ∧ x.1.name.length ≤ 140737488351232 ∧ x.1.parts.length ≤ 17592186043904 ∧ ∀ n ∈ x.1.parts, -9223372036854775808 ≤ n ∧ n < 9223372036854775808
/-- Topics that came in. -/
def FewI (l : List (TopS × Value)) : Prop := l.length ≤ 140737488351232 ∧ ∀ x ∈ l, x.1.name.length ≤ 140737488351232 ∧ x.1.parts.length ≤ 17592186043904 ∧ ∀ n ∈ x.1.parts, -9223372036854775808 ≤ n ∧ n < 9223372036854775808
theorem bytes_top : Try.prog.bytesOf 51 = 40 := by kernel_rfl
theorem QTop.few {W : World} {l : List (TopS × Value)} (hn : l.length * Try.prog.bytesOf 51 ≤ 140737488351232) (h : ∀ x ∈ l, QTop W x) : FewI l := ⟨by rw [bytes_top] at hn; omega, fun x hx => (h x hx).2⟩
theorem QTop.start {W : World} {v : Value} {l : List (TopS × Value)} (hr : RowsOf (fun _ cs x => RTop cs x) (· < W.heap.size) W v 2 l) (h : ∀ x ∈ l, QTop W x) : St W W (Know.tops v l) [] := St.start ⟨hr, fun x hx => (h x hx).1⟩
section
variable {H : Type} {enc : TypeId × Value → H} {w : World} {spare : Nat → Bool} {held : Bool}
set_option maxHeartbeats 1000000 in
set_option maxRecDepth 100000 in
theorem rtop_opens : ∀ n cs y, DataW.trod enc Try.prog w 0 spare held n 51 cs = some y → Light 51 y.1 → (∀ x ∈ y.2, x.block < w.heap.size) → ∃ x : TopS × Value, RTop cs x ∧ QTop w x := by
  intro n cs y hf hl hN
  have hNw : w.heap.size ≤ w.heap.size := Nat.le_refl _
  obtain ⟨hc, m, hg⟩ := opens_field Try.underlying51 hf hl hN
  rw [cells_top] at hc
  match cs, hc with
  | [c0, c1], _ =>
    obtain ⟨z0, g0, l0, n0⟩ := hg 0 _ rfl
    have g0 : DataW.trod enc Try.prog w 0 spare held m 9 (List.take (Try.prog.cellsOf 9) (List.drop 0 [c0, c1])) = some z0 := g0
    rw [cells_str] at g0
    obtain ⟨z1, g1, l1, n1⟩ := hg 1 _ rfl
    have g1 : DataW.trod enc Try.prog w 0 spare held m 49 (List.take (Try.prog.cellsOf 49) (List.drop 1 [c0, c1])) = some z1 := g1
    rw [cells_ints] at g1
    obtain ⟨x0, e0, s0⟩ := opens_str Try.underlying9 g0 l0
    obtain ⟨v1, x1, e1, hr, hm, _⟩ := opens_rows (R := fun w cs x => (fun _ cs x => RI cs x) w cs x ∧ (fun x : Int => -9223372036854775808 ≤ x ∧ x < 9223372036854775808) x) (N := w.heap.size) Try.underlying49 cells_int (by decide) ri_opens g1 l1 n1 hNw
    obtain ⟨hr1, hq⟩ := hr.part
    simp at e0 e1
    subst e0 e1
    rw [bytes_int] at hm
    have hm2 : x1.length ≤ 17592186043904 := by omega
    exact ⟨(⟨x0, x1⟩, _), rfl, hr1, s0, hm2, hq⟩
set_option maxHeartbeats 2000000 in
set_option maxRecDepth 100000 in
theorem val_opens : ∀ n cs y, DataW.trod enc Try.prog w 0 spare held n 24 cs = some y → Light 24 y.1 → (∀ x ∈ y.2, x.block < w.heap.size) →
    ∃ (p e t s u st : Int) (l : List (TopS × Value)) (rv : Value), cs = [.int .i64 p, .int .i64 e, .int .i64 t, .int .i64 s, rv, .int .i64 u, .int .i64 st] ∧
      ValS.R ⟨p, e, t, s, l.map (·.1), u, st⟩ ∧ RowsOf (fun _ cs x => RTop cs x) (· < w.heap.size) w rv 2 l ∧ l.length * Try.prog.bytesOf 51 ≤ 140737488351232 ∧ (∀ x ∈ l, QTop w x) := by
  intro n cs y hf hl hN
  obtain ⟨hc, m, hg⟩ := opens_field Try.underlying24 hf hl hN
  rw [cells_val] at hc
  match cs, hc with
  | [c0, c1, c2, c3, c4, c5, c6], _ =>
    obtain ⟨z0, g0, l0, n0⟩ := hg 0 _ rfl
    have g0 : DataW.trod enc Try.prog w 0 spare held m 3 (List.take (Try.prog.cellsOf 3) (List.drop 0 [c0, c1, c2, c3, c4, c5, c6])) = some z0 := g0
    rw [cells_int] at g0
    obtain ⟨z1, g1, l1, n1⟩ := hg 1 _ rfl
    have g1 : DataW.trod enc Try.prog w 0 spare held m 3 (List.take (Try.prog.cellsOf 3) (List.drop 1 [c0, c1, c2, c3, c4, c5, c6])) = some z1 := g1
    rw [cells_int] at g1
    obtain ⟨z2, g2, l2, n2⟩ := hg 2 _ rfl
    have g2 : DataW.trod enc Try.prog w 0 spare held m 3 (List.take (Try.prog.cellsOf 3) (List.drop 2 [c0, c1, c2, c3, c4, c5, c6])) = some z2 := g2
    rw [cells_int] at g2
    obtain ⟨z3, g3, l3, n3⟩ := hg 3 _ rfl
    have g3 : DataW.trod enc Try.prog w 0 spare held m 3 (List.take (Try.prog.cellsOf 3) (List.drop 3 [c0, c1, c2, c3, c4, c5, c6])) = some z3 := g3
    rw [cells_int] at g3
    obtain ⟨z4, g4, l4, n4⟩ := hg 4 _ rfl
    have g4 : DataW.trod enc Try.prog w 0 spare held m 22 (List.take (Try.prog.cellsOf 22) (List.drop 4 [c0, c1, c2, c3, c4, c5, c6])) = some z4 := g4
    rw [cells_tops] at g4
    obtain ⟨z5, g5, l5, n5⟩ := hg 5 _ rfl
    have g5 : DataW.trod enc Try.prog w 0 spare held m 3 (List.take (Try.prog.cellsOf 3) (List.drop 5 [c0, c1, c2, c3, c4, c5, c6])) = some z5 := g5
    rw [cells_int] at g5
    obtain ⟨z6, g6, l6, n6⟩ := hg 6 _ rfl
    have g6 : DataW.trod enc Try.prog w 0 spare held m 3 (List.take (Try.prog.cellsOf 3) (List.drop 6 [c0, c1, c2, c3, c4, c5, c6])) = some z6 := g6
    rw [cells_int] at g6
    obtain ⟨x0, e0, r0⟩ := opens_i64 Try.underlying3 g0
    obtain ⟨x1, e1, r1⟩ := opens_i64 Try.underlying3 g1
    obtain ⟨x2, e2, r2⟩ := opens_i64 Try.underlying3 g2
    obtain ⟨x3, e3, r3⟩ := opens_i64 Try.underlying3 g3
    obtain ⟨x5, e5, r5⟩ := opens_i64 Try.underlying3 g5
    obtain ⟨x6, e6, r6⟩ := opens_i64 Try.underlying3 g6
    obtain ⟨v4, x4, e4, hrq, hm4, _⟩ := opens_rows (R := fun w' cs x => (fun _ cs x => RTop cs x) w' cs x ∧ QTop w x) (N := w.heap.size) Try.underlying22 cells_top (by decide) rtop_opens g4 l4 n4 (Nat.le_refl _)
    obtain ⟨hr, hq⟩ := hrq.part
    simp at e0 e1 e2 e3 e4 e5 e6
    subst e0 e1 e2 e3 e4 e5 e6
    exact ⟨x0, x1, x2, x3, x5, x6, x4, _, rfl, ⟨r0, r1, r2, r3, r5, r6⟩, hr, hm4, hq⟩
set_option maxHeartbeats 2000000 in
set_option maxRecDepth 100000 in
theorem val_open {r : Reach} {b0 : Nat} {v : Value} {d : DataW H} {p : List MemPlace} (hv : Value.okWide Try.prog w r b0 24 v) (h : DataW.Trod enc Try.prog w 0 spare held 24 v d p) (hl : Light 24 d) (hN : ∀ x ∈ p, x.block < w.heap.size) :
    ∃ (p e t s u st : Int) (l : List (TopS × Value)) (q : Option Addr) (cap : Nat), v = .agg #[.int .i64 p, .int .i64 e, .int .i64 t, .int .i64 s, .slice q l.length cap, .int .i64 u, .int .i64 st] ∧
      ValS.R ⟨p, e, t, s, l.map (·.1), u, st⟩ ∧ FewI l ∧ St w w (Know.tops (.slice q l.length cap) l) [] := by
  obtain ⟨cs, rfl, hsz⟩ := okWide_struct Try.underlying24 hv
  obtain ⟨fuel, hf⟩ := h
  obtain ⟨p, e, t, s, u, st, l, rv, ec, hR, hr, hm, hq⟩ := val_opens _ _ _ hf hl hN
  obtain ⟨c⟩ := cs
  have ec : c = _ := ec
  subst ec
  obtain ⟨q, cap, hrv⟩ : ∃ q cap, rv = .slice q l.length cap := by obtain ⟨p, cap, hv, _⟩ := hr; exact ⟨p, cap, hv⟩
  subst hrv
  exact ⟨_, _, _, _, _, _, l, q, cap, rfl, hR, QTop.few hm hq, QTop.start hr hq⟩
end

end Go.Proofs.Ytombolmicfjjpaa

/- ValueTopics: too many, too long. -/
namespace Go.Proofs.Ytombolmicfjjpaa
open Go.RowKit

theorem s_atT (p : Nat) (i : InS) (n : Nat) (hn : i.pos = n) {W0 w : World} {K : Know} {L : List Res} (h : St W0 w K (.inp p i :: L)) :
    Calls Try.prog 29 #[inPtr p] w fun en w' => en = .returned (.int .i64 n) ∧ St W0 w' K (.inp p i :: L) := by
  subst hn; exact s_at p i h
theorem St.twoT {W : World} {A B : Know} (ha : St W W A []) (hb : St W W B []) : St W W (A.and B) [] := by
  obtain ⟨F, a, fa⟩ := ha.get
  obtain ⟨G, b, gb⟩ := hb.get
  exact St.start ⟨A.mono _ _ _ a fa, B.mono _ _ _ b gb⟩

set_option maxHeartbeats 4000000 in
set_option maxRecDepth 100000 in
theorem vt_1 (l m : List (TopS × Value)) (q qm : Option Addr) (cap capm : Nat) (S : Bs) (hfi : FewI l) (hfm : FewI m) (hw : few (l.map (·.1)) = 0) {W0 w : World} {K : Know} {L : List Res} (hk : K.has (Know.tops (.slice q l.length cap) l)) (hkm : K.has (Know.tops (.slice qm m.length capm) m)) (h : St W0 w K L) :
    Calls Try.prog 5 #[.slice q l.length cap, .slice qm m.length capm, .string (bb S)] w fun en w' => en = .returned (.bool true) ∧ Below W0.heap.size W0 w' := by
  have H := Lib.hid h
  have HK := Lib.hid hk
  have HKM := Lib.hid hkm
  have HNL := Lib.hid hfi.1
  have HNB := Lib.hid (show ∀ x ∈ l, x.1.name.length ≤ 140737488351232 ∧ x.1.parts.length ≤ 17592186043904 from fun x hx => ⟨(hfi.2 x hx).1, (hfi.2 x hx).2.1⟩)
  have HNLm := Lib.hid hfm.1
  have HNBm := Lib.hid (show ∀ x ∈ m, x.1.name.length ≤ 140737488351232 ∧ x.1.parts.length ≤ 17592186043904 from fun x hx => ⟨(hfm.2 x hx).1, (hfm.2 x hx).2.1⟩)
  have HFW := Lib.hid hw
  clear hw
  clear h hk hkm hfi hfm
  go_enter Try.func5, Try.ntmps5
  go_wp2_with (first
    | (go_at_call 13; (with_reducible refine (speaks14 H.out).mono ?_); rintro e_ wn ⟨rfl, h⟩; replace H := Lib.hid h; clear h)
    | (go_at_call 14; (with_reducible refine (law14_few l q cap HNL.out HNB.out 0 HFW.out HK.out H.out).mono ?_); rintro e_ wn ⟨rfl, h⟩; replace H := Lib.hid h; clear h))
  go_ret
  exact ⟨rfl, H.out.below⟩

set_option maxHeartbeats 4000000 in
set_option maxRecDepth 100000 in
theorem vt_2 (l m : List (TopS × Value)) (q qm : Option Addr) (cap capm : Nat) (S : Bs) (hfi : FewI l) (hfm : FewI m) (hw : few (l.map (·.1)) = 1) (hm : few (m.map (·.1)) = 0) {W0 w : World} {K : Know} {L : List Res} (hk : K.has (Know.tops (.slice q l.length cap) l)) (hkm : K.has (Know.tops (.slice qm m.length capm) m)) (h : St W0 w K L) :
    Calls Try.prog 5 #[.slice q l.length cap, .slice qm m.length capm, .string (bb S)] w fun en w' => en = .returned (.bool true) ∧ Below W0.heap.size W0 w' := by
  have H := Lib.hid h
  have HK := Lib.hid hk
  have HKM := Lib.hid hkm
  have HNL := Lib.hid hfi.1
  have HNB := Lib.hid (show ∀ x ∈ l, x.1.name.length ≤ 140737488351232 ∧ x.1.parts.length ≤ 17592186043904 from fun x hx => ⟨(hfi.2 x hx).1, (hfi.2 x hx).2.1⟩)
  have HNLm := Lib.hid hfm.1
  have HNBm := Lib.hid (show ∀ x ∈ m, x.1.name.length ≤ 140737488351232 ∧ x.1.parts.length ≤ 17592186043904 from fun x hx => ⟨(hfm.2 x hx).1, (hfm.2 x hx).2.1⟩)
  have HFW := Lib.hid hw
  have HFM := Lib.hid hm
  clear hw hm
  clear h hk hkm hfi hfm
  go_enter Try.func5, Try.ntmps5
  go_wp2_with (first
    | (go_at_call 13; (with_reducible refine (speaks14 H.out).mono ?_); rintro e_ wn ⟨rfl, h⟩; replace H := Lib.hid h; clear h)
    | (go_at_call 14; (with_reducible refine (law14_few l q cap HNL.out HNB.out 1 HFW.out HK.out H.out).mono ?_); rintro e_ wn ⟨rfl, h⟩; replace H := Lib.hid h; clear h)
    | (go_at_call 14; (with_reducible refine (law14_few m qm capm HNLm.out HNBm.out 0 HFM.out HKM.out H.out).mono ?_); rintro e_ wn ⟨rfl, h⟩; replace H := Lib.hid h; clear h))
  go_ret
  exact ⟨rfl, H.out.below⟩

set_option maxHeartbeats 4000000 in
set_option maxRecDepth 100000 in
theorem vt_3 (l m : List (TopS × Value)) (q qm : Option Addr) (cap capm : Nat) (S : Bs) (hfi : FewI l) (hfm : FewI m) (hw : few (l.map (·.1)) = 1) (hm : few (m.map (·.1)) = 1) (hs : 1000 < S.length) {W0 w : World} {K : Know} {L : List Res} (hk : K.has (Know.tops (.slice q l.length cap) l)) (hkm : K.has (Know.tops (.slice qm m.length capm) m)) (h : St W0 w K L) :
    Calls Try.prog 5 #[.slice q l.length cap, .slice qm m.length capm, .string (bb S)] w fun en w' => en = .returned (.bool true) ∧ Below W0.heap.size W0 w' := by
  have H := Lib.hid h
  have HK := Lib.hid hk
  have HKM := Lib.hid hkm
  have HNL := Lib.hid hfi.1
  have HNB := Lib.hid (show ∀ x ∈ l, x.1.name.length ≤ 140737488351232 ∧ x.1.parts.length ≤ 17592186043904 from fun x hx => ⟨(hfi.2 x hx).1, (hfi.2 x hx).2.1⟩)
  have HNLm := Lib.hid hfm.1
  have HNBm := Lib.hid (show ∀ x ∈ m, x.1.name.length ≤ 140737488351232 ∧ x.1.parts.length ≤ 17592186043904 from fun x hx => ⟨(hfm.2 x hx).1, (hfm.2 x hx).2.1⟩)
  have HFW := Lib.hid hw
  have HFM := Lib.hid hm
  have hsi : 1000 < (S.length : Int) := by omega
  clear hw hm hs
  clear h hk hkm hfi hfm
  go_enter Try.func5, Try.ntmps5
  go_wp2_with (first
    | (go_at_call 13; (with_reducible refine (speaks14 H.out).mono ?_); rintro e_ wn ⟨rfl, h⟩; replace H := Lib.hid h; clear h)
    | (go_at_call 14; (with_reducible refine (law14_few l q cap HNL.out HNB.out 1 HFW.out HK.out H.out).mono ?_); rintro e_ wn ⟨rfl, h⟩; replace H := Lib.hid h; clear h)
    | (go_at_call 14; (with_reducible refine (law14_few m qm capm HNLm.out HNBm.out 1 HFM.out HKM.out H.out).mono ?_); rintro e_ wn ⟨rfl, h⟩; replace H := Lib.hid h; clear h))
  go_ret
  exact ⟨rfl, H.out.below⟩

end Go.Proofs.Ytombolmicfjjpaa

/- ValueTopics: bytes that are topics. -/
namespace Go.Proofs.Ytombolmicfjjpaa
open Go.RowKit

set_option maxHeartbeats 8000000 in
set_option maxRecDepth 100000 in
theorem vt_4 (l m : List (TopS × Value)) (q qm : Option Addr) (cap capm : Nat) (S : Bs) (hfi : FewI l) (hfm : FewI m) (hw : few (l.map (·.1)) = 1) (hm : few (m.map (·.1)) = 1) (hs : S.length ≤ 1000) (lx : List TopS) (j : InS) (many : Nat) (hx : (⟨S, 0, 0⟩ : InS).tops = (lx, j)) (hr : topsR S = (lx, many, 0)) (hje : j.err = 0) (hfx : FewL lx) (hjp : j.pos = many) {W0 w : World} {K : Know} {L : List Res} (hk : K.has (Know.tops (.slice q l.length cap) l)) (hkm : K.has (Know.tops (.slice qm m.length capm) m)) (h : St W0 w K L) :
    Calls Try.prog 5 #[.slice q l.length cap, .slice qm m.length capm, .string (bb S)] w fun en w' => en = .returned (.bool true) ∧ Below W0.heap.size W0 w' := by
  have H := Lib.hid h
  have HK := Lib.hid hk
  have HKM := Lib.hid hkm
  have HNL := Lib.hid hfi.1
  have HNB := Lib.hid (show ∀ x ∈ l, x.1.name.length ≤ 140737488351232 ∧ x.1.parts.length ≤ 17592186043904 from fun x hx => ⟨(hfi.2 x hx).1, (hfi.2 x hx).2.1⟩)
  have HNLm := Lib.hid hfm.1
  have HNBm := Lib.hid (show ∀ x ∈ m, x.1.name.length ≤ 140737488351232 ∧ x.1.parts.length ≤ 17592186043904 from fun x hx => ⟨(hfm.2 x hx).1, (hfm.2 x hx).2.1⟩)
  have HFW := Lib.hid hw
  have HFM := Lib.hid hm
  have hsi : ¬ 1000 < (S.length : Int) := by omega
  have HSX := Lib.hid (show S.length ≤ 1000000 by omega)
  have HSY := Lib.hid (show S.length ≤ 140737488355328 by omega)
  have HX := Lib.hid hx
  have HR := Lib.hid hr
  have HJE := Lib.hid hje
  have HFX := Lib.hid hfx
  have HJP := Lib.hid hjp
  have g5 : ((many : Int) == (many : Int)) = true := beq_self_eq_true _
  have g6 : ((many : Int) != (many : Int)) = false := by simp [bne, g5]
  obtain ⟨r, hrr⟩ : ∃ r, decide (l.map (·.1) = m.map (·.1)) = r := ⟨_, rfl⟩
  have HRR := Lib.hid hrr
  have r1 : (r == r) = true := beq_self_eq_true _
  have r2 : (r != r) = false := by simp [bne]
  have hwl := few_one hw
  have HWL := Lib.hid hwl
  have HFT := Lib.hid (few_T hwl)
  have HLL := Lib.hid (lenT_of (few_T hwl))
  have HLM := Lib.hid (lenT_of (few_T (few_one hm)))
  clear h hk hkm hfi hfm hw hm hs hx hr hje hfx hrr hwl hjp
  go_enter Try.func5, Try.ntmps5
  go_wp2_with (first
    | (go_at_call 13; (with_reducible refine (speaks14 H.out).mono ?_); rintro e_ wn ⟨rfl, h⟩; replace H := Lib.hid h; clear h)
    | (go_at_call 14; (with_reducible refine (law14_few l q cap HNL.out HNB.out 1 HFW.out HK.out H.out).mono ?_); rintro e_ wn ⟨rfl, h⟩; replace H := Lib.hid h; clear h)
    | (go_at_call 14; (with_reducible refine (law14_few m qm capm HNLm.out HNBm.out 1 HFM.out HKM.out H.out).mono ?_); rintro e_ wn ⟨rfl, h⟩; replace H := Lib.hid h; clear h)
    | (go_at_call 24; (with_reducible refine (s_new S HSY.out H.out).mono ?_); rintro e_ wn ⟨bi, rfl, h⟩; replace H := Lib.hid h; clear h)
    | (go_at_call 25; (with_reducible refine (val_topics bi _ _ lx HX.out H.out).mono ?_); rintro e_ wn ⟨v_, lr, rfl, hlr, h⟩; obtain ⟨q1, cap1, rfl⟩ := tops_form (Know.has_right (Know.has_refl _)) h; have HLR := Lib.hid hlr; clear hlr; replace H := Lib.hid h; clear h)
    | (go_at_call 26; (with_reducible refine (ref14_readTopics S HSX.out lx many 0 HR.out H.out).mono ?_); rintro e_ wn ⟨v_, lw, rfl, hlw, h⟩; obtain ⟨q2, cap2, rfl⟩ := tops_form (Know.has_right (Know.has_refl _)) h; have HLW := Lib.hid hlw; clear hlw; replace H := Lib.hid h; clear h)
    | (go_at_call 27; (with_reducible refine (s_errV bi _ 0 HJE.out H.out).mono ?_); rintro e_ wn ⟨rfl, h⟩; replace H := Lib.hid h; clear h)
    | (go_at_call 29; (with_reducible refine (s_atT bi _ many HJP.out H.out).mono ?_); rintro e_ wn ⟨rfl, h⟩; replace H := Lib.hid h; clear h)
    | (go_at_call 28; (with_reducible refine (ref14_sameTopics l m q qm cap capm r HRR.out HLL.out HLM.out (Know.has_left (Know.has_left HK.out)) (Know.has_left (Know.has_left HKM.out)) H.out).mono ?_); rintro e_ wn ⟨rfl, h⟩; replace H := Lib.hid h; clear h)
    | (go_at_call 28; have HSXW := Lib.hid (decide_eq_true (HLR.out.trans HLW.out.symm)); have HLL1 := Lib.hid (lenT_of (fewT_of (by rw [HLR.out]; exact HFX.out))); have HLL2 := Lib.hid (lenT_of (fewT_of (by rw [HLW.out]; exact HFX.out))); (with_reducible refine (ref14_sameTopics lr lw q1 q2 cap1 cap2 true HSXW.out HLL1.out HLL2.out (Know.has_left (Know.has_right (Know.has_refl _))) (Know.has_right (Know.has_refl _)) H.out).mono ?_); rintro e_ wn ⟨rfl, h⟩; replace H := Lib.hid h; clear h)
    | (go_at_call 30; (with_reducible refine (val_sameTopics l m q qm cap capm r HRR.out HLL.out HLM.out (Know.has_left (Know.has_left HK.out)) (Know.has_left (Know.has_left HKM.out)) H.out).mono ?_); rintro e_ wn ⟨rfl, h⟩; replace H := Lib.hid h; clear h))
  have HKL := Lib.hid (show ((K.and (Know.tops (.slice q1 lr.length cap1) lr)).and (Know.tops (.slice q2 lw.length cap2) lw)).has (Know.tops (.slice q l.length cap) l) from Know.has_left (Know.has_left HK.out))
  go_loopw [13, 15, 76, 83] (fun _ _ iv _ wr => ∃ k : Nat, k ≤ l.length ∧ iv = .int .i64 k ∧ Hid (∀ x ∈ l.take k, ∀ n ∈ x.1.parts, -2147483648 ≤ n ∧ n < 2147483648) ∧ St W0 wr ((K.and (Know.tops (.slice q1 lr.length cap1) lr)).and (Know.tops (.slice q2 lw.length cap2) lw)) (.inp bi j :: L)) (fun _ _ iv _ _ => l.length - (intOf iv).toNat)
  case atStart => exact ⟨0, Nat.zero_le _, rfl, Lib.hid (fun x hx => by rw [List.take_zero] at hx; cases hx), H.out⟩
  case round =>
    obtain ⟨k, hkl, rfl, HALL, hst⟩ := hrel
    clear H
    have H := Lib.hid hst
    clear hst
    by_cases hlt : k < l.length
    · as_aux_lemma =>
      obtain ⟨b, off, hqq⟩ := tops_at HKL.out H.out (by omega)
      subst hqq
      obtain ⟨⟨⟨nm, ps⟩, vx⟩, hx⟩ : ∃ x, l[k] = x := ⟨_, rfl⟩
      obtain ⟨c0, c1⟩ : wr.cell? ⟨b, off + k * 2, none⟩ = some (.string (bb nm)) ∧ wr.cell? ⟨b, off + k * 2 + 1, none⟩ = some vx := tops_cell HKL.out H.out k hlt _ hx
      have hmem : ((⟨nm, ps⟩ : TopS), vx) ∈ l := hx ▸ List.getElem_mem hlt
      have hxk : ((K.and (Know.tops (.slice q1 lr.length cap1) lr)).and (Know.tops (.slice q2 lw.length cap2) lw)).has (Know.flat RI vx 1 ps) := tops_parts HKL.out hmem
      obtain ⟨qx, capx, hvx⟩ := flat_form hxk H.out
      subst hvx
      have HXK := Lib.hid hxk
      have hkn : (k : Int) < (l.length : Int) := by omega
      have hni : (l.length : Int) ≤ 1000000 := by have := HFT.out.1; omega
      have hpl : (ps.length : Int) ≤ 1000000 := by have := (HFT.out.2 _ hmem).2; simp only at this; omega
      have HNX := Lib.hid (show l.take (k + 1) = l.take k ++ [((⟨nm, ps⟩ : TopS), .slice qx ps.length capx)] by rw [List.take_succ_eq_append_getElem hlt, hx])
      obtain ⟨tb, htb⟩ : ∃ b, wr.heap.size = b := ⟨_, rfl⟩
      have h := H.out.allocRaw #[.string (bb nm), .slice qx ps.length capx] 51
      rw [htb] at h
      have t0 := h.rawCell 0
      have t1 := h.rawCell 1
      simp at t0 t1
      have hp0 : ps = [] ∨ ∃ pb poff, qx = some ⟨pb, poff, none⟩ := by
        by_cases hps : ps = []
        · exact .inl hps
        · exact .inr (flat_at HXK.out H.out (List.length_pos_iff.2 hps))
      have HP0 := Lib.hid hp0
      clear H
      have H := Lib.hid h
      clear h hx hmem hxk hp0
      go_wp2_with fail
      clear t0 t1
      go_loopw [15, 83] (fun _ jv wr => ∃ i : Nat, i ≤ ps.length ∧ jv = .int .i64 i ∧ Hid (∀ n ∈ ps.take i, -2147483648 ≤ n ∧ n < 2147483648) ∧ St W0 wr ((K.and (Know.tops (.slice q1 lr.length cap1) lr)).and (Know.tops (.slice q2 lw.length cap2) lw)) (.raw tb #[.string (bb nm), .slice qx ps.length capx] 51 :: .inp bi j :: L)) (fun _ jv _ => ps.length - (intOf jv).toNat)
      case atStart => exact ⟨0, Nat.zero_le _, rfl, Lib.hid (fun x hx => by rw [List.take_zero] at hx; cases hx), H.out⟩
      case round =>
        obtain ⟨i, hil, rfl, HPA, hst⟩ := hrel
        clear H
        have H := Lib.hid hst
        clear hst
        by_cases hli : i < ps.length
        · have hps : ¬ ps = [] := by rintro rfl; simp at hli
          rcases HP0.out with hps2 | ⟨pb, poff, hq⟩
          · exact absurd hps2 hps
          subst hq
          have d0 := int_cell HXK.out H.out i hli
          obtain ⟨x, hx⟩ : ∃ x, ps.getD i 0 = x := ⟨_, rfl⟩
          rw [hx] at d0
          have hji : (i : Int) < (ps.length : Int) := by omega
          have HTK := Lib.hid (show ps.take (i + 1) = ps.take i ++ [x] by
            rw [List.take_succ_eq_append_getElem hli, ← hx]
            simp [List.getD, hli])
          clear hps hx
          by_cases hx1 : x < -2147483648
          · go_wp2_with fail
            go_ret
            exact ⟨rfl, H.out.below⟩
          · by_cases hx2 : 2147483647 < x
            · go_wp2_with fail
              go_ret
              exact ⟨rfl, H.out.below⟩
            · have HXX := Lib.hid (show -2147483648 ≤ x ∧ x < 2147483648 by omega)
              go_wp2_with fail
              go_roundw
              case rel => exact ⟨i + 1, hli, by go_num, Lib.hid (by
                rw [HTK.out]
                intro n hn
                rcases List.mem_append.1 hn with hn | hn
                · exact HPA.out n hn
                · rw [List.mem_singleton.1 hn]; exact HXX.out), H.out⟩
              case measure => first | (simp [intOf]; done) | (simp [intOf]; omega)
        · obtain rfl : i = ps.length := by omega
          go_wp2
          go_roundw
          case rel => exact ⟨k + 1, hlt, by go_num, Lib.hid (by
            rw [HNX.out]
            intro x hx
            rcases List.mem_append.1 hx with hx | hx
            · exact HALL.out x hx
            · rw [List.mem_singleton.1 hx]
              have := HPA.out
              rw [List.take_length] at this
              exact this), H.out.drop⟩
          case measure => first | (simp [intOf]; done) | (simp [intOf]; omega)
    · as_aux_lemma =>
      obtain rfl : k = l.length := by omega
      have hall := HALL.out
      rw [List.take_length] at hall
      have HFIT := Lib.hid (fit_all l HWL.out hall)
      obtain ⟨B, hB⟩ : ∃ B, encTs (l.map (·.1)) = B := ⟨_, rfl⟩
      have HB2 := Lib.hid hB
      have HB := Lib.hid (show [] ++ encTs (l.map (·.1)) = B from hB)
      have HB0 := Lib.hid (show ([] : Bs).length ≤ 1000000 by decide)
      have HBL := Lib.hid (show B.length ≤ 140737488355328 by rw [← hB, encTs_len]; have := HWL.out; omega)
      have HXB := Lib.hid (show (⟨B, 0, 0⟩ : InS).tops = (l.map (·.1), ⟨B, B.length, 0⟩) by rw [← hB]; exact tops_backI _ HFIT.out)
      have HCL := Lib.hid (close_end B)
      have gB : (B == B) = true := beq_self_eq_true _
      obtain ⟨po, hpo⟩ : ∃ b, wr.heap.size = b := ⟨_, rfl⟩
      have h0 := H.out.allocOut
      rw [hpo] at h0
      clear H HALL hall hB
      have H := Lib.hid h0
      clear h0
      go_wp2_with (first
    | (go_at_call 31; (with_reducible refine (val_putTopics po [] B l q cap HB.out HB0.out HFIT.out HKL.out H.out).mono ?_); rintro e_ wn ⟨rfl, h⟩; replace H := Lib.hid h; clear h)
    | (go_at_call 32; (with_reducible refine (so_textV po B H.out).mono ?_); rintro e_ wn ⟨rfl, h⟩; replace H := Lib.hid h; clear h)
    | (go_at_call 24; (with_reducible refine (s_new B HBL.out H.out).mono ?_); rintro e_ wn ⟨b2, rfl, h⟩; replace H := Lib.hid h; clear h)
    | (go_at_call 33; (with_reducible refine (ref14_topics l q cap B HB2.out HFIT.out HKL.out H.out).mono ?_); rintro e_ wn ⟨rfl, h⟩; replace H := Lib.hid h; clear h)
    | (go_at_call 25; (with_reducible refine (val_topics b2 _ _ (l.map (·.1)) HXB.out H.out).mono ?_); rintro e_ wn ⟨v_, l3, rfl, hl3, h⟩; obtain ⟨q3, cap3, rfl⟩ := tops_form (Know.has_right (Know.has_refl _)) h; have HL3 := Lib.hid hl3; clear hl3; replace H := Lib.hid h; clear h)
    | (go_at_call 28; have HS3 := Lib.hid (decide_eq_true HL3.out); have HLL3 := Lib.hid (lenT_of (fewT_map HFT.out HL3.out)); (with_reducible refine (ref14_sameTopics l3 l q3 q cap3 cap true HS3.out HLL3.out HLL.out (Know.has_right (Know.has_refl _)) (Know.has_left HKL.out) H.out).mono ?_); rintro e_ wn ⟨rfl, h⟩; replace H := Lib.hid h; clear h)
    | (go_at_call 34; (with_reducible refine (s_closeV b2 _ 0 HCL.out H.out).mono ?_); rintro e_ wn ⟨rfl, h⟩; replace H := Lib.hid h; clear h))
      go_ret
      exact ⟨rfl, H.out.below⟩

end Go.Proofs.Ytombolmicfjjpaa

/- ValueTopics: bytes that are none. -/
namespace Go.Proofs.Ytombolmicfjjpaa
open Go.RowKit

set_option maxHeartbeats 8000000 in
set_option maxRecDepth 100000 in
theorem vt_5 (l m : List (TopS × Value)) (q qm : Option Addr) (cap capm : Nat) (S : Bs) (hfi : FewI l) (hfm : FewI m) (hw : few (l.map (·.1)) = 1) (hm : few (m.map (·.1)) = 1) (hs : S.length ≤ 1000) (lx : List TopS) (j : InS) (many : Nat) (ef : Int) (hx : (⟨S, 0, 0⟩ : InS).tops = (lx, j)) (hr : topsR S = (lx, many, ef)) (hje : j.err = ef) (hfx : FewL lx) (h0 : ef ≠ 0) {W0 w : World} {K : Know} {L : List Res} (hk : K.has (Know.tops (.slice q l.length cap) l)) (hkm : K.has (Know.tops (.slice qm m.length capm) m)) (h : St W0 w K L) :
    Calls Try.prog 5 #[.slice q l.length cap, .slice qm m.length capm, .string (bb S)] w fun en w' => en = .returned (.bool true) ∧ Below W0.heap.size W0 w' := by
  have H := Lib.hid h
  have HK := Lib.hid hk
  have HKM := Lib.hid hkm
  have HNL := Lib.hid hfi.1
  have HNB := Lib.hid (show ∀ x ∈ l, x.1.name.length ≤ 140737488351232 ∧ x.1.parts.length ≤ 17592186043904 from fun x hx => ⟨(hfi.2 x hx).1, (hfi.2 x hx).2.1⟩)
  have HNLm := Lib.hid hfm.1
  have HNBm := Lib.hid (show ∀ x ∈ m, x.1.name.length ≤ 140737488351232 ∧ x.1.parts.length ≤ 17592186043904 from fun x hx => ⟨(hfm.2 x hx).1, (hfm.2 x hx).2.1⟩)
  have HFW := Lib.hid hw
  have HFM := Lib.hid hm
  have hsi : ¬ 1000 < (S.length : Int) := by omega
  have HSX := Lib.hid (show S.length ≤ 1000000 by omega)
  have HSY := Lib.hid (show S.length ≤ 140737488355328 by omega)
  have HX := Lib.hid hx
  have HR := Lib.hid hr
  have HJE := Lib.hid hje
  have HFX := Lib.hid hfx
  have g1 : (ef == 0) = false := by rw [beq_eq_false_iff_ne]; exact h0
  have g2 : (ef != 0) = true := by simp [bne, g1]
  have g3 : (ef == ef) = true := beq_self_eq_true _
  have g4 : (ef != ef) = false := by simp [bne, g3]

  obtain ⟨r, hrr⟩ : ∃ r, decide (l.map (·.1) = m.map (·.1)) = r := ⟨_, rfl⟩
  have HRR := Lib.hid hrr
  have r1 : (r == r) = true := beq_self_eq_true _
  have r2 : (r != r) = false := by simp [bne]
  have hwl := few_one hw
  have HWL := Lib.hid hwl
  have HFT := Lib.hid (few_T hwl)
  have HLL := Lib.hid (lenT_of (few_T hwl))
  have HLM := Lib.hid (lenT_of (few_T (few_one hm)))
  clear h hk hkm hfi hfm hw hm hs hx hr hje hfx hrr hwl h0
  go_enter Try.func5, Try.ntmps5
  go_wp2_with (first
    | (go_at_call 13; (with_reducible refine (speaks14 H.out).mono ?_); rintro e_ wn ⟨rfl, h⟩; replace H := Lib.hid h; clear h)
    | (go_at_call 14; (with_reducible refine (law14_few l q cap HNL.out HNB.out 1 HFW.out HK.out H.out).mono ?_); rintro e_ wn ⟨rfl, h⟩; replace H := Lib.hid h; clear h)
    | (go_at_call 14; (with_reducible refine (law14_few m qm capm HNLm.out HNBm.out 1 HFM.out HKM.out H.out).mono ?_); rintro e_ wn ⟨rfl, h⟩; replace H := Lib.hid h; clear h)
    | (go_at_call 24; (with_reducible refine (s_new S HSY.out H.out).mono ?_); rintro e_ wn ⟨bi, rfl, h⟩; replace H := Lib.hid h; clear h)
    | (go_at_call 25; (with_reducible refine (val_topics bi _ _ lx HX.out H.out).mono ?_); rintro e_ wn ⟨v_, lr, rfl, hlr, h⟩; obtain ⟨q1, cap1, rfl⟩ := tops_form (Know.has_right (Know.has_refl _)) h; have HLR := Lib.hid hlr; clear hlr; replace H := Lib.hid h; clear h)
    | (go_at_call 26; (with_reducible refine (ref14_readTopics S HSX.out lx many ef HR.out H.out).mono ?_); rintro e_ wn ⟨v_, lw, rfl, hlw, h⟩; obtain ⟨q2, cap2, rfl⟩ := tops_form (Know.has_right (Know.has_refl _)) h; have HLW := Lib.hid hlw; clear hlw; replace H := Lib.hid h; clear h)
    | (go_at_call 27; (with_reducible refine (s_errV bi _ ef HJE.out H.out).mono ?_); rintro e_ wn ⟨rfl, h⟩; replace H := Lib.hid h; clear h)
    | (go_at_call 28; (with_reducible refine (ref14_sameTopics l m q qm cap capm r HRR.out HLL.out HLM.out (Know.has_left (Know.has_left HK.out)) (Know.has_left (Know.has_left HKM.out)) H.out).mono ?_); rintro e_ wn ⟨rfl, h⟩; replace H := Lib.hid h; clear h)
    | (go_at_call 28; have HSXW := Lib.hid (decide_eq_true (HLR.out.trans HLW.out.symm)); have HLL1 := Lib.hid (lenT_of (fewT_of (by rw [HLR.out]; exact HFX.out))); have HLL2 := Lib.hid (lenT_of (fewT_of (by rw [HLW.out]; exact HFX.out))); (with_reducible refine (ref14_sameTopics lr lw q1 q2 cap1 cap2 true HSXW.out HLL1.out HLL2.out (Know.has_left (Know.has_right (Know.has_refl _))) (Know.has_right (Know.has_refl _)) H.out).mono ?_); rintro e_ wn ⟨rfl, h⟩; replace H := Lib.hid h; clear h)
    | (go_at_call 30; (with_reducible refine (val_sameTopics l m q qm cap capm r HRR.out HLL.out HLM.out (Know.has_left (Know.has_left HK.out)) (Know.has_left (Know.has_left HKM.out)) H.out).mono ?_); rintro e_ wn ⟨rfl, h⟩; replace H := Lib.hid h; clear h))
  have HKL := Lib.hid (show ((K.and (Know.tops (.slice q1 lr.length cap1) lr)).and (Know.tops (.slice q2 lw.length cap2) lw)).has (Know.tops (.slice q l.length cap) l) from Know.has_left (Know.has_left HK.out))
  go_loopw [13, 15, 76, 83] (fun _ _ iv _ wr => ∃ k : Nat, k ≤ l.length ∧ iv = .int .i64 k ∧ Hid (∀ x ∈ l.take k, ∀ n ∈ x.1.parts, -2147483648 ≤ n ∧ n < 2147483648) ∧ St W0 wr ((K.and (Know.tops (.slice q1 lr.length cap1) lr)).and (Know.tops (.slice q2 lw.length cap2) lw)) (.inp bi j :: L)) (fun _ _ iv _ _ => l.length - (intOf iv).toNat)
  case atStart => exact ⟨0, Nat.zero_le _, rfl, Lib.hid (fun x hx => by rw [List.take_zero] at hx; cases hx), H.out⟩
  case round =>
    obtain ⟨k, hkl, rfl, HALL, hst⟩ := hrel
    clear H
    have H := Lib.hid hst
    clear hst
    by_cases hlt : k < l.length
    · as_aux_lemma =>
      obtain ⟨b, off, hqq⟩ := tops_at HKL.out H.out (by omega)
      subst hqq
      obtain ⟨⟨⟨nm, ps⟩, vx⟩, hx⟩ : ∃ x, l[k] = x := ⟨_, rfl⟩
      obtain ⟨c0, c1⟩ : wr.cell? ⟨b, off + k * 2, none⟩ = some (.string (bb nm)) ∧ wr.cell? ⟨b, off + k * 2 + 1, none⟩ = some vx := tops_cell HKL.out H.out k hlt _ hx
      have hmem : ((⟨nm, ps⟩ : TopS), vx) ∈ l := hx ▸ List.getElem_mem hlt
      have hxk : ((K.and (Know.tops (.slice q1 lr.length cap1) lr)).and (Know.tops (.slice q2 lw.length cap2) lw)).has (Know.flat RI vx 1 ps) := tops_parts HKL.out hmem
      obtain ⟨qx, capx, hvx⟩ := flat_form hxk H.out
      subst hvx
      have HXK := Lib.hid hxk
      have hkn : (k : Int) < (l.length : Int) := by omega
      have hni : (l.length : Int) ≤ 1000000 := by have := HFT.out.1; omega
      have hpl : (ps.length : Int) ≤ 1000000 := by have := (HFT.out.2 _ hmem).2; simp only at this; omega
      have HNX := Lib.hid (show l.take (k + 1) = l.take k ++ [((⟨nm, ps⟩ : TopS), .slice qx ps.length capx)] by rw [List.take_succ_eq_append_getElem hlt, hx])
      obtain ⟨tb, htb⟩ : ∃ b, wr.heap.size = b := ⟨_, rfl⟩
      have h := H.out.allocRaw #[.string (bb nm), .slice qx ps.length capx] 51
      rw [htb] at h
      have t0 := h.rawCell 0
      have t1 := h.rawCell 1
      simp at t0 t1
      have hp0 : ps = [] ∨ ∃ pb poff, qx = some ⟨pb, poff, none⟩ := by
        by_cases hps : ps = []
        · exact .inl hps
        · exact .inr (flat_at HXK.out H.out (List.length_pos_iff.2 hps))
      have HP0 := Lib.hid hp0
      clear H
      have H := Lib.hid h
      clear h hx hmem hxk hp0
      go_wp2_with fail
      clear t0 t1
      go_loopw [15, 83] (fun _ jv wr => ∃ i : Nat, i ≤ ps.length ∧ jv = .int .i64 i ∧ Hid (∀ n ∈ ps.take i, -2147483648 ≤ n ∧ n < 2147483648) ∧ St W0 wr ((K.and (Know.tops (.slice q1 lr.length cap1) lr)).and (Know.tops (.slice q2 lw.length cap2) lw)) (.raw tb #[.string (bb nm), .slice qx ps.length capx] 51 :: .inp bi j :: L)) (fun _ jv _ => ps.length - (intOf jv).toNat)
      case atStart => exact ⟨0, Nat.zero_le _, rfl, Lib.hid (fun x hx => by rw [List.take_zero] at hx; cases hx), H.out⟩
      case round =>
        obtain ⟨i, hil, rfl, HPA, hst⟩ := hrel
        clear H
        have H := Lib.hid hst
        clear hst
        by_cases hli : i < ps.length
        · have hps : ¬ ps = [] := by rintro rfl; simp at hli
          rcases HP0.out with hps2 | ⟨pb, poff, hq⟩
          · exact absurd hps2 hps
          subst hq
          have d0 := int_cell HXK.out H.out i hli
          obtain ⟨x, hx⟩ : ∃ x, ps.getD i 0 = x := ⟨_, rfl⟩
          rw [hx] at d0
          have hji : (i : Int) < (ps.length : Int) := by omega
          have HTK := Lib.hid (show ps.take (i + 1) = ps.take i ++ [x] by
            rw [List.take_succ_eq_append_getElem hli, ← hx]
            simp [List.getD, hli])
          clear hps hx
          by_cases hx1 : x < -2147483648
          · go_wp2_with fail
            go_ret
            exact ⟨rfl, H.out.below⟩
          · by_cases hx2 : 2147483647 < x
            · go_wp2_with fail
              go_ret
              exact ⟨rfl, H.out.below⟩
            · have HXX := Lib.hid (show -2147483648 ≤ x ∧ x < 2147483648 by omega)
              go_wp2_with fail
              go_roundw
              case rel => exact ⟨i + 1, hli, by go_num, Lib.hid (by
                rw [HTK.out]
                intro n hn
                rcases List.mem_append.1 hn with hn | hn
                · exact HPA.out n hn
                · rw [List.mem_singleton.1 hn]; exact HXX.out), H.out⟩
              case measure => first | (simp [intOf]; done) | (simp [intOf]; omega)
        · obtain rfl : i = ps.length := by omega
          go_wp2
          go_roundw
          case rel => exact ⟨k + 1, hlt, by go_num, Lib.hid (by
            rw [HNX.out]
            intro x hx
            rcases List.mem_append.1 hx with hx | hx
            · exact HALL.out x hx
            · rw [List.mem_singleton.1 hx]
              have := HPA.out
              rw [List.take_length] at this
              exact this), H.out.drop⟩
          case measure => first | (simp [intOf]; done) | (simp [intOf]; omega)
    · as_aux_lemma =>
      obtain rfl : k = l.length := by omega
      have hall := HALL.out
      rw [List.take_length] at hall
      have HFIT := Lib.hid (fit_all l HWL.out hall)
      obtain ⟨B, hB⟩ : ∃ B, encTs (l.map (·.1)) = B := ⟨_, rfl⟩
      have HB2 := Lib.hid hB
      have HB := Lib.hid (show [] ++ encTs (l.map (·.1)) = B from hB)
      have HB0 := Lib.hid (show ([] : Bs).length ≤ 1000000 by decide)
      have HBL := Lib.hid (show B.length ≤ 140737488355328 by rw [← hB, encTs_len]; have := HWL.out; omega)
      have HXB := Lib.hid (show (⟨B, 0, 0⟩ : InS).tops = (l.map (·.1), ⟨B, B.length, 0⟩) by rw [← hB]; exact tops_backI _ HFIT.out)
      have HCL := Lib.hid (close_end B)
      have gB : (B == B) = true := beq_self_eq_true _
      obtain ⟨po, hpo⟩ : ∃ b, wr.heap.size = b := ⟨_, rfl⟩
      have h0 := H.out.allocOut
      rw [hpo] at h0
      clear H HALL hall hB
      have H := Lib.hid h0
      clear h0
      go_wp2_with (first
    | (go_at_call 31; (with_reducible refine (val_putTopics po [] B l q cap HB.out HB0.out HFIT.out HKL.out H.out).mono ?_); rintro e_ wn ⟨rfl, h⟩; replace H := Lib.hid h; clear h)
    | (go_at_call 32; (with_reducible refine (so_textV po B H.out).mono ?_); rintro e_ wn ⟨rfl, h⟩; replace H := Lib.hid h; clear h)
    | (go_at_call 24; (with_reducible refine (s_new B HBL.out H.out).mono ?_); rintro e_ wn ⟨b2, rfl, h⟩; replace H := Lib.hid h; clear h)
    | (go_at_call 33; (with_reducible refine (ref14_topics l q cap B HB2.out HFIT.out HKL.out H.out).mono ?_); rintro e_ wn ⟨rfl, h⟩; replace H := Lib.hid h; clear h)
    | (go_at_call 25; (with_reducible refine (val_topics b2 _ _ (l.map (·.1)) HXB.out H.out).mono ?_); rintro e_ wn ⟨v_, l3, rfl, hl3, h⟩; obtain ⟨q3, cap3, rfl⟩ := tops_form (Know.has_right (Know.has_refl _)) h; have HL3 := Lib.hid hl3; clear hl3; replace H := Lib.hid h; clear h)
    | (go_at_call 28; have HS3 := Lib.hid (decide_eq_true HL3.out); have HLL3 := Lib.hid (lenT_of (fewT_map HFT.out HL3.out)); (with_reducible refine (ref14_sameTopics l3 l q3 q cap3 cap true HS3.out HLL3.out HLL.out (Know.has_right (Know.has_refl _)) (Know.has_left HKL.out) H.out).mono ?_); rintro e_ wn ⟨rfl, h⟩; replace H := Lib.hid h; clear h)
    | (go_at_call 34; (with_reducible refine (s_closeV b2 _ 0 HCL.out H.out).mono ?_); rintro e_ wn ⟨rfl, h⟩; replace H := Lib.hid h; clear h))
      go_ret
      exact ⟨rfl, H.out.below⟩

end Go.Proofs.Ytombolmicfjjpaa

/- ValueTopics, any. -/
namespace Go.Proofs.Ytombolmicfjjpaa
open Go.RowKit

theorem valueTopics_any (l m : List (TopS × Value)) (q qm : Option Addr) (cap capm : Nat) (S : Bs) (hfi : FewI l) (hfm : FewI m) (hsl : S.length ≤ 9223372036854775807) {W0 w : World} {K : Know} (hk : K.has (Know.tops (.slice q l.length cap) l)) (hkm : K.has (Know.tops (.slice qm m.length capm) m)) (h : St W0 w K []) :
    Calls Try.prog 5 #[.slice q l.length cap, .slice qm m.length capm, .string (bb S)] w fun en w' => en = .returned (.bool true) ∧ Below W0.heap.size W0 w' := by
  by_cases hw : topWs (l.map (·.1)) ≤ 1000
  rotate_left
  · exact vt_1 l m q qm cap capm S hfi hfm (by unfold few; rw [if_neg hw]) hk hkm h
  have hw1 : few (l.map (·.1)) = 1 := by unfold few; rw [if_pos hw]
  by_cases hm : topWs (m.map (·.1)) ≤ 1000
  rotate_left
  · exact vt_2 l m q qm cap capm S hfi hfm hw1 (by unfold few; rw [if_neg hm]) hk hkm h
  have hm1 : few (m.map (·.1)) = 1 := by unfold few; rw [if_pos hm]
  by_cases hs : S.length ≤ 1000
  rotate_left
  · exact vt_3 l m q qm cap capm S hfi hfm hw1 hm1 (by omega) hk hkm h
  obtain ⟨lx, j, many, ef, h1, h2, h3, h4, h5⟩ := tops_both S (by omega)
  by_cases h0 : ef = 0
  · subst h0
    exact vt_4 l m q qm cap capm S hfi hfm hw1 hm1 hs lx j many h1 h2 h3 h4 (h5 rfl) hk hkm h
  · exact vt_5 l m q qm cap capm S hfi hfm hw1 hm1 hs lx j many ef h1 h2 h3 h4 h0 hk hkm h
theorem valueTopics_anyV (l m : List (TopS × Value)) (v vm : Value) (S : Bs) (W : World) (hfi : FewI l) (hfm : FewI m) (hst : St W W (Know.tops v l) []) (hsm : St W W (Know.tops vm m) []) (hsl : S.length ≤ 9223372036854775807) :
    Calls Try.prog 5 #[v, vm, .string (bb S)] W fun en w' => en = .returned (.bool true) ∧ Below W.heap.size W w' := by
  obtain ⟨q, cap, rfl⟩ := tops_form (Know.has_refl _) hst
  obtain ⟨qm, capm, rfl⟩ := tops_form (Know.has_refl _) hsm
  exact valueTopics_any l m q qm cap capm S hfi hfm hsl (Know.has_left (Know.has_refl _)) (Know.has_right (Know.has_refl _)) (St.twoT hst hsm)

end Go.Proofs.Ytombolmicfjjpaa
