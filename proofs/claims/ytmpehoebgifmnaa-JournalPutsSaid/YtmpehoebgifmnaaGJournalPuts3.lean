/- A text. -/
import Derived.Test.YtmpehoebgifmnaaGJournalPuts2
import Derived.Test.YtmpehoebgifmnaaRecP
import Derived.Test.YtmpehoebgifmnaaRecs
import Derived.Test.YtmpehoebgifmnaaSep
import Derived.Deep.MidRow
import Derived.Test.YtmpehoebgifmnaaJn1
import Derived.Deep.RegionHeld3
import Derived.Deep.DeepCutAuto
import Derived.Test.YtmpehoebgifmnaaBlob1
import Derived.RegionTactic
import Derived.WalkMore
import Derived.Test.YtmpehoebgifmnaaKeyP
import Derived.Test.YtmpehoebgifmnaaFldP
/- A text. -/
namespace Go.Proofs.Ytmpehoebgifmnaa
open Go.RowKit

structure BatS where
  base : Int
  leader : Int
  app : Bool
  txn : Bool
  ctl : Bool
  last : Int
  first : Int
  maxt : Int
  prod : Int
  epoch : Int
  seq : Int
  recs : List RecS
deriving DecidableEq
def BatS.zero : BatS := ⟨0, 0, false, false, false, 0, 0, 0, 0, 0, 0, []⟩
def Rn (n : Int) : Prop := -9223372036854775808 ≤ n ∧ n < 9223372036854775808
def BatS.R (b : BatS) : Prop := Rn b.base ∧ Rn b.leader ∧ Rn b.last ∧ Rn b.first ∧ Rn b.maxt ∧ Rn b.prod ∧ Rn b.epoch ∧ Rn b.seq
def BatS.signed (b : BatS) : Bool :=
  if b.prod = -1 then decide (b.epoch = -1 ∧ b.seq = -1 ∧ b.txn = false)
  else if b.prod < 0 ∨ ¬ (0 ≤ b.epoch ∧ b.epoch ≤ 32767) then false
  else if b.ctl then decide (b.seq = -1)
  else decide (0 ≤ b.seq ∧ b.seq ≤ 2147483647)
def rowsC (first last : Int) : List RecS → Int → Int → Except Int Int
  | [], _, g => .ok g
  | r :: t, ah, g => if r.off ≤ ah ∨ last < r.off then .error 13 else if r.time < -first ∨ 9223372036854775807 - first < r.time then .error 11 else rowsC first last t r.off (max g (first + r.time))
def rowsE (app : Bool) (maxt : Int) (r : Except Int Int) : Int := match r with
  | .error e => e
  | .ok g => if app = false ∧ maxt ≠ g then 11 else 0
def BatS.rows (b : BatS) : Int := rowsE b.app b.maxt (rowsC b.first b.last b.recs (-1) b.first)
def ctlOf (r : RecS) : Int × Int × Int := ctlRead r.key.null r.val.null r.key.data r.val.data r.hdrs.length r.off
def BatS.ends (b : BatS) : Int := match b.recs with | [] => 0 | r :: _ => (ctlOf r).2.2
theorem rc_cell_tmp {P : Program} {fn : Func} {p t : Tmp} {ty : TypeId} (h : fn.results = #[.cell p ty, .tmp t]) (tmps : Array Value) (w : World) (b : Nat) (cs : List Value) (d : TypeDesc)
    (hp : tmps.getD p undef = .pointer (some ⟨b, 0, none⟩)) (hc : w.rangeAt b 0 cs) (hu : P.underlying ty = some d) (hd : d.isRow = true) (hi : (P.info? ty).map (·.size) = some cs.length) :
    (results fn tmps).run P w = .ok (.tuple #[.agg cs.toArray, tmps.getD t undef]) w := by
  have hp' : tmps[p]?.getD undef = .pointer (some ⟨b, 0, none⟩) := by simpa using hp
  simp [results, h, hp', asAddr, run_loadVar_mid w b 0 ty cs d hc hu hd hi]
theorem rc_cell_only {P : Program} {fn : Func} {p : Tmp} {ty : TypeId} (h : fn.results = #[.cell p ty]) (tmps : Array Value) (w : World) (b : Nat) (cs : List Value) (d : TypeDesc)
    (hp : tmps.getD p undef = .pointer (some ⟨b, 0, none⟩)) (hc : w.rangeAt b 0 cs) (hu : P.underlying ty = some d) (hd : d.isRow = true) (hi : (P.info? ty).map (·.size) = some cs.length) :
    (results fn tmps).run P w = .ok (.agg cs.toArray) w := by
  have hp' : tmps[p]?.getD undef = .pointer (some ⟨b, 0, none⟩) := by simpa using hp
  simp [results, h, hp', asAddr, run_loadVar_mid w b 0 ty cs d hc hu hd hi]
theorem rc_range {W0 w : World} {K : Know} {L : List Res} {b : Nat} {c : List Value} {T : TypeId} (h : St W0 w K (.raw b c.toArray T :: L)) : w.rangeAt b 0 c := by
 intro j v hv; rw [Nat.zero_add, h.rawCell j]
 simpa using hv
set_option maxHeartbeats 2000000 in
set_option maxRecDepth 100000 in
theorem val_fields (b : Nat) (i i1 i2 i3 i4 i5 i6 i7 : InS) (p e t s u st : Int) (l : List TopS) (h1 : i.int 8 = (p, i1)) (h2 : i1.int 2 = (e, i2)) (h3 : i2.int 4 = (t, i3)) (h4 : i3.int 1 = (s, i4)) (h5 : i4.tops = (l, i5)) (h6 : i5.int 8 = (u, i6)) (h7 : i6.int 8 = (st, i7)) {W0 w : World} {K : Know} {L : List Res} (h : St W0 w K (.inp b i :: L)) :
  Calls Try.prog 29 #[inPtr b] w fun en w' => ∃ (qt : Option Addr) (capt : Nat) (lr : List (TopS × Value)), en = .returned (.agg #[.int .i64 p, .int .i64 e, .int .i64 t, .int .i64 s, .slice qt lr.length capt, .int .i64 u, .int .i64 st]) ∧ lr.map (·.1) = l ∧ St W0 w' (K.and (Know.tops (.slice qt lr.length capt) lr)) (.inp b i7 :: L) := by
 obtain ⟨rb, hrb⟩ : ∃ b, w.heap.size = b := ⟨_, rfl⟩; obtain ⟨vb, hvb⟩ : ∃ b, rb + 1 = b := ⟨_, rfl⟩; have g1 := (h.allocRaw #[.int .i64 0, .int .i64 0, .int .i64 0, .int .i64 0, .slice none 0 0, .int .i64 0, .int .i64 0] 37).allocRaw #[.int .i64 0, .int .i64 0, .int .i64 0, .int .i64 0, .slice none 0 0, .int .i64 0, .int .i64 0] 37; simp only [World.size_alloc, hrb, hvb] at g1; obtain ⟨i0, hi0⟩ : ∃ i0, i = i0 := ⟨_, rfl⟩; subst hi0; have H := Lib.hid g1.p2; have H1 := Lib.hid h1; have H2 := Lib.hid h2; have H3 := Lib.hid h3; have H4 := Lib.hid h4; have H5 := Lib.hid h5; have H6 := Lib.hid h6; have H7 := Lib.hid h7; clear h g1 h1 h2 h3 h4 h5 h6 h7; go_enter Try.func29, Try.ntmps29
 go_wp2_with (first
  | (go_at_call 25; (with_reducible refine (s_intV b i i1 p 8 H1.out H.out).mono ?_); rintro e_ wn ⟨rfl, h⟩; have f0 := h.p1.rawFree 0; have g0 := h.p1.rawCell 0; simp at g0; have h := (show St W0 (wn.setCell ⟨vb, 0, none⟩ (.int .i64 p)) K (.inp b i1 :: .raw vb #[.int .i64 p, .int .i64 0, .int .i64 0, .int .i64 0, .slice none 0 0, .int .i64 0, .int .i64 0] 37 :: .raw rb #[.int .i64 0, .int .i64 0, .int .i64 0, .int .i64 0, .slice none 0 0, .int .i64 0, .int .i64 0] 37 :: L) from (h.p1.rawSet 0 (.int .i64 p)).p1); replace H := Lib.hid h; clear h)
  | (go_at_call 25; (with_reducible refine (s_intV b i1 i2 e 2 H2.out H.out).mono ?_); rintro e_ wn ⟨rfl, h⟩; have f1 := h.p1.rawFree 1; have g1 := h.p1.rawCell 1; simp at g1; have h := (show St W0 (wn.setCell ⟨vb, 1, none⟩ (.int .i64 e)) K (.inp b i2 :: .raw vb #[.int .i64 p, .int .i64 e, .int .i64 0, .int .i64 0, .slice none 0 0, .int .i64 0, .int .i64 0] 37 :: .raw rb #[.int .i64 0, .int .i64 0, .int .i64 0, .int .i64 0, .slice none 0 0, .int .i64 0, .int .i64 0] 37 :: L) from (h.p1.rawSet 1 (.int .i64 e)).p1); replace H := Lib.hid h; clear h)
  | (go_at_call 25; (with_reducible refine (s_intV b i2 i3 t 4 H3.out H.out).mono ?_); rintro e_ wn ⟨rfl, h⟩; have f2 := h.p1.rawFree 2; have g2 := h.p1.rawCell 2; simp at g2; have h := (show St W0 (wn.setCell ⟨vb, 2, none⟩ (.int .i64 t)) K (.inp b i3 :: .raw vb #[.int .i64 p, .int .i64 e, .int .i64 t, .int .i64 0, .slice none 0 0, .int .i64 0, .int .i64 0] 37 :: .raw rb #[.int .i64 0, .int .i64 0, .int .i64 0, .int .i64 0, .slice none 0 0, .int .i64 0, .int .i64 0] 37 :: L) from (h.p1.rawSet 2 (.int .i64 t)).p1); replace H := Lib.hid h; clear h)
  | (go_at_call 25; (with_reducible refine (s_intV b i3 i4 s 1 H4.out H.out).mono ?_); rintro e_ wn ⟨rfl, h⟩; have f3 := h.p1.rawFree 3; have g3 := h.p1.rawCell 3; simp at g3; have h := (show St W0 (wn.setCell ⟨vb, 3, none⟩ (.int .i64 s)) K (.inp b i4 :: .raw vb #[.int .i64 p, .int .i64 e, .int .i64 t, .int .i64 s, .slice none 0 0, .int .i64 0, .int .i64 0] 37 :: .raw rb #[.int .i64 0, .int .i64 0, .int .i64 0, .int .i64 0, .slice none 0 0, .int .i64 0, .int .i64 0] 37 :: L) from (h.p1.rawSet 3 (.int .i64 s)).p1); replace H := Lib.hid h; clear h)
  | (go_at_call 50; (with_reducible refine (val_topics b i4 i5 l H5.out H.out).mono ?_); rintro e_ wn ⟨tv, lr, rfl, hlr, h⟩; obtain ⟨qt, capt, htv⟩ := tops_form (Know.has_right (Know.has_refl _)) h; subst htv; have HLR := Lib.hid hlr; clear hlr; have f4 := h.p1.rawFree 4; have g4 := h.p1.rawCell 4; simp at g4; have h := (show St W0 (wn.setCell ⟨vb, 4, none⟩ (.slice qt lr.length capt)) (K.and (Know.tops (.slice qt lr.length capt) lr)) (.inp b i5 :: .raw vb #[.int .i64 p, .int .i64 e, .int .i64 t, .int .i64 s, .slice qt lr.length capt, .int .i64 0, .int .i64 0] 37 :: .raw rb #[.int .i64 0, .int .i64 0, .int .i64 0, .int .i64 0, .slice none 0 0, .int .i64 0, .int .i64 0] 37 :: L) from (h.p1.rawSet 4 (.slice qt lr.length capt)).p1); replace H := Lib.hid h; clear h)
  | (go_at_call 25; (with_reducible refine (s_intV b i5 i6 u 8 H6.out H.out).mono ?_); rintro e_ wn ⟨rfl, h⟩; have f5 := h.p1.rawFree 5; have g5 := h.p1.rawCell 5; simp at g5; have h := (show St W0 (wn.setCell ⟨vb, 5, none⟩ (.int .i64 u)) (K.and (Know.tops (.slice qt lr.length capt) lr)) (.inp b i6 :: .raw vb #[.int .i64 p, .int .i64 e, .int .i64 t, .int .i64 s, .slice qt lr.length capt, .int .i64 u, .int .i64 0] 37 :: .raw rb #[.int .i64 0, .int .i64 0, .int .i64 0, .int .i64 0, .slice none 0 0, .int .i64 0, .int .i64 0] 37 :: L) from (h.p1.rawSet 5 (.int .i64 u)).p1); replace H := Lib.hid h; clear h)
  | (go_at_call 25; (with_reducible refine (s_intV b i6 i7 st 8 H7.out H.out).mono ?_); rintro e_ wn ⟨rfl, h⟩; have f6 := h.p1.rawFree 6; have g6 := h.p1.rawCell 6; simp at g6; have h := (show St W0 (wn.setCell ⟨vb, 6, none⟩ (.int .i64 st)) (K.and (Know.tops (.slice qt lr.length capt) lr)) (.inp b i7 :: .raw vb #[.int .i64 p, .int .i64 e, .int .i64 t, .int .i64 s, .slice qt lr.length capt, .int .i64 u, .int .i64 st] 37 :: .raw rb #[.int .i64 0, .int .i64 0, .int .i64 0, .int .i64 0, .slice none 0 0, .int .i64 0, .int .i64 0] 37 :: L) from (h.p1.rawSet 6 (.int .i64 st)).p1); have c0 := h.p1.rawCell 0; have c1 := h.p1.rawCell 1; have c2 := h.p1.rawCell 2; have c3 := h.p1.rawCell 3; have c4 := h.p1.rawCell 4; have c5 := h.p1.rawCell 5; have c6 := h.p1.rawCell 6; have d0 := h.p2.rawCell 0; have r0 := h.p2.rawFree 0; have d1 := h.p2.rawCell 1; have r1 := h.p2.rawFree 1; have d2 := h.p2.rawCell 2; have r2 := h.p2.rawFree 2; have d3 := h.p2.rawCell 3; have r3 := h.p2.rawFree 3; have d4 := h.p2.rawCell 4; have r4 := h.p2.rawFree 4; have d5 := h.p2.rawCell 5; have r5 := h.p2.rawFree 5; have d6 := h.p2.rawCell 6; have r6 := h.p2.rawFree 6; simp at c0 c1 c2 c3 c4 c5 c6 d0 d1 d2 d3 d4 d5 d6; replace H := Lib.hid h; clear h))
 have hz : St W0 _ _ (.raw rb #[.int .i64 p, .int .i64 e, .int .i64 t, .int .i64 s, .slice qt lr.length capt, .int .i64 u, .int .i64 st] 37 :: .inp b i7 :: .raw vb #[.int .i64 p, .int .i64 e, .int .i64 t, .int .i64 s, .slice qt lr.length capt, .int .i64 u, .int .i64 st] 37 :: L) := (((((((H.out.p2).rawSet 0 _).rawSet 1 _).rawSet 2 _).rawSet 3 _).rawSet 4 _).rawSet 5 _).rawSet 6 _; refine bodyPost_ret (rc_cell_only rfl _ _ rb [.int .i64 p, .int .i64 e, .int .i64 t, .int .i64 s, .slice qt lr.length capt, .int .i64 u, .int .i64 st] _ rfl (rc_range hz) Try.underlying37 rfl (by kernel_rfl)) rfl ?_; exact ⟨qt, capt, lr, rfl, HLR.out, hz.drop.p1.drop⟩
theorem St.sets7 {W0 w : World} {K : Know} {L : List Res} {b : Nat} {T : TypeId} {a0 a1 a2 a3 a4 a5 a6 : Value} (v0 v1 v2 v3 v4 v5 v6 : Value) (h : St W0 w K (.raw b #[a0, a1, a2, a3, a4, a5, a6] T :: L)) : St W0 (((((((w.setCell ⟨b, 0, none⟩ v0).setCell ⟨b, 1, none⟩ v1).setCell ⟨b, 2, none⟩ v2).setCell ⟨b, 3, none⟩ v3).setCell ⟨b, 4, none⟩ v4).setCell ⟨b, 5, none⟩ v5).setCell ⟨b, 6, none⟩ v6) K (.raw b #[v0, v1, v2, v3, v4, v5, v6] T :: L) := by
 have h : St W0 _ K (.raw b #[v0, a1, a2, a3, a4, a5, a6] T :: L) := h.rawSet 0 v0; have h : St W0 _ K (.raw b #[v0, v1, a2, a3, a4, a5, a6] T :: L) := h.rawSet 1 v1; have h : St W0 _ K (.raw b #[v0, v1, v2, a3, a4, a5, a6] T :: L) := h.rawSet 2 v2; have h : St W0 _ K (.raw b #[v0, v1, v2, v3, a4, a5, a6] T :: L) := h.rawSet 3 v3; have h : St W0 _ K (.raw b #[v0, v1, v2, v3, v4, a5, a6] T :: L) := h.rawSet 4 v4; have h : St W0 _ K (.raw b #[v0, v1, v2, v3, v4, v5, a6] T :: L) := h.rawSet 5 v5; have h : St W0 _ K (.raw b #[v0, v1, v2, v3, v4, v5, v6] T :: L) := h.rawSet 6 v6; exact h
theorem s_closeV (p : Nat) (i : InS) (e : Int) (hx : i.close.err = e) {W0 w : World} {K : Know} {L : List Res} (h : St W0 w K (.inp p i :: L)) :
  Calls Try.prog 28 #[inPtr p] w fun en w' => en = .returned (.int .i64 e) ∧ St W0 w' K (.inp p i.close :: L) := by
 subst hx; exact s_close p i h
set_option maxHeartbeats 12000000 in
set_option maxRecDepth 100000 in
theorem val_decode_ok (S : Bs) (hsl : S.length ≤ 1000000) (v : ValS) (hv : valDec S = (v, 0)) {W0 w : World} {K : Know} {L : List Res} (h : St W0 w K L) :
  Calls Try.prog 9 #[.string (bb S)] w fun en w' => ∃ (qt : Option Addr) (capt : Nat) (lr : List (TopS × Value)), en = .returned (.tuple #[.agg #[.int .i64 v.prod, .int .i64 v.epoch, .int .i64 v.timeout, .int .i64 v.state, .slice qt lr.length capt, .int .i64 v.upd, .int .i64 v.started], .int .i64 0]) ∧ lr.map (·.1) = v.tops ∧ St W0 w' (K.and (Know.tops (.slice qt lr.length capt) lr)) L := by
 obtain ⟨rb, hrb⟩ : ∃ b, w.heap.size = b := ⟨_, rfl⟩; have g1 := h.allocRaw #[.int .i64 0, .int .i64 0, .int .i64 0, .int .i64 0, .slice none 0 0, .int .i64 0, .int .i64 0] 37; rw [hrb] at g1; have H := Lib.hid g1; have HSL := Lib.hid (show S.length ≤ 140737488355328 by omega); obtain ⟨⟨a, j0⟩, ha⟩ : ∃ r, (⟨S, 0, 0⟩ : InS).int 2 = r := ⟨_, rfl⟩; have HA := Lib.hid ha; have hat := decI_at S; obtain ⟨j, hj⟩ : ∃ j, decI S = j := ⟨_, rfl⟩; have hjj : j = if a = 0 then j0 else j0.fail 7 := by rw [← hj]; unfold decI; rw [ha]
 obtain ⟨⟨p, i1⟩, h1⟩ : ∃ r, j.int 8 = r := ⟨_, rfl⟩; obtain ⟨⟨e, i2⟩, h2⟩ : ∃ r, i1.int 2 = r := ⟨_, rfl⟩; obtain ⟨⟨t, i3⟩, h3⟩ : ∃ r, i2.int 4 = r := ⟨_, rfl⟩; obtain ⟨⟨s, i4⟩, h4⟩ : ∃ r, i3.int 1 = r := ⟨_, rfl⟩; obtain ⟨⟨l, i5⟩, h5⟩ : ∃ r, i4.tops = r := ⟨_, rfl⟩; obtain ⟨⟨u, i6⟩, h6⟩ : ∃ r, i5.int 8 = r := ⟨_, rfl⟩; obtain ⟨⟨st, i7⟩, h7⟩ : ∃ r, i6.int 8 = r := ⟨_, rfl⟩; have hF := valF_eq h1 h2 h3 h4 h5 h6 h7; rw [hj] at hat; have hfl := valF_few hat hsl; rw [hF] at hfl; have H1 := Lib.hid h1; have H2 := Lib.hid h2; have H3 := Lib.hid h3; have H4 := Lib.hid h4; have H5 := Lib.hid h5; have H6 := Lib.hid h6; have H7 := Lib.hid h7; have HFL := Lib.hid (show FewL l from hfl); obtain ⟨ec, hec⟩ : ∃ ec, i7.close.err = ec := ⟨_, rfl⟩; have HEC := Lib.hid hec; have hde : decE S = ec := by unfold decE; rw [hj, hF]; exact hec
 obtain ⟨hb1, hb2, hb3⟩ := valDec_ok hv (.inr trivial); rw [hde] at hb1; rw [hj, hF] at hb2; have hdz := decE_zero (s := S) (by rw [hde]; exact hb1); rw [ha] at hdz; have ha0 : a = 0 := hdz; rw [if_pos ha0] at hjj; have hb2 : (⟨p, e, t, s, l, u, st⟩ : ValS) = v := hb2; subst hb2; subst hjj; subst ha0; subst hb1; have HE := Lib.hid hb3; clear h g1 ha hat hj h1 h2 h3 h4 h5 h6 h7 hF hfl hec hde hdz hv hsl hb3; go_enter Try.func9, Try.ntmps9
 go_wp2_with (first
  | (go_at_call 24; (with_reducible refine (s_new S HSL.out H.out).mono ?_); rintro e_ wn ⟨bi, rfl, h⟩; replace H := Lib.hid h; clear h)
  | (go_at_call 25; (with_reducible refine (s_intV bi _ _ _ 2 HA.out H.out).mono ?_); rintro e_ wn ⟨rfl, h⟩; replace H := Lib.hid h; clear h)
  | (go_at_call 29; (with_reducible refine (val_fields bi _ _ _ _ _ _ _ _ p e t s u st l H1.out H2.out H3.out H4.out H5.out H6.out H7.out H.out).mono ?_); rintro e_ wn ⟨qt, capt, lr, rfl, hlr, h⟩; obtain ⟨vb, hvb⟩ : ∃ b, wn.heap.size = b := ⟨_, rfl⟩; have h := h.allocRaw #[.int .i64 p, .int .i64 e, .int .i64 t, .int .i64 s, .slice qt lr.length capt, .int .i64 u, .int .i64 st] 37; rw [hvb] at h; have HLR := Lib.hid hlr; clear hlr; replace H := Lib.hid h; clear h)
  | (go_at_call 28; (with_reducible refine (s_closeV bi _ _ HEC.out H.out.p1).mono ?_); rintro e_ wn ⟨rfl, h⟩; have c0 := h.p1.rawCell 0; have c1 := h.p1.rawCell 1; have c2 := h.p1.rawCell 2; have c3 := h.p1.rawCell 3; have c4 := h.p1.rawCell 4; have c5 := h.p1.rawCell 5; have c6 := h.p1.rawCell 6; simp at c0 c1 c2 c3 c4 c5 c6; have d0 := h.p2.rawCell 0; have r0 := h.p2.rawFree 0; have d1 := h.p2.rawCell 1; have r1 := h.p2.rawFree 1; have d2 := h.p2.rawCell 2; have r2 := h.p2.rawFree 2; have d3 := h.p2.rawCell 3; have r3 := h.p2.rawFree 3; have d4 := h.p2.rawCell 4; have r4 := h.p2.rawFree 4; have d5 := h.p2.rawCell 5; have r5 := h.p2.rawFree 5; have d6 := h.p2.rawCell 6; have r6 := h.p2.rawFree 6; simp at d0 d1 d2 d3 d4 d5 d6; replace H := Lib.hid h; clear h)
  | (go_at_call 30; (with_reducible refine (val_checkV p e t s u st lr _ _ 0 (by rw [HLR.out]; exact HE.out) (fewT_of (by rw [HLR.out]; exact HFL.out)) (Know.has_right (Know.has_refl _)) H.out).mono ?_); rintro e_ wn ⟨rfl, h⟩; have c0 := h.p1.rawCell 0; have c1 := h.p1.rawCell 1; have c2 := h.p1.rawCell 2; have c3 := h.p1.rawCell 3; have c4 := h.p1.rawCell 4; have c5 := h.p1.rawCell 5; have c6 := h.p1.rawCell 6; simp at c0 c1 c2 c3 c4 c5 c6; have d0 := h.p2.rawCell 0; have r0 := h.p2.rawFree 0; have d1 := h.p2.rawCell 1; have r1 := h.p2.rawFree 1; have d2 := h.p2.rawCell 2; have r2 := h.p2.rawFree 2; have d3 := h.p2.rawCell 3; have r3 := h.p2.rawFree 3; have d4 := h.p2.rawCell 4; have r4 := h.p2.rawFree 4; have d5 := h.p2.rawCell 5; have r5 := h.p2.rawFree 5; have d6 := h.p2.rawCell 6; have r6 := h.p2.rawFree 6; simp at d0 d1 d2 d3 d4 d5 d6; replace H := Lib.hid h; clear h))
 have hz : St W0 _ _ (.raw rb #[.int .i64 p, .int .i64 e, .int .i64 t, .int .i64 s, .slice qt lr.length capt, .int .i64 u, .int .i64 st] 37 :: _) := St.sets7 _ _ _ _ _ _ _ (H.out.p2); refine bodyPost_ret (rc_cell_tmp rfl _ _ rb [.int .i64 p, .int .i64 e, .int .i64 t, .int .i64 s, .slice qt lr.length capt, .int .i64 u, .int .i64 st] _ rfl (rc_range hz) Try.underlying37 rfl (by kernel_rfl)) rfl ?_; exact ⟨qt, capt, lr, rfl, HLR.out, hz.drop.drop.drop⟩
set_option maxHeartbeats 4000000 in
set_option maxRecDepth 100000 in
theorem jr_get_none (jb mb n : Nat) (m : Int) (f : JF) (id : Bs) (hf : f id = none) (hl : id.length ≤ 1000000) {W0 w : World} {K : Know} {L : List Res} (h : St W0 w K (.raw jb #[.map (some mb), .int .i64 m] 63 :: .gen (jmap mb n f) :: L)) :
  Calls Try.prog 21 #[.pointer (some ⟨jb, 0, none⟩), .string (bb id)] w fun en w' => en = .returned (.tuple #[.agg #[.int .i64 0, .int .i64 0, .int .i64 0, .int .i64 0, .slice none 0 0, .int .i64 0, .int .i64 0], .bool false]) ∧ St W0 w' K (.raw jb #[.map (some mb), .int .i64 m] 63 :: .gen (jmap mb n f) :: L) := by
 obtain ⟨rb, hrb⟩ : ∃ b, w.heap.size = b := ⟨_, rfl⟩; have g1 := h.allocRaw #[.int .i64 0, .int .i64 0, .int .i64 0, .int .i64 0, .slice none 0 0, .int .i64 0, .int .i64 0] 37; rw [hrb] at g1; have c0 := (g1.p1).rawCell 0; have c1 := (g1.p1).rawCell 1; simp at c0 c1; have d0 := (g1).rawCell 0; have d1 := (g1).rawCell 1; have d2 := (g1).rawCell 2; have d3 := (g1).rawCell 3; have d4 := (g1).rawCell 4; have d5 := (g1).rawCell 5; have d6 := (g1).rawCell 6; simp at d0 d1 d2 d3 d4 d5 d6; have r0 := (g1).rawFree 0; have r1 := (g1).rawFree 1; have r2 := (g1).rawFree 2; have r3 := (g1).rawFree 3; have r4 := (g1).rawFree 4; have r5 := (g1).rawFree 5; have r6 := (g1).rawFree 6; have g2 := g1.p2; have H := Lib.hid g2; have HF := Lib.hid hf; have HL := Lib.hid (show id.length ≤ 9223372036854775807 by omega); have hrun := jlook_none g2 61 mapT id HL.out hf; clear h hf hl g1 g2; go_enter Try.func21, Try.ntmps21; go_wp2; have hz := H.out.p1; refine bodyPost_ret (rc_cell_tmp rfl _ _ rb [.int .i64 0, .int .i64 0, .int .i64 0, .int .i64 0, .slice none 0 0, .int .i64 0, .int .i64 0] _ rfl (rc_range hz) Try.underlying37 rfl (by kernel_rfl)) rfl ?_; exact ⟨rfl, hz.drop.p1⟩
set_option maxHeartbeats 2000000 in
set_option maxRecDepth 100000 in
theorem val_encode_bad (p e t s u st : Int) (l : List (TopS × Value)) (q : Option Addr) (cap : Nat) (E : Int) (he : ValS.err ⟨p, e, t, s, l.map (·.1), u, st⟩ = E) (h0 : E ≠ 0) (hf : FewT l) {W0 w : World} {K : Know} {L : List Res} (hk : K.has (Know.tops (.slice q l.length cap) l)) (h : St W0 w K L) :
  Calls Try.prog 33 #[.agg #[.int .i64 p, .int .i64 e, .int .i64 t, .int .i64 s, .slice q l.length cap, .int .i64 u, .int .i64 st]] w fun en w' => en = .returned (.tuple #[.string ⟨#[]⟩, .int .i64 E]) ∧ St W0 w' K L := by
 have HK := Lib.hid hk; have HF := Lib.hid hf; obtain ⟨vb, hvb⟩ : ∃ b, w.heap.size = b := ⟨_, rfl⟩; have h1 := h.allocRaw #[.int .i64 p, .int .i64 e, .int .i64 t, .int .i64 s, .slice q l.length cap, .int .i64 u, .int .i64 st] 37; rw [hvb] at h1; have c0 := (h1).rawCell 0; have c1 := (h1).rawCell 1; have c2 := (h1).rawCell 2; have c3 := (h1).rawCell 3; have c4 := (h1).rawCell 4; have c5 := (h1).rawCell 5; have c6 := (h1).rawCell 6; simp at c0 c1 c2 c3 c4 c5 c6; have H := Lib.hid h1; have HE := Lib.hid he; have gz : (E == 0) = false := by rw [beq_eq_false_iff_ne]; exact h0
 have gz3 : (E != 0) = true := by simp [bne, gz]
 clear h h1 hk hf he h0; go_enter Try.func33, Try.ntmps33; go_wp2_with (go_at_call 30; (with_reducible refine (val_checkV p e t s u st l _ _ E HE.out HF.out HK.out H.out).mono ?_); rintro e_ wn ⟨rfl, h⟩; have c0 := (h).rawCell 0; have c1 := (h).rawCell 1; have c2 := (h).rawCell 2; have c3 := (h).rawCell 3; have c4 := (h).rawCell 4; have c5 := (h).rawCell 5; have c6 := (h).rawCell 6; simp at c0 c1 c2 c3 c4 c5 c6; replace H := Lib.hid h; clear h); go_ret2; exact ⟨rfl, H.out.drop⟩

set_option maxHeartbeats 2000000 in
set_option maxRecDepth 100000 in
theorem val_encode_ok (p e t s u st : Int) (l : List (TopS × Value)) (q : Option Addr) (cap : Nat) (he : ValS.err ⟨p, e, t, s, l.map (·.1), u, st⟩ = 0) (hR : ValS.R ⟨p, e, t, s, l.map (·.1), u, st⟩) (hf : FewT l) {W0 w : World} {K : Know} {L : List Res} (hk : K.has (Know.tops (.slice q l.length cap) l)) (h : St W0 w K L) :
  Calls Try.prog 33 #[.agg #[.int .i64 p, .int .i64 e, .int .i64 t, .int .i64 s, .slice q l.length cap, .int .i64 u, .int .i64 st]] w fun en w' => en = .returned (.tuple #[.string (bb (ValS.enc ⟨p, e, t, s, l.map (·.1), u, st⟩)), .int .i64 0]) ∧ St W0 w' K L := by
 have HK := Lib.hid hk; have HF := Lib.hid hf; obtain ⟨vb, hvb⟩ : ∃ b, w.heap.size = b := ⟨_, rfl⟩; have h1 := h.allocRaw #[.int .i64 p, .int .i64 e, .int .i64 t, .int .i64 s, .slice q l.length cap, .int .i64 u, .int .i64 st] 37; rw [hvb] at h1; have c0 := (h1).rawCell 0; have c1 := (h1).rawCell 1; have c2 := (h1).rawCell 2; have c3 := (h1).rawCell 3; have c4 := (h1).rawCell 4; have c5 := (h1).rawCell 5; have c6 := (h1).rawCell 6; simp at c0 c1 c2 c3 c4 c5 c6; have H := Lib.hid h1; have HE := Lib.hid he; have hp := ValS.ok_parts _ he; have hrg := ranged_parts _ hp.1; have hft := fit_of_rise l hf hp.2.2.2.2; have hst := hp.2.1; obtain ⟨r1, r2, r3, r4, r5, r6⟩ := hR; simp only at hrg hst r1 r2 r3 r4 r5 r6; have HFT := Lib.hid hft; obtain ⟨y0, hy0⟩ : ∃ y : Bs, [] = y := ⟨_, rfl⟩; obtain ⟨y1, hy1⟩ : ∃ y, y0 ++ beBytes 0 2 = y := ⟨_, rfl⟩; obtain ⟨y2, hy2⟩ : ∃ y, y1 ++ beBytes p 8 = y := ⟨_, rfl⟩; obtain ⟨y3, hy3⟩ : ∃ y, y2 ++ beBytes e 2 = y := ⟨_, rfl⟩; obtain ⟨y4, hy4⟩ : ∃ y, y3 ++ beBytes t 4 = y := ⟨_, rfl⟩; obtain ⟨y5, hy5⟩ : ∃ y, y4 ++ beBytes s 1 = y := ⟨_, rfl⟩; obtain ⟨y6, hy6⟩ : ∃ y, y5 ++ encTs (l.map (·.1)) = y := ⟨_, rfl⟩; obtain ⟨y7, hy7⟩ : ∃ y, y6 ++ beBytes u 8 = y := ⟨_, rfl⟩; obtain ⟨y8, hy8⟩ : ∃ y, y7 ++ beBytes st 8 = y := ⟨_, rfl⟩; have hye : y8 = ValS.enc ⟨p, e, t, s, l.map (·.1), u, st⟩ := by rw [← hy8, ← hy7, ← hy6, ← hy5, ← hy4, ← hy3, ← hy2, ← hy1, ← hy0]; rfl
 have hl1 := congrArg List.length hy1; have hl2 := congrArg List.length hy2; have hl3 := congrArg List.length hy3; have hl4 := congrArg List.length hy4; have hl5 := congrArg List.length hy5; have hl6 := congrArg List.length hy6; have hl7 := congrArg List.length hy7; have hl8 := congrArg List.length hy8; have hl0 := congrArg List.length hy0; simp only [List.length_append, beBytes_length, List.length_nil] at hl0 hl1 hl2 hl3 hl4 hl5 hl6 hl7 hl8; have hTl : (encTs (l.map (·.1))).length ≤ 5000000000000 := by rw [← preT_all]; have h1 := preT_le _ hft _ (Nat.le_refl _); have h2 := hft.1; omega
 have Y1 := Lib.hid (show y0 ++ beBytes 0 (2 : Int).toNat = y1 from hy1); have G1 := Lib.hid (vfits2 0 (by omega)); have Q1 := Lib.hid (show y0.length ≤ 100000000000000 by omega); have Y2 := Lib.hid (show y1 ++ beBytes p (8 : Int).toNat = y2 from hy2); have G2 := Lib.hid (vfits8 p (by omega)); have Q2 := Lib.hid (show y1.length ≤ 100000000000000 by omega); have Y3 := Lib.hid (show y2 ++ beBytes e (2 : Int).toNat = y3 from hy3); have G3 := Lib.hid (vfits2 e (by omega)); have Q3 := Lib.hid (show y2.length ≤ 100000000000000 by omega); have Y4 := Lib.hid (show y3 ++ beBytes t (4 : Int).toNat = y4 from hy4); have G4 := Lib.hid (vfits4 t (by omega)); have Q4 := Lib.hid (show y3.length ≤ 100000000000000 by omega); have Y5 := Lib.hid (show y4 ++ beBytes s (1 : Int).toNat = y5 from hy5); have G5 := Lib.hid (vfits1 s (by omega)); have Q5 := Lib.hid (show y4.length ≤ 100000000000000 by omega); have Y6 := Lib.hid hy6; have Q6 := Lib.hid (show y5.length ≤ 1000000 by omega); have Y7 := Lib.hid (show y6 ++ beBytes u (8 : Int).toNat = y7 from hy7); have G7 := Lib.hid (vfits8 u (by omega)); have Q7 := Lib.hid (show y6.length ≤ 100000000000000 by omega); have Y8 := Lib.hid (show y7 ++ beBytes st (8 : Int).toNat = y8 from hy8); have G8 := Lib.hid (vfits8 st (by omega)); have Q8 := Lib.hid (show y7.length ≤ 100000000000000 by omega); rw [← hye]; clear h h1 hk hf he hp hrg hft hst r1 r2 r3 r4 r5 r6 hTl hye hy1 hy2 hy3 hy4 hy5 hy6 hy7 hy8 hl0 hl1 hl2 hl3 hl4 hl5 hl6 hl7 hl8; go_enter Try.func33, Try.ntmps33
 go_wp2_with (first
  | (go_at_call 30; (with_reducible refine (val_checkV p e t s u st l _ _ 0 HE.out HF.out HK.out H.out).mono ?_); rintro e_ wn ⟨rfl, h⟩; obtain ⟨po, hpo⟩ : ∃ b, wn.heap.size = b := ⟨_, rfl⟩; have h := h.allocOut; rw [hpo, hy0] at h; have c0 := (h.p1).rawCell 0; have c1 := (h.p1).rawCell 1; have c2 := (h.p1).rawCell 2; have c3 := (h.p1).rawCell 3; have c4 := (h.p1).rawCell 4; have c5 := (h.p1).rawCell 5; have c6 := (h.p1).rawCell 6; simp at c0 c1 c2 c3 c4 c5 c6; replace H := Lib.hid h; clear h)
  | (go_at_call 37; (with_reducible refine (so_intV po y0 y1 0 2 Y1.out G1.out Q1.out H.out).mono ?_); rintro e_ wn ⟨rfl, h⟩; have c0 := (h.p1).rawCell 0; have c1 := (h.p1).rawCell 1; have c2 := (h.p1).rawCell 2; have c3 := (h.p1).rawCell 3; have c4 := (h.p1).rawCell 4; have c5 := (h.p1).rawCell 5; have c6 := (h.p1).rawCell 6; simp at c0 c1 c2 c3 c4 c5 c6; replace H := Lib.hid h; clear h)
  | (go_at_call 37; (with_reducible refine (so_intV po y1 y2 p 8 Y2.out G2.out Q2.out H.out).mono ?_); rintro e_ wn ⟨rfl, h⟩; have c0 := (h.p1).rawCell 0; have c1 := (h.p1).rawCell 1; have c2 := (h.p1).rawCell 2; have c3 := (h.p1).rawCell 3; have c4 := (h.p1).rawCell 4; have c5 := (h.p1).rawCell 5; have c6 := (h.p1).rawCell 6; simp at c0 c1 c2 c3 c4 c5 c6; replace H := Lib.hid h; clear h)
  | (go_at_call 37; (with_reducible refine (so_intV po y2 y3 e 2 Y3.out G3.out Q3.out H.out).mono ?_); rintro e_ wn ⟨rfl, h⟩; have c0 := (h.p1).rawCell 0; have c1 := (h.p1).rawCell 1; have c2 := (h.p1).rawCell 2; have c3 := (h.p1).rawCell 3; have c4 := (h.p1).rawCell 4; have c5 := (h.p1).rawCell 5; have c6 := (h.p1).rawCell 6; simp at c0 c1 c2 c3 c4 c5 c6; replace H := Lib.hid h; clear h)
  | (go_at_call 37; (with_reducible refine (so_intV po y3 y4 t 4 Y4.out G4.out Q4.out H.out).mono ?_); rintro e_ wn ⟨rfl, h⟩; have c0 := (h.p1).rawCell 0; have c1 := (h.p1).rawCell 1; have c2 := (h.p1).rawCell 2; have c3 := (h.p1).rawCell 3; have c4 := (h.p1).rawCell 4; have c5 := (h.p1).rawCell 5; have c6 := (h.p1).rawCell 6; simp at c0 c1 c2 c3 c4 c5 c6; replace H := Lib.hid h; clear h)
  | (go_at_call 37; (with_reducible refine (so_intV po y4 y5 s 1 Y5.out G5.out Q5.out H.out).mono ?_); rintro e_ wn ⟨rfl, h⟩; have c0 := (h.p1).rawCell 0; have c1 := (h.p1).rawCell 1; have c2 := (h.p1).rawCell 2; have c3 := (h.p1).rawCell 3; have c4 := (h.p1).rawCell 4; have c5 := (h.p1).rawCell 5; have c6 := (h.p1).rawCell 6; simp at c0 c1 c2 c3 c4 c5 c6; replace H := Lib.hid h; clear h)
  | (go_at_call 55; (with_reducible refine (val_putTopics po y5 y6 l _ _ Y6.out Q6.out HFT.out HK.out H.out).mono ?_); rintro e_ wn ⟨rfl, h⟩; have c0 := (h.p1).rawCell 0; have c1 := (h.p1).rawCell 1; have c2 := (h.p1).rawCell 2; have c3 := (h.p1).rawCell 3; have c4 := (h.p1).rawCell 4; have c5 := (h.p1).rawCell 5; have c6 := (h.p1).rawCell 6; simp at c0 c1 c2 c3 c4 c5 c6; replace H := Lib.hid h; clear h)
  | (go_at_call 37; (with_reducible refine (so_intV po y6 y7 u 8 Y7.out G7.out Q7.out H.out).mono ?_); rintro e_ wn ⟨rfl, h⟩; have c0 := (h.p1).rawCell 0; have c1 := (h.p1).rawCell 1; have c2 := (h.p1).rawCell 2; have c3 := (h.p1).rawCell 3; have c4 := (h.p1).rawCell 4; have c5 := (h.p1).rawCell 5; have c6 := (h.p1).rawCell 6; simp at c0 c1 c2 c3 c4 c5 c6; replace H := Lib.hid h; clear h)
  | (go_at_call 37; (with_reducible refine (so_intV po y7 y8 st 8 Y8.out G8.out Q8.out H.out).mono ?_); rintro e_ wn ⟨rfl, h⟩; have c0 := (h.p1).rawCell 0; have c1 := (h.p1).rawCell 1; have c2 := (h.p1).rawCell 2; have c3 := (h.p1).rawCell 3; have c4 := (h.p1).rawCell 4; have c5 := (h.p1).rawCell 5; have c6 := (h.p1).rawCell 6; simp at c0 c1 c2 c3 c4 c5 c6; replace H := Lib.hid h; clear h)
  | (go_at_call 39; (with_reducible refine (so_textV po y8 H.out).mono ?_); rintro e_ wn ⟨rfl, h⟩; replace H := Lib.hid h; clear h))
 go_ret2; exact ⟨rfl, H.out.drop.drop⟩
def topW (t : TopS) : Nat := t.name.length + 4 * t.parts.length + 6
def topWs (l : List TopS) : Nat := (l.map topW).sum
theorem topWs_take (l : List TopS) (k : Nat) (hk : k < l.length) (t : TopS) (ht : l[k] = t) : topWs (l.take (k + 1)) = topWs (l.take k) + topW t := by
 unfold topWs; rw [List.take_succ_eq_append_getElem hk, List.map_append, List.sum_append, ht]
 simp
theorem topWs_le (l : List TopS) (k : Nat) : topWs (l.take k) ≤ topWs l := by
 have h : topWs l = topWs (l.take k) + topWs (l.drop k) := by
  unfold topWs; rw [← List.sum_append, ← List.map_append, List.take_append_drop]
 omega
theorem topWs_len (l : List TopS) : 6 * l.length ≤ topWs l := by
 unfold topWs
 induction l with
 | nil => simp
 | cons x t ih => rw [List.map_cons, List.sum_cons, List.length_cons]; unfold topW at ih ⊢; omega
theorem topWs_mem (l : List TopS) (t : TopS) (h : t ∈ l) : topW t ≤ topWs l := by
 unfold topWs
 induction l with
 | nil => cases h
 | cons x m ih =>
  rw [List.map_cons, List.sum_cons]
  rcases List.mem_cons.1 h with rfl | h
  · omega
  · have := ih h; omega
def few (l : List TopS) : Int := if topWs l ≤ 1000 then 1 else 0
theorem few_one {l : List TopS} (h : few l = 1) : topWs l ≤ 1000 := by
 unfold few at h
 by_cases hh : topWs l ≤ 1000
 · exact hh
 · rw [if_neg hh] at h; cases h
theorem few_T {l : List (TopS × Value)} (h : topWs (l.map (·.1)) ≤ 1000) : FewT l := by
 have h1 := topWs_len (l.map (·.1)); rw [List.length_map] at h1; refine ⟨by omega, fun x hx => ?_⟩; have h2 := topWs_mem (l.map (·.1)) x.1 (List.mem_map_of_mem hx); unfold topW at h2; exact ⟨by omega, by omega⟩
set_option maxHeartbeats 2000000 in
set_option maxRecDepth 100000 in
theorem law14_few (l : List (TopS × Value)) (q : Option Addr) (cap : Nat) (hnl : l.length ≤ 140737488351232) (hb : ∀ x ∈ l, x.1.name.length ≤ 140737488351232 ∧ x.1.parts.length ≤ 17592186043904) (r : Int) (hr : few (l.map (·.1)) = r) {W0 w : World} {K : Know} {L : List Res} (hk : K.has (Know.tops (.slice q l.length cap) l)) (h : St W0 w K L) :
  Calls Try.prog 15 #[.slice q l.length cap] w fun en w' => en = .returned (.int .i64 r) ∧ St W0 w' K L := by
 have H := Lib.hid h; have HK := Lib.hid hk; have HR := Lib.hid hr; have HB := Lib.hid hb; clear h hk hr hb; go_enter Try.func15, Try.ntmps15; go_wp2; go_loopw [3, 8] (fun sv iv wr => ∃ (k m : Nat), k ≤ l.length ∧ iv = .int .i64 k ∧ sv = .int .i64 m ∧ topWs ((l.map (·.1)).take k) = m ∧ m ≤ 1000 ∧ St W0 wr K L) (fun _ iv _ => l.length - (intOf iv).toNat)
 case atStart => exact ⟨0, 0, Nat.zero_le _, rfl, rfl, by simp [topWs], by omega, H.out⟩
 case round =>
  obtain ⟨k, m, hkl, rfl, rfl, hm, hm0, hst⟩ := hrel; clear H; have H := Lib.hid hst; clear hst
  by_cases hlt : k < l.length
  · as_aux_lemma =>
    obtain ⟨b, off, hqq⟩ := tops_at HK.out H.out (by omega); subst hqq; obtain ⟨⟨⟨nm, ps⟩, vx⟩, hx⟩ : ∃ x, l[k] = x := ⟨_, rfl⟩; obtain ⟨c0, c1⟩ : wr.cell? ⟨b, off + k * 2, none⟩ = some (.string (bb nm)) ∧ wr.cell? ⟨b, off + k * 2 + 1, none⟩ = some vx := tops_cell HK.out H.out k hlt _ hx; have hmem : ((⟨nm, ps⟩ : TopS), vx) ∈ l := hx ▸ List.getElem_mem hlt; have hxk : K.has (Know.flat RI vx 1 ps) := tops_parts HK.out hmem; obtain ⟨qx, capx, hvx⟩ := flat_form hxk H.out; subst hvx; have HXK := Lib.hid hxk; have hmk : k < (l.map (·.1)).length := by rw [List.length_map]; exact hlt
    have hmg : (l.map (·.1))[k] = ⟨nm, ps⟩ := by rw [List.getElem_map, hx]
    have hkn : (k : Int) < (l.length : Int) := by omega
    obtain ⟨hn1, hn2⟩ := HB.out _ hmem; replace hn1 : nm.length ≤ 140737488351232 := hn1; replace hn2 : ps.length ≤ 17592186043904 := hn2; have hst1 := topWs_take (l.map (·.1)) k hmk _ hmg; rw [hm] at hst1; replace hst1 : topWs ((l.map (·.1)).take (k + 1)) = m + (nm.length + 4 * ps.length + 6) := hst1; have hlk := topWs_le (l.map (·.1)) (k + 1); obtain ⟨M, hM⟩ : ∃ M : Nat, m + (nm.length + 4 * ps.length + 6) = M := ⟨_, rfl⟩; have hMi : (m : Int) + ((nm.length : Int) + 4 * (ps.length : Int) + 6) = (M : Int) := by omega
    have hm1 : (m : Int) ≤ 1000 := by omega
    have hMb : M ≤ 1000000000000000 := by omega
    rw [hM] at hst1
    by_cases hMl : M ≤ 1000
    · have g1 : ¬ (1000 < (m : Int) + ((nm.length : Int) + 4 * (ps.length : Int) + 6)) := by omega
      have HST := Lib.hid hst1; have HMI := Lib.hid hMi; have HML := Lib.hid hMl; clear hst1 hx hmem hxk hmk hmg hm hM hMl hlk hm0 hMi hMb; go_wp2; go_roundw
      case rel => exact ⟨k + 1, M, hlt, by go_num, by rw [HMI.out], HST.out, HML.out, H.out.alloc _⟩
      case measure => first | (simp [intOf]; done) | (simp [intOf]; omega)
    · have g1 : 1000 < (m : Int) + ((nm.length : Int) + 4 * (ps.length : Int) + 6) := by omega
      have hz : r = 0 := by
       rw [← HR.out]; unfold few; rw [if_neg (by omega)]
      subst hz; have HMI := Lib.hid hMi; clear hst1 hx hmem hxk hmk hmg hm hM hMl hlk hm0 hMi hMb; go_wp2; go_ret; exact ⟨rfl, H.out.alloc _⟩
  · obtain rfl : k = l.length := by omega
    have hz : r = 1 := by
      rw [← HR.out]; unfold few; rw [List.take_of_length_le (by rw [List.length_map]; exact Nat.le_refl _)] at hm; rw [if_pos (by omega)]
    subst hz; go_wp2; go_ret; exact ⟨rfl, H.out⟩
theorem val_decode_okV (S : Bs) (hsl : S.length ≤ 1000000) (p e t s u st : Int) (tops : List TopS) (hv : valDec S = (⟨p, e, t, s, tops, u, st⟩, 0)) {W0 w : World} {K : Know} {L : List Res} (h : St W0 w K L) :
 Calls Try.prog 9 #[.string (bb S)] w fun en w' => ∃ (qt : Option Addr) (capt : Nat) (lr : List (TopS × Value)), en = .returned (.tuple #[.agg #[.int .i64 p, .int .i64 e, .int .i64 t, .int .i64 s, .slice qt lr.length capt, .int .i64 u, .int .i64 st], .int .i64 0]) ∧ lr.map (·.1) = tops ∧ St W0 w' (K.and (Know.tops (.slice qt lr.length capt) lr)) L := val_decode_ok S hsl ⟨p, e, t, s, tops, u, st⟩ hv h
def vz37 : Bs := ValS.enc ⟨0, 0, 0, 0, [], 0, -1⟩
theorem vz37_len : vz37.length = 37 := by kernel_rfl
theorem vz37_len2 : vz37.length ≤ 1000000 := by rw [vz37_len]; decide
theorem vz37_dec : valDec vz37 = (⟨0, 0, 0, 0, [], 0, -1⟩, 0) := by kernel_rfl
theorem few_nil : FewT [] := ⟨by decide, fun x hx => by cases hx⟩
set_option maxHeartbeats 4000000 in
set_option maxRecDepth 100000 in
theorem jr_get_some (jb mb n : Nat) (m : Int) (f : JF) (id S : Bs) (hf : f id = some S) (hl : id.length ≤ 1000000) (hs : S.length ≤ 1000000) (p e t s u st : Int) (tops : List TopS) (hv : valDec S = (⟨p, e, t, s, tops, u, st⟩, 0)) {W0 w : World} {K : Know} {L : List Res} (h : St W0 w K (.raw jb #[.map (some mb), .int .i64 m] 63 :: .gen (jmap mb n f) :: L)) :
  Calls Try.prog 21 #[.pointer (some ⟨jb, 0, none⟩), .string (bb id)] w fun en w' => ∃ (qt : Option Addr) (capt : Nat) (lr : List (TopS × Value)), en = .returned (.tuple #[.agg #[.int .i64 p, .int .i64 e, .int .i64 t, .int .i64 s, .slice qt lr.length capt, .int .i64 u, .int .i64 st], .bool true]) ∧ lr.map (·.1) = tops ∧ St W0 w' (K.and (Know.tops (.slice qt lr.length capt) lr)) (.raw jb #[.map (some mb), .int .i64 m] 63 :: .gen (jmap mb n f) :: L) := by
 obtain ⟨rb, hrb⟩ : ∃ b, w.heap.size = b := ⟨_, rfl⟩; have g1 := h.allocRaw #[.int .i64 0, .int .i64 0, .int .i64 0, .int .i64 0, .slice none 0 0, .int .i64 0, .int .i64 0] 37; rw [hrb] at g1; have c0 := (g1.p1).rawCell 0; have c1 := (g1.p1).rawCell 1; simp at c0 c1; have d0 := (g1).rawCell 0; have d1 := (g1).rawCell 1; have d2 := (g1).rawCell 2; have d3 := (g1).rawCell 3; have d4 := (g1).rawCell 4; have d5 := (g1).rawCell 5; have d6 := (g1).rawCell 6; simp at d0 d1 d2 d3 d4 d5 d6; have r0 := (g1).rawFree 0; have r1 := (g1).rawFree 1; have r2 := (g1).rawFree 2; have r3 := (g1).rawFree 3; have r4 := (g1).rawFree 4; have r5 := (g1).rawFree 5; have r6 := (g1).rawFree 6; have g2 := g1.p2; have H := Lib.hid g2; have HF := Lib.hid hf; have HV := Lib.hid hv; have HSL := Lib.hid hs; have HL := Lib.hid (show id.length ≤ 9223372036854775807 by omega); have hrun := jlook_some g2 61 mapT id S HL.out hf; clear h hf hl g1 g2 hv hs; go_enter Try.func21, Try.ntmps21; go_wp2_with (go_at_call 9; (try clear c0 c1 d0 r0 d1 r1 d2 r2 d3 r3 d4 r4 d5 r5 d6 r6); (with_reducible refine (val_decode_okV S HSL.out p e t s u st tops HV.out H.out).mono ?_); rintro e_ wn ⟨qt, capt, lr, rfl, hlr, h⟩; obtain ⟨vb, hvb⟩ : ∃ b, wn.heap.size = b := ⟨_, rfl⟩; have h := h.allocRaw #[.int .i64 p, .int .i64 e, .int .i64 t, .int .i64 s, .slice qt lr.length capt, .int .i64 u, .int .i64 st] 37; rw [hvb] at h; have c0 := (h).rawCell 0; have c1 := (h).rawCell 1; have c2 := (h).rawCell 2; have c3 := (h).rawCell 3; have c4 := (h).rawCell 4; have c5 := (h).rawCell 5; have c6 := (h).rawCell 6; simp at c0 c1 c2 c3 c4 c5 c6; have q0 := (h).rawFree 0; have q1 := (h).rawFree 1; have q2 := (h).rawFree 2; have q3 := (h).rawFree 3; have q4 := (h).rawFree 4; have q5 := (h).rawFree 5; have q6 := (h).rawFree 6; have d0 := (h.p2).rawCell 0; have d1 := (h.p2).rawCell 1; have d2 := (h.p2).rawCell 2; have d3 := (h.p2).rawCell 3; have d4 := (h.p2).rawCell 4; have d5 := (h.p2).rawCell 5; have d6 := (h.p2).rawCell 6; simp at d0 d1 d2 d3 d4 d5 d6; have r0 := (h.p2).rawFree 0; have r1 := (h.p2).rawFree 1; have r2 := (h.p2).rawFree 2; have r3 := (h.p2).rawFree 3; have r4 := (h.p2).rawFree 4; have r5 := (h.p2).rawFree 5; have r6 := (h.p2).rawFree 6; have HLR := Lib.hid hlr; clear hlr; replace H := Lib.hid h; clear h); have hz : St W0 _ _ (.raw rb #[.int .i64 p, .int .i64 e, .int .i64 t, .int .i64 s, .slice qt lr.length capt, .int .i64 u, .int .i64 st] 37 :: _) := St.sets7 _ _ _ _ _ _ _ (H.out.p2); refine bodyPost_ret (rc_cell_tmp rfl _ _ rb [.int .i64 p, .int .i64 e, .int .i64 t, .int .i64 s, .slice qt lr.length capt, .int .i64 u, .int .i64 st] _ rfl (rc_range hz) Try.underlying37 rfl (by kernel_rfl)) rfl ?_; exact ⟨qt, capt, lr, rfl, HLR.out, hz.drop.drop.p1⟩

theorem jr_right (u : Bool) (d : Bs) (r : Bool) (hr : (⟨u, d⟩ : BlobS).right = r) {W0 w : World} {K : Know} {L : List Res} (h : St W0 w K L) :
 Calls Try.prog 54 #[.agg #[.bool u, .string (bb d)]] w fun en w' => en = .returned (.bool r) ∧ St W0 w' K L := hr ▸ blob_right ⟨u, d⟩ h
set_option maxHeartbeats 4000000 in
set_option maxRecDepth 100000 in
theorem jr_learn_drop (jb mb n : Nat) (m : Int) (f : JF) (id : Bs) (hl : id.length ≤ 1000000) {W0 w : World} {K : Know} {L : List Res} (h : St W0 w K (.raw jb #[.map (some mb), .int .i64 m] 63 :: .gen (jmap mb n f) :: L)) :
  Calls Try.prog 31 #[.pointer (some ⟨jb, 0, none⟩), .string (bb id), .agg #[.bool true, .string (bb [])]] w fun en w' => en = .returned (.int .i64 0) ∧ St W0 w' K (.raw jb #[.map (some mb), .int .i64 m] 63 :: .gen (jmap mb n (jset f id none)) :: L) := by
 obtain ⟨xb, hxb⟩ : ∃ b, w.heap.size = b := ⟨_, rfl⟩; have g1 := h.allocRaw #[.bool true, .string (bb [])] 28; rw [hxb] at g1; have x0 := (g1).rawCell 0; have x1 := (g1).rawCell 1; simp at x0 x1; have c0 := (g1.p1).rawCell 0; have c1 := (g1.p1).rawCell 1; simp at c0 c1; have g2 := g1.p2; have H := Lib.hid g2; have HL := Lib.hid (show id.length ≤ 9223372036854775807 by omega); clear h hl g1 g2; go_enter Try.func31, Try.ntmps31
 go_wp2_with (first
  | (go_at_call 54; (try clear x0 x1 c0 c1); (with_reducible refine (jr_right true [] _ (show (⟨true, []⟩ : BlobS).right = true from rfl) H.out).mono ?_); rintro e_ wn ⟨rfl, h⟩; have x0 := (h.p1).rawCell 0; have x1 := (h.p1).rawCell 1; simp at x0 x1; have c0 := (h.p2).rawCell 0; have c1 := (h.p2).rawCell 1; simp at c0 c1; obtain ⟨w9, hrun, h9⟩ := jdrop_run h 61 0 mapT id HL.out; have h := h9; clear h9; replace H := Lib.hid h; clear h))
 go_ret; exact ⟨rfl, H.out.p1.drop.p1⟩
set_option maxHeartbeats 4000000 in
set_option maxRecDepth 100000 in
theorem jr_learn_put (jb mb n : Nat) (m : Int) (f : JF) (id d : Bs) (p e t s u st : Int) (tops : List TopS) (hv : valDec d = (⟨p, e, t, s, tops, u, st⟩, 0)) (hl : id.length ≤ 1000000) (hd : d.length ≤ 1000000) (hn : n < 1000000) {W0 w : World} {K : Know} {L : List Res} (h : St W0 w K (.raw jb #[.map (some mb), .int .i64 m] 63 :: .gen (jmap mb n f) :: L)) :
  Calls Try.prog 31 #[.pointer (some ⟨jb, 0, none⟩), .string (bb id), .agg #[.bool false, .string (bb d)]] w fun en w' => en = .returned (.int .i64 0) ∧ St W0 w' K (.raw jb #[.map (some mb), .int .i64 m] 63 :: .gen (jmap mb (n + 1) (jset f id (some d))) :: L) := by
 obtain ⟨xb, hxb⟩ : ∃ b, w.heap.size = b := ⟨_, rfl⟩; have g1 := h.allocRaw #[.bool false, .string (bb d)] 28; rw [hxb] at g1; have x0 := (g1).rawCell 0; have x1 := (g1).rawCell 1; simp at x0 x1; have c0 := (g1.p1).rawCell 0; have c1 := (g1.p1).rawCell 1; simp at c0 c1; have g2 := g1.p2; have H := Lib.hid g2; have HL := Lib.hid (show id.length ≤ 9223372036854775807 by omega); have HV := Lib.hid hv; have HSL := Lib.hid hd; have HD := Lib.hid (show d.length ≤ 9223372036854775807 by omega); have HN := Lib.hid hn; clear h hl g1 g2 hv hd hn; go_enter Try.func31, Try.ntmps31
 go_upto_region 9 with (first
  | (go_at_call 54; (try clear x0 x1 c0 c1); (with_reducible refine (jr_right false d _ (show (⟨false, d⟩ : BlobS).right = true from rfl) H.out).mono ?_); rintro e_ wn ⟨rfl, h⟩; have x0 := (h.p1).rawCell 0; have x1 := (h.p1).rawCell 1; simp at x0 x1; have c0 := (h.p2).rawCell 0; have c1 := (h.p2).rawCell 1; simp at c0 c1; replace H := Lib.hid h; clear h)
  | (go_at_call 9; (try clear x0 x1 c0 c1); (with_reducible refine (val_decode_okV d HSL.out p e t s u st tops HV.out H.out).mono ?_); rintro e_ wn ⟨qt, capt, lr, rfl, hlr, h⟩; have h := h.know (Know.has_left (Know.has_refl _)); have h := h.alloc (.cells #[.int .i64 p, .int .i64 e, .int .i64 t, .int .i64 s, .slice qt lr.length capt, .int .i64 u, .int .i64 st] 37 (0, 0)); have x0 := (h.p1).rawCell 0; have x1 := (h.p1).rawCell 1; simp at x0 x1; have c0 := (h.p2).rawCell 0; have c1 := (h.p2).rawCell 1; simp at c0 c1; replace H := Lib.hid h; clear h))
 obtain ⟨w2, hrun, h2⟩ := jstore_run H.out.drew HN.out 61 mapT id d HL.out HD.out; have H2 := Lib.hid h2; clear h2
 go_region
 go_wp2; go_ret; exact ⟨rfl, H2.out.p1.drop.p1⟩
set_option maxHeartbeats 1000000 in
set_option maxRecDepth 100000 in
theorem key_right (s : Bs) (hs : s.length ≤ 140737488355328) {W0 w : World} {K : Know} {L : List Res} (h : St W0 w K L) :
  Calls Try.prog 36 #[.string (bb s)] w fun en w' => en = .returned (.bool (keyRight s)) ∧ St W0 w' K L := by
 have H := Lib.hid h; clear h
 cases s with
 | nil =>
  go_enter Try.func36, Try.ntmps36; go_wp2; go_ret; exact ⟨rfl, H.out⟩
 | cons c t =>
  have HS := Lib.hid hs; clear hs; go_enter Try.func36, Try.ntmps36; go_wp2; go_ret; refine ⟨ret_bool ?_, H.out⟩; unfold keyRight; rw [Bool.eq_iff_iff]
  simp
  omega

set_option maxHeartbeats 1000000 in
set_option maxRecDepth 100000 in
theorem key_encode (s : Bs) (hs : s.length ≤ 40000) {W0 w : World} {K : Know} {L : List Res} (h : St W0 w K L) :
   Calls Try.prog 18 #[.string (bb s)] w fun en w' => en = .returned (.tuple #[.string (bb (keyEnc s).1), .int .i64 (keyEnc s).2]) ∧ St W0 w' K L := by
 have H := Lib.hid h; have HS := Lib.hid (show s.length ≤ 140737488355328 by omega); have HS2 := Lib.hid hs; clear h hs
 cases hr : keyRight s
 · have e : keyEnc s = ([], 4) := by unfold keyEnc; rw [hr]; rfl
   rw [e]; have ER := Lib.hid hr; clear e hr; go_enter Try.func18, Try.ntmps18; go_wp2_with (go_at_call 36; refine (key_right s HS.out stQ).mono ?_; (repeat first | rw [ER.out]); rintro e wn ⟨rfl, h⟩; replace H := Lib.hid h; clear h); go_ret2; exact ⟨rfl, H.out⟩
 · have e : keyEnc s = (keyBytes s, 0) := by unfold keyEnc; rw [hr]; rfl
   rw [e]; have hle : s.length ≤ 32767 := by unfold keyRight at hr; simp at hr; exact hr.2
   have ER := Lib.hid hr; have E1 := Lib.hid (show (⟨[], 0⟩ : OutS).int 0 2 = ⟨beBytes 0 2, 0⟩ from by decide +kernel)
   have E2 := Lib.hid (show (⟨beBytes 0 2, 0⟩ : OutS).putText s = ⟨keyBytes s, 0⟩ from by
    unfold OutS.putText OutS.putFixed OutS.int OutS.putData; rw [if_pos (fits_len2 s hle)]
    show (((⟨beBytes 0 2, 0⟩ : OutS).put _).put s) = _
    rw [OutS.put_put]; unfold keyBytes; rw [List.append_assoc]
    rfl)
   have E3 := Lib.hid (show (⟨keyBytes s, 0⟩ : OutS).text = (keyBytes s, 0) from rfl); clear e hr hle; go_enter Try.func18, Try.ntmps18
   go_wp2_with (first
    | (go_at_call 36; refine (key_right s HS.out stQ).mono ?_; (repeat first | rw [ER.out]); rintro e wn ⟨rfl, h⟩; replace H := Lib.hid h; clear h; replace H := Lib.hid H.out.allocOut)
    | (go_at_call 37; refine (so_int _ _ 0 2 (by decide) stQ (by simp [OutS.ok])).mono ?_; (repeat first | rw [E1.out]); rintro e wn ⟨rfl, h⟩; replace H := Lib.hid h; clear h)
    | (go_at_call 38; refine (blob_putText _ _ s stQ (by have := HS2.out; simp only [OutS.ok, beBytes_length]; omega)).mono ?_; (repeat first | rw [E2.out]); rintro e wn ⟨rfl, h⟩; replace H := Lib.hid h; clear h)
    | (go_at_call 39; refine (so_text _ _ stQ).mono ?_; (repeat first | rw [E3.out]); rintro e wn ⟨rfl, h⟩; replace H := Lib.hid h; clear h))
   go_ret2; exact ⟨rfl, H.out.drop⟩

theorem keyDec_tuple (s : Bs) : Value.tuple #[.string (bb (keyDec s).1), .int .i64 (keyDec s).2] = if (keyJ s).close.err = 0 then .tuple #[.string (bb (keyI s).text.1), .int .i64 0] else .tuple #[.string (bb []), .int .i64 (keyJ s).close.err] := by
 unfold keyDec; split <;> rfl
set_option maxHeartbeats 1000000 in
set_option maxRecDepth 100000 in
theorem key_decode (s : Bs) (hs : s.length ≤ 40100) {W0 w : World} {K : Know} {L : List Res} (h : St W0 w K L) :
  Calls Try.prog 7 #[.string (bb s)] w fun en w' => en = .returned (.tuple #[.string (bb (keyDec s).1), .int .i64 (keyDec s).2]) ∧ St W0 w' K L := by
 have H := Lib.hid h; have HS := Lib.hid (show s.length ≤ 140737488355328 by omega); clear h hs; rw [keyDec_tuple]; obtain ⟨a, ha⟩ : ∃ a, keyA s = a := ⟨_, rfl⟩; have hI : keyI s = if a.1 = 0 then a.2 else a.2.fail 7 := by unfold keyI; rw [ha]
 obtain ⟨i, hi⟩ : ∃ i, keyI s = i := ⟨_, rfl⟩; rw [hi] at hI; obtain ⟨t, ht⟩ : ∃ t, i.text = t := ⟨_, rfl⟩; have hJ : keyJ s = if t.1 = [] then t.2.fail 4 else t.2 := by unfold keyJ; rw [hi, ht]
 obtain ⟨j, hj⟩ : ∃ j, keyJ s = j := ⟨_, rfl⟩; rw [hj] at hJ; obtain ⟨c, hc⟩ : ∃ c, j.close = c := ⟨_, rfl⟩; rw [hj, hc, hi, ht]; have EA := Lib.hid (show (⟨s, 0, 0⟩ : InS).int 2 = a from ha); have ET := Lib.hid ht; have EC := Lib.hid hc; clear ha hi ht hj hc
 by_cases h1 : a.1 = 0 <;> by_cases h2 : t.1 = [] <;> by_cases h3 : c.err = 0
 all_goals
  first | rw [if_pos h1] at hI | rw [if_neg h1] at hI
  first | rw [if_pos h2] at hJ | rw [if_neg h2] at hJ
  first | rw [if_pos h3] | rw [if_neg h3]
  have b1 : (a.1 != 0) = decide (a.1 ≠ 0) := by by_cases h : a.1 = 0 <;> simp [h]
  have b2 : t.1.isEmpty = decide (t.1 = []) := by cases t.1 <;> simp
  have b3 : (c.err != 0) = decide (c.err ≠ 0) := by by_cases h : c.err = 0 <;> simp [h]
  first | rw [decide_eq_true h1] at b1 | rw [decide_eq_false (not_not_intro h1)] at b1
  first | rw [decide_eq_true h2] at b2 | rw [decide_eq_false h2] at b2
  first | rw [decide_eq_true h3] at b3 | rw [decide_eq_false (not_not_intro h3)] at b3
  have EI := Lib.hid hI.symm; have EJ := Lib.hid hJ.symm; clear h1 h2 h3 hI hJ; go_enter Try.func7, Try.ntmps7
  go_wp2_with (first
   | (go_at_call 24; refine (s_new s HS.out stQ).mono ?_; rintro e wn ⟨bi, rfl, h⟩; replace H := Lib.hid h; clear h)
   | (go_at_call 25; refine (s_int _ _ 2 stQ).mono ?_; (repeat first | rw [EA.out]); rintro e wn ⟨rfl, h⟩; replace H := Lib.hid h; clear h; (try rw [EI.out] at H))
   | (go_at_call 26; refine (s_fail _ _ _ stQ).mono ?_; (repeat first | rw [EI.out] | rw [EJ.out]); rintro e wn ⟨rfl, h⟩; replace H := Lib.hid h; clear h)
   | (go_at_call 27; refine (blob_text _ _ stQ).mono ?_; (repeat first | rw [ET.out]); rintro e wn ⟨rfl, h⟩; replace H := Lib.hid h; clear h; (try rw [EJ.out] at H))
   | (go_at_call 28; refine (s_close _ _ stQ).mono ?_; (repeat first | rw [EC.out]); rintro e wn ⟨rfl, h⟩; replace H := Lib.hid h; clear h))
  go_ret2; exact ⟨rfl, H.out.drop⟩
theorem key_encode' (s x : Bs) (e : Int) (hs : s.length ≤ 40000) (hx : keyEnc s = (x, e)) {W0 w : World} {K : Know} {L : List Res} (h : St W0 w K L) :
  Calls Try.prog 18 #[.string (bb s)] w fun en w' => en = .returned (.tuple #[.string (bb x), .int .i64 e]) ∧ St W0 w' K L := by
 have := key_encode s hs h; rw [hx] at this; exact this
theorem key_decode' (s x : Bs) (e : Int) (hs : s.length ≤ 40100) (hx : keyRd s = (x, e)) {W0 w : World} {K : Know} {L : List Res} (h : St W0 w K L) :
  Calls Try.prog 7 #[.string (bb s)] w fun en w' => en = .returned (.tuple #[.string (bb x), .int .i64 e]) ∧ St W0 w' K L := by
 have := key_decode s hs h; rw [keyDec_eq, hx] at this; exact this
set_option maxHeartbeats 4000000 in
set_option maxRecDepth 100000 in
theorem jr_apply_drop (jb mb n : Nat) (m : Int) (f : JF) (key id : Bs) (hky : keyRd key = (id, 0)) (hk1 : key.length ≤ 40100) (hid : id.length ≤ 1000000) (hm : 0 ≤ m) (hm2 : m ≤ 1000000) {W0 w : World} {K : Know} {L : List Res} (h : St W0 w K (.raw jb #[.map (some mb), .int .i64 m] 63 :: .gen (jmap mb n f) :: L)) :
  Calls Try.prog 11 #[.pointer (some ⟨jb, 0, none⟩), .agg #[.string (bb key), .bool true, .string (bb [])]] w fun en w' => en = .returned (.int .i64 0) ∧ St W0 w' K (.raw jb #[.map (some mb), .int .i64 (m + 1)] 63 :: .gen (jmap mb n (jset f id none)) :: L) := by
 obtain ⟨xb, hxb⟩ : ∃ b, w.heap.size = b := ⟨_, rfl⟩; have g1 := h.allocRaw #[.string (bb key), .bool true, .string (bb [])] 30; rw [hxb] at g1; have x0 := (g1).rawCell 0; have x1 := (g1).rawCell 1; have x2 := (g1).rawCell 2; simp at x0 x1 x2; have g2 := g1.p1.p2.p1; have H := Lib.hid g2; have HKL := Lib.hid (show key.length ≤ 40100 by omega); have HKY := Lib.hid hky; have HI := Lib.hid (show id.length ≤ 1000000 by omega); clear h g1 g2 hky hk1 hid; go_enter Try.func11, Try.ntmps11
 go_wp2_with (first
  | (go_at_call 7; (try clear x0 x1 x2); (try clear c1 r1); (with_reducible refine (key_decode' key id 0 HKL.out HKY.out H.out).mono ?_); rintro e_ wn ⟨rfl, h⟩; have xx := h.p2; have x0 := (xx).rawCell 0; have x1 := (xx).rawCell 1; have x2 := (xx).rawCell 2; simp at x0 x1 x2; clear xx; replace H := Lib.hid h; clear h)
  | (go_at_call 31; (try clear x0 x1 x2); (try clear c1 r1); (with_reducible refine (jr_learn_drop jb mb n m f id HI.out H.out).mono ?_); rintro e_ wn ⟨rfl, h⟩; have xx := h.p2; have x0 := (xx).rawCell 0; have x1 := (xx).rawCell 1; have x2 := (xx).rawCell 2; simp at x0 x1 x2; clear xx; have c1 := h.rawCell 1; simp at c1; have r1 := h.rawFree 1; replace H := Lib.hid h; clear h))
 go_ret; exact ⟨rfl, (H.out.rawSet 1 (.int .i64 (m + 1))).p2.drop⟩
set_option maxHeartbeats 4000000 in
set_option maxRecDepth 100000 in
theorem jr_apply_put (jb mb n : Nat) (m : Int) (f : JF) (key id d : Bs) (p e t s u st : Int) (tops : List TopS) (hky : keyRd key = (id, 0)) (hv : valDec d = (⟨p, e, t, s, tops, u, st⟩, 0)) (hk1 : key.length ≤ 40100) (hid : id.length ≤ 1000000) (hd : d.length ≤ 1000000) (hn : n < 1000000) (hm : 0 ≤ m) (hm2 : m ≤ 1000000) {W0 w : World} {K : Know} {L : List Res} (h : St W0 w K (.raw jb #[.map (some mb), .int .i64 m] 63 :: .gen (jmap mb n f) :: L)) :
  Calls Try.prog 11 #[.pointer (some ⟨jb, 0, none⟩), .agg #[.string (bb key), .bool false, .string (bb d)]] w fun en w' => en = .returned (.int .i64 0) ∧ St W0 w' K (.raw jb #[.map (some mb), .int .i64 (m + 1)] 63 :: .gen (jmap mb (n + 1) (jset f id (some d))) :: L) := by
 obtain ⟨xb, hxb⟩ : ∃ b, w.heap.size = b := ⟨_, rfl⟩; have g1 := h.allocRaw #[.string (bb key), .bool false, .string (bb d)] 30; rw [hxb] at g1; have x0 := (g1).rawCell 0; have x1 := (g1).rawCell 1; have x2 := (g1).rawCell 2; simp at x0 x1 x2; have g2 := g1.p1.p2.p1; have H := Lib.hid g2; have HKL := Lib.hid (show key.length ≤ 40100 by omega); have HKY := Lib.hid hky; have HI := Lib.hid (show id.length ≤ 1000000 by omega); have HD := Lib.hid (show d.length ≤ 1000000 by omega); have HV := Lib.hid hv; have HN := Lib.hid hn; clear h g1 g2 hky hk1 hid hd hv hn; go_enter Try.func11, Try.ntmps11
 go_wp2_with (first
  | (go_at_call 7; (try clear x0 x1 x2); (try clear c1 r1); (with_reducible refine (key_decode' key id 0 HKL.out HKY.out H.out).mono ?_); rintro e_ wn ⟨rfl, h⟩; have xx := h.p2; have x0 := (xx).rawCell 0; have x1 := (xx).rawCell 1; have x2 := (xx).rawCell 2; simp at x0 x1 x2; clear xx; replace H := Lib.hid h; clear h)
  | (go_at_call 31; (try clear x0 x1 x2); (try clear c1 r1); (with_reducible refine (jr_learn_put jb mb n m f id d p e t s u st tops HV.out HI.out HD.out HN.out H.out).mono ?_); rintro e_ wn ⟨rfl, h⟩; have xx := h.p2; have x0 := (xx).rawCell 0; have x1 := (xx).rawCell 1; have x2 := (xx).rawCell 2; simp at x0 x1 x2; clear xx; have c1 := h.rawCell 1; simp at c1; have r1 := h.rawFree 1; replace H := Lib.hid h; clear h))
 go_ret; exact ⟨rfl, (H.out.rawSet 1 (.int .i64 (m + 1))).p2.drop⟩
theorem sInt_back (n : Int) (k : Nat) (h1 : 1 ≤ k) (hf : fits n k) (R : Bs) : getIntN k (beBytes n k ++ R) = .ok (n, k) := by
 unfold getIntN; have h4 := beBytes_length n k; have hfit := hf.2.2; rw [Int.toNat_natCast] at hfit; have h5 := (sInt_beBytes_iff n k h1).2 hfit; rw [if_neg zq9, List.take_append_of_le_length (by omega), List.take_of_length_le (by omega), h5]
theorem cntP_back (each n : Nat) (X : Bs) (he : 0 < each) (hn : n < 2147483648) (hl : each * n ≤ X.length) : cntP each (beBytes n 4 ++ X) = .ok (n, 4) := by
 have h4 := beBytes_length (n : Int) 4; have h5 : sInt (beBytes (n : Int) 4) = n := (sInt_beBytes_iff n 4 (by decide)).2 (vfits4 n (by omega)).2.2; have h6 : (beBytes (n : Int) 4 ++ X).take 4 = beBytes (n : Int) 4 := by rw [List.take_append_of_le_length (by omega), List.take_of_length_le (by omega)]
 unfold cntP
 rw [h6, h5, if_neg zq9, if_neg (by omega), if_neg (by
  rw [List.length_append, h4]; have e : ((4 + X.length : Nat) : Int) - 4 = (X.length : Int) := by omega
  rw [e]
  have h7 : (n : Int) ≤ (X.length : Int) / (each : Int) := by
   rw [Int.le_ediv_iff_mul_le (by omega)]; have h8 : (n : Int) * (each : Int) = ((each * n : Nat) : Int) := by rw [Nat.mul_comm]; exact (Int.natCast_mul _ _).symm
   omega
  omega)]
 simp
theorem intsB_back : ∀ (l : List Int) (R : Bs), (∀ n ∈ l, -2147483648 ≤ n ∧ n < 2147483648) → intsB l.length (be4s l ++ R) = l
  | [], R, _ => rfl
  | n :: l, R, h => by
    have h4 := beBytes_length n 4; have h5 : sInt (beBytes n 4) = n := (sInt_beBytes_iff n 4 (by decide)).2 (vfits4 n (h n (by simp))).2.2
    have e : be4s (n :: l) ++ R = beBytes n 4 ++ (be4s l ++ R) := by
      show (List.flatMap _ (n :: l)) ++ R = _
      rw [List.flatMap_cons, List.append_assoc]
      rfl
    show sInt ((be4s (n :: l) ++ R).take 4) :: intsB l.length ((be4s (n :: l) ++ R).drop 4) = n :: l
    rw [e, List.take_append_of_le_length (by omega), List.take_of_length_le (by omega), h5, List.drop_append_of_le_length (by omega), List.drop_of_length_le (by omega), List.nil_append, intsB_back l R (fun m hm => h m (by simp [hm]))]
theorem partsP_back (l : List Int) (hn : l.length ≤ 1000000) (h : ∀ n ∈ l, -2147483648 ≤ n ∧ n < 2147483648) (R : Bs) : partsP (beBytes l.length 4 ++ be4s l ++ R) = .ok (l, (beBytes l.length 4 ++ be4s l).length) := by
 unfold partsP; rw [List.append_assoc, cntP_back 4 l.length _ (by decide) (by omega) (by rw [List.length_append, be4s_len]; omega)]; simp only; have h4 := beBytes_length (l.length : Int) 4; rw [List.drop_append_of_le_length (by omega), List.drop_of_length_le (by omega), List.nil_append, intsB_back l R h, List.length_append, h4, be4s_len]
theorem textP_back (d : Bs) (hd : d.length ≤ 32767) (R : Bs) : textP (encF 2 ⟨false, d⟩ ++ R) = .ok (d, (encF 2 ⟨false, d⟩).length) := by
 unfold textP; rw [refixed_back 2 ⟨false, d⟩ (by simp [BlobS.right]) (vfits2 _ (by simp [BlobS.len]; omega)) R]
 simp
theorem topP_back (t : TopS) (h : t.Fit) (R : Bs) : topP (encT t ++ R) = .ok (t, (encT t).length) := by
 obtain ⟨nm, ps⟩ := t; obtain ⟨h1, h2, h3⟩ := h; unfold topP encT; simp only; rw [List.append_assoc, textP_back nm h1]; simp only; rw [List.drop_append_of_le_length (by omega), List.drop_of_length_le (by omega), List.nil_append, partsP_back ps h2 h3]; simp only [List.length_append]
theorem topN_back : ∀ (l : List TopS) (R : Bs), (∀ t ∈ l, t.Fit) → topN l.length (l.flatMap encT ++ R) = .ok (l, (l.flatMap encT).length)
  | [], R, _ => rfl
  | t :: l, R, h => by
    have e : (t :: l).flatMap encT ++ R = encT t ++ (l.flatMap encT ++ R) := by rw [List.flatMap_cons, List.append_assoc]
    rw [e]
    show topN (l.length + 1) (encT t ++ (l.flatMap encT ++ R)) = _
    unfold topN; rw [topP_back t (h t (by simp))]; simp only; rw [List.drop_append_of_le_length (by omega), List.drop_of_length_le (by omega), List.nil_append, topN_back l R (fun m hm => h m (by simp [hm]))]; simp only [List.flatMap_cons, List.length_append]
theorem flat_least (l : List TopS) : 6 * l.length ≤ (l.flatMap encT).length := by
 induction l with
 | nil => simp
 | cons x m ih => rw [List.flatMap_cons, List.length_append, List.length_cons, encT_len]; omega
theorem topsP_back (l : List TopS) (h : FitTs l) (R : Bs) : topsP (encTs l ++ R) = .ok (l, (encTs l).length) := by
 have h4 := beBytes_length (l.length : Int) 4; have hn := h.1; have hl := flat_least l; unfold topsP encTs; rw [List.append_assoc, cntP_back 6 l.length _ (by decide) (by omega) zq9]; simp only; rw [List.drop_append_of_le_length (by omega), List.drop_of_length_le (by omega), List.nil_append, topN_back l R h.2]; simp only [List.length_append, h4]
theorem step_back {α : Type} {f : InS → α × InS} {p : Bs → Except Int (α × Nat)} {d : α} (h : Rds f p d) (S A X R : Bs) (hS : S = A ++ X ++ R) (a : α) (k : Nat) (hk : X.length = k) (hp : p (X ++ R) = .ok (a, k)) : f ⟨S, A.length, 0⟩ = (a, ⟨S, (A ++ X).length, 0⟩) := by
 subst hS; have h2 := (h.ok (A ++ X ++ R) A.length a k (by simp) (by rw [List.append_assoc, List.drop_append_of_le_length (by omega), List.drop_of_length_le (by omega), List.nil_append]; exact hp)).2; rw [h2, List.length_append, hk]
theorem int_stepV (S A R : Bs) (n : Int) (k : Nat) (h1 : 1 ≤ k) (h8 : k ≤ 8) (hf : fits n k) (hS : S = A ++ beBytes n k ++ R) : (⟨S, A.length, 0⟩ : InS).int k = (n, ⟨S, (A ++ beBytes n k).length, 0⟩) :=
 step_back (rds_intN k h1 h8) S A _ R hS n k (beBytes_length n k) (sInt_back n k h1 hf R)
theorem valDec_back (v : ValS) (he : v.err = 0) (hR : v.R) (hf : FitTs v.tops) : valDec v.enc = (v, 0) := by
 obtain ⟨hp, ⟨hs1, hs2⟩, _⟩ := v.ok_parts he; obtain ⟨q1, ⟨q2, q3⟩, ⟨q4, q5⟩, q6, q7⟩ := ranged_parts v hp; obtain ⟨r1, r2, r3, r4, r5, r6⟩ := hR; obtain ⟨S, hS⟩ : ∃ S, v.enc = S := ⟨_, rfl⟩; obtain ⟨X0, hX0⟩ : ∃ X, beBytes 0 2 = X := ⟨_, rfl⟩; obtain ⟨X1, hX1⟩ : ∃ X, beBytes v.prod 8 = X := ⟨_, rfl⟩; obtain ⟨X2, hX2⟩ : ∃ X, beBytes v.epoch 2 = X := ⟨_, rfl⟩; obtain ⟨X3, hX3⟩ : ∃ X, beBytes v.timeout 4 = X := ⟨_, rfl⟩; obtain ⟨X4, hX4⟩ : ∃ X, beBytes v.state 1 = X := ⟨_, rfl⟩; obtain ⟨X5, hX5⟩ : ∃ X, encTs v.tops = X := ⟨_, rfl⟩; obtain ⟨X6, hX6⟩ : ∃ X, beBytes v.upd 8 = X := ⟨_, rfl⟩; obtain ⟨X7, hX7⟩ : ∃ X, beBytes v.started 8 = X := ⟨_, rfl⟩; obtain ⟨A2, hA2⟩ : ∃ A, X0 ++ X1 = A := ⟨_, rfl⟩; obtain ⟨A3, hA3⟩ : ∃ A, A2 ++ X2 = A := ⟨_, rfl⟩; obtain ⟨A4, hA4⟩ : ∃ A, A3 ++ X3 = A := ⟨_, rfl⟩; obtain ⟨A5, hA5⟩ : ∃ A, A4 ++ X4 = A := ⟨_, rfl⟩; obtain ⟨A6, hA6⟩ : ∃ A, A5 ++ X5 = A := ⟨_, rfl⟩; obtain ⟨A7, hA7⟩ : ∃ A, A6 ++ X6 = A := ⟨_, rfl⟩; obtain ⟨A8, hA8⟩ : ∃ A, A7 ++ X7 = A := ⟨_, rfl⟩; have hSA : S = A8 := by rw [← hS, ← hA8, ← hA7, ← hA6, ← hA5, ← hA4, ← hA3, ← hA2, ← hX0, ← hX1, ← hX2, ← hX3, ← hX4, ← hX5, ← hX6, ← hX7]; rfl
 have e0 : S = ([] : Bs) ++ X0 ++ (X1 ++ (X2 ++ (X3 ++ (X4 ++ (X5 ++ (X6 ++ (X7))))))) := by rw [hSA, ← hA8, ← hA7, ← hA6, ← hA5, ← hA4, ← hA3, ← hA2]; all_goals simp only [List.append_assoc, List.append_nil, List.nil_append]
 have s0 : (⟨S, ([] : Bs).length, 0⟩ : InS).int 2 = (0, ⟨S, (([] : Bs) ++ X0).length, 0⟩) := by
  rw [← hX0] at e0 ⊢; exact int_stepV S _ _ _ 2 (by decide) (by decide) (vfits2 _ (by omega)) e0
 have e1 : S = X0 ++ X1 ++ (X2 ++ (X3 ++ (X4 ++ (X5 ++ (X6 ++ (X7)))))) := by rw [hSA, ← hA8, ← hA7, ← hA6, ← hA5, ← hA4, ← hA3, ← hA2]; all_goals simp only [List.append_assoc, List.append_nil, List.nil_append]
 have s1 : (⟨S, X0.length, 0⟩ : InS).int 8 = (v.prod, ⟨S, (X0 ++ X1).length, 0⟩) := by
  rw [← hX1] at e1 ⊢; exact int_stepV S _ _ _ 8 (by decide) (by decide) (vfits8 _ (by omega)) e1
 rw [hA2] at s1; have e2 : S = A2 ++ X2 ++ (X3 ++ (X4 ++ (X5 ++ (X6 ++ (X7))))) := by rw [hSA, ← hA8, ← hA7, ← hA6, ← hA5, ← hA4, ← hA3, ← hA2]; all_goals simp only [List.append_assoc, List.append_nil, List.nil_append]
 have s2 : (⟨S, A2.length, 0⟩ : InS).int 2 = (v.epoch, ⟨S, (A2 ++ X2).length, 0⟩) := by
  rw [← hX2] at e2 ⊢; exact int_stepV S _ _ _ 2 (by decide) (by decide) (vfits2 _ (by omega)) e2
 rw [hA3] at s2; have e3 : S = A3 ++ X3 ++ (X4 ++ (X5 ++ (X6 ++ (X7)))) := by rw [hSA, ← hA8, ← hA7, ← hA6, ← hA5, ← hA4, ← hA3, ← hA2]; all_goals simp only [List.append_assoc, List.append_nil, List.nil_append]
 have s3 : (⟨S, A3.length, 0⟩ : InS).int 4 = (v.timeout, ⟨S, (A3 ++ X3).length, 0⟩) := by
  rw [← hX3] at e3 ⊢; exact int_stepV S _ _ _ 4 (by decide) (by decide) (vfits4 _ (by omega)) e3
 rw [hA4] at s3; have e4 : S = A4 ++ X4 ++ (X5 ++ (X6 ++ (X7))) := by rw [hSA, ← hA8, ← hA7, ← hA6, ← hA5, ← hA4, ← hA3, ← hA2]; all_goals simp only [List.append_assoc, List.append_nil, List.nil_append]
 have s4 : (⟨S, A4.length, 0⟩ : InS).int 1 = (v.state, ⟨S, (A4 ++ X4).length, 0⟩) := by
  rw [← hX4] at e4 ⊢; exact int_stepV S _ _ _ 1 (by decide) (by decide) (vfits1 _ (by omega)) e4
 rw [hA5] at s4; have e5 : S = A5 ++ X5 ++ (X6 ++ (X7)) := by rw [hSA, ← hA8, ← hA7, ← hA6, ← hA5, ← hA4, ← hA3, ← hA2]; all_goals simp only [List.append_assoc, List.append_nil, List.nil_append]
 have s5 : (⟨S, A5.length, 0⟩ : InS).tops = (v.tops, ⟨S, (A5 ++ X5).length, 0⟩) := by
  rw [← hX5] at e5 ⊢; exact step_back rds_tops S _ _ _ e5 _ _ rfl (topsP_back _ hf _)
 rw [hA6] at s5; have e6 : S = A6 ++ X6 ++ (X7) := by rw [hSA, ← hA8, ← hA7, ← hA6, ← hA5, ← hA4, ← hA3, ← hA2]; all_goals simp only [List.append_assoc, List.append_nil, List.nil_append]
 have s6 : (⟨S, A6.length, 0⟩ : InS).int 8 = (v.upd, ⟨S, (A6 ++ X6).length, 0⟩) := by
  rw [← hX6] at e6 ⊢; exact int_stepV S _ _ _ 8 (by decide) (by decide) (vfits8 _ (by omega)) e6
 rw [hA7] at s6; have e7 : S = A7 ++ X7 ++ ([]) := by rw [hSA, ← hA8, ← hA7, ← hA6, ← hA5, ← hA4, ← hA3, ← hA2]; all_goals simp only [List.append_assoc, List.append_nil, List.nil_append]
 have s7 : (⟨S, A7.length, 0⟩ : InS).int 8 = (v.started, ⟨S, (A7 ++ X7).length, 0⟩) := by
  rw [← hX7] at e7 ⊢; exact int_stepV S _ _ _ 8 (by decide) (by decide) (vfits8 _ (by omega)) e7
 rw [hA8] at s7; rw [List.nil_append] at s0; have s0 : (⟨S, 0, 0⟩ : InS).int 2 = (0, ⟨S, X0.length, 0⟩) := s0; have hI : decI S = ⟨S, X0.length, 0⟩ := by unfold decI; rw [s0]; rfl
 have hV := valF_eq s1 s2 s3 s4 s5 s6 s7
 have hL : (⟨S, A8.length, 0⟩ : InS).left = 0 := by
  subst hSA; exact Nat.sub_self _
 have hC : (⟨S, A8.length, 0⟩ : InS).close = ⟨S, A8.length, 0⟩ := by unfold InS.close; rw [hL]; rfl
 have hE : decE S = 0 := by unfold decE; rw [hI, hV, hC]
 rw [hS]; unfold valDec; rw [hE, hI, hV]
 show (if (v.err ≠ 0) then _ else _) = _
 rw [he]
 rfl
theorem tmap_take_succ (l : List (TopS × Value)) (k : Nat) (h : k < l.length) (x : TopS) (hx : l[k].1 = x) : (l.map (·.1)).take (k + 1) = (l.map (·.1)).take k ++ [x] := by
 have h2 : k < (l.map (·.1)).length := by simpa using h
 rw [List.take_succ_eq_append_getElem h2, List.getElem_map, hx]
theorem tmap_ne_of_get (l m : List (TopS × Value)) (k : Nat) (h1 : k < l.length) (h2 : k < m.length) (x y : TopS) (hx : l[k].1 = x) (hy : m[k].1 = y) (h : x ≠ y) : l.map (·.1) ≠ m.map (·.1) := by
 intro he
 apply h
 have e1 : (l.map (·.1))[k]? = some x := by rw [List.getElem?_map, List.getElem?_eq_getElem h1]; simp [hx]
 have e2 : (m.map (·.1))[k]? = some y := by rw [List.getElem?_map, List.getElem?_eq_getElem h2]; simp [hy]
 rw [he, e2] at e1
 simpa using e1.symm
theorem tmap_len_ne (l m : List (TopS × Value)) (h : l.length ≠ m.length) : l.map (·.1) ≠ m.map (·.1) := fun hh => h (by have := congrArg List.length hh; simpa using this)
def LenT (l : List (TopS × Value)) : Prop := l.length ≤ 140737488355328 ∧ ∀ x ∈ l, x.1.parts.length ≤ 9223372036854775807
theorem flat_topWs (l : List TopS) : (l.flatMap encT).length = topWs l := by
 unfold topWs
 induction l with
 | nil => rfl
 | cons x m ih => rw [List.flatMap_cons, List.length_append, List.map_cons, List.sum_cons, ih, encT_len]; unfold topW; omega
theorem enc_lenV (v : ValS) : v.enc.length = 37 + topWs v.tops := by
 unfold ValS.enc encTs; simp only [List.length_append, beBytes_length, flat_topWs]
 omega
theorem fewL_map {l : List (TopS × Value)} (h : FewT l) : FewL (l.map (·.1)) := by
 refine ⟨by rw [List.length_map]; exact h.1, fun x hx => ?_⟩; obtain ⟨y, hy, rfl⟩ := List.mem_map.1 hx; exact h.2 y hy
theorem fewT_map {l m : List (TopS × Value)} (h : FewT l) (he : m.map (·.1) = l.map (·.1)) : FewT m := fewT_of (by rw [he]; exact fewL_map h)
theorem lenT_of {l : List (TopS × Value)} (h : FewT l) : LenT l := ⟨by have := h.1; omega, fun x hx => by have := (h.2 x hx).2; omega⟩
theorem preT_le2 (l : List TopS) (h : FitTs l) (k : Nat) (hk : k ≤ l.length) : (preT l k).length ≤ 100000000000000 := by
 have h1 := preT_le l h k hk; have h2 := h.1
 omega
set_option maxHeartbeats 2000000 in
set_option maxRecDepth 100000 in
theorem ref14_topics (l : List (TopS × Value)) (q : Option Addr) (cap : Nat) (r : Bs) (hr : encTs (l.map (·.1)) = r) (hf : FitTs (l.map (·.1))) {W0 w : World} {K : Know} {L : List Res} (hk : K.has (Know.tops (.slice q l.length cap) l)) (h : St W0 w K L) :
  Calls Try.prog 42 #[.slice q l.length cap] w fun en w' => en = .returned (.string (bb r)) ∧ St W0 w' K L := by
 have H := Lib.hid h; have HK := Lib.hid hk; have HR := Lib.hid hr; have HF := Lib.hid hf; have hni : (l.length : Int) ≤ 1000000 := by have := hf.1; rw [List.length_map] at this; omega
 have HRN := Lib.hid (show -9223372036854775808 ≤ (l.length : Int) ∧ (l.length : Int) < 9223372036854775808 by omega); have HP00 := Lib.hid (show beBytes (l.length : Int) 4 = preT (l.map (·.1)) 0 by rw [preT_zero, List.length_map]); clear h hk hr hf; go_enter Try.func42, Try.ntmps42; go_wp2_with (go_at_call 41; (with_reducible refine (sr_bytesV (l.length : Int) 4 4 rfl (by decide) _ HP00.out HRN.out H.out).mono ?_); rintro e_ wn ⟨rfl, h⟩; replace H := Lib.hid h; clear h); go_loopw [3, 4, 5] (fun sv iv _ wr => ∃ k : Nat, k ≤ l.length ∧ iv = .int .i64 k ∧ sv = .string (bb (preT (l.map (·.1)) k)) ∧ St W0 wr K L) (fun _ iv _ _ => l.length - (intOf iv).toNat)
 case atStart => exact ⟨0, Nat.zero_le _, rfl, rfl, H.out⟩
 case round =>
  obtain ⟨k, hkl, rfl, rfl, hst⟩ := hrel; clear H; have H := Lib.hid hst; clear hst
  by_cases hlt : k < l.length
  · as_aux_lemma =>
    obtain ⟨b, off, hqq⟩ := tops_at HK.out H.out (by omega); subst hqq; obtain ⟨⟨⟨nm, ps⟩, vx⟩, hx⟩ : ∃ x, l[k] = x := ⟨_, rfl⟩; obtain ⟨c0, c1⟩ : wr.cell? ⟨b, off + k * 2, none⟩ = some (.string (bb nm)) ∧ wr.cell? ⟨b, off + k * 2 + 1, none⟩ = some vx := tops_cell HK.out H.out k hlt _ hx; have hmem : ((⟨nm, ps⟩ : TopS), vx) ∈ l := hx ▸ List.getElem_mem hlt; have hxk : K.has (Know.flat RI vx 1 ps) := tops_parts HK.out hmem; obtain ⟨qx, capx, hvx⟩ := flat_form hxk H.out; subst hvx; have HXK := Lib.hid hxk; have hmk : k < (l.map (·.1)).length := by rw [List.length_map]; exact hlt
    have hmg : (l.map (·.1))[k] = ⟨nm, ps⟩ := by rw [List.getElem_map, hx]
    have hfx : (⟨nm, ps⟩ : TopS).Fit := HF.out.2 _ (hmg ▸ List.getElem_mem hmk); have HNM := Lib.hid hfx.1; have HPL := Lib.hid hfx.2.1; have HPS := Lib.hid hfx.2.2; have hkn : (k : Int) < (l.length : Int) := by omega
    have hnl : (nm.length : Int) ≤ 32767 := by have := hfx.1; simp only at this; omega
    have hpl : (ps.length : Int) ≤ 1000000 := by have := hfx.2.1; simp only at this; omega
    have hst1 := preT_step (l.map (·.1)) k hmk _ hmg; have hle1 := preT_le (l.map (·.1)) HF.out (k + 1) hmk; have hln : (l.map (·.1)).length ≤ 1000000 := HF.out.1; simp only at hst1; obtain ⟨B0, hB0⟩ : ∃ B, preT (l.map (·.1)) k = B := ⟨_, rfl⟩; obtain ⟨F1, hF1⟩ : ∃ B, encF 2 ⟨false, nm⟩ = B := ⟨_, rfl⟩; obtain ⟨F2, hF2⟩ : ∃ B, beBytes (ps.length : Int) 4 = B := ⟨_, rfl⟩; obtain ⟨B1, hB1⟩ : ∃ B, B0 ++ F1 = B := ⟨_, rfl⟩; obtain ⟨B2, hB2⟩ : ∃ B, B1 ++ F2 = B := ⟨_, rfl⟩; have HB3 := Lib.hid (show preT (l.map (·.1)) (k + 1) = B2 ++ be4s ps by rw [hst1, ← hB2, ← hB1, ← hB0, ← hF1, ← hF2]; simp only [List.append_assoc])
    have hlen : (B2 ++ be4s ps).length ≤ 100000000000000 := by
     rw [← HB3.out]; exact preT_le2 _ HF.out _ hmk
    have hl0 : B1.length ≤ 100000000000000 ∧ B2.length + 4 * ps.length ≤ 100000000000000 := by
     rw [List.length_append, be4s_len] at hlen; rw [← hB2, List.length_append] at hlen ⊢
     omega
    have hl1 := congrArg List.length hB1; have hl2 := congrArg List.length hB2; rw [List.length_append] at hl1 hl2; have hcat1 : bb B0 ++ bb F1 = bb B1 := by rw [← hB1]; exact bb_append _ _
    have hcat2 : bb B1 ++ bb F2 = bb B2 := by rw [← hB2]; exact bb_append _ _
    have hg1 : ¬ (9223372036854775807 < B0.length + F1.length) := by omega
    have hg2 : ¬ (9223372036854775807 < B1.length + F2.length) := by omega
    have HF1 := Lib.hid hF1; have HF2 := Lib.hid hF2; have HL0 := Lib.hid hl0; have HRP := Lib.hid (show -9223372036854775808 ≤ (ps.length : Int) ∧ (ps.length : Int) < 9223372036854775808 by omega)
    have hp0 : ps = [] ∨ ∃ pb poff, qx = some ⟨pb, poff, none⟩ := by
     by_cases hps : ps = []
     · exact .inl hps
     · exact .inr (flat_at HXK.out H.out (List.length_pos_iff.2 hps))
    have HP0 := Lib.hid hp0; have HKP := Lib.hid (show ∀ w', St W0 w' K L → (w'.cell? ⟨b, off + k * 2, none⟩ = some (.string (bb nm)) ∧ w'.cell? ⟨b, off + k * 2 + 1, none⟩ = some (.slice qx ps.length capx)) from fun w' hs => tops_cell HK.out hs k hlt _ hx); rw [hB0]; clear hx hmem hxk hmk hmg hfx hst1 hle1 hln hB0 hB1 hB2 hF1 hF2 hlen hl0 hp0 hl1 hl2; go_wp2; have hs := H.out.drew; refine wp_region_held_drew (S := fun w' => w'.cell? ⟨b, off + k * 2, none⟩ = some (.string (bb nm)) ∧ w'.cell? ⟨b, off + k * 2 + 1, none⟩ = some (.slice qx ps.length capx)) (by kernel_rfl) (HKP.out _ hs) (fun hHeld => ?_); refine tQ 0 ⟨some 15, .move (.tmp 3), 9, _, _, none⟩ ?_; simp only [Act.put, sA, sB, sC]; refine tQ 1 ⟨some 16, .move (.tmp 0), 35, _, _, none⟩ ?_; simp only [Act.put, sA, sB, sC]; refine tQ 2 ⟨some 17, .move (.tmp 4), 3, _, _, none⟩ ?_; simp only [Act.put, sA, sB, sC]; refine tQ 3 ⟨some 18, .indexAddr 35 (.tmp 16) (.tmp 17), 0, _, _, none⟩ ?_; simp only [Act.put, sA, sB, sC]; refine tQ 4 ⟨some 19, .fieldAddr 56 (.tmp 18) 0, 0, _, _, none⟩ ?_; simp only [Act.put, sA, sB, sC]; refine tQ 5 ⟨some 20, .load 9 (.tmp 19), 9, _, _, none⟩ ?_; simp only [Act.put, sA, sB, sC]; refine tQ 6 ⟨some 21, .build 28 #[(1, .tmp 20)], 28, _, _, none⟩ ?_; simp only [Act.put, sA, sB, sC]; refine tQ 9 ⟨some 24, .move (.tmp 0), 35, _, _, none⟩ ?_; simp only [Act.put, sA, sB, sC]; refine tQ 10 ⟨some 25, .move (.tmp 4), 3, _, _, none⟩ ?_; simp only [Act.put, sA, sB, sC]; refine tQ 11 ⟨some 26, .indexAddr 35 (.tmp 24) (.tmp 25), 0, _, _, none⟩ ?_; simp only [Act.put, sA, sB, sC]; refine tQ 12 ⟨some 27, .fieldAddr 56 (.tmp 26) 1, 0, _, _, none⟩ ?_; simp only [Act.put, sA, sB, sC]; refine tQ 13 ⟨some 28, .load 54 (.tmp 27), 54, _, _, none⟩ ?_; simp only [Act.put, sA, sB, sC]; refine tQ 14 ⟨some 29, .call { callee := .builtin .len, args := #[.tmp 28], argTypes := #[54] }, 3, _, _, none⟩ ?_; simp only [Act.put, sA, sB, sC]; refine wpAnyH_ready (rs := [7]) (by kernel_rfl) (by simp) (AllReadyH.cons (o := ⟨some 22, .call { callee := .value (.func 61), args := #[.tmp 21, .const (Value.int IntKind.i64 2)], argTypes := #[28, 3] }, 9, _, _, none⟩) rfl (fun KK hK => ?_) AllReadyH.nil); go_simp; go_at_call 61; with_reducible refine (ref04_fixedV nm F1 HF1.out HNM.out hs).mono ?_; rintro e wq ⟨rfl, hs⟩; refine hK.out _ _ (HKP.out _ hs) (fun hHeld => ?_); clear hK KK
    try simp only [Act.put, sA, sB, sC]
    refine tQ 8 ⟨some 23, .binOp .add 9 (.tmp 15) (.tmp 22) 9, 9, _, _, none⟩ ?_; simp only [Act.put, sA, sB, sC]; refine wpAnyH_ready (rs := [15]) (by kernel_rfl) (by simp) (AllReadyH.cons (o := ⟨some 30, .call { callee := .value (.func 41), args := #[.tmp 29, .const (Value.int IntKind.i64 4)], argTypes := #[3, 3] }, 9, _, _, none⟩) rfl (fun KK hK => ?_) AllReadyH.nil); go_simp; go_at_call 41; with_reducible refine (sr_bytesV (ps.length : Int) 4 4 rfl (by decide) F2 HF2.out HRP.out hs).mono ?_; rintro e wq ⟨rfl, hs⟩; refine hK.out _ _ (HKP.out _ hs) (fun hHeld => ?_); clear hK KK
    try simp only [Act.put, sA, sB, sC]
    refine tQ 16 ⟨some 31, .binOp .add 9 (.tmp 23) (.tmp 30) 9, 9, _, _, none⟩ ?_; simp only [Act.put, sA, sB, sC]; refine tQ 17 ⟨some 3, .assign (.tmp 31), 9, _, _, none⟩ ?_; simp only [Act.put, sA, sB, sC]; refine wpAnyH_done (by kernel_rfl) ?_ _; go_wp2_with fail; clear H; have H := Lib.hid hs; clear hs; go_loopw [3, 5] (fun sv jv wr => ∃ j : Nat, j ≤ ps.length ∧ jv = .int .i64 j ∧ sv = .string (bb (B2 ++ be4s (ps.take j))) ∧ St W0 wr K L) (fun _ jv _ => ps.length - (intOf jv).toNat)
    case atStart => exact ⟨0, Nat.zero_le _, rfl, by rw [List.take_zero]; show _ = Value.string (bb (B2 ++ [])); rw [List.append_nil], H.out⟩
    case round =>
     obtain ⟨j, hjl, rfl, rfl, hst⟩ := hrel; clear H; have H := Lib.hid hst; clear hst; obtain ⟨c0, c1⟩ := HKP.out _ H.out
     by_cases hlj : j < ps.length
     · have hps : ¬ ps = [] := by rintro rfl; simp at hlj
       rcases HP0.out with hps2 | ⟨pb, poff, hq⟩
       · exact absurd hps2 hps
       subst hq; have d0 := int_cell HXK.out H.out j hlj; obtain ⟨x, hx⟩ : ∃ x, ps.getD j 0 = x := ⟨_, rfl⟩; rw [hx] at d0; have hxr := HPS.out x (hx ▸ getD_mem ps j hlj); have hst := be4s_step ps j hlj x hx; obtain ⟨C, hC⟩ : ∃ C, B2 ++ be4s (ps.take j) = C := ⟨_, rfl⟩; obtain ⟨X, hX⟩ : ∃ X, beBytes x 4 = X := ⟨_, rfl⟩; obtain ⟨D, hD⟩ : ∃ D, C ++ X = D := ⟨_, rfl⟩; have hcat : bb C ++ bb X = bb D := by rw [← hD]; exact bb_append _ _
       have HD2 := Lib.hid (show B2 ++ be4s (ps.take (j + 1)) = D by rw [hst, ← List.append_assoc, hC, hX, hD]); have hXl : X.length = 4 := by rw [← hX]; exact beBytes_length x 4
       have hCl : C.length ≤ 100000000000000 := by
        rw [← hC, List.length_append, be4s_len, List.length_take]; have := HL0.out.2
        omega
       have hg : ¬ (9223372036854775807 < C.length + X.length) := by omega
       have HX := Lib.hid hX; have HXR := Lib.hid (show -9223372036854775808 ≤ x ∧ x < 9223372036854775808 by omega); have hji : (j : Int) < (ps.length : Int) := by omega
       rw [hC]; clear hC hst hx hps hxr hX hD hXl hCl; go_wp2_with (go_at_call 41; (with_reducible refine (sr_bytesV x 4 4 rfl (by decide) X HX.out HXR.out H.out).mono ?_); rintro e_ wn ⟨rfl, h⟩; replace H := Lib.hid h; clear h); go_roundw
       case rel => exact ⟨j + 1, hlj, by go_num, by rw [HD2.out], H.out⟩
       case measure => first | (simp [intOf]; done) | (simp [intOf]; omega)
     · obtain rfl : j = ps.length := by omega
       rw [List.take_length, ← HB3.out]; go_wp2; go_roundw
       case rel => exact ⟨k + 1, hlt, by go_num, rfl, H.out⟩
       case measure => first | (simp [intOf]; done) | (simp [intOf]; omega)
  · obtain rfl : k = l.length := by omega
    rw [show preT (l.map (·.1)) l.length = r by rw [← HR.out, ← preT_all, List.length_map]]; go_wp2; go_ret; exact ⟨rfl, H.out⟩

end Go.Proofs.Ytmpehoebgifmnaa
