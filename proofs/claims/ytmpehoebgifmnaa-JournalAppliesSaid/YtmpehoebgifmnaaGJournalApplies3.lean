/- A text. -/
import Derived.Test.YtmpehoebgifmnaaGJournalApplies2
import Derived.Test.YtmpehoebgifmnaaRecP
import Derived.Test.YtmpehoebgifmnaaRecs
import Derived.Test.YtmpehoebgifmnaaSep
import Derived.Deep.MidRow
import Derived.Test.YtmpehoebgifmnaaJn1
import Derived.Deep.RegionHeld3
import Derived.Deep.DeepCutAuto
import Derived.Test.YtmpehoebgifmnaaBlob1
import Derived.RegionTactic
import Derived.WalkMore
import Derived.Test.YtmpehoebgifmnaaKeyP
import Derived.Test.YtmpehoebgifmnaaGJournalApplies1
import Derived.Test.YtmpehoebgifmnaaGrow
/- A text. -/
namespace Go.Proofs.Ytmpehoebgifmnaa
open Go.RowKit

structure BatS where
  base : Int
  leader : Int
  app : Bool
  txn : Bool
  ctl : Bool
  last : Int
  first : Int
  maxt : Int
  prod : Int
  epoch : Int
  seq : Int
  recs : List RecS
deriving DecidableEq
def BatS.zero : BatS := ⟨0, 0, false, false, false, 0, 0, 0, 0, 0, 0, []⟩
def Rn (n : Int) : Prop := -9223372036854775808 ≤ n ∧ n < 9223372036854775808
def BatS.R (b : BatS) : Prop := Rn b.base ∧ Rn b.leader ∧ Rn b.last ∧ Rn b.first ∧ Rn b.maxt ∧ Rn b.prod ∧ Rn b.epoch ∧ Rn b.seq
def BatS.signed (b : BatS) : Bool :=
  if b.prod = -1 then decide (b.epoch = -1 ∧ b.seq = -1 ∧ b.txn = false)
  else if b.prod < 0 ∨ ¬ (0 ≤ b.epoch ∧ b.epoch ≤ 32767) then false
  else if b.ctl then decide (b.seq = -1)
  else decide (0 ≤ b.seq ∧ b.seq ≤ 2147483647)
def rowsC (first last : Int) : List RecS → Int → Int → Except Int Int
  | [], _, g => .ok g
  | r :: t, ah, g => if r.off ≤ ah ∨ last < r.off then .error 13 else if r.time < -first ∨ 9223372036854775807 - first < r.time then .error 11 else rowsC first last t r.off (max g (first + r.time))
def rowsE (app : Bool) (maxt : Int) (r : Except Int Int) : Int := match r with
  | .error e => e
  | .ok g => if app = false ∧ maxt ≠ g then 11 else 0
def BatS.rows (b : BatS) : Int := rowsE b.app b.maxt (rowsC b.first b.last b.recs (-1) b.first)
def ctlOf (r : RecS) : Int × Int × Int := ctlRead r.key.null r.val.null r.key.data r.val.data r.hdrs.length r.off
def BatS.ends (b : BatS) : Int := match b.recs with | [] => 0 | r :: _ => (ctlOf r).2.2
theorem rc_cell_tmp {P : Program} {fn : Func} {p t : Tmp} {ty : TypeId} (h : fn.results = #[.cell p ty, .tmp t]) (tmps : Array Value) (w : World) (b : Nat) (cs : List Value) (d : TypeDesc)
    (hp : tmps.getD p undef = .pointer (some ⟨b, 0, none⟩)) (hc : w.rangeAt b 0 cs) (hu : P.underlying ty = some d) (hd : d.isRow = true) (hi : (P.info? ty).map (·.size) = some cs.length) :
    (results fn tmps).run P w = .ok (.tuple #[.agg cs.toArray, tmps.getD t undef]) w := by
  have hp' : tmps[p]?.getD undef = .pointer (some ⟨b, 0, none⟩) := by simpa using hp
  simp [results, h, hp', asAddr, run_loadVar_mid w b 0 ty cs d hc hu hd hi]
theorem rc_cell_only {P : Program} {fn : Func} {p : Tmp} {ty : TypeId} (h : fn.results = #[.cell p ty]) (tmps : Array Value) (w : World) (b : Nat) (cs : List Value) (d : TypeDesc)
    (hp : tmps.getD p undef = .pointer (some ⟨b, 0, none⟩)) (hc : w.rangeAt b 0 cs) (hu : P.underlying ty = some d) (hd : d.isRow = true) (hi : (P.info? ty).map (·.size) = some cs.length) :
    (results fn tmps).run P w = .ok (.agg cs.toArray) w := by
  have hp' : tmps[p]?.getD undef = .pointer (some ⟨b, 0, none⟩) := by simpa using hp
  simp [results, h, hp', asAddr, run_loadVar_mid w b 0 ty cs d hc hu hd hi]
theorem rc_range {W0 w : World} {K : Know} {L : List Res} {b : Nat} {c : List Value} {T : TypeId} (h : St W0 w K (.raw b c.toArray T :: L)) : w.rangeAt b 0 c := by
 intro j v hv; rw [Nat.zero_add, h.rawCell j]
 simpa using hv
set_option maxHeartbeats 2000000 in
set_option maxRecDepth 100000 in
theorem val_fields (b : Nat) (i i1 i2 i3 i4 i5 i6 i7 : InS) (p e t s u st : Int) (l : List TopS) (h1 : i.int 8 = (p, i1)) (h2 : i1.int 2 = (e, i2)) (h3 : i2.int 4 = (t, i3)) (h4 : i3.int 1 = (s, i4)) (h5 : i4.tops = (l, i5)) (h6 : i5.int 8 = (u, i6)) (h7 : i6.int 8 = (st, i7)) {W0 w : World} {K : Know} {L : List Res} (h : St W0 w K (.inp b i :: L)) :
  Calls Try.prog 29 #[inPtr b] w fun en w' => ∃ (qt : Option Addr) (capt : Nat) (lr : List (TopS × Value)), en = .returned (.agg #[.int .i64 p, .int .i64 e, .int .i64 t, .int .i64 s, .slice qt lr.length capt, .int .i64 u, .int .i64 st]) ∧ lr.map (·.1) = l ∧ St W0 w' (K.and (Know.tops (.slice qt lr.length capt) lr)) (.inp b i7 :: L) := by
 obtain ⟨rb, hrb⟩ : ∃ b, w.heap.size = b := ⟨_, rfl⟩; obtain ⟨vb, hvb⟩ : ∃ b, rb + 1 = b := ⟨_, rfl⟩; have g1 := (h.allocRaw #[.int .i64 0, .int .i64 0, .int .i64 0, .int .i64 0, .slice none 0 0, .int .i64 0, .int .i64 0] 37).allocRaw #[.int .i64 0, .int .i64 0, .int .i64 0, .int .i64 0, .slice none 0 0, .int .i64 0, .int .i64 0] 37; simp only [World.size_alloc, hrb, hvb] at g1; obtain ⟨i0, hi0⟩ : ∃ i0, i = i0 := ⟨_, rfl⟩; subst hi0; have H := Lib.hid g1.p2; have H1 := Lib.hid h1; have H2 := Lib.hid h2; have H3 := Lib.hid h3; have H4 := Lib.hid h4; have H5 := Lib.hid h5; have H6 := Lib.hid h6; have H7 := Lib.hid h7; clear h g1 h1 h2 h3 h4 h5 h6 h7; go_enter Try.func29, Try.ntmps29
 go_wp2_with (first
  | (go_at_call 25; (with_reducible refine (s_intV b i i1 p 8 H1.out H.out).mono ?_); rintro e_ wn ⟨rfl, h⟩; have f0 := h.p1.rawFree 0; have g0 := h.p1.rawCell 0; simp at g0; have h := (show St W0 (wn.setCell ⟨vb, 0, none⟩ (.int .i64 p)) K (.inp b i1 :: .raw vb #[.int .i64 p, .int .i64 0, .int .i64 0, .int .i64 0, .slice none 0 0, .int .i64 0, .int .i64 0] 37 :: .raw rb #[.int .i64 0, .int .i64 0, .int .i64 0, .int .i64 0, .slice none 0 0, .int .i64 0, .int .i64 0] 37 :: L) from (h.p1.rawSet 0 (.int .i64 p)).p1); replace H := Lib.hid h; clear h)
  | (go_at_call 25; (with_reducible refine (s_intV b i1 i2 e 2 H2.out H.out).mono ?_); rintro e_ wn ⟨rfl, h⟩; have f1 := h.p1.rawFree 1; have g1 := h.p1.rawCell 1; simp at g1; have h := (show St W0 (wn.setCell ⟨vb, 1, none⟩ (.int .i64 e)) K (.inp b i2 :: .raw vb #[.int .i64 p, .int .i64 e, .int .i64 0, .int .i64 0, .slice none 0 0, .int .i64 0, .int .i64 0] 37 :: .raw rb #[.int .i64 0, .int .i64 0, .int .i64 0, .int .i64 0, .slice none 0 0, .int .i64 0, .int .i64 0] 37 :: L) from (h.p1.rawSet 1 (.int .i64 e)).p1); replace H := Lib.hid h; clear h)
  | (go_at_call 25; (with_reducible refine (s_intV b i2 i3 t 4 H3.out H.out).mono ?_); rintro e_ wn ⟨rfl, h⟩; have f2 := h.p1.rawFree 2; have g2 := h.p1.rawCell 2; simp at g2; have h := (show St W0 (wn.setCell ⟨vb, 2, none⟩ (.int .i64 t)) K (.inp b i3 :: .raw vb #[.int .i64 p, .int .i64 e, .int .i64 t, .int .i64 0, .slice none 0 0, .int .i64 0, .int .i64 0] 37 :: .raw rb #[.int .i64 0, .int .i64 0, .int .i64 0, .int .i64 0, .slice none 0 0, .int .i64 0, .int .i64 0] 37 :: L) from (h.p1.rawSet 2 (.int .i64 t)).p1); replace H := Lib.hid h; clear h)
  | (go_at_call 25; (with_reducible refine (s_intV b i3 i4 s 1 H4.out H.out).mono ?_); rintro e_ wn ⟨rfl, h⟩; have f3 := h.p1.rawFree 3; have g3 := h.p1.rawCell 3; simp at g3; have h := (show St W0 (wn.setCell ⟨vb, 3, none⟩ (.int .i64 s)) K (.inp b i4 :: .raw vb #[.int .i64 p, .int .i64 e, .int .i64 t, .int .i64 s, .slice none 0 0, .int .i64 0, .int .i64 0] 37 :: .raw rb #[.int .i64 0, .int .i64 0, .int .i64 0, .int .i64 0, .slice none 0 0, .int .i64 0, .int .i64 0] 37 :: L) from (h.p1.rawSet 3 (.int .i64 s)).p1); replace H := Lib.hid h; clear h)
  | (go_at_call 50; (with_reducible refine (val_topics b i4 i5 l H5.out H.out).mono ?_); rintro e_ wn ⟨tv, lr, rfl, hlr, h⟩; obtain ⟨qt, capt, htv⟩ := tops_form (Know.has_right (Know.has_refl _)) h; subst htv; have HLR := Lib.hid hlr; clear hlr; have f4 := h.p1.rawFree 4; have g4 := h.p1.rawCell 4; simp at g4; have h := (show St W0 (wn.setCell ⟨vb, 4, none⟩ (.slice qt lr.length capt)) (K.and (Know.tops (.slice qt lr.length capt) lr)) (.inp b i5 :: .raw vb #[.int .i64 p, .int .i64 e, .int .i64 t, .int .i64 s, .slice qt lr.length capt, .int .i64 0, .int .i64 0] 37 :: .raw rb #[.int .i64 0, .int .i64 0, .int .i64 0, .int .i64 0, .slice none 0 0, .int .i64 0, .int .i64 0] 37 :: L) from (h.p1.rawSet 4 (.slice qt lr.length capt)).p1); replace H := Lib.hid h; clear h)
  | (go_at_call 25; (with_reducible refine (s_intV b i5 i6 u 8 H6.out H.out).mono ?_); rintro e_ wn ⟨rfl, h⟩; have f5 := h.p1.rawFree 5; have g5 := h.p1.rawCell 5; simp at g5; have h := (show St W0 (wn.setCell ⟨vb, 5, none⟩ (.int .i64 u)) (K.and (Know.tops (.slice qt lr.length capt) lr)) (.inp b i6 :: .raw vb #[.int .i64 p, .int .i64 e, .int .i64 t, .int .i64 s, .slice qt lr.length capt, .int .i64 u, .int .i64 0] 37 :: .raw rb #[.int .i64 0, .int .i64 0, .int .i64 0, .int .i64 0, .slice none 0 0, .int .i64 0, .int .i64 0] 37 :: L) from (h.p1.rawSet 5 (.int .i64 u)).p1); replace H := Lib.hid h; clear h)
  | (go_at_call 25; (with_reducible refine (s_intV b i6 i7 st 8 H7.out H.out).mono ?_); rintro e_ wn ⟨rfl, h⟩; have f6 := h.p1.rawFree 6; have g6 := h.p1.rawCell 6; simp at g6; have h := (show St W0 (wn.setCell ⟨vb, 6, none⟩ (.int .i64 st)) (K.and (Know.tops (.slice qt lr.length capt) lr)) (.inp b i7 :: .raw vb #[.int .i64 p, .int .i64 e, .int .i64 t, .int .i64 s, .slice qt lr.length capt, .int .i64 u, .int .i64 st] 37 :: .raw rb #[.int .i64 0, .int .i64 0, .int .i64 0, .int .i64 0, .slice none 0 0, .int .i64 0, .int .i64 0] 37 :: L) from (h.p1.rawSet 6 (.int .i64 st)).p1); have c0 := h.p1.rawCell 0; have c1 := h.p1.rawCell 1; have c2 := h.p1.rawCell 2; have c3 := h.p1.rawCell 3; have c4 := h.p1.rawCell 4; have c5 := h.p1.rawCell 5; have c6 := h.p1.rawCell 6; have d0 := h.p2.rawCell 0; have r0 := h.p2.rawFree 0; have d1 := h.p2.rawCell 1; have r1 := h.p2.rawFree 1; have d2 := h.p2.rawCell 2; have r2 := h.p2.rawFree 2; have d3 := h.p2.rawCell 3; have r3 := h.p2.rawFree 3; have d4 := h.p2.rawCell 4; have r4 := h.p2.rawFree 4; have d5 := h.p2.rawCell 5; have r5 := h.p2.rawFree 5; have d6 := h.p2.rawCell 6; have r6 := h.p2.rawFree 6; simp at c0 c1 c2 c3 c4 c5 c6 d0 d1 d2 d3 d4 d5 d6; replace H := Lib.hid h; clear h))
 have hz : St W0 _ _ (.raw rb #[.int .i64 p, .int .i64 e, .int .i64 t, .int .i64 s, .slice qt lr.length capt, .int .i64 u, .int .i64 st] 37 :: .inp b i7 :: .raw vb #[.int .i64 p, .int .i64 e, .int .i64 t, .int .i64 s, .slice qt lr.length capt, .int .i64 u, .int .i64 st] 37 :: L) := (((((((H.out.p2).rawSet 0 _).rawSet 1 _).rawSet 2 _).rawSet 3 _).rawSet 4 _).rawSet 5 _).rawSet 6 _; refine bodyPost_ret (rc_cell_only rfl _ _ rb [.int .i64 p, .int .i64 e, .int .i64 t, .int .i64 s, .slice qt lr.length capt, .int .i64 u, .int .i64 st] _ rfl (rc_range hz) Try.underlying37 rfl (by kernel_rfl)) rfl ?_; exact ⟨qt, capt, lr, rfl, HLR.out, hz.drop.p1.drop⟩
theorem St.sets7 {W0 w : World} {K : Know} {L : List Res} {b : Nat} {T : TypeId} {a0 a1 a2 a3 a4 a5 a6 : Value} (v0 v1 v2 v3 v4 v5 v6 : Value) (h : St W0 w K (.raw b #[a0, a1, a2, a3, a4, a5, a6] T :: L)) : St W0 (((((((w.setCell ⟨b, 0, none⟩ v0).setCell ⟨b, 1, none⟩ v1).setCell ⟨b, 2, none⟩ v2).setCell ⟨b, 3, none⟩ v3).setCell ⟨b, 4, none⟩ v4).setCell ⟨b, 5, none⟩ v5).setCell ⟨b, 6, none⟩ v6) K (.raw b #[v0, v1, v2, v3, v4, v5, v6] T :: L) := by
 have h : St W0 _ K (.raw b #[v0, a1, a2, a3, a4, a5, a6] T :: L) := h.rawSet 0 v0; have h : St W0 _ K (.raw b #[v0, v1, a2, a3, a4, a5, a6] T :: L) := h.rawSet 1 v1; have h : St W0 _ K (.raw b #[v0, v1, v2, a3, a4, a5, a6] T :: L) := h.rawSet 2 v2; have h : St W0 _ K (.raw b #[v0, v1, v2, v3, a4, a5, a6] T :: L) := h.rawSet 3 v3; have h : St W0 _ K (.raw b #[v0, v1, v2, v3, v4, a5, a6] T :: L) := h.rawSet 4 v4; have h : St W0 _ K (.raw b #[v0, v1, v2, v3, v4, v5, a6] T :: L) := h.rawSet 5 v5; have h : St W0 _ K (.raw b #[v0, v1, v2, v3, v4, v5, v6] T :: L) := h.rawSet 6 v6; exact h
theorem s_failV (p : Nat) (i j : InS) (e : Int) (hx : i.fail e = j) {W0 w : World} {K : Know} {L : List Res} (h : St W0 w K (.inp p i :: L)) :
  Calls Try.prog 26 #[inPtr p, .int .i64 e] w fun en w' => en = .returned (.tuple #[]) ∧ St W0 w' K (.inp p j :: L) := by
 subst hx; exact s_fail p i e h
theorem s_closeV (p : Nat) (i : InS) (e : Int) (hx : i.close.err = e) {W0 w : World} {K : Know} {L : List Res} (h : St W0 w K (.inp p i :: L)) :
  Calls Try.prog 28 #[inPtr p] w fun en w' => en = .returned (.int .i64 e) ∧ St W0 w' K (.inp p i.close :: L) := by
 subst hx; exact s_close p i h
set_option maxHeartbeats 12000000 in
set_option maxRecDepth 100000 in
theorem val_decode_bad (S : Bs) (hsl : S.length ≤ 1000000) (v : ValS) (E : Int) (hv : valDec S = (v, E)) (h0 : E ≠ 0) {W0 w : World} {K : Know} {L : List Res} (h : St W0 w K L) :
   Calls Try.prog 9 #[.string (bb S)] w fun en w' => en = .returned (.tuple #[.agg #[.int .i64 0, .int .i64 0, .int .i64 0, .int .i64 0, .slice none 0 0, .int .i64 0, .int .i64 0], .int .i64 E]) ∧ St W0 w' K L := by
 obtain ⟨rb, hrb⟩ : ∃ b, w.heap.size = b := ⟨_, rfl⟩; have g1 := h.allocRaw #[.int .i64 0, .int .i64 0, .int .i64 0, .int .i64 0, .slice none 0 0, .int .i64 0, .int .i64 0] 37; rw [hrb] at g1; have H := Lib.hid g1; have HSL := Lib.hid (show S.length ≤ 140737488355328 by omega); obtain ⟨⟨a, j0⟩, ha⟩ : ∃ r, (⟨S, 0, 0⟩ : InS).int 2 = r := ⟨_, rfl⟩; have HA := Lib.hid ha; have hat := decI_at S; obtain ⟨j, hj⟩ : ∃ j, decI S = j := ⟨_, rfl⟩; have hjj : j = if a = 0 then j0 else j0.fail 7 := by rw [← hj]; unfold decI; rw [ha]
 obtain ⟨⟨p, i1⟩, h1⟩ : ∃ r, j.int 8 = r := ⟨_, rfl⟩; obtain ⟨⟨e, i2⟩, h2⟩ : ∃ r, i1.int 2 = r := ⟨_, rfl⟩; obtain ⟨⟨t, i3⟩, h3⟩ : ∃ r, i2.int 4 = r := ⟨_, rfl⟩; obtain ⟨⟨s, i4⟩, h4⟩ : ∃ r, i3.int 1 = r := ⟨_, rfl⟩; obtain ⟨⟨l, i5⟩, h5⟩ : ∃ r, i4.tops = r := ⟨_, rfl⟩; obtain ⟨⟨u, i6⟩, h6⟩ : ∃ r, i5.int 8 = r := ⟨_, rfl⟩; obtain ⟨⟨st, i7⟩, h7⟩ : ∃ r, i6.int 8 = r := ⟨_, rfl⟩; have hF := valF_eq h1 h2 h3 h4 h5 h6 h7; rw [hj] at hat; have hfl := valF_few hat hsl; rw [hF] at hfl; have H1 := Lib.hid h1; have H2 := Lib.hid h2; have H3 := Lib.hid h3; have H4 := Lib.hid h4; have H5 := Lib.hid h5; have H6 := Lib.hid h6; have H7 := Lib.hid h7; have HFL := Lib.hid (show FewL l from hfl); obtain ⟨ec, hec⟩ : ∃ ec, i7.close.err = ec := ⟨_, rfl⟩; have HEC := Lib.hid hec; have hde : decE S = ec := by unfold decE; rw [hj, hF]; exact hec
 have hb := valDec_bad hv h0; rw [hde, hj, hF] at hb; have gE : (E == 0) = false := by rw [beq_eq_false_iff_ne]; exact h0
 have gE2 : (E != 0) = true := by simp [bne, gE]
 have hdz := fun (hz : ec = 0) => decE_zero (s := S) (by rw [hde]; exact hz)
 rw [ha] at hdz
 rcases hb with hb | ⟨hb1, hb2⟩
 · subst hb
   by_cases ha0 : a = 0
   · as_aux_lemma =>
     rw [if_pos ha0] at hjj; subst hjj; subst ha0; clear h g1 ha hat hj h1 h2 h3 h4 h5 h6 h7 hF hfl hec hde hdz hv hsl h0; go_enter Try.func9, Try.ntmps9
     go_wp2_with (first
   | (go_at_call 24; (with_reducible refine (s_new S HSL.out H.out).mono ?_); rintro e_ wn ⟨bi, rfl, h⟩; replace H := Lib.hid h; clear h)
   | (go_at_call 25; (with_reducible refine (s_intV bi _ _ _ 2 HA.out H.out).mono ?_); rintro e_ wn ⟨rfl, h⟩; replace H := Lib.hid h; clear h)
   | (go_at_call 29; (with_reducible refine (val_fields bi _ _ _ _ _ _ _ _ p e t s u st l H1.out H2.out H3.out H4.out H5.out H6.out H7.out H.out).mono ?_); rintro e_ wn ⟨qt, capt, lr, rfl, hlr, h⟩; obtain ⟨vb, hvb⟩ : ∃ b, wn.heap.size = b := ⟨_, rfl⟩; have h := h.allocRaw #[.int .i64 p, .int .i64 e, .int .i64 t, .int .i64 s, .slice qt lr.length capt, .int .i64 u, .int .i64 st] 37; rw [hvb] at h; have HLR := Lib.hid hlr; clear hlr; replace H := Lib.hid h; clear h)
   | (go_at_call 28; (with_reducible refine (s_closeV bi _ _ HEC.out H.out.p1).mono ?_); rintro e_ wn ⟨rfl, h⟩; have c0 := h.p1.rawCell 0; have c1 := h.p1.rawCell 1; have c2 := h.p1.rawCell 2; have c3 := h.p1.rawCell 3; have c4 := h.p1.rawCell 4; have c5 := h.p1.rawCell 5; have c6 := h.p1.rawCell 6; simp at c0 c1 c2 c3 c4 c5 c6; have d0 := h.p2.rawCell 0; have r0 := h.p2.rawFree 0; have d1 := h.p2.rawCell 1; have r1 := h.p2.rawFree 1; have d2 := h.p2.rawCell 2; have r2 := h.p2.rawFree 2; have d3 := h.p2.rawCell 3; have r3 := h.p2.rawFree 3; have d4 := h.p2.rawCell 4; have r4 := h.p2.rawFree 4; have d5 := h.p2.rawCell 5; have r5 := h.p2.rawFree 5; have d6 := h.p2.rawCell 6; have r6 := h.p2.rawFree 6; simp at d0 d1 d2 d3 d4 d5 d6; replace H := Lib.hid h; clear h))
     have hz : St W0 _ _ (.raw rb #[.int .i64 0, .int .i64 0, .int .i64 0, .int .i64 0, .slice none 0 0, .int .i64 0, .int .i64 0] 37 :: _) := St.sets7 _ _ _ _ _ _ _ (H.out.p2); refine bodyPost_ret (rc_cell_tmp rfl _ _ rb [.int .i64 0, .int .i64 0, .int .i64 0, .int .i64 0, .slice none 0 0, .int .i64 0, .int .i64 0] _ rfl (rc_range hz) Try.underlying37 rfl (by kernel_rfl)) rfl ?_; exact ⟨rfl, (hz.drop.drop.drop).know (Know.has_left (Know.has_refl _))⟩
   · as_aux_lemma =>
     rw [if_neg ha0] at hjj; have HJ := Lib.hid hjj.symm; have ga : (a == 0) = false := by rw [beq_eq_false_iff_ne]; exact ha0
     have ga2 : (a != 0) = true := by simp [bne, ga]
     clear h g1 ha hat hj h1 h2 h3 h4 h5 h6 h7 hF hfl hec hde hdz hv hsl h0 hjj ha0; go_enter Try.func9, Try.ntmps9
     go_wp2_with (first
   | (go_at_call 24; (with_reducible refine (s_new S HSL.out H.out).mono ?_); rintro e_ wn ⟨bi, rfl, h⟩; replace H := Lib.hid h; clear h)
   | (go_at_call 25; (with_reducible refine (s_intV bi _ _ _ 2 HA.out H.out).mono ?_); rintro e_ wn ⟨rfl, h⟩; replace H := Lib.hid h; clear h)
   | (go_at_call 26; (with_reducible refine (s_failV bi _ _ 7 HJ.out H.out).mono ?_); rintro e_ wn ⟨rfl, h⟩; replace H := Lib.hid h; clear h)
   | (go_at_call 29; (with_reducible refine (val_fields bi _ _ _ _ _ _ _ _ p e t s u st l H1.out H2.out H3.out H4.out H5.out H6.out H7.out H.out).mono ?_); rintro e_ wn ⟨qt, capt, lr, rfl, hlr, h⟩; obtain ⟨vb, hvb⟩ : ∃ b, wn.heap.size = b := ⟨_, rfl⟩; have h := h.allocRaw #[.int .i64 p, .int .i64 e, .int .i64 t, .int .i64 s, .slice qt lr.length capt, .int .i64 u, .int .i64 st] 37; rw [hvb] at h; have HLR := Lib.hid hlr; clear hlr; replace H := Lib.hid h; clear h)
   | (go_at_call 28; (with_reducible refine (s_closeV bi _ _ HEC.out H.out.p1).mono ?_); rintro e_ wn ⟨rfl, h⟩; have c0 := h.p1.rawCell 0; have c1 := h.p1.rawCell 1; have c2 := h.p1.rawCell 2; have c3 := h.p1.rawCell 3; have c4 := h.p1.rawCell 4; have c5 := h.p1.rawCell 5; have c6 := h.p1.rawCell 6; simp at c0 c1 c2 c3 c4 c5 c6; have d0 := h.p2.rawCell 0; have r0 := h.p2.rawFree 0; have d1 := h.p2.rawCell 1; have r1 := h.p2.rawFree 1; have d2 := h.p2.rawCell 2; have r2 := h.p2.rawFree 2; have d3 := h.p2.rawCell 3; have r3 := h.p2.rawFree 3; have d4 := h.p2.rawCell 4; have r4 := h.p2.rawFree 4; have d5 := h.p2.rawCell 5; have r5 := h.p2.rawFree 5; have d6 := h.p2.rawCell 6; have r6 := h.p2.rawFree 6; simp at d0 d1 d2 d3 d4 d5 d6; replace H := Lib.hid h; clear h))
     have hz : St W0 _ _ (.raw rb #[.int .i64 0, .int .i64 0, .int .i64 0, .int .i64 0, .slice none 0 0, .int .i64 0, .int .i64 0] 37 :: _) := St.sets7 _ _ _ _ _ _ _ (H.out.p2); refine bodyPost_ret (rc_cell_tmp rfl _ _ rb [.int .i64 0, .int .i64 0, .int .i64 0, .int .i64 0, .slice none 0 0, .int .i64 0, .int .i64 0] _ rfl (rc_range hz) Try.underlying37 rfl (by kernel_rfl)) rfl ?_; exact ⟨rfl, (hz.drop.drop.drop).know (Know.has_left (Know.has_refl _))⟩
 · as_aux_lemma =>
   have ha0 : a = 0 := hdz hb1; rw [if_pos ha0] at hjj; subst hjj; subst ha0; subst hb1; have HE := Lib.hid (show ValS.err ⟨p, e, t, s, l, u, st⟩ = E from hb2); clear h g1 ha hat hj h1 h2 h3 h4 h5 h6 h7 hF hfl hec hde hdz hv hsl h0 hb2; go_enter Try.func9, Try.ntmps9
   go_wp2_with (first
   | (go_at_call 24; (with_reducible refine (s_new S HSL.out H.out).mono ?_); rintro e_ wn ⟨bi, rfl, h⟩; replace H := Lib.hid h; clear h)
   | (go_at_call 25; (with_reducible refine (s_intV bi _ _ _ 2 HA.out H.out).mono ?_); rintro e_ wn ⟨rfl, h⟩; replace H := Lib.hid h; clear h)
   | (go_at_call 29; (with_reducible refine (val_fields bi _ _ _ _ _ _ _ _ p e t s u st l H1.out H2.out H3.out H4.out H5.out H6.out H7.out H.out).mono ?_); rintro e_ wn ⟨qt, capt, lr, rfl, hlr, h⟩; obtain ⟨vb, hvb⟩ : ∃ b, wn.heap.size = b := ⟨_, rfl⟩; have h := h.allocRaw #[.int .i64 p, .int .i64 e, .int .i64 t, .int .i64 s, .slice qt lr.length capt, .int .i64 u, .int .i64 st] 37; rw [hvb] at h; have HLR := Lib.hid hlr; clear hlr; replace H := Lib.hid h; clear h)
   | (go_at_call 28; (with_reducible refine (s_closeV bi _ _ HEC.out H.out.p1).mono ?_); rintro e_ wn ⟨rfl, h⟩; have c0 := h.p1.rawCell 0; have c1 := h.p1.rawCell 1; have c2 := h.p1.rawCell 2; have c3 := h.p1.rawCell 3; have c4 := h.p1.rawCell 4; have c5 := h.p1.rawCell 5; have c6 := h.p1.rawCell 6; simp at c0 c1 c2 c3 c4 c5 c6; have d0 := h.p2.rawCell 0; have r0 := h.p2.rawFree 0; have d1 := h.p2.rawCell 1; have r1 := h.p2.rawFree 1; have d2 := h.p2.rawCell 2; have r2 := h.p2.rawFree 2; have d3 := h.p2.rawCell 3; have r3 := h.p2.rawFree 3; have d4 := h.p2.rawCell 4; have r4 := h.p2.rawFree 4; have d5 := h.p2.rawCell 5; have r5 := h.p2.rawFree 5; have d6 := h.p2.rawCell 6; have r6 := h.p2.rawFree 6; simp at d0 d1 d2 d3 d4 d5 d6; replace H := Lib.hid h; clear h)
   | (go_at_call 30; (with_reducible refine (val_checkV p e t s u st lr _ _ E (by rw [HLR.out]; exact HE.out) (fewT_of (by rw [HLR.out]; exact HFL.out)) (Know.has_right (Know.has_refl _)) H.out).mono ?_); rintro e_ wn ⟨rfl, h⟩; have c0 := h.p1.rawCell 0; have c1 := h.p1.rawCell 1; have c2 := h.p1.rawCell 2; have c3 := h.p1.rawCell 3; have c4 := h.p1.rawCell 4; have c5 := h.p1.rawCell 5; have c6 := h.p1.rawCell 6; simp at c0 c1 c2 c3 c4 c5 c6; have d0 := h.p2.rawCell 0; have r0 := h.p2.rawFree 0; have d1 := h.p2.rawCell 1; have r1 := h.p2.rawFree 1; have d2 := h.p2.rawCell 2; have r2 := h.p2.rawFree 2; have d3 := h.p2.rawCell 3; have r3 := h.p2.rawFree 3; have d4 := h.p2.rawCell 4; have r4 := h.p2.rawFree 4; have d5 := h.p2.rawCell 5; have r5 := h.p2.rawFree 5; have d6 := h.p2.rawCell 6; have r6 := h.p2.rawFree 6; simp at d0 d1 d2 d3 d4 d5 d6; replace H := Lib.hid h; clear h))
   have hz : St W0 _ _ (.raw rb #[.int .i64 0, .int .i64 0, .int .i64 0, .int .i64 0, .slice none 0 0, .int .i64 0, .int .i64 0] 37 :: _) := St.sets7 _ _ _ _ _ _ _ (H.out.p2); refine bodyPost_ret (rc_cell_tmp rfl _ _ rb [.int .i64 0, .int .i64 0, .int .i64 0, .int .i64 0, .slice none 0 0, .int .i64 0, .int .i64 0] _ rfl (rc_range hz) Try.underlying37 rfl (by kernel_rfl)) rfl ?_; exact ⟨rfl, (hz.drop.drop.drop).know (Know.has_left (Know.has_refl _))⟩
set_option maxHeartbeats 12000000 in
set_option maxRecDepth 100000 in
theorem val_decode_ok (S : Bs) (hsl : S.length ≤ 1000000) (v : ValS) (hv : valDec S = (v, 0)) {W0 w : World} {K : Know} {L : List Res} (h : St W0 w K L) :
  Calls Try.prog 9 #[.string (bb S)] w fun en w' => ∃ (qt : Option Addr) (capt : Nat) (lr : List (TopS × Value)), en = .returned (.tuple #[.agg #[.int .i64 v.prod, .int .i64 v.epoch, .int .i64 v.timeout, .int .i64 v.state, .slice qt lr.length capt, .int .i64 v.upd, .int .i64 v.started], .int .i64 0]) ∧ lr.map (·.1) = v.tops ∧ St W0 w' (K.and (Know.tops (.slice qt lr.length capt) lr)) L := by
 obtain ⟨rb, hrb⟩ : ∃ b, w.heap.size = b := ⟨_, rfl⟩; have g1 := h.allocRaw #[.int .i64 0, .int .i64 0, .int .i64 0, .int .i64 0, .slice none 0 0, .int .i64 0, .int .i64 0] 37; rw [hrb] at g1; have H := Lib.hid g1; have HSL := Lib.hid (show S.length ≤ 140737488355328 by omega); obtain ⟨⟨a, j0⟩, ha⟩ : ∃ r, (⟨S, 0, 0⟩ : InS).int 2 = r := ⟨_, rfl⟩; have HA := Lib.hid ha; have hat := decI_at S; obtain ⟨j, hj⟩ : ∃ j, decI S = j := ⟨_, rfl⟩; have hjj : j = if a = 0 then j0 else j0.fail 7 := by rw [← hj]; unfold decI; rw [ha]
 obtain ⟨⟨p, i1⟩, h1⟩ : ∃ r, j.int 8 = r := ⟨_, rfl⟩; obtain ⟨⟨e, i2⟩, h2⟩ : ∃ r, i1.int 2 = r := ⟨_, rfl⟩; obtain ⟨⟨t, i3⟩, h3⟩ : ∃ r, i2.int 4 = r := ⟨_, rfl⟩; obtain ⟨⟨s, i4⟩, h4⟩ : ∃ r, i3.int 1 = r := ⟨_, rfl⟩; obtain ⟨⟨l, i5⟩, h5⟩ : ∃ r, i4.tops = r := ⟨_, rfl⟩; obtain ⟨⟨u, i6⟩, h6⟩ : ∃ r, i5.int 8 = r := ⟨_, rfl⟩; obtain ⟨⟨st, i7⟩, h7⟩ : ∃ r, i6.int 8 = r := ⟨_, rfl⟩; have hF := valF_eq h1 h2 h3 h4 h5 h6 h7; rw [hj] at hat; have hfl := valF_few hat hsl; rw [hF] at hfl; have H1 := Lib.hid h1; have H2 := Lib.hid h2; have H3 := Lib.hid h3; have H4 := Lib.hid h4; have H5 := Lib.hid h5; have H6 := Lib.hid h6; have H7 := Lib.hid h7; have HFL := Lib.hid (show FewL l from hfl); obtain ⟨ec, hec⟩ : ∃ ec, i7.close.err = ec := ⟨_, rfl⟩; have HEC := Lib.hid hec; have hde : decE S = ec := by unfold decE; rw [hj, hF]; exact hec
 obtain ⟨hb1, hb2, hb3⟩ := valDec_ok hv (.inr trivial); rw [hde] at hb1; rw [hj, hF] at hb2; have hdz := decE_zero (s := S) (by rw [hde]; exact hb1); rw [ha] at hdz; have ha0 : a = 0 := hdz; rw [if_pos ha0] at hjj; have hb2 : (⟨p, e, t, s, l, u, st⟩ : ValS) = v := hb2; subst hb2; subst hjj; subst ha0; subst hb1; have HE := Lib.hid hb3; clear h g1 ha hat hj h1 h2 h3 h4 h5 h6 h7 hF hfl hec hde hdz hv hsl hb3; go_enter Try.func9, Try.ntmps9
 go_wp2_with (first
  | (go_at_call 24; (with_reducible refine (s_new S HSL.out H.out).mono ?_); rintro e_ wn ⟨bi, rfl, h⟩; replace H := Lib.hid h; clear h)
  | (go_at_call 25; (with_reducible refine (s_intV bi _ _ _ 2 HA.out H.out).mono ?_); rintro e_ wn ⟨rfl, h⟩; replace H := Lib.hid h; clear h)
  | (go_at_call 29; (with_reducible refine (val_fields bi _ _ _ _ _ _ _ _ p e t s u st l H1.out H2.out H3.out H4.out H5.out H6.out H7.out H.out).mono ?_); rintro e_ wn ⟨qt, capt, lr, rfl, hlr, h⟩; obtain ⟨vb, hvb⟩ : ∃ b, wn.heap.size = b := ⟨_, rfl⟩; have h := h.allocRaw #[.int .i64 p, .int .i64 e, .int .i64 t, .int .i64 s, .slice qt lr.length capt, .int .i64 u, .int .i64 st] 37; rw [hvb] at h; have HLR := Lib.hid hlr; clear hlr; replace H := Lib.hid h; clear h)
  | (go_at_call 28; (with_reducible refine (s_closeV bi _ _ HEC.out H.out.p1).mono ?_); rintro e_ wn ⟨rfl, h⟩; have c0 := h.p1.rawCell 0; have c1 := h.p1.rawCell 1; have c2 := h.p1.rawCell 2; have c3 := h.p1.rawCell 3; have c4 := h.p1.rawCell 4; have c5 := h.p1.rawCell 5; have c6 := h.p1.rawCell 6; simp at c0 c1 c2 c3 c4 c5 c6; have d0 := h.p2.rawCell 0; have r0 := h.p2.rawFree 0; have d1 := h.p2.rawCell 1; have r1 := h.p2.rawFree 1; have d2 := h.p2.rawCell 2; have r2 := h.p2.rawFree 2; have d3 := h.p2.rawCell 3; have r3 := h.p2.rawFree 3; have d4 := h.p2.rawCell 4; have r4 := h.p2.rawFree 4; have d5 := h.p2.rawCell 5; have r5 := h.p2.rawFree 5; have d6 := h.p2.rawCell 6; have r6 := h.p2.rawFree 6; simp at d0 d1 d2 d3 d4 d5 d6; replace H := Lib.hid h; clear h)
  | (go_at_call 30; (with_reducible refine (val_checkV p e t s u st lr _ _ 0 (by rw [HLR.out]; exact HE.out) (fewT_of (by rw [HLR.out]; exact HFL.out)) (Know.has_right (Know.has_refl _)) H.out).mono ?_); rintro e_ wn ⟨rfl, h⟩; have c0 := h.p1.rawCell 0; have c1 := h.p1.rawCell 1; have c2 := h.p1.rawCell 2; have c3 := h.p1.rawCell 3; have c4 := h.p1.rawCell 4; have c5 := h.p1.rawCell 5; have c6 := h.p1.rawCell 6; simp at c0 c1 c2 c3 c4 c5 c6; have d0 := h.p2.rawCell 0; have r0 := h.p2.rawFree 0; have d1 := h.p2.rawCell 1; have r1 := h.p2.rawFree 1; have d2 := h.p2.rawCell 2; have r2 := h.p2.rawFree 2; have d3 := h.p2.rawCell 3; have r3 := h.p2.rawFree 3; have d4 := h.p2.rawCell 4; have r4 := h.p2.rawFree 4; have d5 := h.p2.rawCell 5; have r5 := h.p2.rawFree 5; have d6 := h.p2.rawCell 6; have r6 := h.p2.rawFree 6; simp at d0 d1 d2 d3 d4 d5 d6; replace H := Lib.hid h; clear h))
 have hz : St W0 _ _ (.raw rb #[.int .i64 p, .int .i64 e, .int .i64 t, .int .i64 s, .slice qt lr.length capt, .int .i64 u, .int .i64 st] 37 :: _) := St.sets7 _ _ _ _ _ _ _ (H.out.p2); refine bodyPost_ret (rc_cell_tmp rfl _ _ rb [.int .i64 p, .int .i64 e, .int .i64 t, .int .i64 s, .slice qt lr.length capt, .int .i64 u, .int .i64 st] _ rfl (rc_range hz) Try.underlying37 rfl (by kernel_rfl)) rfl ?_; exact ⟨qt, capt, lr, rfl, HLR.out, hz.drop.drop.drop⟩
set_option maxHeartbeats 4000000 in
set_option maxRecDepth 100000 in
theorem jr_get_none (jb mb n : Nat) (m : Int) (f : JF) (id : Bs) (hf : f id = none) (hl : id.length ≤ 1000000) {W0 w : World} {K : Know} {L : List Res} (h : St W0 w K (.raw jb #[.map (some mb), .int .i64 m] 63 :: .gen (jmap mb n f) :: L)) :
  Calls Try.prog 21 #[.pointer (some ⟨jb, 0, none⟩), .string (bb id)] w fun en w' => en = .returned (.tuple #[.agg #[.int .i64 0, .int .i64 0, .int .i64 0, .int .i64 0, .slice none 0 0, .int .i64 0, .int .i64 0], .bool false]) ∧ St W0 w' K (.raw jb #[.map (some mb), .int .i64 m] 63 :: .gen (jmap mb n f) :: L) := by
 obtain ⟨rb, hrb⟩ : ∃ b, w.heap.size = b := ⟨_, rfl⟩; have g1 := h.allocRaw #[.int .i64 0, .int .i64 0, .int .i64 0, .int .i64 0, .slice none 0 0, .int .i64 0, .int .i64 0] 37; rw [hrb] at g1; have c0 := (g1.p1).rawCell 0; have c1 := (g1.p1).rawCell 1; simp at c0 c1; have d0 := (g1).rawCell 0; have d1 := (g1).rawCell 1; have d2 := (g1).rawCell 2; have d3 := (g1).rawCell 3; have d4 := (g1).rawCell 4; have d5 := (g1).rawCell 5; have d6 := (g1).rawCell 6; simp at d0 d1 d2 d3 d4 d5 d6; have r0 := (g1).rawFree 0; have r1 := (g1).rawFree 1; have r2 := (g1).rawFree 2; have r3 := (g1).rawFree 3; have r4 := (g1).rawFree 4; have r5 := (g1).rawFree 5; have r6 := (g1).rawFree 6; have g2 := g1.p2; have H := Lib.hid g2; have HF := Lib.hid hf; have HL := Lib.hid (show id.length ≤ 9223372036854775807 by omega); have hrun := jlook_none g2 61 mapT id HL.out hf; clear h hf hl g1 g2; go_enter Try.func21, Try.ntmps21; go_wp2; have hz := H.out.p1; refine bodyPost_ret (rc_cell_tmp rfl _ _ rb [.int .i64 0, .int .i64 0, .int .i64 0, .int .i64 0, .slice none 0 0, .int .i64 0, .int .i64 0] _ rfl (rc_range hz) Try.underlying37 rfl (by kernel_rfl)) rfl ?_; exact ⟨rfl, hz.drop.p1⟩
set_option maxHeartbeats 2000000 in
set_option maxRecDepth 100000 in
theorem val_encode_ok (p e t s u st : Int) (l : List (TopS × Value)) (q : Option Addr) (cap : Nat) (he : ValS.err ⟨p, e, t, s, l.map (·.1), u, st⟩ = 0) (hR : ValS.R ⟨p, e, t, s, l.map (·.1), u, st⟩) (hf : FewT l) {W0 w : World} {K : Know} {L : List Res} (hk : K.has (Know.tops (.slice q l.length cap) l)) (h : St W0 w K L) :
  Calls Try.prog 33 #[.agg #[.int .i64 p, .int .i64 e, .int .i64 t, .int .i64 s, .slice q l.length cap, .int .i64 u, .int .i64 st]] w fun en w' => en = .returned (.tuple #[.string (bb (ValS.enc ⟨p, e, t, s, l.map (·.1), u, st⟩)), .int .i64 0]) ∧ St W0 w' K L := by
 have HK := Lib.hid hk; have HF := Lib.hid hf; obtain ⟨vb, hvb⟩ : ∃ b, w.heap.size = b := ⟨_, rfl⟩; have h1 := h.allocRaw #[.int .i64 p, .int .i64 e, .int .i64 t, .int .i64 s, .slice q l.length cap, .int .i64 u, .int .i64 st] 37; rw [hvb] at h1; have c0 := (h1).rawCell 0; have c1 := (h1).rawCell 1; have c2 := (h1).rawCell 2; have c3 := (h1).rawCell 3; have c4 := (h1).rawCell 4; have c5 := (h1).rawCell 5; have c6 := (h1).rawCell 6; simp at c0 c1 c2 c3 c4 c5 c6; have H := Lib.hid h1; have HE := Lib.hid he; have hp := ValS.ok_parts _ he; have hrg := ranged_parts _ hp.1; have hft := fit_of_rise l hf hp.2.2.2.2; have hst := hp.2.1; obtain ⟨r1, r2, r3, r4, r5, r6⟩ := hR; simp only at hrg hst r1 r2 r3 r4 r5 r6; have HFT := Lib.hid hft; obtain ⟨y0, hy0⟩ : ∃ y : Bs, [] = y := ⟨_, rfl⟩; obtain ⟨y1, hy1⟩ : ∃ y, y0 ++ beBytes 0 2 = y := ⟨_, rfl⟩; obtain ⟨y2, hy2⟩ : ∃ y, y1 ++ beBytes p 8 = y := ⟨_, rfl⟩; obtain ⟨y3, hy3⟩ : ∃ y, y2 ++ beBytes e 2 = y := ⟨_, rfl⟩; obtain ⟨y4, hy4⟩ : ∃ y, y3 ++ beBytes t 4 = y := ⟨_, rfl⟩; obtain ⟨y5, hy5⟩ : ∃ y, y4 ++ beBytes s 1 = y := ⟨_, rfl⟩; obtain ⟨y6, hy6⟩ : ∃ y, y5 ++ encTs (l.map (·.1)) = y := ⟨_, rfl⟩; obtain ⟨y7, hy7⟩ : ∃ y, y6 ++ beBytes u 8 = y := ⟨_, rfl⟩; obtain ⟨y8, hy8⟩ : ∃ y, y7 ++ beBytes st 8 = y := ⟨_, rfl⟩; have hye : y8 = ValS.enc ⟨p, e, t, s, l.map (·.1), u, st⟩ := by rw [← hy8, ← hy7, ← hy6, ← hy5, ← hy4, ← hy3, ← hy2, ← hy1, ← hy0]; rfl
 have hl1 := congrArg List.length hy1; have hl2 := congrArg List.length hy2; have hl3 := congrArg List.length hy3; have hl4 := congrArg List.length hy4; have hl5 := congrArg List.length hy5; have hl6 := congrArg List.length hy6; have hl7 := congrArg List.length hy7; have hl8 := congrArg List.length hy8; have hl0 := congrArg List.length hy0; simp only [List.length_append, beBytes_length, List.length_nil] at hl0 hl1 hl2 hl3 hl4 hl5 hl6 hl7 hl8; have hTl : (encTs (l.map (·.1))).length ≤ 5000000000000 := by rw [← preT_all]; have h1 := preT_le _ hft _ (Nat.le_refl _); have h2 := hft.1; omega
 have Y1 := Lib.hid (show y0 ++ beBytes 0 (2 : Int).toNat = y1 from hy1); have G1 := Lib.hid (vfits2 0 (by omega)); have Q1 := Lib.hid (show y0.length ≤ 100000000000000 by omega); have Y2 := Lib.hid (show y1 ++ beBytes p (8 : Int).toNat = y2 from hy2); have G2 := Lib.hid (vfits8 p (by omega)); have Q2 := Lib.hid (show y1.length ≤ 100000000000000 by omega); have Y3 := Lib.hid (show y2 ++ beBytes e (2 : Int).toNat = y3 from hy3); have G3 := Lib.hid (vfits2 e (by omega)); have Q3 := Lib.hid (show y2.length ≤ 100000000000000 by omega); have Y4 := Lib.hid (show y3 ++ beBytes t (4 : Int).toNat = y4 from hy4); have G4 := Lib.hid (vfits4 t (by omega)); have Q4 := Lib.hid (show y3.length ≤ 100000000000000 by omega); have Y5 := Lib.hid (show y4 ++ beBytes s (1 : Int).toNat = y5 from hy5); have G5 := Lib.hid (vfits1 s (by omega)); have Q5 := Lib.hid (show y4.length ≤ 100000000000000 by omega); have Y6 := Lib.hid hy6; have Q6 := Lib.hid (show y5.length ≤ 1000000 by omega); have Y7 := Lib.hid (show y6 ++ beBytes u (8 : Int).toNat = y7 from hy7); have G7 := Lib.hid (vfits8 u (by omega)); have Q7 := Lib.hid (show y6.length ≤ 100000000000000 by omega); have Y8 := Lib.hid (show y7 ++ beBytes st (8 : Int).toNat = y8 from hy8); have G8 := Lib.hid (vfits8 st (by omega)); have Q8 := Lib.hid (show y7.length ≤ 100000000000000 by omega); rw [← hye]; clear h h1 hk hf he hp hrg hft hst r1 r2 r3 r4 r5 r6 hTl hye hy1 hy2 hy3 hy4 hy5 hy6 hy7 hy8 hl0 hl1 hl2 hl3 hl4 hl5 hl6 hl7 hl8; go_enter Try.func33, Try.ntmps33
 go_wp2_with (first
  | (go_at_call 30; (with_reducible refine (val_checkV p e t s u st l _ _ 0 HE.out HF.out HK.out H.out).mono ?_); rintro e_ wn ⟨rfl, h⟩; obtain ⟨po, hpo⟩ : ∃ b, wn.heap.size = b := ⟨_, rfl⟩; have h := h.allocOut; rw [hpo, hy0] at h; have c0 := (h.p1).rawCell 0; have c1 := (h.p1).rawCell 1; have c2 := (h.p1).rawCell 2; have c3 := (h.p1).rawCell 3; have c4 := (h.p1).rawCell 4; have c5 := (h.p1).rawCell 5; have c6 := (h.p1).rawCell 6; simp at c0 c1 c2 c3 c4 c5 c6; replace H := Lib.hid h; clear h)
  | (go_at_call 37; (with_reducible refine (so_intV po y0 y1 0 2 Y1.out G1.out Q1.out H.out).mono ?_); rintro e_ wn ⟨rfl, h⟩; have c0 := (h.p1).rawCell 0; have c1 := (h.p1).rawCell 1; have c2 := (h.p1).rawCell 2; have c3 := (h.p1).rawCell 3; have c4 := (h.p1).rawCell 4; have c5 := (h.p1).rawCell 5; have c6 := (h.p1).rawCell 6; simp at c0 c1 c2 c3 c4 c5 c6; replace H := Lib.hid h; clear h)
  | (go_at_call 37; (with_reducible refine (so_intV po y1 y2 p 8 Y2.out G2.out Q2.out H.out).mono ?_); rintro e_ wn ⟨rfl, h⟩; have c0 := (h.p1).rawCell 0; have c1 := (h.p1).rawCell 1; have c2 := (h.p1).rawCell 2; have c3 := (h.p1).rawCell 3; have c4 := (h.p1).rawCell 4; have c5 := (h.p1).rawCell 5; have c6 := (h.p1).rawCell 6; simp at c0 c1 c2 c3 c4 c5 c6; replace H := Lib.hid h; clear h)
  | (go_at_call 37; (with_reducible refine (so_intV po y2 y3 e 2 Y3.out G3.out Q3.out H.out).mono ?_); rintro e_ wn ⟨rfl, h⟩; have c0 := (h.p1).rawCell 0; have c1 := (h.p1).rawCell 1; have c2 := (h.p1).rawCell 2; have c3 := (h.p1).rawCell 3; have c4 := (h.p1).rawCell 4; have c5 := (h.p1).rawCell 5; have c6 := (h.p1).rawCell 6; simp at c0 c1 c2 c3 c4 c5 c6; replace H := Lib.hid h; clear h)
  | (go_at_call 37; (with_reducible refine (so_intV po y3 y4 t 4 Y4.out G4.out Q4.out H.out).mono ?_); rintro e_ wn ⟨rfl, h⟩; have c0 := (h.p1).rawCell 0; have c1 := (h.p1).rawCell 1; have c2 := (h.p1).rawCell 2; have c3 := (h.p1).rawCell 3; have c4 := (h.p1).rawCell 4; have c5 := (h.p1).rawCell 5; have c6 := (h.p1).rawCell 6; simp at c0 c1 c2 c3 c4 c5 c6; replace H := Lib.hid h; clear h)
  | (go_at_call 37; (with_reducible refine (so_intV po y4 y5 s 1 Y5.out G5.out Q5.out H.out).mono ?_); rintro e_ wn ⟨rfl, h⟩; have c0 := (h.p1).rawCell 0; have c1 := (h.p1).rawCell 1; have c2 := (h.p1).rawCell 2; have c3 := (h.p1).rawCell 3; have c4 := (h.p1).rawCell 4; have c5 := (h.p1).rawCell 5; have c6 := (h.p1).rawCell 6; simp at c0 c1 c2 c3 c4 c5 c6; replace H := Lib.hid h; clear h)
  | (go_at_call 55; (with_reducible refine (val_putTopics po y5 y6 l _ _ Y6.out Q6.out HFT.out HK.out H.out).mono ?_); rintro e_ wn ⟨rfl, h⟩; have c0 := (h.p1).rawCell 0; have c1 := (h.p1).rawCell 1; have c2 := (h.p1).rawCell 2; have c3 := (h.p1).rawCell 3; have c4 := (h.p1).rawCell 4; have c5 := (h.p1).rawCell 5; have c6 := (h.p1).rawCell 6; simp at c0 c1 c2 c3 c4 c5 c6; replace H := Lib.hid h; clear h)
  | (go_at_call 37; (with_reducible refine (so_intV po y6 y7 u 8 Y7.out G7.out Q7.out H.out).mono ?_); rintro e_ wn ⟨rfl, h⟩; have c0 := (h.p1).rawCell 0; have c1 := (h.p1).rawCell 1; have c2 := (h.p1).rawCell 2; have c3 := (h.p1).rawCell 3; have c4 := (h.p1).rawCell 4; have c5 := (h.p1).rawCell 5; have c6 := (h.p1).rawCell 6; simp at c0 c1 c2 c3 c4 c5 c6; replace H := Lib.hid h; clear h)
  | (go_at_call 37; (with_reducible refine (so_intV po y7 y8 st 8 Y8.out G8.out Q8.out H.out).mono ?_); rintro e_ wn ⟨rfl, h⟩; have c0 := (h.p1).rawCell 0; have c1 := (h.p1).rawCell 1; have c2 := (h.p1).rawCell 2; have c3 := (h.p1).rawCell 3; have c4 := (h.p1).rawCell 4; have c5 := (h.p1).rawCell 5; have c6 := (h.p1).rawCell 6; simp at c0 c1 c2 c3 c4 c5 c6; replace H := Lib.hid h; clear h)
  | (go_at_call 39; (with_reducible refine (so_textV po y8 H.out).mono ?_); rintro e_ wn ⟨rfl, h⟩; replace H := Lib.hid h; clear h))
 go_ret2; exact ⟨rfl, H.out.drop.drop⟩
def topW (t : TopS) : Nat := t.name.length + 4 * t.parts.length + 6
def topWs (l : List TopS) : Nat := (l.map topW).sum
def few (l : List TopS) : Int := if topWs l ≤ 1000 then 1 else 0
theorem val_decode_okV (S : Bs) (hsl : S.length ≤ 1000000) (p e t s u st : Int) (tops : List TopS) (hv : valDec S = (⟨p, e, t, s, tops, u, st⟩, 0)) {W0 w : World} {K : Know} {L : List Res} (h : St W0 w K L) :
 Calls Try.prog 9 #[.string (bb S)] w fun en w' => ∃ (qt : Option Addr) (capt : Nat) (lr : List (TopS × Value)), en = .returned (.tuple #[.agg #[.int .i64 p, .int .i64 e, .int .i64 t, .int .i64 s, .slice qt lr.length capt, .int .i64 u, .int .i64 st], .int .i64 0]) ∧ lr.map (·.1) = tops ∧ St W0 w' (K.and (Know.tops (.slice qt lr.length capt) lr)) L := val_decode_ok S hsl ⟨p, e, t, s, tops, u, st⟩ hv h
def vz37 : Bs := ValS.enc ⟨0, 0, 0, 0, [], 0, -1⟩
theorem vz37_len : vz37.length = 37 := by kernel_rfl
theorem vz37_len2 : vz37.length ≤ 1000000 := by rw [vz37_len]; decide
theorem vz37_dec : valDec vz37 = (⟨0, 0, 0, 0, [], 0, -1⟩, 0) := by kernel_rfl
theorem few_nil : FewT [] := ⟨by decide, fun x hx => by cases hx⟩
set_option maxHeartbeats 4000000 in
set_option maxRecDepth 100000 in
theorem jr_get_some (jb mb n : Nat) (m : Int) (f : JF) (id S : Bs) (hf : f id = some S) (hl : id.length ≤ 1000000) (hs : S.length ≤ 1000000) (p e t s u st : Int) (tops : List TopS) (hv : valDec S = (⟨p, e, t, s, tops, u, st⟩, 0)) {W0 w : World} {K : Know} {L : List Res} (h : St W0 w K (.raw jb #[.map (some mb), .int .i64 m] 63 :: .gen (jmap mb n f) :: L)) :
  Calls Try.prog 21 #[.pointer (some ⟨jb, 0, none⟩), .string (bb id)] w fun en w' => ∃ (qt : Option Addr) (capt : Nat) (lr : List (TopS × Value)), en = .returned (.tuple #[.agg #[.int .i64 p, .int .i64 e, .int .i64 t, .int .i64 s, .slice qt lr.length capt, .int .i64 u, .int .i64 st], .bool true]) ∧ lr.map (·.1) = tops ∧ St W0 w' (K.and (Know.tops (.slice qt lr.length capt) lr)) (.raw jb #[.map (some mb), .int .i64 m] 63 :: .gen (jmap mb n f) :: L) := by
 obtain ⟨rb, hrb⟩ : ∃ b, w.heap.size = b := ⟨_, rfl⟩; have g1 := h.allocRaw #[.int .i64 0, .int .i64 0, .int .i64 0, .int .i64 0, .slice none 0 0, .int .i64 0, .int .i64 0] 37; rw [hrb] at g1; have c0 := (g1.p1).rawCell 0; have c1 := (g1.p1).rawCell 1; simp at c0 c1; have d0 := (g1).rawCell 0; have d1 := (g1).rawCell 1; have d2 := (g1).rawCell 2; have d3 := (g1).rawCell 3; have d4 := (g1).rawCell 4; have d5 := (g1).rawCell 5; have d6 := (g1).rawCell 6; simp at d0 d1 d2 d3 d4 d5 d6; have r0 := (g1).rawFree 0; have r1 := (g1).rawFree 1; have r2 := (g1).rawFree 2; have r3 := (g1).rawFree 3; have r4 := (g1).rawFree 4; have r5 := (g1).rawFree 5; have r6 := (g1).rawFree 6; have g2 := g1.p2; have H := Lib.hid g2; have HF := Lib.hid hf; have HV := Lib.hid hv; have HSL := Lib.hid hs; have HL := Lib.hid (show id.length ≤ 9223372036854775807 by omega); have hrun := jlook_some g2 61 mapT id S HL.out hf; clear h hf hl g1 g2 hv hs; go_enter Try.func21, Try.ntmps21; go_wp2_with (go_at_call 9; (try clear c0 c1 d0 r0 d1 r1 d2 r2 d3 r3 d4 r4 d5 r5 d6 r6); (with_reducible refine (val_decode_okV S HSL.out p e t s u st tops HV.out H.out).mono ?_); rintro e_ wn ⟨qt, capt, lr, rfl, hlr, h⟩; obtain ⟨vb, hvb⟩ : ∃ b, wn.heap.size = b := ⟨_, rfl⟩; have h := h.allocRaw #[.int .i64 p, .int .i64 e, .int .i64 t, .int .i64 s, .slice qt lr.length capt, .int .i64 u, .int .i64 st] 37; rw [hvb] at h; have c0 := (h).rawCell 0; have c1 := (h).rawCell 1; have c2 := (h).rawCell 2; have c3 := (h).rawCell 3; have c4 := (h).rawCell 4; have c5 := (h).rawCell 5; have c6 := (h).rawCell 6; simp at c0 c1 c2 c3 c4 c5 c6; have q0 := (h).rawFree 0; have q1 := (h).rawFree 1; have q2 := (h).rawFree 2; have q3 := (h).rawFree 3; have q4 := (h).rawFree 4; have q5 := (h).rawFree 5; have q6 := (h).rawFree 6; have d0 := (h.p2).rawCell 0; have d1 := (h.p2).rawCell 1; have d2 := (h.p2).rawCell 2; have d3 := (h.p2).rawCell 3; have d4 := (h.p2).rawCell 4; have d5 := (h.p2).rawCell 5; have d6 := (h.p2).rawCell 6; simp at d0 d1 d2 d3 d4 d5 d6; have r0 := (h.p2).rawFree 0; have r1 := (h.p2).rawFree 1; have r2 := (h.p2).rawFree 2; have r3 := (h.p2).rawFree 3; have r4 := (h.p2).rawFree 4; have r5 := (h.p2).rawFree 5; have r6 := (h.p2).rawFree 6; have HLR := Lib.hid hlr; clear hlr; replace H := Lib.hid h; clear h); have hz : St W0 _ _ (.raw rb #[.int .i64 p, .int .i64 e, .int .i64 t, .int .i64 s, .slice qt lr.length capt, .int .i64 u, .int .i64 st] 37 :: _) := St.sets7 _ _ _ _ _ _ _ (H.out.p2); refine bodyPost_ret (rc_cell_tmp rfl _ _ rb [.int .i64 p, .int .i64 e, .int .i64 t, .int .i64 s, .slice qt lr.length capt, .int .i64 u, .int .i64 st] _ rfl (rc_range hz) Try.underlying37 rfl (by kernel_rfl)) rfl ?_; exact ⟨qt, capt, lr, rfl, HLR.out, hz.drop.drop.p1⟩

theorem jr_right (u : Bool) (d : Bs) (r : Bool) (hr : (⟨u, d⟩ : BlobS).right = r) {W0 w : World} {K : Know} {L : List Res} (h : St W0 w K L) :
 Calls Try.prog 54 #[.agg #[.bool u, .string (bb d)]] w fun en w' => en = .returned (.bool r) ∧ St W0 w' K L := hr ▸ blob_right ⟨u, d⟩ h
set_option maxHeartbeats 4000000 in
set_option maxRecDepth 100000 in
theorem jr_learn_bad (jb mb n : Nat) (m : Int) (f : JF) (id d : Bs) (nu : Bool) (hl : id.length ≤ 1000000) (hr : (⟨nu, d⟩ : BlobS).right = false) {W0 w : World} {K : Know} {L : List Res} (h : St W0 w K (.raw jb #[.map (some mb), .int .i64 m] 63 :: .gen (jmap mb n f) :: L)) :
  Calls Try.prog 31 #[.pointer (some ⟨jb, 0, none⟩), .string (bb id), .agg #[.bool nu, .string (bb d)]] w fun en w' => en = .returned (.int .i64 4) ∧ St W0 w' K (.raw jb #[.map (some mb), .int .i64 m] 63 :: .gen (jmap mb n f) :: L) := by
 obtain ⟨xb, hxb⟩ : ∃ b, w.heap.size = b := ⟨_, rfl⟩; have g1 := h.allocRaw #[.bool nu, .string (bb d)] 28; rw [hxb] at g1; have x0 := (g1).rawCell 0; have x1 := (g1).rawCell 1; simp at x0 x1; have c0 := (g1.p1).rawCell 0; have c1 := (g1.p1).rawCell 1; simp at c0 c1; have g2 := g1.p2; have H := Lib.hid g2; have HL := Lib.hid (show id.length ≤ 9223372036854775807 by omega); have HR := Lib.hid hr; clear h hl g1 g2 hr; go_enter Try.func31, Try.ntmps31; go_wp2_with (go_at_call 54; (try clear x0 x1 c0 c1); (with_reducible refine (jr_right nu d _ HR.out H.out).mono ?_); rintro e_ wn ⟨rfl, h⟩; have x0 := (h.p1).rawCell 0; have x1 := (h.p1).rawCell 1; simp at x0 x1; have c0 := (h.p2).rawCell 0; have c1 := (h.p2).rawCell 1; simp at c0 c1; replace H := Lib.hid h; clear h); go_ret; exact ⟨rfl, H.out.p1.drop.p1⟩
set_option maxHeartbeats 4000000 in
set_option maxRecDepth 100000 in
theorem jr_learn_drop (jb mb n : Nat) (m : Int) (f : JF) (id : Bs) (hl : id.length ≤ 1000000) {W0 w : World} {K : Know} {L : List Res} (h : St W0 w K (.raw jb #[.map (some mb), .int .i64 m] 63 :: .gen (jmap mb n f) :: L)) :
  Calls Try.prog 31 #[.pointer (some ⟨jb, 0, none⟩), .string (bb id), .agg #[.bool true, .string (bb [])]] w fun en w' => en = .returned (.int .i64 0) ∧ St W0 w' K (.raw jb #[.map (some mb), .int .i64 m] 63 :: .gen (jmap mb n (jset f id none)) :: L) := by
 obtain ⟨xb, hxb⟩ : ∃ b, w.heap.size = b := ⟨_, rfl⟩; have g1 := h.allocRaw #[.bool true, .string (bb [])] 28; rw [hxb] at g1; have x0 := (g1).rawCell 0; have x1 := (g1).rawCell 1; simp at x0 x1; have c0 := (g1.p1).rawCell 0; have c1 := (g1.p1).rawCell 1; simp at c0 c1; have g2 := g1.p2; have H := Lib.hid g2; have HL := Lib.hid (show id.length ≤ 9223372036854775807 by omega); clear h hl g1 g2; go_enter Try.func31, Try.ntmps31
 go_wp2_with (first
  | (go_at_call 54; (try clear x0 x1 c0 c1); (with_reducible refine (jr_right true [] _ (show (⟨true, []⟩ : BlobS).right = true from rfl) H.out).mono ?_); rintro e_ wn ⟨rfl, h⟩; have x0 := (h.p1).rawCell 0; have x1 := (h.p1).rawCell 1; simp at x0 x1; have c0 := (h.p2).rawCell 0; have c1 := (h.p2).rawCell 1; simp at c0 c1; obtain ⟨w9, hrun, h9⟩ := jdrop_run h 61 0 mapT id HL.out; have h := h9; clear h9; replace H := Lib.hid h; clear h))
 go_ret; exact ⟨rfl, H.out.p1.drop.p1⟩
set_option maxHeartbeats 4000000 in
set_option maxRecDepth 100000 in
theorem jr_learn_err (jb mb n : Nat) (m : Int) (f : JF) (id d : Bs) (v : ValS) (E : Int) (hv : valDec d = (v, E)) (h0 : E ≠ 0) (hl : id.length ≤ 1000000) (hd : d.length ≤ 1000000) {W0 w : World} {K : Know} {L : List Res} (h : St W0 w K (.raw jb #[.map (some mb), .int .i64 m] 63 :: .gen (jmap mb n f) :: L)) :
  Calls Try.prog 31 #[.pointer (some ⟨jb, 0, none⟩), .string (bb id), .agg #[.bool false, .string (bb d)]] w fun en w' => en = .returned (.int .i64 E) ∧ St W0 w' K (.raw jb #[.map (some mb), .int .i64 m] 63 :: .gen (jmap mb n f) :: L) := by
 obtain ⟨xb, hxb⟩ : ∃ b, w.heap.size = b := ⟨_, rfl⟩; have g1 := h.allocRaw #[.bool false, .string (bb d)] 28; rw [hxb] at g1; have x0 := (g1).rawCell 0; have x1 := (g1).rawCell 1; simp at x0 x1; have c0 := (g1.p1).rawCell 0; have c1 := (g1.p1).rawCell 1; simp at c0 c1; have g2 := g1.p2; have H := Lib.hid g2; have HL := Lib.hid (show id.length ≤ 9223372036854775807 by omega); have HV := Lib.hid hv; have H0 := Lib.hid h0; have HD := Lib.hid hd; have e1 : (E == 0) = false := by rw [beq_eq_false_iff_ne]; exact h0
 have e2 : (E != 0) = true := by simp [bne, e1]
 clear h hl g1 g2 hv h0 hd; go_enter Try.func31, Try.ntmps31
 go_wp2_with (first
  | (go_at_call 54; (try clear x0 x1 c0 c1); (with_reducible refine (jr_right false d _ (show (⟨false, d⟩ : BlobS).right = true from rfl) H.out).mono ?_); rintro e_ wn ⟨rfl, h⟩; have x0 := (h.p1).rawCell 0; have x1 := (h.p1).rawCell 1; simp at x0 x1; have c0 := (h.p2).rawCell 0; have c1 := (h.p2).rawCell 1; simp at c0 c1; replace H := Lib.hid h; clear h)
  | (go_at_call 9; (try clear x0 x1 c0 c1); (with_reducible refine (val_decode_bad d HD.out v E HV.out H0.out H.out).mono ?_); rintro e_ wn ⟨rfl, h⟩; have h := h.alloc (.cells #[.int .i64 0, .int .i64 0, .int .i64 0, .int .i64 0, .slice none 0 0, .int .i64 0, .int .i64 0] 37 (0, 0)); replace H := Lib.hid h; clear h))
 go_ret; exact ⟨rfl, H.out.p1.drop.p1⟩
set_option maxHeartbeats 4000000 in
set_option maxRecDepth 100000 in
theorem jr_learn_put (jb mb n : Nat) (m : Int) (f : JF) (id d : Bs) (p e t s u st : Int) (tops : List TopS) (hv : valDec d = (⟨p, e, t, s, tops, u, st⟩, 0)) (hl : id.length ≤ 1000000) (hd : d.length ≤ 1000000) (hn : n < 1000000) {W0 w : World} {K : Know} {L : List Res} (h : St W0 w K (.raw jb #[.map (some mb), .int .i64 m] 63 :: .gen (jmap mb n f) :: L)) :
  Calls Try.prog 31 #[.pointer (some ⟨jb, 0, none⟩), .string (bb id), .agg #[.bool false, .string (bb d)]] w fun en w' => en = .returned (.int .i64 0) ∧ St W0 w' K (.raw jb #[.map (some mb), .int .i64 m] 63 :: .gen (jmap mb (n + 1) (jset f id (some d))) :: L) := by
 obtain ⟨xb, hxb⟩ : ∃ b, w.heap.size = b := ⟨_, rfl⟩; have g1 := h.allocRaw #[.bool false, .string (bb d)] 28; rw [hxb] at g1; have x0 := (g1).rawCell 0; have x1 := (g1).rawCell 1; simp at x0 x1; have c0 := (g1.p1).rawCell 0; have c1 := (g1.p1).rawCell 1; simp at c0 c1; have g2 := g1.p2; have H := Lib.hid g2; have HL := Lib.hid (show id.length ≤ 9223372036854775807 by omega); have HV := Lib.hid hv; have HSL := Lib.hid hd; have HD := Lib.hid (show d.length ≤ 9223372036854775807 by omega); have HN := Lib.hid hn; clear h hl g1 g2 hv hd hn; go_enter Try.func31, Try.ntmps31
 go_upto_region 9 with (first
  | (go_at_call 54; (try clear x0 x1 c0 c1); (with_reducible refine (jr_right false d _ (show (⟨false, d⟩ : BlobS).right = true from rfl) H.out).mono ?_); rintro e_ wn ⟨rfl, h⟩; have x0 := (h.p1).rawCell 0; have x1 := (h.p1).rawCell 1; simp at x0 x1; have c0 := (h.p2).rawCell 0; have c1 := (h.p2).rawCell 1; simp at c0 c1; replace H := Lib.hid h; clear h)
  | (go_at_call 9; (try clear x0 x1 c0 c1); (with_reducible refine (val_decode_okV d HSL.out p e t s u st tops HV.out H.out).mono ?_); rintro e_ wn ⟨qt, capt, lr, rfl, hlr, h⟩; have h := h.know (Know.has_left (Know.has_refl _)); have h := h.alloc (.cells #[.int .i64 p, .int .i64 e, .int .i64 t, .int .i64 s, .slice qt lr.length capt, .int .i64 u, .int .i64 st] 37 (0, 0)); have x0 := (h.p1).rawCell 0; have x1 := (h.p1).rawCell 1; simp at x0 x1; have c0 := (h.p2).rawCell 0; have c1 := (h.p2).rawCell 1; simp at c0 c1; replace H := Lib.hid h; clear h))
 obtain ⟨w2, hrun, h2⟩ := jstore_run H.out.drew HN.out 61 mapT id d HL.out HD.out; have H2 := Lib.hid h2; clear h2
 go_region
 go_wp2; go_ret; exact ⟨rfl, H2.out.p1.drop.p1⟩
set_option maxHeartbeats 1000000 in
set_option maxRecDepth 100000 in
theorem key_right (s : Bs) (hs : s.length ≤ 140737488355328) {W0 w : World} {K : Know} {L : List Res} (h : St W0 w K L) :
  Calls Try.prog 36 #[.string (bb s)] w fun en w' => en = .returned (.bool (keyRight s)) ∧ St W0 w' K L := by
 have H := Lib.hid h; clear h
 cases s with
 | nil =>
  go_enter Try.func36, Try.ntmps36; go_wp2; go_ret; exact ⟨rfl, H.out⟩
 | cons c t =>
  have HS := Lib.hid hs; clear hs; go_enter Try.func36, Try.ntmps36; go_wp2; go_ret; refine ⟨ret_bool ?_, H.out⟩; unfold keyRight; rw [Bool.eq_iff_iff]
  simp
  omega

set_option maxHeartbeats 1000000 in
set_option maxRecDepth 100000 in
theorem key_encode (s : Bs) (hs : s.length ≤ 40000) {W0 w : World} {K : Know} {L : List Res} (h : St W0 w K L) :
   Calls Try.prog 18 #[.string (bb s)] w fun en w' => en = .returned (.tuple #[.string (bb (keyEnc s).1), .int .i64 (keyEnc s).2]) ∧ St W0 w' K L := by
 have H := Lib.hid h; have HS := Lib.hid (show s.length ≤ 140737488355328 by omega); have HS2 := Lib.hid hs; clear h hs
 cases hr : keyRight s
 · have e : keyEnc s = ([], 4) := by unfold keyEnc; rw [hr]; rfl
   rw [e]; have ER := Lib.hid hr; clear e hr; go_enter Try.func18, Try.ntmps18; go_wp2_with (go_at_call 36; refine (key_right s HS.out stQ).mono ?_; (repeat first | rw [ER.out]); rintro e wn ⟨rfl, h⟩; replace H := Lib.hid h; clear h); go_ret2; exact ⟨rfl, H.out⟩
 · have e : keyEnc s = (keyBytes s, 0) := by unfold keyEnc; rw [hr]; rfl
   rw [e]; have hle : s.length ≤ 32767 := by unfold keyRight at hr; simp at hr; exact hr.2
   have ER := Lib.hid hr; have E1 := Lib.hid (show (⟨[], 0⟩ : OutS).int 0 2 = ⟨beBytes 0 2, 0⟩ from by decide +kernel)
   have E2 := Lib.hid (show (⟨beBytes 0 2, 0⟩ : OutS).putText s = ⟨keyBytes s, 0⟩ from by
    unfold OutS.putText OutS.putFixed OutS.int OutS.putData; rw [if_pos (fits_len2 s hle)]
    show (((⟨beBytes 0 2, 0⟩ : OutS).put _).put s) = _
    rw [OutS.put_put]; unfold keyBytes; rw [List.append_assoc]
    rfl)
   have E3 := Lib.hid (show (⟨keyBytes s, 0⟩ : OutS).text = (keyBytes s, 0) from rfl); clear e hr hle; go_enter Try.func18, Try.ntmps18
   go_wp2_with (first
    | (go_at_call 36; refine (key_right s HS.out stQ).mono ?_; (repeat first | rw [ER.out]); rintro e wn ⟨rfl, h⟩; replace H := Lib.hid h; clear h; replace H := Lib.hid H.out.allocOut)
    | (go_at_call 37; refine (so_int _ _ 0 2 (by decide) stQ (by simp [OutS.ok])).mono ?_; (repeat first | rw [E1.out]); rintro e wn ⟨rfl, h⟩; replace H := Lib.hid h; clear h)
    | (go_at_call 38; refine (blob_putText _ _ s stQ (by have := HS2.out; simp only [OutS.ok, beBytes_length]; omega)).mono ?_; (repeat first | rw [E2.out]); rintro e wn ⟨rfl, h⟩; replace H := Lib.hid h; clear h)
    | (go_at_call 39; refine (so_text _ _ stQ).mono ?_; (repeat first | rw [E3.out]); rintro e wn ⟨rfl, h⟩; replace H := Lib.hid h; clear h))
   go_ret2; exact ⟨rfl, H.out.drop⟩

theorem keyDec_tuple (s : Bs) : Value.tuple #[.string (bb (keyDec s).1), .int .i64 (keyDec s).2] = if (keyJ s).close.err = 0 then .tuple #[.string (bb (keyI s).text.1), .int .i64 0] else .tuple #[.string (bb []), .int .i64 (keyJ s).close.err] := by
 unfold keyDec; split <;> rfl
set_option maxHeartbeats 1000000 in
set_option maxRecDepth 100000 in
theorem key_decode (s : Bs) (hs : s.length ≤ 40100) {W0 w : World} {K : Know} {L : List Res} (h : St W0 w K L) :
  Calls Try.prog 7 #[.string (bb s)] w fun en w' => en = .returned (.tuple #[.string (bb (keyDec s).1), .int .i64 (keyDec s).2]) ∧ St W0 w' K L := by
 have H := Lib.hid h; have HS := Lib.hid (show s.length ≤ 140737488355328 by omega); clear h hs; rw [keyDec_tuple]; obtain ⟨a, ha⟩ : ∃ a, keyA s = a := ⟨_, rfl⟩; have hI : keyI s = if a.1 = 0 then a.2 else a.2.fail 7 := by unfold keyI; rw [ha]
 obtain ⟨i, hi⟩ : ∃ i, keyI s = i := ⟨_, rfl⟩; rw [hi] at hI; obtain ⟨t, ht⟩ : ∃ t, i.text = t := ⟨_, rfl⟩; have hJ : keyJ s = if t.1 = [] then t.2.fail 4 else t.2 := by unfold keyJ; rw [hi, ht]
 obtain ⟨j, hj⟩ : ∃ j, keyJ s = j := ⟨_, rfl⟩; rw [hj] at hJ; obtain ⟨c, hc⟩ : ∃ c, j.close = c := ⟨_, rfl⟩; rw [hj, hc, hi, ht]; have EA := Lib.hid (show (⟨s, 0, 0⟩ : InS).int 2 = a from ha); have ET := Lib.hid ht; have EC := Lib.hid hc; clear ha hi ht hj hc
 by_cases h1 : a.1 = 0 <;> by_cases h2 : t.1 = [] <;> by_cases h3 : c.err = 0
 all_goals
  first | rw [if_pos h1] at hI | rw [if_neg h1] at hI
  first | rw [if_pos h2] at hJ | rw [if_neg h2] at hJ
  first | rw [if_pos h3] | rw [if_neg h3]
  have b1 : (a.1 != 0) = decide (a.1 ≠ 0) := by by_cases h : a.1 = 0 <;> simp [h]
  have b2 : t.1.isEmpty = decide (t.1 = []) := by cases t.1 <;> simp
  have b3 : (c.err != 0) = decide (c.err ≠ 0) := by by_cases h : c.err = 0 <;> simp [h]
  first | rw [decide_eq_true h1] at b1 | rw [decide_eq_false (not_not_intro h1)] at b1
  first | rw [decide_eq_true h2] at b2 | rw [decide_eq_false h2] at b2
  first | rw [decide_eq_true h3] at b3 | rw [decide_eq_false (not_not_intro h3)] at b3
  have EI := Lib.hid hI.symm; have EJ := Lib.hid hJ.symm; clear h1 h2 h3 hI hJ; go_enter Try.func7, Try.ntmps7
  go_wp2_with (first
   | (go_at_call 24; refine (s_new s HS.out stQ).mono ?_; rintro e wn ⟨bi, rfl, h⟩; replace H := Lib.hid h; clear h)
   | (go_at_call 25; refine (s_int _ _ 2 stQ).mono ?_; (repeat first | rw [EA.out]); rintro e wn ⟨rfl, h⟩; replace H := Lib.hid h; clear h; (try rw [EI.out] at H))
   | (go_at_call 26; refine (s_fail _ _ _ stQ).mono ?_; (repeat first | rw [EI.out] | rw [EJ.out]); rintro e wn ⟨rfl, h⟩; replace H := Lib.hid h; clear h)
   | (go_at_call 27; refine (blob_text _ _ stQ).mono ?_; (repeat first | rw [ET.out]); rintro e wn ⟨rfl, h⟩; replace H := Lib.hid h; clear h; (try rw [EJ.out] at H))
   | (go_at_call 28; refine (s_close _ _ stQ).mono ?_; (repeat first | rw [EC.out]); rintro e wn ⟨rfl, h⟩; replace H := Lib.hid h; clear h))
  go_ret2; exact ⟨rfl, H.out.drop⟩
theorem key_encode' (s x : Bs) (e : Int) (hs : s.length ≤ 40000) (hx : keyEnc s = (x, e)) {W0 w : World} {K : Know} {L : List Res} (h : St W0 w K L) :
  Calls Try.prog 18 #[.string (bb s)] w fun en w' => en = .returned (.tuple #[.string (bb x), .int .i64 e]) ∧ St W0 w' K L := by
 have := key_encode s hs h; rw [hx] at this; exact this
theorem key_decode' (s x : Bs) (e : Int) (hs : s.length ≤ 40100) (hx : keyRd s = (x, e)) {W0 w : World} {K : Know} {L : List Res} (h : St W0 w K L) :
  Calls Try.prog 7 #[.string (bb s)] w fun en w' => en = .returned (.tuple #[.string (bb x), .int .i64 e]) ∧ St W0 w' K L := by
 have := key_decode s hs h; rw [keyDec_eq, hx] at this; exact this
theorem keyRd_len (s : Bs) : (keyRd s).1.length ≤ s.length := by
 unfold keyRd
 repeat' split
 all_goals simp
set_option maxHeartbeats 4000000 in
set_option maxRecDepth 100000 in
theorem jr_apply_key (jb mb n : Nat) (m : Int) (f : JF) (key id d : Bs) (nu : Bool) (E : Int) (hky : keyRd key = (id, E)) (h0 : E ≠ 0) (hk1 : key.length ≤ 1000) {W0 w : World} {K : Know} {L : List Res} (h : St W0 w K (.raw jb #[.map (some mb), .int .i64 m] 63 :: .gen (jmap mb n f) :: L)) :
  Calls Try.prog 11 #[.pointer (some ⟨jb, 0, none⟩), .agg #[.string (bb key), .bool nu, .string (bb d)]] w fun en w' => en = .returned (.int .i64 E) ∧ St W0 w' K (.raw jb #[.map (some mb), .int .i64 m] 63 :: .gen (jmap mb n f) :: L) := by
 obtain ⟨xb, hxb⟩ : ∃ b, w.heap.size = b := ⟨_, rfl⟩; have g1 := h.allocRaw #[.string (bb key), .bool nu, .string (bb d)] 30; rw [hxb] at g1; have x0 := (g1).rawCell 0; have x1 := (g1).rawCell 1; have x2 := (g1).rawCell 2; simp at x0 x1 x2; have g2 := g1.p1.p2.p1; have H := Lib.hid g2; have HKL := Lib.hid (show key.length ≤ 40100 by omega); have HKY := Lib.hid hky; have e1 : (E == 0) = false := by rw [beq_eq_false_iff_ne]; exact h0
 have e2 : (E != 0) = true := by simp [bne, e1]
 clear h g1 g2 hky h0 hk1; go_enter Try.func11, Try.ntmps11; go_wp2_with (go_at_call 7; (try clear x0 x1 x2); (try clear c1 r1); (with_reducible refine (key_decode' key id E HKL.out HKY.out H.out).mono ?_); rintro e_ wn ⟨rfl, h⟩; have xx := h.p2; have x0 := (xx).rawCell 0; have x1 := (xx).rawCell 1; have x2 := (xx).rawCell 2; simp at x0 x1 x2; clear xx; replace H := Lib.hid h; clear h); go_ret; exact ⟨rfl, H.out.p2.drop⟩
set_option maxHeartbeats 4000000 in
set_option maxRecDepth 100000 in
theorem jr_apply_bad (jb mb n : Nat) (m : Int) (f : JF) (key id d : Bs) (nu : Bool) (hky : keyRd key = (id, 0)) (hr : (⟨nu, d⟩ : BlobS).right = false) (hk1 : key.length ≤ 1000) (hid : id.length ≤ 1000) {W0 w : World} {K : Know} {L : List Res} (h : St W0 w K (.raw jb #[.map (some mb), .int .i64 m] 63 :: .gen (jmap mb n f) :: L)) :
  Calls Try.prog 11 #[.pointer (some ⟨jb, 0, none⟩), .agg #[.string (bb key), .bool nu, .string (bb d)]] w fun en w' => en = .returned (.int .i64 4) ∧ St W0 w' K (.raw jb #[.map (some mb), .int .i64 m] 63 :: .gen (jmap mb n f) :: L) := by
 obtain ⟨xb, hxb⟩ : ∃ b, w.heap.size = b := ⟨_, rfl⟩; have g1 := h.allocRaw #[.string (bb key), .bool nu, .string (bb d)] 30; rw [hxb] at g1; have x0 := (g1).rawCell 0; have x1 := (g1).rawCell 1; have x2 := (g1).rawCell 2; simp at x0 x1 x2; have g2 := g1.p1.p2.p1; have H := Lib.hid g2; have HKL := Lib.hid (show key.length ≤ 40100 by omega); have HKY := Lib.hid hky; have HR := Lib.hid hr; have HI := Lib.hid (show id.length ≤ 1000000 by omega); clear h g1 g2 hky hk1 hr hid; go_enter Try.func11, Try.ntmps11
 go_wp2_with (first
  | (go_at_call 7; (try clear x0 x1 x2); (try clear c1 r1); (with_reducible refine (key_decode' key id 0 HKL.out HKY.out H.out).mono ?_); rintro e_ wn ⟨rfl, h⟩; have xx := h.p2; have x0 := (xx).rawCell 0; have x1 := (xx).rawCell 1; have x2 := (xx).rawCell 2; simp at x0 x1 x2; clear xx; replace H := Lib.hid h; clear h)
  | (go_at_call 31; (try clear x0 x1 x2); (try clear c1 r1); (with_reducible refine (jr_learn_bad jb mb n m f id d nu HI.out HR.out H.out).mono ?_); rintro e_ wn ⟨rfl, h⟩; have xx := h.p2; have x0 := (xx).rawCell 0; have x1 := (xx).rawCell 1; have x2 := (xx).rawCell 2; simp at x0 x1 x2; clear xx; have c1 := h.rawCell 1; simp at c1; have r1 := h.rawFree 1; replace H := Lib.hid h; clear h))
 go_ret; exact ⟨rfl, H.out.p2.drop⟩
set_option maxHeartbeats 4000000 in
set_option maxRecDepth 100000 in
theorem jr_apply_err (jb mb n : Nat) (m : Int) (f : JF) (key id d : Bs) (v : ValS) (E : Int) (hky : keyRd key = (id, 0)) (hv : valDec d = (v, E)) (h0 : E ≠ 0) (hk1 : key.length ≤ 1000) (hid : id.length ≤ 1000) (hd : d.length ≤ 1000) {W0 w : World} {K : Know} {L : List Res} (h : St W0 w K (.raw jb #[.map (some mb), .int .i64 m] 63 :: .gen (jmap mb n f) :: L)) :
  Calls Try.prog 11 #[.pointer (some ⟨jb, 0, none⟩), .agg #[.string (bb key), .bool false, .string (bb d)]] w fun en w' => en = .returned (.int .i64 E) ∧ St W0 w' K (.raw jb #[.map (some mb), .int .i64 m] 63 :: .gen (jmap mb n f) :: L) := by
 obtain ⟨xb, hxb⟩ : ∃ b, w.heap.size = b := ⟨_, rfl⟩; have g1 := h.allocRaw #[.string (bb key), .bool false, .string (bb d)] 30; rw [hxb] at g1; have x0 := (g1).rawCell 0; have x1 := (g1).rawCell 1; have x2 := (g1).rawCell 2; simp at x0 x1 x2; have g2 := g1.p1.p2.p1; have H := Lib.hid g2; have HKL := Lib.hid (show key.length ≤ 40100 by omega); have HKY := Lib.hid hky; have HV := Lib.hid hv; have H0 := Lib.hid h0; have HI := Lib.hid (show id.length ≤ 1000000 by omega); have HD := Lib.hid (show d.length ≤ 1000000 by omega); have e1 : (E == 0) = false := by rw [beq_eq_false_iff_ne]; exact h0
 have e2 : (E != 0) = true := by simp [bne, e1]
 clear h g1 g2 hky hk1 hv h0 hid hd; go_enter Try.func11, Try.ntmps11
 go_wp2_with (first
  | (go_at_call 7; (try clear x0 x1 x2); (try clear c1 r1); (with_reducible refine (key_decode' key id 0 HKL.out HKY.out H.out).mono ?_); rintro e_ wn ⟨rfl, h⟩; have xx := h.p2; have x0 := (xx).rawCell 0; have x1 := (xx).rawCell 1; have x2 := (xx).rawCell 2; simp at x0 x1 x2; clear xx; replace H := Lib.hid h; clear h)
  | (go_at_call 31; (try clear x0 x1 x2); (try clear c1 r1); (with_reducible refine (jr_learn_err jb mb n m f id d v E HV.out H0.out HI.out HD.out H.out).mono ?_); rintro e_ wn ⟨rfl, h⟩; have xx := h.p2; have x0 := (xx).rawCell 0; have x1 := (xx).rawCell 1; have x2 := (xx).rawCell 2; simp at x0 x1 x2; clear xx; have c1 := h.rawCell 1; simp at c1; have r1 := h.rawFree 1; replace H := Lib.hid h; clear h))
 go_ret; exact ⟨rfl, H.out.p2.drop⟩
set_option maxHeartbeats 4000000 in
set_option maxRecDepth 100000 in
theorem jr_apply_drop (jb mb n : Nat) (m : Int) (f : JF) (key id : Bs) (hky : keyRd key = (id, 0)) (hk1 : key.length ≤ 1000) (hid : id.length ≤ 1000) (hm : 0 ≤ m) (hm2 : m ≤ 1000000) {W0 w : World} {K : Know} {L : List Res} (h : St W0 w K (.raw jb #[.map (some mb), .int .i64 m] 63 :: .gen (jmap mb n f) :: L)) :
  Calls Try.prog 11 #[.pointer (some ⟨jb, 0, none⟩), .agg #[.string (bb key), .bool true, .string (bb [])]] w fun en w' => en = .returned (.int .i64 0) ∧ St W0 w' K (.raw jb #[.map (some mb), .int .i64 (m + 1)] 63 :: .gen (jmap mb n (jset f id none)) :: L) := by
 obtain ⟨xb, hxb⟩ : ∃ b, w.heap.size = b := ⟨_, rfl⟩; have g1 := h.allocRaw #[.string (bb key), .bool true, .string (bb [])] 30; rw [hxb] at g1; have x0 := (g1).rawCell 0; have x1 := (g1).rawCell 1; have x2 := (g1).rawCell 2; simp at x0 x1 x2; have g2 := g1.p1.p2.p1; have H := Lib.hid g2; have HKL := Lib.hid (show key.length ≤ 40100 by omega); have HKY := Lib.hid hky; have HI := Lib.hid (show id.length ≤ 1000000 by omega); clear h g1 g2 hky hk1 hid; go_enter Try.func11, Try.ntmps11
 go_wp2_with (first
  | (go_at_call 7; (try clear x0 x1 x2); (try clear c1 r1); (with_reducible refine (key_decode' key id 0 HKL.out HKY.out H.out).mono ?_); rintro e_ wn ⟨rfl, h⟩; have xx := h.p2; have x0 := (xx).rawCell 0; have x1 := (xx).rawCell 1; have x2 := (xx).rawCell 2; simp at x0 x1 x2; clear xx; replace H := Lib.hid h; clear h)
  | (go_at_call 31; (try clear x0 x1 x2); (try clear c1 r1); (with_reducible refine (jr_learn_drop jb mb n m f id HI.out H.out).mono ?_); rintro e_ wn ⟨rfl, h⟩; have xx := h.p2; have x0 := (xx).rawCell 0; have x1 := (xx).rawCell 1; have x2 := (xx).rawCell 2; simp at x0 x1 x2; clear xx; have c1 := h.rawCell 1; simp at c1; have r1 := h.rawFree 1; replace H := Lib.hid h; clear h))
 go_ret; exact ⟨rfl, (H.out.rawSet 1 (.int .i64 (m + 1))).p2.drop⟩
set_option maxHeartbeats 4000000 in
set_option maxRecDepth 100000 in
theorem jr_apply_put (jb mb n : Nat) (m : Int) (f : JF) (key id d : Bs) (p e t s u st : Int) (tops : List TopS) (hky : keyRd key = (id, 0)) (hv : valDec d = (⟨p, e, t, s, tops, u, st⟩, 0)) (hk1 : key.length ≤ 1000) (hid : id.length ≤ 1000) (hd : d.length ≤ 1000) (hn : n < 1000000) (hm : 0 ≤ m) (hm2 : m ≤ 1000000) {W0 w : World} {K : Know} {L : List Res} (h : St W0 w K (.raw jb #[.map (some mb), .int .i64 m] 63 :: .gen (jmap mb n f) :: L)) :
  Calls Try.prog 11 #[.pointer (some ⟨jb, 0, none⟩), .agg #[.string (bb key), .bool false, .string (bb d)]] w fun en w' => en = .returned (.int .i64 0) ∧ St W0 w' K (.raw jb #[.map (some mb), .int .i64 (m + 1)] 63 :: .gen (jmap mb (n + 1) (jset f id (some d))) :: L) := by
 obtain ⟨xb, hxb⟩ : ∃ b, w.heap.size = b := ⟨_, rfl⟩; have g1 := h.allocRaw #[.string (bb key), .bool false, .string (bb d)] 30; rw [hxb] at g1; have x0 := (g1).rawCell 0; have x1 := (g1).rawCell 1; have x2 := (g1).rawCell 2; simp at x0 x1 x2; have g2 := g1.p1.p2.p1; have H := Lib.hid g2; have HKL := Lib.hid (show key.length ≤ 40100 by omega); have HKY := Lib.hid hky; have HI := Lib.hid (show id.length ≤ 1000000 by omega); have HD := Lib.hid (show d.length ≤ 1000000 by omega); have HV := Lib.hid hv; have HN := Lib.hid hn; clear h g1 g2 hky hk1 hid hd hv hn; go_enter Try.func11, Try.ntmps11
 go_wp2_with (first
  | (go_at_call 7; (try clear x0 x1 x2); (try clear c1 r1); (with_reducible refine (key_decode' key id 0 HKL.out HKY.out H.out).mono ?_); rintro e_ wn ⟨rfl, h⟩; have xx := h.p2; have x0 := (xx).rawCell 0; have x1 := (xx).rawCell 1; have x2 := (xx).rawCell 2; simp at x0 x1 x2; clear xx; replace H := Lib.hid h; clear h)
  | (go_at_call 31; (try clear x0 x1 x2); (try clear c1 r1); (with_reducible refine (jr_learn_put jb mb n m f id d p e t s u st tops HV.out HI.out HD.out HN.out H.out).mono ?_); rintro e_ wn ⟨rfl, h⟩; have xx := h.p2; have x0 := (xx).rawCell 0; have x1 := (xx).rawCell 1; have x2 := (xx).rawCell 2; simp at x0 x1 x2; clear xx; have c1 := h.rawCell 1; simp at c1; have r1 := h.rawFree 1; replace H := Lib.hid h; clear h))
 go_ret; exact ⟨rfl, (H.out.rawSet 1 (.int .i64 (m + 1))).p2.drop⟩
theorem tmap_take_succ (l : List (TopS × Value)) (k : Nat) (h : k < l.length) (x : TopS) (hx : l[k].1 = x) : (l.map (·.1)).take (k + 1) = (l.map (·.1)).take k ++ [x] := by
 have h2 : k < (l.map (·.1)).length := by simpa using h
 rw [List.take_succ_eq_append_getElem h2, List.getElem_map, hx]
theorem tmap_ne_of_get (l m : List (TopS × Value)) (k : Nat) (h1 : k < l.length) (h2 : k < m.length) (x y : TopS) (hx : l[k].1 = x) (hy : m[k].1 = y) (h : x ≠ y) : l.map (·.1) ≠ m.map (·.1) := by
 intro he
 apply h
 have e1 : (l.map (·.1))[k]? = some x := by rw [List.getElem?_map, List.getElem?_eq_getElem h1]; simp [hx]
 have e2 : (m.map (·.1))[k]? = some y := by rw [List.getElem?_map, List.getElem?_eq_getElem h2]; simp [hy]
 rw [he, e2] at e1
 simpa using e1.symm
theorem tmap_len_ne (l m : List (TopS × Value)) (h : l.length ≠ m.length) : l.map (·.1) ≠ m.map (·.1) := fun hh => h (by have := congrArg List.length hh; simpa using this)
def LenT (l : List (TopS × Value)) : Prop := l.length ≤ 140737488355328 ∧ ∀ x ∈ l, x.1.parts.length ≤ 9223372036854775807
theorem val_encode_okS (p e t s u st : Int) (l : List (TopS × Value)) (q : Option Addr) (cap : Nat) (tl : List TopS) (htl : l.map (·.1) = tl) (S : Bs) (hS : ValS.enc ⟨p, e, t, s, tl, u, st⟩ = S) (he : ValS.err ⟨p, e, t, s, tl, u, st⟩ = 0) (hR : ValS.R ⟨p, e, t, s, tl, u, st⟩) (hf : FewT l) {W0 w : World} {K : Know} {L : List Res} (hk : K.has (Know.tops (.slice q l.length cap) l)) (h : St W0 w K L) :
  Calls Try.prog 33 #[.agg #[.int .i64 p, .int .i64 e, .int .i64 t, .int .i64 s, .slice q l.length cap, .int .i64 u, .int .i64 st]] w fun en w' => en = .returned (.tuple #[.string (bb S), .int .i64 0]) ∧ St W0 w' K L := by
 subst hS; subst htl; exact val_encode_ok p e t s u st l q cap he hR hf hk h
theorem jr_bof (s : Bs) {W0 w : World} {K : Know} {L : List Res} (h : St W0 w K L) : Calls Try.prog 34 #[.string (bb s)] w fun en w' => en = .returned (.agg #[.bool false, .string (bb s)]) ∧ St W0 w' K L := blob_of s h
theorem jr_bno {W0 w : World} {K : Know} {L : List Res} (h : St W0 w K L) : Calls Try.prog 35 #[] w fun en w' => en = .returned (.agg #[.bool true, .string (bb [])]) ∧ St W0 w' K L := blob_none h
set_option maxHeartbeats 4000000 in
set_option maxRecDepth 100000 in
theorem jr_put (id key S : Bs) (hke : keyEnc id = (key, 0)) (hil : id.length ≤ 40000) (p e t s u st : Int) (l : List (TopS × Value)) (q : Option Addr) (cap : Nat) (tl : List TopS) (htl : l.map (·.1) = tl) (hS : ValS.enc ⟨p, e, t, s, tl, u, st⟩ = S) (he : ValS.err ⟨p, e, t, s, tl, u, st⟩ = 0) (hR : ValS.R ⟨p, e, t, s, tl, u, st⟩) (hf : FewT l) {W0 w : World} {K : Know} {L : List Res} (hk : K.has (Know.tops (.slice q l.length cap) l)) (h : St W0 w K L) :
  Calls Try.prog 16 #[.string (bb id), .agg #[.int .i64 p, .int .i64 e, .int .i64 t, .int .i64 s, .slice q l.length cap, .int .i64 u, .int .i64 st]] w fun en w' => en = .returned (.tuple #[.agg #[.string (bb key), .bool false, .string (bb S)], .int .i64 0]) ∧ St W0 w' K L := by
 obtain ⟨vb, hvb⟩ : ∃ b, w.heap.size = b := ⟨_, rfl⟩; obtain ⟨rb, hrb⟩ : ∃ b, vb + 1 = b := ⟨_, rfl⟩; have g1 := (h.allocRaw #[.int .i64 p, .int .i64 e, .int .i64 t, .int .i64 s, .slice q l.length cap, .int .i64 u, .int .i64 st] 37).allocRaw #[.string ⟨#[]⟩, .bool false, .string ⟨#[]⟩] 30; simp only [World.size_alloc, hvb, hrb] at g1; have c0 := (g1.p1).rawCell 0; have c1 := (g1.p1).rawCell 1; have c2 := (g1.p1).rawCell 2; have c3 := (g1.p1).rawCell 3; have c4 := (g1.p1).rawCell 4; have c5 := (g1.p1).rawCell 5; have c6 := (g1.p1).rawCell 6; simp at c0 c1 c2 c3 c4 c5 c6; have d0 := (g1).rawCell 0; have d1 := (g1).rawCell 1; have d2 := (g1).rawCell 2; simp at d0 d1 d2; have r0 := (g1).rawFree 0; have r1 := (g1).rawFree 1; have r2 := (g1).rawFree 2; have H := Lib.hid g1; have HKE := Lib.hid hke; have HIL := Lib.hid hil; have HT := Lib.hid htl; have HS := Lib.hid hS; have HE := Lib.hid he; have HR := Lib.hid hR; have HF := Lib.hid hf; have HK := Lib.hid hk; clear h g1 hke hil htl hS he hR hf hk; go_enter Try.func16, Try.ntmps16
 go_wp2_with (first
  | (go_at_call 18; clear c0 c1 c2 c3 c4 c5 c6 d0 d1 d2 r0 r1 r2; (with_reducible refine (key_encode' id key 0 HIL.out HKE.out H.out).mono ?_); rintro e_ wn ⟨rfl, h⟩; have c0 := (h.p1).rawCell 0; have c1 := (h.p1).rawCell 1; have c2 := (h.p1).rawCell 2; have c3 := (h.p1).rawCell 3; have c4 := (h.p1).rawCell 4; have c5 := (h.p1).rawCell 5; have c6 := (h.p1).rawCell 6; simp at c0 c1 c2 c3 c4 c5 c6; have d0 := (h).rawCell 0; have d1 := (h).rawCell 1; have d2 := (h).rawCell 2; simp at d0 d1 d2; have r0 := (h).rawFree 0; have r1 := (h).rawFree 1; have r2 := (h).rawFree 2; replace H := Lib.hid h; clear h)
  | (go_at_call 33; clear c0 c1 c2 c3 c4 c5 c6 d0 d1 d2 r0 r1 r2; (with_reducible refine (val_encode_okS p e t s u st l q cap tl HT.out S HS.out HE.out HR.out HF.out HK.out H.out).mono ?_); rintro e_ wn ⟨rfl, h⟩; have d0 := (h).rawCell 0; have d1 := (h).rawCell 1; have d2 := (h).rawCell 2; simp at d0 d1 d2; have r0 := (h).rawFree 0; have r1 := (h).rawFree 1; have r2 := (h).rawFree 2; replace H := Lib.hid h; clear h)
  | (go_at_call 34; clear d0 d1 d2 r0 r1 r2; (with_reducible refine (jr_bof S H.out).mono ?_); rintro e_ wn ⟨rfl, h⟩; have d0 := (h).rawCell 0; have d1 := (h).rawCell 1; have d2 := (h).rawCell 2; simp at d0 d1 d2; have r0 := (h).rawFree 0; have r1 := (h).rawFree 1; have r2 := (h).rawFree 2; replace H := Lib.hid h; clear h))
 have hz : St W0 _ K (.raw rb #[.string (bb key), .bool false, .string (bb S)] 30 :: _) := ((H.out.rawSet 0 (.string (bb key))).rawSet 1 (.bool false)).rawSet 2 (.string (bb S)); refine bodyPost_ret (rc_cell_tmp rfl _ _ rb [.string (bb key), .bool false, .string (bb S)] _ rfl (rc_range hz) Try.underlying30 rfl (by kernel_rfl)) rfl ?_; exact ⟨rfl, hz.drop.drop⟩
set_option maxHeartbeats 4000000 in
set_option maxRecDepth 100000 in
theorem jr_drop (id key : Bs) (hke : keyEnc id = (key, 0)) (hil : id.length ≤ 40000) {W0 w : World} {K : Know} {L : List Res} (h : St W0 w K L) :
  Calls Try.prog 17 #[.string (bb id)] w fun en w' => en = .returned (.tuple #[.agg #[.string (bb key), .bool true, .string (bb [])], .int .i64 0]) ∧ St W0 w' K L := by
 obtain ⟨rb, hrb⟩ : ∃ b, w.heap.size = b := ⟨_, rfl⟩; have g1 := h.allocRaw #[.string ⟨#[]⟩, .bool false, .string ⟨#[]⟩] 30; rw [hrb] at g1; have d0 := (g1).rawCell 0; have d1 := (g1).rawCell 1; have d2 := (g1).rawCell 2; simp at d0 d1 d2; have r0 := (g1).rawFree 0; have r1 := (g1).rawFree 1; have r2 := (g1).rawFree 2; have H := Lib.hid g1; have HKE := Lib.hid hke; have HIL := Lib.hid hil; clear h g1 hke hil; go_enter Try.func17, Try.ntmps17
 go_wp2_with (first
  | (go_at_call 18; clear d0 d1 d2 r0 r1 r2; (with_reducible refine (key_encode' id key 0 HIL.out HKE.out H.out).mono ?_); rintro e_ wn ⟨rfl, h⟩; have d0 := (h).rawCell 0; have d1 := (h).rawCell 1; have d2 := (h).rawCell 2; simp at d0 d1 d2; have r0 := (h).rawFree 0; have r1 := (h).rawFree 1; have r2 := (h).rawFree 2; replace H := Lib.hid h; clear h)
  | (go_at_call 35; clear d0 d1 d2 r0 r1 r2; (with_reducible refine (jr_bno H.out).mono ?_); rintro e_ wn ⟨rfl, h⟩; have d0 := (h).rawCell 0; have d1 := (h).rawCell 1; have d2 := (h).rawCell 2; simp at d0 d1 d2; have r0 := (h).rawFree 0; have r1 := (h).rawFree 1; have r2 := (h).rawFree 2; replace H := Lib.hid h; clear h))
 have hz : St W0 _ K (.raw rb #[.string (bb key), .bool true, .string (bb [])] 30 :: _) := ((H.out.rawSet 0 (.string (bb key))).rawSet 1 (.bool true)).rawSet 2 (.string (bb [])); refine bodyPost_ret (rc_cell_tmp rfl _ _ rb [.string (bb key), .bool true, .string (bb [])] _ rfl (rc_range hz) Try.underlying30 rfl (by kernel_rfl)) rfl ?_; exact ⟨rfl, hz.drop⟩
structure KnR where
  id : Bs
  p : Int
  e : Int
  t : Int
  s : Int
  u : Int
  st : Int
  tl : List (TopS × Value)
  q : Option Addr
  cap : Nat
def kcells (x : KnR) : List Value := [.string (bb x.id), .int .i64 x.p, .int .i64 x.e, .int .i64 x.t, .int .i64 x.s, .slice x.q x.tl.length x.cap, .int .i64 x.u, .int .i64 x.st]
def RKn (cs : List Value) (x : KnR) : Prop := cs = kcells x
def Know.kns (v : Value) (l : List KnR) : Know := (Know.flat RKn v 8 l).and (Know.all l fun x => Know.tops (.slice x.q x.tl.length x.cap) x.tl)
theorem kns_flat {K : Know} {v : Value} {l : List KnR} (h : K.has (Know.kns v l)) : K.has (Know.flat RKn v 8 l) := fun w F x => (h w F x).1
theorem kns_tops {K : Know} {v : Value} {l : List KnR} (h : K.has (Know.kns v l)) {x : KnR} (hx : x ∈ l) : K.has (Know.tops (.slice x.q x.tl.length x.cap) x.tl) := fun w F y => (h w F y).2 x hx
theorem St.freezeKns {W0 w : World} {K : Know} {L : List Res} {v : Value} {T : TypeId} {l : List KnR} (h : St W0 w K (.row v T 8 l.length (l.flatMap kcells) :: L)) (ht : ∀ x ∈ l, K.has (Know.tops (.slice x.q x.tl.length x.cap) x.tl)) : St W0 w (K.and (Know.kns v l)) L := by
 have hf := h.freezeRow (R := RKn) (fun x _ => ⟨rfl, rfl⟩); exact hf.know (K' := K.and (Know.kns v l)) (fun w F hh => ⟨hh.1, hh.2, fun x hx => ht x hx _ _ hh.1⟩)
theorem kns_at {W0 w : World} {K : Know} {L : List Res} {q : Option Addr} {n cap : Nat} {l : List KnR} (hk : K.has (Know.kns (.slice q n cap) l)) (h : St W0 w K L) (h0 : 0 < l.length) : ∃ b off, q = some ⟨b, off, none⟩ := by
 obtain ⟨F, hF, _⟩ := h.get; obtain ⟨q2, cap2, hv, hr⟩ := (kns_flat hk _ _ hF).at; obtain ⟨b, off, hq, _⟩ := hr h0; simp at hv; exact ⟨b, off, hv.1.trans hq⟩
theorem kns_cell {W0 w : World} {K : Know} {L : List Res} {b off n cap : Nat} {l : List KnR} (hk : K.has (Know.kns (.slice (some ⟨b, off, none⟩) n cap) l)) (h : St W0 w K L) (i : Nat) (hi : i < l.length) (x : KnR) (hx : l[i] = x) :
  w.cell? ⟨b, off + i * 8, none⟩ = some (.string (bb x.id)) ∧ w.cell? ⟨b, off + i * 8 + 1, none⟩ = some (.int .i64 x.p) ∧ w.cell? ⟨b, off + i * 8 + 2, none⟩ = some (.int .i64 x.e) ∧ w.cell? ⟨b, off + i * 8 + 3, none⟩ = some (.int .i64 x.t) ∧ w.cell? ⟨b, off + i * 8 + 4, none⟩ = some (.int .i64 x.s) ∧ w.cell? ⟨b, off + i * 8 + 5, none⟩ = some (.slice x.q x.tl.length x.cap) ∧ w.cell? ⟨b, off + i * 8 + 6, none⟩ = some (.int .i64 x.u) ∧ w.cell? ⟨b, off + i * 8 + 7, none⟩ = some (.int .i64 x.st) := by
 subst hx; obtain ⟨F, hF, _⟩ := h.get; obtain ⟨q2, cap2, hv, hr⟩ := (kns_flat hk _ _ hF).at; obtain ⟨b2, off2, hq, hc⟩ := hr (by omega); rw [hq] at hv; simp at hv; obtain ⟨⟨rfl, rfl⟩, _, _⟩ := hv; obtain ⟨cs, _, hR, hcs⟩ := hc i hi; unfold RKn at hR; subst hR; exact ⟨hcs 0 _ rfl, by rw [Nat.add_assoc]; exact hcs 1 _ rfl, by rw [Nat.add_assoc]; exact hcs 2 _ rfl, by rw [Nat.add_assoc]; exact hcs 3 _ rfl, by rw [Nat.add_assoc]; exact hcs 4 _ rfl, by rw [Nat.add_assoc]; exact hcs 5 _ rfl, by rw [Nat.add_assoc]; exact hcs 6 _ rfl, by rw [Nat.add_assoc]; exact hcs 7 _ rfl⟩
theorem elem_kn : ElemT Try.prog 71 (.agg #[.string ⟨#[]⟩, .int .i64 0, .int .i64 0, .int .i64 0, .int .i64 0, .slice none 0 0, .int .i64 0, .int .i64 0]) 8 88 := elemT_of (by kernel_rfl) rfl (by decide)
theorem elem_je : ElemT Try.prog 30 (.agg #[.string ⟨#[]⟩, .bool false, .string ⟨#[]⟩]) 3 40 := elemT_of (by kernel_rfl) rfl (by decide)
def kout (l : List KnR) (id : Bs) : List KnR := l.filter fun x => !(x.id == id)
theorem kout_step (l : List KnR) (id : Bs) (k : Nat) (hk : k < l.length) (x : KnR) (hx : l[k] = x) : kout (l.take (k + 1)) id = kout (l.take k) id ++ (if x.id == id then [] else [x]) := by
 unfold kout; rw [List.take_succ_eq_append_getElem hk, List.filter_append, hx]
 cases hb : x.id == id <;> simp [List.filter, hb]
theorem kout_le (l : List KnR) (id : Bs) : (kout l id).length ≤ l.length := List.length_filter_le _ _

end Go.Proofs.Ytmpehoebgifmnaa
