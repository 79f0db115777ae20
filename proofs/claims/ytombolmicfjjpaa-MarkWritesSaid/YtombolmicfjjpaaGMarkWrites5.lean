/- Ends of transactions, written and read. -/
import Derived.Test.YtombolmicfjjpaaGMarkWrites4
import Derived.Test.YtombolmicfjjpaaSep
import Derived.Deep.MidRow
import Derived.Test.YtombolmicfjjpaaGMarkWrites2
/- Ends of transactions as batches (pure). -/
namespace Go.Proofs.Ytombolmicfjjpaa
open Go.RowKit

theorem rc_cell_tmp {P : Program} {fn : Func} {p t : Tmp} {ty : TypeId} (h : fn.results = #[.cell p ty, .tmp t]) (tmps : Array Value) (w : World) (b : Nat) (cs : List Value) (d : TypeDesc)
    (hp : tmps.getD p undef = .pointer (some ⟨b, 0, none⟩)) (hc : w.rangeAt b 0 cs) (hu : P.underlying ty = some d) (hd : d.isRow = true) (hi : (P.info? ty).map (·.size) = some cs.length) :
    (results fn tmps).run P w = .ok (.tuple #[.agg cs.toArray, tmps.getD t undef]) w := by
  have hp' : tmps[p]?.getD undef = .pointer (some ⟨b, 0, none⟩) := by simpa using hp
  simp [results, h, hp', asAddr, run_loadVar_mid w b 0 ty cs d hc hu hd hi]
theorem rc_cell_only {P : Program} {fn : Func} {p : Tmp} {ty : TypeId} (h : fn.results = #[.cell p ty]) (tmps : Array Value) (w : World) (b : Nat) (cs : List Value) (d : TypeDesc)
    (hp : tmps.getD p undef = .pointer (some ⟨b, 0, none⟩)) (hc : w.rangeAt b 0 cs) (hu : P.underlying ty = some d) (hd : d.isRow = true) (hi : (P.info? ty).map (·.size) = some cs.length) :
    (results fn tmps).run P w = .ok (.agg cs.toArray) w := by
  have hp' : tmps[p]?.getD undef = .pointer (some ⟨b, 0, none⟩) := by simpa using hp
  simp [results, h, hp', asAddr, run_loadVar_mid w b 0 ty cs d hc hu hd hi]
theorem rc_range {W0 w : World} {K : Know} {L : List Res} {b : Nat} {c : List Value} {T : TypeId} (h : St W0 w K (.raw b c.toArray T :: L)) : w.rangeAt b 0 c := by
  intro j v hv
  rw [Nat.zero_add, h.rawCell j]
  simpa using hv
theorem raw5e {W0 w : World} {K : Know} {L : List Res} {b : Nat} {a0 a1 a2 a3 a4 : Value} {T : TypeId} (h : St W0 w K (.raw b #[a0, a1, a2, a3, a4] T :: L)) :
    (w.cell? ⟨b, 0, none⟩ = some a0 ∧ w.cell? ⟨b, 1, none⟩ = some a1 ∧ w.cell? ⟨b, 2, none⟩ = some a2 ∧ w.cell? ⟨b, 3, none⟩ = some a3 ∧ w.cell? ⟨b, 4, none⟩ = some a4) ∧
    (w.frozen? ⟨b, 0, none⟩ = false ∧ w.frozen? ⟨b, 1, none⟩ = false ∧ w.frozen? ⟨b, 2, none⟩ = false ∧ w.frozen? ⟨b, 3, none⟩ = false ∧ w.frozen? ⟨b, 4, none⟩ = false) :=
  ⟨⟨(h.rawCell 0).trans rfl, (h.rawCell 1).trans rfl, (h.rawCell 2).trans rfl, (h.rawCell 3).trans rfl, (h.rawCell 4).trans rfl⟩, h.rawFree 0, h.rawFree 1, h.rawFree 2, h.rawFree 3, h.rawFree 4⟩
theorem St.sets12 {W0 w : World} {K : Know} {L : List Res} {b : Nat} {T : TypeId} {a0 a1 a2 a3 a4 a5 a6 a7 a8 a9 a10 a11 : Value} (v0 v1 v2 v3 v4 v5 v6 v7 v8 v9 v10 v11 : Value) (h : St W0 w K (.raw b #[a0, a1, a2, a3, a4, a5, a6, a7, a8, a9, a10, a11] T :: L)) : St W0 ((((((((((((w.setCell ⟨b, 0, none⟩ v0).setCell ⟨b, 1, none⟩ v1).setCell ⟨b, 2, none⟩ v2).setCell ⟨b, 3, none⟩ v3).setCell ⟨b, 4, none⟩ v4).setCell ⟨b, 5, none⟩ v5).setCell ⟨b, 6, none⟩ v6).setCell ⟨b, 7, none⟩ v7).setCell ⟨b, 8, none⟩ v8).setCell ⟨b, 9, none⟩ v9).setCell ⟨b, 10, none⟩ v10).setCell ⟨b, 11, none⟩ v11) K (.raw b #[v0, v1, v2, v3, v4, v5, v6, v7, v8, v9, v10, v11] T :: L) := by
  have h : St W0 _ K (.raw b #[v0, a1, a2, a3, a4, a5, a6, a7, a8, a9, a10, a11] T :: L) := h.rawSet 0 v0
  have h : St W0 _ K (.raw b #[v0, v1, a2, a3, a4, a5, a6, a7, a8, a9, a10, a11] T :: L) := h.rawSet 1 v1
  have h : St W0 _ K (.raw b #[v0, v1, v2, a3, a4, a5, a6, a7, a8, a9, a10, a11] T :: L) := h.rawSet 2 v2
  have h : St W0 _ K (.raw b #[v0, v1, v2, v3, a4, a5, a6, a7, a8, a9, a10, a11] T :: L) := h.rawSet 3 v3
  have h : St W0 _ K (.raw b #[v0, v1, v2, v3, v4, a5, a6, a7, a8, a9, a10, a11] T :: L) := h.rawSet 4 v4
  have h : St W0 _ K (.raw b #[v0, v1, v2, v3, v4, v5, a6, a7, a8, a9, a10, a11] T :: L) := h.rawSet 5 v5
  have h : St W0 _ K (.raw b #[v0, v1, v2, v3, v4, v5, v6, a7, a8, a9, a10, a11] T :: L) := h.rawSet 6 v6
  have h : St W0 _ K (.raw b #[v0, v1, v2, v3, v4, v5, v6, v7, a8, a9, a10, a11] T :: L) := h.rawSet 7 v7
  have h : St W0 _ K (.raw b #[v0, v1, v2, v3, v4, v5, v6, v7, v8, a9, a10, a11] T :: L) := h.rawSet 8 v8
  have h : St W0 _ K (.raw b #[v0, v1, v2, v3, v4, v5, v6, v7, v8, v9, a10, a11] T :: L) := h.rawSet 9 v9
  have h : St W0 _ K (.raw b #[v0, v1, v2, v3, v4, v5, v6, v7, v8, v9, v10, a11] T :: L) := h.rawSet 10 v10
  have h : St W0 _ K (.raw b #[v0, v1, v2, v3, v4, v5, v6, v7, v8, v9, v10, v11] T :: L) := h.rawSet 11 v11
  exact h
/-- How a batch ends a transaction: whose, of which epoch, how, when, by whom, and that it does. -/
def endOf (b : BatS) : Int × Int × Int × Int × Int × Bool :=
  if b.ctl = true ∧ batErr b = 0 then match b.recs with
    | x :: _ => (b.prod, b.epoch, (ctlOf x).1, b.first + x.time, (ctlOf x).2.1, true)
    | [] => (0, 0, 0, 0, 0, false)
  else (0, 0, 0, 0, 0, false)
theorem rowsC_time {first last : Int} {x : RecS} {t : List RecS} {ah g g2 : Int} (h : rowsC first last (x :: t) ah g = .ok g2) : -first ≤ x.time ∧ x.time ≤ 9223372036854775807 - first := by
  rw [rowsC_cons] at h
  by_cases c1 : x.off ≤ ah ∨ last < x.off
  · rw [if_pos c1] at h; cases h
  rw [if_neg c1] at h
  by_cases c2 : x.time < -first ∨ 9223372036854775807 - first < x.time
  · rw [if_pos c2] at h; cases h
  omega
theorem batErr_ctl (b : BatS) (h : batErr b = 0) (hc : b.ctl = true) : ∃ x, b.recs = [x] ∧ (ctlOf x).2.2 = 0 ∧ (-b.first ≤ x.time ∧ x.time ≤ 9223372036854775807 - b.first) ∧ 0 ≤ b.first := by
  unfold batErr at h
  by_cases p1 : b.placed = false
  · rw [if_pos p1] at h; cases h
  rw [if_neg p1] at h
  by_cases p2 : b.ctl = true ∧ b.txn = false
  · rw [if_pos p2] at h; cases h
  rw [if_neg p2] at h
  by_cases p3 : b.signed = false
  · rw [if_pos p3] at h; cases h
  rw [if_neg p3] at h
  by_cases p4 : b.ctl = true ∧ b.recs.length ≠ 1
  · rw [if_pos p4] at h; cases h
  rw [if_neg p4] at h
  by_cases p5 : recsC b.recs ≠ 0
  · rw [if_pos p5] at h; exact absurd h p5
  rw [if_neg p5] at h
  by_cases p6 : b.ctl = true ∧ b.ends ≠ 0
  · rw [if_pos p6] at h; exact absurd h p6.2
  rw [if_neg p6] at h
  have hl : b.recs.length = 1 := by
    by_cases hh : b.recs.length = 1
    · exact hh
    · exact absurd ⟨hc, hh⟩ p4
  obtain ⟨x, hx⟩ := List.length_eq_one_iff.1 hl
  have hp : b.placed = true := by cases hh : b.placed with
    | false => exact absurd hh p1
    | true => rfl
  have hp2 := (of_decide_eq_true hp).2.2.2.2.1
  have he : b.ends = 0 := by
    by_cases hh : b.ends = 0
    · exact hh
    · exact absurd ⟨hc, hh⟩ p6
  unfold BatS.ends at he
  rw [hx] at he
  refine ⟨x, hx, he, ?_, hp2⟩
  unfold BatS.rows at h
  rw [hx] at h
  cases hr : rowsC b.first b.last [x] (-1) b.first with
  | error e =>
    rw [hr] at h
    have h : e = 0 := h
    subst h
    rw [rowsC_cons] at hr
    by_cases c1 : x.off ≤ -1 ∨ b.last < x.off
    · rw [if_pos c1] at hr; cases hr
    rw [if_neg c1] at hr
    by_cases c2 : x.time < -b.first ∨ 9223372036854775807 - b.first < x.time
    · rw [if_pos c2] at hr; cases hr
    rw [if_neg c2] at hr
    cases hr
  | ok g => exact rowsC_time hr

end Go.Proofs.Ytombolmicfjjpaa

/- The fields of a value, read. -/
namespace Go.Proofs.Ytombolmicfjjpaa
open Go.RowKit

set_option maxHeartbeats 2000000 in
set_option maxRecDepth 100000 in
theorem val_fields (b : Nat) (i i1 i2 i3 i4 i5 i6 i7 : InS) (p e t s u st : Int) (l : List TopS) (h1 : i.int 8 = (p, i1)) (h2 : i1.int 2 = (e, i2)) (h3 : i2.int 4 = (t, i3)) (h4 : i3.int 1 = (s, i4)) (h5 : i4.tops = (l, i5)) (h6 : i5.int 8 = (u, i6)) (h7 : i6.int 8 = (st, i7)) {W0 w : World} {K : Know} {L : List Res} (h : St W0 w K (.inp b i :: L)) :
    Calls Try.prog 74 #[inPtr b] w fun en w' => ∃ (qt : Option Addr) (capt : Nat) (lr : List (TopS × Value)), en = .returned (.agg #[.int .i64 p, .int .i64 e, .int .i64 t, .int .i64 s, .slice qt lr.length capt, .int .i64 u, .int .i64 st]) ∧ lr.map (·.1) = l ∧ St W0 w' (K.and (Know.tops (.slice qt lr.length capt) lr)) (.inp b i7 :: L) := by
  obtain ⟨rb, hrb⟩ : ∃ b, w.heap.size = b := ⟨_, rfl⟩
  obtain ⟨vb, hvb⟩ : ∃ b, rb + 1 = b := ⟨_, rfl⟩
  have g1 := (h.allocRaw #[.int .i64 0, .int .i64 0, .int .i64 0, .int .i64 0, .slice none 0 0, .int .i64 0, .int .i64 0] 24).allocRaw #[.int .i64 0, .int .i64 0, .int .i64 0, .int .i64 0, .slice none 0 0, .int .i64 0, .int .i64 0] 24
  simp only [World.size_alloc, hrb, hvb] at g1
  obtain ⟨i0, hi0⟩ : ∃ i0, i = i0 := ⟨_, rfl⟩
  subst hi0
  have H := Lib.hid g1.p2
  have H1 := Lib.hid h1
  have H2 := Lib.hid h2
  have H3 := Lib.hid h3
  have H4 := Lib.hid h4
  have H5 := Lib.hid h5
  have H6 := Lib.hid h6
  have H7 := Lib.hid h7
  clear h g1 h1 h2 h3 h4 h5 h6 h7
  go_enter Try.func74, Try.ntmps74
  go_wp2_with (first
    | (go_at_call 72; (with_reducible refine (s_intV b i i1 p 8 H1.out H.out).mono ?_); rintro e_ wn ⟨rfl, h⟩; have f0 := h.p1.rawFree 0; have g0 := h.p1.rawCell 0; simp at g0; have h := (show St W0 (wn.setCell ⟨vb, 0, none⟩ (.int .i64 p)) K (.inp b i1 :: .raw vb #[.int .i64 p, .int .i64 0, .int .i64 0, .int .i64 0, .slice none 0 0, .int .i64 0, .int .i64 0] 24 :: .raw rb #[.int .i64 0, .int .i64 0, .int .i64 0, .int .i64 0, .slice none 0 0, .int .i64 0, .int .i64 0] 24 :: L) from (h.p1.rawSet 0 (.int .i64 p)).p1); replace H := Lib.hid h; clear h)
    | (go_at_call 72; (with_reducible refine (s_intV b i1 i2 e 2 H2.out H.out).mono ?_); rintro e_ wn ⟨rfl, h⟩; have f1 := h.p1.rawFree 1; have g1 := h.p1.rawCell 1; simp at g1; have h := (show St W0 (wn.setCell ⟨vb, 1, none⟩ (.int .i64 e)) K (.inp b i2 :: .raw vb #[.int .i64 p, .int .i64 e, .int .i64 0, .int .i64 0, .slice none 0 0, .int .i64 0, .int .i64 0] 24 :: .raw rb #[.int .i64 0, .int .i64 0, .int .i64 0, .int .i64 0, .slice none 0 0, .int .i64 0, .int .i64 0] 24 :: L) from (h.p1.rawSet 1 (.int .i64 e)).p1); replace H := Lib.hid h; clear h)
    | (go_at_call 72; (with_reducible refine (s_intV b i2 i3 t 4 H3.out H.out).mono ?_); rintro e_ wn ⟨rfl, h⟩; have f2 := h.p1.rawFree 2; have g2 := h.p1.rawCell 2; simp at g2; have h := (show St W0 (wn.setCell ⟨vb, 2, none⟩ (.int .i64 t)) K (.inp b i3 :: .raw vb #[.int .i64 p, .int .i64 e, .int .i64 t, .int .i64 0, .slice none 0 0, .int .i64 0, .int .i64 0] 24 :: .raw rb #[.int .i64 0, .int .i64 0, .int .i64 0, .int .i64 0, .slice none 0 0, .int .i64 0, .int .i64 0] 24 :: L) from (h.p1.rawSet 2 (.int .i64 t)).p1); replace H := Lib.hid h; clear h)
    | (go_at_call 72; (with_reducible refine (s_intV b i3 i4 s 1 H4.out H.out).mono ?_); rintro e_ wn ⟨rfl, h⟩; have f3 := h.p1.rawFree 3; have g3 := h.p1.rawCell 3; simp at g3; have h := (show St W0 (wn.setCell ⟨vb, 3, none⟩ (.int .i64 s)) K (.inp b i4 :: .raw vb #[.int .i64 p, .int .i64 e, .int .i64 t, .int .i64 s, .slice none 0 0, .int .i64 0, .int .i64 0] 24 :: .raw rb #[.int .i64 0, .int .i64 0, .int .i64 0, .int .i64 0, .slice none 0 0, .int .i64 0, .int .i64 0] 24 :: L) from (h.p1.rawSet 3 (.int .i64 s)).p1); replace H := Lib.hid h; clear h)
    | (go_at_call 25; (with_reducible refine (val_topics b i4 i5 l H5.out H.out).mono ?_); rintro e_ wn ⟨tv, lr, rfl, hlr, h⟩; obtain ⟨qt, capt, htv⟩ := tops_form (Know.has_right (Know.has_refl _)) h; subst htv; have HLR := Lib.hid hlr; clear hlr; have f4 := h.p1.rawFree 4; have g4 := h.p1.rawCell 4; simp at g4; have h := (show St W0 (wn.setCell ⟨vb, 4, none⟩ (.slice qt lr.length capt)) (K.and (Know.tops (.slice qt lr.length capt) lr)) (.inp b i5 :: .raw vb #[.int .i64 p, .int .i64 e, .int .i64 t, .int .i64 s, .slice qt lr.length capt, .int .i64 0, .int .i64 0] 24 :: .raw rb #[.int .i64 0, .int .i64 0, .int .i64 0, .int .i64 0, .slice none 0 0, .int .i64 0, .int .i64 0] 24 :: L) from (h.p1.rawSet 4 (.slice qt lr.length capt)).p1); replace H := Lib.hid h; clear h)
    | (go_at_call 72; (with_reducible refine (s_intV b i5 i6 u 8 H6.out H.out).mono ?_); rintro e_ wn ⟨rfl, h⟩; have f5 := h.p1.rawFree 5; have g5 := h.p1.rawCell 5; simp at g5; have h := (show St W0 (wn.setCell ⟨vb, 5, none⟩ (.int .i64 u)) (K.and (Know.tops (.slice qt lr.length capt) lr)) (.inp b i6 :: .raw vb #[.int .i64 p, .int .i64 e, .int .i64 t, .int .i64 s, .slice qt lr.length capt, .int .i64 u, .int .i64 0] 24 :: .raw rb #[.int .i64 0, .int .i64 0, .int .i64 0, .int .i64 0, .slice none 0 0, .int .i64 0, .int .i64 0] 24 :: L) from (h.p1.rawSet 5 (.int .i64 u)).p1); replace H := Lib.hid h; clear h)
    | (go_at_call 72; (with_reducible refine (s_intV b i6 i7 st 8 H7.out H.out).mono ?_); rintro e_ wn ⟨rfl, h⟩; have f6 := h.p1.rawFree 6; have g6 := h.p1.rawCell 6; simp at g6; have h := (show St W0 (wn.setCell ⟨vb, 6, none⟩ (.int .i64 st)) (K.and (Know.tops (.slice qt lr.length capt) lr)) (.inp b i7 :: .raw vb #[.int .i64 p, .int .i64 e, .int .i64 t, .int .i64 s, .slice qt lr.length capt, .int .i64 u, .int .i64 st] 24 :: .raw rb #[.int .i64 0, .int .i64 0, .int .i64 0, .int .i64 0, .slice none 0 0, .int .i64 0, .int .i64 0] 24 :: L) from (h.p1.rawSet 6 (.int .i64 st)).p1); have c0 := h.p1.rawCell 0; have c1 := h.p1.rawCell 1; have c2 := h.p1.rawCell 2; have c3 := h.p1.rawCell 3; have c4 := h.p1.rawCell 4; have c5 := h.p1.rawCell 5; have c6 := h.p1.rawCell 6; have d0 := h.p2.rawCell 0; have r0 := h.p2.rawFree 0; have d1 := h.p2.rawCell 1; have r1 := h.p2.rawFree 1; have d2 := h.p2.rawCell 2; have r2 := h.p2.rawFree 2; have d3 := h.p2.rawCell 3; have r3 := h.p2.rawFree 3; have d4 := h.p2.rawCell 4; have r4 := h.p2.rawFree 4; have d5 := h.p2.rawCell 5; have r5 := h.p2.rawFree 5; have d6 := h.p2.rawCell 6; have r6 := h.p2.rawFree 6; simp at c0 c1 c2 c3 c4 c5 c6 d0 d1 d2 d3 d4 d5 d6; replace H := Lib.hid h; clear h))
  have hz : St W0 _ _ (.raw rb #[.int .i64 p, .int .i64 e, .int .i64 t, .int .i64 s, .slice qt lr.length capt, .int .i64 u, .int .i64 st] 24 :: .inp b i7 :: .raw vb #[.int .i64 p, .int .i64 e, .int .i64 t, .int .i64 s, .slice qt lr.length capt, .int .i64 u, .int .i64 st] 24 :: L) := (((((((H.out.p2).rawSet 0 _).rawSet 1 _).rawSet 2 _).rawSet 3 _).rawSet 4 _).rawSet 5 _).rawSet 6 _
  refine bodyPost_ret (rc_cell_only rfl _ _ rb [.int .i64 p, .int .i64 e, .int .i64 t, .int .i64 s, .slice qt lr.length capt, .int .i64 u, .int .i64 st] _ rfl (rc_range hz) Try.underlying24 rfl (by kernel_rfl)) rfl ?_
  exact ⟨qt, capt, lr, rfl, HLR.out, hz.drop.p1.drop⟩

end Go.Proofs.Ytombolmicfjjpaa

/- Values, decoded. -/
namespace Go.Proofs.Ytombolmicfjjpaa
open Go.RowKit

theorem St.sets7 {W0 w : World} {K : Know} {L : List Res} {b : Nat} {T : TypeId} {a0 a1 a2 a3 a4 a5 a6 : Value} (v0 v1 v2 v3 v4 v5 v6 : Value) (h : St W0 w K (.raw b #[a0, a1, a2, a3, a4, a5, a6] T :: L)) : St W0 (((((((w.setCell ⟨b, 0, none⟩ v0).setCell ⟨b, 1, none⟩ v1).setCell ⟨b, 2, none⟩ v2).setCell ⟨b, 3, none⟩ v3).setCell ⟨b, 4, none⟩ v4).setCell ⟨b, 5, none⟩ v5).setCell ⟨b, 6, none⟩ v6) K (.raw b #[v0, v1, v2, v3, v4, v5, v6] T :: L) := by
  have h : St W0 _ K (.raw b #[v0, a1, a2, a3, a4, a5, a6] T :: L) := h.rawSet 0 v0
  have h : St W0 _ K (.raw b #[v0, v1, a2, a3, a4, a5, a6] T :: L) := h.rawSet 1 v1
  have h : St W0 _ K (.raw b #[v0, v1, v2, a3, a4, a5, a6] T :: L) := h.rawSet 2 v2
  have h : St W0 _ K (.raw b #[v0, v1, v2, v3, a4, a5, a6] T :: L) := h.rawSet 3 v3
  have h : St W0 _ K (.raw b #[v0, v1, v2, v3, v4, a5, a6] T :: L) := h.rawSet 4 v4
  have h : St W0 _ K (.raw b #[v0, v1, v2, v3, v4, v5, a6] T :: L) := h.rawSet 5 v5
  have h : St W0 _ K (.raw b #[v0, v1, v2, v3, v4, v5, v6] T :: L) := h.rawSet 6 v6
  exact h
theorem s_failV (p : Nat) (i j : InS) (e : Int) (hx : i.fail e = j) {W0 w : World} {K : Know} {L : List Res} (h : St W0 w K (.inp p i :: L)) :
    Calls Try.prog 73 #[inPtr p, .int .i64 e] w fun en w' => en = .returned (.tuple #[]) ∧ St W0 w' K (.inp p j :: L) := by
  subst hx; exact s_fail p i e h
theorem s_closeV (p : Nat) (i : InS) (e : Int) (hx : i.close.err = e) {W0 w : World} {K : Know} {L : List Res} (h : St W0 w K (.inp p i :: L)) :
    Calls Try.prog 34 #[inPtr p] w fun en w' => en = .returned (.int .i64 e) ∧ St W0 w' K (.inp p i.close :: L) := by
  subst hx; exact s_close p i h
set_option maxHeartbeats 12000000 in
set_option maxRecDepth 100000 in
theorem val_decode_bad (S : Bs) (hsl : S.length ≤ 1000000) (v : ValS) (E : Int) (hv : valDec S = (v, E)) (h0 : E ≠ 0) {W0 w : World} {K : Know} {L : List Res} (h : St W0 w K L) :
    Calls Try.prog 18 #[.string (bb S)] w fun en w' => en = .returned (.tuple #[.agg #[.int .i64 0, .int .i64 0, .int .i64 0, .int .i64 0, .slice none 0 0, .int .i64 0, .int .i64 0], .int .i64 E]) ∧ St W0 w' K L := by
  obtain ⟨rb, hrb⟩ : ∃ b, w.heap.size = b := ⟨_, rfl⟩
  have g1 := h.allocRaw #[.int .i64 0, .int .i64 0, .int .i64 0, .int .i64 0, .slice none 0 0, .int .i64 0, .int .i64 0] 24
  rw [hrb] at g1
  have H := Lib.hid g1
  have HSL := Lib.hid (show S.length ≤ 140737488355328 by omega)
  obtain ⟨⟨a, j0⟩, ha⟩ : ∃ r, (⟨S, 0, 0⟩ : InS).int 2 = r := ⟨_, rfl⟩
  have HA := Lib.hid ha
  have hat := decI_at S
  obtain ⟨j, hj⟩ : ∃ j, decI S = j := ⟨_, rfl⟩
  have hjj : j = if a = 0 then j0 else j0.fail 7 := by rw [← hj]; unfold decI; rw [ha]
  obtain ⟨⟨p, i1⟩, h1⟩ : ∃ r, j.int 8 = r := ⟨_, rfl⟩
  obtain ⟨⟨e, i2⟩, h2⟩ : ∃ r, i1.int 2 = r := ⟨_, rfl⟩
  obtain ⟨⟨t, i3⟩, h3⟩ : ∃ r, i2.int 4 = r := ⟨_, rfl⟩
  obtain ⟨⟨s, i4⟩, h4⟩ : ∃ r, i3.int 1 = r := ⟨_, rfl⟩
  obtain ⟨⟨l, i5⟩, h5⟩ : ∃ r, i4.tops = r := ⟨_, rfl⟩
  obtain ⟨⟨u, i6⟩, h6⟩ : ∃ r, i5.int 8 = r := ⟨_, rfl⟩
  obtain ⟨⟨st, i7⟩, h7⟩ : ∃ r, i6.int 8 = r := ⟨_, rfl⟩
  have hF := valF_eq h1 h2 h3 h4 h5 h6 h7
  rw [hj] at hat
  have hfl := valF_few hat hsl
  rw [hF] at hfl
  have H1 := Lib.hid h1
  have H2 := Lib.hid h2
  have H3 := Lib.hid h3
  have H4 := Lib.hid h4
  have H5 := Lib.hid h5
  have H6 := Lib.hid h6
  have H7 := Lib.hid h7
  have HFL := Lib.hid (show FewL l from hfl)
  obtain ⟨ec, hec⟩ : ∃ ec, i7.close.err = ec := ⟨_, rfl⟩
  have HEC := Lib.hid hec
  have hde : decE S = ec := by unfold decE; rw [hj, hF]; exact hec
  have hb := valDec_bad hv h0
  rw [hde, hj, hF] at hb
  have gE : (E == 0) = false := by rw [beq_eq_false_iff_ne]; exact h0
  have gE2 : (E != 0) = true := by simp [bne, gE]
  have hdz := fun (hz : ec = 0) => decE_zero (s := S) (by rw [hde]; exact hz)
  rw [ha] at hdz
  rcases hb with hb | ⟨hb1, hb2⟩
  · subst hb
    by_cases ha0 : a = 0
    · as_aux_lemma =>
      rw [if_pos ha0] at hjj
      subst hjj
      subst ha0
      clear h g1 ha hat hj h1 h2 h3 h4 h5 h6 h7 hF hfl hec hde hdz hv hsl h0
      go_enter Try.func18, Try.ntmps18
      go_wp2_with (first
    | (go_at_call 24; (with_reducible refine (s_new S HSL.out H.out).mono ?_); rintro e_ wn ⟨bi, rfl, h⟩; replace H := Lib.hid h; clear h)
    | (go_at_call 72; (with_reducible refine (s_intV bi _ _ _ 2 HA.out H.out).mono ?_); rintro e_ wn ⟨rfl, h⟩; replace H := Lib.hid h; clear h)
    | (go_at_call 74; (with_reducible refine (val_fields bi _ _ _ _ _ _ _ _ p e t s u st l H1.out H2.out H3.out H4.out H5.out H6.out H7.out H.out).mono ?_); rintro e_ wn ⟨qt, capt, lr, rfl, hlr, h⟩; obtain ⟨vb, hvb⟩ : ∃ b, wn.heap.size = b := ⟨_, rfl⟩; have h := h.allocRaw #[.int .i64 p, .int .i64 e, .int .i64 t, .int .i64 s, .slice qt lr.length capt, .int .i64 u, .int .i64 st] 24; rw [hvb] at h; have HLR := Lib.hid hlr; clear hlr; replace H := Lib.hid h; clear h)
    | (go_at_call 34; (with_reducible refine (s_closeV bi _ _ HEC.out H.out.p1).mono ?_); rintro e_ wn ⟨rfl, h⟩; have c0 := h.p1.rawCell 0; have c1 := h.p1.rawCell 1; have c2 := h.p1.rawCell 2; have c3 := h.p1.rawCell 3; have c4 := h.p1.rawCell 4; have c5 := h.p1.rawCell 5; have c6 := h.p1.rawCell 6; simp at c0 c1 c2 c3 c4 c5 c6; have d0 := h.p2.rawCell 0; have r0 := h.p2.rawFree 0; have d1 := h.p2.rawCell 1; have r1 := h.p2.rawFree 1; have d2 := h.p2.rawCell 2; have r2 := h.p2.rawFree 2; have d3 := h.p2.rawCell 3; have r3 := h.p2.rawFree 3; have d4 := h.p2.rawCell 4; have r4 := h.p2.rawFree 4; have d5 := h.p2.rawCell 5; have r5 := h.p2.rawFree 5; have d6 := h.p2.rawCell 6; have r6 := h.p2.rawFree 6; simp at d0 d1 d2 d3 d4 d5 d6; replace H := Lib.hid h; clear h))
      have hz : St W0 _ _ (.raw rb #[.int .i64 0, .int .i64 0, .int .i64 0, .int .i64 0, .slice none 0 0, .int .i64 0, .int .i64 0] 24 :: _) := St.sets7 _ _ _ _ _ _ _ (H.out.p2)
      refine bodyPost_ret (rc_cell_tmp rfl _ _ rb [.int .i64 0, .int .i64 0, .int .i64 0, .int .i64 0, .slice none 0 0, .int .i64 0, .int .i64 0] _ rfl (rc_range hz) Try.underlying24 rfl (by kernel_rfl)) rfl ?_
      exact ⟨rfl, (hz.drop.drop.drop).know (Know.has_left (Know.has_refl _))⟩
    · as_aux_lemma =>
      rw [if_neg ha0] at hjj
      have HJ := Lib.hid hjj.symm
      have ga : (a == 0) = false := by rw [beq_eq_false_iff_ne]; exact ha0
      have ga2 : (a != 0) = true := by simp [bne, ga]
      clear h g1 ha hat hj h1 h2 h3 h4 h5 h6 h7 hF hfl hec hde hdz hv hsl h0 hjj ha0
      go_enter Try.func18, Try.ntmps18
      go_wp2_with (first
    | (go_at_call 24; (with_reducible refine (s_new S HSL.out H.out).mono ?_); rintro e_ wn ⟨bi, rfl, h⟩; replace H := Lib.hid h; clear h)
    | (go_at_call 72; (with_reducible refine (s_intV bi _ _ _ 2 HA.out H.out).mono ?_); rintro e_ wn ⟨rfl, h⟩; replace H := Lib.hid h; clear h)
    | (go_at_call 73; (with_reducible refine (s_failV bi _ _ 7 HJ.out H.out).mono ?_); rintro e_ wn ⟨rfl, h⟩; replace H := Lib.hid h; clear h)
    | (go_at_call 74; (with_reducible refine (val_fields bi _ _ _ _ _ _ _ _ p e t s u st l H1.out H2.out H3.out H4.out H5.out H6.out H7.out H.out).mono ?_); rintro e_ wn ⟨qt, capt, lr, rfl, hlr, h⟩; obtain ⟨vb, hvb⟩ : ∃ b, wn.heap.size = b := ⟨_, rfl⟩; have h := h.allocRaw #[.int .i64 p, .int .i64 e, .int .i64 t, .int .i64 s, .slice qt lr.length capt, .int .i64 u, .int .i64 st] 24; rw [hvb] at h; have HLR := Lib.hid hlr; clear hlr; replace H := Lib.hid h; clear h)
    | (go_at_call 34; (with_reducible refine (s_closeV bi _ _ HEC.out H.out.p1).mono ?_); rintro e_ wn ⟨rfl, h⟩; have c0 := h.p1.rawCell 0; have c1 := h.p1.rawCell 1; have c2 := h.p1.rawCell 2; have c3 := h.p1.rawCell 3; have c4 := h.p1.rawCell 4; have c5 := h.p1.rawCell 5; have c6 := h.p1.rawCell 6; simp at c0 c1 c2 c3 c4 c5 c6; have d0 := h.p2.rawCell 0; have r0 := h.p2.rawFree 0; have d1 := h.p2.rawCell 1; have r1 := h.p2.rawFree 1; have d2 := h.p2.rawCell 2; have r2 := h.p2.rawFree 2; have d3 := h.p2.rawCell 3; have r3 := h.p2.rawFree 3; have d4 := h.p2.rawCell 4; have r4 := h.p2.rawFree 4; have d5 := h.p2.rawCell 5; have r5 := h.p2.rawFree 5; have d6 := h.p2.rawCell 6; have r6 := h.p2.rawFree 6; simp at d0 d1 d2 d3 d4 d5 d6; replace H := Lib.hid h; clear h))
      have hz : St W0 _ _ (.raw rb #[.int .i64 0, .int .i64 0, .int .i64 0, .int .i64 0, .slice none 0 0, .int .i64 0, .int .i64 0] 24 :: _) := St.sets7 _ _ _ _ _ _ _ (H.out.p2)
      refine bodyPost_ret (rc_cell_tmp rfl _ _ rb [.int .i64 0, .int .i64 0, .int .i64 0, .int .i64 0, .slice none 0 0, .int .i64 0, .int .i64 0] _ rfl (rc_range hz) Try.underlying24 rfl (by kernel_rfl)) rfl ?_
      exact ⟨rfl, (hz.drop.drop.drop).know (Know.has_left (Know.has_refl _))⟩
  · as_aux_lemma =>
    have ha0 : a = 0 := hdz hb1
    rw [if_pos ha0] at hjj
    subst hjj
    subst ha0
    subst hb1
    have HE := Lib.hid (show ValS.err ⟨p, e, t, s, l, u, st⟩ = E from hb2)
    clear h g1 ha hat hj h1 h2 h3 h4 h5 h6 h7 hF hfl hec hde hdz hv hsl h0 hb2
    go_enter Try.func18, Try.ntmps18
    go_wp2_with (first
    | (go_at_call 24; (with_reducible refine (s_new S HSL.out H.out).mono ?_); rintro e_ wn ⟨bi, rfl, h⟩; replace H := Lib.hid h; clear h)
    | (go_at_call 72; (with_reducible refine (s_intV bi _ _ _ 2 HA.out H.out).mono ?_); rintro e_ wn ⟨rfl, h⟩; replace H := Lib.hid h; clear h)
    | (go_at_call 74; (with_reducible refine (val_fields bi _ _ _ _ _ _ _ _ p e t s u st l H1.out H2.out H3.out H4.out H5.out H6.out H7.out H.out).mono ?_); rintro e_ wn ⟨qt, capt, lr, rfl, hlr, h⟩; obtain ⟨vb, hvb⟩ : ∃ b, wn.heap.size = b := ⟨_, rfl⟩; have h := h.allocRaw #[.int .i64 p, .int .i64 e, .int .i64 t, .int .i64 s, .slice qt lr.length capt, .int .i64 u, .int .i64 st] 24; rw [hvb] at h; have HLR := Lib.hid hlr; clear hlr; replace H := Lib.hid h; clear h)
    | (go_at_call 34; (with_reducible refine (s_closeV bi _ _ HEC.out H.out.p1).mono ?_); rintro e_ wn ⟨rfl, h⟩; have c0 := h.p1.rawCell 0; have c1 := h.p1.rawCell 1; have c2 := h.p1.rawCell 2; have c3 := h.p1.rawCell 3; have c4 := h.p1.rawCell 4; have c5 := h.p1.rawCell 5; have c6 := h.p1.rawCell 6; simp at c0 c1 c2 c3 c4 c5 c6; have d0 := h.p2.rawCell 0; have r0 := h.p2.rawFree 0; have d1 := h.p2.rawCell 1; have r1 := h.p2.rawFree 1; have d2 := h.p2.rawCell 2; have r2 := h.p2.rawFree 2; have d3 := h.p2.rawCell 3; have r3 := h.p2.rawFree 3; have d4 := h.p2.rawCell 4; have r4 := h.p2.rawFree 4; have d5 := h.p2.rawCell 5; have r5 := h.p2.rawFree 5; have d6 := h.p2.rawCell 6; have r6 := h.p2.rawFree 6; simp at d0 d1 d2 d3 d4 d5 d6; replace H := Lib.hid h; clear h)
    | (go_at_call 17; (with_reducible refine (val_checkV p e t s u st lr _ _ E (by rw [HLR.out]; exact HE.out) (fewT_of (by rw [HLR.out]; exact HFL.out)) (Know.has_right (Know.has_refl _)) H.out).mono ?_); rintro e_ wn ⟨rfl, h⟩; have c0 := h.p1.rawCell 0; have c1 := h.p1.rawCell 1; have c2 := h.p1.rawCell 2; have c3 := h.p1.rawCell 3; have c4 := h.p1.rawCell 4; have c5 := h.p1.rawCell 5; have c6 := h.p1.rawCell 6; simp at c0 c1 c2 c3 c4 c5 c6; have d0 := h.p2.rawCell 0; have r0 := h.p2.rawFree 0; have d1 := h.p2.rawCell 1; have r1 := h.p2.rawFree 1; have d2 := h.p2.rawCell 2; have r2 := h.p2.rawFree 2; have d3 := h.p2.rawCell 3; have r3 := h.p2.rawFree 3; have d4 := h.p2.rawCell 4; have r4 := h.p2.rawFree 4; have d5 := h.p2.rawCell 5; have r5 := h.p2.rawFree 5; have d6 := h.p2.rawCell 6; have r6 := h.p2.rawFree 6; simp at d0 d1 d2 d3 d4 d5 d6; replace H := Lib.hid h; clear h))
    have hz : St W0 _ _ (.raw rb #[.int .i64 0, .int .i64 0, .int .i64 0, .int .i64 0, .slice none 0 0, .int .i64 0, .int .i64 0] 24 :: _) := St.sets7 _ _ _ _ _ _ _ (H.out.p2)
    refine bodyPost_ret (rc_cell_tmp rfl _ _ rb [.int .i64 0, .int .i64 0, .int .i64 0, .int .i64 0, .slice none 0 0, .int .i64 0, .int .i64 0] _ rfl (rc_range hz) Try.underlying24 rfl (by kernel_rfl)) rfl ?_
    exact ⟨rfl, (hz.drop.drop.drop).know (Know.has_left (Know.has_refl _))⟩
set_option maxHeartbeats 12000000 in
set_option maxRecDepth 100000 in
theorem val_decode_ok (S : Bs) (hsl : S.length ≤ 1000000) (v : ValS) (hv : valDec S = (v, 0)) {W0 w : World} {K : Know} {L : List Res} (h : St W0 w K L) :
    Calls Try.prog 18 #[.string (bb S)] w fun en w' => ∃ (qt : Option Addr) (capt : Nat) (lr : List (TopS × Value)), en = .returned (.tuple #[.agg #[.int .i64 v.prod, .int .i64 v.epoch, .int .i64 v.timeout, .int .i64 v.state, .slice qt lr.length capt, .int .i64 v.upd, .int .i64 v.started], .int .i64 0]) ∧ lr.map (·.1) = v.tops ∧ St W0 w' (K.and (Know.tops (.slice qt lr.length capt) lr)) L := by
  obtain ⟨rb, hrb⟩ : ∃ b, w.heap.size = b := ⟨_, rfl⟩
  have g1 := h.allocRaw #[.int .i64 0, .int .i64 0, .int .i64 0, .int .i64 0, .slice none 0 0, .int .i64 0, .int .i64 0] 24
  rw [hrb] at g1
  have H := Lib.hid g1
  have HSL := Lib.hid (show S.length ≤ 140737488355328 by omega)
  obtain ⟨⟨a, j0⟩, ha⟩ : ∃ r, (⟨S, 0, 0⟩ : InS).int 2 = r := ⟨_, rfl⟩
  have HA := Lib.hid ha
  have hat := decI_at S
  obtain ⟨j, hj⟩ : ∃ j, decI S = j := ⟨_, rfl⟩
  have hjj : j = if a = 0 then j0 else j0.fail 7 := by rw [← hj]; unfold decI; rw [ha]
  obtain ⟨⟨p, i1⟩, h1⟩ : ∃ r, j.int 8 = r := ⟨_, rfl⟩
  obtain ⟨⟨e, i2⟩, h2⟩ : ∃ r, i1.int 2 = r := ⟨_, rfl⟩
  obtain ⟨⟨t, i3⟩, h3⟩ : ∃ r, i2.int 4 = r := ⟨_, rfl⟩
  obtain ⟨⟨s, i4⟩, h4⟩ : ∃ r, i3.int 1 = r := ⟨_, rfl⟩
  obtain ⟨⟨l, i5⟩, h5⟩ : ∃ r, i4.tops = r := ⟨_, rfl⟩
  obtain ⟨⟨u, i6⟩, h6⟩ : ∃ r, i5.int 8 = r := ⟨_, rfl⟩
  obtain ⟨⟨st, i7⟩, h7⟩ : ∃ r, i6.int 8 = r := ⟨_, rfl⟩
  have hF := valF_eq h1 h2 h3 h4 h5 h6 h7
  rw [hj] at hat
  have hfl := valF_few hat hsl
  rw [hF] at hfl
  have H1 := Lib.hid h1
  have H2 := Lib.hid h2
  have H3 := Lib.hid h3
  have H4 := Lib.hid h4
  have H5 := Lib.hid h5
  have H6 := Lib.hid h6
  have H7 := Lib.hid h7
  have HFL := Lib.hid (show FewL l from hfl)
  obtain ⟨ec, hec⟩ : ∃ ec, i7.close.err = ec := ⟨_, rfl⟩
  have HEC := Lib.hid hec
  have hde : decE S = ec := by unfold decE; rw [hj, hF]; exact hec
  obtain ⟨hb1, hb2, hb3⟩ := valDec_ok hv (.inr trivial)
  rw [hde] at hb1
  rw [hj, hF] at hb2
  have hdz := decE_zero (s := S) (by rw [hde]; exact hb1)
  rw [ha] at hdz
  have ha0 : a = 0 := hdz
  rw [if_pos ha0] at hjj
  have hb2 : (⟨p, e, t, s, l, u, st⟩ : ValS) = v := hb2
  subst hb2
  subst hjj
  subst ha0
  subst hb1
  have HE := Lib.hid hb3
  clear h g1 ha hat hj h1 h2 h3 h4 h5 h6 h7 hF hfl hec hde hdz hv hsl hb3
  go_enter Try.func18, Try.ntmps18
  go_wp2_with (first
    | (go_at_call 24; (with_reducible refine (s_new S HSL.out H.out).mono ?_); rintro e_ wn ⟨bi, rfl, h⟩; replace H := Lib.hid h; clear h)
    | (go_at_call 72; (with_reducible refine (s_intV bi _ _ _ 2 HA.out H.out).mono ?_); rintro e_ wn ⟨rfl, h⟩; replace H := Lib.hid h; clear h)
    | (go_at_call 74; (with_reducible refine (val_fields bi _ _ _ _ _ _ _ _ p e t s u st l H1.out H2.out H3.out H4.out H5.out H6.out H7.out H.out).mono ?_); rintro e_ wn ⟨qt, capt, lr, rfl, hlr, h⟩; obtain ⟨vb, hvb⟩ : ∃ b, wn.heap.size = b := ⟨_, rfl⟩; have h := h.allocRaw #[.int .i64 p, .int .i64 e, .int .i64 t, .int .i64 s, .slice qt lr.length capt, .int .i64 u, .int .i64 st] 24; rw [hvb] at h; have HLR := Lib.hid hlr; clear hlr; replace H := Lib.hid h; clear h)
    | (go_at_call 34; (with_reducible refine (s_closeV bi _ _ HEC.out H.out.p1).mono ?_); rintro e_ wn ⟨rfl, h⟩; have c0 := h.p1.rawCell 0; have c1 := h.p1.rawCell 1; have c2 := h.p1.rawCell 2; have c3 := h.p1.rawCell 3; have c4 := h.p1.rawCell 4; have c5 := h.p1.rawCell 5; have c6 := h.p1.rawCell 6; simp at c0 c1 c2 c3 c4 c5 c6; have d0 := h.p2.rawCell 0; have r0 := h.p2.rawFree 0; have d1 := h.p2.rawCell 1; have r1 := h.p2.rawFree 1; have d2 := h.p2.rawCell 2; have r2 := h.p2.rawFree 2; have d3 := h.p2.rawCell 3; have r3 := h.p2.rawFree 3; have d4 := h.p2.rawCell 4; have r4 := h.p2.rawFree 4; have d5 := h.p2.rawCell 5; have r5 := h.p2.rawFree 5; have d6 := h.p2.rawCell 6; have r6 := h.p2.rawFree 6; simp at d0 d1 d2 d3 d4 d5 d6; replace H := Lib.hid h; clear h)
    | (go_at_call 17; (with_reducible refine (val_checkV p e t s u st lr _ _ 0 (by rw [HLR.out]; exact HE.out) (fewT_of (by rw [HLR.out]; exact HFL.out)) (Know.has_right (Know.has_refl _)) H.out).mono ?_); rintro e_ wn ⟨rfl, h⟩; have c0 := h.p1.rawCell 0; have c1 := h.p1.rawCell 1; have c2 := h.p1.rawCell 2; have c3 := h.p1.rawCell 3; have c4 := h.p1.rawCell 4; have c5 := h.p1.rawCell 5; have c6 := h.p1.rawCell 6; simp at c0 c1 c2 c3 c4 c5 c6; have d0 := h.p2.rawCell 0; have r0 := h.p2.rawFree 0; have d1 := h.p2.rawCell 1; have r1 := h.p2.rawFree 1; have d2 := h.p2.rawCell 2; have r2 := h.p2.rawFree 2; have d3 := h.p2.rawCell 3; have r3 := h.p2.rawFree 3; have d4 := h.p2.rawCell 4; have r4 := h.p2.rawFree 4; have d5 := h.p2.rawCell 5; have r5 := h.p2.rawFree 5; have d6 := h.p2.rawCell 6; have r6 := h.p2.rawFree 6; simp at d0 d1 d2 d3 d4 d5 d6; replace H := Lib.hid h; clear h))
  have hz : St W0 _ _ (.raw rb #[.int .i64 p, .int .i64 e, .int .i64 t, .int .i64 s, .slice qt lr.length capt, .int .i64 u, .int .i64 st] 24 :: _) := St.sets7 _ _ _ _ _ _ _ (H.out.p2)
  refine bodyPost_ret (rc_cell_tmp rfl _ _ rb [.int .i64 p, .int .i64 e, .int .i64 t, .int .i64 s, .slice qt lr.length capt, .int .i64 u, .int .i64 st] _ rfl (rc_range hz) Try.underlying24 rfl (by kernel_rfl)) rfl ?_
  exact ⟨qt, capt, lr, rfl, HLR.out, hz.drop.drop.drop⟩

end Go.Proofs.Ytombolmicfjjpaa

/- Parts of requests of transactions. -/
namespace Go.Proofs.Ytombolmicfjjpaa
open Go.RowKit

set_option maxHeartbeats 1000000 in
set_option maxRecDepth 100000 in
theorem txn_who (p e : Int) (r : Bool) (hr : who p e = r) {W0 w : World} {K : Know} {L : List Res} (h : St W0 w K L) :
    Calls Try.prog 46 #[.int .i64 p, .int .i64 e] w fun en w' => en = .returned (.bool r) ∧ St W0 w' K L := by
  have H := Lib.hid h
  clear h
  cases r with
  | true =>
    obtain ⟨h1, h2, h3⟩ := who_t hr
    clear hr

    go_enter Try.func46, Try.ntmps46
    go_wp2
    go_ret
    exact ⟨rfl, H.out⟩
  | false =>
    by_cases h1 : p < 0
    · have g1 : ¬ (0 ≤ p) := by omega
      clear hr

      go_enter Try.func46, Try.ntmps46
      go_wp2
      go_ret
      exact ⟨rfl, H.out⟩
    · have g1 : 0 ≤ p := by omega
      by_cases h2 : e < 0
      · have g2 : ¬ (0 ≤ e) := by omega
        clear hr

        go_enter Try.func46, Try.ntmps46
        go_wp2
        go_ret
        exact ⟨rfl, H.out⟩
      · have g2 : 0 ≤ e := by omega
        have g3 : ¬ (e ≤ 32767) := by rcases who_f hr with h | h | h <;> omega
        clear hr

        go_enter Try.func46, Try.ntmps46
        go_wp2
        go_ret
        exact ⟨rfl, H.out⟩

set_option maxHeartbeats 1000000 in
set_option maxRecDepth 100000 in
theorem txn_rise (l : List (TopS × Value)) (q : Option Addr) (cap : Nat) (E : Int) (hE : riseE (l.map (·.1)) = E) (hf : FewT l) {W0 w : World} {K : Know} {L : List Res} (hk : K.has (Know.tops (.slice q l.length cap) l)) (h : St W0 w K L) :
    Calls Try.prog 47 #[.slice q l.length cap] w fun en w' => en = .returned (.int .i64 E) ∧ St W0 w' K L := by
  have H := Lib.hid h
  have HE := Lib.hid ((riseE_eq _).trans hE)
  have HF := Lib.hid hf
  have HK := Lib.hid hk
  clear h hE hf hk
  go_enter Try.func47, Try.ntmps47
  go_wp2_with (go_at_call 17; (with_reducible refine (val_checkV 0 0 0 1 0 0 l _ _ _ HE.out HF.out HK.out H.out).mono ?_); rintro e_ wn ⟨rfl, h⟩; replace H := Lib.hid h; clear h)
  go_ret
  exact ⟨rfl, H.out⟩
set_option maxHeartbeats 1000000 in
set_option maxRecDepth 100000 in
theorem s_bool (b : Nat) (i j : InS) (c : Bool) (hx : i.boolP = (c, j)) {W0 w : World} {K : Know} {L : List Res} (h : St W0 w K (.inp b i :: L)) :
    Calls Try.prog 48 #[inPtr b] w fun en w' => en = .returned (.bool c) ∧ St W0 w' K (.inp b j :: L) := by
  have H := Lib.hid h
  clear h
  obtain ⟨⟨n, k⟩, hn⟩ : ∃ r, i.int 1 = r := ⟨_, rfl⟩
  have HN := Lib.hid hn
  unfold InS.boolP at hx
  rw [hn] at hx
  simp only [Prod.mk.injEq] at hx
  obtain ⟨hc, hj⟩ := hx
  clear hn
  by_cases h0 : n = 0
  · rw [if_neg (by omega)] at hj
    subst h0 hj hc
    go_enter Try.func48, Try.ntmps48
    go_wp2_with (go_at_call 72; (with_reducible refine (s_intV b _ _ _ 1 HN.out H.out).mono ?_); rintro e_ wn ⟨rfl, h⟩; replace H := Lib.hid h; clear h)
    go_ret
    exact ⟨rfl, H.out⟩
  · by_cases h1 : n = 1
    · rw [if_neg (by omega)] at hj
      subst h1 hj hc
      go_enter Try.func48, Try.ntmps48
      go_wp2_with (go_at_call 72; (with_reducible refine (s_intV b _ _ _ 1 HN.out H.out).mono ?_); rintro e_ wn ⟨rfl, h⟩; replace H := Lib.hid h; clear h)
      go_ret
      exact ⟨rfl, H.out⟩
    · rw [if_pos ⟨h0, h1⟩] at hj
      have g0 : (n == 0) = false := by rw [beq_eq_false_iff_ne]; exact h0
      have g00 : (n != 0) = true := by simp [bne, g0]
      have g1 : (n == 1) = false := by rw [beq_eq_false_iff_ne]; exact h1
      have g11 : (n != 1) = true := by simp [bne, g1]
      rw [g1] at hc
      subst hc
      have HJ := Lib.hid hj
      clear hj h0 h1
      go_enter Try.func48, Try.ntmps48
      go_wp2_with (first
    | (go_at_call 72; (with_reducible refine (s_intV b _ _ _ 1 HN.out H.out).mono ?_); rintro e_ wn ⟨rfl, h⟩; replace H := Lib.hid h; clear h)
    | (go_at_call 73; (with_reducible refine (s_failV b _ _ 11 HJ.out H.out).mono ?_); rintro e_ wn ⟨rfl, h⟩; replace H := Lib.hid h; clear h))
      go_ret
      exact ⟨rfl, H.out⟩
theorem so_byteV (b : Nat) (e e2 : Bs) (c : UInt8) (n : Int) (hn : n = c.toNat) (he : e ++ [c] = e2) (hl : e.length ≤ 100000000000000) {W0 w : World} {K : Know} {L : List Res} (h : St W0 w K (.out b ⟨e, 0⟩ :: L)) :
    Calls Try.prog 102 #[outPtr b, .int .u8 n] w fun en w' => en = .returned (.tuple #[]) ∧ St W0 w' K (.out b ⟨e2, 0⟩ :: L) := by
  subst he hn; exact so_byte b ⟨e, 0⟩ c h (by unfold OutS.ok; simp only; omega)
set_option maxHeartbeats 1000000 in
set_option maxRecDepth 100000 in
theorem txn_putBool (b : Nat) (e e2 : Bs) (c : Bool) (he : e ++ encO c = e2) (hl : e.length ≤ 100000000000000) {W0 w : World} {K : Know} {L : List Res} (h : St W0 w K (.out b ⟨e, 0⟩ :: L)) :
    Calls Try.prog 49 #[outPtr b, .bool c] w fun en w' => en = .returned (.tuple #[]) ∧ St W0 w' K (.out b ⟨e2, 0⟩ :: L) := by
  have H := Lib.hid h
  have HE := Lib.hid he
  have HL := Lib.hid hl
  clear h he hl
  cases c with
  | true =>
    have HE2 : Hid (e ++ [1] = e2) := Lib.hid HE.out
    have HN2 := Lib.hid (show (1 : Int) = ((1 : UInt8).toNat : Int) by decide)
    go_enter Try.func49, Try.ntmps49
    go_wp2_with (go_at_call 102; (with_reducible refine (so_byteV b e e2 1 1 HN2.out HE2.out HL.out H.out).mono ?_); rintro e_ wn ⟨rfl, h⟩; replace H := Lib.hid h; clear h)
    go_end0
    exact ⟨rfl, H.out⟩
  | false =>
    have HE2 : Hid (e ++ [0] = e2) := Lib.hid HE.out
    have HN2 := Lib.hid (show (0 : Int) = ((0 : UInt8).toNat : Int) by decide)
    go_enter Try.func49, Try.ntmps49
    go_wp2_with (go_at_call 102; (with_reducible refine (so_byteV b e e2 0 0 HN2.out HE2.out HL.out H.out).mono ?_); rintro e_ wn ⟨rfl, h⟩; replace H := Lib.hid h; clear h)
    go_end0
    exact ⟨rfl, H.out⟩
set_option maxHeartbeats 1000000 in
set_option maxRecDepth 100000 in
theorem txn_checkWriter (id : Bs) (p e : Int) (r : Int) (hr : chkW id p e = r) (hl : id.length ≤ 140737488355328) {W0 w : World} {K : Know} {L : List Res} (h : St W0 w K L) :
    Calls Try.prog 123 #[.string (bb id), .int .i64 p, .int .i64 e] w fun en w' => en = .returned (.int .i64 r) ∧ St W0 w' K L := by
  have H := Lib.hid h
  have HL := Lib.hid hl
  unfold chkW at hr
  obtain ⟨a, ha⟩ : ∃ a, keyRight id = a := ⟨_, rfl⟩
  obtain ⟨c, hc⟩ : ∃ c, who p e = c := ⟨_, rfl⟩
  have HA := Lib.hid ha
  have HC := Lib.hid hc
  rw [ha, hc] at hr
  clear h hl ha hc
  cases a with
  | false =>
    obtain rfl : (4 : Int) = r := hr
    go_enter Try.func123, Try.ntmps123
    go_wp2_with (go_at_call 89; (with_reducible refine (key_right' id _ HL.out HA.out H.out).mono ?_); rintro e_ wn ⟨rfl, h⟩; replace H := Lib.hid h; clear h)
    go_ret
    exact ⟨rfl, H.out⟩
  | true =>
    cases c with
    | false =>
      obtain rfl : (11 : Int) = r := hr
      go_enter Try.func123, Try.ntmps123
      go_wp2_with (first
    | (go_at_call 89; (with_reducible refine (key_right' id _ HL.out HA.out H.out).mono ?_); rintro e_ wn ⟨rfl, h⟩; replace H := Lib.hid h; clear h)
    | (go_at_call 46; (with_reducible refine (txn_who p e _ HC.out H.out).mono ?_); rintro e_ wn ⟨rfl, h⟩; replace H := Lib.hid h; clear h))
      go_ret
      exact ⟨rfl, H.out⟩
    | true =>
      obtain rfl : (0 : Int) = r := hr
      go_enter Try.func123, Try.ntmps123
      go_wp2_with (first
    | (go_at_call 89; (with_reducible refine (key_right' id _ HL.out HA.out H.out).mono ?_); rintro e_ wn ⟨rfl, h⟩; replace H := Lib.hid h; clear h)
    | (go_at_call 46; (with_reducible refine (txn_who p e _ HC.out H.out).mono ?_); rintro e_ wn ⟨rfl, h⟩; replace H := Lib.hid h; clear h))
      go_ret
      exact ⟨rfl, H.out⟩
set_option maxHeartbeats 1000000 in
set_option maxRecDepth 100000 in
theorem end_check (id : Bs) (p e : Int) (c : Bool) (r : Int) (hr : chkW id p e = r) (hl : id.length ≤ 140737488355328) {W0 w : World} {K : Know} {L : List Res} (h : St W0 w K L) :
    Calls Try.prog 96 #[.agg #[.string (bb id), .int .i64 p, .int .i64 e, .bool c]] w fun en w' => en = .returned (.int .i64 r) ∧ St W0 w' K L := by
  have h0 := h.allocRaw #[.string (bb id), .int .i64 p, .int .i64 e, .bool c] 136
  have H := Lib.hid h0
  have HR := Lib.hid hr
  have HL := Lib.hid hl
  clear h h0 hr hl
  go_enter Try.func96, Try.ntmps96
  go_wp2_with (go_at_call 123; (with_reducible refine (txn_checkWriter id p e _ HR.out HL.out H.out).mono ?_); rintro e_ wn ⟨rfl, h⟩; replace H := Lib.hid h; clear h)
  go_ret
  exact ⟨rfl, H.out.drop⟩

end Go.Proofs.Ytombolmicfjjpaa

/- Marks: what is wrong with one. -/
namespace Go.Proofs.Ytombolmicfjjpaa
open Go.RowKit

set_option maxHeartbeats 8000000 in
set_option maxRecDepth 100000 in
theorem mark_check1 (v p e : Int) (c : Bool) (l : List (TopS × Value)) (q : Option Addr) (cap : Nat) (co : Int) (r : Int) (hr : mErr v p e (l.map (·.1)) co = r) (hf : FewT l) {W0 w : World} {K : Know} {L : List Res} (hk : K.has (Know.tops (.slice q l.length cap) l)) (h : St W0 w K L) :
    Calls Try.prog 56 #[.agg #[.int .i64 p, .int .i64 e, .bool c, .slice q l.length cap, .int .i64 co], .int .i64 v] w fun en w' => en = .returned (.int .i64 r) ∧ St W0 w' K L := by
  have H := Lib.hid (h.allocRaw #[.int .i64 p, .int .i64 e, .bool c, .slice q l.length cap, .int .i64 co] 92)
  have HF := Lib.hid hf
  have HK := Lib.hid hk
  unfold mErr at hr
  obtain ⟨a, ha⟩ : ∃ a, who p e = a := ⟨_, rfl⟩
  have HW := Lib.hid ha
  rw [ha] at hr
  clear h hf hk
  cases a with
  | false =>
    obtain rfl : (11 : Int) = r := hr
    clear ha
    go_enter Try.func56, Try.ntmps56
    go_wp2_with (first
    | (go_at_call 46; (with_reducible refine (txn_who p e _ HW.out H.out).mono ?_); rintro e_ wn ⟨rfl, h⟩; have c0 := h.rawCell 0; have c1 := h.rawCell 1; have c2 := h.rawCell 2; have c3 := h.rawCell 3; have c4 := h.rawCell 4; simp at c0 c1 c2 c3 c4; replace H := Lib.hid h; clear h))
    go_ret
    exact ⟨rfl, H.out.drop⟩
  | true =>
    rw [if_neg (by decide)] at hr
    clear ha
    by_cases h4 : co < 0
    · rw [if_pos (.inl h4)] at hr
      subst hr
      go_enter Try.func56, Try.ntmps56
      go_wp2_with (first
    | (go_at_call 46; (with_reducible refine (txn_who p e _ HW.out H.out).mono ?_); rintro e_ wn ⟨rfl, h⟩; have c0 := h.rawCell 0; have c1 := h.rawCell 1; have c2 := h.rawCell 2; have c3 := h.rawCell 3; have c4 := h.rawCell 4; simp at c0 c1 c2 c3 c4; replace H := Lib.hid h; clear h))
      go_ret
      exact ⟨rfl, H.out.drop⟩
    by_cases h5 : 2147483647 < co
    · rw [if_pos (.inr h5)] at hr
      subst hr
      go_enter Try.func56, Try.ntmps56
      go_wp2_with (first
    | (go_at_call 46; (with_reducible refine (txn_who p e _ HW.out H.out).mono ?_); rintro e_ wn ⟨rfl, h⟩; have c0 := h.rawCell 0; have c1 := h.rawCell 1; have c2 := h.rawCell 2; have c3 := h.rawCell 3; have c4 := h.rawCell 4; simp at c0 c1 c2 c3 c4; replace H := Lib.hid h; clear h))
      go_ret
      exact ⟨rfl, H.out.drop⟩
    rw [if_neg (by omega)] at hr
    by_cases h6 : v = 0
    · subst h6
      cases hc : (co == 0) with
      | true =>
        have hc2 : (co != 0) = false := by simp [bne, hc]
        rw [if_neg (by simp at hc; omega)] at hr
        have HE := Lib.hid hr
        clear hr
        go_enter Try.func56, Try.ntmps56
        go_wp2_with (first
    | (go_at_call 46; (with_reducible refine (txn_who p e _ HW.out H.out).mono ?_); rintro e_ wn ⟨rfl, h⟩; have c0 := h.rawCell 0; have c1 := h.rawCell 1; have c2 := h.rawCell 2; have c3 := h.rawCell 3; have c4 := h.rawCell 4; simp at c0 c1 c2 c3 c4; replace H := Lib.hid h; clear h)
    | (go_at_call 47; (with_reducible refine (txn_rise l q cap r HE.out HF.out HK.out H.out).mono ?_); rintro e_ wn ⟨rfl, h⟩; replace H := Lib.hid h; clear h))
        go_ret
        exact ⟨rfl, H.out.drop⟩
      | false =>
        have hc2 : (co != 0) = true := by simp [bne, hc]
        rw [if_pos ⟨rfl, by simpa using hc⟩] at hr
        subst hr
        go_enter Try.func56, Try.ntmps56
        go_wp2_with (first
    | (go_at_call 46; (with_reducible refine (txn_who p e _ HW.out H.out).mono ?_); rintro e_ wn ⟨rfl, h⟩; have c0 := h.rawCell 0; have c1 := h.rawCell 1; have c2 := h.rawCell 2; have c3 := h.rawCell 3; have c4 := h.rawCell 4; simp at c0 c1 c2 c3 c4; replace H := Lib.hid h; clear h))
        go_ret
        exact ⟨rfl, H.out.drop⟩
    · have hv : (v == 0) = false := by rw [beq_eq_false_iff_ne]; exact h6
      rw [if_neg (by omega)] at hr
      clear h6
      have HE := Lib.hid hr
      clear hr
      go_enter Try.func56, Try.ntmps56
      go_wp2_with (first
    | (go_at_call 46; (with_reducible refine (txn_who p e _ HW.out H.out).mono ?_); rintro e_ wn ⟨rfl, h⟩; have c0 := h.rawCell 0; have c1 := h.rawCell 1; have c2 := h.rawCell 2; have c3 := h.rawCell 3; have c4 := h.rawCell 4; simp at c0 c1 c2 c3 c4; replace H := Lib.hid h; clear h)
    | (go_at_call 47; (with_reducible refine (txn_rise l q cap r HE.out HF.out HK.out H.out).mono ?_); rintro e_ wn ⟨rfl, h⟩; replace H := Lib.hid h; clear h))
      go_ret
      exact ⟨rfl, H.out.drop⟩

end Go.Proofs.Ytombolmicfjjpaa

/- Which topics rise, of marks (pure). -/
namespace Go.Proofs.Ytombolmicfjjpaa
open Go.RowKit

theorem riseE_tM {l : List (TopS × Value)} (hz : ((l.length : Int) == 0) = false) (hr : tRise (l.map (·.1)) = true) : riseE (l.map (·.1)) = 0 := by
  unfold riseE
  rw [if_neg (by intro h; rw [List.map_eq_nil_iff] at h; subst h; cases hz), hr]
  rfl
theorem riseE_fM {l : List (TopS × Value)} (hz : ((l.length : Int) == 0) = false) (hr : tRise (l.map (·.1)) = false) : riseE (l.map (·.1)) = 13 := by
  unfold riseE
  rw [if_neg (by intro h; rw [List.map_eq_nil_iff] at h; subst h; cases hz), hr]
  rfl
theorem riseE_zM {l : List (TopS × Value)} (hz : ((l.length : Int) == 0) = true) : riseE (l.map (·.1)) = 10 := by
  have h1 : (l.length : Int) = 0 := by simpa using hz
  have h2 : l = [] := List.length_eq_zero_iff.1 (by omega)
  subst h2
  rfl

end Go.Proofs.Ytombolmicfjjpaa

/- Marks, by definition: what is wrong with one. -/
namespace Go.Proofs.Ytombolmicfjjpaa
open Go.RowKit

set_option maxHeartbeats 8000000 in
set_option maxRecDepth 100000 in
theorem ref19_one (v p e : Int) (c : Bool) (l : List (TopS × Value)) (q : Option Addr) (cap : Nat) (co : Int) (r : Int) (hr : mErr v p e (l.map (·.1)) co = r) (hf : FewT l) {W0 w : World} {K : Know} {L : List Res} (hk : K.has (Know.tops (.slice q l.length cap) l)) (h : St W0 w K L) :
    Calls Try.prog 104 #[.agg #[.int .i64 p, .int .i64 e, .bool c, .slice q l.length cap, .int .i64 co], .int .i64 v] w fun en w' => en = .returned (.int .i64 r) ∧ St W0 w' K L := by
  have H := Lib.hid (h.allocRaw #[.int .i64 p, .int .i64 e, .bool c, .slice q l.length cap, .int .i64 co] 152)
  have HF := Lib.hid hf
  have HK := Lib.hid hk
  unfold mErr at hr
  obtain ⟨a, ha⟩ : ∃ a, who p e = a := ⟨_, rfl⟩
  have HW := Lib.hid ha
  rw [ha] at hr
  clear h hf hk
  cases a with
  | false =>
    obtain rfl : (11 : Int) = r := hr
    by_cases h1 : p < 0
    · clear ha
      go_enter Try.func104, Try.ntmps104
      go_wp2_with (fail)
      go_ret
      exact ⟨rfl, H.out.drop⟩
    · by_cases h2 : e < 0
      · clear ha
        go_enter Try.func104, Try.ntmps104
        go_wp2_with (fail)
        go_ret
        exact ⟨rfl, H.out.drop⟩
      · have h3 : 32767 < e := by rcases who_f ha with h | h | h <;> omega
        clear ha
        go_enter Try.func104, Try.ntmps104
        go_wp2_with (fail)
        go_ret
        exact ⟨rfl, H.out.drop⟩
  | true =>
    rw [if_neg (by decide)] at hr
    obtain ⟨w1, w2, w3⟩ := who_t ha
    have w4 : ¬ p < 0 := by omega
    have w5 : ¬ e < 0 := by omega
    have w6 : ¬ 32767 < e := by omega
    clear ha w1 w2 w3
    by_cases h4 : co < 0
    · rw [if_pos (.inl h4)] at hr
      subst hr
      go_enter Try.func104, Try.ntmps104
      go_wp2_with (fail)
      go_ret
      exact ⟨rfl, H.out.drop⟩
    by_cases h5 : 2147483647 < co
    · rw [if_pos (.inr h5)] at hr
      subst hr
      go_enter Try.func104, Try.ntmps104
      go_wp2_with (fail)
      go_ret
      exact ⟨rfl, H.out.drop⟩
    rw [if_neg (by omega)] at hr
    by_cases h6 : v = 0
    · subst h6
      cases hc : (co == 0) with
      | true =>
        have hc2 : (co != 0) = false := by simp [bne, hc]
        rw [if_neg (by simp at hc; omega)] at hr
        cases hz : ((l.length : Int) == 0) with
        | true =>
          obtain rfl : (10 : Int) = r := (riseE_zM hz).symm.trans hr
          clear hr
          go_enter Try.func104, Try.ntmps104
          go_wp2_with (fail)
          go_ret
          exact ⟨rfl, H.out.drop⟩
        | false =>
          obtain ⟨rr, hrr⟩ : ∃ rr, tRise (l.map (·.1)) = rr := ⟨_, rfl⟩
          have HRI := Lib.hid hrr
          cases rr with
          | true =>
            obtain rfl : (0 : Int) = r := (riseE_tM hz hrr).symm.trans hr
            clear hr hrr
            go_enter Try.func104, Try.ntmps104
            go_wp2_with (first
    | (go_at_call 45; (with_reducible refine (ref14_rise l q cap _ HRI.out HF.out HK.out H.out).mono ?_); rintro e_ wn ⟨rfl, h⟩; replace H := Lib.hid h; clear h))
            go_ret
            exact ⟨rfl, H.out.drop⟩
          | false =>
            obtain rfl : (13 : Int) = r := (riseE_fM hz hrr).symm.trans hr
            clear hr hrr
            go_enter Try.func104, Try.ntmps104
            go_wp2_with (first
    | (go_at_call 45; (with_reducible refine (ref14_rise l q cap _ HRI.out HF.out HK.out H.out).mono ?_); rintro e_ wn ⟨rfl, h⟩; replace H := Lib.hid h; clear h))
            go_ret
            exact ⟨rfl, H.out.drop⟩
      | false =>
        have hc2 : (co != 0) = true := by simp [bne, hc]
        rw [if_pos ⟨rfl, by simpa using hc⟩] at hr
        subst hr
        go_enter Try.func104, Try.ntmps104
        go_wp2_with (fail)
        go_ret
        exact ⟨rfl, H.out.drop⟩
    · have hv : (v == 0) = false := by rw [beq_eq_false_iff_ne]; exact h6
      rw [if_neg (by omega)] at hr
      clear h6
      cases hz : ((l.length : Int) == 0) with
      | true =>
        obtain rfl : (10 : Int) = r := (riseE_zM hz).symm.trans hr
        clear hr
        go_enter Try.func104, Try.ntmps104
        go_wp2_with (fail)
        go_ret
        exact ⟨rfl, H.out.drop⟩
      | false =>
        obtain ⟨rr, hrr⟩ : ∃ rr, tRise (l.map (·.1)) = rr := ⟨_, rfl⟩
        have HRI := Lib.hid hrr
        cases rr with
        | true =>
          obtain rfl : (0 : Int) = r := (riseE_tM hz hrr).symm.trans hr
          clear hr hrr
          go_enter Try.func104, Try.ntmps104
          go_wp2_with (first
    | (go_at_call 45; (with_reducible refine (ref14_rise l q cap _ HRI.out HF.out HK.out H.out).mono ?_); rintro e_ wn ⟨rfl, h⟩; replace H := Lib.hid h; clear h))
          go_ret
          exact ⟨rfl, H.out.drop⟩
        | false =>
          obtain rfl : (13 : Int) = r := (riseE_fM hz hrr).symm.trans hr
          clear hr hrr
          go_enter Try.func104, Try.ntmps104
          go_wp2_with (first
    | (go_at_call 45; (with_reducible refine (ref14_rise l q cap _ HRI.out HF.out HK.out H.out).mono ?_); rintro e_ wn ⟨rfl, h⟩; replace H := Lib.hid h; clear h))
          go_ret
          exact ⟨rfl, H.out.drop⟩

end Go.Proofs.Ytombolmicfjjpaa

/- Marks: what is wrong with all of them. -/
namespace Go.Proofs.Ytombolmicfjjpaa
open Go.RowKit

set_option maxHeartbeats 4000000 in
set_option maxRecDepth 100000 in
theorem marks_check (v : Int) (l : List MarkR) (q : Option Addr) (cap : Nat) (r : Int) (hr : marksErr v (l.map MarkR.m) = r) (hf : ∀ x ∈ l, x.Fit) (hn : l.length ≤ 1000000) {W0 w : World} {K : Know} {L : List Res} (hk : K.has (Know.marks (.slice q l.length cap) l)) (h : St W0 w K L) :
    Calls Try.prog 55 #[.slice q l.length cap, .int .i64 v] w fun en w' => en = .returned (.int .i64 r) ∧ St W0 w' K L := by
  have H := Lib.hid h
  have HK := Lib.hid hk
  have HF := Lib.hid hf
  have hni : (l.length : Int) ≤ 1000000 := by omega
  unfold marksErr at hr
  clear h hk hf
  by_cases h0 : l = []
  · subst h0
    obtain rfl : (10 : Int) = r := hr
    go_enter Try.func55, Try.ntmps55
    go_wp2
    go_ret
    exact ⟨rfl, H.out⟩
  rw [if_neg (by rw [List.map_eq_nil_iff]; exact h0)] at hr
  have g0 : ((l.length : Int) == 0) = false := by
    rw [beq_eq_false_iff_ne]
    have := List.length_pos_iff.2 h0
    omega
  have HR := Lib.hid hr
  clear hr h0
  go_enter Try.func55, Try.ntmps55
  go_wp2
  go_loopw [6, 7, 13] (fun _ _ iv wr => ∃ k : Nat, k ≤ l.length ∧ iv = .int .i64 k ∧ Hid (msE v ((l.map MarkR.m).drop k) = r) ∧ St W0 wr K L) (fun _ _ iv _ => l.length - (intOf iv).toNat)
  case atStart => exact ⟨0, Nat.zero_le _, rfl, Lib.hid (by rw [List.drop_zero]; exact HR.out), H.out⟩
  case round =>
    obtain ⟨k, hkl, rfl, HM, hst⟩ := hrel
    clear H
    have H := Lib.hid hst
    clear hst
    by_cases hlt : k < l.length
    · as_aux_lemma =>
      obtain ⟨b0, off, hqq⟩ := marks_at HK.out H.out (by omega)
      subst hqq
      obtain ⟨x, hx⟩ : ∃ x, l[k] = x := ⟨_, rfl⟩
      have hmem : x ∈ l := hx ▸ List.getElem_mem hlt
      have hxk := marks_tops HK.out hmem
      have hcell := marks_cell HK.out H.out k hlt x hx
      have hmk : k < (l.map MarkR.m).length := by rw [List.length_map]; exact hlt
      have hmg : (l.map MarkR.m)[k] = x.m := by rw [List.getElem_map, hx]
      obtain ⟨hxl, hxf, hxr⟩ := HF.out x hmem
      obtain ⟨⟨p, e, c, tl, co⟩, xl, xq, xcap⟩ := x
      obtain ⟨c0, c1, c2, c3, c4⟩ : wr.cell? ⟨b0, off + k * 5, none⟩ = some (.int .i64 p) ∧ wr.cell? ⟨b0, off + k * 5 + 1, none⟩ = some (.int .i64 e) ∧ wr.cell? ⟨b0, off + k * 5 + 2, none⟩ = some (.bool c) ∧ wr.cell? ⟨b0, off + k * 5 + 3, none⟩ = some (.slice xq xl.length xcap) ∧ wr.cell? ⟨b0, off + k * 5 + 4, none⟩ = some (.int .i64 co) := hcell
      have HXK := Lib.hid (show K.has (Know.tops (.slice xq xl.length xcap) xl) from hxk)
      have HXL := Lib.hid (show xl.map (·.1) = tl from hxl)
      have HXF := Lib.hid (show FewT xl from hxf)
      have hkn : (k : Int) < (l.length : Int) := by omega
      obtain ⟨tb, htb⟩ : ∃ b, wr.heap.size = b := ⟨_, rfl⟩
      have h := H.out.allocRaw #[.int .i64 p, .int .i64 e, .bool c, .slice xq xl.length xcap, .int .i64 co] 92
      rw [htb] at h
      obtain ⟨r1, hr1⟩ : ∃ r1, mErr v p e tl co = r1 := ⟨_, rfl⟩
      have HR1 := Lib.hid (show mErr v p e (xl.map fun y => y.1) co = r1 by rw [show (xl.map fun y => y.1) = tl from hxl]; exact hr1)
      have hme : ((l.map MarkR.m)[k]).err v = r1 := by rw [hmg]; exact hr1
      have d0 := h.rawCell 0
      have d1 := h.rawCell 1
      have d2 := h.rawCell 2
      have d3 := h.rawCell 3
      have d4 := h.rawCell 4
      simp at d0 d1 d2 d3 d4
      clear H
      have H := Lib.hid h
      clear h
      by_cases h1 : r1 = 0
      · have HN := Lib.hid ((msE_step v _ k hmk (by rw [hme]; exact h1)).symm.trans HM.out)
        subst h1
        clear hx hmem hxk hmk hmg hxl hxf hxr hr1 hme
        go_wp2_with (go_at_call 56; (with_reducible refine (mark_check1 v p e c xl xq xcap co _ HR1.out HXF.out HXK.out H.out).mono ?_); rintro e_ wn ⟨rfl, h⟩; replace H := Lib.hid h; clear h)
        go_roundw
        case rel => exact ⟨k + 1, hlt, by go_num, HN, H.out.drop⟩
        case measure => first | (simp [intOf]; done) | (simp [intOf]; omega)
      · have hb := (msE_bad v _ k hmk (by rw [hme]; exact h1)).symm.trans HM.out
        rw [hme] at hb
        have g1 : (r1 == 0) = false := by rw [beq_eq_false_iff_ne]; exact h1
        have g2 : (r1 != 0) = true := by simp [bne, g1]
        have HB := Lib.hid hb
        clear hx hmem hxk hmk hmg hxl hxf hxr hr1 hme hb h1
        go_wp2_with (go_at_call 56; (with_reducible refine (mark_check1 v p e c xl xq xcap co _ HR1.out HXF.out HXK.out H.out).mono ?_); rintro e_ wn ⟨rfl, h⟩; replace H := Lib.hid h; clear h)
        go_ret
        exact ⟨by rw [HB.out]; rfl, H.out.drop⟩
    · obtain rfl : k = l.length := by omega
      have hz := HM.out
      rw [List.drop_of_length_le (by rw [List.length_map]; exact Nat.le_refl _)] at hz
      obtain rfl : (0 : Int) = r := hz
      go_wp2
      go_ret
      exact ⟨rfl, H.out⟩

set_option maxHeartbeats 4000000 in
set_option maxRecDepth 100000 in
theorem ref19_check (v : Int) (l : List MarkR) (q : Option Addr) (cap : Nat) (r : Int) (hr : marksErr v (l.map MarkR.m) = r) (hf : ∀ x ∈ l, x.Fit) (hn : l.length ≤ 1000000) {W0 w : World} {K : Know} {L : List Res} (hk : K.has (Know.marks (.slice q l.length cap) l)) (h : St W0 w K L) :
    Calls Try.prog 53 #[.slice q l.length cap, .int .i64 v] w fun en w' => en = .returned (.int .i64 r) ∧ St W0 w' K L := by
  have H := Lib.hid h
  have HK := Lib.hid hk
  have HF := Lib.hid hf
  have hni : (l.length : Int) ≤ 1000000 := by omega
  unfold marksErr at hr
  clear h hk hf
  by_cases h0 : l = []
  · subst h0
    obtain rfl : (10 : Int) = r := hr
    go_enter Try.func53, Try.ntmps53
    go_wp2
    go_ret
    exact ⟨rfl, H.out⟩
  rw [if_neg (by rw [List.map_eq_nil_iff]; exact h0)] at hr
  have g0 : ((l.length : Int) == 0) = false := by
    rw [beq_eq_false_iff_ne]
    have := List.length_pos_iff.2 h0
    omega
  have HR := Lib.hid hr
  clear hr h0
  go_enter Try.func53, Try.ntmps53
  go_wp2
  go_loopw [5, 6] (fun iv _ wr => ∃ k : Nat, k ≤ l.length ∧ iv = .int .i64 k ∧ Hid (msE v ((l.map MarkR.m).drop k) = r) ∧ St W0 wr K L) (fun iv _ _ => l.length - (intOf iv).toNat)
  case atStart => exact ⟨0, Nat.zero_le _, rfl, Lib.hid (by rw [List.drop_zero]; exact HR.out), H.out⟩
  case round =>
    obtain ⟨k, hkl, rfl, HM, hst⟩ := hrel
    clear H
    have H := Lib.hid hst
    clear hst
    by_cases hlt : k < l.length
    · as_aux_lemma =>
      obtain ⟨b0, off, hqq⟩ := marks_at HK.out H.out (by omega)
      subst hqq
      obtain ⟨x, hx⟩ : ∃ x, l[k] = x := ⟨_, rfl⟩
      have hmem : x ∈ l := hx ▸ List.getElem_mem hlt
      have hxk := marks_tops HK.out hmem
      have hcell := marks_cell HK.out H.out k hlt x hx
      have hmk : k < (l.map MarkR.m).length := by rw [List.length_map]; exact hlt
      have hmg : (l.map MarkR.m)[k] = x.m := by rw [List.getElem_map, hx]
      obtain ⟨hxl, hxf, hxr⟩ := HF.out x hmem
      obtain ⟨⟨p, e, c, tl, co⟩, xl, xq, xcap⟩ := x
      obtain ⟨c0, c1, c2, c3, c4⟩ : wr.cell? ⟨b0, off + k * 5, none⟩ = some (.int .i64 p) ∧ wr.cell? ⟨b0, off + k * 5 + 1, none⟩ = some (.int .i64 e) ∧ wr.cell? ⟨b0, off + k * 5 + 2, none⟩ = some (.bool c) ∧ wr.cell? ⟨b0, off + k * 5 + 3, none⟩ = some (.slice xq xl.length xcap) ∧ wr.cell? ⟨b0, off + k * 5 + 4, none⟩ = some (.int .i64 co) := hcell
      have HXK := Lib.hid (show K.has (Know.tops (.slice xq xl.length xcap) xl) from hxk)
      have HXL := Lib.hid (show xl.map (·.1) = tl from hxl)
      have HXF := Lib.hid (show FewT xl from hxf)
      have hkn : (k : Int) < (l.length : Int) := by omega
      obtain ⟨r1, hr1⟩ : ∃ r1, mErr v p e tl co = r1 := ⟨_, rfl⟩
      have HR1 := Lib.hid (show mErr v p e (xl.map fun y => y.1) co = r1 by rw [show (xl.map fun y => y.1) = tl from hxl]; exact hr1)
      have hme : ((l.map MarkR.m)[k]).err v = r1 := by rw [hmg]; exact hr1
      by_cases h1 : r1 = 0
      · have HN := Lib.hid ((msE_step v _ k hmk (by rw [hme]; exact h1)).symm.trans HM.out)
        subst h1
        clear hx hmem hxk hmk hmg hxl hxf hxr hr1 hme
        go_wp2_with (go_at_call 104; (with_reducible refine (ref19_one v p e c xl xq xcap co _ HR1.out HXF.out HXK.out H.out).mono ?_); rintro e_ wn ⟨rfl, h⟩; replace H := Lib.hid h; clear h)
        go_roundw
        case rel => exact ⟨k + 1, hlt, by go_num, HN, H.out⟩
        case measure => first | (simp [intOf]; done) | (simp [intOf]; omega)
      · have hb := (msE_bad v _ k hmk (by rw [hme]; exact h1)).symm.trans HM.out
        rw [hme] at hb
        have g1 : (r1 == 0) = false := by rw [beq_eq_false_iff_ne]; exact h1
        have g2 : (r1 != 0) = true := by simp [bne, g1]
        have HB := Lib.hid hb
        clear hx hmem hxk hmk hmg hxl hxf hxr hr1 hme hb h1
        go_wp2_with (go_at_call 104; (with_reducible refine (ref19_one v p e c xl xq xcap co _ HR1.out HXF.out HXK.out H.out).mono ?_); rintro e_ wn ⟨rfl, h⟩; replace H := Lib.hid h; clear h)
        go_ret
        exact ⟨by rw [HB.out]; rfl, H.out⟩
    · obtain rfl : k = l.length := by omega
      have hz := HM.out
      rw [List.drop_of_length_le (by rw [List.length_map]; exact Nat.le_refl _)] at hz
      obtain rfl : (0 : Int) = r := hz
      go_wp2
      go_ret
      exact ⟨rfl, H.out⟩

end Go.Proofs.Ytombolmicfjjpaa

/- Marks, as the document has them. -/
namespace Go.Proofs.Ytombolmicfjjpaa
open Go.RowKit

theorem elem_mk19 : ElemT Try.prog 152 (.agg #[.int .i64 0, .int .i64 0, .bool false, .slice none 0 0, .int .i64 0]) 5 56 := elemT_of (by kernel_rfl) rfl (by decide)
theorem elem_mk : ElemT Try.prog 92 (.agg #[.int .i64 0, .int .i64 0, .bool false, .slice none 0 0, .int .i64 0]) 5 56 := elemT_of (by kernel_rfl) rfl (by decide)
def mcells (x : MarkR) : List Value := [.int .i64 x.m.prod, .int .i64 x.m.epoch, .bool x.m.commit, .slice x.q x.l.length x.cap, .int .i64 x.m.coord]
theorem marks_know {K : Know} {v : Value} {l : List MarkR} (h1 : K.has (Know.flat RMark v 5 l)) (h2 : ∀ x ∈ l, K.has (Know.tops (.slice x.q x.l.length x.cap) x.l)) : K.has (Know.marks v l) := fun w F h => ⟨h1 w F h, fun x hx => h2 x hx w F h⟩
theorem marks_nil (K : Know) : K.has (Know.marks (.slice none 0 0) []) := marks_know (know_nil0 RMark 5 K) (fun x hx => by cases hx)
theorem St.freezeMarks {W0 w : World} {K : Know} {L : List Res} {v : Value} {T : TypeId} {l : List MarkR} (h : St W0 w K (.row v T 5 l.length (l.flatMap mcells) :: L)) (ht : ∀ x ∈ l, K.has (Know.tops (.slice x.q x.l.length x.cap) x.l)) : St W0 w (K.and (Know.marks v l)) L := by
  have hf := h.freezeRow (R := RMark) (fun x _ => ⟨rfl, rfl⟩)
  exact hf.know (K' := K.and (Know.marks v l)) (fun w F hh => ⟨hh.1, hh.2, fun x hx => ht x hx _ _ hh.1⟩)

set_option maxHeartbeats 4000000 in
set_option maxRecDepth 100000 in
theorem law19_of (l : List MarkR) (q : Option Addr) (cap : Nat) (hn : l.length ≤ 1000000) (hf : ∀ x ∈ l, x.Fit) {W0 w : World} {K : Know} {L : List Res} (hk : K.has (Know.marks (.slice q l.length cap) l)) (h : St W0 w K L) :
    Calls Try.prog 54 #[.slice q l.length cap] w fun en w' => ∃ v, en = .returned v ∧ St W0 w' (K.and (Know.marks v l)) L := by
  have H := Lib.hid h
  have HK := Lib.hid hk
  have HF := Lib.hid hf
  have hni : (l.length : Int) ≤ 1000000 := by omega
  clear h hk hf
  go_enter Try.func54, Try.ntmps54
  go_wp2
  go_loopw [3, 8] (fun lv iv wr => ∃ (k : Nat) (xs : List Value), k ≤ l.length ∧ iv = .int .i64 k ∧ Hid (xs = (l.take k).flatMap mcells) ∧ St W0 wr K (.row lv 152 5 k xs :: L)) (fun _ iv _ => l.length - (intOf iv).toNat)
  case atStart => exact ⟨0, [], Nat.zero_le _, rfl, Lib.hid rfl, H.out.nilRow 152 5⟩
  case round =>
    obtain ⟨k, xs, hkl, rfl, HXS, hst⟩ := hrel
    clear H
    have H := Lib.hid hst
    clear hst
    by_cases hlt : k < l.length
    · obtain ⟨b0, off, hqq⟩ := marks_at HK.out H.out (by omega)
      subst hqq
      obtain ⟨x, hx⟩ : ∃ x, l[k] = x := ⟨_, rfl⟩
      have hmem : x ∈ l := hx ▸ List.getElem_mem hlt
      have hxk := marks_tops HK.out hmem
      have hcell := marks_cell HK.out H.out k hlt x hx
      have hmk : k < (l.map MarkR.m).length := by rw [List.length_map]; exact hlt
      have hmg : (l.map MarkR.m)[k] = x.m := by rw [List.getElem_map, hx]
      obtain ⟨hxl, hxf, hxr⟩ := HF.out x hmem
      obtain ⟨⟨p, e, c, tl, co⟩, xl, xq, xcap⟩ := x
      obtain ⟨c0, c1, c2, c3, c4⟩ : wr.cell? ⟨b0, off + k * 5, none⟩ = some (.int .i64 p) ∧ wr.cell? ⟨b0, off + k * 5 + 1, none⟩ = some (.int .i64 e) ∧ wr.cell? ⟨b0, off + k * 5 + 2, none⟩ = some (.bool c) ∧ wr.cell? ⟨b0, off + k * 5 + 3, none⟩ = some (.slice xq xl.length xcap) ∧ wr.cell? ⟨b0, off + k * 5 + 4, none⟩ = some (.int .i64 co) := hcell
      have HXK := Lib.hid (show K.has (Know.tops (.slice xq xl.length xcap) xl) from hxk)
      have HXL := Lib.hid (show xl.map (·.1) = tl from hxl)
      have HXF := Lib.hid (show FewT xl from hxf)
      have hkn : (k : Int) < (l.length : Int) := by omega
      obtain ⟨tb, htb⟩ : ∃ b, wr.heap.size = b := ⟨_, rfl⟩
      have h := H.out.allocRaw #[.int .i64 p, .int .i64 e, .bool c, .slice xq xl.length xcap, .int .i64 co] 92
      rw [htb] at h
      have HXE := Lib.hid (show l[k] = ⟨⟨p, e, c, tl, co⟩, xl, xq, xcap⟩ from hx)
      have d0 := h.rawCell 0
      have d1 := h.rawCell 1
      have d2 := h.rawCell 2
      have d3 := h.rawCell 3
      have d4 := h.rawCell 4
      simp at d0 d1 d2 d3 d4
      clear H
      have H := Lib.hid h
      clear h
      clear hx hmem hxk hmk hmg hxl hxf hxr
      go_wp2_with (at_builtin; refine wpl_app1_st rfl _ _ 88 rfl 152 Try.underlying88 elem_mk19 _ _ _ rfl H.out.p1 [.int .i64 p, .int .i64 e, .bool c, .slice xq xl.length xcap, .int .i64 co] 152 (by rw [World.size_alloc, htb]; rfl) rfl (by simp [Value.oneCell']) (by unfold maxLen; omega) (by omega) ?_; intro v' w' h; replace H := Lib.hid h; clear h)
      go_roundw
      case rel =>
        refine ⟨k + 1, xs ++ [.int .i64 p, .int .i64 e, .bool c, .slice xq xl.length xcap, .int .i64 co], hlt, by go_num, Lib.hid ?_, H.out.p1.drop⟩
        rw [List.take_succ_eq_append_getElem hlt, List.flatMap_append, HXE.out, List.flatMap_cons, List.flatMap_nil, List.append_nil, ← HXS.out]
        rfl
      case measure => first | (simp [intOf]; done) | (simp [intOf]; omega)
    · obtain rfl : k = l.length := by omega
      have h := H.out
      rw [HXS.out, List.take_length] at h
      clear H
      have H := Lib.hid h
      clear h
      go_wp2
      go_ret
      exact ⟨_, rfl, H.out.freezeMarks (fun x hx => marks_tops HK.out hx)⟩

end Go.Proofs.Ytombolmicfjjpaa

/- One mark as a slice. -/
namespace Go.Proofs.Ytombolmicfjjpaa
open Go.RowKit

/-- One mark, in a slice of its own. -/
theorem freezeMark1 {W0 w : World} {K : Know} {L : List Res} {s : Nat} {T : TypeId} (p e : Int) (c : Bool) (tl : List TopS) (co : Int) (xl : List (TopS × Value)) (xq : Option Addr) (xcap : Nat) (hk : K.has (Know.tops (.slice xq xl.length xcap) xl)) (h : St W0 w K (.raw s #[.int .i64 p, .int .i64 e, .bool c, .slice xq xl.length xcap, .int .i64 co] T :: L)) :
    St W0 w (K.and (Know.marks (.slice (some ⟨s, 0, none⟩) 1 1) [⟨⟨p, e, c, tl, co⟩, xl, xq, xcap⟩])) L := by
  refine h.freeze fun F S1 hF h1 => ?_
  have hlt := heap_lt h1.1
  have hs : S1 s := (h1.2 s).2 rfl
  refine ⟨⟨some ⟨s, 0, none⟩, 1, rfl, fun _ => ⟨s, 0, rfl, .inr ⟨hs, hlt⟩, hlt, fun i hi => ?_⟩⟩, fun x hx => ?_⟩
  · have hi0 : i = 0 := by simp at hi; omega
    subst hi0
    refine ⟨[.int .i64 p, .int .i64 e, .bool c, .slice xq xl.length xcap, .int .i64 co], rfl, rfl, fun f u hu => ?_⟩
    have hc := cell_at h1.1 f
    simp only [Nat.zero_mul, Nat.zero_add]
    rw [hc]
    simpa using hu
  · rw [List.mem_singleton.1 hx]
    exact (Know.tops (.slice xq xl.length xcap) xl).mono w F _ (hk w F hF) (fun _ h => .inl h)
/-- The first of them, as a slice. -/
theorem marks_first {K : Know} {q : Option Addr} {n cap : Nat} {x : MarkR} {t : List MarkR} (h : K.has (Know.marks (.slice q n cap) (x :: t))) : K.has (Know.marks (.slice q 1 cap) [x]) := by
  intro w F hF
  obtain ⟨⟨q2, cap2, hv, hr⟩, ht⟩ := h w F hF
  simp at hv
  obtain ⟨rfl, _, rfl⟩ := hv
  obtain ⟨b, off, hq, hb, hs, hc⟩ := hr (by simp)
  refine ⟨⟨q, cap, rfl, fun _ => ⟨b, off, hq, hb, hs, fun i hi => ?_⟩⟩, fun y hy => ht y (by rw [List.mem_singleton.1 hy]; simp)⟩
  have hi0 : i = 0 := by simp at hi; omega
  subst hi0
  exact hc 0 (by simp)

end Go.Proofs.Ytombolmicfjjpaa

/- Ends of transactions, written. -/
namespace Go.Proofs.Ytombolmicfjjpaa
open Go.RowKit

theorem so_failT (p : Nat) (o o2 : OutS) (e : Int) (hx : o.fail e = o2) {W0 w : World} {K : Know} {L : List Res} (h : St W0 w K (.out p o :: L)) :
    Calls Try.prog 103 #[outPtr p, .int .i64 e] w fun en w' => en = .returned (.tuple #[]) ∧ St W0 w' K (.out p o2 :: L) := by
  subst hx; exact so_fail p o e h
set_option maxHeartbeats 1000000 in
set_option maxRecDepth 100000 in
theorem may_end (b : Nat) (o o2 : OutS) (id : Bs) (p e : Int) (c : Bool) (r : Int) (t : Bool) (hr : chkW id p e = r) (ht : (r == 0) = t) (ho : (if r = 0 then o else o.fail r) = o2) (hl : id.length ≤ 140737488355328) {W0 w : World} {K : Know} {L : List Res} (h : St W0 w K (.out b o :: L)) :
    Calls Try.prog 116 #[outPtr b, .func (.func 96) #[.agg #[.string (bb id), .int .i64 p, .int .i64 e, .bool c]] #[]] w fun en w' => en = .returned (.bool t) ∧ St W0 w' K (.out b o2 :: L) := by
  have H := Lib.hid h
  have HR := Lib.hid hr
  have HL := Lib.hid hl
  clear h hr hl
  by_cases h0 : r = 0
  · rw [if_pos h0] at ho
    subst ho h0
    obtain rfl : true = t := ht
    go_enter Try.func116, Try.ntmps116
    go_wp2_with (go_at_call 96; go_loud ((with_reducible refine (end_check id p e c _ HR.out HL.out H.out).mono ?_)); rintro e_ wn ⟨rfl, h⟩; replace H := Lib.hid h; clear h)
    go_ret
    exact ⟨rfl, H.out⟩
  · rw [if_neg h0] at ho
    have HO := Lib.hid ho
    have g0 : (r == 0) = false := by rw [beq_eq_false_iff_ne]; exact h0
    have g00 : (r != 0) = true := by simp [bne, g0]
    rw [g0] at ht
    subst ht
    clear ho h0
    go_enter Try.func116, Try.ntmps116
    go_wp2_with (first
    | (go_at_call 96; (with_reducible refine (end_check id p e c _ HR.out HL.out H.out).mono ?_); rintro e_ wn ⟨rfl, h⟩; replace H := Lib.hid h; clear h)
    | (go_at_call 103; (with_reducible refine (so_failT b _ _ _ HO.out H.out).mono ?_); rintro e_ wn ⟨rfl, h⟩; replace H := Lib.hid h; clear h))
    go_ret
    exact ⟨rfl, H.out⟩

end Go.Proofs.Ytombolmicfjjpaa

/- Ends of transactions, written and read. -/
namespace Go.Proofs.Ytombolmicfjjpaa
open Go.RowKit

theorem chkW_ok {id : Bs} {p e : Int} (h : chkW id p e = 0) : keyRight id = true ∧ who p e = true := by
  unfold chkW at h
  by_cases h1 : keyRight id = false
  · rw [if_pos h1] at h; cases h
  · rw [if_neg h1] at h
    by_cases h2 : who p e = false
    · rw [if_pos h2] at h; cases h
    · exact ⟨by simpa using h1, by simpa using h2⟩
set_option maxHeartbeats 1000000 in
set_option maxRecDepth 100000 in
theorem txn_putWriter (b : Nat) (o o1 o2 : Bs) (p e : Int) (h1 : o ++ beBytes p (8 : Int).toNat = o1) (h2 : o1 ++ beBytes e (2 : Int).toNat = o2) (hf8 : fits p 8) (hf2 : fits e 2) (hl : o.length ≤ 100000000) {W0 w : World} {K : Know} {L : List Res} (h : St W0 w K (.out b ⟨o, 0⟩ :: L)) :
    Calls Try.prog 117 #[outPtr b, .int .i64 p, .int .i64 e] w fun en w' => en = .returned (.tuple #[]) ∧ St W0 w' K (.out b ⟨o2, 0⟩ :: L) := by
  have H := Lib.hid h
  have H1 := Lib.hid h1
  have H2 := Lib.hid h2
  have HF8 := Lib.hid hf8
  have HF2 := Lib.hid hf2
  have HL := Lib.hid (show o.length ≤ 100000000000000 by omega)
  have HL2 := Lib.hid (show o1.length ≤ 100000000000000 by rw [← h1, List.length_append, beBytes_length]; have : (8 : Int).toNat = 8 := rfl; omega)
  clear h h1 h2 hf8 hf2 hl
  go_enter Try.func117, Try.ntmps117
  go_wp2_with (first
    | (go_at_call 69; (with_reducible refine (so_intV b o o1 p 8 H1.out HF8.out HL.out H.out).mono ?_); rintro e_ wn ⟨rfl, h⟩; replace H := Lib.hid h; clear h)
    | (go_at_call 69; (with_reducible refine (so_intV b o1 o2 e 2 H2.out HF2.out HL2.out H.out).mono ?_); rintro e_ wn ⟨rfl, h⟩; replace H := Lib.hid h; clear h))
  go_end0
  exact ⟨rfl, H.out⟩
set_option maxHeartbeats 2000000 in
set_option maxRecDepth 100000 in
theorem end_write_ok (b : Nat) (o o1 o2 o3 o4 : Bs) (id : Bs) (p e : Int) (c : Bool) (h1 : o ++ encF 2 ⟨false, id⟩ = o1) (h2 : o1 ++ beBytes p (8 : Int).toNat = o2) (h3 : o2 ++ beBytes e (2 : Int).toNat = o3) (h4 : o3 ++ encO c = o4) (hk : chkW id p e = 0) (hil : id.length ≤ 32767) (hp : p < 9223372036854775808) (hl : o.length ≤ 1000000) {W0 w : World} {K : Know} {L : List Res} (h : St W0 w K (.out b ⟨o, 0⟩ :: L)) :
    Calls Try.prog 90 #[.agg #[.string (bb id), .int .i64 p, .int .i64 e, .bool c], outPtr b] w fun en w' => en = .returned (.tuple #[]) ∧ St W0 w' K (.out b ⟨o4, 0⟩ :: L) := by
  have hw := who_t (chkW_ok hk).2
  have h0 := h.allocRaw #[.string (bb id), .int .i64 p, .int .i64 e, .bool c] 136
  have H := Lib.hid h0
  have H1 := Lib.hid h1
  have H2 := Lib.hid h2
  have H3 := Lib.hid h3
  have H4 := Lib.hid h4
  have HK := Lib.hid hk
  have HIL := Lib.hid hil
  have HIL2 := Lib.hid (show id.length ≤ 140737488355328 by omega)
  have HF8 := Lib.hid (vfits8 p (by omega))
  have HF2 := Lib.hid (vfits2 e (by omega))
  have hl1 : o1.length = o.length + (id.length + 2) := by rw [← h1, List.length_append]; unfold encF; rw [List.length_append, beBytes_length]; simp only; omega
  have hl2 : o2.length = o1.length + 8 := by rw [← h2, List.length_append, beBytes_length]; rfl
  have hl3 : o3.length = o2.length + 2 := by rw [← h3, List.length_append, beBytes_length]; rfl
  have HL := Lib.hid (show o.length ≤ 100000000000000 by omega)
  have HL1 := Lib.hid (show o1.length ≤ 100000000 by omega)
  have HL3 := Lib.hid (show o3.length ≤ 100000000000000 by omega)
  have HT := Lib.hid (show ((0 : Int) == 0) = true by rfl)
  have HO := Lib.hid (show (if (0 : Int) = 0 then (⟨o, 0⟩ : OutS) else (⟨o, 0⟩ : OutS).fail 0) = ⟨o, 0⟩ by rfl)
  clear h h0 h1 h2 h3 h4 hk hil hp hl hl1 hl2 hl3 hw
  go_enter Try.func90, Try.ntmps90
  go_wp2_with (first
    | (go_at_call 116; (with_reducible refine (may_end b _ _ id p e c _ _ HK.out HT.out HO.out HIL2.out H.out.p1).mono ?_); rintro e_ wn ⟨rfl, h⟩; have d0 := h.p1.rawCell 0; have d1 := h.p1.rawCell 1; have d2 := h.p1.rawCell 2; have d3 := h.p1.rawCell 3; simp at d0 d1 d2 d3; replace H := Lib.hid h; clear h)
    | (go_at_call 86; (with_reducible refine (blob_putTextV b o o1 id H1.out HIL.out HL.out H.out).mono ?_); rintro e_ wn ⟨rfl, h⟩; have d0 := h.p1.rawCell 0; have d1 := h.p1.rawCell 1; have d2 := h.p1.rawCell 2; have d3 := h.p1.rawCell 3; simp at d0 d1 d2 d3; replace H := Lib.hid h; clear h)
    | (go_at_call 117; (with_reducible refine (txn_putWriter b o1 o2 o3 p e H2.out H3.out HF8.out HF2.out HL1.out H.out).mono ?_); rintro e_ wn ⟨rfl, h⟩; have d0 := h.p1.rawCell 0; have d1 := h.p1.rawCell 1; have d2 := h.p1.rawCell 2; have d3 := h.p1.rawCell 3; simp at d0 d1 d2 d3; replace H := Lib.hid h; clear h)
    | (go_at_call 49; (with_reducible refine (txn_putBool b o3 o4 c H4.out HL3.out H.out).mono ?_); rintro e_ wn ⟨rfl, h⟩; replace H := Lib.hid h; clear h))
  go_end0
  exact ⟨rfl, H.out.p1.drop⟩
set_option maxHeartbeats 1000000 in
set_option maxRecDepth 100000 in
theorem txn_readWriter (b : Nat) (i i1 i2 : InS) (p e : Int) (h1 : i.int 8 = (p, i1)) (h2 : i1.int 2 = (e, i2)) {W0 w : World} {K : Know} {L : List Res} (h : St W0 w K (.inp b i :: L)) :
    Calls Try.prog 118 #[inPtr b] w fun en w' => en = .returned (.tuple #[.int .i64 p, .int .i64 e]) ∧ St W0 w' K (.inp b i2 :: L) := by
  have H := Lib.hid h
  have H1 := Lib.hid h1
  have H2 := Lib.hid h2
  clear h h1 h2
  go_enter Try.func118, Try.ntmps118
  go_wp2_with (first
    | (go_at_call 72; (with_reducible refine (s_intV b _ _ _ 8 H1.out H.out).mono ?_); rintro e_ wn ⟨rfl, h⟩; replace H := Lib.hid h; clear h)
    | (go_at_call 72; (with_reducible refine (s_intV b _ _ _ 2 H2.out H.out).mono ?_); rintro e_ wn ⟨rfl, h⟩; replace H := Lib.hid h; clear h))
  go_ret2
  exact ⟨rfl, H.out⟩

end Go.Proofs.Ytombolmicfjjpaa
