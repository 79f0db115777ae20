/- Ends of transactions as batches (pure). -/
import Derived.Test.YtcjgdlfcfcabiaaBatQ
import Derived.Test.YtcjgdlfcfcabiaaCtl3
import Derived.Test.YtcjgdlfcfcabiaaSep
import Derived.Deep.MidRow
namespace Go.Proofs.Ytcjgdlfcfcabiaa
open Go.RowKit

theorem rc_cell_tmp {P : Program} {fn : Func} {p t : Tmp} {ty : TypeId} (h : fn.results = #[.cell p ty, .tmp t]) (tmps : Array Value) (w : World) (b : Nat) (cs : List Value) (d : TypeDesc)
    (hp : tmps.getD p undef = .pointer (some ⟨b, 0, none⟩)) (hc : w.rangeAt b 0 cs) (hu : P.underlying ty = some d) (hd : d.isRow = true) (hi : (P.info? ty).map (·.size) = some cs.length) :
    (results fn tmps).run P w = .ok (.tuple #[.agg cs.toArray, tmps.getD t undef]) w := by
  have hp' : tmps[p]?.getD undef = .pointer (some ⟨b, 0, none⟩) := by simpa using hp
  simp [results, h, hp', asAddr, run_loadVar_mid w b 0 ty cs d hc hu hd hi]
theorem rc_cell_only {P : Program} {fn : Func} {p : Tmp} {ty : TypeId} (h : fn.results = #[.cell p ty]) (tmps : Array Value) (w : World) (b : Nat) (cs : List Value) (d : TypeDesc)
    (hp : tmps.getD p undef = .pointer (some ⟨b, 0, none⟩)) (hc : w.rangeAt b 0 cs) (hu : P.underlying ty = some d) (hd : d.isRow = true) (hi : (P.info? ty).map (·.size) = some cs.length) :
    (results fn tmps).run P w = .ok (.agg cs.toArray) w := by
  have hp' : tmps[p]?.getD undef = .pointer (some ⟨b, 0, none⟩) := by simpa using hp
  simp [results, h, hp', asAddr, run_loadVar_mid w b 0 ty cs d hc hu hd hi]
theorem rc_range {W0 w : World} {K : Know} {L : List Res} {b : Nat} {c : List Value} {T : TypeId} (h : St W0 w K (.raw b c.toArray T :: L)) : w.rangeAt b 0 c := by
  intro j v hv
  rw [Nat.zero_add, h.rawCell j]
  simpa using hv
theorem raw5e {W0 w : World} {K : Know} {L : List Res} {b : Nat} {a0 a1 a2 a3 a4 : Value} {T : TypeId} (h : St W0 w K (.raw b #[a0, a1, a2, a3, a4] T :: L)) :
    (w.cell? ⟨b, 0, none⟩ = some a0 ∧ w.cell? ⟨b, 1, none⟩ = some a1 ∧ w.cell? ⟨b, 2, none⟩ = some a2 ∧ w.cell? ⟨b, 3, none⟩ = some a3 ∧ w.cell? ⟨b, 4, none⟩ = some a4) ∧
    (w.frozen? ⟨b, 0, none⟩ = false ∧ w.frozen? ⟨b, 1, none⟩ = false ∧ w.frozen? ⟨b, 2, none⟩ = false ∧ w.frozen? ⟨b, 3, none⟩ = false ∧ w.frozen? ⟨b, 4, none⟩ = false) :=
  ⟨⟨(h.rawCell 0).trans rfl, (h.rawCell 1).trans rfl, (h.rawCell 2).trans rfl, (h.rawCell 3).trans rfl, (h.rawCell 4).trans rfl⟩, h.rawFree 0, h.rawFree 1, h.rawFree 2, h.rawFree 3, h.rawFree 4⟩
theorem St.sets12 {W0 w : World} {K : Know} {L : List Res} {b : Nat} {T : TypeId} {a0 a1 a2 a3 a4 a5 a6 a7 a8 a9 a10 a11 : Value} (v0 v1 v2 v3 v4 v5 v6 v7 v8 v9 v10 v11 : Value) (h : St W0 w K (.raw b #[a0, a1, a2, a3, a4, a5, a6, a7, a8, a9, a10, a11] T :: L)) : St W0 ((((((((((((w.setCell ⟨b, 0, none⟩ v0).setCell ⟨b, 1, none⟩ v1).setCell ⟨b, 2, none⟩ v2).setCell ⟨b, 3, none⟩ v3).setCell ⟨b, 4, none⟩ v4).setCell ⟨b, 5, none⟩ v5).setCell ⟨b, 6, none⟩ v6).setCell ⟨b, 7, none⟩ v7).setCell ⟨b, 8, none⟩ v8).setCell ⟨b, 9, none⟩ v9).setCell ⟨b, 10, none⟩ v10).setCell ⟨b, 11, none⟩ v11) K (.raw b #[v0, v1, v2, v3, v4, v5, v6, v7, v8, v9, v10, v11] T :: L) := by
  have h : St W0 _ K (.raw b #[v0, a1, a2, a3, a4, a5, a6, a7, a8, a9, a10, a11] T :: L) := h.rawSet 0 v0
  have h : St W0 _ K (.raw b #[v0, v1, a2, a3, a4, a5, a6, a7, a8, a9, a10, a11] T :: L) := h.rawSet 1 v1
  have h : St W0 _ K (.raw b #[v0, v1, v2, a3, a4, a5, a6, a7, a8, a9, a10, a11] T :: L) := h.rawSet 2 v2
  have h : St W0 _ K (.raw b #[v0, v1, v2, v3, a4, a5, a6, a7, a8, a9, a10, a11] T :: L) := h.rawSet 3 v3
  have h : St W0 _ K (.raw b #[v0, v1, v2, v3, v4, a5, a6, a7, a8, a9, a10, a11] T :: L) := h.rawSet 4 v4
  have h : St W0 _ K (.raw b #[v0, v1, v2, v3, v4, v5, a6, a7, a8, a9, a10, a11] T :: L) := h.rawSet 5 v5
  have h : St W0 _ K (.raw b #[v0, v1, v2, v3, v4, v5, v6, a7, a8, a9, a10, a11] T :: L) := h.rawSet 6 v6
  have h : St W0 _ K (.raw b #[v0, v1, v2, v3, v4, v5, v6, v7, a8, a9, a10, a11] T :: L) := h.rawSet 7 v7
  have h : St W0 _ K (.raw b #[v0, v1, v2, v3, v4, v5, v6, v7, v8, a9, a10, a11] T :: L) := h.rawSet 8 v8
  have h : St W0 _ K (.raw b #[v0, v1, v2, v3, v4, v5, v6, v7, v8, v9, a10, a11] T :: L) := h.rawSet 9 v9
  have h : St W0 _ K (.raw b #[v0, v1, v2, v3, v4, v5, v6, v7, v8, v9, v10, a11] T :: L) := h.rawSet 10 v10
  have h : St W0 _ K (.raw b #[v0, v1, v2, v3, v4, v5, v6, v7, v8, v9, v10, v11] T :: L) := h.rawSet 11 v11
  exact h
/-- How a batch ends a transaction: whose, of which epoch, how, when, by whom, and that it does. -/
def endOf (b : BatS) : Int × Int × Int × Int × Int × Bool :=
  if b.ctl = true ∧ batErr b = 0 then match b.recs with
    | x :: _ => (b.prod, b.epoch, (ctlOf x).1, b.first + x.time, (ctlOf x).2.1, true)
    | [] => (0, 0, 0, 0, 0, false)
  else (0, 0, 0, 0, 0, false)
theorem rowsC_time {first last : Int} {x : RecS} {t : List RecS} {ah g g2 : Int} (h : rowsC first last (x :: t) ah g = .ok g2) : -first ≤ x.time ∧ x.time ≤ 9223372036854775807 - first := by
  rw [rowsC_cons] at h
  by_cases c1 : x.off ≤ ah ∨ last < x.off
  · rw [if_pos c1] at h; cases h
  rw [if_neg c1] at h
  by_cases c2 : x.time < -first ∨ 9223372036854775807 - first < x.time
  · rw [if_pos c2] at h; cases h
  omega
theorem batErr_ctl (b : BatS) (h : batErr b = 0) (hc : b.ctl = true) : ∃ x, b.recs = [x] ∧ (ctlOf x).2.2 = 0 ∧ (-b.first ≤ x.time ∧ x.time ≤ 9223372036854775807 - b.first) ∧ 0 ≤ b.first := by
  unfold batErr at h
  by_cases p1 : b.placed = false
  · rw [if_pos p1] at h; cases h
  rw [if_neg p1] at h
  by_cases p2 : b.ctl = true ∧ b.txn = false
  · rw [if_pos p2] at h; cases h
  rw [if_neg p2] at h
  by_cases p3 : b.signed = false
  · rw [if_pos p3] at h; cases h
  rw [if_neg p3] at h
  by_cases p4 : b.ctl = true ∧ b.recs.length ≠ 1
  · rw [if_pos p4] at h; cases h
  rw [if_neg p4] at h
  by_cases p5 : recsC b.recs ≠ 0
  · rw [if_pos p5] at h; exact absurd h p5
  rw [if_neg p5] at h
  by_cases p6 : b.ctl = true ∧ b.ends ≠ 0
  · rw [if_pos p6] at h; exact absurd h p6.2
  rw [if_neg p6] at h
  have hl : b.recs.length = 1 := by
    by_cases hh : b.recs.length = 1
    · exact hh
    · exact absurd ⟨hc, hh⟩ p4
  obtain ⟨x, hx⟩ := List.length_eq_one_iff.1 hl
  have hp : b.placed = true := by cases hh : b.placed with
    | false => exact absurd hh p1
    | true => rfl
  have hp2 := (of_decide_eq_true hp).2.2.2.2.1
  have he : b.ends = 0 := by
    by_cases hh : b.ends = 0
    · exact hh
    · exact absurd ⟨hc, hh⟩ p6
  unfold BatS.ends at he
  rw [hx] at he
  refine ⟨x, hx, he, ?_, hp2⟩
  unfold BatS.rows at h
  rw [hx] at h
  cases hr : rowsC b.first b.last [x] (-1) b.first with
  | error e =>
    rw [hr] at h
    have h : e = 0 := h
    subst h
    rw [rowsC_cons] at hr
    by_cases c1 : x.off ≤ -1 ∨ b.last < x.off
    · rw [if_pos c1] at hr; cases hr
    rw [if_neg c1] at hr
    by_cases c2 : x.time < -b.first ∨ 9223372036854775807 - b.first < x.time
    · rw [if_pos c2] at hr; cases hr
    rw [if_neg c2] at hr
    cases hr
  | ok g => exact rowsC_time hr

end Go.Proofs.Ytcjgdlfcfcabiaa
