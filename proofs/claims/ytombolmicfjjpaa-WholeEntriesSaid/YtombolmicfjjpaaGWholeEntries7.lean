/- The elements of arguments, opened, with their reach: topics, and values. -/
import Derived.Test.YtombolmicfjjpaaGWholeEntries6
import Derived.Test.YtombolmicfjjpaaBlob1
import Derived.Test.YtombolmicfjjpaaBlob2
import Derived.Test.YtombolmicfjjpaaRec1
import Derived.Test.YtombolmicfjjpaaRecP
import Derived.Test.YtombolmicfjjpaaRecs
import Derived.Test.YtombolmicfjjpaaSep
import Derived.Deep.MidRow
import Derived.Test.YtombolmicfjjpaaGWholeEntries4
import Derived.Deep.RegionHeld3
import Derived.Deep.DeepCutAuto
import Derived.Test.YtombolmicfjjpaaGWholeEntries5
import Derived.Test.YtombolmicfjjpaaKeyP
import Derived.Test.YtombolmicfjjpaaArgs
import Derived.SizedLaws
import Derived.Deep.Slices
import Derived.Test.YtombolmicfjjpaaGWholeEntries1
/- Contracts of cursitorref08. -/
namespace Go.Proofs.Ytombolmicfjjpaa
open Go.RowKit

theorem sr_bytes2 (n : Int) (hn : -9223372036854775808 ≤ n ∧ n < 9223372036854775808) {W0 w : World} {K : Know} {L : List Res} (h : St W0 w K L) :
    Calls Try.prog 75 #[.int .i64 n, .int .i64 2] w fun en w' => en = .returned (.string (bb (beBytes n 2))) ∧ St W0 w' K L := sr_bytes n 2 (by decide) hn h
theorem sr_bytes4 (n : Int) (hn : -9223372036854775808 ≤ n ∧ n < 9223372036854775808) {W0 w : World} {K : Know} {L : List Res} (h : St W0 w K L) :
    Calls Try.prog 75 #[.int .i64 n, .int .i64 4] w fun en w' => en = .returned (.string (bb (beBytes n 4))) ∧ St W0 w' K L := sr_bytes n 4 (by decide) hn h
end Go.Proofs.Ytombolmicfjjpaa

/- Contracts: control records. -/
namespace Go.Proofs.Ytombolmicfjjpaa
open Go.RowKit

theorem know_nil0 {α : Type} (R : List Value → α → Prop) (sz : Nat) (K : Know) : K.has (Know.flat R (.slice none 0 0) sz []) := fun _ _ _ => ⟨none, 0, rfl, fun h => absurd h (by simp)⟩

def ctlRead (n1 n2 : Bool) (d1 d2 : Bs) (many o : Int) : Int × Int × Int :=
  if n1 = true ∨ n2 = true ∨ many ≠ 0 ∨ o ≠ 0 then (0, 0, 12)
  else if (verRd 2 way 12 d1).2 ≠ 0 then (0, 0, (verRd 2 way 12 d1).2)
  else if (verRd 4 time0 11 d2).2 ≠ 0 then (0, 0, (verRd 4 time0 11 d2).2)
  else ((verRd 2 way 12 d1).1, (verRd 4 time0 11 d2).1, 0)

end Go.Proofs.Ytombolmicfjjpaa

/- Batches (pure): which may be. -/
namespace Go.Proofs.Ytombolmicfjjpaa
open Go.RowKit

structure BatS where
  base : Int
  leader : Int
  app : Bool
  txn : Bool
  ctl : Bool
  last : Int
  first : Int
  maxt : Int
  prod : Int
  epoch : Int
  seq : Int
  recs : List RecS
deriving DecidableEq
def BatS.zero : BatS := ⟨0, 0, false, false, false, 0, 0, 0, 0, 0, 0, []⟩
def Rn (n : Int) : Prop := -9223372036854775808 ≤ n ∧ n < 9223372036854775808
def BatS.R (b : BatS) : Prop := Rn b.base ∧ Rn b.leader ∧ Rn b.last ∧ Rn b.first ∧ Rn b.maxt ∧ Rn b.prod ∧ Rn b.epoch ∧ Rn b.seq
def BatS.placed (b : BatS) : Bool := decide (0 ≤ b.base ∧ (-1 ≤ b.leader ∧ b.leader ≤ 2147483647) ∧ (0 ≤ b.last ∧ b.last ≤ 2147483647) ∧ b.base ≤ 9223372036854775807 - b.last ∧ 0 ≤ b.first ∧ 0 ≤ b.maxt)
def BatS.signed (b : BatS) : Bool :=
  if b.prod = -1 then decide (b.epoch = -1 ∧ b.seq = -1 ∧ b.txn = false)
  else if b.prod < 0 ∨ ¬ (0 ≤ b.epoch ∧ b.epoch ≤ 32767) then false
  else if b.ctl then decide (b.seq = -1)
  else decide (0 ≤ b.seq ∧ b.seq ≤ 2147483647)
/-- The greatest time of records behind a first one, or why their places and times may not be. -/
def rowsC (first last : Int) : List RecS → Int → Int → Except Int Int
  | [], _, g => .ok g
  | r :: t, ah, g => if r.off ≤ ah ∨ last < r.off then .error 13 else if r.time < -first ∨ 9223372036854775807 - first < r.time then .error 11 else rowsC first last t r.off (max g (first + r.time))
def rowsE (app : Bool) (maxt : Int) (r : Except Int Int) : Int := match r with
  | .error e => e
  | .ok g => if app = false ∧ maxt ≠ g then 11 else 0
def BatS.rows (b : BatS) : Int := rowsE b.app b.maxt (rowsC b.first b.last b.recs (-1) b.first)
def recsC : List RecS → Int
  | [] => 0
  | r :: t => if recOk r = 0 then recsC t else recOk r
def ctlOf (r : RecS) : Int × Int × Int := ctlRead r.key.null r.val.null r.key.data r.val.data r.hdrs.length r.off
def BatS.ends (b : BatS) : Int := match b.recs with | [] => 0 | r :: _ => (ctlOf r).2.2
def batErr (b : BatS) : Int :=
  if b.placed = false then 11
  else if b.ctl = true ∧ b.txn = false then 8
  else if b.signed = false then 11
  else if b.ctl = true ∧ b.recs.length ≠ 1 then 10
  else if recsC b.recs ≠ 0 then recsC b.recs
  else if b.ctl = true ∧ b.ends ≠ 0 then b.ends
  else b.rows

end Go.Proofs.Ytombolmicfjjpaa

/- Batches (pure): rows. -/
namespace Go.Proofs.Ytombolmicfjjpaa
open Go.RowKit

def FitB (l : List (RecS × Value)) : Prop := ∀ x ∈ l, x.1.R ∧ HFit x.1.hdrs ∧ x.1.sum ≤ 1000000
theorem sum_hdrs {x : RecS} (h : x.sum ≤ 1000000) : x.hdrs.length ≤ 1000000 := by have := hsum_le x.hdrs; unfold RecS.sum at h; omega
theorem sum_data {x : RecS} (h : x.sum ≤ 1000000) : x.key.data.length ≤ 140737488355328 ∧ x.val.data.length ≤ 140737488355328 := by unfold RecS.sum at h; omega
theorem drop_recs (l : List (RecS × Value)) (k : Nat) (h : k < l.length) (x : RecS) (hx : l[k].1 = x) : (l.map (·.1)).drop k = x :: (l.map (·.1)).drop (k + 1) := by
  subst hx
  rw [List.drop_eq_getElem_cons (by simpa using h), List.getElem_map]
def GOf (r : Except Int Int) : Int := match r with | .ok g => g | .error _ => 0
theorem rowsC_cons (first last : Int) (r : RecS) (t : List RecS) (ah g : Int) : rowsC first last (r :: t) ah g = if r.off ≤ ah ∨ last < r.off then .error 13 else if r.time < -first ∨ 9223372036854775807 - first < r.time then .error 11 else rowsC first last t r.off (max g (first + r.time)) := rfl

end Go.Proofs.Ytombolmicfjjpaa

/- Ends of transactions as batches (pure). -/
namespace Go.Proofs.Ytombolmicfjjpaa
open Go.RowKit

theorem rc_cell_tmp {P : Program} {fn : Func} {p t : Tmp} {ty : TypeId} (h : fn.results = #[.cell p ty, .tmp t]) (tmps : Array Value) (w : World) (b : Nat) (cs : List Value) (d : TypeDesc)
    (hp : tmps.getD p undef = .pointer (some ⟨b, 0, none⟩)) (hc : w.rangeAt b 0 cs) (hu : P.underlying ty = some d) (hd : d.isRow = true) (hi : (P.info? ty).map (·.size) = some cs.length) :
    (results fn tmps).run P w = .ok (.tuple #[.agg cs.toArray, tmps.getD t undef]) w := by
  have hp' : tmps[p]?.getD undef = .pointer (some ⟨b, 0, none⟩) := by simpa using hp
  simp [results, h, hp', asAddr, run_loadVar_mid w b 0 ty cs d hc hu hd hi]
theorem rc_cell_only {P : Program} {fn : Func} {p : Tmp} {ty : TypeId} (h : fn.results = #[.cell p ty]) (tmps : Array Value) (w : World) (b : Nat) (cs : List Value) (d : TypeDesc)
    (hp : tmps.getD p undef = .pointer (some ⟨b, 0, none⟩)) (hc : w.rangeAt b 0 cs) (hu : P.underlying ty = some d) (hd : d.isRow = true) (hi : (P.info? ty).map (·.size) = some cs.length) :
    (results fn tmps).run P w = .ok (.agg cs.toArray) w := by
  have hp' : tmps[p]?.getD undef = .pointer (some ⟨b, 0, none⟩) := by simpa using hp
  simp [results, h, hp', asAddr, run_loadVar_mid w b 0 ty cs d hc hu hd hi]
theorem rc_range {W0 w : World} {K : Know} {L : List Res} {b : Nat} {c : List Value} {T : TypeId} (h : St W0 w K (.raw b c.toArray T :: L)) : w.rangeAt b 0 c := by
  intro j v hv
  rw [Nat.zero_add, h.rawCell j]
  simpa using hv
theorem raw5e {W0 w : World} {K : Know} {L : List Res} {b : Nat} {a0 a1 a2 a3 a4 : Value} {T : TypeId} (h : St W0 w K (.raw b #[a0, a1, a2, a3, a4] T :: L)) :
    (w.cell? ⟨b, 0, none⟩ = some a0 ∧ w.cell? ⟨b, 1, none⟩ = some a1 ∧ w.cell? ⟨b, 2, none⟩ = some a2 ∧ w.cell? ⟨b, 3, none⟩ = some a3 ∧ w.cell? ⟨b, 4, none⟩ = some a4) ∧
    (w.frozen? ⟨b, 0, none⟩ = false ∧ w.frozen? ⟨b, 1, none⟩ = false ∧ w.frozen? ⟨b, 2, none⟩ = false ∧ w.frozen? ⟨b, 3, none⟩ = false ∧ w.frozen? ⟨b, 4, none⟩ = false) :=
  ⟨⟨(h.rawCell 0).trans rfl, (h.rawCell 1).trans rfl, (h.rawCell 2).trans rfl, (h.rawCell 3).trans rfl, (h.rawCell 4).trans rfl⟩, h.rawFree 0, h.rawFree 1, h.rawFree 2, h.rawFree 3, h.rawFree 4⟩
theorem St.sets12 {W0 w : World} {K : Know} {L : List Res} {b : Nat} {T : TypeId} {a0 a1 a2 a3 a4 a5 a6 a7 a8 a9 a10 a11 : Value} (v0 v1 v2 v3 v4 v5 v6 v7 v8 v9 v10 v11 : Value) (h : St W0 w K (.raw b #[a0, a1, a2, a3, a4, a5, a6, a7, a8, a9, a10, a11] T :: L)) : St W0 ((((((((((((w.setCell ⟨b, 0, none⟩ v0).setCell ⟨b, 1, none⟩ v1).setCell ⟨b, 2, none⟩ v2).setCell ⟨b, 3, none⟩ v3).setCell ⟨b, 4, none⟩ v4).setCell ⟨b, 5, none⟩ v5).setCell ⟨b, 6, none⟩ v6).setCell ⟨b, 7, none⟩ v7).setCell ⟨b, 8, none⟩ v8).setCell ⟨b, 9, none⟩ v9).setCell ⟨b, 10, none⟩ v10).setCell ⟨b, 11, none⟩ v11) K (.raw b #[v0, v1, v2, v3, v4, v5, v6, v7, v8, v9, v10, v11] T :: L) := by
  have h : St W0 _ K (.raw b #[v0, a1, a2, a3, a4, a5, a6, a7, a8, a9, a10, a11] T :: L) := h.rawSet 0 v0
  have h : St W0 _ K (.raw b #[v0, v1, a2, a3, a4, a5, a6, a7, a8, a9, a10, a11] T :: L) := h.rawSet 1 v1
  have h : St W0 _ K (.raw b #[v0, v1, v2, a3, a4, a5, a6, a7, a8, a9, a10, a11] T :: L) := h.rawSet 2 v2
  have h : St W0 _ K (.raw b #[v0, v1, v2, v3, a4, a5, a6, a7, a8, a9, a10, a11] T :: L) := h.rawSet 3 v3
  have h : St W0 _ K (.raw b #[v0, v1, v2, v3, v4, a5, a6, a7, a8, a9, a10, a11] T :: L) := h.rawSet 4 v4
  have h : St W0 _ K (.raw b #[v0, v1, v2, v3, v4, v5, a6, a7, a8, a9, a10, a11] T :: L) := h.rawSet 5 v5
  have h : St W0 _ K (.raw b #[v0, v1, v2, v3, v4, v5, v6, a7, a8, a9, a10, a11] T :: L) := h.rawSet 6 v6
  have h : St W0 _ K (.raw b #[v0, v1, v2, v3, v4, v5, v6, v7, a8, a9, a10, a11] T :: L) := h.rawSet 7 v7
  have h : St W0 _ K (.raw b #[v0, v1, v2, v3, v4, v5, v6, v7, v8, a9, a10, a11] T :: L) := h.rawSet 8 v8
  have h : St W0 _ K (.raw b #[v0, v1, v2, v3, v4, v5, v6, v7, v8, v9, a10, a11] T :: L) := h.rawSet 9 v9
  have h : St W0 _ K (.raw b #[v0, v1, v2, v3, v4, v5, v6, v7, v8, v9, v10, a11] T :: L) := h.rawSet 10 v10
  have h : St W0 _ K (.raw b #[v0, v1, v2, v3, v4, v5, v6, v7, v8, v9, v10, v11] T :: L) := h.rawSet 11 v11
  exact h
/-- How a batch ends a transaction: whose, of which epoch, how, when, by whom, and that it does. -/
def endOf (b : BatS) : Int × Int × Int × Int × Int × Bool :=
  if b.ctl = true ∧ batErr b = 0 then match b.recs with
    | x :: _ => (b.prod, b.epoch, (ctlOf x).1, b.first + x.time, (ctlOf x).2.1, true)
    | [] => (0, 0, 0, 0, 0, false)
  else (0, 0, 0, 0, 0, false)
theorem rowsC_time {first last : Int} {x : RecS} {t : List RecS} {ah g g2 : Int} (h : rowsC first last (x :: t) ah g = .ok g2) : -first ≤ x.time ∧ x.time ≤ 9223372036854775807 - first := by
  rw [rowsC_cons] at h
  by_cases c1 : x.off ≤ ah ∨ last < x.off
  · rw [if_pos c1] at h; cases h
  rw [if_neg c1] at h
  by_cases c2 : x.time < -first ∨ 9223372036854775807 - first < x.time
  · rw [if_pos c2] at h; cases h
  omega
theorem batErr_ctl (b : BatS) (h : batErr b = 0) (hc : b.ctl = true) : ∃ x, b.recs = [x] ∧ (ctlOf x).2.2 = 0 ∧ (-b.first ≤ x.time ∧ x.time ≤ 9223372036854775807 - b.first) ∧ 0 ≤ b.first := by
  unfold batErr at h
  by_cases p1 : b.placed = false
  · rw [if_pos p1] at h; cases h
  rw [if_neg p1] at h
  by_cases p2 : b.ctl = true ∧ b.txn = false
  · rw [if_pos p2] at h; cases h
  rw [if_neg p2] at h
  by_cases p3 : b.signed = false
  · rw [if_pos p3] at h; cases h
  rw [if_neg p3] at h
  by_cases p4 : b.ctl = true ∧ b.recs.length ≠ 1
  · rw [if_pos p4] at h; cases h
  rw [if_neg p4] at h
  by_cases p5 : recsC b.recs ≠ 0
  · rw [if_pos p5] at h; exact absurd h p5
  rw [if_neg p5] at h
  by_cases p6 : b.ctl = true ∧ b.ends ≠ 0
  · rw [if_pos p6] at h; exact absurd h p6.2
  rw [if_neg p6] at h
  have hl : b.recs.length = 1 := by
    by_cases hh : b.recs.length = 1
    · exact hh
    · exact absurd ⟨hc, hh⟩ p4
  obtain ⟨x, hx⟩ := List.length_eq_one_iff.1 hl
  have hp : b.placed = true := by cases hh : b.placed with
    | false => exact absurd hh p1
    | true => rfl
  have hp2 := (of_decide_eq_true hp).2.2.2.2.1
  have he : b.ends = 0 := by
    by_cases hh : b.ends = 0
    · exact hh
    · exact absurd ⟨hc, hh⟩ p6
  unfold BatS.ends at he
  rw [hx] at he
  refine ⟨x, hx, he, ?_, hp2⟩
  unfold BatS.rows at h
  rw [hx] at h
  cases hr : rowsC b.first b.last [x] (-1) b.first with
  | error e =>
    rw [hr] at h
    have h : e = 0 := h
    subst h
    rw [rowsC_cons] at hr
    by_cases c1 : x.off ≤ -1 ∨ b.last < x.off
    · rw [if_pos c1] at hr; cases hr
    rw [if_neg c1] at hr
    by_cases c2 : x.time < -b.first ∨ 9223372036854775807 - b.first < x.time
    · rw [if_pos c2] at hr; cases hr
    rw [if_neg c2] at hr
    cases hr
  | ok g => exact rowsC_time hr

end Go.Proofs.Ytombolmicfjjpaa

/- The fields of a value, read. -/
namespace Go.Proofs.Ytombolmicfjjpaa
open Go.RowKit

set_option maxHeartbeats 2000000 in
set_option maxRecDepth 100000 in
theorem val_fields (b : Nat) (i i1 i2 i3 i4 i5 i6 i7 : InS) (p e t s u st : Int) (l : List TopS) (h1 : i.int 8 = (p, i1)) (h2 : i1.int 2 = (e, i2)) (h3 : i2.int 4 = (t, i3)) (h4 : i3.int 1 = (s, i4)) (h5 : i4.tops = (l, i5)) (h6 : i5.int 8 = (u, i6)) (h7 : i6.int 8 = (st, i7)) {W0 w : World} {K : Know} {L : List Res} (h : St W0 w K (.inp b i :: L)) :
    Calls Try.prog 74 #[inPtr b] w fun en w' => ∃ (qt : Option Addr) (capt : Nat) (lr : List (TopS × Value)), en = .returned (.agg #[.int .i64 p, .int .i64 e, .int .i64 t, .int .i64 s, .slice qt lr.length capt, .int .i64 u, .int .i64 st]) ∧ lr.map (·.1) = l ∧ St W0 w' (K.and (Know.tops (.slice qt lr.length capt) lr)) (.inp b i7 :: L) := by
  obtain ⟨rb, hrb⟩ : ∃ b, w.heap.size = b := ⟨_, rfl⟩
  obtain ⟨vb, hvb⟩ : ∃ b, rb + 1 = b := ⟨_, rfl⟩
  have g1 := (h.allocRaw #[.int .i64 0, .int .i64 0, .int .i64 0, .int .i64 0, .slice none 0 0, .int .i64 0, .int .i64 0] 24).allocRaw #[.int .i64 0, .int .i64 0, .int .i64 0, .int .i64 0, .slice none 0 0, .int .i64 0, .int .i64 0] 24
  simp only [World.size_alloc, hrb, hvb] at g1
  obtain ⟨i0, hi0⟩ : ∃ i0, i = i0 := ⟨_, rfl⟩
  subst hi0
  have H := Lib.hid g1.p2
  have H1 := Lib.hid h1
  have H2 := Lib.hid h2
  have H3 := Lib.hid h3
  have H4 := Lib.hid h4
  have H5 := Lib.hid h5
  have H6 := Lib.hid h6
  have H7 := Lib.hid h7
  clear h g1 h1 h2 h3 h4 h5 h6 h7
  go_enter Try.func74, Try.ntmps74
  go_wp2_with (first
    | (go_at_call 72; (with_reducible refine (s_intV b i i1 p 8 H1.out H.out).mono ?_); rintro e_ wn ⟨rfl, h⟩; have f0 := h.p1.rawFree 0; have g0 := h.p1.rawCell 0; simp at g0; have h := (show St W0 (wn.setCell ⟨vb, 0, none⟩ (.int .i64 p)) K (.inp b i1 :: .raw vb #[.int .i64 p, .int .i64 0, .int .i64 0, .int .i64 0, .slice none 0 0, .int .i64 0, .int .i64 0] 24 :: .raw rb #[.int .i64 0, .int .i64 0, .int .i64 0, .int .i64 0, .slice none 0 0, .int .i64 0, .int .i64 0] 24 :: L) from (h.p1.rawSet 0 (.int .i64 p)).p1); replace H := Lib.hid h; clear h)
    | (go_at_call 72; (with_reducible refine (s_intV b i1 i2 e 2 H2.out H.out).mono ?_); rintro e_ wn ⟨rfl, h⟩; have f1 := h.p1.rawFree 1; have g1 := h.p1.rawCell 1; simp at g1; have h := (show St W0 (wn.setCell ⟨vb, 1, none⟩ (.int .i64 e)) K (.inp b i2 :: .raw vb #[.int .i64 p, .int .i64 e, .int .i64 0, .int .i64 0, .slice none 0 0, .int .i64 0, .int .i64 0] 24 :: .raw rb #[.int .i64 0, .int .i64 0, .int .i64 0, .int .i64 0, .slice none 0 0, .int .i64 0, .int .i64 0] 24 :: L) from (h.p1.rawSet 1 (.int .i64 e)).p1); replace H := Lib.hid h; clear h)
    | (go_at_call 72; (with_reducible refine (s_intV b i2 i3 t 4 H3.out H.out).mono ?_); rintro e_ wn ⟨rfl, h⟩; have f2 := h.p1.rawFree 2; have g2 := h.p1.rawCell 2; simp at g2; have h := (show St W0 (wn.setCell ⟨vb, 2, none⟩ (.int .i64 t)) K (.inp b i3 :: .raw vb #[.int .i64 p, .int .i64 e, .int .i64 t, .int .i64 0, .slice none 0 0, .int .i64 0, .int .i64 0] 24 :: .raw rb #[.int .i64 0, .int .i64 0, .int .i64 0, .int .i64 0, .slice none 0 0, .int .i64 0, .int .i64 0] 24 :: L) from (h.p1.rawSet 2 (.int .i64 t)).p1); replace H := Lib.hid h; clear h)
    | (go_at_call 72; (with_reducible refine (s_intV b i3 i4 s 1 H4.out H.out).mono ?_); rintro e_ wn ⟨rfl, h⟩; have f3 := h.p1.rawFree 3; have g3 := h.p1.rawCell 3; simp at g3; have h := (show St W0 (wn.setCell ⟨vb, 3, none⟩ (.int .i64 s)) K (.inp b i4 :: .raw vb #[.int .i64 p, .int .i64 e, .int .i64 t, .int .i64 s, .slice none 0 0, .int .i64 0, .int .i64 0] 24 :: .raw rb #[.int .i64 0, .int .i64 0, .int .i64 0, .int .i64 0, .slice none 0 0, .int .i64 0, .int .i64 0] 24 :: L) from (h.p1.rawSet 3 (.int .i64 s)).p1); replace H := Lib.hid h; clear h)
    | (go_at_call 25; (with_reducible refine (val_topics b i4 i5 l H5.out H.out).mono ?_); rintro e_ wn ⟨tv, lr, rfl, hlr, h⟩; obtain ⟨qt, capt, htv⟩ := tops_form (Know.has_right (Know.has_refl _)) h; subst htv; have HLR := Lib.hid hlr; clear hlr; have f4 := h.p1.rawFree 4; have g4 := h.p1.rawCell 4; simp at g4; have h := (show St W0 (wn.setCell ⟨vb, 4, none⟩ (.slice qt lr.length capt)) (K.and (Know.tops (.slice qt lr.length capt) lr)) (.inp b i5 :: .raw vb #[.int .i64 p, .int .i64 e, .int .i64 t, .int .i64 s, .slice qt lr.length capt, .int .i64 0, .int .i64 0] 24 :: .raw rb #[.int .i64 0, .int .i64 0, .int .i64 0, .int .i64 0, .slice none 0 0, .int .i64 0, .int .i64 0] 24 :: L) from (h.p1.rawSet 4 (.slice qt lr.length capt)).p1); replace H := Lib.hid h; clear h)
    | (go_at_call 72; (with_reducible refine (s_intV b i5 i6 u 8 H6.out H.out).mono ?_); rintro e_ wn ⟨rfl, h⟩; have f5 := h.p1.rawFree 5; have g5 := h.p1.rawCell 5; simp at g5; have h := (show St W0 (wn.setCell ⟨vb, 5, none⟩ (.int .i64 u)) (K.and (Know.tops (.slice qt lr.length capt) lr)) (.inp b i6 :: .raw vb #[.int .i64 p, .int .i64 e, .int .i64 t, .int .i64 s, .slice qt lr.length capt, .int .i64 u, .int .i64 0] 24 :: .raw rb #[.int .i64 0, .int .i64 0, .int .i64 0, .int .i64 0, .slice none 0 0, .int .i64 0, .int .i64 0] 24 :: L) from (h.p1.rawSet 5 (.int .i64 u)).p1); replace H := Lib.hid h; clear h)
    | (go_at_call 72; (with_reducible refine (s_intV b i6 i7 st 8 H7.out H.out).mono ?_); rintro e_ wn ⟨rfl, h⟩; have f6 := h.p1.rawFree 6; have g6 := h.p1.rawCell 6; simp at g6; have h := (show St W0 (wn.setCell ⟨vb, 6, none⟩ (.int .i64 st)) (K.and (Know.tops (.slice qt lr.length capt) lr)) (.inp b i7 :: .raw vb #[.int .i64 p, .int .i64 e, .int .i64 t, .int .i64 s, .slice qt lr.length capt, .int .i64 u, .int .i64 st] 24 :: .raw rb #[.int .i64 0, .int .i64 0, .int .i64 0, .int .i64 0, .slice none 0 0, .int .i64 0, .int .i64 0] 24 :: L) from (h.p1.rawSet 6 (.int .i64 st)).p1); have c0 := h.p1.rawCell 0; have c1 := h.p1.rawCell 1; have c2 := h.p1.rawCell 2; have c3 := h.p1.rawCell 3; have c4 := h.p1.rawCell 4; have c5 := h.p1.rawCell 5; have c6 := h.p1.rawCell 6; have d0 := h.p2.rawCell 0; have r0 := h.p2.rawFree 0; have d1 := h.p2.rawCell 1; have r1 := h.p2.rawFree 1; have d2 := h.p2.rawCell 2; have r2 := h.p2.rawFree 2; have d3 := h.p2.rawCell 3; have r3 := h.p2.rawFree 3; have d4 := h.p2.rawCell 4; have r4 := h.p2.rawFree 4; have d5 := h.p2.rawCell 5; have r5 := h.p2.rawFree 5; have d6 := h.p2.rawCell 6; have r6 := h.p2.rawFree 6; simp at c0 c1 c2 c3 c4 c5 c6 d0 d1 d2 d3 d4 d5 d6; replace H := Lib.hid h; clear h))
  have hz : St W0 _ _ (.raw rb #[.int .i64 p, .int .i64 e, .int .i64 t, .int .i64 s, .slice qt lr.length capt, .int .i64 u, .int .i64 st] 24 :: .inp b i7 :: .raw vb #[.int .i64 p, .int .i64 e, .int .i64 t, .int .i64 s, .slice qt lr.length capt, .int .i64 u, .int .i64 st] 24 :: L) := (((((((H.out.p2).rawSet 0 _).rawSet 1 _).rawSet 2 _).rawSet 3 _).rawSet 4 _).rawSet 5 _).rawSet 6 _
  refine bodyPost_ret (rc_cell_only rfl _ _ rb [.int .i64 p, .int .i64 e, .int .i64 t, .int .i64 s, .slice qt lr.length capt, .int .i64 u, .int .i64 st] _ rfl (rc_range hz) Try.underlying24 rfl (by kernel_rfl)) rfl ?_
  exact ⟨qt, capt, lr, rfl, HLR.out, hz.drop.p1.drop⟩

end Go.Proofs.Ytombolmicfjjpaa

/- Values, decoded. -/
namespace Go.Proofs.Ytombolmicfjjpaa
open Go.RowKit

theorem St.sets7 {W0 w : World} {K : Know} {L : List Res} {b : Nat} {T : TypeId} {a0 a1 a2 a3 a4 a5 a6 : Value} (v0 v1 v2 v3 v4 v5 v6 : Value) (h : St W0 w K (.raw b #[a0, a1, a2, a3, a4, a5, a6] T :: L)) : St W0 (((((((w.setCell ⟨b, 0, none⟩ v0).setCell ⟨b, 1, none⟩ v1).setCell ⟨b, 2, none⟩ v2).setCell ⟨b, 3, none⟩ v3).setCell ⟨b, 4, none⟩ v4).setCell ⟨b, 5, none⟩ v5).setCell ⟨b, 6, none⟩ v6) K (.raw b #[v0, v1, v2, v3, v4, v5, v6] T :: L) := by
  have h : St W0 _ K (.raw b #[v0, a1, a2, a3, a4, a5, a6] T :: L) := h.rawSet 0 v0
  have h : St W0 _ K (.raw b #[v0, v1, a2, a3, a4, a5, a6] T :: L) := h.rawSet 1 v1
  have h : St W0 _ K (.raw b #[v0, v1, v2, a3, a4, a5, a6] T :: L) := h.rawSet 2 v2
  have h : St W0 _ K (.raw b #[v0, v1, v2, v3, a4, a5, a6] T :: L) := h.rawSet 3 v3
  have h : St W0 _ K (.raw b #[v0, v1, v2, v3, v4, a5, a6] T :: L) := h.rawSet 4 v4
  have h : St W0 _ K (.raw b #[v0, v1, v2, v3, v4, v5, a6] T :: L) := h.rawSet 5 v5
  have h : St W0 _ K (.raw b #[v0, v1, v2, v3, v4, v5, v6] T :: L) := h.rawSet 6 v6
  exact h
theorem s_failV (p : Nat) (i j : InS) (e : Int) (hx : i.fail e = j) {W0 w : World} {K : Know} {L : List Res} (h : St W0 w K (.inp p i :: L)) :
    Calls Try.prog 73 #[inPtr p, .int .i64 e] w fun en w' => en = .returned (.tuple #[]) ∧ St W0 w' K (.inp p j :: L) := by
  subst hx; exact s_fail p i e h
theorem s_closeV (p : Nat) (i : InS) (e : Int) (hx : i.close.err = e) {W0 w : World} {K : Know} {L : List Res} (h : St W0 w K (.inp p i :: L)) :
    Calls Try.prog 34 #[inPtr p] w fun en w' => en = .returned (.int .i64 e) ∧ St W0 w' K (.inp p i.close :: L) := by
  subst hx; exact s_close p i h
set_option maxHeartbeats 12000000 in
set_option maxRecDepth 100000 in
theorem val_decode_bad (S : Bs) (hsl : S.length ≤ 1000000) (v : ValS) (E : Int) (hv : valDec S = (v, E)) (h0 : E ≠ 0) {W0 w : World} {K : Know} {L : List Res} (h : St W0 w K L) :
    Calls Try.prog 18 #[.string (bb S)] w fun en w' => en = .returned (.tuple #[.agg #[.int .i64 0, .int .i64 0, .int .i64 0, .int .i64 0, .slice none 0 0, .int .i64 0, .int .i64 0], .int .i64 E]) ∧ St W0 w' K L := by
  obtain ⟨rb, hrb⟩ : ∃ b, w.heap.size = b := ⟨_, rfl⟩
  have g1 := h.allocRaw #[.int .i64 0, .int .i64 0, .int .i64 0, .int .i64 0, .slice none 0 0, .int .i64 0, .int .i64 0] 24
  rw [hrb] at g1
  have H := Lib.hid g1
  have HSL := Lib.hid (show S.length ≤ 140737488355328 by omega)
  obtain ⟨⟨a, j0⟩, ha⟩ : ∃ r, (⟨S, 0, 0⟩ : InS).int 2 = r := ⟨_, rfl⟩
  have HA := Lib.hid ha
  have hat := decI_at S
  obtain ⟨j, hj⟩ : ∃ j, decI S = j := ⟨_, rfl⟩
  have hjj : j = if a = 0 then j0 else j0.fail 7 := by rw [← hj]; unfold decI; rw [ha]
  obtain ⟨⟨p, i1⟩, h1⟩ : ∃ r, j.int 8 = r := ⟨_, rfl⟩
  obtain ⟨⟨e, i2⟩, h2⟩ : ∃ r, i1.int 2 = r := ⟨_, rfl⟩
  obtain ⟨⟨t, i3⟩, h3⟩ : ∃ r, i2.int 4 = r := ⟨_, rfl⟩
  obtain ⟨⟨s, i4⟩, h4⟩ : ∃ r, i3.int 1 = r := ⟨_, rfl⟩
  obtain ⟨⟨l, i5⟩, h5⟩ : ∃ r, i4.tops = r := ⟨_, rfl⟩
  obtain ⟨⟨u, i6⟩, h6⟩ : ∃ r, i5.int 8 = r := ⟨_, rfl⟩
  obtain ⟨⟨st, i7⟩, h7⟩ : ∃ r, i6.int 8 = r := ⟨_, rfl⟩
  have hF := valF_eq h1 h2 h3 h4 h5 h6 h7
  rw [hj] at hat
  have hfl := valF_few hat hsl
  rw [hF] at hfl
  have H1 := Lib.hid h1
  have H2 := Lib.hid h2
  have H3 := Lib.hid h3
  have H4 := Lib.hid h4
  have H5 := Lib.hid h5
  have H6 := Lib.hid h6
  have H7 := Lib.hid h7
  have HFL := Lib.hid (show FewL l from hfl)
  obtain ⟨ec, hec⟩ : ∃ ec, i7.close.err = ec := ⟨_, rfl⟩
  have HEC := Lib.hid hec
  have hde : decE S = ec := by unfold decE; rw [hj, hF]; exact hec
  have hb := valDec_bad hv h0
  rw [hde, hj, hF] at hb
  have gE : (E == 0) = false := by rw [beq_eq_false_iff_ne]; exact h0
  have gE2 : (E != 0) = true := by simp [bne, gE]
  have hdz := fun (hz : ec = 0) => decE_zero (s := S) (by rw [hde]; exact hz)
  rw [ha] at hdz
  rcases hb with hb | ⟨hb1, hb2⟩
  · subst hb
    by_cases ha0 : a = 0
    · as_aux_lemma =>
      rw [if_pos ha0] at hjj
      subst hjj
      subst ha0
      clear h g1 ha hat hj h1 h2 h3 h4 h5 h6 h7 hF hfl hec hde hdz hv hsl h0
      go_enter Try.func18, Try.ntmps18
      go_wp2_with (first
    | (go_at_call 24; (with_reducible refine (s_new S HSL.out H.out).mono ?_); rintro e_ wn ⟨bi, rfl, h⟩; replace H := Lib.hid h; clear h)
    | (go_at_call 72; (with_reducible refine (s_intV bi _ _ _ 2 HA.out H.out).mono ?_); rintro e_ wn ⟨rfl, h⟩; replace H := Lib.hid h; clear h)
    | (go_at_call 74; (with_reducible refine (val_fields bi _ _ _ _ _ _ _ _ p e t s u st l H1.out H2.out H3.out H4.out H5.out H6.out H7.out H.out).mono ?_); rintro e_ wn ⟨qt, capt, lr, rfl, hlr, h⟩; obtain ⟨vb, hvb⟩ : ∃ b, wn.heap.size = b := ⟨_, rfl⟩; have h := h.allocRaw #[.int .i64 p, .int .i64 e, .int .i64 t, .int .i64 s, .slice qt lr.length capt, .int .i64 u, .int .i64 st] 24; rw [hvb] at h; have HLR := Lib.hid hlr; clear hlr; replace H := Lib.hid h; clear h)
    | (go_at_call 34; (with_reducible refine (s_closeV bi _ _ HEC.out H.out.p1).mono ?_); rintro e_ wn ⟨rfl, h⟩; have c0 := h.p1.rawCell 0; have c1 := h.p1.rawCell 1; have c2 := h.p1.rawCell 2; have c3 := h.p1.rawCell 3; have c4 := h.p1.rawCell 4; have c5 := h.p1.rawCell 5; have c6 := h.p1.rawCell 6; simp at c0 c1 c2 c3 c4 c5 c6; have d0 := h.p2.rawCell 0; have r0 := h.p2.rawFree 0; have d1 := h.p2.rawCell 1; have r1 := h.p2.rawFree 1; have d2 := h.p2.rawCell 2; have r2 := h.p2.rawFree 2; have d3 := h.p2.rawCell 3; have r3 := h.p2.rawFree 3; have d4 := h.p2.rawCell 4; have r4 := h.p2.rawFree 4; have d5 := h.p2.rawCell 5; have r5 := h.p2.rawFree 5; have d6 := h.p2.rawCell 6; have r6 := h.p2.rawFree 6; simp at d0 d1 d2 d3 d4 d5 d6; replace H := Lib.hid h; clear h))
      have hz : St W0 _ _ (.raw rb #[.int .i64 0, .int .i64 0, .int .i64 0, .int .i64 0, .slice none 0 0, .int .i64 0, .int .i64 0] 24 :: _) := St.sets7 _ _ _ _ _ _ _ (H.out.p2)
      refine bodyPost_ret (rc_cell_tmp rfl _ _ rb [.int .i64 0, .int .i64 0, .int .i64 0, .int .i64 0, .slice none 0 0, .int .i64 0, .int .i64 0] _ rfl (rc_range hz) Try.underlying24 rfl (by kernel_rfl)) rfl ?_
      exact ⟨rfl, (hz.drop.drop.drop).know (Know.has_left (Know.has_refl _))⟩
    · as_aux_lemma =>
      rw [if_neg ha0] at hjj
      have HJ := Lib.hid hjj.symm
      have ga : (a == 0) = false := by rw [beq_eq_false_iff_ne]; exact ha0
      have ga2 : (a != 0) = true := by simp [bne, ga]
      clear h g1 ha hat hj h1 h2 h3 h4 h5 h6 h7 hF hfl hec hde hdz hv hsl h0 hjj ha0
      go_enter Try.func18, Try.ntmps18
      go_wp2_with (first
    | (go_at_call 24; (with_reducible refine (s_new S HSL.out H.out).mono ?_); rintro e_ wn ⟨bi, rfl, h⟩; replace H := Lib.hid h; clear h)
    | (go_at_call 72; (with_reducible refine (s_intV bi _ _ _ 2 HA.out H.out).mono ?_); rintro e_ wn ⟨rfl, h⟩; replace H := Lib.hid h; clear h)
    | (go_at_call 73; (with_reducible refine (s_failV bi _ _ 7 HJ.out H.out).mono ?_); rintro e_ wn ⟨rfl, h⟩; replace H := Lib.hid h; clear h)
    | (go_at_call 74; (with_reducible refine (val_fields bi _ _ _ _ _ _ _ _ p e t s u st l H1.out H2.out H3.out H4.out H5.out H6.out H7.out H.out).mono ?_); rintro e_ wn ⟨qt, capt, lr, rfl, hlr, h⟩; obtain ⟨vb, hvb⟩ : ∃ b, wn.heap.size = b := ⟨_, rfl⟩; have h := h.allocRaw #[.int .i64 p, .int .i64 e, .int .i64 t, .int .i64 s, .slice qt lr.length capt, .int .i64 u, .int .i64 st] 24; rw [hvb] at h; have HLR := Lib.hid hlr; clear hlr; replace H := Lib.hid h; clear h)
    | (go_at_call 34; (with_reducible refine (s_closeV bi _ _ HEC.out H.out.p1).mono ?_); rintro e_ wn ⟨rfl, h⟩; have c0 := h.p1.rawCell 0; have c1 := h.p1.rawCell 1; have c2 := h.p1.rawCell 2; have c3 := h.p1.rawCell 3; have c4 := h.p1.rawCell 4; have c5 := h.p1.rawCell 5; have c6 := h.p1.rawCell 6; simp at c0 c1 c2 c3 c4 c5 c6; have d0 := h.p2.rawCell 0; have r0 := h.p2.rawFree 0; have d1 := h.p2.rawCell 1; have r1 := h.p2.rawFree 1; have d2 := h.p2.rawCell 2; have r2 := h.p2.rawFree 2; have d3 := h.p2.rawCell 3; have r3 := h.p2.rawFree 3; have d4 := h.p2.rawCell 4; have r4 := h.p2.rawFree 4; have d5 := h.p2.rawCell 5; have r5 := h.p2.rawFree 5; have d6 := h.p2.rawCell 6; have r6 := h.p2.rawFree 6; simp at d0 d1 d2 d3 d4 d5 d6; replace H := Lib.hid h; clear h))
      have hz : St W0 _ _ (.raw rb #[.int .i64 0, .int .i64 0, .int .i64 0, .int .i64 0, .slice none 0 0, .int .i64 0, .int .i64 0] 24 :: _) := St.sets7 _ _ _ _ _ _ _ (H.out.p2)
      refine bodyPost_ret (rc_cell_tmp rfl _ _ rb [.int .i64 0, .int .i64 0, .int .i64 0, .int .i64 0, .slice none 0 0, .int .i64 0, .int .i64 0] _ rfl (rc_range hz) Try.underlying24 rfl (by kernel_rfl)) rfl ?_
      exact ⟨rfl, (hz.drop.drop.drop).know (Know.has_left (Know.has_refl _))⟩
  · as_aux_lemma =>
    have ha0 : a = 0 := hdz hb1
    rw [if_pos ha0] at hjj
    subst hjj
    subst ha0
    subst hb1
    have HE := Lib.hid (show ValS.err ⟨p, e, t, s, l, u, st⟩ = E from hb2)
    clear h g1 ha hat hj h1 h2 h3 h4 h5 h6 h7 hF hfl hec hde hdz hv hsl h0 hb2
    go_enter Try.func18, Try.ntmps18
    go_wp2_with (first
    | (go_at_call 24; (with_reducible refine (s_new S HSL.out H.out).mono ?_); rintro e_ wn ⟨bi, rfl, h⟩; replace H := Lib.hid h; clear h)
    | (go_at_call 72; (with_reducible refine (s_intV bi _ _ _ 2 HA.out H.out).mono ?_); rintro e_ wn ⟨rfl, h⟩; replace H := Lib.hid h; clear h)
    | (go_at_call 74; (with_reducible refine (val_fields bi _ _ _ _ _ _ _ _ p e t s u st l H1.out H2.out H3.out H4.out H5.out H6.out H7.out H.out).mono ?_); rintro e_ wn ⟨qt, capt, lr, rfl, hlr, h⟩; obtain ⟨vb, hvb⟩ : ∃ b, wn.heap.size = b := ⟨_, rfl⟩; have h := h.allocRaw #[.int .i64 p, .int .i64 e, .int .i64 t, .int .i64 s, .slice qt lr.length capt, .int .i64 u, .int .i64 st] 24; rw [hvb] at h; have HLR := Lib.hid hlr; clear hlr; replace H := Lib.hid h; clear h)
    | (go_at_call 34; (with_reducible refine (s_closeV bi _ _ HEC.out H.out.p1).mono ?_); rintro e_ wn ⟨rfl, h⟩; have c0 := h.p1.rawCell 0; have c1 := h.p1.rawCell 1; have c2 := h.p1.rawCell 2; have c3 := h.p1.rawCell 3; have c4 := h.p1.rawCell 4; have c5 := h.p1.rawCell 5; have c6 := h.p1.rawCell 6; simp at c0 c1 c2 c3 c4 c5 c6; have d0 := h.p2.rawCell 0; have r0 := h.p2.rawFree 0; have d1 := h.p2.rawCell 1; have r1 := h.p2.rawFree 1; have d2 := h.p2.rawCell 2; have r2 := h.p2.rawFree 2; have d3 := h.p2.rawCell 3; have r3 := h.p2.rawFree 3; have d4 := h.p2.rawCell 4; have r4 := h.p2.rawFree 4; have d5 := h.p2.rawCell 5; have r5 := h.p2.rawFree 5; have d6 := h.p2.rawCell 6; have r6 := h.p2.rawFree 6; simp at d0 d1 d2 d3 d4 d5 d6; replace H := Lib.hid h; clear h)
    | (go_at_call 17; (with_reducible refine (val_checkV p e t s u st lr _ _ E (by rw [HLR.out]; exact HE.out) (fewT_of (by rw [HLR.out]; exact HFL.out)) (Know.has_right (Know.has_refl _)) H.out).mono ?_); rintro e_ wn ⟨rfl, h⟩; have c0 := h.p1.rawCell 0; have c1 := h.p1.rawCell 1; have c2 := h.p1.rawCell 2; have c3 := h.p1.rawCell 3; have c4 := h.p1.rawCell 4; have c5 := h.p1.rawCell 5; have c6 := h.p1.rawCell 6; simp at c0 c1 c2 c3 c4 c5 c6; have d0 := h.p2.rawCell 0; have r0 := h.p2.rawFree 0; have d1 := h.p2.rawCell 1; have r1 := h.p2.rawFree 1; have d2 := h.p2.rawCell 2; have r2 := h.p2.rawFree 2; have d3 := h.p2.rawCell 3; have r3 := h.p2.rawFree 3; have d4 := h.p2.rawCell 4; have r4 := h.p2.rawFree 4; have d5 := h.p2.rawCell 5; have r5 := h.p2.rawFree 5; have d6 := h.p2.rawCell 6; have r6 := h.p2.rawFree 6; simp at d0 d1 d2 d3 d4 d5 d6; replace H := Lib.hid h; clear h))
    have hz : St W0 _ _ (.raw rb #[.int .i64 0, .int .i64 0, .int .i64 0, .int .i64 0, .slice none 0 0, .int .i64 0, .int .i64 0] 24 :: _) := St.sets7 _ _ _ _ _ _ _ (H.out.p2)
    refine bodyPost_ret (rc_cell_tmp rfl _ _ rb [.int .i64 0, .int .i64 0, .int .i64 0, .int .i64 0, .slice none 0 0, .int .i64 0, .int .i64 0] _ rfl (rc_range hz) Try.underlying24 rfl (by kernel_rfl)) rfl ?_
    exact ⟨rfl, (hz.drop.drop.drop).know (Know.has_left (Know.has_refl _))⟩
set_option maxHeartbeats 12000000 in
set_option maxRecDepth 100000 in
theorem val_decode_ok (S : Bs) (hsl : S.length ≤ 1000000) (v : ValS) (hv : valDec S = (v, 0)) {W0 w : World} {K : Know} {L : List Res} (h : St W0 w K L) :
    Calls Try.prog 18 #[.string (bb S)] w fun en w' => ∃ (qt : Option Addr) (capt : Nat) (lr : List (TopS × Value)), en = .returned (.tuple #[.agg #[.int .i64 v.prod, .int .i64 v.epoch, .int .i64 v.timeout, .int .i64 v.state, .slice qt lr.length capt, .int .i64 v.upd, .int .i64 v.started], .int .i64 0]) ∧ lr.map (·.1) = v.tops ∧ St W0 w' (K.and (Know.tops (.slice qt lr.length capt) lr)) L := by
  obtain ⟨rb, hrb⟩ : ∃ b, w.heap.size = b := ⟨_, rfl⟩
  have g1 := h.allocRaw #[.int .i64 0, .int .i64 0, .int .i64 0, .int .i64 0, .slice none 0 0, .int .i64 0, .int .i64 0] 24
  rw [hrb] at g1
  have H := Lib.hid g1
  have HSL := Lib.hid (show S.length ≤ 140737488355328 by omega)
  obtain ⟨⟨a, j0⟩, ha⟩ : ∃ r, (⟨S, 0, 0⟩ : InS).int 2 = r := ⟨_, rfl⟩
  have HA := Lib.hid ha
  have hat := decI_at S
  obtain ⟨j, hj⟩ : ∃ j, decI S = j := ⟨_, rfl⟩
  have hjj : j = if a = 0 then j0 else j0.fail 7 := by rw [← hj]; unfold decI; rw [ha]
  obtain ⟨⟨p, i1⟩, h1⟩ : ∃ r, j.int 8 = r := ⟨_, rfl⟩
  obtain ⟨⟨e, i2⟩, h2⟩ : ∃ r, i1.int 2 = r := ⟨_, rfl⟩
  obtain ⟨⟨t, i3⟩, h3⟩ : ∃ r, i2.int 4 = r := ⟨_, rfl⟩
  obtain ⟨⟨s, i4⟩, h4⟩ : ∃ r, i3.int 1 = r := ⟨_, rfl⟩
  obtain ⟨⟨l, i5⟩, h5⟩ : ∃ r, i4.tops = r := ⟨_, rfl⟩
  obtain ⟨⟨u, i6⟩, h6⟩ : ∃ r, i5.int 8 = r := ⟨_, rfl⟩
  obtain ⟨⟨st, i7⟩, h7⟩ : ∃ r, i6.int 8 = r := ⟨_, rfl⟩
  have hF := valF_eq h1 h2 h3 h4 h5 h6 h7
  rw [hj] at hat
  have hfl := valF_few hat hsl
  rw [hF] at hfl
  have H1 := Lib.hid h1
  have H2 := Lib.hid h2
  have H3 := Lib.hid h3
  have H4 := Lib.hid h4
  have H5 := Lib.hid h5
  have H6 := Lib.hid h6
  have H7 := Lib.hid h7
  have HFL := Lib.hid (show FewL l from hfl)
  obtain ⟨ec, hec⟩ : ∃ ec, i7.close.err = ec := ⟨_, rfl⟩
  have HEC := Lib.hid hec
  have hde : decE S = ec := by unfold decE; rw [hj, hF]; exact hec
  obtain ⟨hb1, hb2, hb3⟩ := valDec_ok hv (.inr trivial)
  rw [hde] at hb1
  rw [hj, hF] at hb2
  have hdz := decE_zero (s := S) (by rw [hde]; exact hb1)
  rw [ha] at hdz
  have ha0 : a = 0 := hdz
  rw [if_pos ha0] at hjj
  have hb2 : (⟨p, e, t, s, l, u, st⟩ : ValS) = v := hb2
  subst hb2
  subst hjj
  subst ha0
  subst hb1
  have HE := Lib.hid hb3
  clear h g1 ha hat hj h1 h2 h3 h4 h5 h6 h7 hF hfl hec hde hdz hv hsl hb3
  go_enter Try.func18, Try.ntmps18
  go_wp2_with (first
    | (go_at_call 24; (with_reducible refine (s_new S HSL.out H.out).mono ?_); rintro e_ wn ⟨bi, rfl, h⟩; replace H := Lib.hid h; clear h)
    | (go_at_call 72; (with_reducible refine (s_intV bi _ _ _ 2 HA.out H.out).mono ?_); rintro e_ wn ⟨rfl, h⟩; replace H := Lib.hid h; clear h)
    | (go_at_call 74; (with_reducible refine (val_fields bi _ _ _ _ _ _ _ _ p e t s u st l H1.out H2.out H3.out H4.out H5.out H6.out H7.out H.out).mono ?_); rintro e_ wn ⟨qt, capt, lr, rfl, hlr, h⟩; obtain ⟨vb, hvb⟩ : ∃ b, wn.heap.size = b := ⟨_, rfl⟩; have h := h.allocRaw #[.int .i64 p, .int .i64 e, .int .i64 t, .int .i64 s, .slice qt lr.length capt, .int .i64 u, .int .i64 st] 24; rw [hvb] at h; have HLR := Lib.hid hlr; clear hlr; replace H := Lib.hid h; clear h)
    | (go_at_call 34; (with_reducible refine (s_closeV bi _ _ HEC.out H.out.p1).mono ?_); rintro e_ wn ⟨rfl, h⟩; have c0 := h.p1.rawCell 0; have c1 := h.p1.rawCell 1; have c2 := h.p1.rawCell 2; have c3 := h.p1.rawCell 3; have c4 := h.p1.rawCell 4; have c5 := h.p1.rawCell 5; have c6 := h.p1.rawCell 6; simp at c0 c1 c2 c3 c4 c5 c6; have d0 := h.p2.rawCell 0; have r0 := h.p2.rawFree 0; have d1 := h.p2.rawCell 1; have r1 := h.p2.rawFree 1; have d2 := h.p2.rawCell 2; have r2 := h.p2.rawFree 2; have d3 := h.p2.rawCell 3; have r3 := h.p2.rawFree 3; have d4 := h.p2.rawCell 4; have r4 := h.p2.rawFree 4; have d5 := h.p2.rawCell 5; have r5 := h.p2.rawFree 5; have d6 := h.p2.rawCell 6; have r6 := h.p2.rawFree 6; simp at d0 d1 d2 d3 d4 d5 d6; replace H := Lib.hid h; clear h)
    | (go_at_call 17; (with_reducible refine (val_checkV p e t s u st lr _ _ 0 (by rw [HLR.out]; exact HE.out) (fewT_of (by rw [HLR.out]; exact HFL.out)) (Know.has_right (Know.has_refl _)) H.out).mono ?_); rintro e_ wn ⟨rfl, h⟩; have c0 := h.p1.rawCell 0; have c1 := h.p1.rawCell 1; have c2 := h.p1.rawCell 2; have c3 := h.p1.rawCell 3; have c4 := h.p1.rawCell 4; have c5 := h.p1.rawCell 5; have c6 := h.p1.rawCell 6; simp at c0 c1 c2 c3 c4 c5 c6; have d0 := h.p2.rawCell 0; have r0 := h.p2.rawFree 0; have d1 := h.p2.rawCell 1; have r1 := h.p2.rawFree 1; have d2 := h.p2.rawCell 2; have r2 := h.p2.rawFree 2; have d3 := h.p2.rawCell 3; have r3 := h.p2.rawFree 3; have d4 := h.p2.rawCell 4; have r4 := h.p2.rawFree 4; have d5 := h.p2.rawCell 5; have r5 := h.p2.rawFree 5; have d6 := h.p2.rawCell 6; have r6 := h.p2.rawFree 6; simp at d0 d1 d2 d3 d4 d5 d6; replace H := Lib.hid h; clear h))
  have hz : St W0 _ _ (.raw rb #[.int .i64 p, .int .i64 e, .int .i64 t, .int .i64 s, .slice qt lr.length capt, .int .i64 u, .int .i64 st] 24 :: _) := St.sets7 _ _ _ _ _ _ _ (H.out.p2)
  refine bodyPost_ret (rc_cell_tmp rfl _ _ rb [.int .i64 p, .int .i64 e, .int .i64 t, .int .i64 s, .slice qt lr.length capt, .int .i64 u, .int .i64 st] _ rfl (rc_range hz) Try.underlying24 rfl (by kernel_rfl)) rfl ?_
  exact ⟨qt, capt, lr, rfl, HLR.out, hz.drop.drop.drop⟩

end Go.Proofs.Ytombolmicfjjpaa

/- How many topics are looked at. -/
namespace Go.Proofs.Ytombolmicfjjpaa
open Go.RowKit

set_option maxHeartbeats 2000000 in
set_option maxRecDepth 100000 in
theorem law14_few (l : List (TopS × Value)) (q : Option Addr) (cap : Nat) (hnl : l.length ≤ 140737488351232) (hb : ∀ x ∈ l, x.1.name.length ≤ 140737488351232 ∧ x.1.parts.length ≤ 17592186043904) (r : Int) (hr : few (l.map (·.1)) = r) {W0 w : World} {K : Know} {L : List Res} (hk : K.has (Know.tops (.slice q l.length cap) l)) (h : St W0 w K L) :
    Calls Try.prog 14 #[.slice q l.length cap] w fun en w' => en = .returned (.int .i64 r) ∧ St W0 w' K L := by
  have H := Lib.hid h
  have HK := Lib.hid hk
  have HR := Lib.hid hr
  have HB := Lib.hid hb
  clear h hk hr hb
  go_enter Try.func14, Try.ntmps14
  go_wp2
  go_loopw [3, 8] (fun sv iv wr => ∃ (k m : Nat), k ≤ l.length ∧ iv = .int .i64 k ∧ sv = .int .i64 m ∧ topWs ((l.map (·.1)).take k) = m ∧ m ≤ 1000 ∧ St W0 wr K L) (fun _ iv _ => l.length - (intOf iv).toNat)
  case atStart => exact ⟨0, 0, Nat.zero_le _, rfl, rfl, by simp [topWs], by omega, H.out⟩
  case round =>
    obtain ⟨k, m, hkl, rfl, rfl, hm, hm0, hst⟩ := hrel
    clear H
    have H := Lib.hid hst
    clear hst
    by_cases hlt : k < l.length
    · as_aux_lemma =>
      obtain ⟨b, off, hqq⟩ := tops_at HK.out H.out (by omega)
      subst hqq
      obtain ⟨⟨⟨nm, ps⟩, vx⟩, hx⟩ : ∃ x, l[k] = x := ⟨_, rfl⟩
      obtain ⟨c0, c1⟩ : wr.cell? ⟨b, off + k * 2, none⟩ = some (.string (bb nm)) ∧ wr.cell? ⟨b, off + k * 2 + 1, none⟩ = some vx := tops_cell HK.out H.out k hlt _ hx
      have hmem : ((⟨nm, ps⟩ : TopS), vx) ∈ l := hx ▸ List.getElem_mem hlt
      have hxk : K.has (Know.flat RI vx 1 ps) := tops_parts HK.out hmem
      obtain ⟨qx, capx, hvx⟩ := flat_form hxk H.out
      subst hvx
      have HXK := Lib.hid hxk
      have hmk : k < (l.map (·.1)).length := by rw [List.length_map]; exact hlt
      have hmg : (l.map (·.1))[k] = ⟨nm, ps⟩ := by rw [List.getElem_map, hx]
      have hkn : (k : Int) < (l.length : Int) := by omega
      obtain ⟨hn1, hn2⟩ := HB.out _ hmem
      replace hn1 : nm.length ≤ 140737488351232 := hn1
      replace hn2 : ps.length ≤ 17592186043904 := hn2
      have hst1 := topWs_take (l.map (·.1)) k hmk _ hmg
      rw [hm] at hst1
      replace hst1 : topWs ((l.map (·.1)).take (k + 1)) = m + (nm.length + 4 * ps.length + 6) := hst1
      have hlk := topWs_le (l.map (·.1)) (k + 1)
      obtain ⟨M, hM⟩ : ∃ M : Nat, m + (nm.length + 4 * ps.length + 6) = M := ⟨_, rfl⟩
      have hMi : (m : Int) + ((nm.length : Int) + 4 * (ps.length : Int) + 6) = (M : Int) := by omega
      have hm1 : (m : Int) ≤ 1000 := by omega
      have hMb : M ≤ 1000000000000000 := by omega
      rw [hM] at hst1
      by_cases hMl : M ≤ 1000
      · have g1 : ¬ (1000 < (m : Int) + ((nm.length : Int) + 4 * (ps.length : Int) + 6)) := by omega
        have HST := Lib.hid hst1
        have HMI := Lib.hid hMi
        have HML := Lib.hid hMl
        clear hst1 hx hmem hxk hmk hmg hm hM hMl hlk hm0 hMi hMb
        go_wp2
        go_roundw
        case rel => exact ⟨k + 1, M, hlt, by go_num, by rw [HMI.out], HST.out, HML.out, H.out.alloc _⟩
        case measure => first | (simp [intOf]; done) | (simp [intOf]; omega)
      · have g1 : 1000 < (m : Int) + ((nm.length : Int) + 4 * (ps.length : Int) + 6) := by omega
        have hz : r = 0 := by
          rw [← HR.out]; unfold few
          rw [if_neg (by omega)]
        subst hz
        have HMI := Lib.hid hMi
        clear hst1 hx hmem hxk hmk hmg hm hM hMl hlk hm0 hMi hMb
        go_wp2
        go_ret
        exact ⟨rfl, H.out.alloc _⟩
    · obtain rfl : k = l.length := by omega
      have hz : r = 1 := by
        rw [← HR.out]; unfold few
        rw [List.take_of_length_le (by rw [List.length_map]; exact Nat.le_refl _)] at hm
        rw [if_pos (by omega)]
      subst hz
      go_wp2
      go_ret
      exact ⟨rfl, H.out⟩

end Go.Proofs.Ytombolmicfjjpaa

/- The values of a transaction that did not begin. -/
namespace Go.Proofs.Ytombolmicfjjpaa
open Go.RowKit

theorem val_decode_okV (S : Bs) (hsl : S.length ≤ 1000000) (p e t s u st : Int) (tops : List TopS) (hv : valDec S = (⟨p, e, t, s, tops, u, st⟩, 0)) {W0 w : World} {K : Know} {L : List Res} (h : St W0 w K L) :
    Calls Try.prog 18 #[.string (bb S)] w fun en w' => ∃ (qt : Option Addr) (capt : Nat) (lr : List (TopS × Value)), en = .returned (.tuple #[.agg #[.int .i64 p, .int .i64 e, .int .i64 t, .int .i64 s, .slice qt lr.length capt, .int .i64 u, .int .i64 st], .int .i64 0]) ∧ lr.map (·.1) = tops ∧ St W0 w' (K.and (Know.tops (.slice qt lr.length capt) lr)) L := val_decode_ok S hsl ⟨p, e, t, s, tops, u, st⟩ hv h
def vz37 : Bs := ValS.enc ⟨0, 0, 0, 0, [], 0, -1⟩
theorem vz37_len : vz37.length = 37 := by kernel_rfl
theorem vz37_len2 : vz37.length ≤ 1000000 := by rw [vz37_len]; decide
theorem vz37_dec : valDec vz37 = (⟨0, 0, 0, 0, [], 0, -1⟩, 0) := by kernel_rfl
theorem few_nil : FewT [] := ⟨by decide, fun x hx => by cases hx⟩
theorem enc_z1 {W0 w : World} {K : Know} {L : List Res} (h : St W0 w K L) : Calls Try.prog 15 #[.agg #[.int .i64 0, .int .i64 0, .int .i64 0, .int .i64 0, .slice none 0 0, .int .i64 0, .int .i64 (-1)]] w fun en w' => en = .returned (.tuple #[.string (bb vz37), .int .i64 0]) ∧ St W0 w' K L := by
  have h2 : St W0 w (K.and (Know.tops (.slice none 0 0) [])) L := h.know (tops_nil K)
  refine (val_encode_ok 0 0 0 0 0 (-1) [] none 0 (by kernel_rfl) (by unfold ValS.R; exact ⟨by decide, by decide, by decide, by decide, by decide, by decide⟩) few_nil (Know.has_right (Know.has_refl _)) h2).mono ?_
  rintro e_ wn ⟨rfl, h3⟩
  exact ⟨rfl, h3.know (Know.has_left (Know.has_refl _))⟩
theorem enc_z2 {W0 w : World} {K : Know} {L : List Res} (h : St W0 w K L) : Calls Try.prog 15 #[.agg #[.int .i64 0, .int .i64 0, .int .i64 0, .int .i64 1, .slice none 0 0, .int .i64 0, .int .i64 0]] w fun en w' => en = .returned (.tuple #[.string ⟨#[]⟩, .int .i64 10]) ∧ St W0 w' K L := by
  have h2 : St W0 w (K.and (Know.tops (.slice none 0 0) [])) L := h.know (tops_nil K)
  refine (val_encode_bad 0 0 0 1 0 0 [] none 0 10 (by kernel_rfl) (by decide) few_nil (Know.has_right (Know.has_refl _)) h2).mono ?_
  rintro e_ wn ⟨rfl, h3⟩
  exact ⟨rfl, h3.know (Know.has_left (Know.has_refl _))⟩
set_option maxHeartbeats 1000000 in
set_option maxRecDepth 100000 in
theorem speaks14 {W0 w : World} {K : Know} {L : List Res} (h : St W0 w K L) :
    Calls Try.prog 13 #[] w fun en w' => en = .returned (.bool true) ∧ St W0 w' K L := by
  have H := Lib.hid h
  have hl := vz37_len
  clear h
  go_enter Try.func13, Try.ntmps13
  go_wp2_with (first
    | (go_at_call 15; (with_reducible refine (enc_z1 H.out).mono ?_); rintro e_ wn ⟨rfl, h⟩; replace H := Lib.hid h; clear h)
    | (go_at_call 15; (with_reducible refine (enc_z2 H.out).mono ?_); rintro e_ wn ⟨rfl, h⟩; have c6 := h.rawCell 6; simp at c6; replace H := Lib.hid h; clear h)
    | (go_at_call 18; (with_reducible refine (val_decode_okV vz37 vz37_len2 0 0 0 0 0 (-1) [] vz37_dec H.out).mono ?_); rintro e_ wn ⟨qt, capt, lr, rfl, hlr, h⟩; obtain ⟨vb, hvb⟩ : ∃ b, wn.heap.size = b := ⟨_, rfl⟩; have h := h.allocRaw #[.int .i64 0, .int .i64 0, .int .i64 0, .int .i64 0, .slice qt lr.length capt, .int .i64 0, .int .i64 (-1)] 24; rw [hvb] at h; replace H := Lib.hid h; clear h))
  go_ret
  exact ⟨rfl, H.out.drop.know (Know.has_left (Know.has_refl _))⟩

end Go.Proofs.Ytombolmicfjjpaa

/- Contracts of package key. -/
namespace Go.Proofs.Ytombolmicfjjpaa
open Go.RowKit

set_option maxHeartbeats 1000000 in
set_option maxRecDepth 100000 in
theorem key_right (s : Bs) (hs : s.length ≤ 140737488355328) {W0 w : World} {K : Know} {L : List Res} (h : St W0 w K L) :
    Calls Try.prog 89 #[.string (bb s)] w fun en w' => en = .returned (.bool (keyRight s)) ∧ St W0 w' K L := by
  have H := Lib.hid h
  clear h
  cases s with
  | nil =>
    go_enter Try.func89, Try.ntmps89
    go_wp2
    go_ret
    exact ⟨rfl, H.out⟩
  | cons c t =>
    have HS := Lib.hid hs
    clear hs
    go_enter Try.func89, Try.ntmps89
    go_wp2
    go_ret
    refine ⟨ret_bool ?_, H.out⟩
    unfold keyRight
    rw [Bool.eq_iff_iff]
    simp
    omega

set_option maxHeartbeats 1000000 in
set_option maxRecDepth 100000 in
theorem key_encode (s : Bs) (hs : s.length ≤ 40000) {W0 w : World} {K : Know} {L : List Res} (h : St W0 w K L) :
    Calls Try.prog 35 #[.string (bb s)] w fun en w' => en = .returned (.tuple #[.string (bb (keyEnc s).1), .int .i64 (keyEnc s).2]) ∧ St W0 w' K L := by
  have H := Lib.hid h
  have HS := Lib.hid (show s.length ≤ 140737488355328 by omega)
  have HS2 := Lib.hid hs
  clear h hs
  cases hr : keyRight s
  · have e : keyEnc s = ([], 4) := by unfold keyEnc; rw [hr]; rfl
    rw [e]
    have ER := Lib.hid hr
    clear e hr
    go_enter Try.func35, Try.ntmps35
    go_wp2_with (go_at_call 89; refine (key_right s HS.out (by first | (first | with_reducible exact H.out | with_reducible exact H.out.p1 | with_reducible exact H.out.p2 | with_reducible exact H.out.p3 | with_reducible exact H.out.p4 | with_reducible exact H.out.p5) | ((repeat first | with_reducible refine St.drewN ?_ _ | with_reducible refine St.drew ?_ | with_reducible refine St.alloc ?_ _); first | with_reducible exact H.out | with_reducible exact H.out.p1 | with_reducible exact H.out.p2 | with_reducible exact H.out.p3 | with_reducible exact H.out.p4 | with_reducible exact H.out.p5))).mono ?_; (repeat first | rw [ER.out]); rintro e wn ⟨rfl, h⟩; replace H := Lib.hid h; clear h)
    go_ret2
    exact ⟨rfl, H.out⟩
  · have e : keyEnc s = (keyBytes s, 0) := by unfold keyEnc; rw [hr]; rfl
    rw [e]
    have hle : s.length ≤ 32767 := by unfold keyRight at hr; simp at hr; exact hr.2
    have ER := Lib.hid hr
    have E1 := Lib.hid (show (⟨[], 0⟩ : OutS).int 0 2 = ⟨beBytes 0 2, 0⟩ from by decide +kernel)
    have E2 := Lib.hid (show (⟨beBytes 0 2, 0⟩ : OutS).putText s = ⟨keyBytes s, 0⟩ from by
      unfold OutS.putText OutS.putFixed OutS.int OutS.putData
      rw [if_pos (fits_len2 s hle)]
      show (((⟨beBytes 0 2, 0⟩ : OutS).put _).put s) = _
      rw [OutS.put_put]
      unfold keyBytes
      rw [List.append_assoc]
      rfl)
    have E3 := Lib.hid (show (⟨keyBytes s, 0⟩ : OutS).text = (keyBytes s, 0) from rfl)
    clear e hr hle
    go_enter Try.func35, Try.ntmps35
    go_wp2_with (first
      | (go_at_call 89; refine (key_right s HS.out (by first | (first | with_reducible exact H.out | with_reducible exact H.out.p1 | with_reducible exact H.out.p2 | with_reducible exact H.out.p3 | with_reducible exact H.out.p4 | with_reducible exact H.out.p5) | ((repeat first | with_reducible refine St.drewN ?_ _ | with_reducible refine St.drew ?_ | with_reducible refine St.alloc ?_ _); first | with_reducible exact H.out | with_reducible exact H.out.p1 | with_reducible exact H.out.p2 | with_reducible exact H.out.p3 | with_reducible exact H.out.p4 | with_reducible exact H.out.p5))).mono ?_; (repeat first | rw [ER.out]); rintro e wn ⟨rfl, h⟩; replace H := Lib.hid h; clear h; replace H := Lib.hid H.out.allocOut)
      | (go_at_call 69; refine (so_int _ _ 0 2 (by decide) (by first | (first | with_reducible exact H.out | with_reducible exact H.out.p1 | with_reducible exact H.out.p2 | with_reducible exact H.out.p3 | with_reducible exact H.out.p4 | with_reducible exact H.out.p5) | ((repeat first | with_reducible refine St.drewN ?_ _ | with_reducible refine St.drew ?_ | with_reducible refine St.alloc ?_ _); first | with_reducible exact H.out | with_reducible exact H.out.p1 | with_reducible exact H.out.p2 | with_reducible exact H.out.p3 | with_reducible exact H.out.p4 | with_reducible exact H.out.p5)) (by simp [OutS.ok])).mono ?_; (repeat first | rw [E1.out]); rintro e wn ⟨rfl, h⟩; replace H := Lib.hid h; clear h)
      | (go_at_call 86; refine (blob_putText _ _ s (by first | (first | with_reducible exact H.out | with_reducible exact H.out.p1 | with_reducible exact H.out.p2 | with_reducible exact H.out.p3 | with_reducible exact H.out.p4 | with_reducible exact H.out.p5) | ((repeat first | with_reducible refine St.drewN ?_ _ | with_reducible refine St.drew ?_ | with_reducible refine St.alloc ?_ _); first | with_reducible exact H.out | with_reducible exact H.out.p1 | with_reducible exact H.out.p2 | with_reducible exact H.out.p3 | with_reducible exact H.out.p4 | with_reducible exact H.out.p5)) (by have := HS2.out; simp only [OutS.ok, beBytes_length]; omega)).mono ?_; (repeat first | rw [E2.out]); rintro e wn ⟨rfl, h⟩; replace H := Lib.hid h; clear h)
      | (go_at_call 32; refine (so_text _ _ (by first | (first | with_reducible exact H.out | with_reducible exact H.out.p1 | with_reducible exact H.out.p2 | with_reducible exact H.out.p3 | with_reducible exact H.out.p4 | with_reducible exact H.out.p5) | ((repeat first | with_reducible refine St.drewN ?_ _ | with_reducible refine St.drew ?_ | with_reducible refine St.alloc ?_ _); first | with_reducible exact H.out | with_reducible exact H.out.p1 | with_reducible exact H.out.p2 | with_reducible exact H.out.p3 | with_reducible exact H.out.p4 | with_reducible exact H.out.p5))).mono ?_; (repeat first | rw [E3.out]); rintro e wn ⟨rfl, h⟩; replace H := Lib.hid h; clear h))
    go_ret2
    exact ⟨rfl, H.out.drop⟩

theorem keyDec_tuple (s : Bs) : Value.tuple #[.string (bb (keyDec s).1), .int .i64 (keyDec s).2] = if (keyJ s).close.err = 0 then .tuple #[.string (bb (keyI s).text.1), .int .i64 0] else .tuple #[.string (bb []), .int .i64 (keyJ s).close.err] := by
  unfold keyDec; split <;> rfl
set_option maxHeartbeats 1000000 in
set_option maxRecDepth 100000 in
theorem key_decode (s : Bs) (hs : s.length ≤ 40100) {W0 w : World} {K : Know} {L : List Res} (h : St W0 w K L) :
    Calls Try.prog 36 #[.string (bb s)] w fun en w' => en = .returned (.tuple #[.string (bb (keyDec s).1), .int .i64 (keyDec s).2]) ∧ St W0 w' K L := by
  have H := Lib.hid h
  have HS := Lib.hid (show s.length ≤ 140737488355328 by omega)
  clear h hs
  rw [keyDec_tuple]
  obtain ⟨a, ha⟩ : ∃ a, keyA s = a := ⟨_, rfl⟩
  have hI : keyI s = if a.1 = 0 then a.2 else a.2.fail 7 := by unfold keyI; rw [ha]
  obtain ⟨i, hi⟩ : ∃ i, keyI s = i := ⟨_, rfl⟩
  rw [hi] at hI
  obtain ⟨t, ht⟩ : ∃ t, i.text = t := ⟨_, rfl⟩
  have hJ : keyJ s = if t.1 = [] then t.2.fail 4 else t.2 := by unfold keyJ; rw [hi, ht]
  obtain ⟨j, hj⟩ : ∃ j, keyJ s = j := ⟨_, rfl⟩
  rw [hj] at hJ
  obtain ⟨c, hc⟩ : ∃ c, j.close = c := ⟨_, rfl⟩
  rw [hj, hc, hi, ht]
  have EA := Lib.hid (show (⟨s, 0, 0⟩ : InS).int 2 = a from ha)
  have ET := Lib.hid ht
  have EC := Lib.hid hc
  clear ha hi ht hj hc
  by_cases h1 : a.1 = 0 <;> by_cases h2 : t.1 = [] <;> by_cases h3 : c.err = 0
  all_goals
    first | rw [if_pos h1] at hI | rw [if_neg h1] at hI
    first | rw [if_pos h2] at hJ | rw [if_neg h2] at hJ
    first | rw [if_pos h3] | rw [if_neg h3]
    have b1 : (a.1 != 0) = decide (a.1 ≠ 0) := by by_cases h : a.1 = 0 <;> simp [h]
    have b2 : t.1.isEmpty = decide (t.1 = []) := by cases t.1 <;> simp
    have b3 : (c.err != 0) = decide (c.err ≠ 0) := by by_cases h : c.err = 0 <;> simp [h]
    first | rw [decide_eq_true h1] at b1 | rw [decide_eq_false (not_not_intro h1)] at b1
    first | rw [decide_eq_true h2] at b2 | rw [decide_eq_false h2] at b2
    first | rw [decide_eq_true h3] at b3 | rw [decide_eq_false (not_not_intro h3)] at b3
    have EI := Lib.hid hI.symm
    have EJ := Lib.hid hJ.symm
    clear h1 h2 h3 hI hJ
    go_enter Try.func36, Try.ntmps36
    go_wp2_with (first
      | (go_at_call 24; refine (s_new s HS.out (by first | (first | with_reducible exact H.out | with_reducible exact H.out.p1 | with_reducible exact H.out.p2 | with_reducible exact H.out.p3 | with_reducible exact H.out.p4 | with_reducible exact H.out.p5) | ((repeat first | with_reducible refine St.drewN ?_ _ | with_reducible refine St.drew ?_ | with_reducible refine St.alloc ?_ _); first | with_reducible exact H.out | with_reducible exact H.out.p1 | with_reducible exact H.out.p2 | with_reducible exact H.out.p3 | with_reducible exact H.out.p4 | with_reducible exact H.out.p5))).mono ?_; rintro e wn ⟨bi, rfl, h⟩; replace H := Lib.hid h; clear h)
      | (go_at_call 72; refine (s_int _ _ 2 (by first | (first | with_reducible exact H.out | with_reducible exact H.out.p1 | with_reducible exact H.out.p2 | with_reducible exact H.out.p3 | with_reducible exact H.out.p4 | with_reducible exact H.out.p5) | ((repeat first | with_reducible refine St.drewN ?_ _ | with_reducible refine St.drew ?_ | with_reducible refine St.alloc ?_ _); first | with_reducible exact H.out | with_reducible exact H.out.p1 | with_reducible exact H.out.p2 | with_reducible exact H.out.p3 | with_reducible exact H.out.p4 | with_reducible exact H.out.p5))).mono ?_; (repeat first | rw [EA.out]); rintro e wn ⟨rfl, h⟩; replace H := Lib.hid h; clear h; (try rw [EI.out] at H))
      | (go_at_call 73; refine (s_fail _ _ _ (by first | (first | with_reducible exact H.out | with_reducible exact H.out.p1 | with_reducible exact H.out.p2 | with_reducible exact H.out.p3 | with_reducible exact H.out.p4 | with_reducible exact H.out.p5) | ((repeat first | with_reducible refine St.drewN ?_ _ | with_reducible refine St.drew ?_ | with_reducible refine St.alloc ?_ _); first | with_reducible exact H.out | with_reducible exact H.out.p1 | with_reducible exact H.out.p2 | with_reducible exact H.out.p3 | with_reducible exact H.out.p4 | with_reducible exact H.out.p5))).mono ?_; (repeat first | rw [EI.out] | rw [EJ.out]); rintro e wn ⟨rfl, h⟩; replace H := Lib.hid h; clear h)
      | (go_at_call 78; refine (blob_text _ _ (by first | (first | with_reducible exact H.out | with_reducible exact H.out.p1 | with_reducible exact H.out.p2 | with_reducible exact H.out.p3 | with_reducible exact H.out.p4 | with_reducible exact H.out.p5) | ((repeat first | with_reducible refine St.drewN ?_ _ | with_reducible refine St.drew ?_ | with_reducible refine St.alloc ?_ _); first | with_reducible exact H.out | with_reducible exact H.out.p1 | with_reducible exact H.out.p2 | with_reducible exact H.out.p3 | with_reducible exact H.out.p4 | with_reducible exact H.out.p5))).mono ?_; (repeat first | rw [ET.out]); rintro e wn ⟨rfl, h⟩; replace H := Lib.hid h; clear h; (try rw [EJ.out] at H))
      | (go_at_call 34; refine (s_close _ _ (by first | (first | with_reducible exact H.out | with_reducible exact H.out.p1 | with_reducible exact H.out.p2 | with_reducible exact H.out.p3 | with_reducible exact H.out.p4 | with_reducible exact H.out.p5) | ((repeat first | with_reducible refine St.drewN ?_ _ | with_reducible refine St.drew ?_ | with_reducible refine St.alloc ?_ _); first | with_reducible exact H.out | with_reducible exact H.out.p1 | with_reducible exact H.out.p2 | with_reducible exact H.out.p3 | with_reducible exact H.out.p4 | with_reducible exact H.out.p5))).mono ?_; (repeat first | rw [EC.out]); rintro e wn ⟨rfl, h⟩; replace H := Lib.hid h; clear h))
    go_ret2
    exact ⟨rfl, H.out.drop⟩

end Go.Proofs.Ytombolmicfjjpaa

/- Layer 13, walked. -/
namespace Go.Proofs.Ytombolmicfjjpaa
open Go.RowKit

theorem kr1 {s : Bs} (h : s.length < 2) : keyRd s = ([], 1) := if_pos h
theorem kr2 {s : Bs} (h : 2 ≤ s.length) (h2 : (!List.take 2 s == [0, 0]) = true) : keyRd s = ([], 7) := by
  have h2' : s.take 2 ≠ [0, 0] := by simpa using h2
  exact (if_neg (by omega)).trans (if_pos h2')
theorem kr3 {s : Bs} (h : 2 ≤ s.length) (h2 : (!List.take 2 s == [0, 0]) = false) (h3 : s.length < 4) : keyRd s = ([], 1) := by
  have h2' : ¬ s.take 2 ≠ [0, 0] := by simpa using h2
  exact (if_neg (by omega)).trans ((if_neg h2').trans (if_pos h3))
theorem kr4 {s : Bs} (h : 4 ≤ s.length) (h2 : (!List.take 2 s == [0, 0]) = false) (h3 : sInt ((s.drop 2).take 2) ≤ 0) : keyRd s = ([], 4) := by
  have h2' : ¬ s.take 2 ≠ [0, 0] := by simpa using h2
  exact (if_neg (by omega)).trans ((if_neg h2').trans ((if_neg (by omega)).trans (if_pos h3)))
theorem kr5 {s : Bs} (h : 4 ≤ s.length) (h2 : (!List.take 2 s == [0, 0]) = false) (h3 : ¬ sInt ((s.drop 2).take 2) ≤ 0) (h4 : (s.length : Int) - 4 < sInt ((s.drop 2).take 2)) : keyRd s = ([], 1) := by
  have h2' : ¬ s.take 2 ≠ [0, 0] := by simpa using h2
  exact (if_neg (by omega)).trans ((if_neg h2').trans ((if_neg (by omega)).trans ((if_neg h3).trans (if_pos h4))))
theorem kr6 {s : Bs} (h : 4 ≤ s.length) (h2 : (!List.take 2 s == [0, 0]) = false) (h3 : ¬ sInt ((s.drop 2).take 2) ≤ 0) (h4 : sInt ((s.drop 2).take 2) < (s.length : Int) - 4) : keyRd s = ([], 2) := by
  have h2' : ¬ s.take 2 ≠ [0, 0] := by simpa using h2
  exact (if_neg (by omega)).trans ((if_neg h2').trans ((if_neg (by omega)).trans ((if_neg h3).trans ((if_neg (by omega)).trans (if_pos h4)))))
theorem kr7 {s : Bs} (h : 4 ≤ s.length) (h2 : (!List.take 2 s == [0, 0]) = false) (h3 : ¬ sInt ((s.drop 2).take 2) ≤ 0) (h4 : sInt ((s.drop 2).take 2) = (s.length : Int) - 4) : keyRd s = ((s.drop 4).take (s.length - 4), 0) := by
  rw [List.take_of_length_le (by rw [List.length_drop]; omega)]
  have h2' : ¬ s.take 2 ≠ [0, 0] := by simpa using h2
  exact (if_neg (by omega)).trans ((if_neg h2').trans ((if_neg (by omega)).trans ((if_neg h3).trans ((if_neg (by omega)).trans (if_neg (by omega))))))

theorem key_encode' (s x : Bs) (e : Int) (hs : s.length ≤ 40000) (hx : keyEnc s = (x, e)) {W0 w : World} {K : Know} {L : List Res} (h : St W0 w K L) :
    Calls Try.prog 35 #[.string (bb s)] w fun en w' => en = .returned (.tuple #[.string (bb x), .int .i64 e]) ∧ St W0 w' K L := by
  have := key_encode s hs h
  rw [hx] at this
  exact this
theorem key_decode' (s x : Bs) (e : Int) (hs : s.length ≤ 40100) (hx : keyRd s = (x, e)) {W0 w : World} {K : Know} {L : List Res} (h : St W0 w K L) :
    Calls Try.prog 36 #[.string (bb s)] w fun en w' => en = .returned (.tuple #[.string (bb x), .int .i64 e]) ∧ St W0 w' K L := by
  have := key_decode s hs h
  rw [keyDec_eq, hx] at this
  exact this
theorem keyRd_len (s : Bs) : (keyRd s).1.length ≤ s.length := by
  unfold keyRd
  repeat' split
  all_goals simp
end Go.Proofs.Ytombolmicfjjpaa

/- Lists of cells. -/
namespace Go.Proofs.Ytombolmicfjjpaa
open Go.RowKit

theorem cells_u8 : Try.prog.cellsOf 5 = 1 := by kernel_rfl
theorem cells_int : Try.prog.cellsOf 3 = 1 := by kernel_rfl
theorem cells_str : Try.prog.cellsOf 9 = 1 := by kernel_rfl
theorem len2 {α : Type} {l : List α} (h : l.length = 2) : ∃ a b, l = [a, b] := by
  match l, h with
  | [a, b], _ => exact ⟨a, b, rfl⟩
theorem len3 {α : Type} {l : List α} (h : l.length = 3) : ∃ a b c, l = [a, b, c] := by
  match l, h with
  | [a, b, c], _ => exact ⟨a, b, c, rfl⟩
theorem len4 {α : Type} {l : List α} (h : l.length = 4) : ∃ a b c d, l = [a, b, c, d] := by
  match l, h with
  | [a, b, c, d], _ => exact ⟨a, b, c, d, rfl⟩

end Go.Proofs.Ytombolmicfjjpaa

/- What arguments are made of, with the reach of each part. -/
namespace Go.Proofs.Ytombolmicfjjpaa
open Go.RowKit
open Go.ChangeShapes Go.WideShapes Go.ChangeAt Go.Deep

/-- No part is beyond all reach. -/
def Light {H : Type} (t : TypeId) (d : DataW H) : Prop := ∀ k ∈ d.weights Try.prog t, k ≤ reachBytes
theorem reach_eq : reachBytes = 140737488351232 := rfl

section
variable {H : Type} {enc : TypeId × Value → H} {w : World} {spare : Nat → Bool} {held : Bool}

theorem light_arg {ts : List TypeId} {ds : List (DataW H)} (h : (DataW.weightsEach Try.prog ts ds).all (· ≤ reachBytes) = true) {j : Nat} {t : TypeId} {d : DataW H} (ht : ts[j]? = some t) (hd : ds[j]? = some d) : Light t d := by
  intro k hk
  have := List.all_eq_true.1 h k (DataW.weights_mem_each ht hd k hk)
  simpa using this

theorem opens_field {t : TypeId} {fs : Array Field} {n N : Nat} {cs : List Value} {y : DataW H × List MemPlace} (ht : Try.prog.underlying t = some (.struct fs)) (h : DataW.trod enc Try.prog w 0 spare held n t cs = some y) (hl : Light t y.1) (hN : ∀ x ∈ y.2, x.block < N) :
    cs.length = Try.prog.cellsOf t ∧ ∃ m, ∀ (i : Nat) (f : Field), fs[i]? = some f → ∃ z, DataW.trod enc Try.prog w 0 spare held m f.type ((cs.drop f.offset).take (Try.prog.cellsOf f.type)) = some z ∧ Light f.type z.1 ∧ ∀ x ∈ z.2, x.block < N := by
  obtain ⟨xs, m, _, rfl, hc, hxl, hg⟩ := DataW.trod_struct ht h
  refine ⟨hc, m, fun i f hf => ?_⟩
  have hi : i < fs.size := (Array.getElem?_eq_some_iff.1 hf).1
  have hx : xs[i]? = some (xs[i]'(by omega)) := List.getElem?_eq_getElem (by omega)
  refine ⟨_, (hg i f hf).trans hx, ?_, fun x hxx => hN x (List.mem_flatMap.2 ⟨_, List.getElem_mem _, hxx⟩)⟩
  intro k hk
  refine hl k ?_
  simp only [DataW.weights, ht]
  exact DataW.weights_mem_each (j := i) (by rw [List.getElem?_map, Array.getElem?_toList, hf]; rfl) (by rw [List.getElem?_map, hx]; rfl) k hk

theorem opens_str {t : TypeId} {n : Nat} {cs : List Value} {y : DataW H × List MemPlace} (ht : Try.prog.underlying t = some .string) (h : DataW.trod enc Try.prog w 0 spare held n t cs = some y) (hl : Light t y.1) : ∃ s : Bs, cs = [.string (bb s)] ∧ s.length ≤ 140737488351232 := by
  obtain ⟨s, e, e2, q⟩ := DataW.trod_string ht h
  refine ⟨s.data.toList, e, ?_⟩
  subst e2
  have := hl s.data.toList.length (by simp [DataW.weights])
  rw [reach_eq] at this
  exact this
theorem opens_i64 {t : TypeId} {n : Nat} {cs : List Value} {y : DataW H × List MemPlace} (ht : Try.prog.underlying t = some (.int .i64)) (h : DataW.trod enc Try.prog w 0 spare held n t cs = some y) : ∃ x : Int, cs = [.int .i64 x] ∧ -9223372036854775808 ≤ x ∧ x < 9223372036854775808 := by
  obtain ⟨x, e, _, q⟩ := DataW.trod_int ht h
  exact ⟨x, e, wf_i64 q⟩
theorem opens_bool {t : TypeId} {n : Nat} {cs : List Value} {y : DataW H × List MemPlace} (ht : Try.prog.underlying t = some .bool) (h : DataW.trod enc Try.prog w 0 spare held n t cs = some y) : ∃ x : Bool, cs = [.bool x] := by
  obtain ⟨x, e, _⟩ := DataW.trod_bool ht h
  exact ⟨x, e⟩

theorem weightsAll_mem' {P : Program} {e : TypeId} : ∀ {l : List (DataW H)} {d : DataW H}, d ∈ l → ∀ k ∈ d.weights P e, k ∈ DataW.weightsAll P e l
  | a :: l, d, hd, k, hk => by
    simp only [DataW.weightsAll, List.mem_append]
    rcases List.mem_cons.1 hd with rfl | hd
    · exact .inl hk
    · exact .inr (weightsAll_mem' hd k hk)

theorem opens_rows {α : Type} {R : World → List Value → α → Prop} {t e : TypeId} {sz N : Nat} (ht : Try.prog.underlying t = some (.slice e)) (hC : Try.prog.cellsOf e = sz) (hsz : 0 < sz)
    (hR : ∀ n cs y, DataW.trod enc Try.prog w 0 spare held n e cs = some y → Light e y.1 → (∀ x ∈ y.2, x.block < N) → ∃ x, R w cs x)
    {fuel : Nat} {cs : List Value} {x : DataW H × List MemPlace} (h : DataW.trod enc Try.prog w 0 spare held fuel t cs = some x) (hl : Light t x.1) (hlt : ∀ y ∈ x.2, y.block < N) (hN : N ≤ w.heap.size) :
    ∃ v l, cs = [v] ∧ RowsOf R (· < N) w v sz l ∧ l.length * Try.prog.bytesOf e ≤ 140737488351232 ∧ l.length ≤ maxLen := by
  rcases open_slice ht h with ⟨rfl, rfl⟩ | ⟨a, len, cap, m, n, D, Pl, rfl, hb, hlc, hm, hmm, hx, hi⟩
  · exact ⟨_, [], rfl, ⟨none, 0, rfl, fun h => absurd h (by simp)⟩, by simp, by simp⟩
  · have hlm : len ≤ m := by rw [hmm]; split <;> omega
    have hp2 : x.2 = MemPlace.row a (m * Try.prog.cellsOf e) ++ (List.range m).flatMap Pl := by rw [hx]
    have hx1 : x.1 = .slice ((List.range len).map D) ((List.range (m - len)).map fun j => D (len + j)) := by rw [hx]
    have hsum : len * Try.prog.bytesOf e ≤ 140737488351232 := by
      have := hl (((List.range len).map D).length * Try.prog.bytesOf e + ((List.range (m - len)).map fun j => D (len + j)).length * Try.prog.bytesOf e) (by rw [hx1]; simp [DataW.weights, ht, Nat.add_mul])
      rw [reach_eq] at this
      simp only [List.length_map, List.length_range] at this
      omega
    have hle : ∀ i, i < len → Light e (D i) := by
      intro i hil k hk
      refine hl k ?_
      rw [hx1]
      simp only [DataW.weights, ht, List.mem_cons, List.mem_append]
      exact .inr (.inl (weightsAll_mem' (List.mem_map.2 ⟨i, List.mem_range.2 hil, rfl⟩) k hk))
    have key : ∀ i, i < len → ∃ y : α, ∃ cs', cs'.length = sz ∧ R w cs' y ∧ (∀ f u, cs'[f]? = some u → w.cell? ((a.add (i * sz)).add f) = some u) := by
      intro i hil
      obtain ⟨cs', hc, htr⟩ := hi i (by omega)
      obtain ⟨_, hcl, hat⟩ := World.cells?_some hc
      obtain ⟨y, hy⟩ := hR n cs' _ htr (hle i hil) (fun z hz => hlt z (by rw [hp2, List.mem_append]; exact .inr (List.mem_flatMap.2 ⟨i, by simp; omega, hz⟩)))
      rw [hC] at hcl hat
      refine ⟨y, cs', hcl, hy, fun f u hu => ?_⟩
      have hf : f < sz := by rw [← hcl]; exact (List.getElem?_eq_some_iff.1 hu).1
      rw [hat f hf, hu]
    obtain ⟨l, hll, hq⟩ := list_of len _ key
    refine ⟨_, l, rfl, ⟨some a, cap, by rw [hll], fun h0 => ?_⟩, by rw [hll]; exact hsum, by omega⟩
    obtain ⟨cs0, h1, h2, h3⟩ := hq 0 h0
    have hc0 : w.cell? a = some (cs0[0]'(by omega)) := by
      have := h3 0 _ (List.getElem?_eq_getElem (by omega))
      simpa [Addr.add] using this
    have hsp : a.spot = none := by
      cases hs : a.spot with
      | none => rfl
      | some s =>
        unfold World.cell? at hc0
        split at hc0 <;> simp_all
    obtain ⟨ab, ao, asp⟩ := a
    simp only at hsp
    subst hsp
    have hlt0 : ab < N := hlt (.cell ab ao) (by
      rw [hp2, List.mem_append]
      left
      simp only [MemPlace.row, List.mem_map, List.mem_range]
      exact ⟨0, by rw [hC]; exact Nat.mul_pos (by omega) hsz, by simp⟩)
    refine ⟨ab, ao, rfl, hlt0, Nat.lt_of_lt_of_le hlt0 hN, fun i hi => ?_⟩
    obtain ⟨cs', g1, g2, g3⟩ := hq i hi
    refine ⟨cs', g1, g2, fun f u hu => ?_⟩
    have := g3 f u hu
    have e1 : ∀ (o q : Nat), (⟨ab, o, none⟩ : Addr).add q = ⟨ab, o + q, none⟩ := by intro o q; unfold Addr.add; split <;> simp_all
    rw [e1, e1, Nat.add_assoc] at this
    exact this
end

/-- Of a row's things, what is said of each, apart. -/
theorem RowsOf.part {α : Type} {R : World → List Value → α → Prop} {Q : α → Prop} {D : Nat → Prop} {w : World} {v : Value} {sz : Nat} {l : List α} (h : RowsOf (fun w cs x => R w cs x ∧ Q x) D w v sz l) : RowsOf R D w v sz l ∧ ∀ x ∈ l, Q x := by
  refine ⟨h.mono (fun _ _ h => h) (fun _ _ h => h.1), fun x hx => ?_⟩
  obtain ⟨i, hi, rfl⟩ := List.mem_iff_getElem.1 hx
  obtain ⟨p, cap, rfl, h⟩ := h
  obtain ⟨b, off, rfl, _, _, hc⟩ := h (by omega)
  obtain ⟨cs, _, h2, _⟩ := hc i hi
  exact h2.2

end Go.Proofs.Ytombolmicfjjpaa

/- The elements of arguments, opened, with their reach: numbers, and Blobs. -/
namespace Go.Proofs.Ytombolmicfjjpaa
open Go.RowKit
open Go.ChangeShapes Go.WideShapes Go.ChangeAt Go.Deep

theorem cells_blob : Try.prog.cellsOf 64 = 2 := by kernel_rfl
theorem cells_bool : Try.prog.cellsOf 4 = 1 := by kernel_rfl
section
variable {H : Type} {enc : TypeId × Value → H} {w : World} {spare : Nat → Bool} {held : Bool}
set_option maxRecDepth 100000 in
theorem blob_opens {N : Nat} : ∀ n cs y, DataW.trod enc Try.prog w 0 spare held n 64 cs = some y → Light 64 y.1 → (∀ x ∈ y.2, x.block < N) → ∃ x : BlobS, cs = [.bool x.null, .string (bb x.data)] ∧ x.data.length ≤ 140737488351232 := by
  intro n cs y h hl hN
  obtain ⟨hc, m, hf⟩ := opens_field Try.underlying64 h hl hN
  rw [cells_blob] at hc
  obtain ⟨a, b, rfl⟩ := len2 hc
  obtain ⟨z0, g0, l0, _⟩ := hf 0 _ rfl
  obtain ⟨z1, g1, l1, _⟩ := hf 1 _ rfl
  have g0 : DataW.trod enc Try.prog w 0 spare held m 4 (List.take (Try.prog.cellsOf 4) (List.drop 0 [a, b])) = some z0 := g0
  have g1 : DataW.trod enc Try.prog w 0 spare held m 9 (List.take (Try.prog.cellsOf 9) (List.drop 1 [a, b])) = some z1 := g1
  rw [cells_bool] at g0
  rw [cells_str] at g1
  obtain ⟨x, e0⟩ := opens_bool Try.underlying4 g0
  obtain ⟨s, e1, hs⟩ := opens_str Try.underlying9 g1 l1
  simp at e0 e1
  subst e0 e1
  exact ⟨⟨x, s⟩, rfl, hs⟩
theorem rb_opens {N : Nat} : ∀ n cs y, DataW.trod enc Try.prog w 0 spare held n 64 cs = some y → Light 64 y.1 → (∀ x ∈ y.2, x.block < N) → ∃ x : BlobS, RB cs x ∧ x.data.length ≤ 140737488351232 := blob_opens
theorem ri_opens {N : Nat} : ∀ n cs y, DataW.trod enc Try.prog w 0 spare held n 3 cs = some y → Light 3 y.1 → (∀ x ∈ y.2, x.block < N) → ∃ x : Int, RI cs x ∧ (-9223372036854775808 ≤ x ∧ x < 9223372036854775808) := fun n cs y h _ _ => opens_i64 Try.underlying3 h
end
end Go.Proofs.Ytombolmicfjjpaa

/- The elements of arguments, opened, with their reach: topics, and values. -/
namespace Go.Proofs.Ytombolmicfjjpaa
open Go.RowKit

open Go.ChangeShapes Go.WideShapes Go.ChangeAt Go.Deep

theorem cells_tops : Try.prog.cellsOf 22 = 1 := by kernel_rfl
theorem cells_top : Try.prog.cellsOf 51 = 2 := by kernel_rfl
theorem cells_ints : Try.prog.cellsOf 49 = 1 := by kernel_rfl
theorem cells_val : Try.prog.cellsOf 24 = 7 := by kernel_rfl
theorem bytes_int : Try.prog.bytesOf 3 = 8 := by kernel_rfl
/-- What is known of a topic that came in. -/
def QTop (W : World) (x : TopS × Value) : Prop := RowsOf (fun _ cs x => RI cs x) (· < W.heap.size) W x.2 1 x.1.parts ∧ x.1.name.length ≤ 140737488351232 ∧ x.1.parts.length ≤ 17592186043904 ∧ ∀ n ∈ x.1.parts, -9223372036854775808 ≤ n ∧ n < 9223372036854775808
/-- Topics that came in. -/
def FewI (l : List (TopS × Value)) : Prop := l.length ≤ 140737488351232 ∧ ∀ x ∈ l, x.1.name.length ≤ 140737488351232 ∧ x.1.parts.length ≤ 17592186043904 ∧ ∀ n ∈ x.1.parts, -9223372036854775808 ≤ n ∧ n < 9223372036854775808
theorem bytes_top : Try.prog.bytesOf 51 = 40 := by kernel_rfl
theorem QTop.few {W : World} {l : List (TopS × Value)} (hn : l.length * Try.prog.bytesOf 51 ≤ 140737488351232) (h : ∀ x ∈ l, QTop W x) : FewI l := ⟨by rw [bytes_top] at hn; omega, fun x hx => (h x hx).2⟩
theorem QTop.start {W : World} {v : Value} {l : List (TopS × Value)} (hr : RowsOf (fun _ cs x => RTop cs x) (· < W.heap.size) W v 2 l) (h : ∀ x ∈ l, QTop W x) : St W W (Know.tops v l) [] := St.start ⟨hr, fun x hx => (h x hx).1⟩
section
variable {H : Type} {enc : TypeId × Value → H} {w : World} {spare : Nat → Bool} {held : Bool}
set_option maxHeartbeats 1000000 in
set_option maxRecDepth 100000 in
theorem rtop_opens : ∀ n cs y, DataW.trod enc Try.prog w 0 spare held n 51 cs = some y → Light 51 y.1 → (∀ x ∈ y.2, x.block < w.heap.size) → ∃ x : TopS × Value, RTop cs x ∧ QTop w x := by
  intro n cs y hf hl hN
  have hNw : w.heap.size ≤ w.heap.size := Nat.le_refl _
  obtain ⟨hc, m, hg⟩ := opens_field Try.underlying51 hf hl hN
  rw [cells_top] at hc
  match cs, hc with
  | [c0, c1], _ =>
    obtain ⟨z0, g0, l0, n0⟩ := hg 0 _ rfl
    have g0 : DataW.trod enc Try.prog w 0 spare held m 9 (List.take (Try.prog.cellsOf 9) (List.drop 0 [c0, c1])) = some z0 := g0
    rw [cells_str] at g0
    obtain ⟨z1, g1, l1, n1⟩ := hg 1 _ rfl
    have g1 : DataW.trod enc Try.prog w 0 spare held m 49 (List.take (Try.prog.cellsOf 49) (List.drop 1 [c0, c1])) = some z1 := g1
    rw [cells_ints] at g1
    obtain ⟨x0, e0, s0⟩ := opens_str Try.underlying9 g0 l0
    obtain ⟨v1, x1, e1, hr, hm, _⟩ := opens_rows (R := fun w cs x => (fun _ cs x => RI cs x) w cs x ∧ (fun x : Int => -9223372036854775808 ≤ x ∧ x < 9223372036854775808) x) (N := w.heap.size) Try.underlying49 cells_int (by decide) ri_opens g1 l1 n1 hNw
    obtain ⟨hr1, hq⟩ := hr.part
    simp at e0 e1
    subst e0 e1
    rw [bytes_int] at hm
    have hm2 : x1.length ≤ 17592186043904 := by omega
    exact ⟨(⟨x0, x1⟩, _), rfl, hr1, s0, hm2, hq⟩
set_option maxHeartbeats 2000000 in
set_option maxRecDepth 100000 in
theorem val_opens : ∀ n cs y, DataW.trod enc Try.prog w 0 spare held n 24 cs = some y → Light 24 y.1 → (∀ x ∈ y.2, x.block < w.heap.size) →
    ∃ (p e t s u st : Int) (l : List (TopS × Value)) (rv : Value), cs = [.int .i64 p, .int .i64 e, .int .i64 t, .int .i64 s, rv, .int .i64 u, .int .i64 st] ∧
      ValS.R ⟨p, e, t, s, l.map (·.1), u, st⟩ ∧ RowsOf (fun _ cs x => RTop cs x) (· < w.heap.size) w rv 2 l ∧ l.length * Try.prog.bytesOf 51 ≤ 140737488351232 ∧ (∀ x ∈ l, QTop w x) := by
  intro n cs y hf hl hN
  obtain ⟨hc, m, hg⟩ := opens_field Try.underlying24 hf hl hN
  rw [cells_val] at hc
  match cs, hc with
  | [c0, c1, c2, c3, c4, c5, c6], _ =>
    obtain ⟨z0, g0, l0, n0⟩ := hg 0 _ rfl
    have g0 : DataW.trod enc Try.prog w 0 spare held m 3 (List.take (Try.prog.cellsOf 3) (List.drop 0 [c0, c1, c2, c3, c4, c5, c6])) = some z0 := g0
    rw [cells_int] at g0
    obtain ⟨z1, g1, l1, n1⟩ := hg 1 _ rfl
    have g1 : DataW.trod enc Try.prog w 0 spare held m 3 (List.take (Try.prog.cellsOf 3) (List.drop 1 [c0, c1, c2, c3, c4, c5, c6])) = some z1 := g1
    rw [cells_int] at g1
    obtain ⟨z2, g2, l2, n2⟩ := hg 2 _ rfl
    have g2 : DataW.trod enc Try.prog w 0 spare held m 3 (List.take (Try.prog.cellsOf 3) (List.drop 2 [c0, c1, c2, c3, c4, c5, c6])) = some z2 := g2
    rw [cells_int] at g2
    obtain ⟨z3, g3, l3, n3⟩ := hg 3 _ rfl
    have g3 : DataW.trod enc Try.prog w 0 spare held m 3 (List.take (Try.prog.cellsOf 3) (List.drop 3 [c0, c1, c2, c3, c4, c5, c6])) = some z3 := g3
    rw [cells_int] at g3
    obtain ⟨z4, g4, l4, n4⟩ := hg 4 _ rfl
    have g4 : DataW.trod enc Try.prog w 0 spare held m 22 (List.take (Try.prog.cellsOf 22) (List.drop 4 [c0, c1, c2, c3, c4, c5, c6])) = some z4 := g4
    rw [cells_tops] at g4
    obtain ⟨z5, g5, l5, n5⟩ := hg 5 _ rfl
    have g5 : DataW.trod enc Try.prog w 0 spare held m 3 (List.take (Try.prog.cellsOf 3) (List.drop 5 [c0, c1, c2, c3, c4, c5, c6])) = some z5 := g5
    rw [cells_int] at g5
    obtain ⟨z6, g6, l6, n6⟩ := hg 6 _ rfl
    have g6 : DataW.trod enc Try.prog w 0 spare held m 3 (List.take (Try.prog.cellsOf 3) (List.drop 6 [c0, c1, c2, c3, c4, c5, c6])) = some z6 := g6
    rw [cells_int] at g6
    obtain ⟨x0, e0, r0⟩ := opens_i64 Try.underlying3 g0
    obtain ⟨x1, e1, r1⟩ := opens_i64 Try.underlying3 g1
    obtain ⟨x2, e2, r2⟩ := opens_i64 Try.underlying3 g2
    obtain ⟨x3, e3, r3⟩ := opens_i64 Try.underlying3 g3
    obtain ⟨x5, e5, r5⟩ := opens_i64 Try.underlying3 g5
    obtain ⟨x6, e6, r6⟩ := opens_i64 Try.underlying3 g6
    obtain ⟨v4, x4, e4, hrq, hm4, _⟩ := opens_rows (R := fun w' cs x => (fun _ cs x => RTop cs x) w' cs x ∧ QTop w x) (N := w.heap.size) Try.underlying22 cells_top (by decide) rtop_opens g4 l4 n4 (Nat.le_refl _)
    obtain ⟨hr, hq⟩ := hrq.part
    simp at e0 e1 e2 e3 e4 e5 e6
    subst e0 e1 e2 e3 e4 e5 e6
    exact ⟨x0, x1, x2, x3, x5, x6, x4, _, rfl, ⟨r0, r1, r2, r3, r5, r6⟩, hr, hm4, hq⟩
set_option maxHeartbeats 2000000 in
set_option maxRecDepth 100000 in
theorem val_open {r : Reach} {b0 : Nat} {v : Value} {d : DataW H} {p : List MemPlace} (hv : Value.okWide Try.prog w r b0 24 v) (h : DataW.Trod enc Try.prog w 0 spare held 24 v d p) (hl : Light 24 d) (hN : ∀ x ∈ p, x.block < w.heap.size) :
    ∃ (p e t s u st : Int) (l : List (TopS × Value)) (q : Option Addr) (cap : Nat), v = .agg #[.int .i64 p, .int .i64 e, .int .i64 t, .int .i64 s, .slice q l.length cap, .int .i64 u, .int .i64 st] ∧
      ValS.R ⟨p, e, t, s, l.map (·.1), u, st⟩ ∧ FewI l ∧ St w w (Know.tops (.slice q l.length cap) l) [] := by
  obtain ⟨cs, rfl, hsz⟩ := okWide_struct Try.underlying24 hv
  obtain ⟨fuel, hf⟩ := h
  obtain ⟨p, e, t, s, u, st, l, rv, ec, hR, hr, hm, hq⟩ := val_opens _ _ _ hf hl hN
  obtain ⟨c⟩ := cs
  have ec : c = _ := ec
  subst ec
  obtain ⟨q, cap, hrv⟩ : ∃ q cap, rv = .slice q l.length cap := by obtain ⟨p, cap, hv, _⟩ := hr; exact ⟨p, cap, hv⟩
  subst hrv
  exact ⟨_, _, _, _, _, _, l, q, cap, rfl, hR, QTop.few hm hq, QTop.start hr hq⟩
end

end Go.Proofs.Ytombolmicfjjpaa
