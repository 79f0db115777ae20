/- Layer 24, walked: TallyQuarters (what it stands on). -/
import Derived.Test.YtombolmicfjjpaaRec6
import Derived.Test.YtombolmicfjjpaaBatP
import Derived.Test.YtombolmicfjjpaaCtl3
import Derived.Test.YtombolmicfjjpaaSep
import Derived.Deep.MidRow
import Derived.Test.YtombolmicfjjpaaTal3
import Derived.Test.YtombolmicfjjpaaStore
import Derived.Laws.FloatArith
import Derived.ChangeKeysEq
import Derived.Test.YtombolmicfjjpaaGrow
/- A record there and back (pure). -/
namespace Go.Proofs.Ytombolmicfjjpaa
open Go.RowKit

theorem dropNext {l a r : Bs} {n : Nat} (h : l.drop n = a ++ r) : l.drop (n + a.length) = r := by rw [← List.drop_drop, h, List.drop_left]
theorem reInner_back (x : RecS) (hx : x.R) (ho : recOk x = 0) (hs : x.sum ≤ 1000000) : reInner (recF x) = .ok x := by
  obtain ⟨ho, hr⟩ := recOk_zero ho
  unfold RecS.allRight at hr
  rw [Bool.and_eq_true, Bool.and_eq_true] at hr
  unfold RecS.sum at hs
  have d1 : (recF x).drop 1 = encI x.time ++ (encI x.off ++ (encV x.key ++ (encV x.val ++ encHs x.hdrs))) := rfl
  have d2 := dropNext d1
  have d3 := dropNext d2
  have d4 := dropNext d3
  have d5 := dropNext d4
  have h0 : getIntN 1 (recF x) = .ok (0, 1) := by
    unfold getIntN
    rw [if_neg (by unfold recF; simp)]
    rfl
  have h1 : vgetL ((recF x).drop 1) = .ok (x.time, (encI x.time).length) := by rw [d1]; exact vgetL_put _ hx.1.1 hx.1.2 _
  have h2 : vgetI ((recF x).drop (1 + (encI x.time).length)) = .ok (x.off, (encI x.off).length) := by rw [d2]; exact vgetI_put _ (by omega) (by omega) _
  have h3 := revaried_back x.key hr.1.1 (by omega) (encV x.val ++ encHs x.hdrs)
  have h4 := revaried_back x.val hr.1.2 (by omega) (encHs x.hdrs)
  have h5' := reHdrs_back x.hdrs [] hr.2 (by omega)
  rw [List.append_nil] at h5'
  have h5 : reHdrs ((recF x).drop (1 + (encI x.time).length + (encI x.off).length + (encV x.key).length + (encV x.val).length)) = .ok (x.hdrs, (encHs x.hdrs).length) := by rw [d5]; exact h5'
  rw [← d3] at h3
  rw [← d4] at h4
  have hl : 1 + (encI x.time).length + (encI x.off).length + (encV x.key).length + (encV x.val).length + (encHs x.hdrs).length = (recF x).length := by
    unfold recF
    simp only [List.length_append, List.length_cons, List.length_nil]
    omega
  unfold reInner
  rw [h0]
  simp only [if_true]
  rw [h1]
  simp only
  rw [h2]
  simp only
  rw [if_neg (by omega), h3]
  simp only
  rw [h4]
  simp only
  rw [h5]
  simp only
  rw [if_pos hl]
theorem rec_back (x : RecS) (hx : x.R) (ho : recOk x = 0) (hs : x.sum ≤ 1000000) : decR (encR x) = x ∧ (decJ (encR x)).err = 0 := by
  have hle := recF_le x hx hs
  have h1 := revaried_back ⟨false, recF x⟩ rfl (by simp only; omega) []
  rw [List.append_nil] at h1
  have h2 : reRec (encR x) = .ok (x, (encR x).length) := by
    unfold reRec encR
    rw [h1]
    simp only [Bool.false_eq_true, if_false]
    rw [reInner_back x hx ho hs]
  have h3 := (rds_rec.ok (encR x) 0 x (encR x).length (Nat.zero_le _) (by rw [List.drop_zero]; exact h2)).2
  rw [Nat.zero_add] at h3
  have h4 : (decJ (encR x)).err = 0 := by
    unfold decJ
    rw [h3]
    unfold InS.close
    rw [if_neg (by simp only [InS.left]; omega)]
  refine ⟨?_, h4⟩
  unfold decR
  rw [if_pos h4, h3]
theorem encR_le (x : RecS) (hx : x.R) (hs : x.sum ≤ 3000) : (encR x).length ≤ 200000 := by
  have h1 := recF_le x hx (by omega)
  have h2 := encV_le ⟨false, recF x⟩ (by simp only; omega)
  simp only at h2
  unfold encR
  omega
/-- The record of none. -/
def noneR : RecS := ⟨0, 0, ⟨true, []⟩, ⟨true, []⟩, []⟩
theorem put1 (u : Nat) (n : Int) (c : UInt8) (e : foldN n = u) (h : u < 128) (hc : UInt8.ofNat u = c) : encI n = [c] := by unfold encI; rw [e, putU_small h, hc]
theorem recF_none : recF noneR = [0, 0, 0, 1, 1, 0] := by
  have e0 : encI 0 = [0] := put1 0 0 0 (by decide) (by decide) (by decide)
  have e1 : encV ⟨true, []⟩ = [1] := by
    have := put1 1 (-1) 1 (by decide) (by decide) (by decide)
    unfold encV
    exact congrArg (· ++ ([] : Bs)) this
  unfold recF noneR
  simp only [e0, e1]
  have e2 : encHs [] = [0] := by
    unfold encHs
    exact congrArg (· ++ ([] : Bs)) e0
  rw [e2]
  rfl
theorem recOk_none : recOk noneR = 0 := by decide
theorem encR_none : encR noneR = [12, 0, 0, 0, 1, 1, 0] := by
  unfold encR
  rw [recF_none]
  have := put1 12 6 12 (by decide) (by decide) (by decide)
  unfold encV
  exact congrArg (· ++ ([0, 0, 0, 1, 1, 0] : Bs)) this
theorem encOk_none : encOk noneR = [12, 0, 0, 0, 1, 1, 0] := by unfold encOk; rw [if_pos recOk_none, encR_none]
theorem dec_none : decR [12, 0, 0, 0, 1, 1, 0] = noneR ∧ (decJ [12, 0, 0, 0, 1, 1, 0]).err = 0 := by
  have h := rec_back noneR (by unfold RecS.R noneR; simp) recOk_none (by decide)
  rw [encR_none] at h
  exact h
theorem dec_long : (decJ [12, 0, 0, 0, 1, 1, 0, 0]).err = 2 := by decide +kernel

end Go.Proofs.Ytombolmicfjjpaa

/- Rows of records. -/
namespace Go.Proofs.Ytombolmicfjjpaa
open Go.RowKit

/-- Of all of a row. -/
def Know.all {α : Type} (l : List α) (k : α → Know) : Know := ⟨fun w F => ∀ x ∈ l, (k x).p w F, fun w w' F h hs hk x hx => (k x).keep w w' F (h x hx) hs hk, fun w F F' h hs x hx => (k x).mono w F F' (h x hx) hs⟩
/-- A record's cells, and where its headers lie. -/
def RRec (cs : List Value) (x : RecS × Value) : Prop := cs = [.int .i64 x.1.time, .int .i64 x.1.off, .bool x.1.key.null, .string (bb x.1.key.data), .bool x.1.val.null, .string (bb x.1.val.data), x.2]
def rcells (x : RecS × Value) : List Value := [.int .i64 x.1.time, .int .i64 x.1.off, .bool x.1.key.null, .string (bb x.1.key.data), .bool x.1.val.null, .string (bb x.1.val.data), x.2]
def Know.recs (v : Value) (l : List (RecS × Value)) : Know := (Know.flat RRec v 7 l).and (Know.all l fun x => Know.flat RHdr x.2 3 x.1.hdrs)
theorem recs_flat {K : Know} {v : Value} {l : List (RecS × Value)} (h : K.has (Know.recs v l)) : K.has (Know.flat RRec v 7 l) := fun w F x => (h w F x).1
theorem recs_hdrs {K : Know} {v : Value} {l : List (RecS × Value)} (h : K.has (Know.recs v l)) {x : RecS × Value} (hx : x ∈ l) : K.has (Know.flat RHdr x.2 3 x.1.hdrs) := fun w F y => (h w F y).2 x hx
theorem recs_form {W0 w : World} {K : Know} {L : List Res} {v : Value} {l : List (RecS × Value)} (hk : K.has (Know.recs v l)) (h : St W0 w K L) : ∃ q cap, v = .slice q l.length cap := by
  obtain ⟨F, hF, _⟩ := h.get
  obtain ⟨q, cap, hv, _⟩ := (recs_flat hk _ _ hF).at
  exact ⟨q, cap, hv⟩
/-- Where the records lie. -/
theorem recs_at {W0 w : World} {K : Know} {L : List Res} {q : Option Addr} {n cap : Nat} {l : List (RecS × Value)} (hk : K.has (Know.recs (.slice q n cap) l)) (h : St W0 w K L) (h0 : 0 < l.length) : ∃ b off, q = some ⟨b, off, none⟩ := by
  obtain ⟨F, hF, _⟩ := h.get
  obtain ⟨q2, cap2, hv, hr⟩ := (recs_flat hk _ _ hF).at
  obtain ⟨b, off, hq, _⟩ := hr h0
  simp at hv
  exact ⟨b, off, hv.1.trans hq⟩
theorem recs_cell {W0 w : World} {K : Know} {L : List Res} {b off n cap : Nat} {l : List (RecS × Value)} (hk : K.has (Know.recs (.slice (some ⟨b, off, none⟩) n cap) l)) (h : St W0 w K L) (i : Nat) (hi : i < l.length) (x : RecS × Value) (hx : l[i] = x) :
    w.cell? ⟨b, off + (i * 7), none⟩ = some (.int .i64 x.1.time) ∧ w.cell? ⟨b, off + (i * 7 + 1), none⟩ = some (.int .i64 x.1.off) ∧ w.cell? ⟨b, off + (i * 7 + 2), none⟩ = some (.bool x.1.key.null) ∧ w.cell? ⟨b, off + (i * 7 + 3), none⟩ = some (.string (bb x.1.key.data)) ∧ w.cell? ⟨b, off + (i * 7 + 4), none⟩ = some (.bool x.1.val.null) ∧ w.cell? ⟨b, off + (i * 7 + 5), none⟩ = some (.string (bb x.1.val.data)) ∧ w.cell? ⟨b, off + (i * 7 + 6), none⟩ = some (x.2) := by
  subst hx
  obtain ⟨F, hF, _⟩ := h.get
  obtain ⟨q2, cap2, hv, hr⟩ := (recs_flat hk _ _ hF).at
  obtain ⟨b2, off2, hq, hc⟩ := hr (by omega)
  rw [hq] at hv
  simp at hv
  obtain ⟨⟨rfl, rfl⟩, _, _⟩ := hv
  obtain ⟨cs, _, hR, hcs⟩ := hc i hi
  unfold RRec at hR
  subst hR
  exact ⟨hcs 0 _ rfl, hcs 1 _ rfl, hcs 2 _ rfl, hcs 3 _ rfl, hcs 4 _ rfl, hcs 5 _ rfl, hcs 6 _ rfl⟩
def encAll (l : List (RecS × Value)) : Bs := l.flatMap fun x => encR x.1
theorem encAll_snoc (l : List (RecS × Value)) (x : RecS × Value) : encAll (l ++ [x]) = encAll l ++ encR x.1 := by unfold encAll; simp
theorem encAll_take (l : List (RecS × Value)) (k : Nat) (h : k < l.length) : encAll (l.take (k + 1)) = encAll (l.take k) ++ encR l[k].1 := by rw [List.take_succ_eq_append_getElem h, encAll_snoc]
theorem encAll_le : ∀ (l : List (RecS × Value)), (∀ x ∈ l, (encR x.1).length ≤ 200000) → (encAll l).length ≤ 200000 * l.length
  | [], _ => by simp [encAll]
  | x :: t, h => by
    have h1 := encAll_le t (fun y hy => h y (by simp [hy]))
    have h2 := h x (by simp)
    have e : encAll (x :: t) = encR x.1 ++ encAll t := rfl
    rw [e, List.length_append, List.length_cons]
    omega
theorem reRec_back (x : RecS) (hx : x.R) (ho : recOk x = 0) (hs : x.sum ≤ 1000000) (r : Bs) : reRec (encR x ++ r) = .ok (x, (encR x).length) := by
  have hle := recF_le x hx hs
  have h1 := revaried_back ⟨false, recF x⟩ rfl (by simp only; omega) r
  unfold reRec encR
  rw [h1]
  simp only [Bool.false_eq_true, if_false]
  rw [reInner_back x hx ho hs]
/-- The k-th record is read where those ahead of it end. -/
theorem record_next (l : List (RecS × Value)) (k : Nat) (hk : k < l.length) (hx : l[k].1.R) (ho : recOk l[k].1 = 0) (hs : l[k].1.sum ≤ 1000000) :
    (⟨encAll l, (encAll (l.take k)).length, 0⟩ : InS).record = (l[k].1, ⟨encAll l, (encAll (l.take (k + 1))).length, 0⟩) := by
  have h1 : l = l.take k ++ (l[k] :: l.drop (k + 1)) := by rw [← List.drop_eq_getElem_cons hk, List.take_append_drop]
  have e1 : encAll l = encAll (l.take k) ++ (encR l[k].1 ++ encAll (l.drop (k + 1))) := by
    have e2 : encAll (l.take k ++ (l[k] :: l.drop (k + 1))) = encAll (l.take k) ++ (encR l[k].1 ++ encAll (l.drop (k + 1))) := by
      unfold encAll
      rw [List.flatMap_append, List.flatMap_cons]
    rw [← e2, ← h1]
  have hd : (encAll l).drop (encAll (l.take k)).length = encR l[k].1 ++ encAll (l.drop (k + 1)) := by rw [e1, List.drop_left]
  have h2 := rds_rec.ok (encAll l) (encAll (l.take k)).length l[k].1 (encR l[k].1).length (by rw [e1, List.length_append]; omega) (by rw [hd]; exact reRec_back _ hx ho hs _)
  rw [encAll_take l k hk, List.length_append]
  exact h2.2

end Go.Proofs.Ytombolmicfjjpaa

/- Batches (pure): rows. -/
namespace Go.Proofs.Ytombolmicfjjpaa
open Go.RowKit

def FitB (l : List (RecS × Value)) : Prop := ∀ x ∈ l, x.1.R ∧ HFit x.1.hdrs ∧ x.1.sum ≤ 1000000
theorem sum_hdrs {x : RecS} (h : x.sum ≤ 1000000) : x.hdrs.length ≤ 1000000 := by have := hsum_le x.hdrs; unfold RecS.sum at h; omega
theorem sum_data {x : RecS} (h : x.sum ≤ 1000000) : x.key.data.length ≤ 140737488355328 ∧ x.val.data.length ≤ 140737488355328 := by unfold RecS.sum at h; omega
theorem drop_recs (l : List (RecS × Value)) (k : Nat) (h : k < l.length) (x : RecS) (hx : l[k].1 = x) : (l.map (·.1)).drop k = x :: (l.map (·.1)).drop (k + 1) := by
  subst hx
  rw [List.drop_eq_getElem_cons (by simpa using h), List.getElem_map]
def GOf (r : Except Int Int) : Int := match r with | .ok g => g | .error _ => 0
theorem rowsC_cons (first last : Int) (r : RecS) (t : List RecS) (ah g : Int) : rowsC first last (r :: t) ah g = if r.off ≤ ah ∨ last < r.off then .error 13 else if r.time < -first ∨ 9223372036854775807 - first < r.time then .error 11 else rowsC first last t r.off (max g (first + r.time)) := rfl

end Go.Proofs.Ytombolmicfjjpaa

/- Ends of transactions as batches (pure). -/
namespace Go.Proofs.Ytombolmicfjjpaa
open Go.RowKit

theorem rc_cell_tmp {P : Program} {fn : Func} {p t : Tmp} {ty : TypeId} (h : fn.results = #[.cell p ty, .tmp t]) (tmps : Array Value) (w : World) (b : Nat) (cs : List Value) (d : TypeDesc)
    (hp : tmps.getD p undef = .pointer (some ⟨b, 0, none⟩)) (hc : w.rangeAt b 0 cs) (hu : P.underlying ty = some d) (hd : d.isRow = true) (hi : (P.info? ty).map (·.size) = some cs.length) :
    (results fn tmps).run P w = .ok (.tuple #[.agg cs.toArray, tmps.getD t undef]) w := by
  have hp' : tmps[p]?.getD undef = .pointer (some ⟨b, 0, none⟩) := by simpa using hp
  simp [results, h, hp', asAddr, run_loadVar_mid w b 0 ty cs d hc hu hd hi]
theorem rc_cell_only {P : Program} {fn : Func} {p : Tmp} {ty : TypeId} (h : fn.results = #[.cell p ty]) (tmps : Array Value) (w : World) (b : Nat) (cs : List Value) (d : TypeDesc)
    (hp : tmps.getD p undef = .pointer (some ⟨b, 0, none⟩)) (hc : w.rangeAt b 0 cs) (hu : P.underlying ty = some d) (hd : d.isRow = true) (hi : (P.info? ty).map (·.size) = some cs.length) :
    (results fn tmps).run P w = .ok (.agg cs.toArray) w := by
  have hp' : tmps[p]?.getD undef = .pointer (some ⟨b, 0, none⟩) := by simpa using hp
  simp [results, h, hp', asAddr, run_loadVar_mid w b 0 ty cs d hc hu hd hi]
theorem rc_range {W0 w : World} {K : Know} {L : List Res} {b : Nat} {c : List Value} {T : TypeId} (h : St W0 w K (.raw b c.toArray T :: L)) : w.rangeAt b 0 c := by
  intro j v hv
  rw [Nat.zero_add, h.rawCell j]
  simpa using hv
theorem raw5e {W0 w : World} {K : Know} {L : List Res} {b : Nat} {a0 a1 a2 a3 a4 : Value} {T : TypeId} (h : St W0 w K (.raw b #[a0, a1, a2, a3, a4] T :: L)) :
    (w.cell? ⟨b, 0, none⟩ = some a0 ∧ w.cell? ⟨b, 1, none⟩ = some a1 ∧ w.cell? ⟨b, 2, none⟩ = some a2 ∧ w.cell? ⟨b, 3, none⟩ = some a3 ∧ w.cell? ⟨b, 4, none⟩ = some a4) ∧
    (w.frozen? ⟨b, 0, none⟩ = false ∧ w.frozen? ⟨b, 1, none⟩ = false ∧ w.frozen? ⟨b, 2, none⟩ = false ∧ w.frozen? ⟨b, 3, none⟩ = false ∧ w.frozen? ⟨b, 4, none⟩ = false) :=
  ⟨⟨(h.rawCell 0).trans rfl, (h.rawCell 1).trans rfl, (h.rawCell 2).trans rfl, (h.rawCell 3).trans rfl, (h.rawCell 4).trans rfl⟩, h.rawFree 0, h.rawFree 1, h.rawFree 2, h.rawFree 3, h.rawFree 4⟩
theorem St.sets12 {W0 w : World} {K : Know} {L : List Res} {b : Nat} {T : TypeId} {a0 a1 a2 a3 a4 a5 a6 a7 a8 a9 a10 a11 : Value} (v0 v1 v2 v3 v4 v5 v6 v7 v8 v9 v10 v11 : Value) (h : St W0 w K (.raw b #[a0, a1, a2, a3, a4, a5, a6, a7, a8, a9, a10, a11] T :: L)) : St W0 ((((((((((((w.setCell ⟨b, 0, none⟩ v0).setCell ⟨b, 1, none⟩ v1).setCell ⟨b, 2, none⟩ v2).setCell ⟨b, 3, none⟩ v3).setCell ⟨b, 4, none⟩ v4).setCell ⟨b, 5, none⟩ v5).setCell ⟨b, 6, none⟩ v6).setCell ⟨b, 7, none⟩ v7).setCell ⟨b, 8, none⟩ v8).setCell ⟨b, 9, none⟩ v9).setCell ⟨b, 10, none⟩ v10).setCell ⟨b, 11, none⟩ v11) K (.raw b #[v0, v1, v2, v3, v4, v5, v6, v7, v8, v9, v10, v11] T :: L) := by
  have h : St W0 _ K (.raw b #[v0, a1, a2, a3, a4, a5, a6, a7, a8, a9, a10, a11] T :: L) := h.rawSet 0 v0
  have h : St W0 _ K (.raw b #[v0, v1, a2, a3, a4, a5, a6, a7, a8, a9, a10, a11] T :: L) := h.rawSet 1 v1
  have h : St W0 _ K (.raw b #[v0, v1, v2, a3, a4, a5, a6, a7, a8, a9, a10, a11] T :: L) := h.rawSet 2 v2
  have h : St W0 _ K (.raw b #[v0, v1, v2, v3, a4, a5, a6, a7, a8, a9, a10, a11] T :: L) := h.rawSet 3 v3
  have h : St W0 _ K (.raw b #[v0, v1, v2, v3, v4, a5, a6, a7, a8, a9, a10, a11] T :: L) := h.rawSet 4 v4
  have h : St W0 _ K (.raw b #[v0, v1, v2, v3, v4, v5, a6, a7, a8, a9, a10, a11] T :: L) := h.rawSet 5 v5
  have h : St W0 _ K (.raw b #[v0, v1, v2, v3, v4, v5, v6, a7, a8, a9, a10, a11] T :: L) := h.rawSet 6 v6
  have h : St W0 _ K (.raw b #[v0, v1, v2, v3, v4, v5, v6, v7, a8, a9, a10, a11] T :: L) := h.rawSet 7 v7
  have h : St W0 _ K (.raw b #[v0, v1, v2, v3, v4, v5, v6, v7, v8, a9, a10, a11] T :: L) := h.rawSet 8 v8
  have h : St W0 _ K (.raw b #[v0, v1, v2, v3, v4, v5, v6, v7, v8, v9, a10, a11] T :: L) := h.rawSet 9 v9
  have h : St W0 _ K (.raw b #[v0, v1, v2, v3, v4, v5, v6, v7, v8, v9, v10, a11] T :: L) := h.rawSet 10 v10
  have h : St W0 _ K (.raw b #[v0, v1, v2, v3, v4, v5, v6, v7, v8, v9, v10, v11] T :: L) := h.rawSet 11 v11
  exact h
/-- How a batch ends a transaction: whose, of which epoch, how, when, by whom, and that it does. -/
def endOf (b : BatS) : Int × Int × Int × Int × Int × Bool :=
  if b.ctl = true ∧ batErr b = 0 then match b.recs with
    | x :: _ => (b.prod, b.epoch, (ctlOf x).1, b.first + x.time, (ctlOf x).2.1, true)
    | [] => (0, 0, 0, 0, 0, false)
  else (0, 0, 0, 0, 0, false)
theorem rowsC_time {first last : Int} {x : RecS} {t : List RecS} {ah g g2 : Int} (h : rowsC first last (x :: t) ah g = .ok g2) : -first ≤ x.time ∧ x.time ≤ 9223372036854775807 - first := by
  rw [rowsC_cons] at h
  by_cases c1 : x.off ≤ ah ∨ last < x.off
  · rw [if_pos c1] at h; cases h
  rw [if_neg c1] at h
  by_cases c2 : x.time < -first ∨ 9223372036854775807 - first < x.time
  · rw [if_pos c2] at h; cases h
  omega
theorem batErr_ctl (b : BatS) (h : batErr b = 0) (hc : b.ctl = true) : ∃ x, b.recs = [x] ∧ (ctlOf x).2.2 = 0 ∧ (-b.first ≤ x.time ∧ x.time ≤ 9223372036854775807 - b.first) ∧ 0 ≤ b.first := by
  unfold batErr at h
  by_cases p1 : b.placed = false
  · rw [if_pos p1] at h; cases h
  rw [if_neg p1] at h
  by_cases p2 : b.ctl = true ∧ b.txn = false
  · rw [if_pos p2] at h; cases h
  rw [if_neg p2] at h
  by_cases p3 : b.signed = false
  · rw [if_pos p3] at h; cases h
  rw [if_neg p3] at h
  by_cases p4 : b.ctl = true ∧ b.recs.length ≠ 1
  · rw [if_pos p4] at h; cases h
  rw [if_neg p4] at h
  by_cases p5 : recsC b.recs ≠ 0
  · rw [if_pos p5] at h; exact absurd h p5
  rw [if_neg p5] at h
  by_cases p6 : b.ctl = true ∧ b.ends ≠ 0
  · rw [if_pos p6] at h; exact absurd h p6.2
  rw [if_neg p6] at h
  have hl : b.recs.length = 1 := by
    by_cases hh : b.recs.length = 1
    · exact hh
    · exact absurd ⟨hc, hh⟩ p4
  obtain ⟨x, hx⟩ := List.length_eq_one_iff.1 hl
  have hp : b.placed = true := by cases hh : b.placed with
    | false => exact absurd hh p1
    | true => rfl
  have hp2 := (of_decide_eq_true hp).2.2.2.2.1
  have he : b.ends = 0 := by
    by_cases hh : b.ends = 0
    · exact hh
    · exact absurd ⟨hc, hh⟩ p6
  unfold BatS.ends at he
  rw [hx] at he
  refine ⟨x, hx, he, ?_, hp2⟩
  unfold BatS.rows at h
  rw [hx] at h
  cases hr : rowsC b.first b.last [x] (-1) b.first with
  | error e =>
    rw [hr] at h
    have h : e = 0 := h
    subst h
    rw [rowsC_cons] at hr
    by_cases c1 : x.off ≤ -1 ∨ b.last < x.off
    · rw [if_pos c1] at hr; cases hr
    rw [if_neg c1] at hr
    by_cases c2 : x.time < -b.first ∨ 9223372036854775807 - b.first < x.time
    · rw [if_pos c2] at hr; cases hr
    rw [if_neg c2] at hr
    cases hr
  | ok g => exact rowsC_time hr

end Go.Proofs.Ytombolmicfjjpaa

/- Sums of sizes, turned: four of them. -/
namespace Go.Proofs.Ytombolmicfjjpaa
open Go.RowKit

set_option maxHeartbeats 1000000 in
set_option maxRecDepth 100000 in
theorem tal_quarters (l : List Int) (q0 : Option Addr) (cap : Nat) (hl : Lim 2147483648 l) (hn : l.length ≤ 1000) {W0 w : World} {K : Know} {L : List Res} (hk : K.has (Know.flat RIt (.slice q0 l.length cap) 1 l)) (h : St W0 w K L) :
    Calls Try.prog 63 #[.slice q0 l.length cap] w fun en w' => ∃ z : Nat → Nat × Nat, en = .returned (.agg #[.complex .f64 (z 0).1 (z 0).2, .complex .f64 (z 1).1 (z 1).2, .complex .f64 (z 2).1 (z 2).2, .complex .f64 (z 3).1 (z 3).2]) ∧ (∀ j, j < 4 → FI (z j).1 (qa j l l.length).1 ∧ FI (z j).2 (qa j l l.length).2) ∧ St W0 w' K L := by
  obtain ⟨rb, hrb⟩ : ∃ b, w.heap.size = b := ⟨_, rfl⟩
  obtain ⟨fb, hfb⟩ : ∃ b, rb + 1 = b := ⟨_, rfl⟩
  have h1 := (h.allocRaw #[.complex .f64 0 0, .complex .f64 0 0, .complex .f64 0 0, .complex .f64 0 0] 106).allocRaw #[.complex .f64 0 0, .complex .f64 0 0, .complex .f64 0 0, .complex .f64 0 0] 106
  rw [World.size_alloc, hrb, hfb] at h1
  have H := Lib.hid h1
  have HK := Lib.hid hk
  have HL := Lib.hid hl
  have HN := Lib.hid hn
  have hstc : ∀ (a : Addr) (x y : Nat) (m : Mode) (w : World), (store a (.complex .f64 x y) m).run Try.prog w = stored Try.prog w a (.complex .f64 x y) m := fun a x y m w => run_store Try.prog w a _ m rfl
  clear h h1 hk hl hn
  go_enter Try.func63, Try.ntmps63
  go_wp2
  go_loopw [4, 5] (fun _ iv wr => ∃ (i : Nat) (z : Nat → Nat × Nat), i ≤ 4 ∧ iv = .int .i64 i ∧ Hid (∀ j, j < i → FI (z j).1 (qa j l l.length).1 ∧ FI (z j).2 (qa j l l.length).2) ∧ St W0 wr K (.raw fb #[.complex .f64 (z 0).1 (z 0).2, .complex .f64 (z 1).1 (z 1).2, .complex .f64 (z 2).1 (z 2).2, .complex .f64 (z 3).1 (z 3).2] 106 :: .raw rb #[.complex .f64 0 0, .complex .f64 0 0, .complex .f64 0 0, .complex .f64 0 0] 106 :: L)) (fun _ iv _ => 4 - (intOf iv).toNat)
  case atStart => exact ⟨0, fun _ => (0, 0), by decide, rfl, Lib.hid (fun j hj => by omega), H.out⟩
  case round =>
    obtain ⟨i, z, hi, rfl, HZ, hst⟩ := hrel
    clear H
    have H := Lib.hid hst
    clear hst
    by_cases hlt : i < 4
    · rcases (by omega : i = 0 ∨ i = 1 ∨ i = 2 ∨ i = 3) with rfl | rfl | rfl | rfl
      · as_aux_lemma =>
        go_wp2_with (go_at_call 66; (with_reducible refine (tal_quarter 0 l q0 cap HL.out HN.out HK.out H.out).mono ?_); rintro e_ wn ⟨x, y, rfl, hx, hy, h⟩; have FX := Lib.hid hx; have FY := Lib.hid hy; clear hx hy; have c0 : wn.cell? ⟨fb, 0, none⟩ = some (.complex .f64 (z 0).1 (z 0).2) := h.rawCell 0; have f0 : wn.frozen? ⟨fb, 0, none⟩ = false := h.rawFree 0; replace H := Lib.hid h; clear h)
        have hs := H.out.rawSet 0 (.complex .f64 x y)
        go_roundw
        case rel =>
          refine ⟨1, fun j => if j = 0 then (x, y) else z j, by decide, rfl, Lib.hid (fun j hj => ?_), hs⟩
          by_cases hjk : j = 0
          · subst hjk; exact ⟨FX.out, FY.out⟩
          · simp only [if_neg hjk]; exact HZ.out j (by omega)
        case measure => first | (simp [intOf]; done) | (simp [intOf]; omega)
      · as_aux_lemma =>
        go_wp2_with (go_at_call 66; (with_reducible refine (tal_quarter 1 l q0 cap HL.out HN.out HK.out H.out).mono ?_); rintro e_ wn ⟨x, y, rfl, hx, hy, h⟩; have FX := Lib.hid hx; have FY := Lib.hid hy; clear hx hy; have c0 : wn.cell? ⟨fb, 1, none⟩ = some (.complex .f64 (z 1).1 (z 1).2) := h.rawCell 1; have f0 : wn.frozen? ⟨fb, 1, none⟩ = false := h.rawFree 1; replace H := Lib.hid h; clear h)
        have hs := H.out.rawSet 1 (.complex .f64 x y)
        go_roundw
        case rel =>
          refine ⟨2, fun j => if j = 1 then (x, y) else z j, by decide, rfl, Lib.hid (fun j hj => ?_), hs⟩
          by_cases hjk : j = 1
          · subst hjk; exact ⟨FX.out, FY.out⟩
          · simp only [if_neg hjk]; exact HZ.out j (by omega)
        case measure => first | (simp [intOf]; done) | (simp [intOf]; omega)
      · as_aux_lemma =>
        go_wp2_with (go_at_call 66; (with_reducible refine (tal_quarter 2 l q0 cap HL.out HN.out HK.out H.out).mono ?_); rintro e_ wn ⟨x, y, rfl, hx, hy, h⟩; have FX := Lib.hid hx; have FY := Lib.hid hy; clear hx hy; have c0 : wn.cell? ⟨fb, 2, none⟩ = some (.complex .f64 (z 2).1 (z 2).2) := h.rawCell 2; have f0 : wn.frozen? ⟨fb, 2, none⟩ = false := h.rawFree 2; replace H := Lib.hid h; clear h)
        have hs := H.out.rawSet 2 (.complex .f64 x y)
        go_roundw
        case rel =>
          refine ⟨3, fun j => if j = 2 then (x, y) else z j, by decide, rfl, Lib.hid (fun j hj => ?_), hs⟩
          by_cases hjk : j = 2
          · subst hjk; exact ⟨FX.out, FY.out⟩
          · simp only [if_neg hjk]; exact HZ.out j (by omega)
        case measure => first | (simp [intOf]; done) | (simp [intOf]; omega)
      · as_aux_lemma =>
        go_wp2_with (go_at_call 66; (with_reducible refine (tal_quarter 3 l q0 cap HL.out HN.out HK.out H.out).mono ?_); rintro e_ wn ⟨x, y, rfl, hx, hy, h⟩; have FX := Lib.hid hx; have FY := Lib.hid hy; clear hx hy; have c0 : wn.cell? ⟨fb, 3, none⟩ = some (.complex .f64 (z 3).1 (z 3).2) := h.rawCell 3; have f0 : wn.frozen? ⟨fb, 3, none⟩ = false := h.rawFree 3; replace H := Lib.hid h; clear h)
        have hs := H.out.rawSet 3 (.complex .f64 x y)
        go_roundw
        case rel =>
          refine ⟨4, fun j => if j = 3 then (x, y) else z j, by decide, rfl, Lib.hid (fun j hj => ?_), hs⟩
          by_cases hjk : j = 3
          · subst hjk; exact ⟨FX.out, FY.out⟩
          · simp only [if_neg hjk]; exact HZ.out j (by omega)
        case measure => first | (simp [intOf]; done) | (simp [intOf]; omega)
    · obtain rfl : i = 4 := by omega
      have c0 : wr.cell? ⟨fb, 0, none⟩ = some (.complex .f64 (z 0).1 (z 0).2) := H.out.rawCell 0
      have d0 : wr.cell? ⟨rb, 0, none⟩ = some (.complex .f64 0 0) := H.out.p1.rawCell 0
      have e0 : wr.frozen? ⟨rb, 0, none⟩ = false := H.out.p1.rawFree 0
      have c1 : wr.cell? ⟨fb, 1, none⟩ = some (.complex .f64 (z 1).1 (z 1).2) := H.out.rawCell 1
      have d1 : wr.cell? ⟨rb, 1, none⟩ = some (.complex .f64 0 0) := H.out.p1.rawCell 1
      have e1 : wr.frozen? ⟨rb, 1, none⟩ = false := H.out.p1.rawFree 1
      have c2 : wr.cell? ⟨fb, 2, none⟩ = some (.complex .f64 (z 2).1 (z 2).2) := H.out.rawCell 2
      have d2 : wr.cell? ⟨rb, 2, none⟩ = some (.complex .f64 0 0) := H.out.p1.rawCell 2
      have e2 : wr.frozen? ⟨rb, 2, none⟩ = false := H.out.p1.rawFree 2
      have c3 : wr.cell? ⟨fb, 3, none⟩ = some (.complex .f64 (z 3).1 (z 3).2) := H.out.rawCell 3
      have d3 : wr.cell? ⟨rb, 3, none⟩ = some (.complex .f64 0 0) := H.out.p1.rawCell 3
      have e3 : wr.frozen? ⟨rb, 3, none⟩ = false := H.out.p1.rawFree 3
      go_wp2_with fail
      have hz : St W0 _ K (.raw rb #[.complex .f64 (z 0).1 (z 0).2, .complex .f64 (z 1).1 (z 1).2, .complex .f64 (z 2).1 (z 2).2, .complex .f64 (z 3).1 (z 3).2] 106 :: .raw fb #[.complex .f64 (z 0).1 (z 0).2, .complex .f64 (z 1).1 (z 1).2, .complex .f64 (z 2).1 (z 2).2, .complex .f64 (z 3).1 (z 3).2] 106 :: L) := (((H.out.p1.rawSet 0 (.complex .f64 (z 0).1 (z 0).2)).rawSet 1 (.complex .f64 (z 1).1 (z 1).2)).rawSet 2 (.complex .f64 (z 2).1 (z 2).2)).rawSet 3 (.complex .f64 (z 3).1 (z 3).2)
      refine bodyPost_ret (rc_cell_only rfl _ _ rb [.complex .f64 (z 0).1 (z 0).2, .complex .f64 (z 1).1 (z 1).2, .complex .f64 (z 2).1 (z 2).2, .complex .f64 (z 3).1 (z 3).2] _ rfl (rc_range hz) Try.underlying106 rfl (by kernel_rfl)) rfl ?_
      exact ⟨z, rfl, HZ.out, hz.drop.drop⟩

end Go.Proofs.Ytombolmicfjjpaa

/- Quarters, back (pure). -/
namespace Go.Proofs.Ytombolmicfjjpaa
open Go.RowKit

/-- The sum of the first quarters, each turned back by so many places more. -/
def bq (A B : Nat → Int) (p : Nat) : Nat → Int × Int
  | 0 => (0, 0)
  | k + 1 => ((bq A B p k).1 + (turnI ((-(k : Int) * p) % 4) (A k) (B k)).1, (bq A B p k).2 + (turnI ((-(k : Int) * p) % 4) (A k) (B k)).2)
theorem turnI_lim2 (r a b M : Int) (h : -M ≤ a ∧ a ≤ M) (h2 : -M ≤ b ∧ b ≤ M) : (-M ≤ (turnI r a b).1 ∧ (turnI r a b).1 ≤ M) ∧ (-M ≤ (turnI r a b).2 ∧ (turnI r a b).2 ≤ M) := by
  unfold turnI
  split
  · simp only; omega
  · split
    · simp only; omega
    · split
      · simp only; omega
      · simp only; omega
def Lim4 (A B : Nat → Int) : Prop := ∀ j, j < 4 → (-281474976710656 ≤ A j ∧ A j ≤ 281474976710656) ∧ (-281474976710656 ≤ B j ∧ B j ≤ 281474976710656)
theorem bq_lim (A B : Nat → Int) (h : Lim4 A B) (p k : Nat) (hk : k ≤ 4) : (-(281474976710656 * (k : Int)) ≤ (bq A B p k).1 ∧ (bq A B p k).1 ≤ 281474976710656 * k) ∧ (-(281474976710656 * (k : Int)) ≤ (bq A B p k).2 ∧ (bq A B p k).2 ≤ 281474976710656 * k) := by
  induction k with
  | zero => simp [bq]
  | succ k ih =>
    have ih := ih (by omega)
    have ht := turnI_lim2 ((-(k : Int) * p) % 4) (A k) (B k) 281474976710656 (h k (by omega)).1 (h k (by omega)).2
    show (-(281474976710656 * ((k + 1 : Nat) : Int)) ≤ (bq A B p k).1 + _ ∧ (bq A B p k).1 + _ ≤ 281474976710656 * ((k + 1 : Nat) : Int)) ∧ (-(281474976710656 * ((k + 1 : Nat) : Int)) ≤ (bq A B p k).2 + _ ∧ (bq A B p k).2 + _ ≤ 281474976710656 * ((k + 1 : Nat) : Int))
    omega
theorem bq_wh (A B : Nat → Int) (h : Lim4 A B) (p k : Nat) (hk : k ≤ 4) : Wh (bq A B p k).1 ∧ Wh (bq A B p k).2 := by
  have h := bq_lim A B h p k hk
  unfold Wh
  omega

end Go.Proofs.Ytombolmicfjjpaa

/- Quarters of sizes, and back (pure). -/
namespace Go.Proofs.Ytombolmicfjjpaa
open Go.RowKit

/-- The sum of every fourth one. -/
def sm (l : List Int) (p : Nat) : Nat → Int
  | 0 => 0
  | i + 1 => sm l p i + if i % 4 = p then l.getD i 0 else 0
theorem turnI_add (r a b a' b' : Int) : turnI r (a + a') (b + b') = ((turnI r a b).1 + (turnI r a' b').1, (turnI r a b).2 + (turnI r a' b').2) := by
  by_cases h1 : r = 1
  · subst h1; simp [turnI]; omega
  · by_cases h2 : r = 2
    · subst h2; simp [turnI]; omega
    · by_cases h3 : r = 3
      · subst h3; simp [turnI]; omega
      · simp [turnI, h1, h2, h3]
theorem turnI_turn (r q s : Int) (h0 : 0 ≤ r) (h1 : r < 4) (h2 : 0 ≤ q) (h3 : q < 4) : turnI r (turnI q s 0).1 (turnI q s 0).2 = turnI ((r + q) % 4) s 0 := by
  rcases (by omega : r = 0 ∨ r = 1 ∨ r = 2 ∨ r = 3) with rfl | rfl | rfl | rfl <;> rcases (by omega : q = 0 ∨ q = 1 ∨ q = 2 ∨ q = 3) with rfl | rfl | rfl | rfl <;> simp [turnI]
theorem turn_kp (k p n : Nat) (s : Int) : turnI ((-(k : Int) * p) % 4) (turnI (((k : Int) * n) % 4) s 0).1 (turnI (((k : Int) * n) % 4) s 0).2 = turnI (((k : Int) * (n - p)) % 4) s 0 := by
  rw [turnI_turn _ _ _ (by omega) (by omega) (by omega) (by omega)]
  congr 1
  rw [Int.mul_sub, Int.neg_mul]
  generalize (k : Int) * p = x
  generalize (k : Int) * n = y
  omega
theorem bq_step (l : List Int) (p n : Nat) (hp : p < 4) : (bq (fun j => (qa j l (n + 1)).1) (fun j => (qa j l (n + 1)).2) p 4).1 = (bq (fun j => (qa j l n).1) (fun j => (qa j l n).2) p 4).1 + if n % 4 = p then 4 * l.getD n 0 else 0 := by
  obtain ⟨s, hs⟩ : ∃ s, l.getD n 0 = s := ⟨_, rfl⟩
  have e : ∀ k : Nat, (turnI ((-(k : Int) * p) % 4) (qa k l (n + 1)).1 (qa k l (n + 1)).2).1 = (turnI ((-(k : Int) * p) % 4) (qa k l n).1 (qa k l n).2).1 + (turnI (((k : Int) * (n - p)) % 4) s 0).1 := fun k => by
    show (turnI _ (_ + _) (_ + _)).1 = _
    rw [turnI_add, hs]
    show _ + _ = _
    rw [turn_kp]
  have u : ∀ m, (bq (fun j => (qa j l m).1) (fun j => (qa j l m).2) p 4).1 = 0 + (turnI ((-((0 : Nat) : Int) * p) % 4) (qa (0 : Nat) l m).1 (qa (0 : Nat) l m).2).1 + (turnI ((-((1 : Nat) : Int) * p) % 4) (qa (1 : Nat) l m).1 (qa (1 : Nat) l m).2).1 + (turnI ((-((2 : Nat) : Int) * p) % 4) (qa (2 : Nat) l m).1 (qa (2 : Nat) l m).2).1 + (turnI ((-((3 : Nat) : Int) * p) % 4) (qa (3 : Nat) l m).1 (qa (3 : Nat) l m).2).1 := fun m => rfl
  rw [u, u, e, e, e, e, hs]
  have g0 : (((0 : Nat) : Int) * (n - p)) % 4 = 0 := by omega
  have g : (turnI ((((0 : Nat) : Int) * (n - p)) % 4) s 0).1 + (turnI ((((1 : Nat) : Int) * (n - p)) % 4) s 0).1 + (turnI ((((2 : Nat) : Int) * (n - p)) % 4) s 0).1 + (turnI ((((3 : Nat) : Int) * (n - p)) % 4) s 0).1 = if n % 4 = p then 4 * s else 0 := by
    obtain ⟨d, hd⟩ : ∃ d, (((n : Int) - p)) % 4 = d := ⟨_, rfl⟩
    have g1 : (((1 : Nat) : Int) * (n - p)) % 4 = d := by omega
    have g2 : (((2 : Nat) : Int) * (n - p)) % 4 = (2 * d) % 4 := by omega
    have g3 : (((3 : Nat) : Int) * (n - p)) % 4 = (3 * d) % 4 := by omega
    rw [g0, g1, g2, g3]
    rcases (by omega : d = 0 ∨ d = 1 ∨ d = 2 ∨ d = 3) with rfl | rfl | rfl | rfl
    · rw [if_pos (by omega)]; simp [turnI]; omega
    · rw [if_neg (by omega)]; simp [turnI]; omega
    · rw [if_neg (by omega)]; simp [turnI]; omega
    · rw [if_neg (by omega)]; simp [turnI]; omega
  omega
theorem bq_qa (l : List Int) (p n : Nat) (hp : p < 4) : (bq (fun j => (qa j l n).1) (fun j => (qa j l n).2) p 4).1 = 4 * sm l p n := by
  induction n with
  | zero => simp [bq, qa, turnI, sm]
  | succ n ih =>
    rw [bq_step l p n hp, ih]
    show _ = 4 * (sm l p n + _)
    split <;> omega

theorem sm_lim (l : List Int) (hl : Lim 2147483648 l) (p i : Nat) (hi : i ≤ 1000) : -(2147483648 * (i : Int)) ≤ sm l p i ∧ sm l p i ≤ 2147483648 * i := by
  induction i with
  | zero => simp [sm]
  | succ i ih =>
    have ih := ih (by omega)
    have h := getD_lim hl (by decide) i
    show -(2147483648 * ((i + 1 : Nat) : Int)) ≤ sm l p i + _ ∧ sm l p i + _ ≤ 2147483648 * ((i + 1 : Nat) : Int)
    split <;> omega
theorem qa_lim4 (l : List Int) (hl : Lim 2147483648 l) (hn : l.length ≤ 1000) : Lim4 (fun j => (qa j l l.length).1) (fun j => (qa j l l.length).2) := by
  intro j _
  have h := qa_lim (j : Int) 2147483648 l hl (by decide) l.length
  have e : (2147483648 : Int) * (l.length : Int) ≤ 2147483648000 := by omega
  simp only
  omega
theorem bq_div (l : List Int) (p : Nat) (hp : p < 4) : Int.tdiv (bq (fun j => (qa j l l.length).1) (fun j => (qa j l l.length).2) p 4).1 4 = sm l p l.length := by
  rw [bq_qa l p _ hp]
  exact Int.mul_tdiv_cancel_left _ (by decide)
theorem bq_congr (A B A' B' : Nat → Int) (p : Nat) (h : ∀ j, j < 4 → A j = A' j ∧ B j = B' j) : ∀ k, k ≤ 4 → bq A B p k = bq A' B' p k
  | 0, _ => rfl
  | k + 1, hk => by
    have ih := bq_congr A B A' B' p h k (by omega)
    show (_, _) = (_, _)
    rw [ih, (h k (by omega)).1, (h k (by omega)).2]

end Go.Proofs.Ytombolmicfjjpaa

/- Quarters, back. -/
namespace Go.Proofs.Ytombolmicfjjpaa
open Go.RowKit

/-- Four ints. -/
def cells4 (t : Nat → Int) : Array Value := #[.int .i64 (t 0), .int .i64 (t 1), .int .i64 (t 2), .int .i64 (t 3)]
theorem cells4_set (t : Nat → Int) (p : Nat) (hp : p < 4) (v : Int) : (cells4 t).setIfInBounds p (.int .i64 v) = cells4 (fun j => if j = p then v else t j) := by
  rcases (by omega : p = 0 ∨ p = 1 ∨ p = 2 ∨ p = 3) with rfl | rfl | rfl | rfl <;> rfl
theorem cells4_get (t : Nat → Int) (p : Nat) (hp : p < 4) : (cells4 t)[p]? = some (.int .i64 (t p)) := by
  rcases (by omega : p = 0 ∨ p = 1 ∨ p = 2 ∨ p = 3) with rfl | rfl | rfl | rfl <;> rfl
set_option maxHeartbeats 1000000 in
set_option maxRecDepth 100000 in
theorem index4 (z : Nat → Nat × Nat) (k : Nat) (hk : k < 4) : ∀ w, (Instr.index 106 (.agg #[.complex .f64 (z 0).1 (z 0).2, .complex .f64 (z 1).1 (z 1).2, .complex .f64 (z 2).1 (z 2).2, .complex .f64 (z 3).1 (z 3).2]) (.int .i64 k)).run Try.prog w = .ok (.complex .f64 (z k).1 (z k).2) w := by
  rcases (by omega : k = 0 ∨ k = 1 ∨ k = 2 ∨ k = 3) with rfl | rfl | rfl | rfl <;> exact fun _ => by kernel_rfl
theorem convI (x : Nat) (a : Int) (h : FI x a) (ha : Wh a) (w : World) : (convert 154 3 (.float .f64 x)).run Try.prog w = .ok (.int .i64 a) w := by
  refine run_convert_float_int w _ _ .f64 .i64 x a (by kernel_rfl) (by kernel_rfl) ?_
  unfold floatToIntVal
  rw [FI.toInt h]
  simp only
  unfold Wh at ha
  rw [if_pos]
  show -9223372036854775808 ≤ a ∧ a ≤ 9223372036854775807
  omega

set_option maxHeartbeats 1000000 in
set_option maxRecDepth 100000 in
theorem tal_back (z : Nat → Nat × Nat) (A B s : Nat → Int) (hz : ∀ j, j < 4 → FI (z j).1 (A j) ∧ FI (z j).2 (B j)) (hl : Lim4 A B) (hs : ∀ p, p < 4 → Int.tdiv (bq A B p 4).1 4 = s p) {W0 w : World} {K : Know} {L : List Res} (h : St W0 w K L) :
    Calls Try.prog 67 #[.agg #[.complex .f64 (z 0).1 (z 0).2, .complex .f64 (z 1).1 (z 1).2, .complex .f64 (z 2).1 (z 2).2, .complex .f64 (z 3).1 (z 3).2]] w fun en w' => en = .returned (.agg (cells4 s)) ∧ St W0 w' K L := by
  obtain ⟨fb, hfb⟩ : ∃ b, w.heap.size = b := ⟨_, rfl⟩
  obtain ⟨rb, hrb⟩ : ∃ b, fb + 1 = b := ⟨_, rfl⟩
  obtain ⟨sb, hsb⟩ : ∃ b, rb + 1 = b := ⟨_, rfl⟩
  have h1 := ((h.allocRaw #[.complex .f64 (z 0).1 (z 0).2, .complex .f64 (z 1).1 (z 1).2, .complex .f64 (z 2).1 (z 2).2, .complex .f64 (z 3).1 (z 3).2] 106).allocRaw #[.int .i64 0, .int .i64 0, .int .i64 0, .int .i64 0] 104).allocRaw #[.int .i64 0, .int .i64 0, .int .i64 0, .int .i64 0] 104
  simp only [World.size_alloc, hfb, hrb, hsb] at h1
  have H := Lib.hid h1
  have HZ := Lib.hid hz
  have HL := Lib.hid hl
  have HS := Lib.hid hs
  clear h h1 hz hl hs
  go_enter Try.func67, Try.ntmps67
  go_wp2
  go_loopw [4, 5, 6, 7, 8, 12] (fun _ _ _ _ iv _ wr => ∃ (p : Nat) (t : Nat → Int), p ≤ 4 ∧ iv = .int .i64 p ∧ Hid (∀ j, j < p → t j = s j) ∧ St W0 wr K (.raw sb (cells4 t) 104 :: .raw rb #[.int .i64 0, .int .i64 0, .int .i64 0, .int .i64 0] 104 :: .raw fb #[.complex .f64 (z 0).1 (z 0).2, .complex .f64 (z 1).1 (z 1).2, .complex .f64 (z 2).1 (z 2).2, .complex .f64 (z 3).1 (z 3).2] 106 :: L)) (fun _ _ _ _ iv _ _ => 4 - (intOf iv).toNat)
  case atStart => exact ⟨0, fun _ => 0, by decide, rfl, Lib.hid (fun j hj => by omega), H.out⟩
  case round =>
    obtain ⟨p, t, hp, rfl, HT, hst⟩ := hrel
    clear H
    have H := Lib.hid hst
    clear hst
    by_cases hlt : p < 4
    · have c0 : wr.cell? ⟨fb, 0, none⟩ = some (.complex .f64 (z 0).1 (z 0).2) := H.out.p2.rawCell 0
      have c1 : wr.cell? ⟨fb, 1, none⟩ = some (.complex .f64 (z 1).1 (z 1).2) := H.out.p2.rawCell 1
      have c2 : wr.cell? ⟨fb, 2, none⟩ = some (.complex .f64 (z 2).1 (z 2).2) := H.out.p2.rawCell 2
      have c3 : wr.cell? ⟨fb, 3, none⟩ = some (.complex .f64 (z 3).1 (z 3).2) := H.out.p2.rawCell 3
      have hpi : (p : Int) < 4 := by omega
      have hp0 : (0 : Int) ≤ (p : Int) := by omega
      go_wp2
      clear c0 c1 c2 c3
      go_loopw [5, 6, 7, 12] (fun sv _ _ iv wr => ∃ (k x y : Nat), k ≤ 4 ∧ iv = .int .i64 k ∧ sv = .complex .f64 x y ∧ Hid (FI x (bq A B p k).1) ∧ Hid (FI y (bq A B p k).2) ∧ St W0 wr K (.raw sb (cells4 t) 104 :: .raw rb #[.int .i64 0, .int .i64 0, .int .i64 0, .int .i64 0] 104 :: .raw fb #[.complex .f64 (z 0).1 (z 0).2, .complex .f64 (z 1).1 (z 1).2, .complex .f64 (z 2).1 (z 2).2, .complex .f64 (z 3).1 (z 3).2] 106 :: L)) (fun _ _ _ iv _ => 4 - (intOf iv).toNat)
      case atStart => exact ⟨0, 0, 0, by decide, rfl, rfl, Lib.hid FI.zero, Lib.hid FI.zero, H.out⟩
      case round =>
        obtain ⟨k, x, y, hk, rfl, rfl, FX, FY, hst⟩ := hrel
        clear H
        have H := Lib.hid hst
        clear hst
        by_cases hlk : k < 4
        · have hix := index4 z k hlk
          have hki : (k : Int) < 4 := by omega
          have hk0 : (0 : Int) ≤ (k : Int) := by omega
          obtain ⟨x1, hx1⟩ : ∃ x1, (z k).1 = x1 := ⟨_, rfl⟩
          obtain ⟨y1, hy1⟩ : ∃ y1, (z k).2 = y1 := ⟨_, rfl⟩
          rw [hx1, hy1] at hix
          have ZK := HZ.out k hlk
          rw [hx1, hy1] at ZK
          have FZ1 := Lib.hid ZK.1
          have FZ2 := Lib.hid ZK.2
          obtain ⟨m, hm⟩ : ∃ m, -(k : Int) = m := ⟨_, rfl⟩
          have hneg : IntKind.i64.wrap (-(k : Int)) = m := by rw [hm]; exact IntWalk.i64_in _ (by omega)
          have hneg2 : wrap64 (-(k : Int)) = m := by unfold wrap64; omega
          obtain ⟨r, hr⟩ : ∃ r, (m * (p : Int)) % 4 = r := ⟨_, rfl⟩
          obtain ⟨q, hq⟩ : ∃ q, IntKind.i64.wrap (m * (p : Int)) = q := ⟨_, rfl⟩
          have HQ := Lib.hid (show q % 4 = r by rw [← hr, ← hq, IntKind.wrap_i64]; generalize m * (p : Int) = z; omega)
          have hst1 : (bq A B p (k + 1)).1 = (bq A B p k).1 + (turnI r (A k) (B k)).1 := by rw [← hr, ← hm]; rfl
          have hst2 : (bq A B p (k + 1)).2 = (bq A B p k).2 + (turnI r (A k) (B k)).2 := by rw [← hr, ← hm]; rfl
          have hw := bq_wh A B HL.out p (k + 1) (by omega)
          have WX := Lib.hid (show Wh ((bq A B p k).1 + (turnI r (A k) (B k)).1) by rw [← hst1]; exact hw.1)
          have WY := Lib.hid (show Wh ((bq A B p k).2 + (turnI r (A k) (B k)).2) by rw [← hst2]; exact hw.2)
          have S1 := Lib.hid hst1
          have S2 := Lib.hid hst2
          clear hx1 hy1 ZK hm hr hst1 hst2 hw
          go_wp2_with (go_at_call 68; (with_reducible refine (tal_turn x1 y1 (A k) (B k) FZ1.out FZ2.out q r HQ.out H.out).mono ?_); rintro e_ wn ⟨x2, y2, rfl, hx2, hy2, h⟩; obtain ⟨x3, ex, fx⟩ := FI.add FX.out hx2 WX.out; obtain ⟨y3, ey, fy⟩ := FI.add FY.out hy2 WY.out; have hadd := run_cadd 105 ex ey; have FX3 := Lib.hid fx; have FY3 := Lib.hid fy; clear ex ey fx fy hx2 hy2; replace H := Lib.hid h; clear h)
          go_roundw
          case rel => exact ⟨k + 1, x3, y3, hlk, by go_num, rfl, Lib.hid (by rw [S1.out]; exact FX3.out), Lib.hid (by rw [S2.out]; exact FY3.out), H.out⟩
          case measure => first | (simp [intOf]; done) | (simp [intOf]; omega)
        · obtain rfl : k = 4 := by omega
          obtain ⟨N, hN⟩ : ∃ N, (bq A B p 4).1 = N := ⟨_, rfl⟩
          have hNl := (bq_lim A B HL.out p 4 (by omega)).1
          have hSp := HS.out p hlt
          rw [hN] at hNl hSp
          have hF := FX.out
          rw [hN] at hF
          have hcv := convI x N hF (by unfold Wh; omega)
          have hab : (s p).natAbs = N.natAbs / 4 := by rw [← hSp]; exact Int.natAbs_tdiv N 4
          have hsb : -1125899906842624 ≤ s p ∧ s p ≤ 1125899906842624 := by
            omega
          have hq1 : IntKind.i64.wrap (N.tdiv 4) = s p := by rw [hSp]; exact IntWalk.i64_in _ (by omega)
          have hq2 : wrap64 (N.tdiv 4) = s p := by rw [hSp]; unfold wrap64; omega
          have hf := H.out.rawFree p
          have hc := (H.out.rawCell p).trans (cells4_get t p hlt)
          have HN := Lib.hid hN
          clear hN hNl hF hSp hab hsb
          go_wp2
          go_roundw
          case rel => exact ⟨p + 1, fun j => if j = p then s p else t j, hlt, by go_num, Lib.hid (fun j hj => by
              by_cases hjp : j = p
              · rw [hjp]; simp
              · simp only [if_neg hjp]; exact HT.out j (by omega)), by rw [← cells4_set t p hlt]; exact H.out.rawSet p _⟩
          case measure => first | (simp [intOf]; done) | (simp [intOf]; omega)
    · obtain rfl : p = 4 := by omega
      have c0 : wr.cell? ⟨sb, 0, none⟩ = some (.int .i64 (t 0)) := H.out.rawCell 0
      have c1 : wr.cell? ⟨sb, 1, none⟩ = some (.int .i64 (t 1)) := H.out.rawCell 1
      have c2 : wr.cell? ⟨sb, 2, none⟩ = some (.int .i64 (t 2)) := H.out.rawCell 2
      have c3 : wr.cell? ⟨sb, 3, none⟩ = some (.int .i64 (t 3)) := H.out.rawCell 3
      have d0 : wr.cell? ⟨rb, 0, none⟩ = some (.int .i64 0) := H.out.p1.rawCell 0
      have d1 : wr.cell? ⟨rb, 1, none⟩ = some (.int .i64 0) := H.out.p1.rawCell 1
      have d2 : wr.cell? ⟨rb, 2, none⟩ = some (.int .i64 0) := H.out.p1.rawCell 2
      have d3 : wr.cell? ⟨rb, 3, none⟩ = some (.int .i64 0) := H.out.p1.rawCell 3
      have e0 : wr.frozen? ⟨rb, 0, none⟩ = false := H.out.p1.rawFree 0
      have e1 : wr.frozen? ⟨rb, 1, none⟩ = false := H.out.p1.rawFree 1
      have e2 : wr.frozen? ⟨rb, 2, none⟩ = false := H.out.p1.rawFree 2
      have e3 : wr.frozen? ⟨rb, 3, none⟩ = false := H.out.p1.rawFree 3
      go_wp2_with fail
      have hz : St W0 _ K (.raw rb #[.int .i64 (t 0), .int .i64 (t 1), .int .i64 (t 2), .int .i64 (t 3)] 104 :: .raw sb (cells4 t) 104 :: .raw fb #[.complex .f64 (z 0).1 (z 0).2, .complex .f64 (z 1).1 (z 1).2, .complex .f64 (z 2).1 (z 2).2, .complex .f64 (z 3).1 (z 3).2] 106 :: L) := (((H.out.p1.rawSet 0 (.int .i64 (t 0))).rawSet 1 (.int .i64 (t 1))).rawSet 2 (.int .i64 (t 2))).rawSet 3 (.int .i64 (t 3))
      refine bodyPost_ret (rc_cell_only rfl _ _ rb [.int .i64 (t 0), .int .i64 (t 1), .int .i64 (t 2), .int .i64 (t 3)] _ rfl (rc_range hz) Try.underlying104 rfl (by kernel_rfl)) rfl ?_
      refine ⟨?_, hz.drop.drop.drop⟩
      unfold cells4
      rw [← HT.out 0 (by decide), ← HT.out 1 (by decide), ← HT.out 2 (by decide), ← HT.out 3 (by decide)]

end Go.Proofs.Ytombolmicfjjpaa

/- Layer 24: points, turned. -/
namespace Go.Proofs.Ytombolmicfjjpaa
open Go.RowKit

theorem turnI_step (x y : Int) (i : Nat) (hi : i < 3) : turnI ((i : Int) + 1) x y = (-(turnI i x y).2, (turnI i x y).1) := by
  rcases (by omega : i = 0 ∨ i = 1 ∨ i = 2) with rfl | rfl | rfl <;> simp [turnI]
theorem turnI_le (r x y M : Int) (hx : -M ≤ x ∧ x ≤ M) (hy : -M ≤ y ∧ y ≤ M) : (-M ≤ (turnI r x y).1 ∧ (turnI r x y).1 ≤ M) ∧ (-M ≤ (turnI r x y).2 ∧ (turnI r x y).2 ≤ M) := turnI_lim2 r x y M hx hy
set_option maxHeartbeats 1000000 in
set_option maxRecDepth 100000 in
theorem l24_turned (x y q : Int) (r : Nat) (hr : q % 4 = r) (hx : -1099511627776 ≤ x ∧ x ≤ 1099511627776) (hy : -1099511627776 ≤ y ∧ y ≤ 1099511627776) {W0 w : World} {K : Know} {L : List Res} (h : St W0 w K L) :
    Calls Try.prog 64 #[.int .i64 x, .int .i64 y, .int .i64 q] w fun en w' => en = .returned (.tuple #[.int .i64 (turnI (r : Int) x y).1, .int .i64 (turnI (r : Int) x y).2]) ∧ St W0 w' K L := by
  have H := Lib.hid h
  have hr4 : r < 4 := by omega
  obtain ⟨m, hm⟩ : ∃ m, q.tmod 4 = m := ⟨_, rfl⟩
  have hm2 : m = q % 4 ∨ m = q % 4 - 4 := by rw [← hm, Int.tmod_eq_emod]; split <;> simp <;> omega
  obtain ⟨n, hn⟩ : ∃ n, m + 4 = n := ⟨_, rfl⟩
  have e1 : wrap64 (m + 4) = n := by unfold wrap64; omega
  have e2 : IntKind.i64.wrap (m + 4) = n := by rw [hn]; exact IntWalk.i64_in _ (by omega)
  have e3 : n.tmod 4 = (r : Int) := by rw [Int.tmod_eq_emod_of_nonneg (by omega)]; omega
  have hx2 := Lib.hid hx
  have hy2 := Lib.hid hy
  clear h hr hm2 hn hx hy
  go_enter Try.func64, Try.ntmps64
  go_wp2
  clear hm e1 e2 e3
  go_loopw [0, 1, 12] (fun xv yv iv wr => ∃ i : Nat, i ≤ r ∧ iv = .int .i64 i ∧ xv = .int .i64 (turnI (i : Int) x y).1 ∧ yv = .int .i64 (turnI (i : Int) x y).2 ∧ St W0 wr K L) (fun _ _ iv _ => r - (intOf iv).toNat)
  case atStart => exact ⟨0, Nat.zero_le _, rfl, by simp [turnI], by simp [turnI], H.out⟩
  case round =>
    obtain ⟨i, hi, rfl, rfl, rfl, hst⟩ := hrel
    clear H
    have H := Lib.hid hst
    clear hst
    by_cases hlt : i < r
    · have hs := turnI_step x y i (by omega)
      have hb := turnI_le i x y _ hx2.out hy2.out
      obtain ⟨⟨a, c⟩, hac⟩ : ∃ z, turnI (i : Int) x y = z := ⟨_, rfl⟩
      rw [hac] at hs hb ⊢
      simp only at hs hb ⊢
      have hii : (i : Int) < (r : Int) := by omega
      have n1 : wrap64 (-c) = -c := by unfold wrap64; omega
      have n2 : IntKind.i64.wrap (-c) = -c := IntWalk.i64_in _ (by omega)
      have HS := Lib.hid hs
      clear hs hb hac
      go_wp2
      go_roundw
      case rel => exact ⟨i + 1, hlt, by go_num, by rw [Int.natCast_succ, HS.out], by rw [Int.natCast_succ, HS.out], H.out⟩
      case measure => first | (simp [intOf]; done) | (simp [intOf]; omega)
    · obtain rfl : i = r := by omega
      go_wp2
      go_ret2
      exact ⟨rfl, H.out⟩
set_option maxHeartbeats 1000000 in
set_option maxRecDepth 100000 in
theorem l24_whole (x y : Int) {W0 w : World} {K : Know} {L : List Res} (h : St W0 w K L) :
    Calls Try.prog 65 #[.int .i64 x, .int .i64 y] w fun en w' => en = .returned (.complex .f64 (floatOfInt .f64 x) (floatOfInt .f64 y)) ∧ St W0 w' K L := by
  have H := Lib.hid h
  clear h
  go_enter Try.func65, Try.ntmps65
  go_wp2
  go_ret
  exact ⟨rfl, H.out⟩
theorem ceq_run (T : TypeId) {a b c d : Nat} {p q u v : Int} (ha : FI a p) (hb : FI b q) (hc : FI c u) (hd : FI d v) (t : Bool) (h : decide (p = u ∧ q = v) = t) (w : World) : (binOp .eql T (.complex .f64 a b) (.complex .f64 c d)).run Try.prog w = .ok (.bool t) w := by
  show (Op.complexOp .eql .f64 a b c d).run Try.prog w = _
  have h1 : (FloatKind.f64.format.order a c == some .eq) = decide (p = u) := FI.eq ha hc
  have h2 : (FloatKind.f64.format.order b d == some .eq) = decide (q = v) := FI.eq hb hd
  have e : t = (decide (p = u) && decide (q = v)) := by rw [← h]; simp
  simp [Op.complexOp, Op.Complex.cmp, Op.floatCmp, h1, h2, e, asBool]
theorem cne_run (T : TypeId) {a b c d : Nat} {p q u v : Int} (ha : FI a p) (hb : FI b q) (hc : FI c u) (hd : FI d v) (t : Bool) (h : (!decide (p = u ∧ q = v)) = t) (w : World) : (binOp .neq T (.complex .f64 a b) (.complex .f64 c d)).run Try.prog w = .ok (.bool t) w := by
  show (Op.complexOp .neq .f64 a b c d).run Try.prog w = _
  have h1 : (FloatKind.f64.format.order a c == some .eq) = decide (p = u) := FI.eq ha hc
  have h2 : (FloatKind.f64.format.order b d == some .eq) = decide (q = v) := FI.eq hb hd
  have e : t = !(decide (p = u) && decide (q = v)) := by rw [← h]; simp
  simp [Op.complexOp, Op.Complex.cmp, Op.floatCmp, h1, h2, e, asBool]
theorem FI_3 : FI 4613937818241073152 3 := FI.conv 3 (by unfold Wh; decide)
theorem FI_1 : FI 4607182418800017408 1 := FI.conv 1 (by unfold Wh; decide)
theorem FI_m1 : FI 13830554455654793216 (-1) := FI.neg FI_1

end Go.Proofs.Ytombolmicfjjpaa

/- Layer 24: three sizes. -/
namespace Go.Proofs.Ytombolmicfjjpaa
open Go.RowKit

theorem tal_quarterN (k : Int) (l : List Int) (n : Nat) (hn : l.length = n) (q0 : Option Addr) (cap : Nat) (hl : Lim 2147483648 l) (hn2 : n ≤ 1000) {W0 w : World} {K : Know} {L : List Res} (hk : K.has (Know.flat RIt (.slice q0 n cap) 1 l)) (h : St W0 w K L) :
    Calls Try.prog 66 #[.int .i64 k, .slice q0 n cap] w fun en w' => ∃ x y, en = .returned (.complex .f64 x y) ∧ FI x (qa k l n).1 ∧ FI y (qa k l n).2 ∧ St W0 w' K L := by
  subst hn
  exact tal_quarter k l q0 cap hl hn2 hk h
theorem tal_quartersN (l : List Int) (n : Nat) (hn : l.length = n) (q0 : Option Addr) (cap : Nat) (hl : Lim 2147483648 l) (hn2 : n ≤ 1000) {W0 w : World} {K : Know} {L : List Res} (hk : K.has (Know.flat RIt (.slice q0 n cap) 1 l)) (h : St W0 w K L) :
    Calls Try.prog 63 #[.slice q0 n cap] w fun en w' => ∃ z : Nat → Nat × Nat, en = .returned (.agg #[.complex .f64 (z 0).1 (z 0).2, .complex .f64 (z 1).1 (z 1).2, .complex .f64 (z 2).1 (z 2).2, .complex .f64 (z 3).1 (z 3).2]) ∧ (∀ j, j < 4 → FI (z j).1 (qa j l n).1 ∧ FI (z j).2 (qa j l n).2) ∧ St W0 w' K L := by
  subst hn
  exact tal_quarters l q0 cap hl hn2 hk h
theorem tal_backN (l : List Int) (n : Nat) (hn : l.length = n) (z : Nat → Nat × Nat) (c : Array Value) (hc : cells4 (fun p => sm l p n) = c) (hl : Lim 2147483648 l) (hn2 : n ≤ 1000) (hz : ∀ j, j < 4 → FI (z j).1 (qa j l n).1 ∧ FI (z j).2 (qa j l n).2) {W0 w : World} {K : Know} {L : List Res} (h : St W0 w K L) :
    Calls Try.prog 67 #[.agg #[.complex .f64 (z 0).1 (z 0).2, .complex .f64 (z 1).1 (z 1).2, .complex .f64 (z 2).1 (z 2).2, .complex .f64 (z 3).1 (z 3).2]] w fun en w' => en = .returned (.agg c) ∧ St W0 w' K L := by
  subst hn
  subst hc
  exact tal_back z _ _ (fun p => sm l p l.length) hz (qa_lim4 l hl hn2) (fun p hp => bq_div l p hp) h
set_option maxHeartbeats 1000000 in
set_option maxRecDepth 100000 in
theorem eq4_run (a b c d : Int) (w : World) : (Op.equalIn 10000 104 (.agg #[.int .i64 a, .int .i64 b, .int .i64 c, .int .i64 d]) (.agg #[.int .i64 a, .int .i64 b, .int .i64 c, .int .i64 d])).run Try.prog w = .ok true w := by
  obtain ⟨i, hi⟩ : ∃ i, Try.prog.info? 3 = some i := Option.isSome_iff_exists.1 (by kernel_rfl)
  have hc : Try.prog.cellsOf 3 = 1 := by kernel_rfl
  have r4 : List.range 4 = [0, 1, 2, 3] := rfl
  rw [run_equalIn_array w 9999 _ _ Try.underlying104 hi, hc, r4]
  simp [Op.eqItems, part, isAgg, run_underlying Try.underlying3, run_equalIn_int _ _ _ .i64 .i64 _ _ Try.underlying3]
theorem s24_q : qa 1 [5, 3, 2] 3 = (3, 3) := by decide
theorem s24_lim1 : Lim 2147483648 [5, 3, 2] := by unfold Lim; decide
theorem s24_lim2 : Lim 2147483648 [5, 3, 2, 0, 4] := by unfold Lim; decide
theorem s24_b : cells4 (fun p => sm [5, 3, 2, 0, 4] p 5) = #[.int .i64 9, .int .i64 3, .int .i64 2, .int .i64 0] := rfl
set_option maxHeartbeats 1000000 in
set_option maxRecDepth 100000 in
theorem speaks24 {W0 w : World} {K : Know} {L : List Res} (h : St W0 w K L) :
    Calls Try.prog 62 #[] w fun en w' => en = .returned (.bool true) ∧ ∃ K2 : Know, K2.has K ∧ St W0 w' K2 L := by
  have h1 := (show St W0 _ (Know.and _ (Know.flat RIt (.slice (some ⟨_, 0, none⟩) 3 3) 1 [5, 3, 2])) _ from (h.rowLit [.int .i64 5, .int .i64 3, .int .i64 2] 3 1 3 rfl (by decide)).freezeRow (R := RIt) (l := [5, 3, 2]) (f := fun x => [.int .i64 x]) (fun x _ => ⟨rfl, rfl⟩))
  have H := Lib.hid h1
  have he4 := eq4_run 9 3 2 0
  clear h h1
  go_enter Try.func62, Try.ntmps62
  go_wp2_with (first
    | (go_at_call 66; (with_reducible refine (tal_quarterN 1 [5, 3, 2] 3 rfl _ _ s24_lim1 (by decide) (Know.has_right (Know.has_refl _)) H.out).mono ?_); rintro e_ wn ⟨x, y, rfl, hx, hy, h⟩; rw [s24_q] at hx hy; have hc1 := ceq_run 105 hx hy FI_3 FI_3 true rfl; clear hx hy; replace H := Lib.hid h; clear h)
    | (go_at_call 68; (with_reducible refine (tal_turn 4607182418800017408 0 1 0 FI_1 FI.zero (-1) 3 (by decide) H.out).mono ?_); rintro e_ wn ⟨x, y, rfl, hx, hy, h⟩; have hc2 := ceq_run 105 hx hy FI.zero FI_m1 true rfl; clear hx hy; have h := (show St W0 _ (Know.and _ (Know.flat RIt (.slice (some ⟨_, 0, none⟩) 5 5) 1 [5, 3, 2, 0, 4])) _ from (h.rowLit [.int .i64 5, .int .i64 3, .int .i64 2, .int .i64 0, .int .i64 4] 3 1 5 rfl (by decide)).freezeRow (R := RIt) (l := [5, 3, 2, 0, 4]) (f := fun x => [.int .i64 x]) (fun x _ => ⟨rfl, rfl⟩)); replace H := Lib.hid h; clear h)
    | (go_at_call 63; (with_reducible refine (tal_quartersN [5, 3, 2, 0, 4] 5 rfl _ _ s24_lim2 (by decide) (Know.has_right (Know.has_refl _)) H.out).mono ?_); rintro e_ wn ⟨z, rfl, hz, h⟩; have HZ := Lib.hid hz; clear hz; replace H := Lib.hid h; clear h)
    | (go_at_call 67; (with_reducible refine (tal_backN [5, 3, 2, 0, 4] 5 rfl z _ s24_b s24_lim2 (by decide) HZ.out H.out).mono ?_); rintro e_ wn ⟨rfl, h⟩; replace H := Lib.hid h; clear h))
  go_ret
  exact ⟨rfl, _, Know.has_left (Know.has_left (Know.has_refl _)), H.out⟩

end Go.Proofs.Ytombolmicfjjpaa

/- Layer 24, walked: TallyQuarters (what it stands on). -/
namespace Go.Proofs.Ytombolmicfjjpaa
open Go.RowKit

def RI32 (cs : List Value) (x : Int) : Prop := cs = [.int .i32 x]
/-- Sizes, as they are looked at. -/
def cutL (l : List Int) : List Int := l.map fun s => s.tmod 1073741824
theorem tmod_lim (s : Int) : -1073741824 ≤ s.tmod 1073741824 ∧ s.tmod 1073741824 ≤ 1073741824 := by
  have h : (s.tmod 1073741824).natAbs = s.natAbs % 1073741824 := Int.natAbs_tmod s 1073741824
  omega
theorem cutL_lim (l : List Int) : Lim 2147483648 (cutL l) := by
  intro x hx
  obtain ⟨s, _, rfl⟩ := List.mem_map.1 hx
  have := tmod_lim s
  omega
theorem cutL_len (l : List Int) : (cutL l).length = l.length := List.length_map _
theorem cutL_get (l : List Int) (i : Nat) (hi : i < l.length) (hi2 : i < (cutL l).length) : (cutL l)[i] = l[i].tmod 1073741824 := List.getElem_map _
theorem cutL_getD (l : List Int) (i : Nat) (hi : i < l.length) : (cutL l).getD i 0 = l[i].tmod 1073741824 := by
  rw [List.getD_eq_getElem?_getD, List.getElem?_eq_getElem (by rw [cutL_len]; exact hi), cutL_get l i hi]
  rfl
theorem elem_int : ElemT Try.prog 3 (.int .i64 0) 1 8 := elemT_of (by kernel_rfl) rfl (by decide)
def cellsC (z : Nat → Nat × Nat) : Array Value := #[.complex .f64 (z 0).1 (z 0).2, .complex .f64 (z 1).1 (z 1).2, .complex .f64 (z 2).1 (z 2).2, .complex .f64 (z 3).1 (z 3).2]
theorem cellsC_get (z : Nat → Nat × Nat) (p : Nat) (hp : p < 4) : (#[.complex .f64 (z 0).1 (z 0).2, .complex .f64 (z 1).1 (z 1).2, .complex .f64 (z 2).1 (z 2).2, .complex .f64 (z 3).1 (z 3).2] : Array Value)[p]? = some (.complex .f64 (z p).1 (z p).2) := by
  rcases (by omega : p = 0 ∨ p = 1 ∨ p = 2 ∨ p = 3) with rfl | rfl | rfl | rfl <;> rfl
theorem tmod4_nat (i : Nat) : (i : Int).tmod 4 = ((i % 4 : Nat) : Int) := by
  rw [Int.tmod_eq_emod_of_nonneg (by omega)]
  omega
theorem tmod4_emod (k : Int) : (k.tmod 4) % 4 = k % 4 := by
  rw [Int.tmod_eq_emod]
  split <;> simp <;> omega

set_option maxHeartbeats 1000000 in
set_option maxRecDepth 100000 in
theorem tq_long (l : List Int) (q : Option Addr) (cap : Nat) (k a b : Int) {W0 w : World} {K : Know} (hl : 200 < l.length) (h : St W0 w K []) :
    Calls Try.prog 12 #[.slice q l.length cap, .int .i64 k, .agg #[.int .i32 a, .int .i32 b]] w fun en w' => en = .returned (.bool true) ∧ Below W0.heap.size W0 w' := by
  have H := Lib.hid (h.allocRaw #[.int .i32 a, .int .i32 b] 103)
  have hlen : decide ((200 : Int) < (l.length : Int)) = true := decide_eq_true (by omega)
  clear h hl
  go_enter Try.func12, Try.ntmps12
  go_wp2_with (go_at_call 62; (with_reducible refine (speaks24 H.out).mono ?_); rintro e_ wn ⟨rfl, K2, hk2, h⟩; clear hk2; replace H := Lib.hid h; clear h)
  go_ret
  exact ⟨rfl, H.out.below⟩

end Go.Proofs.Ytombolmicfjjpaa
