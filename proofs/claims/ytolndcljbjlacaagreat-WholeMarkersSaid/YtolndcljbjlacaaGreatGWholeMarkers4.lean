/- A text. -/
import Derived.Test.YtolndcljbjlacaaGreatGWholeMarkers1
import Derived.Test.YtolndcljbjlacaaGreatSep
import Derived.Deep.MidRow
import Derived.Test.YtolndcljbjlacaaGreatGWholeMarkers3
import Derived.Deep.RegionHeld3
import Derived.Deep.DeepCutAuto
import Derived.Test.YtolndcljbjlacaaGreatRec8
import Derived.Test.YtolndcljbjlacaaGreatRef06b
import Derived.Test.YtolndcljbjlacaaGreatL06F
import Derived.Test.YtolndcljbjlacaaGreatGWholeMarkers2
import Derived.Test.YtolndcljbjlacaaGreatRecs
import Derived.Test.YtolndcljbjlacaaGreatL06W
/- A text. -/
namespace Go.Proofs.YtolndcljbjlacaaGreat
open Go.RowKit

theorem rc_cell_tmp {P : Program} {fn : Func} {p t : Tmp} {ty : TypeId} (h : fn.results = #[.cell p ty, .tmp t]) (tmps : Array Value) (w : World) (b : Nat) (cs : List Value) (d : TypeDesc)
    (hp : tmps.getD p undef = .pointer (some ⟨b, 0, none⟩)) (hc : w.rangeAt b 0 cs) (hu : P.underlying ty = some d) (hd : d.isRow = true) (hi : (P.info? ty).map (·.size) = some cs.length) :
    (results fn tmps).run P w = .ok (.tuple #[.agg cs.toArray, tmps.getD t undef]) w := by
  have hp' : tmps[p]?.getD undef = .pointer (some ⟨b, 0, none⟩) := by simpa using hp
  simp [results, h, hp', asAddr, run_loadVar_mid w b 0 ty cs d hc hu hd hi]
theorem rc_cell_only {P : Program} {fn : Func} {p : Tmp} {ty : TypeId} (h : fn.results = #[.cell p ty]) (tmps : Array Value) (w : World) (b : Nat) (cs : List Value) (d : TypeDesc)
    (hp : tmps.getD p undef = .pointer (some ⟨b, 0, none⟩)) (hc : w.rangeAt b 0 cs) (hu : P.underlying ty = some d) (hd : d.isRow = true) (hi : (P.info? ty).map (·.size) = some cs.length) :
    (results fn tmps).run P w = .ok (.agg cs.toArray) w := by
  have hp' : tmps[p]?.getD undef = .pointer (some ⟨b, 0, none⟩) := by simpa using hp
  simp [results, h, hp', asAddr, run_loadVar_mid w b 0 ty cs d hc hu hd hi]
theorem rc_range {W0 w : World} {K : Know} {L : List Res} {b : Nat} {c : List Value} {T : TypeId} (h : St W0 w K (.raw b c.toArray T :: L)) : w.rangeAt b 0 c := by
 intro j v hv
 rw [Nat.zero_add, h.rawCell j]
 simpa using hv
theorem raw5e {W0 w : World} {K : Know} {L : List Res} {b : Nat} {a0 a1 a2 a3 a4 : Value} {T : TypeId} (h : St W0 w K (.raw b #[a0, a1, a2, a3, a4] T :: L)) :
  (w.cell? ⟨b, 0, none⟩ = some a0 ∧ w.cell? ⟨b, 1, none⟩ = some a1 ∧ w.cell? ⟨b, 2, none⟩ = some a2 ∧ w.cell? ⟨b, 3, none⟩ = some a3 ∧ w.cell? ⟨b, 4, none⟩ = some a4) ∧
  (w.frozen? ⟨b, 0, none⟩ = false ∧ w.frozen? ⟨b, 1, none⟩ = false ∧ w.frozen? ⟨b, 2, none⟩ = false ∧ w.frozen? ⟨b, 3, none⟩ = false ∧ w.frozen? ⟨b, 4, none⟩ = false) :=
 ⟨⟨(h.rawCell 0).trans rfl, (h.rawCell 1).trans rfl, (h.rawCell 2).trans rfl, (h.rawCell 3).trans rfl, (h.rawCell 4).trans rfl⟩, h.rawFree 0, h.rawFree 1, h.rawFree 2, h.rawFree 3, h.rawFree 4⟩
theorem St.sets12 {W0 w : World} {K : Know} {L : List Res} {b : Nat} {T : TypeId} {a0 a1 a2 a3 a4 a5 a6 a7 a8 a9 a10 a11 : Value} (v0 v1 v2 v3 v4 v5 v6 v7 v8 v9 v10 v11 : Value) (h : St W0 w K (.raw b #[a0, a1, a2, a3, a4, a5, a6, a7, a8, a9, a10, a11] T :: L)) : St W0 ((((((((((((w.setCell ⟨b, 0, none⟩ v0).setCell ⟨b, 1, none⟩ v1).setCell ⟨b, 2, none⟩ v2).setCell ⟨b, 3, none⟩ v3).setCell ⟨b, 4, none⟩ v4).setCell ⟨b, 5, none⟩ v5).setCell ⟨b, 6, none⟩ v6).setCell ⟨b, 7, none⟩ v7).setCell ⟨b, 8, none⟩ v8).setCell ⟨b, 9, none⟩ v9).setCell ⟨b, 10, none⟩ v10).setCell ⟨b, 11, none⟩ v11) K (.raw b #[v0, v1, v2, v3, v4, v5, v6, v7, v8, v9, v10, v11] T :: L) := by
 have h : St W0 _ K (.raw b #[v0, a1, a2, a3, a4, a5, a6, a7, a8, a9, a10, a11] T :: L) := h.rawSet 0 v0
 have h : St W0 _ K (.raw b #[v0, v1, a2, a3, a4, a5, a6, a7, a8, a9, a10, a11] T :: L) := h.rawSet 1 v1
 have h : St W0 _ K (.raw b #[v0, v1, v2, a3, a4, a5, a6, a7, a8, a9, a10, a11] T :: L) := h.rawSet 2 v2
 have h : St W0 _ K (.raw b #[v0, v1, v2, v3, a4, a5, a6, a7, a8, a9, a10, a11] T :: L) := h.rawSet 3 v3
 have h : St W0 _ K (.raw b #[v0, v1, v2, v3, v4, a5, a6, a7, a8, a9, a10, a11] T :: L) := h.rawSet 4 v4
 have h : St W0 _ K (.raw b #[v0, v1, v2, v3, v4, v5, a6, a7, a8, a9, a10, a11] T :: L) := h.rawSet 5 v5
 have h : St W0 _ K (.raw b #[v0, v1, v2, v3, v4, v5, v6, a7, a8, a9, a10, a11] T :: L) := h.rawSet 6 v6
 have h : St W0 _ K (.raw b #[v0, v1, v2, v3, v4, v5, v6, v7, a8, a9, a10, a11] T :: L) := h.rawSet 7 v7
 have h : St W0 _ K (.raw b #[v0, v1, v2, v3, v4, v5, v6, v7, v8, a9, a10, a11] T :: L) := h.rawSet 8 v8
 have h : St W0 _ K (.raw b #[v0, v1, v2, v3, v4, v5, v6, v7, v8, v9, a10, a11] T :: L) := h.rawSet 9 v9
 have h : St W0 _ K (.raw b #[v0, v1, v2, v3, v4, v5, v6, v7, v8, v9, v10, a11] T :: L) := h.rawSet 10 v10
 have h : St W0 _ K (.raw b #[v0, v1, v2, v3, v4, v5, v6, v7, v8, v9, v10, v11] T :: L) := h.rawSet 11 v11
 exact h
def endOf (b : BatS) : Int × Int × Int × Int × Int × Bool :=
  if b.ctl = true ∧ batErr b = 0 then match b.recs with
    | x :: _ => (b.prod, b.epoch, (ctlOf x).1, b.first + x.time, (ctlOf x).2.1, true)
    | [] => (0, 0, 0, 0, 0, false)
  else (0, 0, 0, 0, 0, false)
theorem rowsC_time {first last : Int} {x : RecS} {t : List RecS} {ah g g2 : Int} (h : rowsC first last (x :: t) ah g = .ok g2) : -first ≤ x.time ∧ x.time ≤ 9223372036854775807 - first := by
 rw [rowsC_cons] at h
 by_cases c1 : x.off ≤ ah ∨ last < x.off
 · rw [if_pos c1] at h; cases h
 rw [if_neg c1] at h
 by_cases c2 : x.time < -first ∨ 9223372036854775807 - first < x.time
 · rw [if_pos c2] at h; cases h
 omega
theorem batErr_ctl (b : BatS) (h : batErr b = 0) (hc : b.ctl = true) : ∃ x, b.recs = [x] ∧ (ctlOf x).2.2 = 0 ∧ (-b.first ≤ x.time ∧ x.time ≤ 9223372036854775807 - b.first) ∧ 0 ≤ b.first := by
 unfold batErr at h
 by_cases p1 : b.placed = false
 · rw [if_pos p1] at h; cases h
 rw [if_neg p1] at h
 by_cases p2 : b.ctl = true ∧ b.txn = false
 · rw [if_pos p2] at h; cases h
 rw [if_neg p2] at h
 by_cases p3 : b.signed = false
 · rw [if_pos p3] at h; cases h
 rw [if_neg p3] at h
 by_cases p4 : b.ctl = true ∧ b.recs.length ≠ 1
 · rw [if_pos p4] at h; cases h
 rw [if_neg p4] at h
 by_cases p5 : recsC b.recs ≠ 0
 · rw [if_pos p5] at h; exact absurd h p5
 rw [if_neg p5] at h
 by_cases p6 : b.ctl = true ∧ b.ends ≠ 0
 · rw [if_pos p6] at h; exact absurd h p6.2
 rw [if_neg p6] at h
 have hl : b.recs.length = 1 := by
  by_cases hh : b.recs.length = 1
  · exact hh
  · exact absurd ⟨hc, hh⟩ p4
 obtain ⟨x, hx⟩ := List.length_eq_one_iff.1 hl
 have hp : b.placed = true := by cases hh : b.placed with
  | false => exact absurd hh p1
  | true => rfl
 have hp2 := (of_decide_eq_true hp).2.2.2.2.1
 have he : b.ends = 0 := by
  by_cases hh : b.ends = 0
  · exact hh
  · exact absurd ⟨hc, hh⟩ p6
 unfold BatS.ends at he
 rw [hx] at he
 refine ⟨x, hx, he, ?_, hp2⟩
 unfold BatS.rows at h
 rw [hx] at h
 cases hr : rowsC b.first b.last [x] (-1) b.first with
 | error e =>
  rw [hr] at h
  have h : e = 0 := h
  subst h
  rw [rowsC_cons] at hr
  by_cases c1 : x.off ≤ -1 ∨ b.last < x.off
  · rw [if_pos c1] at hr; cases hr
  rw [if_neg c1] at hr
  by_cases c2 : x.time < -b.first ∨ 9223372036854775807 - b.first < x.time
  · rw [if_pos c2] at hr; cases hr
  rw [if_neg c2] at hr
  cases hr
 | ok g => exact rowsC_time hr
theorem setAll_get : ∀ (vs : List Value) (o : Nat) (c : Array Value) (i : Nat), (setAll c o vs)[i]? = if o ≤ i ∧ i < o + vs.length ∧ i < c.size then vs[i - o]? else c[i]?
  | [], o, c, i => by
    show c[i]? = _
    rw [if_neg (by simp; omega)]
  | v :: r, o, c, i => by
    show (setAll (c.setIfInBounds o v) (o + 1) r)[i]? = _
    rw [setAll_get r (o + 1) _ i]
    simp only [Array.size_setIfInBounds, List.length_cons]
    by_cases h1 : o + 1 ≤ i ∧ i < o + 1 + r.length ∧ i < c.size
    · rw [if_pos h1, if_pos (by omega)]
      obtain ⟨k, rfl⟩ : ∃ k, i = o + 1 + k := ⟨i - (o + 1), by omega⟩
      rw [show o + 1 + k - (o + 1) = k by omega, show o + 1 + k - o = k + 1 by omega]
      rfl
    · rw [if_neg h1, Array.getElem?_setIfInBounds]
      by_cases h2 : o = i
      · subst h2
        rw [if_pos rfl]
        by_cases h3 : o < c.size
        · rw [if_pos h3, if_pos (by omega), Nat.sub_self]; rfl
        · rw [if_neg h3, if_neg (by omega), Array.getElem?_eq_none (by omega)]
      · rw [if_neg h2, if_neg (by omega)]
theorem setAll_all (c cs : Array Value) (h : c.size = cs.size) : setAll c 0 cs.toList = cs := by
 refine Array.ext_getElem? fun i => ?_
 rw [setAll_get]
 by_cases h1 : i < cs.size
 · rw [if_pos (by simp; omega), Nat.sub_zero, Array.getElem?_toList]
 · rw [if_neg (by simp; omega), Array.getElem?_eq_none (by omega), Array.getElem?_eq_none (by omega)]
theorem attr_ofE (base leader : Int) (app txn ctl : Bool) (last first maxt prod epoch sq : Int)  (q : Option Addr) (n cap : Nat) {W0 w : World} {K : Know} {L : List Res} (h : St W0 w K L) :
 Calls Tryz.prog 67 #[.agg #[.int .i64 base, .int .i64 leader, .bool app, .bool txn, .bool ctl, .int .i64 last, .int .i64 first, .int .i64 maxt, .int .i64 prod, .int .i64 epoch, .int .i64 sq, .slice q n cap]] w fun en w' => en = .returned (.int .i64 (attrN app txn ctl 3)) ∧ St W0 w' K L := attr_of base leader app txn ctl last first maxt prod epoch sq q n cap h
set_option maxHeartbeats 2000000 in
set_option maxRecDepth 100000 in
theorem bat_head (base leader : Int) (app txn ctl : Bool) (last first maxt prod epoch sq : Int) (l : List (RecS × Value)) (q : Option Addr) (cap : Nat) (size : Nat) (hsz : size ≤ 140737488355328) {W0 w : World} {K : Know} {L : List Res} (h : St W0 w K L) :
   Calls Tryz.prog 36 #[.agg #[.int .i64 base, .int .i64 leader, .bool app, .bool txn, .bool ctl, .int .i64 last, .int .i64 first, .int .i64 maxt, .int .i64 prod, .int .i64 epoch, .int .i64 sq, .slice q l.length cap], .int .i64 size] w fun en w' => en = .returned (.agg #[.int .i64 base, .int .i64 (49 + size), .int .i64 leader, .int .i64 0, .int .i64 (attrN app txn ctl 3), .int .i64 last, .int .i64 first, .int .i64 maxt, .int .i64 prod, .int .i64 epoch, .int .i64 sq, .int .i64 l.length]) ∧ St W0 w' K L := by
 have g1 := h.allocRaw #[.int .i64 base, .int .i64 leader, .bool app, .bool txn, .bool ctl, .int .i64 last, .int .i64 first, .int .i64 maxt, .int .i64 prod, .int .i64 epoch, .int .i64 sq, .slice q l.length cap] 26
 have g2 := (g1.allocRaw #[.int .i64 0, .int .i64 0, .int .i64 0, .int .i64 0, .int .i64 0, .int .i64 0, .int .i64 0, .int .i64 0, .int .i64 0, .int .i64 0, .int .i64 0, .int .i64 0] 72).p1
 obtain ⟨hb, hhb⟩ : ∃ b, w.heap.size = b := ⟨_, rfl⟩
 obtain ⟨rb, hrb⟩ : ∃ b, hb + 1 = b := ⟨_, rfl⟩
 simp only [World.size_alloc, hhb, hrb] at g2
 have H := Lib.hid g2
 have w1 : IntKind.i64.wrap (49 + (size : Int)) = 49 + (size : Int) := IntWalk.i64_in _ (by omega)
 clear g1 g2 h hsz
 go_enter Tryz.func36, Tryz.ntmps36
 go_upto_region 1 with (fail)
 have hs := H.out.drew
 refine wp_region_held_drew (S := fun w' => w'.cell? ⟨hb, 0, none⟩ = some (.int .i64 base) ∧ w'.cell? ⟨hb, 1, none⟩ = some (.int .i64 leader) ∧ w'.cell? ⟨hb, 2, none⟩ = some (.bool app) ∧ w'.cell? ⟨hb, 3, none⟩ = some (.bool txn) ∧ w'.cell? ⟨hb, 4, none⟩ = some (.bool ctl) ∧ w'.cell? ⟨hb, 5, none⟩ = some (.int .i64 last) ∧ w'.cell? ⟨hb, 6, none⟩ = some (.int .i64 first) ∧ w'.cell? ⟨hb, 7, none⟩ = some (.int .i64 maxt) ∧ w'.cell? ⟨hb, 8, none⟩ = some (.int .i64 prod) ∧ w'.cell? ⟨hb, 9, none⟩ = some (.int .i64 epoch) ∧ w'.cell? ⟨hb, 10, none⟩ = some (.int .i64 sq) ∧ w'.cell? ⟨hb, 11, none⟩ = some (.slice q l.length cap)) (by kernel_rfl) (let ⟨x0, x1, x2, x3, x4, x5, x6, x7, x8, x9, x10, x11, _⟩ := raw12 (b := hb) (hs); ⟨x0, x1, x2, x3, x4, x5, x6, x7, x8, x9, x10, x11⟩) (fun hHeld => ?_)
 refine tQ 0 ⟨some 5, .fieldAddr 26 (.tmp 2) 0, 0, "batch.go:46", #[], none⟩ ?_; simp only [Act.put, sA, sB, sC]
 refine tQ 1 ⟨some 6, .load 3 (.tmp 5), 3, "batch.go:46", #[.mk 0 .data], none⟩ ?_; simp only [Act.put, sA, sB, sC]
 refine tQ 2 ⟨some 7, .move (.tmp 1), 3, "batch.go:46", #[], none⟩ ?_; simp only [Act.put, sA, sB, sC]
 refine tQ 3 ⟨some 8, .binOp .add 3 (.const (Value.int IntKind.i64 49)) (.tmp 7) 3, 3, "batch.go:46", #[.mk 2 .data], none⟩ ?_; simp only [Act.put, sA, sB, sC]
 refine tQ 4 ⟨some 9, .fieldAddr 26 (.tmp 2) 1, 0, "batch.go:46", #[], none⟩ ?_; simp only [Act.put, sA, sB, sC]
 refine tQ 5 ⟨some 10, .load 3 (.tmp 9), 3, "batch.go:46", #[.mk 4 .data], none⟩ ?_; simp only [Act.put, sA, sB, sC]
 refine tQ 6 ⟨some 11, .load 26 (.tmp 2), 26, "batch.go:46", #[], none⟩ ?_; simp only [Act.put, sA, sB, sC]
 refine tQ 8 ⟨some 13, .fieldAddr 26 (.tmp 2) 5, 0, "batch.go:46", #[], none⟩ ?_; simp only [Act.put, sA, sB, sC]
 refine tQ 9 ⟨some 14, .load 3 (.tmp 13), 3, "batch.go:46", #[.mk 8 .data], none⟩ ?_; simp only [Act.put, sA, sB, sC]
 refine tQ 10 ⟨some 15, .fieldAddr 26 (.tmp 2) 6, 0, "batch.go:46", #[], none⟩ ?_; simp only [Act.put, sA, sB, sC]
 refine tQ 11 ⟨some 16, .load 3 (.tmp 15), 3, "batch.go:46", #[.mk 10 .data], none⟩ ?_; simp only [Act.put, sA, sB, sC]
 refine tQ 12 ⟨some 17, .fieldAddr 26 (.tmp 2) 7, 0, "batch.go:46", #[], none⟩ ?_; simp only [Act.put, sA, sB, sC]
 refine tQ 13 ⟨some 18, .load 3 (.tmp 17), 3, "batch.go:46", #[.mk 12 .data], none⟩ ?_; simp only [Act.put, sA, sB, sC]
 refine tQ 14 ⟨some 19, .fieldAddr 26 (.tmp 2) 8, 0, "batch.go:46", #[], none⟩ ?_; simp only [Act.put, sA, sB, sC]
 refine tQ 15 ⟨some 20, .load 3 (.tmp 19), 3, "batch.go:46", #[.mk 14 .data], none⟩ ?_; simp only [Act.put, sA, sB, sC]
 refine tQ 16 ⟨some 21, .fieldAddr 26 (.tmp 2) 9, 0, "batch.go:46", #[], none⟩ ?_; simp only [Act.put, sA, sB, sC]
 refine tQ 17 ⟨some 22, .load 3 (.tmp 21), 3, "batch.go:46", #[.mk 16 .data], none⟩ ?_; simp only [Act.put, sA, sB, sC]
 refine tQ 18 ⟨some 23, .fieldAddr 26 (.tmp 2) 10, 0, "batch.go:46", #[], none⟩ ?_; simp only [Act.put, sA, sB, sC]
 refine tQ 19 ⟨some 24, .load 3 (.tmp 23), 3, "batch.go:46", #[.mk 18 .data], none⟩ ?_; simp only [Act.put, sA, sB, sC]
 refine tQ 20 ⟨some 25, .fieldAddr 26 (.tmp 2) 11, 0, "batch.go:46", #[], none⟩ ?_; simp only [Act.put, sA, sB, sC]
 refine tQ 21 ⟨some 26, .load 24 (.tmp 25), 24, "batch.go:46", #[.mk 20 .data], none⟩ ?_; simp only [Act.put, sA, sB, sC]
 refine tQ 22 ⟨some 27, .call { callee := .builtin .len, args := #[.tmp 26], argTypes := #[24] }, 3, "batch.go:46", #[.mk 21 .data], none⟩ ?_; simp only [Act.put, sA, sB, sC]
 refine wpAnyH_ready (rs := [7]) (by kernel_rfl) (by simp) (AllReadyH.cons (o := ⟨some 12, .call { callee := .value (.func 67), args := #[.tmp 11], argTypes := #[26] }, 3, "batch.go:47", #[.mk 6 .data], none⟩) rfl (fun KK hK => ?_) AllReadyH.nil)
 · go_simp
   go_at_call 67
   with_reducible refine (attr_ofE base leader app txn ctl last first maxt prod epoch sq q l.length cap hs).mono ?_
   rintro e wq ⟨rfl, hs⟩
   refine hK.out _ _ (let ⟨x0, x1, x2, x3, x4, x5, x6, x7, x8, x9, x10, x11, _⟩ := raw12 (b := hb) (hs); ⟨x0, x1, x2, x3, x4, x5, x6, x7, x8, x9, x10, x11⟩) (fun hHeld => ?_)
   clear hK KK
   try simp only [Act.put, sA, sB, sC]
   refine tQ 23 ⟨some 28, .build 72 #[(0, .tmp 6), (1, .tmp 8), (2, .tmp 10), (4, .tmp 12), (5, .tmp 14), (6, .tmp 16), (7, .tmp 18), (8, .tmp 20), (9, .tmp 22), (10, .tmp 24), (11, .tmp 27)], 72, "batch.go:46", #[.mk 1 .data, .mk 3 .data, .mk 5 .data, .mk 7 .data, .mk 9 .data, .mk 11 .data, .mk 13 .data, .mk 15 .data, .mk 17 .data, .mk 19 .data, .mk 22 .data], none⟩ ?_; simp only [Act.put, sA, sB, sC]
   refine wpAnyH_ready (rs := [24]) (by kernel_rfl) (by simp) (AllReadyH.cons (o := ⟨none, .store 72 (.tmp 4) (.tmp 28), 0, "batch.go:46", #[.mk 23 .data, .mk 7 .chain, .mk 0 .phase, .mk 1 .phase, .mk 2 .phase, .mk 3 .phase, .mk 4 .phase, .mk 5 .phase, .mk 6 .phase, .mk 7 .phase, .mk 8 .phase, .mk 9 .phase, .mk 10 .phase, .mk 11 .phase, .mk 12 .phase, .mk 13 .phase, .mk 14 .phase, .mk 15 .phase, .mk 16 .phase, .mk 17 .phase, .mk 18 .phase, .mk 19 .phase, .mk 20 .phase, .mk 21 .phase, .mk 22 .phase, .mk 23 .phase], none⟩) rfl (fun KK hK => ?_) AllReadyH.nil)
   · have hs := hs.p1
     rw [if_pos (by rfl)]
     refine wp_store_mid 72 (.tmp 4) (.tmp 28) rfl rb 0 #[.int .i64 base, .int .i64 (49 + size), .int .i64 leader, .int .i64 0, .int .i64 (attrN app txn ctl 3), .int .i64 last, .int .i64 first, .int .i64 maxt, .int .i64 prod, .int .i64 epoch, .int .i64 sq, .int .i64 l.length] (by rfl) (by rfl) hs.there (by kernel_rfl) (by simp [Value.oneCell']) ?_
     obtain ⟨wz, ez, hs⟩ := hs.storeEx #[.int .i64 base, .int .i64 (49 + size), .int .i64 leader, .int .i64 0, .int .i64 (attrN app txn ctl 3), .int .i64 last, .int .i64 first, .int .i64 maxt, .int .i64 prod, .int .i64 epoch, .int .i64 sq, .int .i64 l.length]
     rw [ez]
     clear ez
     refine hK.out _ _ (let ⟨x0, x1, x2, x3, x4, x5, x6, x7, x8, x9, x10, x11, _⟩ := raw12 (b := hb) (hs.p1); ⟨x0, x1, x2, x3, x4, x5, x6, x7, x8, x9, x10, x11⟩) (fun hHeld => ?_)
     clear hK KK
     try simp only [Act.put, sA, sB, sC]
     refine wpAnyH_done (by kernel_rfl) ?_ _
     clear hHeld
     rw [setAll_all] at hs
     rotate_left
     · rfl
     have hz : St W0 _ K (.raw rb #[.int .i64 base, .int .i64 (49 + size), .int .i64 leader, .int .i64 0, .int .i64 (attrN app txn ctl 3), .int .i64 last, .int .i64 first, .int .i64 maxt, .int .i64 prod, .int .i64 epoch, .int .i64 sq, .int .i64 l.length] 72 :: _) := hs
     go_wp2_with fail
     refine bodyPost_ret (rc_cell_only rfl _ _ rb [.int .i64 base, .int .i64 (49 + size), .int .i64 leader, .int .i64 0, .int .i64 (attrN app txn ctl 3), .int .i64 last, .int .i64 first, .int .i64 maxt, .int .i64 prod, .int .i64 epoch, .int .i64 sq, .int .i64 l.length] _ rfl (rc_range hz) Tryz.underlying72 rfl (by kernel_rfl)) rfl ?_
     exact ⟨rfl, hz.drop.drop⟩
theorem glue {l a : Bs} {n m : Nat} (h : a = (l.drop n).take m) : a ++ l.drop (n + m) = l.drop n := by
 rw [h, ← List.drop_drop, List.take_append_drop]
theorem reInner_one {s : Bs} {x : RecS} (h : reInner s = .ok x) : recF x = s ∧ recOk x = 0 ∧ x.R ∧ x.sum ≤ s.length := by
 unfold reInner at h
 cases h0 : getIntN 1 s with
 | error e => rw [h0] at h; cases h
 | ok a =>
  rw [h0] at h
  simp only at h
  by_cases ha : a.1 = 0
  · rw [if_pos ha] at h
    obtain ⟨c, t, rfl⟩ : ∃ c t, s = c :: t := by
     cases s with
     | nil => cases h0
     | cons c t => exact ⟨c, t, rfl⟩
    have hc : c = 0 := by
     have : (.ok (sByte c, 1) : Except Int (Int × Nat)) = .ok a := by rw [← h0]; unfold getIntN; rw [if_neg (by simp)]; rfl
     cases this
     have hn := c.toNat_lt
     have h2 : sByte c = 0 := ha
     unfold sByte at h2
     exact UInt8.toNat_inj.1 (show c.toNat = 0 by split at h2 <;> omega)
    subst hc
    cases h1 : vgetL ((0 :: t : Bs).drop 1) with
    | error e => rw [h1] at h; cases h
    | ok x1 =>
     obtain ⟨tm, k⟩ := x1
     rw [h1] at h
     simp only at h
     cases h2 : vgetI ((0 :: t : Bs).drop (1 + k)) with
     | error e => rw [h2] at h; cases h
     | ok x2 =>
      obtain ⟨o, m⟩ := x2
      rw [h2] at h
      simp only at h
      by_cases ho : o < 0
      · rw [if_pos ho] at h; cases h
      rw [if_neg ho] at h
      cases h3 : revaried ((0 :: t : Bs).drop (1 + k + m)) with
      | error e => rw [h3] at h; cases h
      | ok x3 =>
       obtain ⟨kb, ka⟩ := x3
       rw [h3] at h
       simp only at h
       cases h4 : revaried ((0 :: t : Bs).drop (1 + k + m + ka)) with
       | error e => rw [h4] at h; cases h
       | ok x4 =>
        obtain ⟨vb, va⟩ := x4
        rw [h4] at h
        simp only at h
        cases h5 : reHdrs ((0 :: t : Bs).drop (1 + k + m + ka + va)) with
        | error e => rw [h5] at h; cases h
        | ok x5 =>
         obtain ⟨l, ha5⟩ := x5
         rw [h5] at h
         simp only at h
         by_cases hf : 1 + k + m + ka + va + ha5 = (0 :: t : Bs).length
         · rw [if_pos hf] at h
           cases h
           obtain ⟨g1, _, _, r1, r2⟩ := vgetL_one h1
           obtain ⟨g2, _, _, r3, r4⟩ := vgetI_one h2
           obtain ⟨g3, _, b3, c3, _, d3⟩ := revaried_one h3
           obtain ⟨g4, _, b4, c4, _, d4⟩ := revaried_one h4
           obtain ⟨g5, _, b5, c5, d5⟩ := reHdrs_one h5
           refine ⟨?_, ?_, ⟨⟨r1, r2⟩, by constructor <;> simp only <;> omega⟩, ?_⟩
           · unfold recF
             simp only
             have q5 := glue g5
             rw [List.drop_eq_nil_of_le (by omega), List.append_nil] at q5
             rw [q5, glue g4, glue g3]
             have q2 : encI o ++ (0 :: t : Bs).drop (1 + k + m) = (0 :: t : Bs).drop (1 + k) := glue g2
             have q1 : encI tm ++ (0 :: t : Bs).drop (1 + k) = (0 :: t : Bs).drop 1 := glue g1
             rw [q2, q1]
             rfl
           · unfold recOk RecS.allRight
             simp only
             rw [if_neg (by omega), c3, c4, c5]
             rfl
           · unfold RecS.sum
             simp only
             have e3 : kb.data.length ≤ ka := by split at d3 <;> omega
             have e4 : vb.data.length ≤ va := by split at d4 <;> omega
             omega
         · rw [if_neg hf] at h; cases h
  · rw [if_neg ha] at h; cases h
theorem reRec_one {s : Bs} {x : RecS} {m : Nat} (h : reRec s = .ok (x, m)) : encR x = s.take m ∧ recOk x = 0 ∧ x.R ∧ x.sum ≤ s.length ∧ 0 < m ∧ m ≤ s.length := by
 unfold reRec at h
 cases h1 : revaried s with
 | error e => rw [h1] at h; cases h
 | ok b =>
  obtain ⟨⟨n, d⟩, k⟩ := b
  rw [h1] at h
  simp only at h
  obtain ⟨g1, g2, g3, _, _, g5⟩ := revaried_one h1
  cases n with
  | true => cases h
  | false =>
   simp only [Bool.false_eq_true, if_false] at h
   cases h2 : reInner d with
   | error e => rw [h2] at h; cases h
   | ok y =>
    rw [h2] at h
    cases h
    obtain ⟨k1, k2, k3, k4⟩ := reInner_one h2
    simp at g5
    exact ⟨by unfold encR; rw [k1]; exact g1, k2, k3, by omega, g2, g3⟩
theorem hsum_fit : ∀ (l : List HdrS) (N : Nat), hsum l ≤ N → ∀ x ∈ l, x.key.length ≤ N ∧ x.val.data.length ≤ N
  | [], _, _, _, h => by cases h
  | y :: t, N, hh, x, hx => by
    simp only [hsum, List.map_cons, List.sum_cons] at hh
    rcases List.mem_cons.1 hx with rfl | hx
    · omega
    · exact hsum_fit t N (by simp only [hsum]; omega) x hx
theorem unp_fit : ∀ (n : Nat) (rows : Bs) (pos : Nat) (rs : List RecS), pos ≤ rows.length → unp n ⟨rows, pos, 0⟩ = .ok rs → rs.length = n ∧ rs.length + pos ≤ rows.length ∧ ∀ x ∈ rs, x.R ∧ recOk x = 0 ∧ x.sum ≤ rows.length
  | 0, rows, pos, rs, hp, h => by
    unfold unp at h
    split at h
    · cases h; exact ⟨rfl, by simpa using hp, fun x hx => by cases hx⟩
    · cases h
  | n + 1, rows, pos, rs, hp, h => by
    have h : (if (⟨rows, pos, 0⟩ : InS).left = 0 then .error 10 else if (⟨rows, pos, 0⟩ : InS).record.2.err = 0 then consE (⟨rows, pos, 0⟩ : InS).record.1 (unp n (⟨rows, pos, 0⟩ : InS).record.2) else .error (⟨rows, pos, 0⟩ : InS).record.2.err) = .ok rs := h
    by_cases c1 : (⟨rows, pos, 0⟩ : InS).left = 0
    · rw [if_pos c1] at h; cases h
    rw [if_neg c1] at h
    cases hr : reRec (rows.drop pos) with
    | error e =>
      obtain ⟨he, q, _, hf⟩ := rds_rec.err rows pos e hp hr
      rw [hf] at h
      simp only at h
      rw [if_neg he] at h
      cases h
    | ok y =>
      obtain ⟨x, m⟩ := y
      obtain ⟨hpm, hf⟩ := rds_rec.ok rows pos x m hp hr
      rw [hf] at h
      simp only [if_true] at h
      cases hu : unp n ⟨rows, pos + m, 0⟩ with
      | error e => rw [hu] at h; cases h
      | ok t =>
        rw [hu] at h
        have h : Except.ok (x :: t) = Except.ok rs := h
        injection h with h
        subst h
        obtain ⟨i1, i2, i3⟩ := unp_fit n rows (pos + m) t hpm hu
        obtain ⟨_, j1, j2, j3, j4, j5⟩ := reRec_one hr
        rw [List.length_drop] at j3 j5
        refine ⟨by simp [i1], by simp only [List.length_cons]; omega, fun y hy => ?_⟩
        rcases List.mem_cons.1 hy with rfl | hy
        · exact ⟨j2, j1, by omega⟩
        · exact i3 y hy
theorem unp_fitB {n : Nat} {rows : Bs} {rs : List RecS} {l : List (RecS × Value)} (hu : unp n ⟨rows, 0, 0⟩ = .ok rs) (hl : l.map (·.1) = rs) (hr : rows.length ≤ 1000000) : FitB l ∧ l.length ≤ 1000000 := by
 obtain ⟨i1, i2, i3⟩ := unp_fit n rows 0 rs (Nat.zero_le _) hu
 constructor
 · intro x hx
   have hm : x.1 ∈ rs := by rw [← hl]; exact List.mem_map.2 ⟨x, hx, rfl⟩
   obtain ⟨a, _, c⟩ := i3 x.1 hm
   refine ⟨a, fun y hy => ?_, by omega⟩
   have h1 : hsum x.1.hdrs ≤ 1000000 := by unfold RecS.sum at c; omega
   have := hsum_fit x.1.hdrs 1000000 h1 y hy
   omega
 · have : l.length = rs.length := by rw [← hl, List.length_map]
   omega
def asmB (x : PreS) (said rows : Bs) : Except Int BatS :=
  if ((crcMore 0#32 (said.drop 21 ++ rows)).toNat : Int) ≠ x.sum then .error 5
  else if chk x.attr ≠ 0 then .error (chk x.attr)
  else match unp x.count.toNat ⟨rows, 0, 0⟩ with
    | .error e => .error e
    | .ok rs => if batErr ⟨x.base, x.leader, bitAt x.attr 3, bitAt x.attr 4, bitAt x.attr 5, x.last, x.first, x.maxt, x.prod, x.epoch, x.seq, rs⟩ = 0 then .ok ⟨x.base, x.leader, bitAt x.attr 3, bitAt x.attr 4, bitAt x.attr 5, x.last, x.first, x.maxt, x.prod, x.epoch, x.seq, rs⟩ else .error (batErr ⟨x.base, x.leader, bitAt x.attr 3, bitAt x.attr 4, bitAt x.attr 5, x.last, x.first, x.maxt, x.prod, x.epoch, x.seq, rs⟩)
theorem attr_readE (n : Int) {W0 w : World} {K : Know} {L : List Res} (h : St W0 w K L) :
 Calls Tryz.prog 61 #[.int .i64 n] w fun en w' => en = .returned (.tuple #[.bool (bitAt n 3), .bool (bitAt n 4), .bool (bitAt n 5)]) ∧ St W0 w' K L := (attr_read n w).mono fun _ _ hh => ⟨hh.1, hh.2 ▸ h⟩
theorem attr_checkE (n e : Int) (he : chk n = e) (hn : R64 n) {W0 w : World} {K : Know} {L : List Res} (h : St W0 w K L) :
 Calls Tryz.prog 59 #[.int .i64 n] w fun en w' => en = .returned (.int .i64 e) ∧ St W0 w' K L := (attr_check n hn w).mono fun _ _ hh => ⟨he ▸ hh.1, hh.2 ▸ h⟩
theorem s_takeE (b : Nat) (i j : InS) (n : Int) (s : Bs) (hx : i.take n = (s, j)) {W0 w : World} {K : Know} {L : List Res} (h : St W0 w K (.inp b i :: L)) :
  Calls Tryz.prog 27 #[inPtr b, .int .i64 n] w fun en w' => en = .returned (.string (bb s)) ∧ St W0 w' K (.inp b j :: L) := by
 have := s_take b i n h; rw [hx] at this; exact this
theorem asmB_ok {x : PreS} {said rows : Bs} {b : BatS} (h : asmB x said rows = .ok b) : ((crcMore 0#32 (said.drop 21 ++ rows)).toNat : Int) = x.sum ∧ chk x.attr = 0 ∧ ∃ rs, unp x.count.toNat ⟨rows, 0, 0⟩ = .ok rs ∧ batErr (⟨x.base, x.leader, bitAt x.attr 3, bitAt x.attr 4, bitAt x.attr 5, x.last, x.first, x.maxt, x.prod, x.epoch, x.seq, rs⟩ : BatS) = 0 ∧ b = (⟨x.base, x.leader, bitAt x.attr 3, bitAt x.attr 4, bitAt x.attr 5, x.last, x.first, x.maxt, x.prod, x.epoch, x.seq, rs⟩ : BatS) := by
 unfold asmB at h
 split at h
 · cases h
 rename_i h1
 split at h
 · cases h
 rename_i h2
 have h1 : ((crcMore 0#32 (said.drop 21 ++ rows)).toNat : Int) = x.sum := by
   by_cases hh : ((crcMore 0#32 (said.drop 21 ++ rows)).toNat : Int) = x.sum
   · exact hh
   · exact absurd hh h1
 have h2 : chk x.attr = 0 := by
   by_cases hh : chk x.attr = 0
   · exact hh
   · exact absurd hh h2
 split at h
 · cases h
 · rename_i rs hu
   split at h
   · rename_i hb
     cases h
     exact ⟨h1, h2, rs, hu, hb, rfl⟩
   · cases h
def psz : List Nat := [8, 4, 4, 4, 2, 4, 8, 8, 8, 2, 4, 4]
def adj (k : Nat) : Nat := if k ≤ 3 then k else k + 1
theorem pre_step (x : PreS) (k : Nat) (hk : k < 12) (h3 : k ≠ 3) : x.items.take (adj (k + 1)) = x.items.take (adj k) ++ [(x.list.getD k 0, psz.getD k 0)] ∧ (x.list.getD k 0, psz.getD k 0) ∈ x.items := by
 rcases (by omega : k = 0 ∨ k = 1 ∨ k = 2 ∨ k = 4 ∨ k = 5 ∨ k = 6 ∨ k = 7 ∨ k = 8 ∨ k = 9 ∨ k = 10 ∨ k = 11) with h | h | h | h | h | h | h | h | h | h | h <;> subst h <;> exact ⟨rfl, by simp [PreS.items, PreS.list, psz]⟩
theorem pre_step3 (x : PreS) : x.items.take (adj (3 + 1)) = x.items.take (adj 3) ++ [(2, 1), (sumItem x.sum, 4)] ∧ (sumItem x.sum, 4) ∈ x.items := ⟨rfl, by simp [PreS.items]⟩
theorem pre_cell (x : PreS) (k : Nat) (hk : k < 12) : (#[.int .i64 x.base, .int .i64 x.len, .int .i64 x.leader, .int .i64 x.sum, .int .i64 x.attr, .int .i64 x.last, .int .i64 x.first, .int .i64 x.maxt, .int .i64 x.prod, .int .i64 x.epoch, .int .i64 x.seq, .int .i64 x.count] : Array Value)[k]? = some (.int .i64 (x.list.getD k 0)) ∧ (#[.int .i64 8, .int .i64 4, .int .i64 4, .int .i64 4, .int .i64 2, .int .i64 4, .int .i64 8, .int .i64 8, .int .i64 8, .int .i64 2, .int .i64 4, .int .i64 4] : Array Value)[k]? = some (.int .i64 (psz.getD k 0)) ∧ x.list.getD k 0 ∈ x.list ∧ 1 ≤ psz.getD k 0 ∧ psz.getD k 0 ≤ 8 := by
 rcases (by omega : k = 0 ∨ k = 1 ∨ k = 2 ∨ k = 3 ∨ k = 4 ∨ k = 5 ∨ k = 6 ∨ k = 7 ∨ k = 8 ∨ k = 9 ∨ k = 10 ∨ k = 11) with h | h | h | h | h | h | h | h | h | h | h | h <;> subst h <;> exact ⟨rfl, rfl, by simp [PreS.list], by decide, by decide⟩
theorem encInts_append (a b : List (Int × Nat)) : encInts (a ++ b) = encInts a ++ encInts b := List.flatMap_append
theorem FitsAll.nil : FitsAll [] := fun _ hx => by cases hx
theorem FitsAll.append {a b : List (Int × Nat)} (h : FitsAll a) (k : FitsAll b) : FitsAll (a ++ b) := fun x hx => (List.mem_append.1 hx).elim (h x) (k x)
theorem FitsAll.one {n : Int} {z : Nat} (h : fits n z) : FitsAll [(n, z)] := fun x hx => by simp at hx; subst hx; exact h
theorem enc_take_le (x : PreS) (k : Nat) : (encInts (x.items.take k)).length ≤ 61 := by
 have h1 : (encInts x.items).length = 61 := by rw [encInts_length]; rfl
 have h2 : encInts x.items = encInts (x.items.take k) ++ encInts (x.items.drop k) := by rw [← encInts_append, List.take_append_drop]
 have h3 := congrArg List.length h2
 rw [List.length_append] at h3
 omega
theorem sumItem_fits (n : Int) (h0 : ¬ n < 0) (h1 : ¬ 4294967295 < n) : fits (sumItem n) 4 := by
 have e4 : half 4 = 2147483648 := by decide
 unfold fits sumItem
 rw [if_neg (by omega)]
 refine ⟨by decide, by decide, ?_⟩
 have : (4 : Int).toNat = 4 := rfl
 rw [this, e4]
 split <;> omega
theorem sumItem_bad (n : Int) (h : n < 0 ∨ 4294967295 < n) : ¬ fits (sumItem n) 4 := by
 have e : sumItem n = 4294967296 := if_pos h
 rw [e]
 decide
def preBytes (x : PreS) : Bs × Bool := if FitsAll x.items then (encInts x.items, true) else ([], false)
theorem fit_ret {x : PreS} (hp : FitsAll x.items) : Ending.returned (.tuple #[.string (bb (encInts x.items)), .bool true]) = Ending.returned (.tuple #[.string (bb (preBytes x).1), .bool (preBytes x).2]) := by unfold preBytes; rw [if_pos hp]
theorem nofit_ret {x : PreS} (hp : ¬ FitsAll x.items) : Ending.returned (.tuple #[.string ⟨#[]⟩, .bool false]) = Ending.returned (.tuple #[.string (bb (preBytes x).1), .bool (preBytes x).2]) := by unfold preBytes; rw [if_neg hp]; rfl

set_option maxHeartbeats 1000000 in
set_option maxRecDepth 100000 in
theorem ref10_bytes (bl : Nat) (x : PreS) (hx : x.R) {W0 w : World} {K : Know} {L : List Res} (h : St W0 w K (.raw bl #[.int .i64 x.base, .int .i64 x.len, .int .i64 x.leader, .int .i64 x.sum, .int .i64 x.attr, .int .i64 x.last, .int .i64 x.first, .int .i64 x.maxt, .int .i64 x.prod, .int .i64 x.epoch, .int .i64 x.seq, .int .i64 x.count] 3 :: L)) :
  Calls Tryz.prog 22 #[.slice (some ⟨bl, 0, none⟩) 12 12] w fun en w' => en = .returned (.tuple #[.string (bb (preBytes x).1), .bool (preBytes x).2]) ∧ St W0 w' K (.raw bl #[.int .i64 x.base, .int .i64 x.len, .int .i64 x.leader, .int .i64 x.sum, .int .i64 x.attr, .int .i64 x.last, .int .i64 x.first, .int .i64 x.maxt, .int .i64 x.prod, .int .i64 x.epoch, .int .i64 x.seq, .int .i64 x.count] 3 :: L) := by
 have H := Lib.hid (h.allocRaw #[.int .i64 8, .int .i64 4, .int .i64 4, .int .i64 4, .int .i64 2, .int .i64 4, .int .i64 8, .int .i64 8, .int .i64 8, .int .i64 2, .int .i64 4, .int .i64 4] 3)
 have HX := Lib.hid hx
 clear h hx
 go_enter Tryz.func22, Tryz.ntmps22
 go_wp2
 obtain ⟨bs, hbs⟩ : ∃ b, w.heap.size = b := ⟨_, rfl⟩
 rw [hbs] at H
 try rw [hbs]
 have HBS := Lib.hid hbs
 clear hbs
 go_loopw [5, 6] (fun sv iv wr => ∃ k : Nat, k ≤ 12 ∧ iv = .int .i64 k ∧ sv = .string (bb (encInts (x.items.take (adj k)))) ∧ FitsAll (x.items.take (adj k)) ∧ St W0 wr K (.raw bs #[.int .i64 8, .int .i64 4, .int .i64 4, .int .i64 4, .int .i64 2, .int .i64 4, .int .i64 8, .int .i64 8, .int .i64 8, .int .i64 2, .int .i64 4, .int .i64 4] 3 :: .raw bl #[.int .i64 x.base, .int .i64 x.len, .int .i64 x.leader, .int .i64 x.sum, .int .i64 x.attr, .int .i64 x.last, .int .i64 x.first, .int .i64 x.maxt, .int .i64 x.prod, .int .i64 x.epoch, .int .i64 x.seq, .int .i64 x.count] 3 :: L)) (fun _ iv _ => 12 - (intOf iv).toNat)
 case atStart => exact ⟨0, Nat.zero_le _, rfl, rfl, FitsAll.nil, H.out⟩
 case round =>
  obtain ⟨k, hk, rfl, rfl, hfa, hst⟩ := hrel
  have HFA := Lib.hid hfa
  have H := Lib.hid hst
  clear hfa hst
  have hlen := enc_take_le x (adj k)
  obtain ⟨e0, he0⟩ : ∃ e, encInts (x.items.take (adj k)) = e := ⟨_, rfl⟩
  rw [he0] at hlen
  rw [he0]
  have HE0 := Lib.hid he0
  clear he0
  by_cases hlt : k < 12
  · obtain ⟨p1, p2, p3, p4, p5⟩ := pre_cell x k hlt
    have hnr := HX.out _ p3
    obtain ⟨n, hn⟩ : ∃ n, x.list.getD k 0 = n := ⟨_, rfl⟩
    obtain ⟨z, hz⟩ : ∃ z, psz.getD k 0 = z := ⟨_, rfl⟩
    rw [hn] at p1 hnr
    rw [hz] at p2 p4 p5
    have C1 := Lib.hid p1
    have C2 := Lib.hid p2
    have HN := Lib.hid hnr
    have HZ8 := Lib.hid (show z ≤ 140737488355328 by omega)
    have HNZ := Lib.hid (And.intro hn hz)
    have d1 := H.out.p1.rawCell k
    have d2 := H.out.rawCell k
    rw [C1.out] at d1
    rw [C2.out] at d2
    clear p1 p2 p3 hnr hn hz hk
    by_cases h3 : k = 3
    · subst h3
      have HNX := Lib.hid (show x.sum = n from HNZ.out.1)
      obtain rfl : 4 = z := HNZ.out.2
      have HQ := Lib.hid (pre_step3 x)
      rw [HNX.out] at HQ
      by_cases h0 : n < 0
      · go_wp2
        go_ret2
        exact ⟨nofit_ret (fun h => sumItem_bad n (.inl h0) (h _ HQ.out.2)), H.out.drop⟩
      by_cases h1 : 4294967295 < n
      · go_wp2
        go_ret2
        exact ⟨nofit_ret (fun h => sumItem_bad n (.inr h1) (h _ HQ.out.2)), H.out.drop⟩
      have HF := Lib.hid (sumItem_fits n h0 h1)
      have HSR := Lib.hid (sumItem_range n)
      have HF4 := Lib.hid (decide_eq_true HF.out)
      by_cases h2 : 2147483647 < n
      · have hsi : sumItem n = n - 4294967296 := by unfold sumItem; rw [if_neg (by omega), if_pos h2]
        rw [hsi] at HF4 HF HQ HSR
        have tokA : True := trivial
        have REL := Lib.hid (show ∃ k : Nat, k ≤ 12 ∧ Value.int .i64 (3 + 1) = .int .i64 k ∧ Value.string (bb (e0 ++ (beBytes 2 1 ++ beBytes (n - 4294967296) 4))) = .string (bb (encInts (x.items.take (adj k)))) ∧ FitsAll (x.items.take (adj k)) from
         ⟨4, by decide, rfl, by rw [HQ.out.1, encInts_append, HE0.out]; simp [encInts], by rw [HQ.out.1]; exact HFA.out.append (fun y hy => by simp at hy; rcases hy with rfl | rfl; exact (by decide); exact HF.out)⟩)
        clear hsi
        go_wp2_with (first
         | (go_at_call 47; have _t := tokA; clear _t; refine (sr_bytes 2 1 (by decide) (by decide) H.out).mono ?_; rintro e wn ⟨rfl, h⟩; replace H := Lib.hid h; clear h tokA; have d1 := H.out.p1.rawCell 3; have d2 := H.out.rawCell 3; rw [C1.out] at d1; rw [C2.out] at d2)
         | (go_at_call 47; refine (sr_bytes (n - 4294967296) 4 (by decide) HSR.out H.out).mono ?_; rintro e wn ⟨rfl, h⟩; replace H := Lib.hid h; clear h; have d1 := H.out.p1.rawCell 3; have d2 := H.out.rawCell 3; rw [C1.out] at d1; rw [C2.out] at d2)
         | (go_at_call 48; refine (sr_fits (n - 4294967296) 4 HSR.out H.out).mono ?_; rw [HF4.out]; rintro e wn ⟨rfl, h⟩; replace H := Lib.hid h; clear h; have d1 := H.out.p1.rawCell 3; have d2 := H.out.rawCell 3; rw [C1.out] at d1; rw [C2.out] at d2))
        go_roundw
        case rel =>
         obtain ⟨k', r1, r2, r3, r4⟩ := REL.out
         exact ⟨k', r1, r2, r3, r4, H.out⟩
        case measure => first | (simp [intOf]; done) | (simp [intOf]; omega)
      · have hsi : sumItem n = n := by unfold sumItem; rw [if_neg (by omega), if_neg h2]
        rw [hsi] at HF4 HF HQ HSR
        have tokA : True := trivial
        have REL := Lib.hid (show ∃ k : Nat, k ≤ 12 ∧ Value.int .i64 (3 + 1) = .int .i64 k ∧ Value.string (bb (e0 ++ (beBytes 2 1 ++ beBytes (n) 4))) = .string (bb (encInts (x.items.take (adj k)))) ∧ FitsAll (x.items.take (adj k)) from
         ⟨4, by decide, rfl, by rw [HQ.out.1, encInts_append, HE0.out]; simp [encInts], by rw [HQ.out.1]; exact HFA.out.append (fun y hy => by simp at hy; rcases hy with rfl | rfl; exact (by decide); exact HF.out)⟩)
        clear hsi
        go_wp2_with (first
         | (go_at_call 47; have _t := tokA; clear _t; refine (sr_bytes 2 1 (by decide) (by decide) H.out).mono ?_; rintro e wn ⟨rfl, h⟩; replace H := Lib.hid h; clear h tokA; have d1 := H.out.p1.rawCell 3; have d2 := H.out.rawCell 3; rw [C1.out] at d1; rw [C2.out] at d2)
         | (go_at_call 47; refine (sr_bytes (n) 4 (by decide) HSR.out H.out).mono ?_; rintro e wn ⟨rfl, h⟩; replace H := Lib.hid h; clear h; have d1 := H.out.p1.rawCell 3; have d2 := H.out.rawCell 3; rw [C1.out] at d1; rw [C2.out] at d2)
         | (go_at_call 48; refine (sr_fits (n) 4 HSR.out H.out).mono ?_; rw [HF4.out]; rintro e wn ⟨rfl, h⟩; replace H := Lib.hid h; clear h; have d1 := H.out.p1.rawCell 3; have d2 := H.out.rawCell 3; rw [C1.out] at d1; rw [C2.out] at d2))
        go_roundw
        case rel =>
         obtain ⟨k', r1, r2, r3, r4⟩ := REL.out
         exact ⟨k', r1, r2, r3, r4, H.out⟩
        case measure => first | (simp [intOf]; done) | (simp [intOf]; omega)
    · obtain ⟨q1, q2⟩ := pre_step x k hlt h3
      rw [HNZ.out.1, HNZ.out.2] at q1 q2
      have HQ := Lib.hid (And.intro q1 q2)
      clear q1 q2
      have h3b : ((k : Int) == 3) = false := by rw [beq_eq_false_iff_ne]; omega
      have HK3 := Lib.hid h3
      clear h3
      by_cases hf : fits n z
      all_goals
        have HF := Lib.hid hf
        have hdf : decide (fits n z) = decide (fits n z) := rfl
        conv at hdf => rhs; (first | rw [decide_eq_true HF.out] | rw [decide_eq_false HF.out])
        have HDF := Lib.hid hdf
        clear hf hdf
        go_wp2_with (first
         | (go_at_call 48; (with_reducible refine (sr_fits _ _ HN.out H.out).mono ?_); rw [HDF.out]; rintro e wn ⟨rfl, h⟩; replace H := Lib.hid h; clear h; have d1 := H.out.p1.rawCell k; have d2 := H.out.rawCell k; rw [C1.out] at d1; rw [C2.out] at d2)
         | (go_at_call 47; (with_reducible refine (sr_bytes _ _ HZ8.out HN.out H.out).mono ?_); rintro e wn ⟨rfl, h⟩; replace H := Lib.hid h; clear h; have d1 := H.out.p1.rawCell k; have d2 := H.out.rawCell k; rw [C1.out] at d1; rw [C2.out] at d2))
      · go_roundw
        case rel =>
         refine ⟨k + 1, by omega, by go_num, ?_, ?_, H.out⟩
         · rw [HQ.out.1, encInts_append, HE0.out]; simp [encInts]
         · rw [HQ.out.1]; exact HFA.out.append (FitsAll.one HF.out)
        case measure => first | (simp [intOf]; done) | (simp [intOf]; omega)
      · go_ret2
        exact ⟨nofit_ret (fun h => HF.out (h _ HQ.out.2)), H.out.drop⟩
  · have hk12 : k = 12 := by omega
    subst hk12
    go_wp2
    go_ret2
    have ht : x.items.take (adj 12) = x.items := rfl
    have h1 := HFA.out
    have h2 := HE0.out
    rw [ht] at h1 h2
    subst h2
    exact ⟨fit_ret h1, H.out.drop⟩
def preX (s : Bs) : PreS × Int := preOfL (intsOf preSizes s)
def rePre (s : Bs) : Except Int PreS := if s.length < 61 then .error 1 else if (preX s).2 = 2 then (if (preX s).1.len < 49 then .error 4 else if (preX s).1.count < 0 then .error 10 else .ok (preX s).1) else .error 6
theorem InS.fail_stuck_Pre6 {i : InS} (h : i.err ≠ 0) (e : Int) : i.fail e = i := if_neg h
theorem InS.fail_ok0 (s : Bs) (p : Nat) (e : Int) : (⟨s, p, 0⟩ : InS).fail e = ⟨s, p, e⟩ := rfl
theorem pre_okA (s : Bs) (pos : Nat) (hp : pos + 61 ≤ s.length) : (⟨s, pos, 0⟩ : InS).pre = match rePre (s.drop pos) with | .ok x => (x, ⟨s, pos + 61, 0⟩) | .error e => (PreS.zero, ⟨s, pos + 61, e⟩) := by
 have h1 := ints_ok preSizes s pos (by decide) hp
 have h2 : preSizes.sum = 61 := rfl
 rw [h2] at h1
 unfold InS.pre
 rw [h1]
 unfold rePre preX
 rw [if_neg (by rw [List.length_drop]; omega)]
 obtain ⟨x, m⟩ := preOfL (intsOf preSizes (s.drop pos))
 simp only [preChk]
 by_cases hm : m = 2
 · rw [if_pos hm, if_pos hm]
   by_cases hl : x.len < 49
   · rw [if_pos hl, if_pos hl, InS.fail_ok0, InS.fail_stuck_Pre6 (show (4 : Int) ≠ 0 by decide), ite_self, if_neg (show ¬ (4 : Int) = 0 by decide)]
   · rw [if_neg hl, if_neg hl]
     by_cases hc : x.count < 0
     · rw [if_pos hc, if_pos hc, InS.fail_ok0, if_neg (show ¬ (10 : Int) = 0 by decide)]
     · rw [if_neg hc, if_neg hc, if_pos rfl]
 · have hs : ∀ e : Int, (⟨s, pos + 61, 6⟩ : InS).fail e = ⟨s, pos + 61, 6⟩ := fun e => InS.fail_stuck_Pre6 (show (6 : Int) ≠ 0 by decide) e
   rw [if_neg hm, if_neg hm, InS.fail_ok0]
   simp only [hs, ite_self]
   rw [if_neg (show ¬ (6 : Int) = 0 by decide)]
theorem intsOf_take : ∀ (l : List Nat) (s : Bs) (n : Nat), l.sum ≤ n → intsOf l (s.take n) = intsOf l s
  | [], _, _, _ => rfl
  | k :: t, s, n, h => by
    rw [List.sum_cons] at h
    unfold intsOf
    rw [List.take_take, Nat.min_eq_left (by omega), List.drop_take, intsOf_take t (s.drop k) (n - k) (by omega)]
theorem rePre_take (s : Bs) (h : 61 ≤ s.length) : rePre (s.take 61) = rePre s := by
 unfold rePre preX
 rw [intsOf_take preSizes s 61 (by decide), List.length_take, Nat.min_eq_left h, if_neg (show ¬ 61 < 61 by decide), if_neg (show ¬ s.length < 61 by omega)]
theorem sInt_range4 (s : Bs) (h : s.length ≤ 4) : -2147483648 ≤ sInt s ∧ sInt s < 2147483648 := by
 rcases (by omega : s.length = 0 ∨ (1 ≤ s.length ∧ s.length ≤ 4)) with h0 | h0
 · have : s = [] := List.length_eq_zero_iff.1 h0
   subst this
   decide
 · have h1 := (sInt_fits s s.length h0.1 (by omega) rfl).2.2
   rw [Int.toNat_natCast] at h1
   have h2 : half s.length ≤ 2147483648 := by
    rcases (by omega : s.length = 1 ∨ s.length = 2 ∨ s.length = 3 ∨ s.length = 4) with h | h | h | h <;> rw [h] <;> decide
   omega
theorem preX_eq (s : Bs) : preX s = (⟨sInt (s.take 8), sInt ((s.drop 8).take 4), sInt ((s.drop 12).take 4), sInt ((s.drop 17).take 4) % 4294967296, sInt ((s.drop 21).take 2), sInt ((s.drop 23).take 4), sInt ((s.drop 27).take 8), sInt ((s.drop 35).take 8), sInt ((s.drop 43).take 8), sInt ((s.drop 51).take 2), sInt ((s.drop 53).take 4), sInt ((s.drop 57).take 4)⟩, sInt ((s.drop 16).take 1)) := by
 unfold preX preSizes
 simp only [intsOf, List.drop_drop, Nat.reduceAdd]
 rfl
theorem preX_len (s : Bs) : -2147483648 ≤ (preX s).1.len ∧ (preX s).1.len < 2147483648 := by
 rw [preX_eq]
 exact sInt_range4 _ (by rw [List.length_take]; omega)
theorem rePre_ok {s : Bs} {x : PreS} (h : rePre s = .ok x) : 61 ≤ s.length ∧ (preX s).1 = x ∧ (preX s).2 = 2 ∧ 49 ≤ x.len ∧ 0 ≤ x.count := by
 unfold rePre at h
 split at h
 · cases h
 split at h
 · split at h
   · cases h
   · split at h
     · cases h
     · cases h
       exact ⟨by omega, rfl, by assumption, by omega, by omega⟩
 · cases h
theorem prefix_readQ (p : Nat) (i j : InS) (x : PreS) (hx : i.pre = (x, j)) {W0 w : World} {K : Know} {L : List Res} (h : St W0 w K (.inp p i :: L)) :
  Calls Tryz.prog 28 #[inPtr p] w fun en w' => en = .returned (.agg #[.int .i64 x.base, .int .i64 x.len, .int .i64 x.leader, .int .i64 x.sum, .int .i64 x.attr, .int .i64 x.last, .int .i64 x.first, .int .i64 x.maxt, .int .i64 x.prod, .int .i64 x.epoch, .int .i64 x.seq, .int .i64 x.count]) ∧ St W0 w' K (.inp p j :: L) := by
 have := prefix_read p i h; rw [hx] at this; exact this
def reBat (s : Bs) : Except Int (BatS × Nat) := match rePre s with
  | .error e => .error e
  | .ok x => if s.length < 61 + (x.len - 49).toNat then .error 1 else match asmB x (s.take 61) ((s.drop 61).take (x.len - 49).toNat) with
    | .error e => .error e
    | .ok b => .ok (b, 61 + (x.len - 49).toNat)
theorem pre_ranges {s : Bs} {x : PreS} (h : rePre s = .ok x) : (-2147483648 ≤ x.len ∧ x.len < 2147483648) ∧ 49 ≤ x.len ∧ R64 x.attr ∧ 0 ≤ x.count ∧ x.count ≤ 2147483647 ∧ x.first ≤ 9223372036854775807 := by
 obtain ⟨h1, h2, _, h3, h4⟩ := rePre_ok h
 have hl := preX_len s
 rw [h2] at hl
 rw [preX_eq] at h2
 have h2 := h2.symm
 subst h2
 simp only at *
 have a := sInt_range ((s.drop 21).take 2) (by rw [List.length_take]; omega)
 have b := sInt_range ((s.drop 27).take 8) (by rw [List.length_take]; omega)
 have c := sInt_range4 ((s.drop 57).take 4) (by rw [List.length_take]; omega)
 exact ⟨hl, h3, a, h4, by omega, by omega⟩
theorem reBat_ok {s : Bs} {b : BatS} {n : Nat} (h : reBat s = .ok (b, n)) : ∃ x, rePre s = .ok x ∧ n = 61 + (x.len - 49).toNat ∧ n ≤ s.length ∧ asmB x (s.take 61) ((s.drop 61).take (x.len - 49).toNat) = .ok b := by
 unfold reBat at h
 split at h
 · cases h
 · rename_i x hp
   split at h
   · cases h
   · split at h
     · cases h
     · rename_i c ha
       cases h
       exact ⟨x, hp, rfl, by omega, ha⟩
theorem putRec_good (o : Bs) (x : RecS) (h : recOk x = 0) : (⟨o, 0⟩ : OutS).putRec x = ⟨o ++ encR x, 0⟩ := by
 unfold OutS.putRec
 rw [if_pos h]
 rfl
theorem recsC_ok : ∀ (l : List RecS), recsC l = 0 → ∀ x ∈ l, recOk x = 0
  | [], _, _, h => by cases h
  | r :: t, hh, x, hx => by
    have hh : (if recOk r = 0 then recsC t else recOk r) = 0 := hh
    by_cases h1 : recOk r = 0
    · rw [if_pos h1] at hh
      rcases List.mem_cons.1 hx with rfl | hx
      · exact h1
      · exact recsC_ok t hh x hx
    · rw [if_neg h1] at hh; exact absurd hh h1
theorem encAll_small {l : List (RecS × Value)} (h : FitB l) : (encAll l).length ≤ 40000000 * l.length := by
 have : ∀ (l : List (RecS × Value)), (∀ x ∈ l, (encR x.1).length ≤ 40000000) → (encAll l).length ≤ 40000000 * l.length := by
  intro l
  induction l with
  | nil => intro _; simp [encAll]
  | cons x t ih =>
   intro hh
   have h1 := ih (fun y hy => hh y (by simp [hy]))
   have h2 := hh x (by simp)
   have e : encAll (x :: t) = encR x.1 ++ encAll t := rfl
   rw [e, List.length_append, List.length_cons]
   omega
 refine this l fun x hx => ?_
 obtain ⟨a, _, c⟩ := h x hx
 have h1 := recF_le x.1 a c
 unfold encR encV
 rw [List.length_append]
 have h2 : (putU (foldN (BlobS.len ⟨false, recF x.1⟩))).length ≤ 10 := putU_len _ (foldN_lt (by simp [BlobS.len] <;> omega) (by simp [BlobS.len] <;> omega))
 simp only at *
 omega
theorem sumItem_mod6 (n : Int) (h : fits (sumItem n) 4) : sumItem n % 4294967296 = n := by
 by_cases h0 : n < 0 ∨ 4294967295 < n
 · exact absurd h (sumItem_bad n h0)
 · unfold sumItem
   rw [if_neg h0]
   split <;> omega
theorem preX_enc6 (x : PreS) (hf : FitsAll x.items) : preX (encInts x.items) = (x, 2) := by
 have h1 := intsOf_enc x.items [] hf
 rw [List.append_nil] at h1
 have h2 : x.items.map (·.2) = preSizes := rfl
 rw [h2] at h1
 have h3 := sumItem_mod6 x.sum (hf (sumItem x.sum, 4) (by simp [PreS.items]))
 unfold preX
 rw [h1]
 simp only [PreS.items, List.map_cons, List.map_nil, preOfL, h3]
theorem items_len (x : PreS) : (encInts x.items).length = 61 := by rw [encInts_length]; rfl
theorem rePre_enc (x : PreS) (hf : FitsAll x.items) (hl : 49 ≤ x.len) (hc : 0 ≤ x.count) (t : Bs) : rePre (encInts x.items ++ t) = .ok x := by
 have h := rePre_take (encInts x.items ++ t) (by rw [List.length_append, items_len]; omega)
 rw [List.take_left' (items_len x)] at h
 rw [← h]
 unfold rePre
 rw [preX_enc6 x hf, if_neg (by rw [items_len]; omega), if_pos rfl, if_neg (by simp only; omega), if_neg (by simp only; omega)]
def BatS.rowsB (b : BatS) : Bs := b.recs.flatMap encR
def BatS.pre (b : BatS) (sum : Int) : PreS := ⟨b.base, 49 + b.rowsB.length, b.leader, sum, attrN b.app b.txn b.ctl 3, b.last, b.first, b.maxt, b.prod, b.epoch, b.seq, b.recs.length⟩
def BatS.front (b : BatS) (sum : Int) : Bs := encInts [(b.base, 8), (49 + b.rowsB.length, 4), (b.leader, 4), (2, 1), (sumItem sum, 4)]
def BatS.back (b : BatS) : Bs := encInts [(attrN b.app b.txn b.ctl 3, 2), (b.last, 4), (b.first, 8), (b.maxt, 8), (b.prod, 8), (b.epoch, 2), (b.seq, 4), (b.recs.length, 4)]
def BatS.crc (b : BatS) : Nat := (crcMore 0#32 (b.back ++ b.rowsB)).toNat
def BatS.enc (b : BatS) : Bs := encInts (b.pre b.crc).items ++ b.rowsB
theorem BatS.pre_split (b : BatS) (s : Int) : encInts (b.pre s).items = b.front s ++ b.back := by
 have h : (b.pre s).items = [(b.base, 8), (49 + (b.rowsB.length : Int), 4), (b.leader, 4), (2, 1), (sumItem s, 4)] ++ [(attrN b.app b.txn b.ctl 3, 2), (b.last, 4), (b.first, 8), (b.maxt, 8), (b.prod, 8), (b.epoch, 2), (b.seq, 4), ((b.recs.length : Int), 4)] := rfl
 rw [h, encInts_append]
 rfl
theorem BatS.front_len (b : BatS) (s : Int) : (b.front s).length = 21 := by unfold BatS.front; rw [encInts_length]; rfl
theorem BatS.pre_drop (b : BatS) (s : Int) : (encInts (b.pre s).items).drop 21 = b.back := by rw [b.pre_split, List.drop_left' (b.front_len s)]
theorem BatS.crc_lt (b : BatS) : b.crc < 4294967296 := (crcMore 0#32 (b.back ++ b.rowsB)).isLt
theorem fits_of {n : Int} {k : Nat} (h1 : 1 ≤ k) (h8 : k ≤ 8) (lo : -half k ≤ n) (hi : n < half k) : fits n k := by
 refine ⟨by omega, by omega, ?_, ?_⟩ <;> rw [Int.toNat_natCast] <;> assumption
theorem batErr_zero {b : BatS} (h : batErr b = 0) : b.placed = true ∧ (b.ctl = true → b.txn = true) ∧ b.signed = true ∧ recsC b.recs = 0 := by
 unfold batErr at h
 by_cases p1 : b.placed = false
 · rw [if_pos p1] at h; cases h
 rw [if_neg p1] at h
 by_cases p2 : b.ctl = true ∧ b.txn = false
 · rw [if_pos p2] at h; cases h
 rw [if_neg p2] at h
 by_cases p3 : b.signed = false
 · rw [if_pos p3] at h; cases h
 rw [if_neg p3] at h
 by_cases p4 : b.ctl = true ∧ b.recs.length ≠ 1
 · rw [if_pos p4] at h; cases h
 rw [if_neg p4] at h
 by_cases p5 : recsC b.recs ≠ 0
 · rw [if_pos p5] at h; exact absurd h p5
 refine ⟨by simpa using p1, fun hc => ?_, by simpa using p3, Classical.not_not.1 p5⟩
 cases ht : b.txn with
 | true => rfl
 | false => exact absurd ⟨hc, ht⟩ p2
theorem signed_rng {b : BatS} (h : b.signed = true) : -1 ≤ b.prod ∧ (-1 ≤ b.epoch ∧ b.epoch ≤ 32767) ∧ (-1 ≤ b.seq ∧ b.seq ≤ 2147483647) := by
 unfold BatS.signed at h
 by_cases p : b.prod = -1
 · rw [if_pos p] at h
   have := of_decide_eq_true h
   omega
 rw [if_neg p] at h
 by_cases q : b.prod < 0 ∨ ¬ (0 ≤ b.epoch ∧ b.epoch ≤ 32767)
 · rw [if_pos q] at h; cases h
 rw [if_neg q] at h
 cases hc : b.ctl with
 | true =>
   rw [hc] at h
   have h : decide (b.seq = -1) = true := h
   have := of_decide_eq_true h
   omega
 | false =>
   rw [hc] at h
   have h : decide (0 ≤ b.seq ∧ b.seq ≤ 2147483647) = true := h
   have := of_decide_eq_true h
   omega
theorem attr_facts (a t c : Bool) : (0 ≤ attrN a t c 3 ∧ attrN a t c 3 ≤ 63) ∧ bitAt (attrN a t c 3) 3 = a ∧ bitAt (attrN a t c 3) 4 = t ∧ bitAt (attrN a t c 3) 5 = c ∧ ((c = true → t = true) → chk (attrN a t c 3) = 0) := by
 cases a <;> cases t <;> cases c <;> decide
theorem BatS.fitsAll {b : BatS} (h : batErr b = 0) (hR : b.R) (s : Int) (hs : 0 ≤ s ∧ s ≤ 4294967295) (hz : b.rowsB.length ≤ 1000000) (hn : b.recs.length ≤ 1000000) : FitsAll (b.pre s).items := by
 obtain ⟨p1, p2, p3, p4⟩ := batErr_zero h
 have q1 := of_decide_eq_true p1
 obtain ⟨q2, q3, q4⟩ := signed_rng p3
 obtain ⟨r1, r2, r3, r4, r5, r6, r7, r8⟩ := hR
 unfold Rn at r1 r2 r3 r4 r5 r6 r7 r8
 have qa := (attr_facts b.app b.txn b.ctl).1
 have h8 : half 8 = 9223372036854775808 := by decide
 have h4 : half 4 = 2147483648 := by decide
 have h2 : half 2 = 32768 := by decide
 have h1 : half 1 = 128 := by decide
 intro x hx
 simp only [PreS.items, BatS.pre, List.mem_cons, List.not_mem_nil, or_false] at hx
 rcases hx with rfl | rfl | rfl | rfl | rfl | rfl | rfl | rfl | rfl | rfl | rfl | rfl | rfl
 · exact fits_of (by simp only; decide) (by simp only; decide) (by rw [h8]; simp only; omega) (by rw [h8]; simp only; omega)
 · exact fits_of (by simp only; decide) (by simp only; decide) (by rw [h4]; simp only; omega) (by rw [h4]; simp only; omega)
 · exact fits_of (by simp only; decide) (by simp only; decide) (by rw [h4]; simp only; omega) (by rw [h4]; simp only; omega)
 · exact fits_of (by simp only; decide) (by simp only; decide) (by rw [h1]; simp only; omega) (by rw [h1]; simp only; omega)
 · exact sumItem_fits s (by omega) (by omega)
 · exact fits_of (by simp only; decide) (by simp only; decide) (by rw [h2]; simp only; omega) (by rw [h2]; simp only; omega)
 · exact fits_of (by simp only; decide) (by simp only; decide) (by rw [h4]; simp only; omega) (by rw [h4]; simp only; omega)
 · exact fits_of (by simp only; decide) (by simp only; decide) (by rw [h8]; simp only; omega) (by rw [h8]; simp only; omega)
 · exact fits_of (by simp only; decide) (by simp only; decide) (by rw [h8]; simp only; omega) (by rw [h8]; simp only; omega)
 · exact fits_of (by simp only; decide) (by simp only; decide) (by rw [h8]; simp only; omega) (by rw [h8]; simp only; omega)
 · exact fits_of (by simp only; decide) (by simp only; decide) (by rw [h2]; simp only; omega) (by rw [h2]; simp only; omega)
 · exact fits_of (by simp only; decide) (by simp only; decide) (by rw [h4]; simp only; omega) (by rw [h4]; simp only; omega)
 · exact fits_of (by simp only; decide) (by simp only; decide) (by rw [h4]; simp only; omega) (by rw [h4]; simp only; omega)
theorem BatS.pre_R {b : BatS} (h : batErr b = 0) (hR : b.R) (s : Int) (hs : 0 ≤ s ∧ s ≤ 4294967295) (hz : b.rowsB.length ≤ 1000000) (hn : b.recs.length ≤ 1000000) : (b.pre s).R := by
 have qa := (attr_facts b.app b.txn b.ctl).1
 obtain ⟨r1, r2, r3, r4, r5, r6, r7, r8⟩ := hR
 unfold Rn at r1 r2 r3 r4 r5 r6 r7 r8
 intro n hn
 simp only [PreS.list, BatS.pre, List.mem_cons, List.not_mem_nil, or_false] at hn
 rcases hn with rfl | rfl | rfl | rfl | rfl | rfl | rfl | rfl | rfl | rfl | rfl | rfl <;> omega
theorem unp_back : ∀ (rs : List RecS) (rows : Bs) (pos : Nat), pos ≤ rows.length → rows.drop pos = rs.flatMap encR → (∀ x ∈ rs, x.R ∧ recOk x = 0 ∧ x.sum ≤ 1000000) → unp rs.length ⟨rows, pos, 0⟩ = .ok rs
  | [], rows, pos, hp, hd, _ => by
    have hz : rows.length - pos = 0 := by rw [← List.length_drop, hd]; rfl
    show (if (⟨rows, pos, 0⟩ : InS).left = 0 then Except.ok [] else Except.error (10 : Int)) = Except.ok []
    rw [if_pos (by simp only [InS.left]; exact hz)]
  | x :: t, rows, pos, hp, hd, hx => by
    obtain ⟨hR, ho, hs⟩ := hx x (by simp)
    rw [List.flatMap_cons] at hd
    have hr := reRec_back x hR ho hs (t.flatMap encR)
    rw [← hd] at hr
    obtain ⟨hpm, hf⟩ := rds_rec.ok rows pos x _ hp hr
    have hpos := (reRec_one hr).2.2.2.2.1
    show (if (⟨rows, pos, 0⟩ : InS).left = 0 then Except.error (10 : Int) else if (⟨rows, pos, 0⟩ : InS).record.2.err = 0 then consE (⟨rows, pos, 0⟩ : InS).record.1 (unp t.length (⟨rows, pos, 0⟩ : InS).record.2) else Except.error (⟨rows, pos, 0⟩ : InS).record.2.err) = Except.ok (x :: t)
    rw [if_neg (by simp only [InS.left]; omega), hf]
    simp only [if_true]
    rw [unp_back t rows _ hpm (by rw [← List.drop_drop, hd, List.drop_left]) (fun y hy => hx y (by simp [hy]))]
    rfl
theorem asmB_back {b : BatS} (h : batErr b = 0) (hf : ∀ x ∈ b.recs, x.R ∧ recOk x = 0 ∧ x.sum ≤ 1000000) : asmB (b.pre b.crc) (encInts (b.pre b.crc).items) b.rowsB = .ok b := by
 obtain ⟨_, p2, _, _⟩ := batErr_zero h
 obtain ⟨_, a3, a4, a5, a6⟩ := attr_facts b.app b.txn b.ctl
 have hu := unp_back b.recs b.rowsB 0 (Nat.zero_le _) rfl hf
 unfold asmB
 rw [b.pre_drop]
 have e1 : ((crcMore 0#32 (b.back ++ b.rowsB)).toNat : Int) = (b.pre b.crc).sum := rfl
 have e2 : (b.pre b.crc).attr = attrN b.app b.txn b.ctl 3 := rfl
 have e3 : (b.pre b.crc).count.toNat = b.recs.length := rfl
 rw [if_neg (fun hh => hh e1), e2, if_neg (fun hh => hh (a6 p2)), e3, hu]
 simp only [a3, a4, a5]
 obtain ⟨base, leader, app, txn, ctl, last, first, maxt, prod, epoch, sq, rs⟩ := b
 exact if_pos h
theorem reBat_back {b : BatS} (h : batErr b = 0) (hR : b.R) (hf : ∀ x ∈ b.recs, x.R ∧ recOk x = 0 ∧ x.sum ≤ 1000000) (hz : b.rowsB.length ≤ 1000000) (hn : b.recs.length ≤ 1000000) (t : Bs) : reBat (b.enc ++ t) = .ok (b, b.enc.length) := by
 have hc := b.crc_lt
 have hfa := BatS.fitsAll h hR b.crc (by omega) hz hn
 have hp := rePre_enc (b.pre b.crc) hfa (show (49 : Int) ≤ 49 + (b.rowsB.length : Int) by omega) (show (0 : Int) ≤ (b.recs.length : Int) by omega) (b.rowsB ++ t)
 rw [← List.append_assoc] at hp
 have hle : b.enc.length = 61 + b.rowsB.length := by unfold BatS.enc; rw [List.length_append, items_len]
 have hl : ((b.pre b.crc).len - 49).toNat = b.rowsB.length := by show ((49 + (b.rowsB.length : Int)) - 49).toNat = _; omega
 unfold reBat
 have hp2 : rePre (b.enc ++ t) = .ok (b.pre b.crc) := hp
 rw [hp2]
 simp only
 rw [hl, if_neg (by rw [List.length_append, hle]; omega)]
 have t1 : (b.enc ++ t).take 61 = encInts (b.pre b.crc).items := by
  unfold BatS.enc
  rw [List.append_assoc, List.take_left' (items_len _)]
 have t2 : ((b.enc ++ t).drop 61).take b.rowsB.length = b.rowsB := by
  unfold BatS.enc
  rw [List.append_assoc, List.drop_left' (items_len _), List.take_left]
 rw [t1, t2, asmB_back h hf]
 simp only
 rw [hle]
def FitW (l : List (RecS × Value)) : Prop := ∀ x ∈ l, x.1.R ∧ x.1.hdrs.length ≤ 9223372036854775807 ∧ HFit x.1.hdrs ∧ x.1.key.data.length ≤ 140737488351232 ∧ x.1.val.data.length ≤ 140737488351232
def hAll : List HdrS → Bool
  | [] => true
  | h :: t => decide (h.key.length + h.val.data.length ≤ 100) && hAll t
def smallRec (x : RecS) : Bool := decide (x.key.data.length + x.val.data.length ≤ 100) && (decide (x.hdrs.length ≤ 6) && hAll x.hdrs)
def rAll : List RecS → Bool
  | [] => true
  | r :: t => smallRec r && rAll t
def smallB (l : List RecS) : Bool := decide (l.length ≤ 12) && rAll l
theorem hAll_sum : ∀ (l : List HdrS), hAll l = true → hsum l ≤ 101 * l.length
  | [], _ => by simp [hsum]
  | h :: t, hh => by
    simp only [hAll, Bool.and_eq_true, decide_eq_true_eq] at hh
    have := hAll_sum t hh.2
    simp only [hsum, List.length_cons, List.map_cons, List.sum_cons] at *
    omega
theorem rAll_mem : ∀ (l : List RecS), rAll l = true → ∀ x ∈ l, smallRec x = true
  | [], _, _, h => by cases h
  | r :: t, hh, x, hx => by
    simp only [rAll, Bool.and_eq_true] at hh
    rcases List.mem_cons.1 hx with rfl | hx
    · exact hh.1
    · exact rAll_mem t hh.2 x hx
theorem smallRec_sum {x : RecS} (h : smallRec x = true) : x.sum ≤ 1000 := by
 unfold smallRec at h
 simp only [Bool.and_eq_true, decide_eq_true_eq] at h
 have := hAll_sum _ h.2.2
 unfold RecS.sum
 omega
theorem FitW.fit {l : List (RecS × Value)} (h : FitW l) (hs : smallB (l.map (·.1)) = true) : FitB l := by
 intro x hx
 unfold smallB at hs
 simp only [Bool.and_eq_true] at hs
 have h1 := smallRec_sum (rAll_mem _ hs.2 x.1 (List.mem_map.2 ⟨x, hx, rfl⟩))
 obtain ⟨a, b, c, _⟩ := h x hx
 exact ⟨a, c, by omega⟩
theorem smallB_len {l : List (RecS × Value)} (hs : smallB (l.map (·.1)) = true) : l.length ≤ 12 := by
 unfold smallB at hs
 simp only [Bool.and_eq_true, decide_eq_true_eq, List.length_map] at hs
 exact hs.1
theorem drop_hdrs (l : List HdrS) (k : Nat) (h : k < l.length) : l.drop k = l[k] :: l.drop (k + 1) := List.drop_eq_getElem_cons h
set_option maxHeartbeats 1000000 in
set_option maxRecDepth 100000 in
theorem ref11_times (base leader : Int) (app txn ctl : Bool) (last first maxt prod epoch sq : Int) (l : List (RecS × Value)) (q : Option Addr) (cap : Nat) (G : Int) (hG : rowsC first last (l.map (·.1)) (-1) first = .ok G) (hf : 0 ≤ first ∧ first ≤ 9223372036854775807) (hfit : FitB l) (hll : l.length ≤ 1000000) {W0 w : World} {K : Know} {L : List Res} (hk : K.has (Know.recs (.slice q l.length cap) l)) (h : St W0 w K L) :
  Calls Tryz.prog 43 #[.agg #[.int .i64 base, .int .i64 leader, .bool app, .bool txn, .bool ctl, .int .i64 last, .int .i64 first, .int .i64 maxt, .int .i64 prod, .int .i64 epoch, .int .i64 sq, .slice q l.length cap]] w fun en w' => en = .returned (.int .i64 G) ∧ St W0 w' K L := by
 have HT := Lib.hid hG
 have HK := Lib.hid hk
 have HFT := Lib.hid hfit
 have HF := Lib.hid hf
 obtain ⟨nf, hnf⟩ : ∃ m, -first = m := ⟨_, rfl⟩
 obtain ⟨mf, hmf⟩ : ∃ m, 9223372036854775807 - first = m := ⟨_, rfl⟩
 have HNF := Lib.hid hnf
 have HMF := Lib.hid hmf
 have n1 : wrap64 (-first) = nf := by rw [← hnf]; unfold wrap64; omega
 have n2 : IntKind.i64.wrap (-first) = nf := by rw [← hnf]; exact IntWalk.i64_in _ (by omega)
 have m1 : wrap64 (9223372036854775807 - first) = mf := by rw [← hmf]; unfold wrap64; omega
 have m2 : IntKind.i64.wrap (9223372036854775807 - first) = mf := by rw [← hmf]; exact IntWalk.i64_in _ (by omega)
 have h1 := h.allocRaw #[.int .i64 base, .int .i64 leader, .bool app, .bool txn, .bool ctl, .int .i64 last, .int .i64 first, .int .i64 maxt, .int .i64 prod, .int .i64 epoch, .int .i64 sq, .slice q l.length cap] 26
 obtain ⟨hb, hhb⟩ : ∃ b, w.heap.size = b := ⟨_, rfl⟩
 rw [hhb] at h1
 obtain ⟨x0, x1, x2, x3, x4, x5, x6, x7, x8, x9, x10, x11, y0, y1, y2, y3, y4, y5, y6, y7, y8, y9, y10, y11⟩ := raw12 (b := hb) (h1)
 have H := Lib.hid h1
 clear h h1 hk hfit hG hnf hmf hf
 go_enter Tryz.func43, Tryz.ntmps43
 go_wp2
 clear x0 y0 x1 y1 x2 y2 x3 y3 x4 y4 x5 y5 x6 y6 x7 y7 x8 y8 x9 y9 x10 y10 x11 y11
 go_loopw [3, 4, 5] (fun gv iv _ wr => ∃ (k : Nat) (ah g : Int), k ≤ l.length ∧ gv = .int .i64 g ∧ iv = .int .i64 k ∧ Hid (rowsC first last ((l.map (·.1)).drop k) ah g = .ok G) ∧ St W0 wr K (.raw hb #[.int .i64 base, .int .i64 leader, .bool app, .bool txn, .bool ctl, .int .i64 last, .int .i64 first, .int .i64 maxt, .int .i64 prod, .int .i64 epoch, .int .i64 sq, .slice q l.length cap] 26 :: L)) (fun _ iv _ _ => l.length - (intOf iv).toNat)
 case atStart => exact ⟨0, -1, first, Nat.zero_le _, rfl, rfl, HT, H.out⟩
 case round =>
  obtain ⟨k, ah, g, hkl, rfl, rfl, HC, hst⟩ := hrel
  clear H
  have H := Lib.hid hst
  clear hst
  obtain ⟨x0, x1, x2, x3, x4, x5, x6, x7, x8, x9, x10, x11, y0, y1, y2, y3, y4, y5, y6, y7, y8, y9, y10, y11⟩ := raw12 (b := hb) (H.out)
  by_cases hlt : k < l.length
  · have hd := drop_recs l k hlt _ rfl
    obtain ⟨b, off, hqq⟩ := recs_at HK.out H.out (by omega)
    subst hqq
    obtain ⟨⟨x, vx⟩, hx⟩ : ∃ x, l[k] = x := ⟨_, rfl⟩
    have cc := recs_cell HK.out H.out k hlt (x, vx) hx
    have hmem : (x, vx) ∈ l := hx ▸ List.getElem_mem hlt
    have xf : x.R ∧ HFit x.hdrs ∧ x.sum ≤ 1000000 := HFT.out (x, vx) hmem
    have xk : K.has (Know.flat RHdr vx 3 x.hdrs) := recs_hdrs HK.out hmem
    obtain ⟨qx, capx, hvx⟩ := flat_form xk H.out
    subst hvx
    simp only at cc
    obtain ⟨c0, c1, c2, c3, c4, c5, c6⟩ := cc
    rw [← Nat.add_assoc] at c1 c2 c3 c4 c5 c6
    have hx1 : l[k].1 = x := by rw [hx]
    have XF := Lib.hid xf
    have XK := Lib.hid xk
    have HX := Lib.hid hx1
    clear xf xk hx1 hx hmem
    have hki : (k : Int) < (l.length : Int) := by omega
    rw [HX.out] at hd
    have hc := HC.out
    rw [hd, rowsC_cons] at hc
    by_cases c1 : x.off ≤ ah ∨ last < x.off
    · rw [if_pos c1] at hc; cases hc
    rw [if_neg c1] at hc
    by_cases c3 : x.time < -first ∨ 9223372036854775807 - first < x.time
    · rw [if_pos c3] at hc; cases hc
    rw [if_neg c3] at hc
    have d1 : decide (mf < x.time) = false := by rw [← HMF.out]; exact decide_eq_false (by omega)
    have d2 : decide (x.time < nf) = false := by rw [← HNF.out]; exact decide_eq_false (by omega)
    obtain ⟨ft, hft⟩ : ∃ t, first + x.time = t := ⟨_, rfl⟩
    have f1 : wrap64 (first + x.time) = ft := by have := HF.out; rw [← hft]; unfold wrap64; omega
    have f2 : IntKind.i64.wrap (first + x.time) = ft := by have := HF.out; rw [← hft]; exact IntWalk.i64_in _ (by omega)
    rw [hft] at hc
    by_cases c4 : g < ft
    · have d4 : decide (g < ft) = true := decide_eq_true c4
      have HC2 := Lib.hid (show rowsC first last ((l.map (·.1)).drop (k + 1)) x.off ft = .ok G by rw [Int.max_eq_right (by omega)] at hc; exact hc)
      clear hd hc c1 c3 c4 hft
      go_wp2
      go_roundw
      case rel => exact ⟨k + 1, x.off, ft, hlt, rfl, by go_num, HC2, H.out⟩
      case measure => first | (simp [intOf]; done) | (simp [intOf]; omega)
    · have d4 : decide (g < ft) = false := decide_eq_false c4
      have HC2 := Lib.hid (show rowsC first last ((l.map (·.1)).drop (k + 1)) x.off g = .ok G by rw [Int.max_eq_left (by omega)] at hc; exact hc)
      clear hd hc c1 c3 c4 hft
      go_wp2
      go_roundw
      case rel => exact ⟨k + 1, x.off, g, hlt, rfl, by go_num, HC2, H.out⟩
      case measure => first | (simp [intOf]; done) | (simp [intOf]; omega)
  · obtain rfl : l.length = k := by omega
    have hc := HC.out
    rw [List.drop_of_length_le (by simp)] at hc
    obtain rfl : g = G := by have hc : Except.ok g = Except.ok G := hc; cases hc; rfl
    clear hc
    go_wp2
    go_ret
    exact ⟨rfl, H.out.drop⟩
def PrevIs (l : List (RecS × Value)) (k : Nat) (ah : Int) : Prop := (k = 0 ∧ ah = -1) ∨ (∃ (j : Nat) (h : j < l.length), k = j + 1 ∧ (l[j]'h).1.off = ah ∧ 0 ≤ ah)
set_option maxHeartbeats 1000000 in
set_option maxRecDepth 100000 in
theorem ref11_orders (base leader : Int) (app txn ctl : Bool) (last first maxt prod epoch sq : Int) (l : List (RecS × Value)) (q : Option Addr) (cap : Nat) (e : Int) (he : BatS.rows ⟨base, leader, app, txn, ctl, last, first, maxt, prod, epoch, sq, l.map (·.1)⟩ = e) (hf : 0 ≤ first ∧ first ≤ 9223372036854775807) (hfit : FitB l) (hll : l.length ≤ 1000000) {W0 w : World} {K : Know} {L : List Res} (hk : K.has (Know.recs (.slice q l.length cap) l)) (h : St W0 w K L) :
  Calls Tryz.prog 20 #[.agg #[.int .i64 base, .int .i64 leader, .bool app, .bool txn, .bool ctl, .int .i64 last, .int .i64 first, .int .i64 maxt, .int .i64 prod, .int .i64 epoch, .int .i64 sq, .slice q l.length cap]] w fun en w' => en = .returned (.int .i64 e) ∧ St W0 w' K L := by
 obtain ⟨tot, htot⟩ : ∃ t, rowsC first last (l.map (·.1)) (-1) first = t := ⟨_, rfl⟩
 have HE := Lib.hid (show rowsE app maxt tot = e by rw [← he, ← htot]; rfl)
 have HT := Lib.hid htot
 have HLL := Lib.hid hll
 have HK := Lib.hid hk
 have HFT := Lib.hid hfit
 have HF := Lib.hid hf
 obtain ⟨nf, hnf⟩ : ∃ m, -first = m := ⟨_, rfl⟩
 obtain ⟨mf, hmf⟩ : ∃ m, 9223372036854775807 - first = m := ⟨_, rfl⟩
 have HNF := Lib.hid hnf
 have HMF := Lib.hid hmf
 have n1 : wrap64 (-first) = nf := by rw [← hnf]; unfold wrap64; omega
 have n2 : IntKind.i64.wrap (-first) = nf := by rw [← hnf]; exact IntWalk.i64_in _ (by omega)
 have m1 : wrap64 (9223372036854775807 - first) = mf := by rw [← hmf]; unfold wrap64; omega
 have m2 : IntKind.i64.wrap (9223372036854775807 - first) = mf := by rw [← hmf]; exact IntWalk.i64_in _ (by omega)
 have h1 := h.allocRaw #[.int .i64 base, .int .i64 leader, .bool app, .bool txn, .bool ctl, .int .i64 last, .int .i64 first, .int .i64 maxt, .int .i64 prod, .int .i64 epoch, .int .i64 sq, .slice q l.length cap] 26
 obtain ⟨hb, hhb⟩ : ∃ b, w.heap.size = b := ⟨_, rfl⟩
 rw [hhb] at h1
 obtain ⟨x0, x1, x2, x3, x4, x5, x6, x7, x8, x9, x10, x11, y0, y1, y2, y3, y4, y5, y6, y7, y8, y9, y10, y11⟩ := raw12 (b := hb) (h1)
 have H := Lib.hid h1
 have HP := Lib.hid (show PrevIs l 0 (-1) from .inl ⟨rfl, rfl⟩)
 clear h h1 hk hfit he htot hnf hmf hf
 go_enter Tryz.func20, Tryz.ntmps20
 go_wp2
 clear x0 y0 x1 y1 x2 y2 x3 y3 x4 y4 x5 y5 x6 y6 x7 y7 x8 y8 x9 y9 x10 y10 x11 y11
 go_loopw [3, 4, 5] (fun iv _ _ wr => ∃ (k : Nat) (ah g : Int), k ≤ l.length ∧ iv = .int .i64 k ∧ Hid (rowsC first last ((l.map (·.1)).drop k) ah g = tot) ∧ Hid (PrevIs l k ah) ∧ St W0 wr K (.raw hb #[.int .i64 base, .int .i64 leader, .bool app, .bool txn, .bool ctl, .int .i64 last, .int .i64 first, .int .i64 maxt, .int .i64 prod, .int .i64 epoch, .int .i64 sq, .slice q l.length cap] 26 :: L)) (fun iv _ _ _ => l.length - (intOf iv).toNat)
 case atStart => exact ⟨0, -1, first, Nat.zero_le _, rfl, HT, HP, H.out⟩
 case round =>
  obtain ⟨k, ah, g, hkl, rfl, HC, PR, hst⟩ := hrel
  clear H
  have H := Lib.hid hst
  clear hst
  obtain ⟨x0, x1, x2, x3, x4, x5, x6, x7, x8, x9, x10, x11, y0, y1, y2, y3, y4, y5, y6, y7, y8, y9, y10, y11⟩ := raw12 (b := hb) (H.out)
  by_cases hlt : k < l.length
  · have hd := drop_recs l k hlt _ rfl
    obtain ⟨b, off, hqq⟩ := recs_at HK.out H.out (by omega)
    subst hqq
    obtain ⟨⟨x, vx⟩, hx⟩ : ∃ x, l[k] = x := ⟨_, rfl⟩
    have cc := recs_cell HK.out H.out k hlt (x, vx) hx
    have hmem : (x, vx) ∈ l := hx ▸ List.getElem_mem hlt
    have xf : x.R ∧ HFit x.hdrs ∧ x.sum ≤ 1000000 := HFT.out (x, vx) hmem
    have xk : K.has (Know.flat RHdr vx 3 x.hdrs) := recs_hdrs HK.out hmem
    obtain ⟨qx, capx, hvx⟩ := flat_form xk H.out
    subst hvx
    simp only at cc
    obtain ⟨c0, c1, c2, c3, c4, c5, c6⟩ := cc
    rw [← Nat.add_assoc] at c1 c2 c3 c4 c5 c6
    have hx1 : l[k].1 = x := by rw [hx]
    have XF := Lib.hid xf
    have XK := Lib.hid xk
    have HX := Lib.hid hx1
    clear xf xk hx1 hx hmem
    have hki : (k : Int) < (l.length : Int) := by omega
    rw [HX.out] at hd
    have hc := HC.out
    rw [hd, rowsC_cons] at hc
    clear hd
    by_cases c2 : last < x.off
    · have d2 : decide (last < x.off) = true := decide_eq_true c2
      rw [if_pos (.inr c2)] at hc
      clear c2
      obtain rfl : 13 = e := by have := HE.out; rw [← hc] at this; exact this
      go_wp2
      go_ret
      exact ⟨rfl, H.out.drop⟩
    · have d2 : decide (last < x.off) = false := decide_eq_false c2
      have PR2 := Lib.hid (show 0 ≤ x.off → PrevIs l (k + 1) x.off from fun h0 => .inr ⟨k, hlt, rfl, by rw [HX.out], h0⟩)
      rcases PR.out with ⟨hk0, rfl⟩ | ⟨j, hj, hk1, hjo, ha0⟩
      · have dk : decide ((0 : Int) < (k : Int)) = false := decide_eq_false (by omega)
        have dk2 : decide (0 < k) = false := decide_eq_false (by omega)
        clear hk0
        by_cases c5 : x.off < 0
        · have d5 : decide (x.off < 0) = true := decide_eq_true c5
          rw [if_pos (.inl (by omega))] at hc
          clear c2 c5
          obtain rfl : 13 = e := by have := HE.out; rw [← hc] at this; exact this
          go_wp2
          go_ret
          exact ⟨rfl, H.out.drop⟩
        · have d5 : decide (x.off < 0) = false := decide_eq_false c5
          rw [if_neg (by omega)] at hc
          replace PR2 := Lib.hid (PR2.out (by omega))
          clear c2 c5
          by_cases c3 : 9223372036854775807 - first < x.time
          · have d3 : decide (mf < x.time) = true := by rw [← HMF.out]; exact decide_eq_true c3
            rw [if_pos (.inr c3)] at hc
            obtain rfl : 11 = e := by have := HE.out; rw [← hc] at this; exact this
            clear c3 hc
            go_wp2
            go_ret
            exact ⟨rfl, H.out.drop⟩
          · have d3 : decide (mf < x.time) = false := by rw [← HMF.out]; exact decide_eq_false c3
            by_cases c4 : x.time < -first
            · have d4 : decide (x.time < nf) = true := by rw [← HNF.out]; exact decide_eq_true c4
              rw [if_pos (.inl c4)] at hc
              obtain rfl : 11 = e := by have := HE.out; rw [← hc] at this; exact this
              clear c3 c4 hc
              go_wp2
              go_ret
              exact ⟨rfl, H.out.drop⟩
            · have d4 : decide (x.time < nf) = false := by rw [← HNF.out]; exact decide_eq_false c4
              rw [if_neg (by omega)] at hc
              have HC2 := Lib.hid hc
              clear c3 c4 hc
              go_wp2
              go_roundw
              case rel => exact ⟨k + 1, x.off, _, hlt, by go_num, HC2, PR2, H.out⟩
              case measure => first | (simp [intOf]; done) | (simp [intOf]; omega)
      · have dk : decide ((0 : Int) < (k : Int)) = true := decide_eq_true (by omega)
        have dk2 : decide (0 < k) = true := decide_eq_true (by omega)
        have kj : (k : Int) - 1 = (j : Int) := by omega
        obtain ⟨⟨y, vy⟩, hy⟩ : ∃ y, l[j] = y := ⟨_, rfl⟩
        have cy := recs_cell HK.out H.out j hj (y, vy) hy
        rw [hy] at hjo
        simp only at cy hjo
        obtain ⟨_, g1, _⟩ := cy
        rw [← Nat.add_assoc, hjo] at g1
        have hjl : (j : Int) < (l.length : Int) := by omega
        have hj0 : (0 : Int) ≤ (j : Int) := by omega
        clear hy hk1 hj
        by_cases c1 : x.off ≤ ah
        · have d1 : decide (x.off ≤ ah) = true := decide_eq_true c1
          rw [if_pos (.inl c1)] at hc
          clear c1 c2
          obtain rfl : 13 = e := by have := HE.out; rw [← hc] at this; exact this
          go_wp2
          go_ret
          exact ⟨rfl, H.out.drop⟩
        · have d1 : decide (x.off ≤ ah) = false := decide_eq_false c1
          have d5 : decide (x.off < 0) = false := decide_eq_false (by omega)
          rw [if_neg (by omega)] at hc
          replace PR2 := Lib.hid (PR2.out (by omega))
          clear c1 c2
          by_cases c3 : 9223372036854775807 - first < x.time
          · have d3 : decide (mf < x.time) = true := by rw [← HMF.out]; exact decide_eq_true c3
            rw [if_pos (.inr c3)] at hc
            obtain rfl : 11 = e := by have := HE.out; rw [← hc] at this; exact this
            clear c3 hc
            go_wp2
            go_ret
            exact ⟨rfl, H.out.drop⟩
          · have d3 : decide (mf < x.time) = false := by rw [← HMF.out]; exact decide_eq_false c3
            by_cases c4 : x.time < -first
            · have d4 : decide (x.time < nf) = true := by rw [← HNF.out]; exact decide_eq_true c4
              rw [if_pos (.inl c4)] at hc
              obtain rfl : 11 = e := by have := HE.out; rw [← hc] at this; exact this
              clear c3 c4 hc
              go_wp2
              go_ret
              exact ⟨rfl, H.out.drop⟩
            · have d4 : decide (x.time < nf) = false := by rw [← HNF.out]; exact decide_eq_false c4
              rw [if_neg (by omega)] at hc
              have HC2 := Lib.hid hc
              clear c3 c4 hc
              go_wp2
              go_roundw
              case rel => exact ⟨k + 1, x.off, _, hlt, by go_num, HC2, PR2, H.out⟩
              case measure => first | (simp [intOf]; done) | (simp [intOf]; omega)
  · obtain rfl : l.length = k := by omega
    have hc := HC.out
    rw [List.drop_of_length_le (by simp)] at hc
    obtain rfl : Except.ok g = tot := hc
    have hee := HE.out
    simp only [rowsE] at hee
    cases app with
    | true =>
      obtain rfl : 0 = e := by rw [← hee]; rfl
      clear hee
      go_upto_region 10 with (fail)
      have hs := H.out.drew
      refine wp_region_held_drew (S := fun w' => w'.cell? ⟨hb, 0, none⟩ = some (.int .i64 base) ∧ w'.cell? ⟨hb, 1, none⟩ = some (.int .i64 leader) ∧ w'.cell? ⟨hb, 2, none⟩ = some (.bool true) ∧ w'.cell? ⟨hb, 3, none⟩ = some (.bool txn) ∧ w'.cell? ⟨hb, 4, none⟩ = some (.bool ctl) ∧ w'.cell? ⟨hb, 5, none⟩ = some (.int .i64 last) ∧ w'.cell? ⟨hb, 6, none⟩ = some (.int .i64 first) ∧ w'.cell? ⟨hb, 7, none⟩ = some (.int .i64 maxt) ∧ w'.cell? ⟨hb, 8, none⟩ = some (.int .i64 prod) ∧ w'.cell? ⟨hb, 9, none⟩ = some (.int .i64 epoch) ∧ w'.cell? ⟨hb, 10, none⟩ = some (.int .i64 sq) ∧ w'.cell? ⟨hb, 11, none⟩ = some (.slice q l.length cap)) (by kernel_rfl) (let ⟨x0, x1, x2, x3, x4, x5, x6, x7, x8, x9, x10, x11, _⟩ := raw12 (b := hb) hs; ⟨x0, x1, x2, x3, x4, x5, x6, x7, x8, x9, x10, x11⟩) (fun hHeld => ?_)
      refine tQ 0 ⟨some 60, .fieldAddr 26 (.tmp 1) 2, 0, "ref.go:60", #[], none⟩ ?_; simp only [Act.put, sA, sB, sC]
      refine tQ 1 ⟨some 61, .load 4 (.tmp 60), 4, "ref.go:60", #[.mk 0 .data], none⟩ ?_; simp only [Act.put, sA, sB, sC]
      refine tQ 2 ⟨some 62, .unOp UnOp.not 4 (.tmp 61), 4, "ref.go:60", #[.mk 1 .data], none⟩ ?_; simp only [Act.put, sA, sB, sC]
      refine tQ 3 ⟨some 63, .move (.tmp 62), 4, "ref.go:60", #[.mk 2 .data], none⟩ ?_; simp only [Act.put, sA, sB, sC]
      refine wpAnyH_take (i := 4) (oi := ⟨some 64, .load 26 (.tmp 1), 26, "ref.go:60", #[.mk 3 .guard], some (3, true)⟩) (v := undef) rfl (by kernel_rfl) (by kernel_rfl) (by kernel_rfl) (fun _ _ _ h => h) (Or.inr ⟨by rfl, rfl⟩) (by assumption) ?_
      simp only [Act.put, sA, sB, sC]
      refine wpAnyH_take (i := 5) (oi := ⟨some 65, .call { callee := .value (.func 43), args := #[.tmp 64], argTypes := #[26] }, 3, "ref.go:60", #[.mk 4 .data, .mk 3 .chain, .mk 3 .guard], some (3, true)⟩) (v := undef) rfl (by kernel_rfl) (by kernel_rfl) (by kernel_rfl) (fun _ _ _ h => h) (Or.inr ⟨by rfl, rfl⟩) (by assumption) ?_
      simp only [Act.put, sA, sB, sC]
      refine wpAnyH_take (i := 6) (oi := ⟨some 66, .fieldAddr 26 (.tmp 1) 7, 0, "ref.go:60", #[.mk 3 .guard], some (3, true)⟩) (v := undef) rfl (by kernel_rfl) (by kernel_rfl) (by kernel_rfl) (fun _ _ _ h => h) (Or.inr ⟨by rfl, rfl⟩) (by assumption) ?_
      simp only [Act.put, sA, sB, sC]
      refine wpAnyH_take (i := 7) (oi := ⟨some 67, .load 3 (.tmp 66), 3, "ref.go:60", #[.mk 6 .data, .mk 3 .guard], some (3, true)⟩) (v := undef) rfl (by kernel_rfl) (by kernel_rfl) (by kernel_rfl) (fun _ _ _ h => h) (Or.inr ⟨by rfl, rfl⟩) (by assumption) ?_
      simp only [Act.put, sA, sB, sC]
      refine wpAnyH_take (i := 8) (oi := ⟨some 68, .binOp .neq 3 (.tmp 65) (.tmp 67) 3, 4, "ref.go:60", #[.mk 5 .data, .mk 7 .data, .mk 3 .guard], some (3, true)⟩) (v := undef) rfl (by kernel_rfl) (by kernel_rfl) (by kernel_rfl) (fun _ _ _ h => h) (Or.inr ⟨by rfl, rfl⟩) (by assumption) ?_
      simp only [Act.put, sA, sB, sC]
      refine tQ 9 ⟨some 69, .pick (.tmp 63) (.tmp 68) (.const (Value.bool false)), 4, "ref.go:60", #[.mk 3 .data, .mk 8 .data], none⟩ ?_; simp only [Act.put, sA, sB, sC]
      refine wpAnyH_done (by kernel_rfl) ?_ _
      clear hHeld
      go_wp2_with fail
      go_ret
      exact ⟨rfl, hs.drop⟩
    | false =>
      have HG := Lib.hid (show rowsC first last (l.map (·.1)) (-1) first = .ok g from HT.out)
      by_cases c1 : maxt = g
      · subst c1
        obtain rfl : 0 = e := by rw [← hee]; simp
        clear hee
        go_upto_region 10 with (fail)
        have hs := H.out.drew
        refine wp_region_held_drew (S := fun w' => w'.cell? ⟨hb, 0, none⟩ = some (.int .i64 base) ∧ w'.cell? ⟨hb, 1, none⟩ = some (.int .i64 leader) ∧ w'.cell? ⟨hb, 2, none⟩ = some (.bool false) ∧ w'.cell? ⟨hb, 3, none⟩ = some (.bool txn) ∧ w'.cell? ⟨hb, 4, none⟩ = some (.bool ctl) ∧ w'.cell? ⟨hb, 5, none⟩ = some (.int .i64 last) ∧ w'.cell? ⟨hb, 6, none⟩ = some (.int .i64 first) ∧ w'.cell? ⟨hb, 7, none⟩ = some (.int .i64 maxt) ∧ w'.cell? ⟨hb, 8, none⟩ = some (.int .i64 prod) ∧ w'.cell? ⟨hb, 9, none⟩ = some (.int .i64 epoch) ∧ w'.cell? ⟨hb, 10, none⟩ = some (.int .i64 sq) ∧ w'.cell? ⟨hb, 11, none⟩ = some (.slice q l.length cap)) (by kernel_rfl) (let ⟨x0, x1, x2, x3, x4, x5, x6, x7, x8, x9, x10, x11, _⟩ := raw12 (b := hb) hs; ⟨x0, x1, x2, x3, x4, x5, x6, x7, x8, x9, x10, x11⟩) (fun hHeld => ?_)
        refine tQ 0 ⟨some 60, .fieldAddr 26 (.tmp 1) 2, 0, "ref.go:60", #[], none⟩ ?_; simp only [Act.put, sA, sB, sC]
        refine tQ 1 ⟨some 61, .load 4 (.tmp 60), 4, "ref.go:60", #[.mk 0 .data], none⟩ ?_; simp only [Act.put, sA, sB, sC]
        refine tQ 2 ⟨some 62, .unOp UnOp.not 4 (.tmp 61), 4, "ref.go:60", #[.mk 1 .data], none⟩ ?_; simp only [Act.put, sA, sB, sC]
        refine tQ 3 ⟨some 63, .move (.tmp 62), 4, "ref.go:60", #[.mk 2 .data], none⟩ ?_; simp only [Act.put, sA, sB, sC]
        refine tQ 4 ⟨some 64, .load 26 (.tmp 1), 26, "ref.go:60", #[.mk 3 .guard], some (3, true)⟩ ?_; simp only [Act.put, sA, sB, sC]
        refine tQ 6 ⟨some 66, .fieldAddr 26 (.tmp 1) 7, 0, "ref.go:60", #[.mk 3 .guard], some (3, true)⟩ ?_; simp only [Act.put, sA, sB, sC]
        refine tQ 7 ⟨some 67, .load 3 (.tmp 66), 3, "ref.go:60", #[.mk 6 .data, .mk 3 .guard], some (3, true)⟩ ?_; simp only [Act.put, sA, sB, sC]
        refine wpAnyH_ready (rs := [5]) (by kernel_rfl) (by simp) (AllReadyH.cons (o := ⟨some 65, .call { callee := .value (.func 43), args := #[.tmp 64], argTypes := #[26] }, 3, "ref.go:60", #[.mk 4 .data, .mk 3 .chain, .mk 3 .guard], some (3, true)⟩) rfl (fun KK hK => ?_) AllReadyH.nil)
        · go_simp
          go_at_call 43
          with_reducible refine (ref11_times base leader false txn ctl last first maxt prod epoch sq l _ _ _ HG.out HF.out HFT.out HLL.out HK.out hs).mono ?_
          rintro e wq ⟨rfl, hs⟩
          refine hK.out _ _ (let ⟨x0, x1, x2, x3, x4, x5, x6, x7, x8, x9, x10, x11, _⟩ := raw12 (b := hb) hs; ⟨x0, x1, x2, x3, x4, x5, x6, x7, x8, x9, x10, x11⟩) (fun hHeld => ?_)
          clear hK KK
          try simp only [Act.put, sA, sB, sC]
          refine tQ 8 ⟨some 68, .binOp .neq 3 (.tmp 65) (.tmp 67) 3, 4, "ref.go:60", #[.mk 5 .data, .mk 7 .data, .mk 3 .guard], some (3, true)⟩ ?_; simp only [Act.put, sA, sB, sC]
          refine tQ 9 ⟨some 69, .pick (.tmp 63) (.tmp 68) (.const (Value.bool false)), 4, "ref.go:60", #[.mk 3 .data, .mk 8 .data], none⟩ ?_; simp only [Act.put, sA, sB, sC]
          refine wpAnyH_done (by kernel_rfl) ?_ _
          clear hHeld
          go_wp2_with fail
          go_ret
          exact ⟨rfl, hs.drop⟩
      · obtain rfl : 11 = e := by rw [← hee]; simp [c1]
        have b1 : (g == maxt) = false := by rw [beq_eq_false_iff_ne]; exact fun h => c1 h.symm
        have b2 : (g != maxt) = true := by simp [bne, b1]
        clear hee c1
        go_upto_region 10 with (fail)
        have hs := H.out.drew
        refine wp_region_held_drew (S := fun w' => w'.cell? ⟨hb, 0, none⟩ = some (.int .i64 base) ∧ w'.cell? ⟨hb, 1, none⟩ = some (.int .i64 leader) ∧ w'.cell? ⟨hb, 2, none⟩ = some (.bool false) ∧ w'.cell? ⟨hb, 3, none⟩ = some (.bool txn) ∧ w'.cell? ⟨hb, 4, none⟩ = some (.bool ctl) ∧ w'.cell? ⟨hb, 5, none⟩ = some (.int .i64 last) ∧ w'.cell? ⟨hb, 6, none⟩ = some (.int .i64 first) ∧ w'.cell? ⟨hb, 7, none⟩ = some (.int .i64 maxt) ∧ w'.cell? ⟨hb, 8, none⟩ = some (.int .i64 prod) ∧ w'.cell? ⟨hb, 9, none⟩ = some (.int .i64 epoch) ∧ w'.cell? ⟨hb, 10, none⟩ = some (.int .i64 sq) ∧ w'.cell? ⟨hb, 11, none⟩ = some (.slice q l.length cap)) (by kernel_rfl) (let ⟨x0, x1, x2, x3, x4, x5, x6, x7, x8, x9, x10, x11, _⟩ := raw12 (b := hb) hs; ⟨x0, x1, x2, x3, x4, x5, x6, x7, x8, x9, x10, x11⟩) (fun hHeld => ?_)
        refine tQ 0 ⟨some 60, .fieldAddr 26 (.tmp 1) 2, 0, "ref.go:60", #[], none⟩ ?_; simp only [Act.put, sA, sB, sC]
        refine tQ 1 ⟨some 61, .load 4 (.tmp 60), 4, "ref.go:60", #[.mk 0 .data], none⟩ ?_; simp only [Act.put, sA, sB, sC]
        refine tQ 2 ⟨some 62, .unOp UnOp.not 4 (.tmp 61), 4, "ref.go:60", #[.mk 1 .data], none⟩ ?_; simp only [Act.put, sA, sB, sC]
        refine tQ 3 ⟨some 63, .move (.tmp 62), 4, "ref.go:60", #[.mk 2 .data], none⟩ ?_; simp only [Act.put, sA, sB, sC]
        refine tQ 4 ⟨some 64, .load 26 (.tmp 1), 26, "ref.go:60", #[.mk 3 .guard], some (3, true)⟩ ?_; simp only [Act.put, sA, sB, sC]
        refine tQ 6 ⟨some 66, .fieldAddr 26 (.tmp 1) 7, 0, "ref.go:60", #[.mk 3 .guard], some (3, true)⟩ ?_; simp only [Act.put, sA, sB, sC]
        refine tQ 7 ⟨some 67, .load 3 (.tmp 66), 3, "ref.go:60", #[.mk 6 .data, .mk 3 .guard], some (3, true)⟩ ?_; simp only [Act.put, sA, sB, sC]
        refine wpAnyH_ready (rs := [5]) (by kernel_rfl) (by simp) (AllReadyH.cons (o := ⟨some 65, .call { callee := .value (.func 43), args := #[.tmp 64], argTypes := #[26] }, 3, "ref.go:60", #[.mk 4 .data, .mk 3 .chain, .mk 3 .guard], some (3, true)⟩) rfl (fun KK hK => ?_) AllReadyH.nil)
        · go_simp
          go_at_call 43
          with_reducible refine (ref11_times base leader false txn ctl last first maxt prod epoch sq l _ _ _ HG.out HF.out HFT.out HLL.out HK.out hs).mono ?_
          rintro e wq ⟨rfl, hs⟩
          refine hK.out _ _ (let ⟨x0, x1, x2, x3, x4, x5, x6, x7, x8, x9, x10, x11, _⟩ := raw12 (b := hb) hs; ⟨x0, x1, x2, x3, x4, x5, x6, x7, x8, x9, x10, x11⟩) (fun hHeld => ?_)
          clear hK KK
          try simp only [Act.put, sA, sB, sC]
          refine tQ 8 ⟨some 68, .binOp .neq 3 (.tmp 65) (.tmp 67) 3, 4, "ref.go:60", #[.mk 5 .data, .mk 7 .data, .mk 3 .guard], some (3, true)⟩ ?_; simp only [Act.put, sA, sB, sC]
          refine tQ 9 ⟨some 69, .pick (.tmp 63) (.tmp 68) (.const (Value.bool false)), 4, "ref.go:60", #[.mk 3 .data, .mk 8 .data], none⟩ ?_; simp only [Act.put, sA, sB, sC]
          refine wpAnyH_done (by kernel_rfl) ?_ _
          clear hHeld
          go_wp2_with fail
          go_ret
          exact ⟨rfl, hs.drop⟩

end Go.Proofs.YtolndcljbjlacaaGreat
