/- A text. -/
import Derived.Test.YtngojlinfdokpaaHdr3
import Derived.Test.YtngojlinfdokpaaRef06
import Derived.Test.YtngojlinfdokpaaRec5
import Derived.Test.YtngojlinfdokpaaBatP
import Derived.Test.YtngojlinfdokpaaCtl3
import Derived.Test.YtngojlinfdokpaaSep
import Derived.Deep.MidRow
import Derived.Test.YtngojlinfdokpaaBytesR
import Derived.Test.YtngojlinfdokpaaGrow
import Derived.Test.YtngojlinfdokpaaS1
import Derived.Test.YtngojlinfdokpaaHdr2
import Derived.Test.YtngojlinfdokpaaIntsP
import Derived.Test.YtngojlinfdokpaaSel
/- A text. -/
namespace Go.Proofs.Ytngojlinfdokpaa
open Go.RowKit

end Go.Proofs.Ytngojlinfdokpaa

/- A text. -/
namespace Go.Proofs.Ytngojlinfdokpaa
open Go.RowKit

def Fit (n : Nat) : Prop := n ≤ 140737488351232
def HFit (l : List HdrS) : Prop := ∀ x ∈ l, x.key.length ≤ 140737488351232 ∧ x.val.data.length ≤ 140737488351232
end Go.Proofs.Ytngojlinfdokpaa

/- A text. -/
namespace Go.Proofs.Ytngojlinfdokpaa
open Go.RowKit

theorem rec_readQ (p : Nat) (i : InS) (x : RecS) (k : InS) (hx : i.record = (x, k)) {W0 w : World} {K : Know} {L : List Res} (h : St W0 w K (.inp p i :: L)) :
  Calls Try.prog 82 #[inPtr p] w fun en w' => ∃ v, en = .returned (.agg #[.int .i64 x.time, .int .i64 x.off, .bool x.key.null, .string (bb x.key.data), .bool x.val.null, .string (bb x.val.data), v]) ∧ St W0 w' (K.and (Know.flat RHdr v 3 x.hdrs)) (.inp p k :: L) := by
 have h1 := rec_read p i h
 rw [hx] at h1
 exact h1

end Go.Proofs.Ytngojlinfdokpaa

/- A text. -/
namespace Go.Proofs.Ytngojlinfdokpaa
open Go.RowKit

theorem dropNext {l a r : Bs} {n : Nat} (h : l.drop n = a ++ r) : l.drop (n + a.length) = r := by rw [← List.drop_drop, h, List.drop_left]
theorem reInner_back (x : RecS) (hx : x.R) (ho : recOk x = 0) (hs : x.sum ≤ 1000000) : reInner (recF x) = .ok x := by
 obtain ⟨ho, hr⟩ := recOk_zero ho
 unfold RecS.allRight at hr
 rw [Bool.and_eq_true, Bool.and_eq_true] at hr
 unfold RecS.sum at hs
 have d1 : (recF x).drop 1 = encI x.time ++ (encI x.off ++ (encV x.key ++ (encV x.val ++ encHs x.hdrs))) := rfl
 have d2 := dropNext d1
 have d3 := dropNext d2
 have d4 := dropNext d3
 have d5 := dropNext d4
 have h0 : getIntN 1 (recF x) = .ok (0, 1) := by
  unfold getIntN
  rw [if_neg (by unfold recF; simp)]
  rfl
 have h1 : vgetL ((recF x).drop 1) = .ok (x.time, (encI x.time).length) := by rw [d1]; exact vgetL_put _ hx.1.1 hx.1.2 _
 have h2 : vgetI ((recF x).drop (1 + (encI x.time).length)) = .ok (x.off, (encI x.off).length) := by rw [d2]; exact vgetI_put _ (by omega) (by omega) _
 have h3 := revaried_back x.key hr.1.1 (by omega) (encV x.val ++ encHs x.hdrs)
 have h4 := revaried_back x.val hr.1.2 (by omega) (encHs x.hdrs)
 have h5' := reHdrs_back x.hdrs [] hr.2 (by omega)
 rw [List.append_nil] at h5'
 have h5 : reHdrs ((recF x).drop (1 + (encI x.time).length + (encI x.off).length + (encV x.key).length + (encV x.val).length)) = .ok (x.hdrs, (encHs x.hdrs).length) := by rw [d5]; exact h5'
 rw [← d3] at h3
 rw [← d4] at h4
 have hl : 1 + (encI x.time).length + (encI x.off).length + (encV x.key).length + (encV x.val).length + (encHs x.hdrs).length = (recF x).length := by
  unfold recF
  simp only [List.length_append, List.length_cons, List.length_nil]
  omega
 unfold reInner
 rw [h0]
 simp only [if_true]
 rw [h1]
 simp only
 rw [h2]
 simp only
 rw [if_neg (by omega), h3]
 simp only
 rw [h4]
 simp only
 rw [h5]
 simp only
 rw [if_pos hl]
end Go.Proofs.Ytngojlinfdokpaa

/- A text. -/
namespace Go.Proofs.Ytngojlinfdokpaa
open Go.RowKit

def Know.all {α : Type} (l : List α) (k : α → Know) : Know := ⟨fun w F => ∀ x ∈ l, (k x).p w F, fun w w' F h hs hk x hx => (k x).keep w w' F (h x hx) hs hk, fun w F F' h hs x hx => (k x).mono w F F' (h x hx) hs⟩
def RRec (cs : List Value) (x : RecS × Value) : Prop := cs = [.int .i64 x.1.time, .int .i64 x.1.off, .bool x.1.key.null, .string (bb x.1.key.data), .bool x.1.val.null, .string (bb x.1.val.data), x.2]
def rcells (x : RecS × Value) : List Value := [.int .i64 x.1.time, .int .i64 x.1.off, .bool x.1.key.null, .string (bb x.1.key.data), .bool x.1.val.null, .string (bb x.1.val.data), x.2]
def Know.recs (v : Value) (l : List (RecS × Value)) : Know := (Know.flat RRec v 7 l).and (Know.all l fun x => Know.flat RHdr x.2 3 x.1.hdrs)
theorem recs_flat {K : Know} {v : Value} {l : List (RecS × Value)} (h : K.has (Know.recs v l)) : K.has (Know.flat RRec v 7 l) := fun w F x => (h w F x).1
theorem recs_hdrs {K : Know} {v : Value} {l : List (RecS × Value)} (h : K.has (Know.recs v l)) {x : RecS × Value} (hx : x ∈ l) : K.has (Know.flat RHdr x.2 3 x.1.hdrs) := fun w F y => (h w F y).2 x hx
theorem recs_form {W0 w : World} {K : Know} {L : List Res} {v : Value} {l : List (RecS × Value)} (hk : K.has (Know.recs v l)) (h : St W0 w K L) : ∃ q cap, v = .slice q l.length cap := by
 obtain ⟨F, hF, _⟩ := h.get
 obtain ⟨q, cap, hv, _⟩ := (recs_flat hk _ _ hF).at
 exact ⟨q, cap, hv⟩
theorem recs_at {W0 w : World} {K : Know} {L : List Res} {q : Option Addr} {n cap : Nat} {l : List (RecS × Value)} (hk : K.has (Know.recs (.slice q n cap) l)) (h : St W0 w K L) (h0 : 0 < l.length) : ∃ b off, q = some ⟨b, off, none⟩ := by
 obtain ⟨F, hF, _⟩ := h.get
 obtain ⟨q2, cap2, hv, hr⟩ := (recs_flat hk _ _ hF).at
 obtain ⟨b, off, hq, _⟩ := hr h0
 simp at hv
 exact ⟨b, off, hv.1.trans hq⟩
theorem recs_cell {W0 w : World} {K : Know} {L : List Res} {b off n cap : Nat} {l : List (RecS × Value)} (hk : K.has (Know.recs (.slice (some ⟨b, off, none⟩) n cap) l)) (h : St W0 w K L) (i : Nat) (hi : i < l.length) (x : RecS × Value) (hx : l[i] = x) :
  w.cell? ⟨b, off + (i * 7), none⟩ = some (.int .i64 x.1.time) ∧ w.cell? ⟨b, off + (i * 7 + 1), none⟩ = some (.int .i64 x.1.off) ∧ w.cell? ⟨b, off + (i * 7 + 2), none⟩ = some (.bool x.1.key.null) ∧ w.cell? ⟨b, off + (i * 7 + 3), none⟩ = some (.string (bb x.1.key.data)) ∧ w.cell? ⟨b, off + (i * 7 + 4), none⟩ = some (.bool x.1.val.null) ∧ w.cell? ⟨b, off + (i * 7 + 5), none⟩ = some (.string (bb x.1.val.data)) ∧ w.cell? ⟨b, off + (i * 7 + 6), none⟩ = some (x.2) := by
 subst hx
 obtain ⟨F, hF, _⟩ := h.get
 obtain ⟨q2, cap2, hv, hr⟩ := (recs_flat hk _ _ hF).at
 obtain ⟨b2, off2, hq, hc⟩ := hr (by omega)
 rw [hq] at hv
 simp at hv
 obtain ⟨⟨rfl, rfl⟩, _, _⟩ := hv
 obtain ⟨cs, _, hR, hcs⟩ := hc i hi
 unfold RRec at hR
 subst hR
 exact ⟨hcs 0 _ rfl, hcs 1 _ rfl, hcs 2 _ rfl, hcs 3 _ rfl, hcs 4 _ rfl, hcs 5 _ rfl, hcs 6 _ rfl⟩
def encAll (l : List (RecS × Value)) : Bs := l.flatMap fun x => encR x.1
theorem encAll_snoc (l : List (RecS × Value)) (x : RecS × Value) : encAll (l ++ [x]) = encAll l ++ encR x.1 := by unfold encAll; simp
theorem encAll_take (l : List (RecS × Value)) (k : Nat) (h : k < l.length) : encAll (l.take (k + 1)) = encAll (l.take k) ++ encR l[k].1 := by rw [List.take_succ_eq_append_getElem h, encAll_snoc]
theorem reRec_back (x : RecS) (hx : x.R) (ho : recOk x = 0) (hs : x.sum ≤ 1000000) (r : Bs) : reRec (encR x ++ r) = .ok (x, (encR x).length) := by
 have hle := recF_le x hx hs
 have h1 := revaried_back ⟨false, recF x⟩ rfl (by simp only; omega) r
 unfold reRec encR
 rw [h1]
 simp only [Bool.false_eq_true, if_false]
 rw [reInner_back x hx ho hs]
end Go.Proofs.Ytngojlinfdokpaa

/- A text. -/
namespace Go.Proofs.Ytngojlinfdokpaa
open Go.RowKit

def FitB (l : List (RecS × Value)) : Prop := ∀ x ∈ l, x.1.R ∧ HFit x.1.hdrs ∧ x.1.sum ≤ 1000000
theorem sum_hdrs {x : RecS} (h : x.sum ≤ 1000000) : x.hdrs.length ≤ 1000000 := by have := hsum_le x.hdrs; unfold RecS.sum at h; omega
theorem sum_data {x : RecS} (h : x.sum ≤ 1000000) : x.key.data.length ≤ 140737488355328 ∧ x.val.data.length ≤ 140737488355328 := by unfold RecS.sum at h; omega
theorem drop_recs (l : List (RecS × Value)) (k : Nat) (h : k < l.length) (x : RecS) (hx : l[k].1 = x) : (l.map (·.1)).drop k = x :: (l.map (·.1)).drop (k + 1) := by
 subst hx
 rw [List.drop_eq_getElem_cons (by simpa using h), List.getElem_map]
theorem rowsC_cons (first last : Int) (r : RecS) (t : List RecS) (ah g : Int) : rowsC first last (r :: t) ah g = if r.off ≤ ah ∨ last < r.off then .error 13 else if r.time < -first ∨ 9223372036854775807 - first < r.time then .error 11 else rowsC first last t r.off (max g (first + r.time)) := rfl

end Go.Proofs.Ytngojlinfdokpaa

/- A text. -/
namespace Go.Proofs.Ytngojlinfdokpaa
open Go.RowKit

theorem rc_cell_tmp {P : Program} {fn : Func} {p t : Tmp} {ty : TypeId} (h : fn.results = #[.cell p ty, .tmp t]) (tmps : Array Value) (w : World) (b : Nat) (cs : List Value) (d : TypeDesc)
    (hp : tmps.getD p undef = .pointer (some ⟨b, 0, none⟩)) (hc : w.rangeAt b 0 cs) (hu : P.underlying ty = some d) (hd : d.isRow = true) (hi : (P.info? ty).map (·.size) = some cs.length) :
    (results fn tmps).run P w = .ok (.tuple #[.agg cs.toArray, tmps.getD t undef]) w := by
  have hp' : tmps[p]?.getD undef = .pointer (some ⟨b, 0, none⟩) := by simpa using hp
  simp [results, h, hp', asAddr, run_loadVar_mid w b 0 ty cs d hc hu hd hi]
theorem rc_cell_only {P : Program} {fn : Func} {p : Tmp} {ty : TypeId} (h : fn.results = #[.cell p ty]) (tmps : Array Value) (w : World) (b : Nat) (cs : List Value) (d : TypeDesc)
    (hp : tmps.getD p undef = .pointer (some ⟨b, 0, none⟩)) (hc : w.rangeAt b 0 cs) (hu : P.underlying ty = some d) (hd : d.isRow = true) (hi : (P.info? ty).map (·.size) = some cs.length) :
    (results fn tmps).run P w = .ok (.agg cs.toArray) w := by
  have hp' : tmps[p]?.getD undef = .pointer (some ⟨b, 0, none⟩) := by simpa using hp
  simp [results, h, hp', asAddr, run_loadVar_mid w b 0 ty cs d hc hu hd hi]
theorem rc_range {W0 w : World} {K : Know} {L : List Res} {b : Nat} {c : List Value} {T : TypeId} (h : St W0 w K (.raw b c.toArray T :: L)) : w.rangeAt b 0 c := by
 intro j v hv
 rw [Nat.zero_add, h.rawCell j]
 simpa using hv
theorem St.sets12 {W0 w : World} {K : Know} {L : List Res} {b : Nat} {T : TypeId} {a0 a1 a2 a3 a4 a5 a6 a7 a8 a9 a10 a11 : Value} (v0 v1 v2 v3 v4 v5 v6 v7 v8 v9 v10 v11 : Value) (h : St W0 w K (.raw b #[a0, a1, a2, a3, a4, a5, a6, a7, a8, a9, a10, a11] T :: L)) : St W0 ((((((((((((w.setCell ⟨b, 0, none⟩ v0).setCell ⟨b, 1, none⟩ v1).setCell ⟨b, 2, none⟩ v2).setCell ⟨b, 3, none⟩ v3).setCell ⟨b, 4, none⟩ v4).setCell ⟨b, 5, none⟩ v5).setCell ⟨b, 6, none⟩ v6).setCell ⟨b, 7, none⟩ v7).setCell ⟨b, 8, none⟩ v8).setCell ⟨b, 9, none⟩ v9).setCell ⟨b, 10, none⟩ v10).setCell ⟨b, 11, none⟩ v11) K (.raw b #[v0, v1, v2, v3, v4, v5, v6, v7, v8, v9, v10, v11] T :: L) := by
 have h : St W0 _ K (.raw b #[v0, a1, a2, a3, a4, a5, a6, a7, a8, a9, a10, a11] T :: L) := h.rawSet 0 v0
 have h : St W0 _ K (.raw b #[v0, v1, a2, a3, a4, a5, a6, a7, a8, a9, a10, a11] T :: L) := h.rawSet 1 v1
 have h : St W0 _ K (.raw b #[v0, v1, v2, a3, a4, a5, a6, a7, a8, a9, a10, a11] T :: L) := h.rawSet 2 v2
 have h : St W0 _ K (.raw b #[v0, v1, v2, v3, a4, a5, a6, a7, a8, a9, a10, a11] T :: L) := h.rawSet 3 v3
 have h : St W0 _ K (.raw b #[v0, v1, v2, v3, v4, a5, a6, a7, a8, a9, a10, a11] T :: L) := h.rawSet 4 v4
 have h : St W0 _ K (.raw b #[v0, v1, v2, v3, v4, v5, a6, a7, a8, a9, a10, a11] T :: L) := h.rawSet 5 v5
 have h : St W0 _ K (.raw b #[v0, v1, v2, v3, v4, v5, v6, a7, a8, a9, a10, a11] T :: L) := h.rawSet 6 v6
 have h : St W0 _ K (.raw b #[v0, v1, v2, v3, v4, v5, v6, v7, a8, a9, a10, a11] T :: L) := h.rawSet 7 v7
 have h : St W0 _ K (.raw b #[v0, v1, v2, v3, v4, v5, v6, v7, v8, a9, a10, a11] T :: L) := h.rawSet 8 v8
 have h : St W0 _ K (.raw b #[v0, v1, v2, v3, v4, v5, v6, v7, v8, v9, a10, a11] T :: L) := h.rawSet 9 v9
 have h : St W0 _ K (.raw b #[v0, v1, v2, v3, v4, v5, v6, v7, v8, v9, v10, a11] T :: L) := h.rawSet 10 v10
 have h : St W0 _ K (.raw b #[v0, v1, v2, v3, v4, v5, v6, v7, v8, v9, v10, v11] T :: L) := h.rawSet 11 v11
 exact h
def endOf (b : BatS) : Int × Int × Int × Int × Int × Bool :=
  if b.ctl = true ∧ batErr b = 0 then match b.recs with
    | x :: _ => (b.prod, b.epoch, (ctlOf x).1, b.first + x.time, (ctlOf x).2.1, true)
    | [] => (0, 0, 0, 0, 0, false)
  else (0, 0, 0, 0, 0, false)
end Go.Proofs.Ytngojlinfdokpaa

/- A text. -/
namespace Go.Proofs.Ytngojlinfdokpaa
open Go.RowKit

theorem wpl_appstr_st {W0 w : World} {K : Know} {L : List Res} {ops : Array Oper} {rest : List Oper} {o : Oper} {a : Act} {Q : Exit → Act → World → Prop} (hgd : o.guard = none) (sl x : Operand)
    (ho : o.op = .call { callee := .builtin .append, args := #[sl, x], argTypes := #[33, 9] })
    (v : Value) (n : Nat) (r s : Bs) (hn : n = r.length) (hs : a.eval sl = v) (hst : St W0 w K (.row v 5 1 n (bvals r) :: L)) (hx : a.eval x = .string (bb s)) (hbytes : n + s.length ≤ 140737488355328)
    (h : ∀ v' w', St W0 w' K (.row v' 5 1 (r ++ s).length (bvals (r ++ s)) :: L) → wpList Try.prog ops Q rest (a.put o.dst v') w') : wpList Try.prog ops Q (o :: rest) a w := by
  obtain ⟨i0, hi, hz0, hz1, hz2⟩ := info_parts info_u8'
  subst hn
  refine wpl_app_str hgd sl x 33 9 ho 5 i0 Try.underlying33 Try.underlying9 hi hz0 hz1 hz2 v _ _ hs hst.rowGet (bb s) hx hbytes ?_
  intro v' w1 h1 h2 h3
  rw [strCells_bb, ← bvals_append] at h1
  have e : r.length + (bb s).size = (r ++ s).length := by rw [List.length_append]; rfl
  rw [e] at h1
  exact h v' w1 (hst.rowGrown h1 h2 h3)
theorem St.rowCut {W0 w : World} {K : Know} {L : List Res} {g cap n m : Nat} {T : TypeId} {xs : List Value} (h : St W0 w K (.row (.slice (some ⟨g, 0, none⟩) n cap) T 1 n xs :: L)) (hm : m ≤ n) : St W0 w K (.row (.slice (some ⟨g, 0, none⟩) m cap) T 1 m (xs.take m) :: L) := by
 refine h.map fun S hS => ?_
 obtain ⟨S1, S2, ⟨⟨a1, a2⟩, h2⟩, r⟩ := hS
 refine ⟨S1, S2, ⟨⟨?_, ?_⟩, h2⟩, r⟩
 · rw [List.length_take]; omega
 · rcases a2 with ⟨a3, _⟩ | ⟨g2, cap2, cur, e1, e2, e3, e4, e5, e6, e7⟩
   · cases a3
   · simp at e1
     obtain ⟨rfl, rfl⟩ := e1
     refine .inr ⟨g, cap, cur, rfl, e2, e3, by omega, e5, e6, ?_⟩
     rw [← e7, List.take_take]
     congr 1
     omega
theorem St.rowTextAt {W0 w : World} {K : Know} {L : List Res} {g cap n : Nat} {s : Bs} (h : St W0 w K (.row (.slice (some ⟨g, 0, none⟩) n cap) 5 1 n (bvals s) :: L)) (pos k c : Nat) (hn : n = s.length) (hk : pos + k ≤ s.length) :
   (convert 33 9 (.slice (some ⟨g, pos, none⟩) k c)).run Try.prog w = .ok (.string (bb ((s.drop pos).take k))) w := by
 have hl : ((s.drop pos).take k).length = k := by rw [List.length_take, List.length_drop]; omega
 have := run_convert_bytes_back (P := Try.prog) w 33 9 5 ⟨g, pos, none⟩ c ((s.drop pos).take k) Try.underlying33 Try.underlying5 Try.underlying9 (fun j hj => ?_)
 · rw [hl] at this; exact this
 · rw [hl] at hj
   have ha : (⟨g, pos, none⟩ : Addr).add j = ⟨g, pos + j, none⟩ := by unfold Addr.add; split <;> simp_all
   rw [ha, h.rowCell (pos + j) (by omega)]
   have hb : pos + j < s.length := by omega
   unfold bvals
   rw [List.getElem?_map, List.getElem?_eq_getElem hb]
   simp
theorem conv_nil0 (w : World) : (convert 33 9 (.slice none 0 0)).run Try.prog w = .ok (.string ⟨#[]⟩) w := owns_text (s := []) (World.ownsRow_nil _ _ _ _)
theorem conv_zeroN (w : World) (a : Addr) (c : Nat) : (convert 33 9 (.slice (some a) 0 c)).run Try.prog w = .ok (.string ⟨#[]⟩) w :=
 run_convert_bytes_back (P := Try.prog) w 33 9 5 a c [] Try.underlying33 Try.underlying5 Try.underlying9 (fun j hj => by simp at hj)
theorem rc_cell_tmp3S {P : Program} {fn : Func} {p t u : Tmp} {ty : TypeId} (h : fn.results = #[.cell p ty, .tmp t, .tmp u]) (tmps : Array Value) (w : World) (b : Nat) (cs : List Value) (d : TypeDesc)
    (hp : tmps.getD p undef = .pointer (some ⟨b, 0, none⟩)) (hc : w.rangeAt b 0 cs) (hu : P.underlying ty = some d) (hd : d.isRow = true) (hi : (P.info? ty).map (·.size) = some cs.length) :
    (results fn tmps).run P w = .ok (.tuple #[.agg cs.toArray, tmps.getD t undef, tmps.getD u undef]) w := by
  have hp' : tmps[p]?.getD undef = .pointer (some ⟨b, 0, none⟩) := by simpa using hp
  simp [results, h, hp', asAddr, run_loadVar_mid w b 0 ty cs d hc hu hd hi]
theorem s_errS (p : Nat) (i : InS) (e : Int) (hx : i.err = e) {W0 w : World} {K : Know} {L : List Res} (h : St W0 w K (.inp p i :: L)) :
  Calls Try.prog 47 #[inPtr p] w fun en w' => en = .returned (.int .i64 e) ∧ St W0 w' K (.inp p i :: L) := by
 subst hx; exact s_err p i h

end Go.Proofs.Ytngojlinfdokpaa

/- A text. -/
namespace Go.Proofs.Ytngojlinfdokpaa
open Go.RowKit

theorem elem_rec : ElemT Try.prog 63 (.agg #[.int .i64 0, .int .i64 0, .bool false, .string ⟨#[]⟩, .bool false, .string ⟨#[]⟩, .slice none 0 0]) 7 88 := elemT_of (by kernel_rfl) rfl (by decide)
def consE (x : RecS) (r : Except Int (List RecS)) : Except Int (List RecS) := match r with | .ok t => .ok (x :: t) | .error e => .error e
def unp : Nat → InS → Except Int (List RecS)
  | 0, i => if i.left = 0 then .ok [] else .error 10
  | n + 1, i => if i.left = 0 then .error 10 else if i.record.2.err = 0 then consE i.record.1 (unp n i.record.2) else .error i.record.2.err
def preU (acc : List RecS) (r : Except Int (List RecS)) : Except Int (List RecS) := match r with | .ok t => .ok (acc ++ t) | .error e => .error e
theorem preU_nil (r : Except Int (List RecS)) : preU [] r = r := by cases r <;> rfl
theorem preU_snoc (acc : List RecS) (x : RecS) (r : Except Int (List RecS)) : preU (acc ++ [x]) r = preU acc (consE x r) := by
 cases r with
 | error e => rfl
 | ok t => simp [preU, consE]
theorem s_leftQ (p : Nat) (i : InS) (n : Nat) (hx : i.left = n) {W0 w : World} {K : Know} {L : List Res} (h : St W0 w K (.inp p i :: L)) :
  Calls Try.prog 74 #[inPtr p] w fun en w' => en = .returned (.int .i64 n) ∧ St W0 w' K (.inp p i :: L) := by
 subst hx; exact s_left p i h
theorem s_errE (p : Nat) (i : InS) (e : Int) (hx : i.err = e) {W0 w : World} {K : Know} {L : List Res} (h : St W0 w K (.inp p i :: L)) :
  Calls Try.prog 47 #[inPtr p] w fun en w' => en = .returned (.int .i64 e) ∧ St W0 w' K (.inp p i :: L) := by
 subst hx; exact s_err p i h

end Go.Proofs.Ytngojlinfdokpaa

/- A text. -/
namespace Go.Proofs.Ytngojlinfdokpaa
open Go.RowKit

structure PreS where
  base : Int
  len : Int
  leader : Int
  sum : Int
  attr : Int
  last : Int
  first : Int
  maxt : Int
  prod : Int
  epoch : Int
  seq : Int
  count : Int
deriving DecidableEq
def pv (x : PreS) : Value := .agg #[.int .i64 x.base, .int .i64 x.len, .int .i64 x.leader, .int .i64 x.sum, .int .i64 x.attr, .int .i64 x.last, .int .i64 x.first, .int .i64 x.maxt, .int .i64 x.prod, .int .i64 x.epoch, .int .i64 x.seq, .int .i64 x.count]
def PreS.list (x : PreS) : List Int := [x.base, x.len, x.leader, x.sum, x.attr, x.last, x.first, x.maxt, x.prod, x.epoch, x.seq, x.count]
def PreS.R (x : PreS) : Prop := ∀ n ∈ x.list, -9223372036854775808 ≤ n ∧ n < 9223372036854775808
def PreS.zero : PreS := ⟨0, 0, 0, 0, 0, 0, 0, 0, 0, 0, 0, 0⟩
def sumItem (n : Int) : Int := if n < 0 ∨ 4294967295 < n then 4294967296 else if 2147483647 < n then n - 4294967296 else n
def PreS.items (x : PreS) : List (Int × Nat) := [(x.base, 8), (x.len, 4), (x.leader, 4), (2, 1), (sumItem x.sum, 4), (x.attr, 2), (x.last, 4), (x.first, 8), (x.maxt, 8), (x.prod, 8), (x.epoch, 2), (x.seq, 4), (x.count, 4)]
def preSizes : List Nat := [8, 4, 4, 1, 4, 2, 4, 8, 8, 8, 2, 4, 4]
theorem sumItem_range (n : Int) : -9223372036854775808 ≤ sumItem n ∧ sumItem n < 9223372036854775808 := by
 unfold sumItem; split
 · omega
 · split <;> omega
theorem wrap32_sum (n : Int) (h0 : ¬ n < 0) (h1 : ¬ 4294967295 < n) : wrap32 n = sumItem n := by
 have e : wrap32 n = (n + 2147483648) % 4294967296 - 2147483648 := by unfold wrap32; rfl
 rw [e]
 unfold sumItem
 rw [if_neg (by omega)]
 split <;> omega
theorem OutS.okI {o : OutS} {a b : Int} {m : Nat} (h : o.ok (m + 8)) : (o.int a b).ok m := OutS.ok_int h (by omega)
theorem OutS.int_bad (o : OutS) (n : Int) (h : n < 0 ∨ 4294967295 < n) : o.int (sumItem n) 4 = o.fail 11 := by
 have e : sumItem n = 4294967296 := if_pos h
 rw [e]
 unfold OutS.int
 rw [if_neg (by decide)]

set_option maxHeartbeats 1000000 in
set_option maxRecDepth 100000 in
theorem prefix_putSum (p : Nat) (o : OutS) (n : Int) (hn : -9223372036854775808 ≤ n ∧ n < 9223372036854775808) {W0 w : World} {K : Know} {L : List Res} (h : St W0 w K (.out p o :: L)) (hr : o.ok 8) :
   Calls Try.prog 57 #[outPtr p, .int .i64 n] w fun en w' => en = .returned (.tuple #[]) ∧ St W0 w' K (.out p (o.int (sumItem n) 4) :: L) := by
 have H := Lib.hid h
 have HR := Lib.hid hr
 clear h hr
 by_cases h0 : n < 0
 · have E := Lib.hid (OutS.int_bad o n (.inl h0)).symm
   clear hn
   go_enter Try.func57, Try.ntmps57
   go_wp2_with (go_at_call 53; refine (so_fail _ _ _ (by first | (first | with_reducible exact H.out | with_reducible exact H.out.p1 | with_reducible exact H.out.p2 | with_reducible exact H.out.p3 | with_reducible exact H.out.p4 | with_reducible exact H.out.p5) | ((repeat first | with_reducible refine St.drewN ?_ _ | with_reducible refine St.drew ?_ | with_reducible refine St.alloc ?_ _); first | with_reducible exact H.out | with_reducible exact H.out.p1 | with_reducible exact H.out.p2 | with_reducible exact H.out.p3 | with_reducible exact H.out.p4 | with_reducible exact H.out.p5))).mono ?_; (repeat first | rw [E.out]); rintro e wn ⟨rfl, h⟩; replace H := Lib.hid h; clear h)
   refine bodyPost_ret (results_none rfl _ _ _) rfl ⟨rfl, H.out⟩
 by_cases h1 : 4294967295 < n
 · have E := Lib.hid (OutS.int_bad o n (.inr h1)).symm
   clear hn
   go_enter Try.func57, Try.ntmps57
   go_wp2_with (go_at_call 53; refine (so_fail _ _ _ (by first | (first | with_reducible exact H.out | with_reducible exact H.out.p1 | with_reducible exact H.out.p2 | with_reducible exact H.out.p3 | with_reducible exact H.out.p4 | with_reducible exact H.out.p5) | ((repeat first | with_reducible refine St.drewN ?_ _ | with_reducible refine St.drew ?_ | with_reducible refine St.alloc ?_ _); first | with_reducible exact H.out | with_reducible exact H.out.p1 | with_reducible exact H.out.p2 | with_reducible exact H.out.p3 | with_reducible exact H.out.p4 | with_reducible exact H.out.p5))).mono ?_; (repeat first | rw [E.out]); rintro e wn ⟨rfl, h⟩; replace H := Lib.hid h; clear h)
   refine bodyPost_ret (results_none rfl _ _ _) rfl ⟨rfl, H.out⟩
 · have HW2 := Lib.hid (wrap32_sum n h0 h1)
   have HS := Lib.hid (sumItem_range n)
   have HS2 := Lib.hid (wrap64_in _ HS.out.1 HS.out.2)
   clear hn
   go_enter Try.func57, Try.ntmps57
   go_wp2_with (go_at_call 56; rw [show wrap64 (wrap32 n) = sumItem n from by rw [HW2.out]; exact HS2.out]; refine (so_int _ _ _ _ HS.out H.out HR.out).mono ?_; rintro e wn ⟨rfl, h⟩; replace H := Lib.hid h; clear h)
   go_end0
   exact ⟨rfl, H.out⟩

set_option maxHeartbeats 1000000 in
set_option maxRecDepth 100000 in
theorem prefix_write (p : Nat) (o : OutS) (x : PreS) (hx : x.R) {W0 w : World} {K : Know} {L : List Res} (h : St W0 w K (.out p o :: L)) (hr : o.ok 200) :
  Calls Try.prog 41 #[outPtr p, pv x] w fun en w' => en = .returned (.tuple #[]) ∧ St W0 w' K (.out p (o.ints x.items) :: L) := by
 have H := Lib.hid (h.allocRaw #[.int .i64 x.base, .int .i64 x.len, .int .i64 x.leader, .int .i64 x.sum, .int .i64 x.attr, .int .i64 x.last, .int .i64 x.first, .int .i64 x.maxt, .int .i64 x.prod, .int .i64 x.epoch, .int .i64 x.seq, .int .i64 x.count] 73).p1
 have HR := Lib.hid hr
 have N0 := Lib.hid (hx x.base (by simp [PreS.list]))
 have N1 := Lib.hid (hx x.len (by simp [PreS.list]))
 have N2 := Lib.hid (hx x.leader (by simp [PreS.list]))
 have N3 := Lib.hid (hx x.sum (by simp [PreS.list]))
 have N4 := Lib.hid (hx x.attr (by simp [PreS.list]))
 have N5 := Lib.hid (hx x.last (by simp [PreS.list]))
 have N6 := Lib.hid (hx x.first (by simp [PreS.list]))
 have N7 := Lib.hid (hx x.maxt (by simp [PreS.list]))
 have N8 := Lib.hid (hx x.prod (by simp [PreS.list]))
 have N9 := Lib.hid (hx x.epoch (by simp [PreS.list]))
 have N10 := Lib.hid (hx x.seq (by simp [PreS.list]))
 have N11 := Lib.hid (hx x.count (by simp [PreS.list]))
 have HS := Lib.hid (sumItem_range x.sum)
 clear h hr hx
 go_enter Try.func41, Try.ntmps41
 unfold pv
 go_wp2_with (first
  | (go_at_call 56; refine (so_int _ _ _ _ (by first | exact N0.out | exact N1.out | exact N2.out | exact N3.out | exact N4.out | exact N5.out | exact N6.out | exact N7.out | exact N8.out | exact N9.out | exact N10.out | exact N11.out | decide) (by first | (first | with_reducible exact H.out | with_reducible exact H.out.p1 | with_reducible exact H.out.p2 | with_reducible exact H.out.p3 | with_reducible exact H.out.p4 | with_reducible exact H.out.p5) | ((repeat first | with_reducible refine St.drewN ?_ _ | with_reducible refine St.drew ?_ | with_reducible refine St.alloc ?_ _); first | with_reducible exact H.out | with_reducible exact H.out.p1 | with_reducible exact H.out.p2 | with_reducible exact H.out.p3 | with_reducible exact H.out.p4 | with_reducible exact H.out.p5)) (by repeat (first | exact OutS.ok_mono HR.out (by decide) | with_reducible refine OutS.okI ?_))).mono ?_; rintro e wn ⟨rfl, h⟩; replace H := Lib.hid h; clear h; have c0 := H.out.cellOf (b := w.heap.size) (c := #[.int .i64 x.base, .int .i64 x.len, .int .i64 x.leader, .int .i64 x.sum, .int .i64 x.attr, .int .i64 x.last, .int .i64 x.first, .int .i64 x.maxt, .int .i64 x.prod, .int .i64 x.epoch, .int .i64 x.seq, .int .i64 x.count]) (T := 73) (by simp) 0; have c1 := H.out.cellOf (b := w.heap.size) (c := #[.int .i64 x.base, .int .i64 x.len, .int .i64 x.leader, .int .i64 x.sum, .int .i64 x.attr, .int .i64 x.last, .int .i64 x.first, .int .i64 x.maxt, .int .i64 x.prod, .int .i64 x.epoch, .int .i64 x.seq, .int .i64 x.count]) (T := 73) (by simp) 1; have c2 := H.out.cellOf (b := w.heap.size) (c := #[.int .i64 x.base, .int .i64 x.len, .int .i64 x.leader, .int .i64 x.sum, .int .i64 x.attr, .int .i64 x.last, .int .i64 x.first, .int .i64 x.maxt, .int .i64 x.prod, .int .i64 x.epoch, .int .i64 x.seq, .int .i64 x.count]) (T := 73) (by simp) 2; have c3 := H.out.cellOf (b := w.heap.size) (c := #[.int .i64 x.base, .int .i64 x.len, .int .i64 x.leader, .int .i64 x.sum, .int .i64 x.attr, .int .i64 x.last, .int .i64 x.first, .int .i64 x.maxt, .int .i64 x.prod, .int .i64 x.epoch, .int .i64 x.seq, .int .i64 x.count]) (T := 73) (by simp) 3; have c4 := H.out.cellOf (b := w.heap.size) (c := #[.int .i64 x.base, .int .i64 x.len, .int .i64 x.leader, .int .i64 x.sum, .int .i64 x.attr, .int .i64 x.last, .int .i64 x.first, .int .i64 x.maxt, .int .i64 x.prod, .int .i64 x.epoch, .int .i64 x.seq, .int .i64 x.count]) (T := 73) (by simp) 4; have c5 := H.out.cellOf (b := w.heap.size) (c := #[.int .i64 x.base, .int .i64 x.len, .int .i64 x.leader, .int .i64 x.sum, .int .i64 x.attr, .int .i64 x.last, .int .i64 x.first, .int .i64 x.maxt, .int .i64 x.prod, .int .i64 x.epoch, .int .i64 x.seq, .int .i64 x.count]) (T := 73) (by simp) 5; have c6 := H.out.cellOf (b := w.heap.size) (c := #[.int .i64 x.base, .int .i64 x.len, .int .i64 x.leader, .int .i64 x.sum, .int .i64 x.attr, .int .i64 x.last, .int .i64 x.first, .int .i64 x.maxt, .int .i64 x.prod, .int .i64 x.epoch, .int .i64 x.seq, .int .i64 x.count]) (T := 73) (by simp) 6; have c7 := H.out.cellOf (b := w.heap.size) (c := #[.int .i64 x.base, .int .i64 x.len, .int .i64 x.leader, .int .i64 x.sum, .int .i64 x.attr, .int .i64 x.last, .int .i64 x.first, .int .i64 x.maxt, .int .i64 x.prod, .int .i64 x.epoch, .int .i64 x.seq, .int .i64 x.count]) (T := 73) (by simp) 7; have c8 := H.out.cellOf (b := w.heap.size) (c := #[.int .i64 x.base, .int .i64 x.len, .int .i64 x.leader, .int .i64 x.sum, .int .i64 x.attr, .int .i64 x.last, .int .i64 x.first, .int .i64 x.maxt, .int .i64 x.prod, .int .i64 x.epoch, .int .i64 x.seq, .int .i64 x.count]) (T := 73) (by simp) 8; have c9 := H.out.cellOf (b := w.heap.size) (c := #[.int .i64 x.base, .int .i64 x.len, .int .i64 x.leader, .int .i64 x.sum, .int .i64 x.attr, .int .i64 x.last, .int .i64 x.first, .int .i64 x.maxt, .int .i64 x.prod, .int .i64 x.epoch, .int .i64 x.seq, .int .i64 x.count]) (T := 73) (by simp) 9; have c10 := H.out.cellOf (b := w.heap.size) (c := #[.int .i64 x.base, .int .i64 x.len, .int .i64 x.leader, .int .i64 x.sum, .int .i64 x.attr, .int .i64 x.last, .int .i64 x.first, .int .i64 x.maxt, .int .i64 x.prod, .int .i64 x.epoch, .int .i64 x.seq, .int .i64 x.count]) (T := 73) (by simp) 10; have c11 := H.out.cellOf (b := w.heap.size) (c := #[.int .i64 x.base, .int .i64 x.len, .int .i64 x.leader, .int .i64 x.sum, .int .i64 x.attr, .int .i64 x.last, .int .i64 x.first, .int .i64 x.maxt, .int .i64 x.prod, .int .i64 x.epoch, .int .i64 x.seq, .int .i64 x.count]) (T := 73) (by simp) 11; simp at c0 c1 c2 c3 c4 c5 c6 c7 c8 c9 c10 c11)
  | (go_at_call 57; refine (prefix_putSum _ _ _ (by first | exact N0.out | exact N1.out | exact N2.out | exact N3.out | exact N4.out | exact N5.out | exact N6.out | exact N7.out | exact N8.out | exact N9.out | exact N10.out | exact N11.out | decide) (by first | (first | with_reducible exact H.out | with_reducible exact H.out.p1 | with_reducible exact H.out.p2 | with_reducible exact H.out.p3 | with_reducible exact H.out.p4 | with_reducible exact H.out.p5) | ((repeat first | with_reducible refine St.drewN ?_ _ | with_reducible refine St.drew ?_ | with_reducible refine St.alloc ?_ _); first | with_reducible exact H.out | with_reducible exact H.out.p1 | with_reducible exact H.out.p2 | with_reducible exact H.out.p3 | with_reducible exact H.out.p4 | with_reducible exact H.out.p5)) (by repeat (first | exact OutS.ok_mono HR.out (by decide) | with_reducible refine OutS.okI ?_))).mono ?_; rintro e wn ⟨rfl, h⟩; replace H := Lib.hid h; clear h; have c0 := H.out.cellOf (b := w.heap.size) (c := #[.int .i64 x.base, .int .i64 x.len, .int .i64 x.leader, .int .i64 x.sum, .int .i64 x.attr, .int .i64 x.last, .int .i64 x.first, .int .i64 x.maxt, .int .i64 x.prod, .int .i64 x.epoch, .int .i64 x.seq, .int .i64 x.count]) (T := 73) (by simp) 0; have c1 := H.out.cellOf (b := w.heap.size) (c := #[.int .i64 x.base, .int .i64 x.len, .int .i64 x.leader, .int .i64 x.sum, .int .i64 x.attr, .int .i64 x.last, .int .i64 x.first, .int .i64 x.maxt, .int .i64 x.prod, .int .i64 x.epoch, .int .i64 x.seq, .int .i64 x.count]) (T := 73) (by simp) 1; have c2 := H.out.cellOf (b := w.heap.size) (c := #[.int .i64 x.base, .int .i64 x.len, .int .i64 x.leader, .int .i64 x.sum, .int .i64 x.attr, .int .i64 x.last, .int .i64 x.first, .int .i64 x.maxt, .int .i64 x.prod, .int .i64 x.epoch, .int .i64 x.seq, .int .i64 x.count]) (T := 73) (by simp) 2; have c3 := H.out.cellOf (b := w.heap.size) (c := #[.int .i64 x.base, .int .i64 x.len, .int .i64 x.leader, .int .i64 x.sum, .int .i64 x.attr, .int .i64 x.last, .int .i64 x.first, .int .i64 x.maxt, .int .i64 x.prod, .int .i64 x.epoch, .int .i64 x.seq, .int .i64 x.count]) (T := 73) (by simp) 3; have c4 := H.out.cellOf (b := w.heap.size) (c := #[.int .i64 x.base, .int .i64 x.len, .int .i64 x.leader, .int .i64 x.sum, .int .i64 x.attr, .int .i64 x.last, .int .i64 x.first, .int .i64 x.maxt, .int .i64 x.prod, .int .i64 x.epoch, .int .i64 x.seq, .int .i64 x.count]) (T := 73) (by simp) 4; have c5 := H.out.cellOf (b := w.heap.size) (c := #[.int .i64 x.base, .int .i64 x.len, .int .i64 x.leader, .int .i64 x.sum, .int .i64 x.attr, .int .i64 x.last, .int .i64 x.first, .int .i64 x.maxt, .int .i64 x.prod, .int .i64 x.epoch, .int .i64 x.seq, .int .i64 x.count]) (T := 73) (by simp) 5; have c6 := H.out.cellOf (b := w.heap.size) (c := #[.int .i64 x.base, .int .i64 x.len, .int .i64 x.leader, .int .i64 x.sum, .int .i64 x.attr, .int .i64 x.last, .int .i64 x.first, .int .i64 x.maxt, .int .i64 x.prod, .int .i64 x.epoch, .int .i64 x.seq, .int .i64 x.count]) (T := 73) (by simp) 6; have c7 := H.out.cellOf (b := w.heap.size) (c := #[.int .i64 x.base, .int .i64 x.len, .int .i64 x.leader, .int .i64 x.sum, .int .i64 x.attr, .int .i64 x.last, .int .i64 x.first, .int .i64 x.maxt, .int .i64 x.prod, .int .i64 x.epoch, .int .i64 x.seq, .int .i64 x.count]) (T := 73) (by simp) 7; have c8 := H.out.cellOf (b := w.heap.size) (c := #[.int .i64 x.base, .int .i64 x.len, .int .i64 x.leader, .int .i64 x.sum, .int .i64 x.attr, .int .i64 x.last, .int .i64 x.first, .int .i64 x.maxt, .int .i64 x.prod, .int .i64 x.epoch, .int .i64 x.seq, .int .i64 x.count]) (T := 73) (by simp) 8; have c9 := H.out.cellOf (b := w.heap.size) (c := #[.int .i64 x.base, .int .i64 x.len, .int .i64 x.leader, .int .i64 x.sum, .int .i64 x.attr, .int .i64 x.last, .int .i64 x.first, .int .i64 x.maxt, .int .i64 x.prod, .int .i64 x.epoch, .int .i64 x.seq, .int .i64 x.count]) (T := 73) (by simp) 9; have c10 := H.out.cellOf (b := w.heap.size) (c := #[.int .i64 x.base, .int .i64 x.len, .int .i64 x.leader, .int .i64 x.sum, .int .i64 x.attr, .int .i64 x.last, .int .i64 x.first, .int .i64 x.maxt, .int .i64 x.prod, .int .i64 x.epoch, .int .i64 x.seq, .int .i64 x.count]) (T := 73) (by simp) 10; have c11 := H.out.cellOf (b := w.heap.size) (c := #[.int .i64 x.base, .int .i64 x.len, .int .i64 x.leader, .int .i64 x.sum, .int .i64 x.attr, .int .i64 x.last, .int .i64 x.first, .int .i64 x.maxt, .int .i64 x.prod, .int .i64 x.epoch, .int .i64 x.seq, .int .i64 x.count]) (T := 73) (by simp) 11; simp at c0 c1 c2 c3 c4 c5 c6 c7 c8 c9 c10 c11))
 go_end0
 exact ⟨rfl, H.out.p1.drop⟩

end Go.Proofs.Ytngojlinfdokpaa

/- A text. -/
namespace Go.Proofs.Ytngojlinfdokpaa
open Go.RowKit

theorem St.set1_Pre2 {W0 w : World} {K : Know} {L : List Res} {r : Res} {b j : Nat} {c : Array Value} {T : TypeId} {v : Value} (h : St W0 w K (r :: .raw b c T :: L)) : St W0 (w.setCell ⟨b, j, none⟩ v) K (r :: .raw b (c.setIfInBounds j v) T :: L) := (h.p1.rawSet j v).p1
theorem and_u32 (n : Int) : bits .and .i64 n 4294967295 = n % 4294967296 := by
 rw [bits_and_i64]
 have e1 : ((4294967295 : Int) % 18446744073709551616).toNat = 2 ^ 32 - 1 := by decide
 rw [e1, Nat.and_two_pow_sub_one_eq_mod]
 have h : (0 : Int) ≤ n % 18446744073709551616 := Int.emod_nonneg _ (by decide)
 rw [IntKind.wrap_i64]
 omega

set_option maxHeartbeats 1000000 in
set_option maxRecDepth 100000 in
theorem prefix_fields (p : Nat) (i i1 i2 i3 i4 i5 i6 i7 i8 i9 i10 i11 i12 i13 : InS) (a0 a1 a2 a3 a4 a5 a6 a7 a8 a9 a10 a11 a12 sm : Int) (e0 : i.int 8 = (a0, i1)) (e1 : i1.int 4 = (a1, i2)) (e2 : i2.int 4 = (a2, i3)) (e3 : i3.int 1 = (a3, i4)) (e4 : i4.int 4 = (a4, i5)) (e5 : i5.int 2 = (a5, i6)) (e6 : i6.int 4 = (a6, i7)) (e7 : i7.int 8 = (a7, i8)) (e8 : i8.int 8 = (a8, i9)) (e9 : i9.int 8 = (a9, i10)) (e10 : i10.int 2 = (a10, i11)) (e11 : i11.int 4 = (a11, i12)) (e12 : i12.int 4 = (a12, i13)) (hsm : bits .and .i64 a4 4294967295 = sm) {W0 w : World} {K : Know} {L : List Res} (h : St W0 w K (.inp p i :: L)) :
  Calls Try.prog 73 #[inPtr p] w fun en w' => en = .returned (.tuple #[.agg #[.int .i64 a0, .int .i64 a1, .int .i64 a2, .int .i64 sm, .int .i64 a5, .int .i64 a6, .int .i64 a7, .int .i64 a8, .int .i64 a9, .int .i64 a10, .int .i64 a11, .int .i64 a12], .int .i64 a3]) ∧ St W0 w' K (.inp p i13 :: L) := by
 have H := Lib.hid (h.allocRaw #[.int .i64 0, .int .i64 0, .int .i64 0, .int .i64 0, .int .i64 0, .int .i64 0, .int .i64 0, .int .i64 0, .int .i64 0, .int .i64 0, .int .i64 0, .int .i64 0] 73).p1
 have E0 := Lib.hid e0
 have tok0 : True := trivial
 have E1 := Lib.hid e1
 have tok1 : True := trivial
 have E2 := Lib.hid e2
 have tok2 : True := trivial
 have E3 := Lib.hid e3
 have tok3 : True := trivial
 have E4 := Lib.hid e4
 have tok4 : True := trivial
 have E5 := Lib.hid e5
 have tok5 : True := trivial
 have E6 := Lib.hid e6
 have tok6 : True := trivial
 have E7 := Lib.hid e7
 have tok7 : True := trivial
 have E8 := Lib.hid e8
 have tok8 : True := trivial
 have E9 := Lib.hid e9
 have tok9 : True := trivial
 have E10 := Lib.hid e10
 have tok10 : True := trivial
 have E11 := Lib.hid e11
 have tok11 : True := trivial
 have E12 := Lib.hid e12
 have tok12 : True := trivial
 clear h e0 e1 e2 e3 e4 e5 e6 e7 e8 e9 e10 e11 e12
 go_enter Try.func73, Try.ntmps73
 go_wp2_with (first
  | (go_at_call 64; have _t := tok0; clear _t; (with_reducible refine (s_int _ i 8 H.out).mono ?_); rw [E0.out]; rintro e wn ⟨rfl, h⟩; replace H := Lib.hid (show St W0 wn K (.inp p i1 :: .raw w.heap.size #[.int .i64 0, .int .i64 0, .int .i64 0, .int .i64 0, .int .i64 0, .int .i64 0, .int .i64 0, .int .i64 0, .int .i64 0, .int .i64 0, .int .i64 0, .int .i64 0] 73 :: L) from h); clear h tok0; have z0 := H.out.p1.rawCell 0; have z1 := H.out.p1.rawFree 0; simp at z0)
  | (go_at_call 64; have _t := tok1; clear _t; (with_reducible refine (s_int _ i1 4 (St.set1_Pre2 H.out)).mono ?_); rw [E1.out]; rintro e wn ⟨rfl, h⟩; replace H := Lib.hid (show St W0 wn K (.inp p i2 :: .raw w.heap.size #[.int .i64 a0, .int .i64 0, .int .i64 0, .int .i64 0, .int .i64 0, .int .i64 0, .int .i64 0, .int .i64 0, .int .i64 0, .int .i64 0, .int .i64 0, .int .i64 0] 73 :: L) from h); clear h tok1; have z0 := H.out.p1.rawCell 1; have z1 := H.out.p1.rawFree 1; simp at z0)
  | (go_at_call 64; have _t := tok2; clear _t; (with_reducible refine (s_int _ i2 4 (St.set1_Pre2 H.out)).mono ?_); rw [E2.out]; rintro e wn ⟨rfl, h⟩; replace H := Lib.hid (show St W0 wn K (.inp p i3 :: .raw w.heap.size #[.int .i64 a0, .int .i64 a1, .int .i64 0, .int .i64 0, .int .i64 0, .int .i64 0, .int .i64 0, .int .i64 0, .int .i64 0, .int .i64 0, .int .i64 0, .int .i64 0] 73 :: L) from h); clear h tok2; have z0 := H.out.p1.rawCell 2; have z1 := H.out.p1.rawFree 2; simp at z0)
  | (go_at_call 64; have _t := tok3; clear _t; (with_reducible refine (s_int _ i3 1 (St.set1_Pre2 H.out)).mono ?_); rw [E3.out]; rintro e wn ⟨rfl, h⟩; replace H := Lib.hid (show St W0 wn K (.inp p i4 :: .raw w.heap.size #[.int .i64 a0, .int .i64 a1, .int .i64 a2, .int .i64 0, .int .i64 0, .int .i64 0, .int .i64 0, .int .i64 0, .int .i64 0, .int .i64 0, .int .i64 0, .int .i64 0] 73 :: L) from h); clear h tok3; have z0 := H.out.p1.rawCell 0; have z1 := H.out.p1.rawFree 0; simp at z0)
  | (go_at_call 64; have _t := tok4; clear _t; (with_reducible refine (s_int _ i4 4 H.out).mono ?_); rw [E4.out]; rintro e wn ⟨rfl, h⟩; replace H := Lib.hid (show St W0 wn K (.inp p i5 :: .raw w.heap.size #[.int .i64 a0, .int .i64 a1, .int .i64 a2, .int .i64 0, .int .i64 0, .int .i64 0, .int .i64 0, .int .i64 0, .int .i64 0, .int .i64 0, .int .i64 0, .int .i64 0] 73 :: L) from h); clear h tok4; have z0 := H.out.p1.rawCell 3; have z1 := H.out.p1.rawFree 3; simp at z0)
  | (go_at_call 64; have _t := tok5; clear _t; (with_reducible refine (s_int _ i5 2 (St.set1_Pre2 H.out)).mono ?_); rw [E5.out]; rintro e wn ⟨rfl, h⟩; replace H := Lib.hid (show St W0 wn K (.inp p i6 :: .raw w.heap.size #[.int .i64 a0, .int .i64 a1, .int .i64 a2, .int .i64 sm, .int .i64 0, .int .i64 0, .int .i64 0, .int .i64 0, .int .i64 0, .int .i64 0, .int .i64 0, .int .i64 0] 73 :: L) from h); clear h tok5; have z0 := H.out.p1.rawCell 4; have z1 := H.out.p1.rawFree 4; simp at z0)
  | (go_at_call 64; have _t := tok6; clear _t; (with_reducible refine (s_int _ i6 4 (St.set1_Pre2 H.out)).mono ?_); rw [E6.out]; rintro e wn ⟨rfl, h⟩; replace H := Lib.hid (show St W0 wn K (.inp p i7 :: .raw w.heap.size #[.int .i64 a0, .int .i64 a1, .int .i64 a2, .int .i64 sm, .int .i64 a5, .int .i64 0, .int .i64 0, .int .i64 0, .int .i64 0, .int .i64 0, .int .i64 0, .int .i64 0] 73 :: L) from h); clear h tok6; have z0 := H.out.p1.rawCell 5; have z1 := H.out.p1.rawFree 5; simp at z0)
  | (go_at_call 64; have _t := tok7; clear _t; (with_reducible refine (s_int _ i7 8 (St.set1_Pre2 H.out)).mono ?_); rw [E7.out]; rintro e wn ⟨rfl, h⟩; replace H := Lib.hid (show St W0 wn K (.inp p i8 :: .raw w.heap.size #[.int .i64 a0, .int .i64 a1, .int .i64 a2, .int .i64 sm, .int .i64 a5, .int .i64 a6, .int .i64 0, .int .i64 0, .int .i64 0, .int .i64 0, .int .i64 0, .int .i64 0] 73 :: L) from h); clear h tok7; have z0 := H.out.p1.rawCell 6; have z1 := H.out.p1.rawFree 6; simp at z0)
  | (go_at_call 64; have _t := tok8; clear _t; (with_reducible refine (s_int _ i8 8 (St.set1_Pre2 H.out)).mono ?_); rw [E8.out]; rintro e wn ⟨rfl, h⟩; replace H := Lib.hid (show St W0 wn K (.inp p i9 :: .raw w.heap.size #[.int .i64 a0, .int .i64 a1, .int .i64 a2, .int .i64 sm, .int .i64 a5, .int .i64 a6, .int .i64 a7, .int .i64 0, .int .i64 0, .int .i64 0, .int .i64 0, .int .i64 0] 73 :: L) from h); clear h tok8; have z0 := H.out.p1.rawCell 7; have z1 := H.out.p1.rawFree 7; simp at z0)
  | (go_at_call 64; have _t := tok9; clear _t; (with_reducible refine (s_int _ i9 8 (St.set1_Pre2 H.out)).mono ?_); rw [E9.out]; rintro e wn ⟨rfl, h⟩; replace H := Lib.hid (show St W0 wn K (.inp p i10 :: .raw w.heap.size #[.int .i64 a0, .int .i64 a1, .int .i64 a2, .int .i64 sm, .int .i64 a5, .int .i64 a6, .int .i64 a7, .int .i64 a8, .int .i64 0, .int .i64 0, .int .i64 0, .int .i64 0] 73 :: L) from h); clear h tok9; have z0 := H.out.p1.rawCell 8; have z1 := H.out.p1.rawFree 8; simp at z0)
  | (go_at_call 64; have _t := tok10; clear _t; (with_reducible refine (s_int _ i10 2 (St.set1_Pre2 H.out)).mono ?_); rw [E10.out]; rintro e wn ⟨rfl, h⟩; replace H := Lib.hid (show St W0 wn K (.inp p i11 :: .raw w.heap.size #[.int .i64 a0, .int .i64 a1, .int .i64 a2, .int .i64 sm, .int .i64 a5, .int .i64 a6, .int .i64 a7, .int .i64 a8, .int .i64 a9, .int .i64 0, .int .i64 0, .int .i64 0] 73 :: L) from h); clear h tok10; have z0 := H.out.p1.rawCell 9; have z1 := H.out.p1.rawFree 9; simp at z0)
  | (go_at_call 64; have _t := tok11; clear _t; (with_reducible refine (s_int _ i11 4 (St.set1_Pre2 H.out)).mono ?_); rw [E11.out]; rintro e wn ⟨rfl, h⟩; replace H := Lib.hid (show St W0 wn K (.inp p i12 :: .raw w.heap.size #[.int .i64 a0, .int .i64 a1, .int .i64 a2, .int .i64 sm, .int .i64 a5, .int .i64 a6, .int .i64 a7, .int .i64 a8, .int .i64 a9, .int .i64 a10, .int .i64 0, .int .i64 0] 73 :: L) from h); clear h tok11; have z0 := H.out.p1.rawCell 10; have z1 := H.out.p1.rawFree 10; simp at z0)
  | (go_at_call 64; have _t := tok12; clear _t; (with_reducible refine (s_int _ i12 4 (St.set1_Pre2 H.out)).mono ?_); rw [E12.out]; rintro e wn ⟨rfl, h⟩; replace H := Lib.hid (show St W0 wn K (.inp p i13 :: .raw w.heap.size #[.int .i64 a0, .int .i64 a1, .int .i64 a2, .int .i64 sm, .int .i64 a5, .int .i64 a6, .int .i64 a7, .int .i64 a8, .int .i64 a9, .int .i64 a10, .int .i64 a11, .int .i64 0] 73 :: L) from h); clear h tok12; have z0 := H.out.p1.rawCell 11; have z1 := H.out.p1.rawFree 11; simp at z0; have HH := Lib.hid H.out.p1; have qf0 := HH.out.freeOf (b := w.heap.size) (c := #[.int .i64 a0, .int .i64 a1, .int .i64 a2, .int .i64 sm, .int .i64 a5, .int .i64 a6, .int .i64 a7, .int .i64 a8, .int .i64 a9, .int .i64 a10, .int .i64 a11, .int .i64 0]) (T := 73) (by simp) 0; have qc0 := HH.out.cellOf (b := w.heap.size) (c := #[.int .i64 a0, .int .i64 a1, .int .i64 a2, .int .i64 sm, .int .i64 a5, .int .i64 a6, .int .i64 a7, .int .i64 a8, .int .i64 a9, .int .i64 a10, .int .i64 a11, .int .i64 0]) (T := 73) (by simp) 0; have qf1 := HH.out.freeOf (b := w.heap.size) (c := #[.int .i64 a0, .int .i64 a1, .int .i64 a2, .int .i64 sm, .int .i64 a5, .int .i64 a6, .int .i64 a7, .int .i64 a8, .int .i64 a9, .int .i64 a10, .int .i64 a11, .int .i64 0]) (T := 73) (by simp) 1; have qc1 := HH.out.cellOf (b := w.heap.size) (c := #[.int .i64 a0, .int .i64 a1, .int .i64 a2, .int .i64 sm, .int .i64 a5, .int .i64 a6, .int .i64 a7, .int .i64 a8, .int .i64 a9, .int .i64 a10, .int .i64 a11, .int .i64 0]) (T := 73) (by simp) 1; have qf2 := HH.out.freeOf (b := w.heap.size) (c := #[.int .i64 a0, .int .i64 a1, .int .i64 a2, .int .i64 sm, .int .i64 a5, .int .i64 a6, .int .i64 a7, .int .i64 a8, .int .i64 a9, .int .i64 a10, .int .i64 a11, .int .i64 0]) (T := 73) (by simp) 2; have qc2 := HH.out.cellOf (b := w.heap.size) (c := #[.int .i64 a0, .int .i64 a1, .int .i64 a2, .int .i64 sm, .int .i64 a5, .int .i64 a6, .int .i64 a7, .int .i64 a8, .int .i64 a9, .int .i64 a10, .int .i64 a11, .int .i64 0]) (T := 73) (by simp) 2; have qf3 := HH.out.freeOf (b := w.heap.size) (c := #[.int .i64 a0, .int .i64 a1, .int .i64 a2, .int .i64 sm, .int .i64 a5, .int .i64 a6, .int .i64 a7, .int .i64 a8, .int .i64 a9, .int .i64 a10, .int .i64 a11, .int .i64 0]) (T := 73) (by simp) 3; have qc3 := HH.out.cellOf (b := w.heap.size) (c := #[.int .i64 a0, .int .i64 a1, .int .i64 a2, .int .i64 sm, .int .i64 a5, .int .i64 a6, .int .i64 a7, .int .i64 a8, .int .i64 a9, .int .i64 a10, .int .i64 a11, .int .i64 0]) (T := 73) (by simp) 3; have qf4 := HH.out.freeOf (b := w.heap.size) (c := #[.int .i64 a0, .int .i64 a1, .int .i64 a2, .int .i64 sm, .int .i64 a5, .int .i64 a6, .int .i64 a7, .int .i64 a8, .int .i64 a9, .int .i64 a10, .int .i64 a11, .int .i64 0]) (T := 73) (by simp) 4; have qc4 := HH.out.cellOf (b := w.heap.size) (c := #[.int .i64 a0, .int .i64 a1, .int .i64 a2, .int .i64 sm, .int .i64 a5, .int .i64 a6, .int .i64 a7, .int .i64 a8, .int .i64 a9, .int .i64 a10, .int .i64 a11, .int .i64 0]) (T := 73) (by simp) 4; have qf5 := HH.out.freeOf (b := w.heap.size) (c := #[.int .i64 a0, .int .i64 a1, .int .i64 a2, .int .i64 sm, .int .i64 a5, .int .i64 a6, .int .i64 a7, .int .i64 a8, .int .i64 a9, .int .i64 a10, .int .i64 a11, .int .i64 0]) (T := 73) (by simp) 5; have qc5 := HH.out.cellOf (b := w.heap.size) (c := #[.int .i64 a0, .int .i64 a1, .int .i64 a2, .int .i64 sm, .int .i64 a5, .int .i64 a6, .int .i64 a7, .int .i64 a8, .int .i64 a9, .int .i64 a10, .int .i64 a11, .int .i64 0]) (T := 73) (by simp) 5; have qf6 := HH.out.freeOf (b := w.heap.size) (c := #[.int .i64 a0, .int .i64 a1, .int .i64 a2, .int .i64 sm, .int .i64 a5, .int .i64 a6, .int .i64 a7, .int .i64 a8, .int .i64 a9, .int .i64 a10, .int .i64 a11, .int .i64 0]) (T := 73) (by simp) 6; have qc6 := HH.out.cellOf (b := w.heap.size) (c := #[.int .i64 a0, .int .i64 a1, .int .i64 a2, .int .i64 sm, .int .i64 a5, .int .i64 a6, .int .i64 a7, .int .i64 a8, .int .i64 a9, .int .i64 a10, .int .i64 a11, .int .i64 0]) (T := 73) (by simp) 6; have qf7 := HH.out.freeOf (b := w.heap.size) (c := #[.int .i64 a0, .int .i64 a1, .int .i64 a2, .int .i64 sm, .int .i64 a5, .int .i64 a6, .int .i64 a7, .int .i64 a8, .int .i64 a9, .int .i64 a10, .int .i64 a11, .int .i64 0]) (T := 73) (by simp) 7; have qc7 := HH.out.cellOf (b := w.heap.size) (c := #[.int .i64 a0, .int .i64 a1, .int .i64 a2, .int .i64 sm, .int .i64 a5, .int .i64 a6, .int .i64 a7, .int .i64 a8, .int .i64 a9, .int .i64 a10, .int .i64 a11, .int .i64 0]) (T := 73) (by simp) 7; have qf8 := HH.out.freeOf (b := w.heap.size) (c := #[.int .i64 a0, .int .i64 a1, .int .i64 a2, .int .i64 sm, .int .i64 a5, .int .i64 a6, .int .i64 a7, .int .i64 a8, .int .i64 a9, .int .i64 a10, .int .i64 a11, .int .i64 0]) (T := 73) (by simp) 8; have qc8 := HH.out.cellOf (b := w.heap.size) (c := #[.int .i64 a0, .int .i64 a1, .int .i64 a2, .int .i64 sm, .int .i64 a5, .int .i64 a6, .int .i64 a7, .int .i64 a8, .int .i64 a9, .int .i64 a10, .int .i64 a11, .int .i64 0]) (T := 73) (by simp) 8; have qf9 := HH.out.freeOf (b := w.heap.size) (c := #[.int .i64 a0, .int .i64 a1, .int .i64 a2, .int .i64 sm, .int .i64 a5, .int .i64 a6, .int .i64 a7, .int .i64 a8, .int .i64 a9, .int .i64 a10, .int .i64 a11, .int .i64 0]) (T := 73) (by simp) 9; have qc9 := HH.out.cellOf (b := w.heap.size) (c := #[.int .i64 a0, .int .i64 a1, .int .i64 a2, .int .i64 sm, .int .i64 a5, .int .i64 a6, .int .i64 a7, .int .i64 a8, .int .i64 a9, .int .i64 a10, .int .i64 a11, .int .i64 0]) (T := 73) (by simp) 9; have qf10 := HH.out.freeOf (b := w.heap.size) (c := #[.int .i64 a0, .int .i64 a1, .int .i64 a2, .int .i64 sm, .int .i64 a5, .int .i64 a6, .int .i64 a7, .int .i64 a8, .int .i64 a9, .int .i64 a10, .int .i64 a11, .int .i64 0]) (T := 73) (by simp) 10; have qc10 := HH.out.cellOf (b := w.heap.size) (c := #[.int .i64 a0, .int .i64 a1, .int .i64 a2, .int .i64 sm, .int .i64 a5, .int .i64 a6, .int .i64 a7, .int .i64 a8, .int .i64 a9, .int .i64 a10, .int .i64 a11, .int .i64 0]) (T := 73) (by simp) 10; have qf11 := HH.out.freeOf (b := w.heap.size) (c := #[.int .i64 a0, .int .i64 a1, .int .i64 a2, .int .i64 sm, .int .i64 a5, .int .i64 a6, .int .i64 a7, .int .i64 a8, .int .i64 a9, .int .i64 a10, .int .i64 a11, .int .i64 0]) (T := 73) (by simp) 11; have qc11 := HH.out.cellOf (b := w.heap.size) (c := #[.int .i64 a0, .int .i64 a1, .int .i64 a2, .int .i64 sm, .int .i64 a5, .int .i64 a6, .int .i64 a7, .int .i64 a8, .int .i64 a9, .int .i64 a10, .int .i64 a11, .int .i64 0]) (T := 73) (by simp) 11; simp at qc0 qc1 qc2 qc3 qc4 qc5 qc6 qc7 qc8 qc9 qc10 qc11))
 refine bodyPost_ret (v := .tuple #[.agg #[.int .i64 a0, .int .i64 a1, .int .i64 a2, .int .i64 sm, .int .i64 a5, .int .i64 a6, .int .i64 a7, .int .i64 a8, .int .i64 a9, .int .i64 a10, .int .i64 a11, .int .i64 a12], .int .i64 a3]) (by simp [results, Try.results73, go_sem, qc0, qc1, qc2, qc3, qc4, qc5, qc6, qc7, qc8, qc9, qc10, qc11]) rfl ⟨rfl, ?_⟩
 exact (((((((((((((H.out.p1.rawSet 11 _).rawSet 0 _).rawSet 1 _).rawSet 2 _).rawSet 3 _).rawSet 4 _).rawSet 5 _).rawSet 6 _).rawSet 7 _).rawSet 8 _).rawSet 9 _).rawSet 10 _).rawSet 11 _).drop

end Go.Proofs.Ytngojlinfdokpaa
