/- Numbers, there and back (pure). -/
import Derived.Test.YtenojajfacacoaaDoorGScriptBackCard1
import Derived.Test.YtenojajfacacoaaDoorBlobP
import Derived.Test.YtenojajfacacoaaDoorBlob1
import Derived.Test.YtenojajfacacoaaDoorBlob2
import Derived.Test.YtenojajfacacoaaDoorSc17P
import Derived.Test.YtenojajfacacoaaDoorSc9P
import Derived.Test.YtenojajfacacoaaDoorSc5P
import Derived.Test.YtenojajfacacoaaDoorSc6P
import Derived.Test.YtenojajfacacoaaDoorSc2P
import Derived.Test.YtenojajfacacoaaDoorSc4
import Derived.Lib.Split
import Derived.Lib.SplitLaws
import Derived.Lib.ItoaMem
import Derived.Lib.ItoaLen
/- Rows of records. -/
namespace Go.Proofs.YtenojajfacacoaaDoor
open Go.RowKit

/-- Of all of a row. -/
def Know.all {α : Type} (l : List α) (k : α → Know) : Know := ⟨fun w F => ∀ x ∈ l, (k x).p w F, fun w w' F h hs hk x hx => (k x).keep w w' F (h x hx) hs hk, fun w F F' h hs x hx => (k x).mono w F F' (h x hx) hs⟩
/-- A record's cells, and where its headers lie. -/
def RRec (cs : List Value) (x : RecS × Value) : Prop := cs = [.int .i64 x.1.time, .int .i64 x.1.off, .bool x.1.key.null, .string (bb x.1.key.data), .bool x.1.val.null, .string (bb x.1.val.data), x.2]
def rcells (x : RecS × Value) : List Value := [.int .i64 x.1.time, .int .i64 x.1.off, .bool x.1.key.null, .string (bb x.1.key.data), .bool x.1.val.null, .string (bb x.1.val.data), x.2]
def Know.recs (v : Value) (l : List (RecS × Value)) : Know := (Know.flat RRec v 7 l).and (Know.all l fun x => Know.flat RHdr x.2 3 x.1.hdrs)
theorem recs_flat {K : Know} {v : Value} {l : List (RecS × Value)} (h : K.has (Know.recs v l)) : K.has (Know.flat RRec v 7 l) := fun w F x => (h w F x).1
theorem recs_hdrs {K : Know} {v : Value} {l : List (RecS × Value)} (h : K.has (Know.recs v l)) {x : RecS × Value} (hx : x ∈ l) : K.has (Know.flat RHdr x.2 3 x.1.hdrs) := fun w F y => (h w F y).2 x hx
theorem recs_form {W0 w : World} {K : Know} {L : List Res} {v : Value} {l : List (RecS × Value)} (hk : K.has (Know.recs v l)) (h : St W0 w K L) : ∃ q cap, v = .slice q l.length cap := by
  obtain ⟨F, hF, _⟩ := h.get
  obtain ⟨q, cap, hv, _⟩ := (recs_flat hk _ _ hF).at
  exact ⟨q, cap, hv⟩
/-- Where the records lie. -/
theorem recs_at {W0 w : World} {K : Know} {L : List Res} {q : Option Addr} {n cap : Nat} {l : List (RecS × Value)} (hk : K.has (Know.recs (.slice q n cap) l)) (h : St W0 w K L) (h0 : 0 < l.length) : ∃ b off, q = some ⟨b, off, none⟩ := by
  obtain ⟨F, hF, _⟩ := h.get
  obtain ⟨q2, cap2, hv, hr⟩ := (recs_flat hk _ _ hF).at
  obtain ⟨b, off, hq, _⟩ := hr h0
  simp at hv
  exact ⟨b, off, hv.1.trans hq⟩
theorem recs_cell {W0 w : World} {K : Know} {L : List Res} {b off n cap : Nat} {l : List (RecS × Value)} (hk : K.has (Know.recs (.slice (some ⟨b, off, none⟩) n cap) l)) (h : St W0 w K L) (i : Nat) (hi : i < l.length) (x : RecS × Value) (hx : l[i] = x) :
    w.cell? ⟨b, off + (i * 7), none⟩ = some (.int .i64 x.1.time) ∧ w.cell? ⟨b, off + (i * 7 + 1), none⟩ = some (.int .i64 x.1.off) ∧ w.cell? ⟨b, off + (i * 7 + 2), none⟩ = some (.bool x.1.key.null) ∧ w.cell? ⟨b, off + (i * 7 + 3), none⟩ = some (.string (bb x.1.key.data)) ∧ w.cell? ⟨b, off + (i * 7 + 4), none⟩ = some (.bool x.1.val.null) ∧ w.cell? ⟨b, off + (i * 7 + 5), none⟩ = some (.string (bb x.1.val.data)) ∧ w.cell? ⟨b, off + (i * 7 + 6), none⟩ = some (x.2) := by
  subst hx
  obtain ⟨F, hF, _⟩ := h.get
  obtain ⟨q2, cap2, hv, hr⟩ := (recs_flat hk _ _ hF).at
  obtain ⟨b2, off2, hq, hc⟩ := hr (by omega)
  rw [hq] at hv
  simp at hv
  obtain ⟨⟨rfl, rfl⟩, _, _⟩ := hv
  obtain ⟨cs, _, hR, hcs⟩ := hc i hi
  unfold RRec at hR
  subst hR
  exact ⟨hcs 0 _ rfl, hcs 1 _ rfl, hcs 2 _ rfl, hcs 3 _ rfl, hcs 4 _ rfl, hcs 5 _ rfl, hcs 6 _ rfl⟩
def encAll (l : List (RecS × Value)) : Bs := l.flatMap fun x => encR x.1
theorem encAll_snoc (l : List (RecS × Value)) (x : RecS × Value) : encAll (l ++ [x]) = encAll l ++ encR x.1 := by unfold encAll; simp
theorem encAll_take (l : List (RecS × Value)) (k : Nat) (h : k < l.length) : encAll (l.take (k + 1)) = encAll (l.take k) ++ encR l[k].1 := by rw [List.take_succ_eq_append_getElem h, encAll_snoc]
theorem encAll_le : ∀ (l : List (RecS × Value)), (∀ x ∈ l, (encR x.1).length ≤ 200000) → (encAll l).length ≤ 200000 * l.length
  | [], _ => by simp [encAll]
  | x :: t, h => by
    have h1 := encAll_le t (fun y hy => h y (by simp [hy]))
    have h2 := h x (by simp)
    have e : encAll (x :: t) = encR x.1 ++ encAll t := rfl
    rw [e, List.length_append, List.length_cons]
    omega
theorem reRec_back (x : RecS) (hx : x.R) (ho : recOk x = 0) (hs : x.sum ≤ 1000000) (r : Bs) : reRec (encR x ++ r) = .ok (x, (encR x).length) := by
  have hle := recF_le x hx hs
  have h1 := revaried_back ⟨false, recF x⟩ rfl (by simp only; omega) r
  unfold reRec encR
  rw [h1]
  simp only [Bool.false_eq_true, if_false]
  rw [reInner_back x hx ho hs]
/-- The k-th record is read where those ahead of it end. -/
theorem record_next (l : List (RecS × Value)) (k : Nat) (hk : k < l.length) (hx : l[k].1.R) (ho : recOk l[k].1 = 0) (hs : l[k].1.sum ≤ 1000000) :
    (⟨encAll l, (encAll (l.take k)).length, 0⟩ : InS).record = (l[k].1, ⟨encAll l, (encAll (l.take (k + 1))).length, 0⟩) := by
  have h1 : l = l.take k ++ (l[k] :: l.drop (k + 1)) := by rw [← List.drop_eq_getElem_cons hk, List.take_append_drop]
  have e1 : encAll l = encAll (l.take k) ++ (encR l[k].1 ++ encAll (l.drop (k + 1))) := by
    have e2 : encAll (l.take k ++ (l[k] :: l.drop (k + 1))) = encAll (l.take k) ++ (encR l[k].1 ++ encAll (l.drop (k + 1))) := by
      unfold encAll
      rw [List.flatMap_append, List.flatMap_cons]
    rw [← e2, ← h1]
  have hd : (encAll l).drop (encAll (l.take k)).length = encR l[k].1 ++ encAll (l.drop (k + 1)) := by rw [e1, List.drop_left]
  have h2 := rds_rec.ok (encAll l) (encAll (l.take k)).length l[k].1 (encR l[k].1).length (by rw [e1, List.length_append]; omega) (by rw [hd]; exact reRec_back _ hx ho hs _)
  rw [encAll_take l k hk, List.length_append]
  exact h2.2

end Go.Proofs.YtenojajfacacoaaDoor
/- The bytes of control records (pure). -/
namespace Go.Proofs.YtenojajfacacoaaDoor
open Go.RowKit

/-- A number of so many bytes, behind the version. -/
def verB (n : Int) (k : Nat) : Bs := beBytes 0 2 ++ beBytes n k
def ctlKey (k : Int) : Bs × Int := if k = 0 ∨ k = 1 then (verB k 2, 0) else ([], 12)
def ctlVal (n : Int) : Bs × Int := if 0 ≤ n ∧ n < 2147483648 then (verB n 4, 0) else ([], 11)
/-- Of bytes the number behind the version. -/
def verRd (k : Nat) (ok : Int → Bool) (e : Int) (s : Bs) : Int × Int :=
  if s.length < 2 then (0, 1) else if sInt (s.take 2) ≠ 0 then (0, 7) else if s.length < 2 + k then (0, 1)
  else if ok (sInt ((s.drop 2).take k)) = false then (0, e) else if 2 + k < s.length then (0, 2) else (sInt ((s.drop 2).take k), 0)
def verA (s : Bs) : Int × InS := (⟨s, 0, 0⟩ : InS).int 2
def verI (s : Bs) : InS := if (verA s).1 = 0 then (verA s).2 else (verA s).2.fail 7
def verJ (k : Nat) (ok : Int → Bool) (e : Int) (s : Bs) : InS := if ok ((verI s).int k).1 = true then ((verI s).int k).2 else ((verI s).int k).2.fail e
def verD (k : Nat) (ok : Int → Bool) (e : Int) (s : Bs) : Int × Int := if (verJ k ok e s).close.err = 0 then (((verI s).int k).1, 0) else (0, (verJ k ok e s).close.err)
theorem close_stuckC {i : InS} (h : i.err ≠ 0) : i.close = i := by
  unfold InS.close
  split
  · exact if_neg h
  · rfl
theorem verD_bad {k : Nat} {ok : Int → Bool} {e x : Int} {s : Bs} (hx : x ≠ 0) (h : (verJ k ok e s).err = x) : verD k ok e s = (0, x) := by
  subst h
  unfold verD
  rw [close_stuckC hx, if_neg hx]
theorem verJ_stuck {k : Nat} {ok : Int → Bool} {e x : Int} {s : Bs} (h1 : 1 ≤ k) (h8 : k ≤ 8) (hx : x ≠ 0) (h : (verI s).err = x) : (verJ k ok e s).err = x := by
  subst h
  have h2 : (verI s).int k = (0, verI s) := (rds_intN k h1 h8).stuck (verI s) hx
  unfold verJ
  rw [h2]
  split
  · rfl
  · rw [show (verI s).fail e = verI s from if_neg hx]
theorem verD_eq (k : Nat) (ok : Int → Bool) (e : Int) (h1 : 1 ≤ k) (h8 : k ≤ 8) (he : e ≠ 0) (s : Bs) : verD k ok e s = verRd k ok e s := by
  have hi := rds_intN 2 (by decide) (by decide)
  have hk := rds_intN k h1 h8
  unfold verRd
  by_cases c1 : s.length < 2
  · rw [if_pos c1]
    obtain ⟨_, q, _, h3⟩ := hi.err s 0 1 (Nat.zero_le _) (by simp [getIntN, c1])
    have h4 : verA s = (0, ⟨s, q, 1⟩) := h3
    refine verD_bad (by decide) (verJ_stuck h1 h8 (by decide) ?_)
    unfold verI
    rw [h4]
    rfl
  rw [if_neg c1]
  obtain ⟨_, h3⟩ := hi.ok s 0 (sInt (s.take 2)) 2 (Nat.zero_le _) (by simp [getIntN, c1])
  have h4 : verA s = (sInt (s.take 2), ⟨s, 2, 0⟩) := h3
  by_cases c2 : sInt (s.take 2) ≠ 0
  · rw [if_pos c2]
    refine verD_bad (by decide) (verJ_stuck h1 h8 (by decide) ?_)
    unfold verI
    rw [h4, if_neg c2]
    rfl
  rw [if_neg c2]
  have hI : verI s = ⟨s, 2, 0⟩ := by unfold verI; rw [h4, if_pos (by simpa using c2)]
  by_cases c3 : s.length < 2 + k
  · rw [if_pos c3]
    obtain ⟨_, q, _, h7⟩ := hk.err s 2 1 (by omega) (by unfold getIntN; rw [if_pos (by rw [List.length_drop]; omega)])
    have h7 : (verI s).int k = (0, ⟨s, q, 1⟩) := by rw [hI]; exact h7
    refine verD_bad (by decide) ?_
    unfold verJ
    rw [h7]
    split
    · rfl
    · rfl
  rw [if_neg c3]
  obtain ⟨_, h7⟩ := hk.ok s 2 (sInt ((s.drop 2).take k)) k (by omega) (by unfold getIntN; rw [if_neg (by rw [List.length_drop]; omega)])
  have h7 : (verI s).int k = (sInt ((s.drop 2).take k), ⟨s, 2 + k, 0⟩) := by rw [hI]; exact h7
  by_cases c4 : ok (sInt ((s.drop 2).take k)) = false
  · rw [if_pos c4]
    refine verD_bad he ?_
    unfold verJ
    rw [h7]
    rw [if_neg (by rw [c4]; decide)]
    rfl
  rw [if_neg c4]
  have hJ : verJ k ok e s = ⟨s, 2 + k, 0⟩ := by unfold verJ; rw [h7, if_pos (by simpa using c4)]
  by_cases c5 : 2 + k < s.length
  · have hc : (⟨s, 2 + k, 0⟩ : InS).close = ⟨s, 2 + k, 2⟩ := by
      unfold InS.close
      rw [if_pos (show 0 < (⟨s, 2 + k, 0⟩ : InS).left by simp only [InS.left]; omega)]
      rfl
    unfold verD
    rw [if_pos c5, hJ, hc, if_neg (by simp only; decide)]
  · have hc : (⟨s, 2 + k, 0⟩ : InS).close = ⟨s, 2 + k, 0⟩ := by
      unfold InS.close
      rw [if_neg (show ¬ 0 < (⟨s, 2 + k, 0⟩ : InS).left by simp only [InS.left]; omega)]
    unfold verD
    rw [if_neg c5, hJ, hc, if_pos rfl, h7]
def way (n : Int) : Bool := n == 0 || n == 1
def time0 (n : Int) : Bool := decide (0 ≤ n)
theorem verB_len (n : Int) (k : Nat) : (verB n k).length = 2 + k := by unfold verB; simp [beBytes_length]
theorem verB_take (n : Int) (k : Nat) : (verB n k).take 2 = beBytes 0 2 := by unfold verB; rw [List.take_left' (by simp [beBytes_length])]
theorem verB_drop (n : Int) (k : Nat) : (verB n k).drop 2 = beBytes n k := by unfold verB; rw [List.drop_left' (by simp [beBytes_length])]
theorem verRd_back (n : Int) (k : Nat) (ok : Int → Bool) (e : Int) (h1 : 1 ≤ k) (h8 : k ≤ 8) (hf : fits n k) (ho : ok n = true) : verRd k ok e (verB n k) = (n, 0) := by
  have h2 : sInt (beBytes n k) = n := (sInt_beBytes_iff n k h1).2 ⟨hf.2.2.1, hf.2.2.2⟩
  have h3 : (verB n k).length = 2 + k := verB_len n k
  have h4 : ((verB n k).drop 2).take k = beBytes n k := by rw [verB_drop, List.take_of_length_le (by simp [beBytes_length])]
  unfold verRd
  rw [if_neg (by omega), verB_take, if_neg (by decide), if_neg (by omega), h4, h2, if_neg (by rw [ho]; decide), if_neg (by omega)]
theorem ver_text (n : Int) (k : Nat) (h : fits n k) : ((⟨beBytes 0 2, 0⟩ : OutS).int n k).text = (verB n k, 0) := by
  unfold OutS.int
  rw [if_pos h]
  rfl
theorem ver_textN (n : Int) (k : Nat) (h : ¬ fits n k) : ((⟨beBytes 0 2, 0⟩ : OutS).int n k).text = ([], 11) := by
  unfold OutS.int
  rw [if_neg h]
  rfl
theorem half2 : half 2 = 32768 := by decide
theorem half4 : half 4 = 2147483648 := by decide
theorem fits2 (n : Int) (h : -32768 ≤ n ∧ n < 32768) : fits n 2 := ⟨by decide, by decide, by have := half2; show -half 2 ≤ n; omega, by have := half2; show n < half 2; omega⟩
theorem fits4 (n : Int) : fits n 4 ↔ (-2147483648 ≤ n ∧ n < 2147483648) := by
  have := half4
  constructor
  · intro h
    have h3 : -half 4 ≤ n := h.2.2.1
    have h4 : n < half 4 := h.2.2.2
    omega
  · intro h
    exact ⟨by decide, by decide, by show -half 4 ≤ n; omega, by show n < half 4; omega⟩

end Go.Proofs.YtenojajfacacoaaDoor
/- Contracts of package control. -/
namespace Go.Proofs.YtenojajfacacoaaDoor
open Go.RowKit

end Go.Proofs.YtenojajfacacoaaDoor
/- Contracts of cursitorref08. -/
namespace Go.Proofs.YtenojajfacacoaaDoor
open Go.RowKit

end Go.Proofs.YtenojajfacacoaaDoor
/- Contracts: control records. -/
namespace Go.Proofs.YtenojajfacacoaaDoor
open Go.RowKit

theorem know_nil0 {α : Type} (R : List Value → α → Prop) (sz : Nat) (K : Know) : K.has (Know.flat R (.slice none 0 0) sz []) := fun _ _ _ => ⟨none, 0, rfl, fun h => absurd h (by simp)⟩

def ctlRead (n1 n2 : Bool) (d1 d2 : Bs) (many o : Int) : Int × Int × Int :=
  if n1 = true ∨ n2 = true ∨ many ≠ 0 ∨ o ≠ 0 then (0, 0, 12)
  else if (verRd 2 way 12 d1).2 ≠ 0 then (0, 0, (verRd 2 way 12 d1).2)
  else if (verRd 4 time0 11 d2).2 ≠ 0 then (0, 0, (verRd 4 time0 11 d2).2)
  else ((verRd 2 way 12 d1).1, (verRd 4 time0 11 d2).1, 0)

end Go.Proofs.YtenojajfacacoaaDoor
/- Batches (pure): which may be. -/
namespace Go.Proofs.YtenojajfacacoaaDoor
open Go.RowKit

structure BatS where
  base : Int
  leader : Int
  app : Bool
  txn : Bool
  ctl : Bool
  last : Int
  first : Int
  maxt : Int
  prod : Int
  epoch : Int
  seq : Int
  recs : List RecS
deriving DecidableEq
def BatS.zero : BatS := ⟨0, 0, false, false, false, 0, 0, 0, 0, 0, 0, []⟩
def Rn (n : Int) : Prop := -9223372036854775808 ≤ n ∧ n < 9223372036854775808
def BatS.R (b : BatS) : Prop := Rn b.base ∧ Rn b.leader ∧ Rn b.last ∧ Rn b.first ∧ Rn b.maxt ∧ Rn b.prod ∧ Rn b.epoch ∧ Rn b.seq
def BatS.placed (b : BatS) : Bool := decide (0 ≤ b.base ∧ (-1 ≤ b.leader ∧ b.leader ≤ 2147483647) ∧ (0 ≤ b.last ∧ b.last ≤ 2147483647) ∧ b.base ≤ 9223372036854775807 - b.last ∧ 0 ≤ b.first ∧ 0 ≤ b.maxt)
def BatS.signed (b : BatS) : Bool :=
  if b.prod = -1 then decide (b.epoch = -1 ∧ b.seq = -1 ∧ b.txn = false)
  else if b.prod < 0 ∨ ¬ (0 ≤ b.epoch ∧ b.epoch ≤ 32767) then false
  else if b.ctl then decide (b.seq = -1)
  else decide (0 ≤ b.seq ∧ b.seq ≤ 2147483647)
/-- The greatest time of records behind a first one, or why their places and times may not be. -/
def rowsC (first last : Int) : List RecS → Int → Int → Except Int Int
  | [], _, g => .ok g
  | r :: t, ah, g => if r.off ≤ ah ∨ last < r.off then .error 13 else if r.time < -first ∨ 9223372036854775807 - first < r.time then .error 11 else rowsC first last t r.off (max g (first + r.time))
def rowsE (app : Bool) (maxt : Int) (r : Except Int Int) : Int := match r with
  | .error e => e
  | .ok g => if app = false ∧ maxt ≠ g then 11 else 0
def BatS.rows (b : BatS) : Int := rowsE b.app b.maxt (rowsC b.first b.last b.recs (-1) b.first)
def recsC : List RecS → Int
  | [] => 0
  | r :: t => if recOk r = 0 then recsC t else recOk r
def ctlOf (r : RecS) : Int × Int × Int := ctlRead r.key.null r.val.null r.key.data r.val.data r.hdrs.length r.off
def BatS.ends (b : BatS) : Int := match b.recs with | [] => 0 | r :: _ => (ctlOf r).2.2
def batErr (b : BatS) : Int :=
  if b.placed = false then 11
  else if b.ctl = true ∧ b.txn = false then 8
  else if b.signed = false then 11
  else if b.ctl = true ∧ b.recs.length ≠ 1 then 10
  else if recsC b.recs ≠ 0 then recsC b.recs
  else if b.ctl = true ∧ b.ends ≠ 0 then b.ends
  else b.rows

end Go.Proofs.YtenojajfacacoaaDoor
/- What is read of a script. -/
namespace Go.Proofs.YtenojajfacacoaaDoor
open Go.RowKit

/-- A batch, its records, and where those lie. -/
structure BtR where
  b : BatS
  l : List (RecS × Value)
  v : Value
def bhead (b : BatS) (v : Value) : List Value := [.int .i64 b.base, .int .i64 b.leader, .bool b.app, .bool b.txn, .bool b.ctl, .int .i64 b.last, .int .i64 b.first, .int .i64 b.maxt, .int .i64 b.prod, .int .i64 b.epoch, .int .i64 b.seq, v]
def btcells (x : BtR) : List Value := bhead x.b x.v
def RBt (cs : List Value) (x : BtR) : Prop := cs = btcells x
def Know.btrs (v : Value) (l : List BtR) : Know := (Know.flat RBt v 12 l).and (Know.all l fun x => Know.recs x.v x.l)
/-- What was read of batches: none; up to a batch without records; up to a record. -/
inductive BSt
  | zero
  | bat (d : List BtR) (b : BatS)
  | recd (d : List BtR) (b : BatS) (l : List (RecS × Value)) (r : RecS)
def BSt.n : BSt → Nat
  | .zero => 0
  | .bat d _ => d.length + 1
  | .recd d _ _ _ => d.length + 1
def BSt.m : BSt → Nat
  | .recd _ _ l _ => l.length + 1
  | _ => 0
def BSt.p : BSt → Nat
  | .recd _ _ _ r => r.hdrs.length
  | _ => 0
def BSt.xs : BSt → Value → List Value
  | .zero, _ => []
  | .bat d b, v => d.flatMap btcells ++ bhead b v
  | .recd d b _ _, v => d.flatMap btcells ++ bhead b v
def BSt.ys : BSt → Value → List Value
  | .recd _ _ l r, v => l.flatMap rcells ++ rcells (r, v)
  | _, _ => []
def BSt.zs : BSt → List Value
  | .recd _ _ _ r => r.hdrs.flatMap hcells
  | _ => []
/-- What is done with is known for good. -/
def BSt.known (K : Know) : BSt → Prop
  | .zero => True
  | .bat d _ => ∀ x ∈ d, K.has (Know.recs x.v x.l)
  | .recd d _ l _ => (∀ x ∈ d, K.has (Know.recs x.v x.l)) ∧ ∀ x ∈ l, K.has (Know.flat RHdr x.2 3 x.1.hdrs)
def BSt.rows (s : BSt) (vB vR vH : Value) (L : List Res) : List Res := .row vB 45 12 s.n (s.xs vR) :: .row vR 51 7 s.m (s.ys vH) :: .row vH 54 3 s.p s.zs :: L
theorem BSt.known.mono {K K' : Know} {s : BSt} (h : s.known K) (hk : K'.has K) : s.known K' := by
  cases s with
  | zero => trivial
  | bat d b => exact fun x hx => Know.has_trans hk (h x hx)
  | recd d b l r => exact ⟨fun x hx => Know.has_trans hk (h.1 x hx), fun x hx => Know.has_trans hk (h.2 x hx)⟩
theorem bcells_len (b : BatS) (v : Value) : (bhead b v).length = 12 := rfl
theorem btcells_len : ∀ d : List BtR, (d.flatMap btcells).length = d.length * 12
  | [] => rfl
  | x :: t => by rw [List.flatMap_cons, List.length_append, btcells_len t, List.length_cons]; show 12 + _ = _; omega
theorem rcells_len : ∀ d : List (RecS × Value), (d.flatMap rcells).length = d.length * 7
  | [] => rfl
  | x :: t => by rw [List.flatMap_cons, List.length_append, rcells_len t, List.length_cons]; show 7 + _ = _; omega
theorem xs_at (d : List BtR) (b : BatS) (v : Value) : (d.flatMap btcells ++ bhead b v)[d.length * 12 + 11]? = some v := by
  rw [List.getElem?_append_right (by rw [btcells_len]; omega), btcells_len, show d.length * 12 + 11 - d.length * 12 = 11 by omega]
  rfl
theorem xs_set (d : List BtR) (b : BatS) (v u : Value) : (d.flatMap btcells ++ bhead b v).set (d.length * 12 + 11) u = d.flatMap btcells ++ bhead b u := by
  rw [List.set_append_right _ _ (by rw [btcells_len]; omega), btcells_len, show d.length * 12 + 11 - d.length * 12 = 11 by omega]
  rfl
theorem ys_at (l : List (RecS × Value)) (r : RecS) (v : Value) : (l.flatMap rcells ++ rcells (r, v))[l.length * 7 + 6]? = some v := by
  rw [List.getElem?_append_right (by rw [rcells_len]; omega), rcells_len, show l.length * 7 + 6 - l.length * 7 = 6 by omega]
  rfl
theorem ys_set (l : List (RecS × Value)) (r : RecS) (v u : Value) : (l.flatMap rcells ++ rcells (r, v)).set (l.length * 7 + 6) u = l.flatMap rcells ++ rcells (r, u) := by
  rw [List.set_append_right _ _ (by rw [rcells_len]; omega), rcells_len, show l.length * 7 + 6 - l.length * 7 = 6 by omega]
  rfl
theorem flat_snoc {α : Type} (l : List α) (x : α) (f : α → List Value) : (l ++ [x]).flatMap f = l.flatMap f ++ f x := by simp
/-- The headers of the record that was read last are left as they are. -/
theorem shutH {W0 w : World} {K : Know} {L : List Res} {vH : Value} {T : TypeId} {r : RecS} (h : St W0 w K (.row vH T 3 r.hdrs.length (r.hdrs.flatMap hcells) :: L)) : St W0 w (K.and (Know.flat RHdr vH 3 r.hdrs)) L :=
  h.freezeRow fun x _ => ⟨rfl, rfl⟩
theorem shutR {W0 w : World} {K : Know} {L : List Res} {vR : Value} {T : TypeId} {l : List (RecS × Value)} (h : St W0 w K (.row vR T 7 l.length (l.flatMap rcells) :: L)) (hl : ∀ x ∈ l, K.has (Know.flat RHdr x.2 3 x.1.hdrs)) : ∃ K', K'.has K ∧ K'.has (Know.recs vR l) ∧ St W0 w K' L := by
  have h1 := h.freezeRow (R := RRec) (f := rcells) fun x _ => ⟨rfl, rfl⟩
  refine ⟨_, Know.has_left (Know.has_refl _), fun w F hw => ⟨hw.2, fun x hx => hl x hx w F hw.1⟩, h1⟩
theorem shutB {W0 w : World} {K : Know} {L : List Res} {vB : Value} {T : TypeId} {l : List BtR} (h : St W0 w K (.row vB T 12 l.length (l.flatMap btcells) :: L)) (hl : ∀ x ∈ l, K.has (Know.recs x.v x.l)) : ∃ K', K'.has K ∧ K'.has (Know.btrs vB l) ∧ St W0 w K' L := by
  have h1 := h.freezeRow (R := RBt) (f := btcells) fun x _ => ⟨rfl, rfl⟩
  refine ⟨_, Know.has_left (Know.has_refl _), fun w F hw => ⟨hw.2, fun x hx => hl x hx w F hw.1⟩, h1⟩

end Go.Proofs.YtenojajfacacoaaDoor
/- Rows of records, made (pure). -/
namespace Go.Proofs.YtenojajfacacoaaDoor
open Go.RowKit

theorem elem_recS : ElemT Tryd.prog 51 (.agg #[.int .i64 0, .int .i64 0, .bool false, .string ⟨#[]⟩, .bool false, .string ⟨#[]⟩, .slice none 0 0]) 7 88 := elemT_of (by kernel_rfl) rfl (by decide)
set_option maxRecDepth 100000 in
theorem buildR (t o : Int) (kn vn : Bool) (kd vd : ByteArray) (w : World) : (Instr.buildSlice 43 1 #[(0, .agg #[.int .i64 t, .int .i64 o, .bool kn, .string kd, .bool vn, .string vd, .slice none 0 0])]).run Tryd.prog w = .ok (.slice (some ⟨w.heap.size, 0, none⟩) 1 1) (w.alloc (.cells #[.int .i64 t, .int .i64 o, .bool kn, .string kd, .bool vn, .string vd, .slice none 0 0] 51 (0, 0))) := by go_simp
theorem exec_buildR {o : Oper} {ρ : Operand → Value} (ps : Array (Nat × Value)) (v : Value) (w w' : World) (ho : execOp ρ o = (do pure (Next.value (← Instr.buildSlice 43 1 ps)))) (hb : (Instr.buildSlice 43 1 ps).run Tryd.prog w = .ok v w') : (execOp ρ o).run Tryd.prog w = .ok (.value v) w' := by
  rw [ho]
  simp [hb, Result.andThen]
theorem St.rowSetEx {W0 w : World} {K : Know} {L : List Res} {g n cap sz : Nat} {T : TypeId} {xs : List Value} (h : St W0 w K (.row (.slice (some ⟨g, 0, none⟩) n cap) T sz n xs :: L)) (j : Nat) (v : Value) : ∃ wz, w.setCell ⟨g, j, none⟩ v = wz ∧ St W0 wz K (.row (.slice (some ⟨g, 0, none⟩) n cap) T sz n (xs.set j v) :: L) := ⟨_, rfl, h.rowSet j v⟩
theorem St.p6 {W0 w : World} {K : Know} {a b c d e f g : Res} {L : List Res} (h : St W0 w K (a :: b :: c :: d :: e :: f :: g :: L)) : St W0 w K (g :: a :: b :: c :: d :: e :: f :: L) := St.p5 (h.map fun _ h => h.cons fun _ h => h.cons fun _ h => h.cons fun _ h => h.cons fun _ h => h.cons fun _ => Holds.swap)
theorem strs_fact {W0 : World} {K : Know} {wb off : Nat} {ws : List Bs} (hk : K.has (Know.strs wb off ws)) (j : Nat) (x : Bs) (hx : ws[j]? = some x) : ∀ (w' : World) (L' : List Res), St W0 w' K L' → w'.cell? ⟨wb, off + j, none⟩ = some (.string (bb x)) := fun w' L' h' => by
  obtain ⟨F, hF, _⟩ := h'.get
  exact (hk _ _ hF).2.2 j x hx

end Go.Proofs.YtenojajfacacoaaDoor
/- Two texts (pure). -/
namespace Go.Proofs.YtenojajfacacoaaDoor
open Go.RowKit

theorem sl_cutN (s a b : Bs) (f : Bool) (hc : Lib.cut s [10] = (a, b, f)) (hs : s.length ≤ 1000000) {W0 w : World} {K : Know} {L : List Res} (hk : K.has Know.lib) (h : St W0 w K L) :
    Calls Tryd.prog 25 #[.string (bb s), .string ⟨#[10]⟩] w fun e w' => e = .returned (.tuple #[.string (bb a), .string (bb b), .bool f]) ∧ St W0 w' K L := sl_cut s [10] a b f hc hs hk h
theorem sl_splitN (s : Bs) (ws : List Bs) (n : Nat) (hn : ws.length = n) (hw : wordsOf s = ws.map bb) (hs : s.length ≤ 1000000) {W0 w : World} {K : Know} {L : List Res} (hk : K.has Know.lib) (h : St W0 w K L) :
    Calls Tryd.prog 13 #[.string (bb s), .string ⟨#[32]⟩] w fun e w' => ∃ b, e = .returned (.slice (some ⟨b, 0, none⟩) n n) ∧ St W0 w' K (.raw b (ws.map fun x => Value.string (bb x)).toArray 9 :: L) := by
  subst hn; exact sl_split s ws hw hs hk h
theorem kc1 : Lib.cut [98, 97, 116, 99, 104, 32, 48, 32, 45, 49, 32, 48, 32, 48, 32, 48, 32, 45, 49, 32, 45, 49, 32, 45, 49, 32, 45, 10, 99, 117, 116, 32, 53, 10] [10] = ([98, 97, 116, 99, 104, 32, 48, 32, 45, 49, 32, 48, 32, 48, 32, 48, 32, 45, 49, 32, 45, 49, 32, 45, 49, 32, 45], [99, 117, 116, 32, 53, 10], true) := by decide +kernel
theorem kc2 : Lib.cut [99, 117, 116, 32, 53, 10] [10] = ([99, 117, 116, 32, 53], [], true) := by decide +kernel
theorem kc3 : Lib.cut [99, 117, 116, 32, 53, 10, 98, 97, 116, 99, 104, 32, 48, 32, 45, 49, 32, 48, 32, 48, 32, 48, 32, 45, 49, 32, 45, 49, 32, 45, 49, 32, 45, 10] [10] = ([99, 117, 116, 32, 53], [98, 97, 116, 99, 104, 32, 48, 32, 45, 49, 32, 48, 32, 48, 32, 48, 32, 45, 49, 32, 45, 49, 32, 45, 49, 32, 45, 10], true) := by decide +kernel
theorem kc4 : Lib.cut [98, 97, 116, 99, 104, 32, 48, 32, 45, 49, 32, 48, 32, 48, 32, 48, 32, 45, 49, 32, 45, 49, 32, 45, 49, 32, 45, 10] [10] = ([98, 97, 116, 99, 104, 32, 48, 32, 45, 49, 32, 48, 32, 48, 32, 48, 32, 45, 49, 32, 45, 49, 32, 45, 49, 32, 45], [], true) := by decide +kernel
theorem kwA : wordsOf [98, 97, 116, 99, 104, 32, 48, 32, 45, 49, 32, 48, 32, 48, 32, 48, 32, 45, 49, 32, 45, 49, 32, 45, 49, 32, 45] = ([[98, 97, 116, 99, 104], [48], [45, 49], [48], [48], [48], [45, 49], [45, 49], [45, 49], [45]] : List Bs).map bb := by decide +kernel
theorem kwB : wordsOf [99, 117, 116, 32, 53] = ([[99, 117, 116], [53]] : List Bs).map bb := by decide +kernel
theorem kn8 : numsRd [[48], [45, 49], [48], [48], [48], [45, 49], [45, 49], [45, 49]] = some [0, -1, 0, 0, 0, -1, -1, -1] := by decide +kernel
theorem kn5 : numRd [53] = some 5 := by decide +kernel

end Go.Proofs.YtenojajfacacoaaDoor
/- A word of bytes, or none (pure). -/
namespace Go.Proofs.YtenojajfacacoaaDoor
open Go.RowKit

/-- Bytes of a word, or none. -/
def blobV (s : Bs) : Bool × Bs × Bool := if s = [110, 111, 110, 101] then (true, [], true) else (false, (hexV s).1, (hexV s).2)

end Go.Proofs.YtenojajfacacoaaDoor
/- What lines say (pure), and how a reader lies. -/
namespace Go.Proofs.YtenojajfacacoaaDoor
open Go.RowKit

/-- What a line says. -/
inductive Said
  | chunks (l : List Int)
  | cut (n : Int)
  | bat (b : BatS)
  | recd (r : RecS)
  | hdr (h : HdrS)
def rdBat (r : List Bs) : Option BatS := match numsRd (r.take 8), r.drop 8 with
  | some [n0, n1, n2, n3, n4, n5, n6, n7], [t] => if letOk t then some ⟨n0, n1, hasB t 97, hasB t 116, hasB t 99, n2, n3, n4, n5, n6, n7, []⟩ else none
  | _, _ => none
def rdRec : List Bs → Option RecS
  | [a, b, kw, vw] => match numsRd [a, b] with
    | some [t, o] => if (blobV kw).2.2 && (blobV vw).2.2 then some ⟨t, o, ⟨(blobV kw).1, (blobV kw).2.1⟩, ⟨(blobV vw).1, (blobV vw).2.1⟩, []⟩ else none
    | _ => none
  | _ => none
def rdHdr : List Bs → Option HdrS
  | [kw, vw] => if (hexV kw).2 && (blobV vw).2.2 then some ⟨(hexV kw).1, ⟨(blobV vw).1, (blobV vw).2.1⟩⟩ else none
  | _ => none
def rdCut : List Bs → Option Int
  | [x] => match numRd x with
    | some n => if n < 0 then none else some n
    | none => none
  | _ => none
def rdChunks (r : List Bs) : Option (List Int) := if r = [] then none else numsRd r
def rdLine (n m : Nat) (c : Int) (ch : List Int) : List Bs → Option Said
  | [] => none
  | w :: r => if ch ≠ [] then none
    else if w = [99, 104, 117, 110, 107, 115] then (rdChunks r).map .chunks
    else if c ≠ -1 then none
    else if w = [99, 117, 116] then (rdCut r).map .cut
    else if w = [98, 97, 116, 99, 104] then (rdBat r).map .bat
    else if w = [114, 101, 99, 111, 114, 100] then (if n = 0 then none else (rdRec r).map .recd)
    else if w = [104, 101, 97, 100, 101, 114] then (if n = 0 ∨ m = 0 then none else (rdHdr r).map .hdr)
    else none
def BSt.close : BSt → Value → Value → List BtR
  | .zero, _, _ => []
  | .bat d b, vR, _ => d ++ [⟨b, [], vR⟩]
  | .recd d b l r, vR, vH => d ++ [⟨b, l ++ [(r, vH)], vR⟩]
def BSt.put (s : BSt) (vR vH : Value) : Said → BSt
  | .chunks _ => s
  | .cut _ => s
  | .bat b => .bat (s.close vR vH) b
  | .recd r => match s with
    | .zero => s
    | .bat d b => .recd d b [] r
    | .recd d b l r0 => .recd d b (l ++ [(r0, vH)]) r
  | .hdr h => match s with
    | .recd d b l r => .recd d b l ⟨r.time, r.off, r.key, r.val, r.hdrs ++ [h]⟩
    | s => s
def cutOf (c : Int) : Said → Int
  | .cut n => n
  | _ => c
def chOf (ch : List Int) : Said → List Int
  | .chunks l => l
  | _ => ch
def RInt (cs : List Value) (x : Int) : Prop := cs = [.int .i64 x]
/-- A reader, as it lies. -/
def MemS (rd : Nat) (s : BSt) (c : Int) (ch : List Int) (W0 w : World) (K : Know) (L : List Res) : Prop := ∃ vB vR vH q cap, St W0 w K (.raw rd #[vB, .int .i64 c, .slice q ch.length cap] 65 :: s.rows vB vR vH L) ∧ s.known K ∧ K.has (Know.flat RInt (.slice q ch.length cap) 1 ch)
theorem numsRd_lenN {l : List Bs} {vs : List Int} (h : numsRd l = some vs) : vs.length = l.length := numsRd_len l vs h
theorem closeS {W0 w : World} {K : Know} {L : List Res} {x : Res} {s : BSt} {vB vR vH : Value} (hs : s.known K) (h : St W0 w K (x :: s.rows vB vR vH L)) : ∃ K', K'.has K ∧ (∀ y ∈ s.close vR vH, K'.has (Know.recs y.v y.l)) ∧ St W0 w K' (x :: .row vB 45 12 (s.close vR vH).length ((s.close vR vH).flatMap btcells) :: L) := by
  cases s with
  | zero => exact ⟨K, Know.has_refl _, (fun y hy => by cases hy), (h.p2.drop).p2.drop⟩
  | bat d b =>
    have h1 : St W0 w K (.row vR 51 7 ([] : List (RecS × Value)).length (([] : List (RecS × Value)).flatMap rcells) :: x :: .row vB 45 12 (d.length + 1) (d.flatMap btcells ++ bhead b vR) :: L) := h.p3.drop.p2
    obtain ⟨K', hk, hr, h2⟩ := shutR h1 (fun y hy => by cases hy)
    refine ⟨K', hk, fun y hy => ?_, ?_⟩
    · rcases List.mem_append.1 hy with hy | hy
      · exact Know.has_trans hk (hs y hy)
      · rw [List.mem_singleton.1 hy]; exact hr
    · have e : (BSt.close (.bat d b) vR vH).flatMap btcells = d.flatMap btcells ++ bhead b vR := flat_snoc _ _ _
      have e2 : (BSt.close (.bat d b) vR vH).length = d.length + 1 := by simp [BSt.close]
      rw [e, e2]
      exact h2
  | recd d b l r =>
    have h1 : St W0 w K (.row vH 54 3 r.hdrs.length (r.hdrs.flatMap hcells) :: x :: .row vB 45 12 (d.length + 1) (d.flatMap btcells ++ bhead b vR) :: .row vR 51 7 (l.length + 1) (l.flatMap rcells ++ rcells (r, vH)) :: L) := h.p3
    have h2 := shutH h1
    have h3 : St W0 w (K.and (Know.flat RHdr vH 3 r.hdrs)) (.row vR 51 7 (l ++ [(r, vH)]).length ((l ++ [(r, vH)]).flatMap rcells) :: x :: .row vB 45 12 (d.length + 1) (d.flatMap btcells ++ bhead b vR) :: L) := by
      rw [flat_snoc, List.length_append]
      exact h2.p2
    obtain ⟨K', hk, hr, h4⟩ := shutR h3 (fun y hy => by
      rcases List.mem_append.1 hy with hy | hy
      · exact Know.has_left (hs.2 y hy)
      · rw [List.mem_singleton.1 hy]; exact Know.has_right (Know.has_refl _))
    have hk2 : K'.has K := Know.has_trans hk (Know.has_left (Know.has_refl _))
    refine ⟨K', hk2, fun y hy => ?_, ?_⟩
    · rcases List.mem_append.1 hy with hy | hy
      · exact Know.has_trans hk2 (hs.1 y hy)
      · rw [List.mem_singleton.1 hy]; exact hr
    · have e : (BSt.close (.recd d b l r) vR vH).flatMap btcells = d.flatMap btcells ++ bhead b vR := flat_snoc _ _ _
      have e2 : (BSt.close (.recd d b l r) vR vH).length = d.length + 1 := by simp [BSt.close]
      rw [e, e2]
      exact h4
/-- The records are left as they are, but for a row that may grow. -/
theorem closeR {W0 w : World} {K : Know} {L : List Res} {x : Res} {d : List BtR} {b : BatS} {l : List (RecS × Value)} {r : RecS} {vB vR vH : Value} (hs : (BSt.recd d b l r).known K) (h : St W0 w K (x :: (BSt.recd d b l r).rows vB vR vH L)) : (∀ y ∈ l ++ [(r, vH)], (K.and (Know.flat RHdr vH 3 r.hdrs)).has (Know.flat RHdr y.2 3 y.1.hdrs)) ∧ St W0 w (K.and (Know.flat RHdr vH 3 r.hdrs)) (x :: .row vB 45 12 (d.length + 1) (d.flatMap btcells ++ bhead b vR) :: .row vR 51 7 (l ++ [(r, vH)]).length ((l ++ [(r, vH)]).flatMap rcells) :: L) := by
  refine ⟨fun y hy => ?_, ?_⟩
  · rcases List.mem_append.1 hy with hy | hy
    · exact Know.has_left (hs.2 y hy)
    · rw [List.mem_singleton.1 hy]; exact Know.has_right (Know.has_refl _)
  · rw [flat_snoc, List.length_append]
    exact shutH (r := r) (show St W0 w K (.row vH 54 3 r.hdrs.length (r.hdrs.flatMap hcells) :: x :: .row vB 45 12 (d.length + 1) (d.flatMap btcells ++ bhead b vR) :: .row vR 51 7 (l.length + 1) (l.flatMap rcells ++ rcells (r, vH)) :: L) from h.p3)

end Go.Proofs.YtenojajfacacoaaDoor
/- What comes of lines (pure). -/
namespace Go.Proofs.YtenojajfacacoaaDoor
open Go.RowKit

/-- What comes of a line, as it lies. -/
def Came (rd : Nat) (s : BSt) (c : Int) (ch : List Int) (o : Option Said) (W0 : World) (K : Know) (L : List Res) (b : Bool) (w' : World) : Prop := ∃ K', K'.has K ∧ match o with
  | none => b = false ∧ St W0 w' K' L
  | some k => b = true ∧ ∃ vR vH, MemS rd (s.put vR vH k) (cutOf c k) (chOf ch k) W0 w' K' L
theorem Came.no {rd : Nat} {s : BSt} {c : Int} {ch : List Int} {o : Option Said} {W0 w' : World} {K : Know} {L : List Res} (ho : o = none) (h : St W0 w' K L) : Came rd s c ch o W0 K L false w' := by
  subst ho; exact ⟨K, Know.has_refl _, rfl, h⟩
theorem Came.no' {rd : Nat} {s : BSt} {c : Int} {ch : List Int} {o : Option Said} {W0 w' : World} {K K' : Know} {L : List Res} (ho : o = none) (hk : K'.has K) (h : St W0 w' K' L) : Came rd s c ch o W0 K L false w' := by
  subst ho; exact ⟨K', hk, rfl, h⟩
theorem Came.yes {rd : Nat} {s : BSt} {c : Int} {ch : List Int} {o : Option Said} {k : Said} {W0 w' : World} {K K' : Know} {L : List Res} (ho : o = some k) (hk : K'.has K) (vR vH : Value) (h : MemS rd (s.put vR vH k) (cutOf c k) (chOf ch k) W0 w' K' L) : Came rd s c ch o W0 K L true w' := by
  subst ho; exact ⟨K', hk, rfl, vR, vH, h⟩
theorem shutI {W0 w : World} {K : Know} {L : List Res} {cb : Nat} {vs : List Int} (h : St W0 w K (.raw cb (vs.map fun v => Value.int .i64 v).toArray 3 :: L)) : ∃ K', K'.has K ∧ K'.has (Know.flat RInt (.slice (some ⟨cb, 0, none⟩) vs.length vs.length) 1 vs) ∧ St W0 w K' L := by
  refine ⟨_, Know.has_left (Know.has_refl _), Know.has_right (Know.has_refl _), h.freeze fun F S1 _ hr => ?_⟩
  refine ⟨_, _, rfl, fun _ => ⟨cb, 0, rfl, .inr ⟨(hr.2 cb).2 rfl, heap_lt hr.1⟩, heap_lt hr.1, fun i hi => ⟨[.int .i64 vs[i]], rfl, rfl, fun f u hu => ?_⟩⟩⟩
  rcases f with _ | f
  · rw [cell_at hr.1]
    simp at hu
    simp [hi, hu]
  · simp at hu
theorem rows_drop {W0 w : World} {K : Know} {L : List Res} {s : BSt} {vB vR vH : Value} (h : St W0 w K (s.rows vB vR vH L)) : St W0 w K L := h.drop.drop.drop
theorem list8 {vs : List Int} (h : vs.length = 8) : ∃ n0 n1 n2 n3 n4 n5 n6 n7, vs = [n0, n1, n2, n3, n4, n5, n6, n7] := by
  rcases vs with _ | ⟨n0, _ | ⟨n1, _ | ⟨n2, _ | ⟨n3, _ | ⟨n4, _ | ⟨n5, _ | ⟨n6, _ | ⟨n7, _ | ⟨n8, t⟩⟩⟩⟩⟩⟩⟩⟩⟩ <;> simp at h
  exact ⟨n0, n1, n2, n3, n4, n5, n6, n7, rfl⟩
theorem list2 {vs : List Int} (h : vs.length = 2) : ∃ t o, vs = [t, o] := by
  rcases vs with _ | ⟨n0, _ | ⟨n1, _ | ⟨n2, t⟩⟩⟩ <;> simp at h
  exact ⟨n0, n1, rfl⟩
theorem rdBat_len (r : List Bs) (h : r.length ≠ 9) : rdBat r = none := by
  unfold rdBat
  split
  · rename_i h1 h2
    exfalso
    have := congrArg List.length h2
    simp at this
    omega
  · rfl
theorem rdBat_app (ws : List Bs) (t : Bs) (h : 8 = ws.length) : rdBat (ws ++ [t]) = match numsRd ws with
    | some [n0, n1, n2, n3, n4, n5, n6, n7] => if letOk t then some ⟨n0, n1, hasB t 97, hasB t 116, hasB t 99, n2, n3, n4, n5, n6, n7, []⟩ else none
    | _ => none := by
  unfold rdBat
  rw [List.take_left' h.symm, List.drop_left' h.symm]
  cases hn : numsRd ws with
  | none => rfl
  | some vs =>
    obtain ⟨n0, n1, n2, n3, n4, n5, n6, n7, rfl⟩ := list8 ((numsRd_len ws vs hn).trans h.symm)
    rfl
theorem split9 (r : List Bs) (h : r.length = 9) : ∃ ws t, r = ws ++ [t] ∧ 8 = ws.length := by
  refine ⟨r.take 8, r[8], ?_, by simp; omega⟩
  rw [← List.take_succ_eq_append_getElem (by omega : 8 < r.length), List.take_of_length_le (by omega)]

end Go.Proofs.YtenojajfacacoaaDoor
/- Texts and lines (pure). -/
namespace Go.Proofs.YtenojajfacacoaaDoor
open Go.RowKit

/-- What lies between the bytes c. -/
def partsC (c : UInt8) : Bs → List Bs
  | [] => [[]]
  | x :: t => if x = c then [] :: partsC c t else match partsC c t with
    | [] => [[x]]
    | h :: r => (x :: h) :: r
theorem partsC_ne (c : UInt8) : ∀ s : Bs, ∃ h r, partsC c s = h :: r
  | [] => ⟨_, _, rfl⟩
  | x :: t => by
    obtain ⟨h, r, e⟩ := partsC_ne c t
    unfold partsC
    by_cases hx : x = c
    · rw [if_pos hx]; exact ⟨_, _, rfl⟩
    · rw [if_neg hx, e]; exact ⟨_, _, rfl⟩
theorem partsC_hit (c : UInt8) (x : UInt8) (t : Bs) (hx : x = c) : partsC c (x :: t) = [] :: partsC c t := by
  show (if x = c then [] :: partsC c t else match partsC c t with | [] => [[x]] | h :: r => (x :: h) :: r) = _
  rw [if_pos hx]
theorem partsC_miss (c : UInt8) (x : UInt8) (t h : Bs) (r : List Bs) (hx : ¬ x = c) (e : partsC c t = h :: r) : partsC c (x :: t) = (x :: h) :: r := by
  show (if x = c then [] :: partsC c t else match partsC c t with | [] => [[x]] | h :: r => (x :: h) :: r) = _
  rw [if_neg hx, e]
theorem partsC_at (c : UInt8) : ∀ s : Bs, (Lib.index s [c] = -1 ∧ partsC c s = [s]) ∨ ∃ i : Nat, Lib.index s [c] = i ∧ i < s.length ∧ partsC c s = s.take i :: partsC c (s.drop (i + 1))
  | [] => .inl ⟨rfl, rfl⟩
  | x :: t => by
    by_cases hx : x = c
    · refine .inr ⟨0, ?_, by simp, ?_⟩
      · unfold Lib.index; rw [if_pos (by simp [List.isPrefixOf, hx])]; rfl
      · rw [partsC_hit c x t hx]; rfl
    · have h0 : ([c] : Bs).isPrefixOf (x :: t) = false := by
        have : (c == x) = false := by rw [beq_eq_false_iff_ne]; exact fun h => hx h.symm
        simp [List.isPrefixOf, this]
      rcases partsC_at c t with ⟨h1, h2⟩ | ⟨i, h1, h2, h3⟩
      · refine .inl ⟨?_, ?_⟩
        · unfold Lib.index; rw [h0, h1]; rfl
        · rcases t with _ | ⟨y, t⟩
          · exact partsC_miss c x [] [] [] hx rfl
          · exact partsC_miss c x _ _ _ hx h2
      · refine .inr ⟨i + 1, ?_, by simp; omega, ?_⟩
        · unfold Lib.index
          rw [h0, h1]
          have : ((i : Int) == -1) = false := by rw [beq_eq_false_iff_ne]; omega
          simp [this]
        · exact partsC_miss c x _ _ _ hx h3
theorem cut_parts (c : UInt8) (s : Bs) : (partsC c s = [s] ∧ Lib.cut s [c] = (s, [], false)) ∨ ∃ i, i < s.length ∧ partsC c s = s.take i :: partsC c (s.drop (i + 1)) ∧ Lib.cut s [c] = (s.take i, s.drop (i + 1), true) := by
  rcases partsC_at c s with ⟨h1, h2⟩ | ⟨i, h1, h2, h3⟩
  · exact .inl ⟨h2, by unfold Lib.cut; rw [h1]; rfl⟩
  · refine .inr ⟨i, h2, h3, ?_⟩
    unfold Lib.cut
    rw [h1, if_pos (by omega)]
    rfl
theorem splitK_parts (c : UInt8) : ∀ (n : Nat) (s : Bs), s.length ≤ n → Lib.splitK [c] 0 (Lib.count s [c]) s = partsC c s
  | 0, s, h => by
    obtain rfl : s = [] := List.length_eq_zero_iff.1 (by omega)
    rfl
  | n + 1, s, h => by
    rcases partsC_at c s with ⟨h1, h2⟩ | ⟨i, h1, h2, h3⟩
    · rw [Lib.count_miss h1, h2]; rfl
    · rw [Lib.count_hit (by simp) h1, Nat.add_comm, h3]
      have hm : ¬ (Lib.index s [c] == -1) = true := fun e => by have := beq_iff_eq.1 e; omega
      have e : (Lib.index s [c]).toNat = i := by omega
      unfold Lib.splitK
      rw [if_neg hm, e]
      have ih := splitK_parts c n (s.drop (i + 1)) (by simp; omega)
      show s.take (i + 0) :: Lib.splitK [c] 0 (Lib.count (s.drop (i + 1)) [c]) (s.drop (i + 1)) = _
      rw [ih]
      rfl
theorem splitB_parts (c : UInt8) (s : Bs) : Lib.splitB (bb [c]) 0 (Lib.countB (bb s) (bb [c])) (bb s) = (partsC c s).map bb := by
  have d1 : (bb s).data.toList = s := by simp
  have d2 : (bb [c]).data.toList = [c] := by simp
  have h := Lib.splitB_data (bb [c]) 0 (Lib.countB (bb s) (bb [c])) (bb s)
  unfold Lib.countB at h ⊢
  rw [d1, d2] at h ⊢
  rw [splitK_parts c s.length s (Nat.le_refl _)] at h
  rw [← h, List.map_map]
  conv => lhs; rw [← List.map_id (Lib.splitB _ _ _ _)]
  refine List.map_congr_left fun x _ => ?_
  show x = bb x.data.toList
  rcases x with ⟨⟨l⟩⟩
  rfl
theorem wordsOf_parts (s : Bs) : wordsOf s = (partsC 32 s).map bb := splitB_parts 32 s
/-- Words, with c between them. -/
def joinC (c : UInt8) : List Bs → Bs
  | [] => []
  | [w] => w
  | w :: t => w ++ c :: joinC c t
theorem joinC_cons (c : UInt8) (w h : Bs) (t : List Bs) : joinC c (w :: h :: t) = w ++ c :: joinC c (h :: t) := rfl
theorem join_parts (c : UInt8) : ∀ s : Bs, joinC c (partsC c s) = s
  | [] => rfl
  | x :: t => by
    have ih := join_parts c t
    obtain ⟨h, r, e⟩ := partsC_ne c t
    by_cases hx : x = c
    · rw [partsC_hit c x t hx, e, joinC_cons, ← e, ih, hx]; rfl
    · rw [partsC_miss c x t h r hx e]
      rw [e] at ih
      rcases r with _ | ⟨h2, r⟩
      · show x :: h = x :: t
        rw [show h = t from ih]
      · show joinC c ((x :: h) :: h2 :: r) = _
        rw [joinC_cons] at ih ⊢
        rw [← ih]; rfl
theorem partsC_len (c : UInt8) : ∀ s : Bs, (partsC c s).length ≤ s.length + 1 ∧ ∀ y ∈ partsC c s, y.length ≤ s.length
  | [] => ⟨Nat.le_refl _, fun y hy => by rw [List.mem_singleton.1 hy]; exact Nat.le_refl _⟩
  | x :: t => by
    obtain ⟨h1, h2⟩ := partsC_len c t
    obtain ⟨h, r, e⟩ := partsC_ne c t
    by_cases hx : x = c
    · rw [partsC_hit c x t hx]
      exact ⟨by simp; omega, fun y hy => by rcases List.mem_cons.1 hy with rfl | hy; exact Nat.zero_le _; have := h2 y hy; simp; omega⟩
    · rw [partsC_miss c x t h r hx e]
      rw [e] at h1 h2
      refine ⟨by simp at h1 ⊢; omega, fun y hy => ?_⟩
      rcases List.mem_cons.1 hy with rfl | hy
      · have := h2 h (by simp); simp; omega
      · have := h2 y (by simp [hy]); simp; omega
def nOf (n : Nat) : Said → Nat
  | .bat _ => n + 1
  | _ => n
def mOf (m : Nat) : Said → Nat
  | .bat _ => 0
  | .recd _ => m + 1
  | _ => m
/-- The line that ends to be a script's; 0: none. -/
def parseL (n m : Nat) (c : Int) (ch : List Int) (ln : Nat) : List Bs → Nat
  | [] => 0
  | [l] => if l = [] then 0 else ln
  | l :: r => match rdLine n m c ch (partsC 32 l) with
    | none => ln
    | some k => parseL (nOf n k) (mOf m k) (cutOf c k) (chOf ch k) (ln + 1) r

end Go.Proofs.YtenojajfacacoaaDoor
/- What is read is what is written (pure). -/
namespace Go.Proofs.YtenojajfacacoaaDoor
open Go.RowKit

def numW (n : Int) : Bs := Lib.itoa n
def blobT (b : BlobS) : Bs := if b.null then [110, 111, 110, 101] else hexW b.data
def hdrT (h : HdrS) : Bs := [104, 101, 97, 100, 101, 114] ++ 32 :: (hexW h.key ++ 32 :: (blobT h.val ++ [10]))
def recH (r : RecS) : Bs := [114, 101, 99, 111, 114, 100] ++ 32 :: (numW r.time ++ 32 :: (numW r.off ++ 32 :: (blobT r.key ++ 32 :: (blobT r.val ++ [10]))))
def recT (r : RecS) : Bs := recH r ++ r.hdrs.flatMap hdrT
def numsT (l : List Int) : Bs := l.flatMap fun n => 32 :: numW n
def batN (b : BatS) : List Int := [b.base, b.leader, b.last, b.first, b.maxt, b.prod, b.epoch, b.seq]
def batL (b : BatS) : Bs := [98, 97, 116, 99, 104] ++ (numsT (batN b) ++ 32 :: (letW b.app b.txn b.ctl ++ [10]))
def btT (x : BtR) : Bs := batL x.b ++ x.l.flatMap fun y => recT y.1
def cutT (c : Int) : Bs := if c < 0 then [] else [99, 117, 116] ++ 32 :: (numW c ++ [10])
def chT (l : List Int) : Bs := if l = [] then [] else [99, 104, 117, 110, 107, 115] ++ (numsT l ++ [10])
def BSt.txt : BSt → Bs
  | .zero => []
  | .bat d b => d.flatMap btT ++ batL b
  | .recd d b l r => d.flatMap btT ++ (batL b ++ (l.flatMap (fun y => recT y.1) ++ recT r))
def txtS (s : BSt) (c : Int) (ch : List Int) : Bs := s.txt ++ (cutT c ++ chT ch)
def oddB (b : BlobS) : Bool := b.null && !b.data.isEmpty
def recFine (r : RecS) : Prop := oddB r.key = false ∧ oddB r.val = false ∧ (∀ h ∈ r.hdrs, oddB h.val = false) ∧ Rn r.time ∧ Rn r.off
def batR (b : BatS) : Prop := ∀ n ∈ batN b, Rn n
def btFine (x : BtR) : Prop := batR x.b ∧ ∀ y ∈ x.l, recFine y.1
def BSt.fine : BSt → Prop
  | .zero => True
  | .bat d b => (∀ x ∈ d, btFine x) ∧ batR b
  | .recd d b l r => (∀ x ∈ d, btFine x) ∧ batR b ∧ (∀ y ∈ l, recFine y.1) ∧ recFine r
theorem numRd_one {x : Bs} {v : Int} (h : numRd x = some v) : numW v = x := by
  unfold numRd at h
  split at h
  · rename_i e
    injection h with h
    subst h
    exact e
  · cases h
theorem numsRd_one : ∀ {l : List Bs} {vs : List Int}, numsRd l = some vs → vs.map numW = l
  | [], vs, h => by unfold numsRd at h; injection h with h; subst h; rfl
  | a :: t, vs, h => by
    unfold numsRd at h
    cases ha : numRd a with
    | none => rw [ha] at h; cases h
    | some x =>
      rw [ha] at h
      simp only at h
      cases ht : numsRd t with
      | none => rw [ht] at h; cases h
      | some y => rw [ht] at h; injection h with h; subst h; rw [List.map_cons, numRd_one ha, numsRd_one ht]
theorem numsRd_txt {l : List Bs} {vs : List Int} (h : numsRd l = some vs) : numsT vs = l.flatMap fun w => 32 :: w := by
  rw [← numsRd_one h, List.flatMap_map]; rfl
theorem numRd_rng {x : Bs} {v : Int} (h : numRd x = some v) : Rn v := by
  unfold numRd at h
  split at h
  · injection h with h
    subst h
    exact atoiV_rng x
  · cases h
theorem numsRd_rng : ∀ {l : List Bs} {vs : List Int}, numsRd l = some vs → ∀ v ∈ vs, Rn v
  | [], vs, h => by unfold numsRd at h; injection h with h; subst h; exact fun v hv => by cases hv
  | a :: t, vs, h => by
    unfold numsRd at h
    cases ha : numRd a with
    | none => rw [ha] at h; cases h
    | some x =>
      rw [ha] at h
      simp only at h
      cases ht : numsRd t with
      | none => rw [ht] at h; cases h
      | some y =>
        rw [ht] at h
        injection h with h
        subst h
        intro v hv
        rcases List.mem_cons.1 hv with rfl | hv
        · exact numRd_rng ha
        · exact numsRd_rng ht v hv
theorem joinC_flat (w : Bs) : ∀ r : List Bs, joinC 32 (w :: r) = w ++ r.flatMap fun w => 32 :: w
  | [] => by simp [joinC]
  | h :: t => by
    rw [joinC_cons, joinC_flat h t, List.flatMap_cons]
    rfl
theorem hexV_one {w d : Bs} (h : hexV w = (d, true)) : hexW d = w := by
  unfold hexV at h
  cases hr : hexRd w with
  | none => rw [hr] at h; cases h
  | some c => rw [hr] at h; injection h with h1 h2; subst h1; exact hexRd_one hr
theorem blobV_one {w d : Bs} {nl : Bool} (h : blobV w = (nl, d, true)) : blobT ⟨nl, d⟩ = w ∧ oddB ⟨nl, d⟩ = false := by
  unfold blobV at h
  by_cases hw : w = [110, 111, 110, 101]
  · rw [if_pos hw] at h
    injection h with h1 h2
    injection h2 with h2 h3
    subst h1 h2 hw
    exact ⟨rfl, rfl⟩
  · rw [if_neg hw] at h
    injection h with h1 h2
    injection h2 with h2 h3
    subst h1
    refine ⟨?_, rfl⟩
    show hexW d = w
    exact hexV_one (Prod.ext h2 h3)
theorem hexV_pair (w : Bs) (h : (hexV w).2 = true) : hexW (hexV w).1 = w := hexV_one (Prod.ext rfl h)
theorem blobV_pair (w : Bs) (h : (blobV w).2.2 = true) : blobT ⟨(blobV w).1, (blobV w).2.1⟩ = w ∧ oddB ⟨(blobV w).1, (blobV w).2.1⟩ = false := blobV_one (Prod.ext rfl (Prod.ext rfl h))
theorem rdHdr_one {r : List Bs} {h : HdrS} (e : rdHdr r = some h) : hdrT h = [104, 101, 97, 100, 101, 114] ++ (r.flatMap fun w => 32 :: w) ++ [10] ∧ oddB h.val = false := by
  unfold rdHdr at e
  split at e
  · rename_i kw vw
    split at e
    · rename_i hb
      rw [Bool.and_eq_true] at hb
      injection e with e
      subst e
      obtain ⟨h1, h2⟩ := blobV_pair vw hb.2
      refine ⟨?_, h2⟩
      unfold hdrT
      simp only
      rw [hexV_pair kw hb.1, h1]
      simp
    · cases e
  · cases e
theorem rdRec_one {r : List Bs} {x : RecS} (e : rdRec r = some x) : recT x = [114, 101, 99, 111, 114, 100] ++ (r.flatMap fun w => 32 :: w) ++ [10] ∧ recFine x := by
  unfold rdRec at e
  split at e
  · rename_i a b kw vw
    split at e
    · rename_i t o hn
      split at e
      · rename_i hb
        rw [Bool.and_eq_true] at hb
        injection e with e
        subst e
        obtain ⟨h1, h2⟩ := blobV_pair kw hb.1
        obtain ⟨h3, h4⟩ := blobV_pair vw hb.2
        have hg := numsRd_rng hn
        refine ⟨?_, h2, h4, (fun h hh => by cases hh), hg t (by simp), hg o (by simp)⟩
        have h5 := numsRd_one hn
        simp only [List.map_cons, List.map_nil, List.cons.injEq, and_true] at h5
        unfold recT recH
        simp only
        rw [h5.1, h5.2, h1, h3]
        simp
      · cases e
    · cases e
  · cases e
theorem rdBat_one {r : List Bs} {b : BatS} (e : rdBat r = some b) : batL b = [98, 97, 116, 99, 104] ++ (r.flatMap fun w => 32 :: w) ++ [10] ∧ batR b := by
  unfold rdBat at e
  split at e
  · rename_i n0 n1 n2 n3 n4 n5 n6 n7 t hn hd
    split at e
    · rename_i hl
      injection e with e
      subst e
      have h1 := numsRd_txt hn
      have h2 : letW (hasB t 97) (hasB t 116) (hasB t 99) = t := eq_of_beq hl
      have hg := numsRd_rng hn
      refine ⟨?_, fun n hn => hg n (by simp only [batN, List.mem_cons, List.not_mem_nil, or_false] at hn ⊢; omega)⟩
      unfold batL batN
      simp only
      rw [h1, h2]
      have h3 : r = r.take 8 ++ [t] := by rw [← hd, List.take_append_drop]
      conv => rhs; rw [h3]
      simp
    · cases e
  · cases e
theorem rdCut_one {r : List Bs} {n : Int} (e : rdCut r = some n) : cutT n = [99, 117, 116] ++ (r.flatMap fun w => 32 :: w) ++ [10] ∧ 0 ≤ n ∧ Rn n := by
  unfold rdCut at e
  split at e
  · rename_i x
    split at e
    · rename_i v hv
      split at e
      · cases e
      · rename_i h0
        injection e with e
        subst e
        refine ⟨?_, by omega, numRd_rng hv⟩
        unfold cutT
        rw [if_neg h0, numRd_one hv]
        simp
    · cases e
  · cases e
theorem rdChunks_one {r : List Bs} {l : List Int} (e : rdChunks r = some l) : chT l = [99, 104, 117, 110, 107, 115] ++ (r.flatMap fun w => 32 :: w) ++ [10] ∧ ∀ v ∈ l, Rn v := by
  unfold rdChunks at e
  split at e
  · cases e
  · rename_i h0
    have h1 := numsRd_len _ _ e
    refine ⟨?_, numsRd_rng e⟩
    unfold chT
    rw [if_neg (by intro h; subst h; exact h0 (List.length_eq_zero_iff.1 h1.symm)), numsRd_txt e]
    simp
theorem close_txt (s : BSt) (vR vH : Value) : (s.close vR vH).flatMap btT = s.txt := by
  cases s with
  | zero => rfl
  | bat d b => show (d ++ [_]).flatMap btT = _; rw [List.flatMap_append]; simp [btT, BSt.txt]
  | recd d b l r => show (d ++ [_]).flatMap btT = _; rw [List.flatMap_append]; simp [btT, BSt.txt]
theorem close_fine (s : BSt) (vR vH : Value) (h : s.fine) : ∀ x ∈ s.close vR vH, btFine x := by
  cases s with
  | zero => exact fun x hx => by cases hx
  | bat d b =>
      intro x hx
      rcases List.mem_append.1 hx with hx | hx
      · exact h.1 x hx
      · rw [List.mem_singleton.1 hx]; exact ⟨h.2, fun y hy => by cases hy⟩
  | recd d b l r =>
      intro x hx
      rcases List.mem_append.1 hx with hx | hx
      · exact h.1 x hx
      · rw [List.mem_singleton.1 hx]
        refine ⟨h.2.1, fun y hy => ?_⟩
        rcases List.mem_append.1 hy with hy | hy
        · exact h.2.2.1 y hy
        · rw [List.mem_singleton.1 hy]; exact h.2.2.2
theorem close_n (s : BSt) (vR vH : Value) : (s.close vR vH).length = s.n := by cases s <;> simp [BSt.close, BSt.n]
theorem rdLine_cons (n m : Nat) (c : Int) (ch : List Int) (w : Bs) (r : List Bs) : rdLine n m c ch (w :: r) = if ch ≠ [] then none
    else if w = [99, 104, 117, 110, 107, 115] then (rdChunks r).map .chunks
    else if c ≠ -1 then none
    else if w = [99, 117, 116] then (rdCut r).map .cut
    else if w = [98, 97, 116, 99, 104] then (rdBat r).map .bat
    else if w = [114, 101, 99, 111, 114, 100] then (if n = 0 then none else (rdRec r).map .recd)
    else if w = [104, 101, 97, 100, 101, 114] then (if n = 0 ∨ m = 0 then none else (rdHdr r).map .hdr)
    else none := rfl
/-- A line that is read is what is written. -/
theorem line_one (s : BSt) (c : Int) (ch : List Int) (l : Bs) (k : Said) (vR vH : Value) (hc : -1 ≤ c) (hcr : Rn c) (hcs : ∀ v ∈ ch, Rn v) (hf : s.fine) (e : rdLine s.n s.m c ch (partsC 32 l) = some k) :
    txtS (s.put vR vH k) (cutOf c k) (chOf ch k) = txtS s c ch ++ (l ++ [10]) ∧ (s.put vR vH k).n = nOf s.n k ∧ (s.put vR vH k).m = mOf s.m k ∧ (s.put vR vH k).p ≤ s.p + 1 ∧ -1 ≤ cutOf c k ∧ Rn (cutOf c k) ∧ (∀ v ∈ chOf ch k, Rn v) ∧ (s.put vR vH k).fine := by
  obtain ⟨w, r, hp⟩ := partsC_ne 32 l
  have hl : l = w ++ r.flatMap fun w => 32 :: w := by rw [← join_parts 32 l, hp, joinC_flat]
  rw [hp, rdLine_cons] at e
  split at e
  · cases e
  rename_i hch
  have hch : ch = [] := Classical.not_not.1 hch
  subst hch
  split at e
  · rename_i hw
    cases h1 : rdChunks r with
    | none => rw [h1] at e; cases e
    | some v =>
      rw [h1] at e
      injection e with e
      subst e
      refine ⟨?_, rfl, rfl, Nat.le_succ _, hc, hcr, (rdChunks_one h1).2, hf⟩
      show s.txt ++ (cutT c ++ chT v) = s.txt ++ (cutT c ++ chT []) ++ _
      rw [(rdChunks_one h1).1, hl, hw]
      simp [chT]
  split at e
  · cases e
  rename_i hc1
  have hc1 : c = -1 := Classical.not_not.1 hc1
  subst hc1
  have t0 : txtS s (-1) [] = s.txt := by simp [txtS, cutT, chT]
  split at e
  · rename_i hw
    cases h1 : rdCut r with
    | none => rw [h1] at e; cases e
    | some v =>
      rw [h1] at e
      injection e with e
      subst e
      obtain ⟨h2, h3, h4⟩ := rdCut_one h1
      refine ⟨?_, rfl, rfl, Nat.le_succ _, (show -1 ≤ v by omega), h4, hcs, hf⟩
      rw [t0]
      show s.txt ++ (cutT v ++ chT []) = _
      rw [h2, hl, hw]
      simp [chT]
  split at e
  · rename_i hw
    cases h1 : rdBat r with
    | none => rw [h1] at e; cases e
    | some v =>
      rw [h1] at e
      injection e with e
      subst e
      refine ⟨?_, by show (s.close vR vH).length + 1 = s.n + 1; rw [close_n], rfl, Nat.zero_le _, hc, hcr, hcs, close_fine s vR vH hf, (rdBat_one h1).2⟩
      rw [t0]
      show (BSt.bat (s.close vR vH) v).txt ++ (cutT (-1) ++ chT []) = _
      show ((s.close vR vH).flatMap btT ++ batL v) ++ (cutT (-1) ++ chT []) = _
      rw [close_txt, (rdBat_one h1).1, hl, hw]
      simp [chT, cutT]
  split at e
  · rename_i hw
    split at e
    · cases e
    rename_i hn
    cases h1 : rdRec r with
    | none => rw [h1] at e; cases e
    | some v =>
      rw [h1] at e
      injection e with e
      subst e
      obtain ⟨h2, h3⟩ := rdRec_one h1
      have h0 : v.hdrs.length = 0 := by
        unfold rdRec at h1
        split at h1
        · split at h1
          · split at h1
            · injection h1 with h1; subst h1; rfl
            · cases h1
          · cases h1
        · cases h1
      cases s with
      | zero => exact absurd rfl hn
      | bat d b =>
        refine ⟨?_, rfl, rfl, (show v.hdrs.length ≤ _ by omega), hc, hcr, hcs, hf.1, hf.2, (fun y hy => by cases hy), h3⟩
        rw [t0]
        show (d.flatMap btT ++ (batL b ++ (([] : List (RecS × Value)).flatMap (fun y => recT y.1) ++ recT v))) ++ (cutT (-1) ++ chT []) = _
        rw [h2, hl, hw]
        simp [chT, cutT, BSt.txt]
      | recd d b l0 r0 =>
        refine ⟨?_, rfl, by show (l0 ++ [_]).length + 1 = _; simp [mOf, BSt.m], (show v.hdrs.length ≤ _ by omega), hc, hcr, hcs, hf.1, hf.2.1, (fun y hy => ?_), h3⟩
        · rw [t0]
          show (d.flatMap btT ++ (batL b ++ ((l0 ++ [(r0, vH)]).flatMap (fun y => recT y.1) ++ recT v))) ++ (cutT (-1) ++ chT []) = _
          rw [h2, hl, hw]
          simp [chT, cutT, BSt.txt]
        · rcases List.mem_append.1 hy with hy | hy
          · exact hf.2.2.1 y hy
          · rw [List.mem_singleton.1 hy]; exact hf.2.2.2
  split at e
  · rename_i hw
    split at e
    · cases e
    rename_i hn
    cases h1 : rdHdr r with
    | none => rw [h1] at e; cases e
    | some v =>
      rw [h1] at e
      injection e with e
      subst e
      obtain ⟨h2, h3⟩ := rdHdr_one h1
      cases s with
      | zero => exact absurd (.inl rfl) hn
      | bat d b => exact absurd (.inr rfl) hn
      | recd d b l0 r0 =>
        refine ⟨?_, rfl, rfl, (show (r0.hdrs ++ [v]).length ≤ r0.hdrs.length + 1 by simp), hc, hcr, hcs, hf.1, hf.2.1, hf.2.2.1, hf.2.2.2.1, hf.2.2.2.2.1, (fun h hh => ?_), hf.2.2.2.2.2.2⟩
        · rw [t0]
          show (d.flatMap btT ++ (batL b ++ (l0.flatMap (fun y => recT y.1) ++ (recH r0 ++ (r0.hdrs ++ [v]).flatMap hdrT)))) ++ (cutT (-1) ++ chT []) = _
          rw [List.flatMap_append]
          have h9 : [v].flatMap hdrT = hdrT v := by simp
          rw [h9, h2, hl, hw]
          simp [chT, cutT, BSt.txt, recT]
        · rcases List.mem_append.1 hh with hh | hh
          · exact hf.2.2.2.2.2.1 h hh
          · rw [List.mem_singleton.1 hh]; exact h3
  · cases e

end Go.Proofs.YtenojajfacacoaaDoor
/- Digits (pure). -/
namespace Go.Proofs.YtenojajfacacoaaDoor
open Go.RowKit

theorem conv_byteS (c : UInt8) (n : Int) (hn : n = c.toNat) {W0 w : World} {K : Know} {L : List Res} {b : Nat} {T : TypeId} (h : St W0 w K (.raw b #[.int .u8 n] T :: L)) :
    (convert 56 9 (.slice (some ⟨b, 0, none⟩) 1 1)).run Tryd.prog w = .ok (.string (bb [c])) w := by
  subst hn
  refine run_convert_bytes_back (P := Tryd.prog) w 56 9 5 ⟨b, 0, none⟩ 1 [c] Tryd.underlying56 Tryd.underlying5 Tryd.underlying9 (fun j hj => ?_)
  have hj : j = 0 := by simp at hj; exact hj
  subst hj
  exact h.rawCell 0
theorem dec_small {u : Nat} (h : u < 10) : Lib.decDigits u = [UInt8.ofNat (48 + u)] := by rw [Lib.decDigits, dif_pos h]
theorem dec_len2 (v : Nat) (h : v ≤ 9223372036854775807) : (Lib.decDigits v).length ≤ 29 := by
  have h1 := Lib.itoa_length_le v (by omega) (by omega)
  rw [Lib.itoa_nonneg] at h1
  omega
theorem dec_len (v : Nat) (h : v ≤ 9223372036854775807) : (Lib.decDigits v).length ≤ 30 := Nat.le_succ_of_le (dec_len2 v h)
theorem dec_big {u : Nat} (h : ¬ u < 10) : Lib.decDigits u = Lib.decDigits (u / 10) ++ [UInt8.ofNat (48 + u % 10)] := by rw [Lib.decDigits, dif_neg h]

end Go.Proofs.YtenojajfacacoaaDoor
/- Numbers, there and back (pure). -/
namespace Go.Proofs.YtenojajfacacoaaDoor
open Go.RowKit

theorem digit_nat (d : Nat) (h : d < 10) : (UInt8.ofNat (48 + d)).toNat = 48 + d := by rw [UInt8.toNat_ofNat']; omega
theorem parse_dec : ∀ (n u : Nat), u ≤ n → u ≤ 9223372036854775808 → ∀ r : Bs, Lib.parseUint10 0 (Lib.decDigits u ++ r) = Lib.parseUint10 u r
  | 0, u, h, hu, r => by
    obtain rfl : u = 0 := by omega
    rw [dec_small (by omega)]
    rfl
  | n + 1, u, h, hu, r => by
    by_cases hs : u < 10
    · rw [dec_small hs]
      show Lib.parseUint10 0 (UInt8.ofNat (48 + u) :: r) = _
      unfold Lib.parseUint10
      rw [digit_nat u hs, if_pos (by omega), if_neg (by omega), if_neg (by omega), show 0 * 10 + (48 + u - 48) = u by omega]
      cases r <;> rfl
    · rw [dec_big hs, List.append_assoc, parse_dec n (u / 10) (by omega) (by omega)]
      show Lib.parseUint10 (u / 10) (UInt8.ofNat (48 + u % 10) :: r) = _
      conv => lhs; unfold Lib.parseUint10
      rw [digit_nat (u % 10) (by omega), if_pos (by omega), if_neg (by omega), if_neg (by omega), show u / 10 * 10 + (48 + u % 10 - 48) = u by omega]
theorem dec_ne (u : Nat) : ∃ (d : Nat) (r : Bs), d < 10 ∧ Lib.decDigits u = UInt8.ofNat (48 + d) :: r := by
  induction u using Nat.strongRecOn with
  | _ u ih =>
    by_cases hs : u < 10
    · exact ⟨u, [], hs, dec_small hs⟩
    · obtain ⟨d, r, h1, h2⟩ := ih (u / 10) (by omega)
      exact ⟨d, r ++ [UInt8.ofNat (48 + u % 10)], h1, by rw [dec_big hs, h2]; rfl⟩
theorem parseMag_dec (u : Nat) (hu : u ≤ 9223372036854775808) : Lib.parseMag (Lib.decDigits u) = .ok u := by
  unfold Lib.parseMag
  obtain ⟨d, r, _, h2⟩ := dec_ne u
  rw [if_neg (by rw [h2]; simp)]
  have h := parse_dec u u (Nat.le_refl _) hu []
  rw [List.append_nil] at h
  rw [h]; rfl
theorem atoi_itoa (n : Int) (hn : Rn n) : Lib.atoiAll (Lib.itoa n) = .ok n := by
  unfold Rn at hn
  by_cases h0 : n < 0
  · obtain ⟨u, rfl⟩ : ∃ u : Nat, n = -(u : Int) := ⟨n.natAbs, by omega⟩
    rw [Lib.itoa_neg u (by omega)]
    unfold Lib.atoiAll
    simp only
    rw [if_pos (.inr rfl), parseMag_dec u (by omega)]
    have e : (45 : UInt8).toNat = 45 := rfl
    simp only [e]
    rw [if_neg (by simp), if_neg (by omega), if_pos (by simp)]
  · obtain ⟨u, rfl⟩ : ∃ u : Nat, n = (u : Int) := ⟨n.natAbs, by omega⟩
    rw [Lib.itoa_nonneg]
    obtain ⟨d, r, h1, h2⟩ := dec_ne u
    have hm := parseMag_dec u (by omega)
    rw [h2] at hm ⊢
    unfold Lib.atoiAll
    simp only
    rw [digit_nat d h1, if_neg (by omega), hm]
    simp only
    rw [if_neg (by omega), if_neg (by omega), if_neg (by omega)]
theorem numRd_back (n : Int) (hn : Rn n) : numRd (numW n) = some n := by
  have e : atoiV (numW n) = n := by unfold atoiV numW; rw [atoi_itoa n hn]
  unfold numRd
  rw [e]
  exact if_pos rfl
theorem numsRd_back : ∀ (l : List Int), (∀ n ∈ l, Rn n) → numsRd (l.map numW) = some l
  | [], _ => rfl
  | n :: t, h => by
    show (match numRd (numW n) with | none => none | some v => (numsRd (t.map numW)).map (v :: ·)) = _
    rw [numRd_back n (h n (by simp)), numsRd_back t (fun x hx => h x (by simp [hx]))]
    rfl

end Go.Proofs.YtenojajfacacoaaDoor
