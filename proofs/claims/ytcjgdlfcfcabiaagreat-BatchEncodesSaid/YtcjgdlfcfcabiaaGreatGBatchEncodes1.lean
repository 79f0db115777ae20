/- Contracts of package prefix: writing. -/
import Derived.Test.YtcjgdlfcfcabiaaGreatRec8
import Derived.Test.YtcjgdlfcfcabiaaGreatRec6
import Derived.Test.YtcjgdlfcfcabiaaGreatGrow
import Derived.Test.YtcjgdlfcfcabiaaGreatS1
import Derived.Test.YtcjgdlfcfcabiaaGreatHdr2
import Derived.Test.YtcjgdlfcfcabiaaGreatBlobP
import Derived.Test.YtcjgdlfcfcabiaaGreatBlob1
import Derived.Test.YtcjgdlfcfcabiaaGreatBlob2
import Derived.Test.YtcjgdlfcfcabiaaGreatRec1
import Derived.Test.YtcjgdlfcfcabiaaGreatRecP
import Derived.Test.YtcjgdlfcfcabiaaGreatSep
import Derived.Test.YtcjgdlfcfcabiaaGreatIntsP
/- Rows of records. -/
namespace Go.Proofs.YtcjgdlfcfcabiaaGreat
open Go.RowKit

/-- Of all of a row. -/
def Know.all {α : Type} (l : List α) (k : α → Know) : Know := ⟨fun w F => ∀ x ∈ l, (k x).p w F, fun w w' F h hs hk x hx => (k x).keep w w' F (h x hx) hs hk, fun w F F' h hs x hx => (k x).mono w F F' (h x hx) hs⟩
/-- A record's cells, and where its headers lie. -/
def RRec (cs : List Value) (x : RecS × Value) : Prop := cs = [.int .i64 x.1.time, .int .i64 x.1.off, .bool x.1.key.null, .string (bb x.1.key.data), .bool x.1.val.null, .string (bb x.1.val.data), x.2]
def rcells (x : RecS × Value) : List Value := [.int .i64 x.1.time, .int .i64 x.1.off, .bool x.1.key.null, .string (bb x.1.key.data), .bool x.1.val.null, .string (bb x.1.val.data), x.2]
def Know.recs (v : Value) (l : List (RecS × Value)) : Know := (Know.flat RRec v 7 l).and (Know.all l fun x => Know.flat RHdr x.2 3 x.1.hdrs)
theorem recs_flat {K : Know} {v : Value} {l : List (RecS × Value)} (h : K.has (Know.recs v l)) : K.has (Know.flat RRec v 7 l) := fun w F x => (h w F x).1
theorem recs_hdrs {K : Know} {v : Value} {l : List (RecS × Value)} (h : K.has (Know.recs v l)) {x : RecS × Value} (hx : x ∈ l) : K.has (Know.flat RHdr x.2 3 x.1.hdrs) := fun w F y => (h w F y).2 x hx
theorem recs_form {W0 w : World} {K : Know} {L : List Res} {v : Value} {l : List (RecS × Value)} (hk : K.has (Know.recs v l)) (h : St W0 w K L) : ∃ q cap, v = .slice q l.length cap := by
  obtain ⟨F, hF, _⟩ := h.get
  obtain ⟨q, cap, hv, _⟩ := (recs_flat hk _ _ hF).at
  exact ⟨q, cap, hv⟩
/-- Where the records lie. -/
theorem recs_at {W0 w : World} {K : Know} {L : List Res} {q : Option Addr} {n cap : Nat} {l : List (RecS × Value)} (hk : K.has (Know.recs (.slice q n cap) l)) (h : St W0 w K L) (h0 : 0 < l.length) : ∃ b off, q = some ⟨b, off, none⟩ := by
  obtain ⟨F, hF, _⟩ := h.get
  obtain ⟨q2, cap2, hv, hr⟩ := (recs_flat hk _ _ hF).at
  obtain ⟨b, off, hq, _⟩ := hr h0
  simp at hv
  exact ⟨b, off, hv.1.trans hq⟩
theorem recs_cell {W0 w : World} {K : Know} {L : List Res} {b off n cap : Nat} {l : List (RecS × Value)} (hk : K.has (Know.recs (.slice (some ⟨b, off, none⟩) n cap) l)) (h : St W0 w K L) (i : Nat) (hi : i < l.length) (x : RecS × Value) (hx : l[i] = x) :
    w.cell? ⟨b, off + (i * 7), none⟩ = some (.int .i64 x.1.time) ∧ w.cell? ⟨b, off + (i * 7 + 1), none⟩ = some (.int .i64 x.1.off) ∧ w.cell? ⟨b, off + (i * 7 + 2), none⟩ = some (.bool x.1.key.null) ∧ w.cell? ⟨b, off + (i * 7 + 3), none⟩ = some (.string (bb x.1.key.data)) ∧ w.cell? ⟨b, off + (i * 7 + 4), none⟩ = some (.bool x.1.val.null) ∧ w.cell? ⟨b, off + (i * 7 + 5), none⟩ = some (.string (bb x.1.val.data)) ∧ w.cell? ⟨b, off + (i * 7 + 6), none⟩ = some (x.2) := by
  subst hx
  obtain ⟨F, hF, _⟩ := h.get
  obtain ⟨q2, cap2, hv, hr⟩ := (recs_flat hk _ _ hF).at
  obtain ⟨b2, off2, hq, hc⟩ := hr (by omega)
  rw [hq] at hv
  simp at hv
  obtain ⟨⟨rfl, rfl⟩, _, _⟩ := hv
  obtain ⟨cs, _, hR, hcs⟩ := hc i hi
  unfold RRec at hR
  subst hR
  exact ⟨hcs 0 _ rfl, hcs 1 _ rfl, hcs 2 _ rfl, hcs 3 _ rfl, hcs 4 _ rfl, hcs 5 _ rfl, hcs 6 _ rfl⟩
def encAll (l : List (RecS × Value)) : Bs := l.flatMap fun x => encR x.1
theorem encAll_snoc (l : List (RecS × Value)) (x : RecS × Value) : encAll (l ++ [x]) = encAll l ++ encR x.1 := by unfold encAll; simp
theorem encAll_take (l : List (RecS × Value)) (k : Nat) (h : k < l.length) : encAll (l.take (k + 1)) = encAll (l.take k) ++ encR l[k].1 := by rw [List.take_succ_eq_append_getElem h, encAll_snoc]
theorem encAll_le : ∀ (l : List (RecS × Value)), (∀ x ∈ l, (encR x.1).length ≤ 200000) → (encAll l).length ≤ 200000 * l.length
  | [], _ => by simp [encAll]
  | x :: t, h => by
    have h1 := encAll_le t (fun y hy => h y (by simp [hy]))
    have h2 := h x (by simp)
    have e : encAll (x :: t) = encR x.1 ++ encAll t := rfl
    rw [e, List.length_append, List.length_cons]
    omega
theorem reRec_back (x : RecS) (hx : x.R) (ho : recOk x = 0) (hs : x.sum ≤ 1000000) (r : Bs) : reRec (encR x ++ r) = .ok (x, (encR x).length) := by
  have hle := recF_le x hx hs
  have h1 := revaried_back ⟨false, recF x⟩ rfl (by simp only; omega) r
  unfold reRec encR
  rw [h1]
  simp only [Bool.false_eq_true, if_false]
  rw [reInner_back x hx ho hs]
/-- The k-th record is read where those ahead of it end. -/
theorem record_next (l : List (RecS × Value)) (k : Nat) (hk : k < l.length) (hx : l[k].1.R) (ho : recOk l[k].1 = 0) (hs : l[k].1.sum ≤ 1000000) :
    (⟨encAll l, (encAll (l.take k)).length, 0⟩ : InS).record = (l[k].1, ⟨encAll l, (encAll (l.take (k + 1))).length, 0⟩) := by
  have h1 : l = l.take k ++ (l[k] :: l.drop (k + 1)) := by rw [← List.drop_eq_getElem_cons hk, List.take_append_drop]
  have e1 : encAll l = encAll (l.take k) ++ (encR l[k].1 ++ encAll (l.drop (k + 1))) := by
    have e2 : encAll (l.take k ++ (l[k] :: l.drop (k + 1))) = encAll (l.take k) ++ (encR l[k].1 ++ encAll (l.drop (k + 1))) := by
      unfold encAll
      rw [List.flatMap_append, List.flatMap_cons]
    rw [← e2, ← h1]
  have hd : (encAll l).drop (encAll (l.take k)).length = encR l[k].1 ++ encAll (l.drop (k + 1)) := by rw [e1, List.drop_left]
  have h2 := rds_rec.ok (encAll l) (encAll (l.take k)).length l[k].1 (encR l[k].1).length (by rw [e1, List.length_append]; omega) (by rw [hd]; exact reRec_back _ hx ho hs _)
  rw [encAll_take l k hk, List.length_append]
  exact h2.2

end Go.Proofs.YtcjgdlfcfcabiaaGreat

/- Records of a batch, read (pure). -/
namespace Go.Proofs.YtcjgdlfcfcabiaaGreat
open Go.RowKit

theorem elem_rec : ElemT Tryz.prog 45 (.agg #[.int .i64 0, .int .i64 0, .bool false, .string ⟨#[]⟩, .bool false, .string ⟨#[]⟩, .slice none 0 0]) 7 88 := elemT_of (by kernel_rfl) rfl (by decide)
def consE (x : RecS) (r : Except Int (List RecS)) : Except Int (List RecS) := match r with | .ok t => .ok (x :: t) | .error e => .error e
/-- So many records, and nothing behind them. -/
def unp : Nat → InS → Except Int (List RecS)
  | 0, i => if i.left = 0 then .ok [] else .error 10
  | n + 1, i => if i.left = 0 then .error 10 else if i.record.2.err = 0 then consE i.record.1 (unp n i.record.2) else .error i.record.2.err
def preU (acc : List RecS) (r : Except Int (List RecS)) : Except Int (List RecS) := match r with | .ok t => .ok (acc ++ t) | .error e => .error e
theorem preU_nil (r : Except Int (List RecS)) : preU [] r = r := by cases r <;> rfl
theorem preU_snoc (acc : List RecS) (x : RecS) (r : Except Int (List RecS)) : preU (acc ++ [x]) r = preU acc (consE x r) := by
  cases r with
  | error e => rfl
  | ok t => simp [preU, consE]
theorem s_leftQ (p : Nat) (i : InS) (n : Nat) (hx : i.left = n) {W0 w : World} {K : Know} {L : List Res} (h : St W0 w K (.inp p i :: L)) :
    Calls Tryz.prog 54 #[inPtr p] w fun en w' => en = .returned (.int .i64 n) ∧ St W0 w' K (.inp p i :: L) := by
  subst hx; exact s_left p i h
theorem s_errE (p : Nat) (i : InS) (e : Int) (hx : i.err = e) {W0 w : World} {K : Know} {L : List Res} (h : St W0 w K (.inp p i :: L)) :
    Calls Tryz.prog 51 #[inPtr p] w fun en w' => en = .returned (.int .i64 e) ∧ St W0 w' K (.inp p i :: L) := by
  subst hx; exact s_err p i h

end Go.Proofs.YtcjgdlfcfcabiaaGreat

/- The bytes of control records (pure). -/
namespace Go.Proofs.YtcjgdlfcfcabiaaGreat
open Go.RowKit

/-- A number of so many bytes, behind the version. -/
def verB (n : Int) (k : Nat) : Bs := beBytes 0 2 ++ beBytes n k
def ctlKey (k : Int) : Bs × Int := if k = 0 ∨ k = 1 then (verB k 2, 0) else ([], 12)
def ctlVal (n : Int) : Bs × Int := if 0 ≤ n ∧ n < 2147483648 then (verB n 4, 0) else ([], 11)
/-- Of bytes the number behind the version. -/
def verRd (k : Nat) (ok : Int → Bool) (e : Int) (s : Bs) : Int × Int :=
  if s.length < 2 then (0, 1) else if sInt (s.take 2) ≠ 0 then (0, 7) else if s.length < 2 + k then (0, 1)
  else if ok (sInt ((s.drop 2).take k)) = false then (0, e) else if 2 + k < s.length then (0, 2) else (sInt ((s.drop 2).take k), 0)
def verA (s : Bs) : Int × InS := (⟨s, 0, 0⟩ : InS).int 2
def verI (s : Bs) : InS := if (verA s).1 = 0 then (verA s).2 else (verA s).2.fail 7
def verJ (k : Nat) (ok : Int → Bool) (e : Int) (s : Bs) : InS := if ok ((verI s).int k).1 = true then ((verI s).int k).2 else ((verI s).int k).2.fail e
def verD (k : Nat) (ok : Int → Bool) (e : Int) (s : Bs) : Int × Int := if (verJ k ok e s).close.err = 0 then (((verI s).int k).1, 0) else (0, (verJ k ok e s).close.err)
theorem close_stuckC {i : InS} (h : i.err ≠ 0) : i.close = i := by
  unfold InS.close
  split
  · exact if_neg h
  · rfl
theorem verD_bad {k : Nat} {ok : Int → Bool} {e x : Int} {s : Bs} (hx : x ≠ 0) (h : (verJ k ok e s).err = x) : verD k ok e s = (0, x) := by
  subst h
  unfold verD
  rw [close_stuckC hx, if_neg hx]
theorem verJ_stuck {k : Nat} {ok : Int → Bool} {e x : Int} {s : Bs} (h1 : 1 ≤ k) (h8 : k ≤ 8) (hx : x ≠ 0) (h : (verI s).err = x) : (verJ k ok e s).err = x := by
  subst h
  have h2 : (verI s).int k = (0, verI s) := (rds_intN k h1 h8).stuck (verI s) hx
  unfold verJ
  rw [h2]
  split
  · rfl
  · rw [show (verI s).fail e = verI s from if_neg hx]
theorem verD_eq (k : Nat) (ok : Int → Bool) (e : Int) (h1 : 1 ≤ k) (h8 : k ≤ 8) (he : e ≠ 0) (s : Bs) : verD k ok e s = verRd k ok e s := by
  have hi := rds_intN 2 (by decide) (by decide)
  have hk := rds_intN k h1 h8
  unfold verRd
  by_cases c1 : s.length < 2
  · rw [if_pos c1]
    obtain ⟨_, q, _, h3⟩ := hi.err s 0 1 (Nat.zero_le _) (by simp [getIntN, c1])
    have h4 : verA s = (0, ⟨s, q, 1⟩) := h3
    refine verD_bad (by decide) (verJ_stuck h1 h8 (by decide) ?_)
    unfold verI
    rw [h4]
    rfl
  rw [if_neg c1]
  obtain ⟨_, h3⟩ := hi.ok s 0 (sInt (s.take 2)) 2 (Nat.zero_le _) (by simp [getIntN, c1])
  have h4 : verA s = (sInt (s.take 2), ⟨s, 2, 0⟩) := h3
  by_cases c2 : sInt (s.take 2) ≠ 0
  · rw [if_pos c2]
    refine verD_bad (by decide) (verJ_stuck h1 h8 (by decide) ?_)
    unfold verI
    rw [h4, if_neg c2]
    rfl
  rw [if_neg c2]
  have hI : verI s = ⟨s, 2, 0⟩ := by unfold verI; rw [h4, if_pos (by simpa using c2)]
  by_cases c3 : s.length < 2 + k
  · rw [if_pos c3]
    obtain ⟨_, q, _, h7⟩ := hk.err s 2 1 (by omega) (by unfold getIntN; rw [if_pos (by rw [List.length_drop]; omega)])
    have h7 : (verI s).int k = (0, ⟨s, q, 1⟩) := by rw [hI]; exact h7
    refine verD_bad (by decide) ?_
    unfold verJ
    rw [h7]
    split
    · rfl
    · rfl
  rw [if_neg c3]
  obtain ⟨_, h7⟩ := hk.ok s 2 (sInt ((s.drop 2).take k)) k (by omega) (by unfold getIntN; rw [if_neg (by rw [List.length_drop]; omega)])
  have h7 : (verI s).int k = (sInt ((s.drop 2).take k), ⟨s, 2 + k, 0⟩) := by rw [hI]; exact h7
  by_cases c4 : ok (sInt ((s.drop 2).take k)) = false
  · rw [if_pos c4]
    refine verD_bad he ?_
    unfold verJ
    rw [h7]
    rw [if_neg (by rw [c4]; decide)]
    rfl
  rw [if_neg c4]
  have hJ : verJ k ok e s = ⟨s, 2 + k, 0⟩ := by unfold verJ; rw [h7, if_pos (by simpa using c4)]
  by_cases c5 : 2 + k < s.length
  · have hc : (⟨s, 2 + k, 0⟩ : InS).close = ⟨s, 2 + k, 2⟩ := by
      unfold InS.close
      rw [if_pos (show 0 < (⟨s, 2 + k, 0⟩ : InS).left by simp only [InS.left]; omega)]
      rfl
    unfold verD
    rw [if_pos c5, hJ, hc, if_neg (by simp only; decide)]
  · have hc : (⟨s, 2 + k, 0⟩ : InS).close = ⟨s, 2 + k, 0⟩ := by
      unfold InS.close
      rw [if_neg (show ¬ 0 < (⟨s, 2 + k, 0⟩ : InS).left by simp only [InS.left]; omega)]
    unfold verD
    rw [if_neg c5, hJ, hc, if_pos rfl, h7]
def way (n : Int) : Bool := n == 0 || n == 1
def time0 (n : Int) : Bool := decide (0 ≤ n)
theorem verB_len (n : Int) (k : Nat) : (verB n k).length = 2 + k := by unfold verB; simp [beBytes_length]
theorem verB_take (n : Int) (k : Nat) : (verB n k).take 2 = beBytes 0 2 := by unfold verB; rw [List.take_left' (by simp [beBytes_length])]
theorem verB_drop (n : Int) (k : Nat) : (verB n k).drop 2 = beBytes n k := by unfold verB; rw [List.drop_left' (by simp [beBytes_length])]
theorem verRd_back (n : Int) (k : Nat) (ok : Int → Bool) (e : Int) (h1 : 1 ≤ k) (h8 : k ≤ 8) (hf : fits n k) (ho : ok n = true) : verRd k ok e (verB n k) = (n, 0) := by
  have h2 : sInt (beBytes n k) = n := (sInt_beBytes_iff n k h1).2 ⟨hf.2.2.1, hf.2.2.2⟩
  have h3 : (verB n k).length = 2 + k := verB_len n k
  have h4 : ((verB n k).drop 2).take k = beBytes n k := by rw [verB_drop, List.take_of_length_le (by simp [beBytes_length])]
  unfold verRd
  rw [if_neg (by omega), verB_take, if_neg (by decide), if_neg (by omega), h4, h2, if_neg (by rw [ho]; decide), if_neg (by omega)]
theorem ver_text (n : Int) (k : Nat) (h : fits n k) : ((⟨beBytes 0 2, 0⟩ : OutS).int n k).text = (verB n k, 0) := by
  unfold OutS.int
  rw [if_pos h]
  rfl
theorem ver_textN (n : Int) (k : Nat) (h : ¬ fits n k) : ((⟨beBytes 0 2, 0⟩ : OutS).int n k).text = ([], 11) := by
  unfold OutS.int
  rw [if_neg h]
  rfl
theorem half2 : half 2 = 32768 := by decide
theorem half4 : half 4 = 2147483648 := by decide
theorem fits2 (n : Int) (h : -32768 ≤ n ∧ n < 32768) : fits n 2 := ⟨by decide, by decide, by have := half2; show -half 2 ≤ n; omega, by have := half2; show n < half 2; omega⟩
theorem fits4 (n : Int) : fits n 4 ↔ (-2147483648 ≤ n ∧ n < 2147483648) := by
  have := half4
  constructor
  · intro h
    have h3 : -half 4 ≤ n := h.2.2.1
    have h4 : n < half 4 := h.2.2.2
    omega
  · intro h
    exact ⟨by decide, by decide, by show -half 4 ≤ n; omega, by show n < half 4; omega⟩

end Go.Proofs.YtcjgdlfcfcabiaaGreat

/- Contracts of package control. -/
namespace Go.Proofs.YtcjgdlfcfcabiaaGreat
open Go.RowKit

set_option maxHeartbeats 1000000 in
set_option maxRecDepth 100000 in
theorem ctl_known (n : Int) {W0 w : World} {K : Know} {L : List Res} (h : St W0 w K L) :
    Calls Tryz.prog 96 #[.int .i64 n] w fun en w' => en = .returned (.bool (way n)) ∧ St W0 w' K L := by
  have H := Lib.hid h
  clear h
  by_cases h0 : n = 0
  · subst h0
    go_enter Tryz.func96, Tryz.ntmps96
    go_wp2
    go_ret
    exact ⟨rfl, H.out⟩
  have e0 : (n == 0) = false := by simpa using h0
  go_enter Tryz.func96, Tryz.ntmps96
  go_wp2
  go_ret
  exact ⟨ret_bool (by unfold way; rw [e0]; rfl), H.out⟩

set_option maxHeartbeats 1000000 in
set_option maxRecDepth 100000 in
theorem ctl_time0 (n : Int) {W0 w : World} {K : Know} {L : List Res} (h : St W0 w K L) :
    Calls Tryz.prog 97 #[.int .i64 n] w fun en w' => en = .returned (.bool (time0 n)) ∧ St W0 w' K L := by
  have H := Lib.hid h
  clear h
  go_enter Tryz.func97, Tryz.ntmps97
  go_wp2
  go_ret
  exact ⟨ret_bool (by unfold time0; rfl), H.out⟩

set_option maxHeartbeats 1000000 in
set_option maxRecDepth 100000 in
theorem ctl_versioned (n : Int) (k : Int) (t : Bs × Int) (ht : ((⟨beBytes 0 2, 0⟩ : OutS).int n k).text = t) (hn : -9223372036854775808 ≤ n ∧ n < 9223372036854775808) {W0 w : World} {K : Know} {L : List Res} (h : St W0 w K L) :
    Calls Tryz.prog 101 #[.int .i64 n, .int .i64 k] w fun en w' => en = .returned (.tuple #[.string (bb t.1), .int .i64 t.2]) ∧ St W0 w' K L := by
  have H := Lib.hid h.allocOut
  have HN := Lib.hid hn
  have E1 := Lib.hid (show (⟨[], 0⟩ : OutS).int 0 2 = ⟨beBytes 0 2, 0⟩ from by decide +kernel)
  obtain ⟨o, ho⟩ : ∃ o, (⟨beBytes 0 2, 0⟩ : OutS).int n k = o := ⟨_, rfl⟩
  rw [ho] at ht
  have E2 := Lib.hid ho
  have E3 := Lib.hid ht
  clear h hn ho ht
  go_enter Tryz.func101, Tryz.ntmps101
  go_wp2_with (first
    | (go_at_call 89; (with_reducible refine (so_int _ _ 0 2 (by decide) (by first | (first | with_reducible exact H.out | with_reducible exact H.out.p1 | with_reducible exact H.out.p2 | with_reducible exact H.out.p3 | with_reducible exact H.out.p4 | with_reducible exact H.out.p5) | ((repeat first | with_reducible refine St.drewN ?_ _ | with_reducible refine St.drew ?_ | with_reducible refine St.alloc ?_ _); first | with_reducible exact H.out | with_reducible exact H.out.p1 | with_reducible exact H.out.p2 | with_reducible exact H.out.p3 | with_reducible exact H.out.p4 | with_reducible exact H.out.p5)) (by simp [OutS.ok])).mono ?_); (repeat first | rw [E1.out]); rintro e wn ⟨rfl, h⟩; replace H := Lib.hid h; clear h)
    | (go_at_call 89; (with_reducible refine (so_int _ _ n k HN.out (by first | (first | with_reducible exact H.out | with_reducible exact H.out.p1 | with_reducible exact H.out.p2 | with_reducible exact H.out.p3 | with_reducible exact H.out.p4 | with_reducible exact H.out.p5) | ((repeat first | with_reducible refine St.drewN ?_ _ | with_reducible refine St.drew ?_ | with_reducible refine St.alloc ?_ _); first | with_reducible exact H.out | with_reducible exact H.out.p1 | with_reducible exact H.out.p2 | with_reducible exact H.out.p3 | with_reducible exact H.out.p4 | with_reducible exact H.out.p5)) (by simp [OutS.ok, beBytes_length])).mono ?_); (repeat first | rw [E2.out]); rintro e wn ⟨rfl, h⟩; replace H := Lib.hid h; clear h)
    | (go_at_call 56; refine (so_text _ _ (by first | (first | with_reducible exact H.out | with_reducible exact H.out.p1 | with_reducible exact H.out.p2 | with_reducible exact H.out.p3 | with_reducible exact H.out.p4 | with_reducible exact H.out.p5) | ((repeat first | with_reducible refine St.drewN ?_ _ | with_reducible refine St.drew ?_ | with_reducible refine St.alloc ?_ _); first | with_reducible exact H.out | with_reducible exact H.out.p1 | with_reducible exact H.out.p2 | with_reducible exact H.out.p3 | with_reducible exact H.out.p4 | with_reducible exact H.out.p5))).mono ?_; (repeat first | rw [E3.out]); rintro e wn ⟨rfl, h⟩; replace H := Lib.hid h; clear h))
  go_ret2
  exact ⟨rfl, H.out.drop⟩

set_option maxHeartbeats 1000000 in
set_option maxRecDepth 100000 in
theorem ctl_readKind (s : Bs) (r : Int × Int) (hr : verRd 2 way 12 s = r) (hs : s.length ≤ 140737488355328) {W0 w : World} {K : Know} {L : List Res} (h : St W0 w K L) :
    Calls Tryz.prog 95 #[.string (bb s), .int .i64 2, .func (.func 96) #[] #[], .int .i64 12] w fun en w' => en = .returned (.tuple #[.int .i64 r.1, .int .i64 r.2]) ∧ St W0 w' K L := by
  have hrd : verD 2 way 12 s = r := (verD_eq 2 way 12 (by decide) (by decide) (by decide) s).trans hr
  have H := Lib.hid h
  have HS := Lib.hid hs
  clear h hs hr
  obtain ⟨a, ha⟩ : ∃ a, verA s = a := ⟨_, rfl⟩
  have hI : verI s = if a.1 = 0 then a.2 else a.2.fail 7 := by unfold verI; rw [ha]
  obtain ⟨i, hi⟩ : ∃ i, verI s = i := ⟨_, rfl⟩
  rw [hi] at hI
  obtain ⟨t, ht⟩ : ∃ t, i.int 2 = t := ⟨_, rfl⟩
  have hJ : verJ 2 way 12 s = if way t.1 = true then t.2 else t.2.fail 12 := by unfold verJ; rw [hi]; show (if way (i.int 2).1 = true then (i.int 2).2 else (i.int 2).2.fail 12) = _; rw [ht]
  obtain ⟨j, hj⟩ : ∃ j, verJ 2 way 12 s = j := ⟨_, rfl⟩
  have hD : (if j.close.err = 0 then (t.1, 0) else (0, j.close.err)) = r := by
    rw [← hrd, ← hj, ← ht, ← hi]; rfl
  rw [hj] at hJ
  obtain ⟨c, hc⟩ : ∃ c, j.close = c := ⟨_, rfl⟩
  rw [hc] at hD
  have EA := Lib.hid (show (⟨s, 0, 0⟩ : InS).int 2 = a from ha)
  have ET := Lib.hid ht
  have EC := Lib.hid hc
  obtain ⟨o, ho⟩ : ∃ o, way t.1 = o := ⟨_, rfl⟩
  rw [ho] at hJ
  have EO := Lib.hid ho
  clear ha hi ht hj hc ho hrd
  by_cases h1 : a.1 = 0 <;> cases o <;> by_cases h3 : c.err = 0
  all_goals
    first | rw [if_pos h1] at hI | rw [if_neg h1] at hI
    first | rw [if_pos rfl] at hJ | rw [if_neg (by decide)] at hJ
    first | rw [if_pos h3] at hD | rw [if_neg h3] at hD
    subst hD
    have b1 : (a.1 != 0) = decide (a.1 ≠ 0) := by by_cases h : a.1 = 0 <;> simp [h]
    have b3 : (c.err != 0) = decide (c.err ≠ 0) := by by_cases h : c.err = 0 <;> simp [h]
    first | rw [decide_eq_true h1] at b1 | rw [decide_eq_false (not_not_intro h1)] at b1
    first | rw [decide_eq_true h3] at b3 | rw [decide_eq_false (not_not_intro h3)] at b3
    have EI := Lib.hid hI.symm
    have EJ := Lib.hid hJ.symm
    clear h1 h3 hI hJ
    go_enter Tryz.func95, Tryz.ntmps95
    go_wp2_with (first
      | (go_at_call 22; refine (s_new s HS.out (by first | (first | with_reducible exact H.out | with_reducible exact H.out.p1 | with_reducible exact H.out.p2 | with_reducible exact H.out.p3 | with_reducible exact H.out.p4 | with_reducible exact H.out.p5) | ((repeat first | with_reducible refine St.drewN ?_ _ | with_reducible refine St.drew ?_ | with_reducible refine St.alloc ?_ _); first | with_reducible exact H.out | with_reducible exact H.out.p1 | with_reducible exact H.out.p2 | with_reducible exact H.out.p3 | with_reducible exact H.out.p4 | with_reducible exact H.out.p5))).mono ?_; rintro e wn ⟨bi, rfl, h⟩; replace H := Lib.hid h; clear h)
      | (go_at_call 102; refine (s_int _ _ _ (by first | (first | with_reducible exact H.out | with_reducible exact H.out.p1 | with_reducible exact H.out.p2 | with_reducible exact H.out.p3 | with_reducible exact H.out.p4 | with_reducible exact H.out.p5) | ((repeat first | with_reducible refine St.drewN ?_ _ | with_reducible refine St.drew ?_ | with_reducible refine St.alloc ?_ _); first | with_reducible exact H.out | with_reducible exact H.out.p1 | with_reducible exact H.out.p2 | with_reducible exact H.out.p3 | with_reducible exact H.out.p4 | with_reducible exact H.out.p5))).mono ?_; (repeat first | rw [EA.out] | rw [ET.out]); rintro e wn ⟨rfl, h⟩; replace H := Lib.hid h; clear h; (try rw [EI.out] at H); (try rw [EJ.out] at H))
      | (go_at_call 52; refine (s_fail _ _ _ (by first | (first | with_reducible exact H.out | with_reducible exact H.out.p1 | with_reducible exact H.out.p2 | with_reducible exact H.out.p3 | with_reducible exact H.out.p4 | with_reducible exact H.out.p5) | ((repeat first | with_reducible refine St.drewN ?_ _ | with_reducible refine St.drew ?_ | with_reducible refine St.alloc ?_ _); first | with_reducible exact H.out | with_reducible exact H.out.p1 | with_reducible exact H.out.p2 | with_reducible exact H.out.p3 | with_reducible exact H.out.p4 | with_reducible exact H.out.p5))).mono ?_; (repeat first | rw [EI.out] | rw [EJ.out]); rintro e wn ⟨rfl, h⟩; replace H := Lib.hid h; clear h)
      | (go_at_call 96; refine (ctl_known _ H.out).mono ?_; rw [EO.out]; rintro e wn ⟨rfl, h⟩; replace H := Lib.hid h; clear h)
      | (go_at_call 24; refine (s_close _ _ (by first | (first | with_reducible exact H.out | with_reducible exact H.out.p1 | with_reducible exact H.out.p2 | with_reducible exact H.out.p3 | with_reducible exact H.out.p4 | with_reducible exact H.out.p5) | ((repeat first | with_reducible refine St.drewN ?_ _ | with_reducible refine St.drew ?_ | with_reducible refine St.alloc ?_ _); first | with_reducible exact H.out | with_reducible exact H.out.p1 | with_reducible exact H.out.p2 | with_reducible exact H.out.p3 | with_reducible exact H.out.p4 | with_reducible exact H.out.p5))).mono ?_; (repeat first | rw [EC.out]); rintro e wn ⟨rfl, h⟩; replace H := Lib.hid h; clear h))
    go_ret2
    exact ⟨rfl, H.out.drop⟩

set_option maxHeartbeats 1000000 in
set_option maxRecDepth 100000 in
theorem ctl_readTime (s : Bs) (r : Int × Int) (hr : verRd 4 time0 11 s = r) (hs : s.length ≤ 140737488355328) {W0 w : World} {K : Know} {L : List Res} (h : St W0 w K L) :
    Calls Tryz.prog 95 #[.string (bb s), .int .i64 4, .func (.func 97) #[] #[], .int .i64 11] w fun en w' => en = .returned (.tuple #[.int .i64 r.1, .int .i64 r.2]) ∧ St W0 w' K L := by
  have hrd : verD 4 time0 11 s = r := (verD_eq 4 time0 11 (by decide) (by decide) (by decide) s).trans hr
  have H := Lib.hid h
  have HS := Lib.hid hs
  clear h hs hr
  obtain ⟨a, ha⟩ : ∃ a, verA s = a := ⟨_, rfl⟩
  have hI : verI s = if a.1 = 0 then a.2 else a.2.fail 7 := by unfold verI; rw [ha]
  obtain ⟨i, hi⟩ : ∃ i, verI s = i := ⟨_, rfl⟩
  rw [hi] at hI
  obtain ⟨t, ht⟩ : ∃ t, i.int 4 = t := ⟨_, rfl⟩
  have hJ : verJ 4 time0 11 s = if time0 t.1 = true then t.2 else t.2.fail 11 := by unfold verJ; rw [hi]; show (if time0 (i.int 4).1 = true then (i.int 4).2 else (i.int 4).2.fail 11) = _; rw [ht]
  obtain ⟨j, hj⟩ : ∃ j, verJ 4 time0 11 s = j := ⟨_, rfl⟩
  have hD : (if j.close.err = 0 then (t.1, 0) else (0, j.close.err)) = r := by
    rw [← hrd, ← hj, ← ht, ← hi]; rfl
  rw [hj] at hJ
  obtain ⟨c, hc⟩ : ∃ c, j.close = c := ⟨_, rfl⟩
  rw [hc] at hD
  have EA := Lib.hid (show (⟨s, 0, 0⟩ : InS).int 2 = a from ha)
  have ET := Lib.hid ht
  have EC := Lib.hid hc
  obtain ⟨o, ho⟩ : ∃ o, time0 t.1 = o := ⟨_, rfl⟩
  rw [ho] at hJ
  have EO := Lib.hid ho
  clear ha hi ht hj hc ho hrd
  by_cases h1 : a.1 = 0 <;> cases o <;> by_cases h3 : c.err = 0
  all_goals
    first | rw [if_pos h1] at hI | rw [if_neg h1] at hI
    first | rw [if_pos rfl] at hJ | rw [if_neg (by decide)] at hJ
    first | rw [if_pos h3] at hD | rw [if_neg h3] at hD
    subst hD
    have b1 : (a.1 != 0) = decide (a.1 ≠ 0) := by by_cases h : a.1 = 0 <;> simp [h]
    have b3 : (c.err != 0) = decide (c.err ≠ 0) := by by_cases h : c.err = 0 <;> simp [h]
    first | rw [decide_eq_true h1] at b1 | rw [decide_eq_false (not_not_intro h1)] at b1
    first | rw [decide_eq_true h3] at b3 | rw [decide_eq_false (not_not_intro h3)] at b3
    have EI := Lib.hid hI.symm
    have EJ := Lib.hid hJ.symm
    clear h1 h3 hI hJ
    go_enter Tryz.func95, Tryz.ntmps95
    go_wp2_with (first
      | (go_at_call 22; refine (s_new s HS.out (by first | (first | with_reducible exact H.out | with_reducible exact H.out.p1 | with_reducible exact H.out.p2 | with_reducible exact H.out.p3 | with_reducible exact H.out.p4 | with_reducible exact H.out.p5) | ((repeat first | with_reducible refine St.drewN ?_ _ | with_reducible refine St.drew ?_ | with_reducible refine St.alloc ?_ _); first | with_reducible exact H.out | with_reducible exact H.out.p1 | with_reducible exact H.out.p2 | with_reducible exact H.out.p3 | with_reducible exact H.out.p4 | with_reducible exact H.out.p5))).mono ?_; rintro e wn ⟨bi, rfl, h⟩; replace H := Lib.hid h; clear h)
      | (go_at_call 102; refine (s_int _ _ _ (by first | (first | with_reducible exact H.out | with_reducible exact H.out.p1 | with_reducible exact H.out.p2 | with_reducible exact H.out.p3 | with_reducible exact H.out.p4 | with_reducible exact H.out.p5) | ((repeat first | with_reducible refine St.drewN ?_ _ | with_reducible refine St.drew ?_ | with_reducible refine St.alloc ?_ _); first | with_reducible exact H.out | with_reducible exact H.out.p1 | with_reducible exact H.out.p2 | with_reducible exact H.out.p3 | with_reducible exact H.out.p4 | with_reducible exact H.out.p5))).mono ?_; (repeat first | rw [EA.out] | rw [ET.out]); rintro e wn ⟨rfl, h⟩; replace H := Lib.hid h; clear h; (try rw [EI.out] at H); (try rw [EJ.out] at H))
      | (go_at_call 52; refine (s_fail _ _ _ (by first | (first | with_reducible exact H.out | with_reducible exact H.out.p1 | with_reducible exact H.out.p2 | with_reducible exact H.out.p3 | with_reducible exact H.out.p4 | with_reducible exact H.out.p5) | ((repeat first | with_reducible refine St.drewN ?_ _ | with_reducible refine St.drew ?_ | with_reducible refine St.alloc ?_ _); first | with_reducible exact H.out | with_reducible exact H.out.p1 | with_reducible exact H.out.p2 | with_reducible exact H.out.p3 | with_reducible exact H.out.p4 | with_reducible exact H.out.p5))).mono ?_; (repeat first | rw [EI.out] | rw [EJ.out]); rintro e wn ⟨rfl, h⟩; replace H := Lib.hid h; clear h)
      | (go_at_call 97; refine (ctl_time0 _ H.out).mono ?_; rw [EO.out]; rintro e wn ⟨rfl, h⟩; replace H := Lib.hid h; clear h)
      | (go_at_call 24; refine (s_close _ _ (by first | (first | with_reducible exact H.out | with_reducible exact H.out.p1 | with_reducible exact H.out.p2 | with_reducible exact H.out.p3 | with_reducible exact H.out.p4 | with_reducible exact H.out.p5) | ((repeat first | with_reducible refine St.drewN ?_ _ | with_reducible refine St.drew ?_ | with_reducible refine St.alloc ?_ _); first | with_reducible exact H.out | with_reducible exact H.out.p1 | with_reducible exact H.out.p2 | with_reducible exact H.out.p3 | with_reducible exact H.out.p4 | with_reducible exact H.out.p5))).mono ?_; (repeat first | rw [EC.out]); rintro e wn ⟨rfl, h⟩; replace H := Lib.hid h; clear h))
    go_ret2
    exact ⟨rfl, H.out.drop⟩

set_option maxHeartbeats 1000000 in
set_option maxRecDepth 100000 in
theorem ctl_key (n : Int) (r : Bs × Int) (hr : ctlKey n = r) (hn : -9223372036854775808 ≤ n ∧ n < 9223372036854775808) {W0 w : World} {K : Know} {L : List Res} (h : St W0 w K L) :
    Calls Tryz.prog 79 #[.int .i64 n] w fun en w' => en = .returned (.tuple #[.string (bb r.1), .int .i64 r.2]) ∧ St W0 w' K L := by
  have H := Lib.hid h
  have HN := Lib.hid hn
  clear h
  subst hr
  by_cases hw : n = 0 ∨ n = 1
  · have EW := Lib.hid (show way n = true by unfold way; simpa using hw)
    have EV := Lib.hid (show ((⟨beBytes 0 2, 0⟩ : OutS).int n 2).text = ctlKey n by unfold ctlKey; rw [if_pos hw]; exact ver_text n 2 (fits2 n (by omega)))
    clear hw hn
    go_enter Tryz.func79, Tryz.ntmps79
    go_wp2_with (first
      | (go_at_call 96; refine (ctl_known _ (by first | (first | with_reducible exact H.out | with_reducible exact H.out.p1 | with_reducible exact H.out.p2 | with_reducible exact H.out.p3 | with_reducible exact H.out.p4 | with_reducible exact H.out.p5) | ((repeat first | with_reducible refine St.drewN ?_ _ | with_reducible refine St.drew ?_ | with_reducible refine St.alloc ?_ _); first | with_reducible exact H.out | with_reducible exact H.out.p1 | with_reducible exact H.out.p2 | with_reducible exact H.out.p3 | with_reducible exact H.out.p4 | with_reducible exact H.out.p5))).mono ?_; (repeat first | rw [EW.out]); rintro e wn ⟨rfl, h⟩; replace H := Lib.hid h; clear h)
      | (go_at_call 101; refine (ctl_versioned n 2 _ EV.out HN.out (by first | (first | with_reducible exact H.out | with_reducible exact H.out.p1 | with_reducible exact H.out.p2 | with_reducible exact H.out.p3 | with_reducible exact H.out.p4 | with_reducible exact H.out.p5) | ((repeat first | with_reducible refine St.drewN ?_ _ | with_reducible refine St.drew ?_ | with_reducible refine St.alloc ?_ _); first | with_reducible exact H.out | with_reducible exact H.out.p1 | with_reducible exact H.out.p2 | with_reducible exact H.out.p3 | with_reducible exact H.out.p4 | with_reducible exact H.out.p5))).mono ?_; rintro e wn ⟨rfl, h⟩; replace H := Lib.hid h; clear h))
    go_ret2
    exact ⟨rfl, H.out⟩
  · have EW := Lib.hid (show way n = false by unfold way; simpa using hw)
    have EV : ctlKey n = ([], 12) := by unfold ctlKey; rw [if_neg hw]
    rw [EV]
    clear hw hn EV
    go_enter Tryz.func79, Tryz.ntmps79
    go_wp2_with (first
      | (go_at_call 96; refine (ctl_known _ (by first | (first | with_reducible exact H.out | with_reducible exact H.out.p1 | with_reducible exact H.out.p2 | with_reducible exact H.out.p3 | with_reducible exact H.out.p4 | with_reducible exact H.out.p5) | ((repeat first | with_reducible refine St.drewN ?_ _ | with_reducible refine St.drew ?_ | with_reducible refine St.alloc ?_ _); first | with_reducible exact H.out | with_reducible exact H.out.p1 | with_reducible exact H.out.p2 | with_reducible exact H.out.p3 | with_reducible exact H.out.p4 | with_reducible exact H.out.p5))).mono ?_; (repeat first | rw [EW.out]); rintro e wn ⟨rfl, h⟩; replace H := Lib.hid h; clear h))
    go_ret2
    exact ⟨rfl, H.out⟩

set_option maxHeartbeats 1000000 in
set_option maxRecDepth 100000 in
theorem ctl_value (n : Int) (r : Bs × Int) (hr : ctlVal n = r) (hn : -9223372036854775808 ≤ n ∧ n < 9223372036854775808) {W0 w : World} {K : Know} {L : List Res} (h : St W0 w K L) :
    Calls Tryz.prog 80 #[.int .i64 n] w fun en w' => en = .returned (.tuple #[.string (bb r.1), .int .i64 r.2]) ∧ St W0 w' K L := by
  have H := Lib.hid h
  have HN := Lib.hid hn
  clear h
  subst hr
  by_cases hw : 0 ≤ n
  · have EV := Lib.hid (show ((⟨beBytes 0 2, 0⟩ : OutS).int n 4).text = ctlVal n by
      unfold ctlVal
      by_cases h : n < 2147483648
      · rw [if_pos ⟨hw, h⟩]; exact ver_text n 4 ((fits4 n).2 (by omega))
      · rw [if_neg (by omega)]; exact ver_textN n 4 (fun hf => by have := (fits4 n).1 hf; omega))
    clear hn
    go_enter Tryz.func80, Tryz.ntmps80
    go_wp2_with (first
      | (go_at_call 101; refine (ctl_versioned n 4 _ EV.out HN.out (by first | (first | with_reducible exact H.out | with_reducible exact H.out.p1 | with_reducible exact H.out.p2 | with_reducible exact H.out.p3 | with_reducible exact H.out.p4 | with_reducible exact H.out.p5) | ((repeat first | with_reducible refine St.drewN ?_ _ | with_reducible refine St.drew ?_ | with_reducible refine St.alloc ?_ _); first | with_reducible exact H.out | with_reducible exact H.out.p1 | with_reducible exact H.out.p2 | with_reducible exact H.out.p3 | with_reducible exact H.out.p4 | with_reducible exact H.out.p5))).mono ?_; rintro e wn ⟨rfl, h⟩; replace H := Lib.hid h; clear h))
    go_ret2
    exact ⟨rfl, H.out⟩
  · have EV : ctlVal n = ([], 11) := by unfold ctlVal; rw [if_neg (by omega)]
    rw [EV]
    clear hn EV
    go_enter Tryz.func80, Tryz.ntmps80
    go_wp2
    go_ret2
    exact ⟨rfl, H.out⟩

set_option maxHeartbeats 1000000 in
set_option maxRecDepth 100000 in
theorem ctl_readKey (s : Bs) (r : Int × Int) (hr : verRd 2 way 12 s = r) (hs : s.length ≤ 140737488355328) {W0 w : World} {K : Know} {L : List Res} (h : St W0 w K L) :
    Calls Tryz.prog 69 #[.string (bb s)] w fun en w' => en = .returned (.tuple #[.int .i64 r.1, .int .i64 r.2]) ∧ St W0 w' K L := by
  have H := Lib.hid h
  have HS := Lib.hid hs
  have HR := Lib.hid hr
  clear h hs hr
  go_enter Tryz.func69, Tryz.ntmps69
  go_wp2_with ((go_at_call 95; refine (ctl_readKind s r HR.out HS.out (by first | (first | with_reducible exact H.out | with_reducible exact H.out.p1 | with_reducible exact H.out.p2 | with_reducible exact H.out.p3 | with_reducible exact H.out.p4 | with_reducible exact H.out.p5) | ((repeat first | with_reducible refine St.drewN ?_ _ | with_reducible refine St.drew ?_ | with_reducible refine St.alloc ?_ _); first | with_reducible exact H.out | with_reducible exact H.out.p1 | with_reducible exact H.out.p2 | with_reducible exact H.out.p3 | with_reducible exact H.out.p4 | with_reducible exact H.out.p5))).mono ?_; rintro e wn ⟨rfl, h⟩; replace H := Lib.hid h; clear h))
  go_ret2
  exact ⟨rfl, H.out⟩

set_option maxHeartbeats 1000000 in
set_option maxRecDepth 100000 in
theorem ctl_readValue (s : Bs) (r : Int × Int) (hr : verRd 4 time0 11 s = r) (hs : s.length ≤ 140737488355328) {W0 w : World} {K : Know} {L : List Res} (h : St W0 w K L) :
    Calls Tryz.prog 70 #[.string (bb s)] w fun en w' => en = .returned (.tuple #[.int .i64 r.1, .int .i64 r.2]) ∧ St W0 w' K L := by
  have H := Lib.hid h
  have HS := Lib.hid hs
  have HR := Lib.hid hr
  clear h hs hr
  go_enter Tryz.func70, Tryz.ntmps70
  go_wp2_with ((go_at_call 95; refine (ctl_readTime s r HR.out HS.out (by first | (first | with_reducible exact H.out | with_reducible exact H.out.p1 | with_reducible exact H.out.p2 | with_reducible exact H.out.p3 | with_reducible exact H.out.p4 | with_reducible exact H.out.p5) | ((repeat first | with_reducible refine St.drewN ?_ _ | with_reducible refine St.drew ?_ | with_reducible refine St.alloc ?_ _); first | with_reducible exact H.out | with_reducible exact H.out.p1 | with_reducible exact H.out.p2 | with_reducible exact H.out.p3 | with_reducible exact H.out.p4 | with_reducible exact H.out.p5))).mono ?_; rintro e wn ⟨rfl, h⟩; replace H := Lib.hid h; clear h))
  go_ret2
  exact ⟨rfl, H.out⟩

end Go.Proofs.YtcjgdlfcfcabiaaGreat

/- Contracts of cursitorref08. -/
namespace Go.Proofs.YtcjgdlfcfcabiaaGreat
open Go.RowKit

theorem sr_bytes2 (n : Int) (hn : -9223372036854775808 ≤ n ∧ n < 9223372036854775808) {W0 w : World} {K : Know} {L : List Res} (h : St W0 w K L) :
    Calls Tryz.prog 48 #[.int .i64 n, .int .i64 2] w fun en w' => en = .returned (.string (bb (beBytes n 2))) ∧ St W0 w' K L := sr_bytes n 2 (by decide) hn h
theorem sr_bytes4 (n : Int) (hn : -9223372036854775808 ≤ n ∧ n < 9223372036854775808) {W0 w : World} {K : Know} {L : List Res} (h : St W0 w K L) :
    Calls Tryz.prog 48 #[.int .i64 n, .int .i64 4] w fun en w' => en = .returned (.string (bb (beBytes n 4))) ∧ St W0 w' K L := sr_bytes n 4 (by decide) hn h
set_option maxHeartbeats 1000000 in
set_option maxRecDepth 100000 in
theorem ref08_key (n : Int) (hn : -9223372036854775808 ≤ n ∧ n < 9223372036854775808) {W0 w : World} {K : Know} {L : List Res} (h : St W0 w K L) :
    Calls Tryz.prog 18 #[.int .i64 n] w fun en w' => en = .returned (.string (bb (verB n 2))) ∧ St W0 w' K L := by
  have H := Lib.hid h
  have HN := Lib.hid hn
  have hcat : bb (beBytes 0 2) ++ bb (beBytes n 2) = bb (verB n 2) := bb_append _ _
  have hl1 : (beBytes 0 2).length = 2 := beBytes_length _ _
  have hl2 : (beBytes n 2).length = 2 := beBytes_length _ _
  clear h hn
  go_enter Tryz.func18, Tryz.ntmps18
  go_wp2_with (first
    | (go_at_call 48; (with_reducible refine (sr_bytes2 0 (by decide) (by first | (first | with_reducible exact H.out | with_reducible exact H.out.p1 | with_reducible exact H.out.p2 | with_reducible exact H.out.p3 | with_reducible exact H.out.p4 | with_reducible exact H.out.p5) | ((repeat first | with_reducible refine St.drewN ?_ _ | with_reducible refine St.drew ?_ | with_reducible refine St.alloc ?_ _); first | with_reducible exact H.out | with_reducible exact H.out.p1 | with_reducible exact H.out.p2 | with_reducible exact H.out.p3 | with_reducible exact H.out.p4 | with_reducible exact H.out.p5))).mono ?_); rintro e wn ⟨rfl, h⟩; replace H := Lib.hid h; clear h)
    | (go_at_call 48; (with_reducible refine (sr_bytes2 n HN.out (by first | (first | with_reducible exact H.out | with_reducible exact H.out.p1 | with_reducible exact H.out.p2 | with_reducible exact H.out.p3 | with_reducible exact H.out.p4 | with_reducible exact H.out.p5) | ((repeat first | with_reducible refine St.drewN ?_ _ | with_reducible refine St.drew ?_ | with_reducible refine St.alloc ?_ _); first | with_reducible exact H.out | with_reducible exact H.out.p1 | with_reducible exact H.out.p2 | with_reducible exact H.out.p3 | with_reducible exact H.out.p4 | with_reducible exact H.out.p5))).mono ?_); rintro e wn ⟨rfl, h⟩; replace H := Lib.hid h; clear h))
  go_ret
  exact ⟨rfl, H.out⟩

set_option maxHeartbeats 1000000 in
set_option maxRecDepth 100000 in
theorem ref08_value (n : Int) (hn : -9223372036854775808 ≤ n ∧ n < 9223372036854775808) {W0 w : World} {K : Know} {L : List Res} (h : St W0 w K L) :
    Calls Tryz.prog 19 #[.int .i64 n] w fun en w' => en = .returned (.string (bb (verB n 4))) ∧ St W0 w' K L := by
  have H := Lib.hid h
  have HN := Lib.hid hn
  have hcat : bb (beBytes 0 2) ++ bb (beBytes n 4) = bb (verB n 4) := bb_append _ _
  have hl1 : (beBytes 0 2).length = 2 := beBytes_length _ _
  have hl2 : (beBytes n 4).length = 4 := beBytes_length _ _
  clear h hn
  go_enter Tryz.func19, Tryz.ntmps19
  go_wp2_with (first
    | (go_at_call 48; (with_reducible refine (sr_bytes2 0 (by decide) (by first | (first | with_reducible exact H.out | with_reducible exact H.out.p1 | with_reducible exact H.out.p2 | with_reducible exact H.out.p3 | with_reducible exact H.out.p4 | with_reducible exact H.out.p5) | ((repeat first | with_reducible refine St.drewN ?_ _ | with_reducible refine St.drew ?_ | with_reducible refine St.alloc ?_ _); first | with_reducible exact H.out | with_reducible exact H.out.p1 | with_reducible exact H.out.p2 | with_reducible exact H.out.p3 | with_reducible exact H.out.p4 | with_reducible exact H.out.p5))).mono ?_); rintro e wn ⟨rfl, h⟩; replace H := Lib.hid h; clear h)
    | (go_at_call 48; (with_reducible refine (sr_bytes4 n HN.out (by first | (first | with_reducible exact H.out | with_reducible exact H.out.p1 | with_reducible exact H.out.p2 | with_reducible exact H.out.p3 | with_reducible exact H.out.p4 | with_reducible exact H.out.p5) | ((repeat first | with_reducible refine St.drewN ?_ _ | with_reducible refine St.drew ?_ | with_reducible refine St.alloc ?_ _); first | with_reducible exact H.out | with_reducible exact H.out.p1 | with_reducible exact H.out.p2 | with_reducible exact H.out.p3 | with_reducible exact H.out.p4 | with_reducible exact H.out.p5))).mono ?_); rintro e wn ⟨rfl, h⟩; replace H := Lib.hid h; clear h))
  go_ret
  exact ⟨rfl, H.out⟩

set_option maxHeartbeats 1000000 in
set_option maxRecDepth 100000 in
theorem ref08_readKey (s : Bs) (r : Int × Int) (hr : verRd 2 way 12 s = r) (hs : s.length ≤ 140737488355328) {W0 w : World} {K : Know} {L : List Res} (h : St W0 w K L) :
    Calls Tryz.prog 63 #[.string (bb s)] w fun en w' => en = .returned (.tuple #[.int .i64 r.1, .int .i64 r.2]) ∧ St W0 w' K L := by
  have H := Lib.hid h
  have HS := Lib.hid hs
  have HT := Lib.hid (show (s.take 2).length ≤ 8 by rw [List.length_take]; omega)
  have HT2 := Lib.hid (show ((s.drop 2).take 2).length ≤ 8 by rw [List.length_take]; omega)
  obtain ⟨v1, hv1⟩ : ∃ v, sInt (s.take 2) = v := ⟨_, rfl⟩
  obtain ⟨v2, hv2⟩ : ∃ v, sInt ((s.drop 2).take 2) = v := ⟨_, rfl⟩
  unfold verRd at hr
  rw [hv1, hv2] at hr
  have E1 := Lib.hid hv1
  have E2 := Lib.hid hv2
  clear h hs hv1 hv2
  by_cases c1 : s.length < 2
  · rw [if_pos c1] at hr
    subst hr
    go_enter Tryz.func63, Tryz.ntmps63
    go_wp2_with (first
      | (go_at_call 93; (with_reducible refine (sr_int (s.take 2) HT.out H.out).mono ?_); rw [E1.out]; rintro e wn ⟨rfl, h⟩; replace H := Lib.hid h; clear h)
      | (go_at_call 93; (with_reducible refine (sr_int ((s.drop 2).take 2) HT2.out H.out).mono ?_); rw [E2.out]; rintro e wn ⟨rfl, h⟩; replace H := Lib.hid h; clear h))
    go_ret2
    exact ⟨rfl, H.out⟩
  rw [if_neg c1] at hr
  by_cases c2 : v1 ≠ 0
  · rw [if_pos c2] at hr
    subst hr
    have d2 : (v1 != 0) = true := by simpa using c2
    go_enter Tryz.func63, Tryz.ntmps63
    go_wp2_with (first
      | (go_at_call 93; (with_reducible refine (sr_int (s.take 2) HT.out H.out).mono ?_); rw [E1.out]; rintro e wn ⟨rfl, h⟩; replace H := Lib.hid h; clear h)
      | (go_at_call 93; (with_reducible refine (sr_int ((s.drop 2).take 2) HT2.out H.out).mono ?_); rw [E2.out]; rintro e wn ⟨rfl, h⟩; replace H := Lib.hid h; clear h))
    go_ret2
    exact ⟨rfl, H.out⟩
  rw [if_neg c2] at hr
  have d2 : (v1 != 0) = false := by simpa using c2
  clear c2
  by_cases c3 : s.length < 2 + 2
  · rw [if_pos c3] at hr
    subst hr
    have c3' : s.length < 4 := c3
    clear c3
    go_enter Tryz.func63, Tryz.ntmps63
    go_wp2_with (first
      | (go_at_call 93; (with_reducible refine (sr_int (s.take 2) HT.out H.out).mono ?_); rw [E1.out]; rintro e wn ⟨rfl, h⟩; replace H := Lib.hid h; clear h)
      | (go_at_call 93; (with_reducible refine (sr_int ((s.drop 2).take 2) HT2.out H.out).mono ?_); rw [E2.out]; rintro e wn ⟨rfl, h⟩; replace H := Lib.hid h; clear h))
    go_ret2
    exact ⟨rfl, H.out⟩
  rw [if_neg c3] at hr
  have c3' : ¬ s.length < 4 := c3
  clear c3
  by_cases c4 : way v2 = false
  · rw [if_pos c4] at hr
    subst hr
    have n0 : (v2 != 0) = true ∧ (v2 != 1) = true := (by unfold way at c4; simpa using c4); obtain ⟨n0, n1⟩ := n0; clear c4
    go_enter Tryz.func63, Tryz.ntmps63
    go_wp2_with (first
      | (go_at_call 93; (with_reducible refine (sr_int (s.take 2) HT.out H.out).mono ?_); rw [E1.out]; rintro e wn ⟨rfl, h⟩; replace H := Lib.hid h; clear h)
      | (go_at_call 93; (with_reducible refine (sr_int ((s.drop 2).take 2) HT2.out H.out).mono ?_); rw [E2.out]; rintro e wn ⟨rfl, h⟩; replace H := Lib.hid h; clear h))
    go_ret2
    exact ⟨rfl, H.out⟩
  rw [if_neg c4] at hr
  by_cases c5 : 2 + 2 < s.length
  · rw [if_pos c5] at hr
    subst hr
    have c5' : 4 < s.length := c5
    clear c5
    have hv2 : v2 = 0 ∨ v2 = 1 := (by unfold way at c4; simp at c4; omega); clear c4; rcases hv2 with rfl | rfl
    all_goals
      go_enter Tryz.func63, Tryz.ntmps63
      go_wp2_with (first
        | (go_at_call 93; (with_reducible refine (sr_int (s.take 2) HT.out H.out).mono ?_); rw [E1.out]; rintro e wn ⟨rfl, h⟩; replace H := Lib.hid h; clear h)
        | (go_at_call 93; (with_reducible refine (sr_int ((s.drop 2).take 2) HT2.out H.out).mono ?_); rw [E2.out]; rintro e wn ⟨rfl, h⟩; replace H := Lib.hid h; clear h))
      go_ret2
      exact ⟨rfl, H.out⟩
  rw [if_neg c5] at hr
  subst hr
  have c5' : ¬ 4 < s.length := c5
  clear c5
  have hv2 : v2 = 0 ∨ v2 = 1 := (by unfold way at c4; simp at c4; omega); clear c4; rcases hv2 with rfl | rfl
  all_goals
    go_enter Tryz.func63, Tryz.ntmps63
    go_wp2_with (first
      | (go_at_call 93; (with_reducible refine (sr_int (s.take 2) HT.out H.out).mono ?_); rw [E1.out]; rintro e wn ⟨rfl, h⟩; replace H := Lib.hid h; clear h)
      | (go_at_call 93; (with_reducible refine (sr_int ((s.drop 2).take 2) HT2.out H.out).mono ?_); rw [E2.out]; rintro e wn ⟨rfl, h⟩; replace H := Lib.hid h; clear h))
    go_ret2
    exact ⟨rfl, H.out⟩

set_option maxHeartbeats 1000000 in
set_option maxRecDepth 100000 in
theorem ref08_readValue (s : Bs) (r : Int × Int) (hr : verRd 4 time0 11 s = r) (hs : s.length ≤ 140737488355328) {W0 w : World} {K : Know} {L : List Res} (h : St W0 w K L) :
    Calls Tryz.prog 64 #[.string (bb s)] w fun en w' => en = .returned (.tuple #[.int .i64 r.1, .int .i64 r.2]) ∧ St W0 w' K L := by
  have H := Lib.hid h
  have HS := Lib.hid hs
  have HT := Lib.hid (show (s.take 2).length ≤ 8 by rw [List.length_take]; omega)
  have HT2 := Lib.hid (show ((s.drop 2).take 4).length ≤ 8 by rw [List.length_take]; omega)
  obtain ⟨v1, hv1⟩ : ∃ v, sInt (s.take 2) = v := ⟨_, rfl⟩
  obtain ⟨v2, hv2⟩ : ∃ v, sInt ((s.drop 2).take 4) = v := ⟨_, rfl⟩
  unfold verRd at hr
  rw [hv1, hv2] at hr
  have E1 := Lib.hid hv1
  have E2 := Lib.hid hv2
  clear h hs hv1 hv2
  by_cases c1 : s.length < 2
  · rw [if_pos c1] at hr
    subst hr
    go_enter Tryz.func64, Tryz.ntmps64
    go_wp2_with (first
      | (go_at_call 93; (with_reducible refine (sr_int (s.take 2) HT.out H.out).mono ?_); rw [E1.out]; rintro e wn ⟨rfl, h⟩; replace H := Lib.hid h; clear h))
    go_ret2
    exact ⟨rfl, H.out⟩
  rw [if_neg c1] at hr
  by_cases c2 : v1 ≠ 0
  · rw [if_pos c2] at hr
    subst hr
    have d2 : (v1 != 0) = true := by simpa using c2
    go_enter Tryz.func64, Tryz.ntmps64
    go_wp2_with (first
      | (go_at_call 93; (with_reducible refine (sr_int (s.take 2) HT.out H.out).mono ?_); rw [E1.out]; rintro e wn ⟨rfl, h⟩; replace H := Lib.hid h; clear h))
    go_ret2
    exact ⟨rfl, H.out⟩
  rw [if_neg c2] at hr
  have d2 : (v1 != 0) = false := by simpa using c2
  clear c2
  by_cases c3 : s.length < 2 + 4
  · rw [if_pos c3] at hr
    subst hr
    have c3' : s.length < 6 := c3
    clear c3
    go_enter Tryz.func64, Tryz.ntmps64
    go_wp2_with (first
      | (go_at_call 93; (with_reducible refine (sr_int (s.take 2) HT.out H.out).mono ?_); rw [E1.out]; rintro e wn ⟨rfl, h⟩; replace H := Lib.hid h; clear h))
    go_ret2
    exact ⟨rfl, H.out⟩
  rw [if_neg c3] at hr
  have c3' : ¬ s.length < 6 := c3
  clear c3
  by_cases c4 : time0 v2 = false
  · rw [if_pos c4] at hr
    subst hr
    have n0 : v2 < 0 := (by unfold time0 at c4; simpa using c4); clear c4
    go_enter Tryz.func64, Tryz.ntmps64
    go_wp2_with (first
      | (go_at_call 93; (with_reducible refine (sr_int (s.take 2) HT.out H.out).mono ?_); rw [E1.out]; rintro e wn ⟨rfl, h⟩; replace H := Lib.hid h; clear h)
      | (go_at_call 93; (with_reducible refine (sr_int ((s.drop 2).take 4) HT2.out H.out).mono ?_); rw [E2.out]; rintro e wn ⟨rfl, h⟩; replace H := Lib.hid h; clear h))
    go_ret2
    exact ⟨rfl, H.out⟩
  rw [if_neg c4] at hr
  by_cases c5 : 2 + 4 < s.length
  · rw [if_pos c5] at hr
    subst hr
    have c5' : 6 < s.length := c5
    clear c5
    have n0 : ¬ v2 < 0 := (by unfold time0 at c4; simpa using c4); clear c4
    all_goals
      go_enter Tryz.func64, Tryz.ntmps64
      go_wp2_with (first
        | (go_at_call 93; (with_reducible refine (sr_int (s.take 2) HT.out H.out).mono ?_); rw [E1.out]; rintro e wn ⟨rfl, h⟩; replace H := Lib.hid h; clear h)
        | (go_at_call 93; (with_reducible refine (sr_int ((s.drop 2).take 4) HT2.out H.out).mono ?_); rw [E2.out]; rintro e wn ⟨rfl, h⟩; replace H := Lib.hid h; clear h))
      go_ret2
      exact ⟨rfl, H.out⟩
  rw [if_neg c5] at hr
  subst hr
  have c5' : ¬ 6 < s.length := c5
  clear c5
  have n0 : ¬ v2 < 0 := (by unfold time0 at c4; simpa using c4); clear c4
  all_goals
    go_enter Tryz.func64, Tryz.ntmps64
    go_wp2_with (first
      | (go_at_call 93; (with_reducible refine (sr_int (s.take 2) HT.out H.out).mono ?_); rw [E1.out]; rintro e wn ⟨rfl, h⟩; replace H := Lib.hid h; clear h)
      | (go_at_call 93; (with_reducible refine (sr_int ((s.drop 2).take 4) HT2.out H.out).mono ?_); rw [E2.out]; rintro e wn ⟨rfl, h⟩; replace H := Lib.hid h; clear h))
    go_ret2
    exact ⟨rfl, H.out⟩

end Go.Proofs.YtcjgdlfcfcabiaaGreat

/- Contracts: control records. -/
namespace Go.Proofs.YtcjgdlfcfcabiaaGreat
open Go.RowKit

theorem know_nil0 {α : Type} (R : List Value → α → Prop) (sz : Nat) (K : Know) : K.has (Know.flat R (.slice none 0 0) sz []) := fun _ _ _ => ⟨none, 0, rfl, fun h => absurd h (by simp)⟩

set_option maxHeartbeats 1000000 in
set_option maxRecDepth 100000 in
theorem ctl_record_kind (n m : Int) (e : Int) (hk : ctlKey n = ([], e)) (he : (e != 0) = true) (hn : -9223372036854775808 ≤ n ∧ n < 9223372036854775808) (hm : -9223372036854775808 ≤ m ∧ m < 9223372036854775808) {W0 w : World} {K : Know} {L : List Res} (h : St W0 w K L) :
    Calls Tryz.prog 47 #[.int .i64 n, .int .i64 m] w fun en w' => en = .returned (.tuple #[.agg #[.int .i64 0, .int .i64 0, .bool false, .string ⟨#[]⟩, .bool false, .string ⟨#[]⟩, .slice none 0 0], .int .i64 e]) ∧ St W0 w' K L := by
  have h0 := h.allocRaw #[.int .i64 0, .int .i64 0, .bool false, .string ⟨#[]⟩, .bool false, .string ⟨#[]⟩, .slice none 0 0] 45
  obtain ⟨wA, hwA⟩ : ∃ b, w.heap.size = b := ⟨_, rfl⟩
  rw [hwA] at h0
  have H := Lib.hid h0
  have HN := Lib.hid hn
  have HM := Lib.hid hm
  have EK := Lib.hid hk
  clear hk
  clear h h0 hn hm
  go_enter Tryz.func47, Tryz.ntmps47
  go_wp2_with (first
    | (go_at_call 79; refine (ctl_key n _ EK.out HN.out H.out).mono ?_; rintro e wn ⟨rfl, h⟩; replace H := Lib.hid h; clear h; obtain ⟨ac0, ac1, ac2, ac3, ac4, ac5, ac6, af0, af1, af2, af3, af4, af5, af6⟩ := raw7 (b := wA) (H.out)))
  refine bodyPost_ret (v := .tuple #[.agg #[.int .i64 0, .int .i64 0, .bool false, .string ⟨#[]⟩, .bool false, .string ⟨#[]⟩, .slice none 0 0], .int .i64 e]) (by simp [results, Tryz.results47, go_sem, ac0, ac1, ac2, ac3, ac4, ac5, ac6]; try rfl) rfl ⟨rfl, (((((((H.out.rawSet 0 _).rawSet 1 _).rawSet 2 _).rawSet 3 _).rawSet 4 _).rawSet 5 _).rawSet 6 _).drop⟩

set_option maxHeartbeats 1000000 in
set_option maxRecDepth 100000 in
theorem ctl_record_time (n m : Int) (s : Bs) (e : Int) (hk : ctlKey n = (s, 0)) (hv : ctlVal m = ([], e)) (he : (e != 0) = true) (hn : -9223372036854775808 ≤ n ∧ n < 9223372036854775808) (hm : -9223372036854775808 ≤ m ∧ m < 9223372036854775808) {W0 w : World} {K : Know} {L : List Res} (h : St W0 w K L) :
    Calls Tryz.prog 47 #[.int .i64 n, .int .i64 m] w fun en w' => en = .returned (.tuple #[.agg #[.int .i64 0, .int .i64 0, .bool false, .string ⟨#[]⟩, .bool false, .string ⟨#[]⟩, .slice none 0 0], .int .i64 e]) ∧ St W0 w' K L := by
  have h0 := h.allocRaw #[.int .i64 0, .int .i64 0, .bool false, .string ⟨#[]⟩, .bool false, .string ⟨#[]⟩, .slice none 0 0] 45
  obtain ⟨wA, hwA⟩ : ∃ b, w.heap.size = b := ⟨_, rfl⟩
  rw [hwA] at h0
  have H := Lib.hid h0
  have HN := Lib.hid hn
  have HM := Lib.hid hm
  have EK := Lib.hid hk
  have EV := Lib.hid hv
  clear hk hv
  clear h h0 hn hm
  go_enter Tryz.func47, Tryz.ntmps47
  go_wp2_with (first
    | (go_at_call 79; refine (ctl_key n _ EK.out HN.out H.out).mono ?_; rintro e wn ⟨rfl, h⟩; replace H := Lib.hid h; clear h; obtain ⟨ac0, ac1, ac2, ac3, ac4, ac5, ac6, af0, af1, af2, af3, af4, af5, af6⟩ := raw7 (b := wA) (H.out))
    | (go_at_call 80; refine (ctl_value m _ EV.out HM.out H.out).mono ?_; rintro e wn ⟨rfl, h⟩; replace H := Lib.hid h; clear h; obtain ⟨ac0, ac1, ac2, ac3, ac4, ac5, ac6, af0, af1, af2, af3, af4, af5, af6⟩ := raw7 (b := wA) (H.out)))
  refine bodyPost_ret (v := .tuple #[.agg #[.int .i64 0, .int .i64 0, .bool false, .string ⟨#[]⟩, .bool false, .string ⟨#[]⟩, .slice none 0 0], .int .i64 e]) (by simp [results, Tryz.results47, go_sem, ac0, ac1, ac2, ac3, ac4, ac5, ac6]; try rfl) rfl ⟨rfl, (((((((H.out.rawSet 0 _).rawSet 1 _).rawSet 2 _).rawSet 3 _).rawSet 4 _).rawSet 5 _).rawSet 6 _).drop⟩

set_option maxHeartbeats 1000000 in
set_option maxRecDepth 100000 in
theorem ctl_record_ok (n m : Int) (s1 s2 : Bs) (hk : ctlKey n = (s1, 0)) (hv : ctlVal m = (s2, 0)) (hn : -9223372036854775808 ≤ n ∧ n < 9223372036854775808) (hm : -9223372036854775808 ≤ m ∧ m < 9223372036854775808) {W0 w : World} {K : Know} {L : List Res} (h : St W0 w K L) :
    Calls Tryz.prog 47 #[.int .i64 n, .int .i64 m] w fun en w' => en = .returned (.tuple #[.agg #[.int .i64 0, .int .i64 0, .bool false, .string (bb s1), .bool false, .string (bb s2), .slice none 0 0], .int .i64 0]) ∧ St W0 w' K L := by
  have h0 := h.allocRaw #[.int .i64 0, .int .i64 0, .bool false, .string ⟨#[]⟩, .bool false, .string ⟨#[]⟩, .slice none 0 0] 45
  obtain ⟨wA, hwA⟩ : ∃ b, w.heap.size = b := ⟨_, rfl⟩
  rw [hwA] at h0
  have H := Lib.hid h0
  have HN := Lib.hid hn
  have HM := Lib.hid hm
  have EK := Lib.hid hk
  have EV := Lib.hid hv
  have t1 : True := trivial
  clear hk hv
  clear h h0 hn hm
  go_enter Tryz.func47, Tryz.ntmps47
  go_wp2_with (first
    | (go_at_call 79; refine (ctl_key n _ EK.out HN.out H.out).mono ?_; rintro e wn ⟨rfl, h⟩; replace H := Lib.hid h; clear h; obtain ⟨ac0, ac1, ac2, ac3, ac4, ac5, ac6, af0, af1, af2, af3, af4, af5, af6⟩ := raw7 (b := wA) (H.out))
    | (go_at_call 80; refine (ctl_value m _ EV.out HM.out H.out).mono ?_; rintro e wn ⟨rfl, h⟩; replace H := Lib.hid h; clear h; obtain ⟨ac0, ac1, ac2, ac3, ac4, ac5, ac6, af0, af1, af2, af3, af4, af5, af6⟩ := raw7 (b := wA) (H.out))
    | (go_at_call 81; have _t := t1; clear _t; refine (blob_of s1 H.out).mono ?_; rintro e wn ⟨rfl, h⟩; replace H := Lib.hid h; clear h t1; have t2 : True := trivial; obtain ⟨ac0, ac1, ac2, ac3, ac4, ac5, ac6, af0, af1, af2, af3, af4, af5, af6⟩ := raw7 (b := wA) (H.out); unfold bv)
    | (go_at_call 81; have _t := t2; clear _t; refine (blob_of s2 H.out).mono ?_; rintro e wn ⟨rfl, h⟩; replace H := Lib.hid h; clear h t2; obtain ⟨ac0, ac1, ac2, ac3, ac4, ac5, ac6, af0, af1, af2, af3, af4, af5, af6⟩ := raw7 (b := wA) (H.out); unfold bv))
  refine bodyPost_ret (v := .tuple #[.agg #[.int .i64 0, .int .i64 0, .bool false, .string (bb s1), .bool false, .string (bb s2), .slice none 0 0], .int .i64 0]) (by simp [results, Tryz.results47, go_sem, ac0, ac1, ac2, ac3, ac4, ac5, ac6]; try rfl) rfl ⟨rfl, (((((((H.out.rawSet 0 _).rawSet 1 _).rawSet 2 _).rawSet 3 _).rawSet 4 _).rawSet 5 _).rawSet 6 _).drop⟩

def ctlRead (n1 n2 : Bool) (d1 d2 : Bs) (many o : Int) : Int × Int × Int :=
  if n1 = true ∨ n2 = true ∨ many ≠ 0 ∨ o ≠ 0 then (0, 0, 12)
  else if (verRd 2 way 12 d1).2 ≠ 0 then (0, 0, (verRd 2 way 12 d1).2)
  else if (verRd 4 time0 11 d2).2 ≠ 0 then (0, 0, (verRd 4 time0 11 d2).2)
  else ((verRd 2 way 12 d1).1, (verRd 4 time0 11 d2).1, 0)

set_option maxHeartbeats 1000000 in
set_option maxRecDepth 100000 in
theorem ctl_read (t o : Int) (n1 n2 : Bool) (d1 d2 : Bs) (q : Option Addr) (ln cap : Nat) (r : Int × Int × Int) (hr : ctlRead n1 n2 d1 d2 ln o = r) (hd1 : d1.length ≤ 140737488355328) (hd2 : d2.length ≤ 140737488355328) {W0 w : World} {K : Know} {L : List Res} (h : St W0 w K L) :
    Calls Tryz.prog 37 #[.agg #[.int .i64 t, .int .i64 o, .bool n1, .string (bb d1), .bool n2, .string (bb d2), (.slice q ln cap)]] w fun en w' => en = .returned (.tuple #[.int .i64 r.1, .int .i64 r.2.1, .int .i64 r.2.2]) ∧ St W0 w' K L := by
  have h0 := h.allocRaw #[.int .i64 t, .int .i64 o, .bool n1, .string (bb d1), .bool n2, .string (bb d2), (.slice q ln cap)] 45
  obtain ⟨wA, hwA⟩ : ∃ b, w.heap.size = b := ⟨_, rfl⟩
  rw [hwA] at h0
  have H := Lib.hid h0
  have HD1 := Lib.hid hd1
  have HD2 := Lib.hid hd2
  obtain ⟨ac0, ac1, ac2, ac3, ac4, ac5, ac6, af0, af1, af2, af3, af4, af5, af6⟩ := raw7 (b := wA) (H.out)
  clear h h0 hd1 hd2
  unfold ctlRead at hr
  by_cases g1 : n1 = true
  · rw [if_pos (.inl g1)] at hr
    subst hr g1
    go_enter Tryz.func37, Tryz.ntmps37
    go_wp2
    go_ret3
    exact ⟨rfl, H.out.drop⟩
  by_cases g2 : n2 = true
  · rw [if_pos (.inr (.inl g2))] at hr
    subst hr g2
    obtain rfl : n1 = false := by simpa using g1
    clear g1
    go_enter Tryz.func37, Tryz.ntmps37
    go_wp2
    go_ret3
    exact ⟨rfl, H.out.drop⟩
  obtain rfl : n1 = false := by simpa using g1
  obtain rfl : n2 = false := by simpa using g2
  clear g1 g2
  by_cases g3 : (ln : Int) ≠ 0
  · rw [if_pos (.inr (.inr (.inl g3)))] at hr
    subst hr
    have b1 : ((ln : Int) != 0) = true := by simpa using g3
    have b2 : decide (0 < ln) = true := decide_eq_true (by omega)
    have b3 : decide ((0 : Int) < ln) = true := decide_eq_true (by omega)
    have b4 : 0 < ln := by omega
    clear g3
    go_enter Tryz.func37, Tryz.ntmps37
    go_wp2
    go_ret3
    exact ⟨rfl, H.out.drop⟩
  obtain rfl : ln = 0 := by omega
  clear g3
  by_cases g4 : o ≠ 0
  · rw [if_pos (.inr (.inr (.inr g4)))] at hr
    subst hr
    have b1 : (o != 0) = true := by simpa using g4
    clear g4
    go_enter Tryz.func37, Tryz.ntmps37
    go_wp2
    go_ret3
    exact ⟨rfl, H.out.drop⟩
  obtain rfl : o = 0 := by simpa using g4
  clear g4
  rw [if_neg (by simp)] at hr
  obtain ⟨a, ha⟩ : ∃ a, verRd 2 way 12 d1 = a := ⟨_, rfl⟩
  obtain ⟨b, hb⟩ : ∃ b, verRd 4 time0 11 d2 = b := ⟨_, rfl⟩
  rw [ha, hb] at hr
  have EA := Lib.hid ha
  have EB := Lib.hid hb
  clear ha hb
  by_cases g5 : a.2 ≠ 0
  · rw [if_pos g5] at hr
    subst hr
    have b1 : (a.2 != 0) = true := by simpa using g5
    clear g5
    go_enter Tryz.func37, Tryz.ntmps37
    go_wp2_with (first
      | (go_at_call 69; refine (ctl_readKey d1 a EA.out HD1.out H.out).mono ?_; rintro e wn ⟨rfl, h⟩; replace H := Lib.hid h; clear h; obtain ⟨ac0, ac1, ac2, ac3, ac4, ac5, ac6, af0, af1, af2, af3, af4, af5, af6⟩ := raw7 (b := wA) (H.out)))
    go_ret3
    exact ⟨rfl, H.out.drop⟩
  rw [if_neg g5] at hr
  have b1 : (a.2 != 0) = false := by simpa using g5
  clear g5
  by_cases g6 : b.2 ≠ 0
  · rw [if_pos g6] at hr
    subst hr
    have b2 : (b.2 != 0) = true := by simpa using g6
    clear g6
    go_enter Tryz.func37, Tryz.ntmps37
    go_wp2_with (first
      | (go_at_call 69; refine (ctl_readKey d1 a EA.out HD1.out H.out).mono ?_; rintro e wn ⟨rfl, h⟩; replace H := Lib.hid h; clear h; obtain ⟨ac0, ac1, ac2, ac3, ac4, ac5, ac6, af0, af1, af2, af3, af4, af5, af6⟩ := raw7 (b := wA) (H.out))
      | (go_at_call 70; refine (ctl_readValue d2 b EB.out HD2.out H.out).mono ?_; rintro e wn ⟨rfl, h⟩; replace H := Lib.hid h; clear h; obtain ⟨ac0, ac1, ac2, ac3, ac4, ac5, ac6, af0, af1, af2, af3, af4, af5, af6⟩ := raw7 (b := wA) (H.out)))
    go_ret3
    exact ⟨rfl, H.out.drop⟩
  rw [if_neg g6] at hr
  subst hr
  have b2 : (b.2 != 0) = false := by simpa using g6
  clear g6
  go_enter Tryz.func37, Tryz.ntmps37
  go_wp2_with (first
    | (go_at_call 69; refine (ctl_readKey d1 a EA.out HD1.out H.out).mono ?_; rintro e wn ⟨rfl, h⟩; replace H := Lib.hid h; clear h; obtain ⟨ac0, ac1, ac2, ac3, ac4, ac5, ac6, af0, af1, af2, af3, af4, af5, af6⟩ := raw7 (b := wA) (H.out))
    | (go_at_call 70; refine (ctl_readValue d2 b EB.out HD2.out H.out).mono ?_; rintro e wn ⟨rfl, h⟩; replace H := Lib.hid h; clear h; obtain ⟨ac0, ac1, ac2, ac3, ac4, ac5, ac6, af0, af1, af2, af3, af4, af5, af6⟩ := raw7 (b := wA) (H.out)))
  go_ret3
  exact ⟨rfl, H.out.drop⟩

set_option maxHeartbeats 1000000 in
set_option maxRecDepth 100000 in
theorem ref08_read (t o : Int) (n1 n2 : Bool) (d1 d2 : Bs) (q : Option Addr) (ln cap : Nat) (r : Int × Int × Int) (hr : ctlRead n1 n2 d1 d2 ln o = r) (hd1 : d1.length ≤ 140737488355328) (hd2 : d2.length ≤ 140737488355328) {W0 w : World} {K : Know} {L : List Res} (h : St W0 w K L) :
    Calls Tryz.prog 32 #[.agg #[.int .i64 t, .int .i64 o, .bool n1, .string (bb d1), .bool n2, .string (bb d2), (.slice q ln cap)]] w fun en w' => en = .returned (.tuple #[.int .i64 r.1, .int .i64 r.2.1, .int .i64 r.2.2]) ∧ St W0 w' K L := by
  have h0 := h.allocRaw #[.int .i64 t, .int .i64 o, .bool n1, .string (bb d1), .bool n2, .string (bb d2), (.slice q ln cap)] 45
  obtain ⟨wA, hwA⟩ : ∃ b, w.heap.size = b := ⟨_, rfl⟩
  rw [hwA] at h0
  have H := Lib.hid h0
  have HD1 := Lib.hid hd1
  have HD2 := Lib.hid hd2
  obtain ⟨ac0, ac1, ac2, ac3, ac4, ac5, ac6, af0, af1, af2, af3, af4, af5, af6⟩ := raw7 (b := wA) (H.out)
  clear h h0 hd1 hd2
  unfold ctlRead at hr
  by_cases g1 : n1 = true
  · rw [if_pos (.inl g1)] at hr
    subst hr g1
    go_enter Tryz.func32, Tryz.ntmps32
    go_wp2
    go_ret3
    exact ⟨rfl, H.out.drop⟩
  by_cases g2 : n2 = true
  · rw [if_pos (.inr (.inl g2))] at hr
    subst hr g2
    obtain rfl : n1 = false := by simpa using g1
    clear g1
    go_enter Tryz.func32, Tryz.ntmps32
    go_wp2
    go_ret3
    exact ⟨rfl, H.out.drop⟩
  obtain rfl : n1 = false := by simpa using g1
  obtain rfl : n2 = false := by simpa using g2
  clear g1 g2
  by_cases g3 : (ln : Int) ≠ 0
  · rw [if_pos (.inr (.inr (.inl g3)))] at hr
    subst hr
    have b1 : ((ln : Int) != 0) = true := by simpa using g3
    have b2 : decide (0 < ln) = true := decide_eq_true (by omega)
    have b3 : decide ((0 : Int) < ln) = true := decide_eq_true (by omega)
    have b4 : 0 < ln := by omega
    clear g3
    go_enter Tryz.func32, Tryz.ntmps32
    go_wp2
    go_ret3
    exact ⟨rfl, H.out.drop⟩
  obtain rfl : ln = 0 := by omega
  clear g3
  by_cases g4 : o ≠ 0
  · rw [if_pos (.inr (.inr (.inr g4)))] at hr
    subst hr
    have b1 : (o != 0) = true := by simpa using g4
    clear g4
    go_enter Tryz.func32, Tryz.ntmps32
    go_wp2
    go_ret3
    exact ⟨rfl, H.out.drop⟩
  obtain rfl : o = 0 := by simpa using g4
  clear g4
  rw [if_neg (by simp)] at hr
  obtain ⟨a, ha⟩ : ∃ a, verRd 2 way 12 d1 = a := ⟨_, rfl⟩
  obtain ⟨b, hb⟩ : ∃ b, verRd 4 time0 11 d2 = b := ⟨_, rfl⟩
  rw [ha, hb] at hr
  have EA := Lib.hid ha
  have EB := Lib.hid hb
  clear ha hb
  by_cases g5 : a.2 ≠ 0
  · rw [if_pos g5] at hr
    subst hr
    have b1 : (a.2 != 0) = true := by simpa using g5
    clear g5
    go_enter Tryz.func32, Tryz.ntmps32
    go_wp2_with (first
      | (go_at_call 63; refine (ref08_readKey d1 a EA.out HD1.out H.out).mono ?_; rintro e wn ⟨rfl, h⟩; replace H := Lib.hid h; clear h; obtain ⟨ac0, ac1, ac2, ac3, ac4, ac5, ac6, af0, af1, af2, af3, af4, af5, af6⟩ := raw7 (b := wA) (H.out)))
    go_ret3
    exact ⟨rfl, H.out.drop⟩
  rw [if_neg g5] at hr
  have b1 : (a.2 != 0) = false := by simpa using g5
  clear g5
  by_cases g6 : b.2 ≠ 0
  · rw [if_pos g6] at hr
    subst hr
    have b2 : (b.2 != 0) = true := by simpa using g6
    clear g6
    go_enter Tryz.func32, Tryz.ntmps32
    go_wp2_with (first
      | (go_at_call 63; refine (ref08_readKey d1 a EA.out HD1.out H.out).mono ?_; rintro e wn ⟨rfl, h⟩; replace H := Lib.hid h; clear h; obtain ⟨ac0, ac1, ac2, ac3, ac4, ac5, ac6, af0, af1, af2, af3, af4, af5, af6⟩ := raw7 (b := wA) (H.out))
      | (go_at_call 64; refine (ref08_readValue d2 b EB.out HD2.out H.out).mono ?_; rintro e wn ⟨rfl, h⟩; replace H := Lib.hid h; clear h; obtain ⟨ac0, ac1, ac2, ac3, ac4, ac5, ac6, af0, af1, af2, af3, af4, af5, af6⟩ := raw7 (b := wA) (H.out)))
    go_ret3
    exact ⟨rfl, H.out.drop⟩
  rw [if_neg g6] at hr
  subst hr
  have b2 : (b.2 != 0) = false := by simpa using g6
  clear g6
  go_enter Tryz.func32, Tryz.ntmps32
  go_wp2_with (first
    | (go_at_call 63; refine (ref08_readKey d1 a EA.out HD1.out H.out).mono ?_; rintro e wn ⟨rfl, h⟩; replace H := Lib.hid h; clear h; obtain ⟨ac0, ac1, ac2, ac3, ac4, ac5, ac6, af0, af1, af2, af3, af4, af5, af6⟩ := raw7 (b := wA) (H.out))
    | (go_at_call 64; refine (ref08_readValue d2 b EB.out HD2.out H.out).mono ?_; rintro e wn ⟨rfl, h⟩; replace H := Lib.hid h; clear h; obtain ⟨ac0, ac1, ac2, ac3, ac4, ac5, ac6, af0, af1, af2, af3, af4, af5, af6⟩ := raw7 (b := wA) (H.out)))
  go_ret3
  exact ⟨rfl, H.out.drop⟩

end Go.Proofs.YtcjgdlfcfcabiaaGreat

/- Batches (pure): which may be. -/
namespace Go.Proofs.YtcjgdlfcfcabiaaGreat
open Go.RowKit

structure BatS where
  base : Int
  leader : Int
  app : Bool
  txn : Bool
  ctl : Bool
  last : Int
  first : Int
  maxt : Int
  prod : Int
  epoch : Int
  seq : Int
  recs : List RecS
deriving DecidableEq
def BatS.zero : BatS := ⟨0, 0, false, false, false, 0, 0, 0, 0, 0, 0, []⟩
def Rn (n : Int) : Prop := -9223372036854775808 ≤ n ∧ n < 9223372036854775808
def BatS.R (b : BatS) : Prop := Rn b.base ∧ Rn b.leader ∧ Rn b.last ∧ Rn b.first ∧ Rn b.maxt ∧ Rn b.prod ∧ Rn b.epoch ∧ Rn b.seq
def BatS.placed (b : BatS) : Bool := decide (0 ≤ b.base ∧ (-1 ≤ b.leader ∧ b.leader ≤ 2147483647) ∧ (0 ≤ b.last ∧ b.last ≤ 2147483647) ∧ b.base ≤ 9223372036854775807 - b.last ∧ 0 ≤ b.first ∧ 0 ≤ b.maxt)
def BatS.signed (b : BatS) : Bool :=
  if b.prod = -1 then decide (b.epoch = -1 ∧ b.seq = -1 ∧ b.txn = false)
  else if b.prod < 0 ∨ ¬ (0 ≤ b.epoch ∧ b.epoch ≤ 32767) then false
  else if b.ctl then decide (b.seq = -1)
  else decide (0 ≤ b.seq ∧ b.seq ≤ 2147483647)
/-- The greatest time of records behind a first one, or why their places and times may not be. -/
def rowsC (first last : Int) : List RecS → Int → Int → Except Int Int
  | [], _, g => .ok g
  | r :: t, ah, g => if r.off ≤ ah ∨ last < r.off then .error 13 else if r.time < -first ∨ 9223372036854775807 - first < r.time then .error 11 else rowsC first last t r.off (max g (first + r.time))
def rowsE (app : Bool) (maxt : Int) (r : Except Int Int) : Int := match r with
  | .error e => e
  | .ok g => if app = false ∧ maxt ≠ g then 11 else 0
def BatS.rows (b : BatS) : Int := rowsE b.app b.maxt (rowsC b.first b.last b.recs (-1) b.first)
def recsC : List RecS → Int
  | [] => 0
  | r :: t => if recOk r = 0 then recsC t else recOk r
def ctlOf (r : RecS) : Int × Int × Int := ctlRead r.key.null r.val.null r.key.data r.val.data r.hdrs.length r.off
def BatS.ends (b : BatS) : Int := match b.recs with | [] => 0 | r :: _ => (ctlOf r).2.2
def batErr (b : BatS) : Int :=
  if b.placed = false then 11
  else if b.ctl = true ∧ b.txn = false then 8
  else if b.signed = false then 11
  else if b.ctl = true ∧ b.recs.length ≠ 1 then 10
  else if recsC b.recs ≠ 0 then recsC b.recs
  else if b.ctl = true ∧ b.ends ≠ 0 then b.ends
  else b.rows

end Go.Proofs.YtcjgdlfcfcabiaaGreat

/- Batches (pure): rows. -/
namespace Go.Proofs.YtcjgdlfcfcabiaaGreat
open Go.RowKit

def FitB (l : List (RecS × Value)) : Prop := ∀ x ∈ l, x.1.R ∧ HFit x.1.hdrs ∧ x.1.sum ≤ 1000000
theorem sum_hdrs {x : RecS} (h : x.sum ≤ 1000000) : x.hdrs.length ≤ 1000000 := by have := hsum_le x.hdrs; unfold RecS.sum at h; omega
theorem sum_data {x : RecS} (h : x.sum ≤ 1000000) : x.key.data.length ≤ 140737488355328 ∧ x.val.data.length ≤ 140737488355328 := by unfold RecS.sum at h; omega
theorem drop_recs (l : List (RecS × Value)) (k : Nat) (h : k < l.length) (x : RecS) (hx : l[k].1 = x) : (l.map (·.1)).drop k = x :: (l.map (·.1)).drop (k + 1) := by
  subst hx
  rw [List.drop_eq_getElem_cons (by simpa using h), List.getElem_map]
def GOf (r : Except Int Int) : Int := match r with | .ok g => g | .error _ => 0
theorem rowsC_cons (first last : Int) (r : RecS) (t : List RecS) (ah g : Int) : rowsC first last (r :: t) ah g = if r.off ≤ ah ∨ last < r.off then .error 13 else if r.time < -first ∨ 9223372036854775807 - first < r.time then .error 11 else rowsC first last t r.off (max g (first + r.time)) := rfl

end Go.Proofs.YtcjgdlfcfcabiaaGreat

/- Things of one's own, picked. -/
namespace Go.Proofs.YtcjgdlfcfcabiaaGreat
open Go.RowKit

/-- Some of the things, in another order: each index is one into what is left. -/
def selL {α : Type} : List Nat → List α → List α
  | [], _ => []
  | i :: t, L => match L[i]? with
    | some x => x :: selL t (L.eraseIdx i)
    | none => selL t L
theorem erase_perm {α : Type} : ∀ (L : List α) (i : Nat) (hi : i < L.length), L.Perm (L[i] :: L.eraseIdx i)
  | [], _, hi => absurd hi (by simp)
  | x :: t, 0, _ => List.Perm.refl _
  | x :: t, i + 1, hi => ((erase_perm t i (by simpa using hi)).cons x).trans (List.Perm.swap _ _ _)
theorem Holds.perm {w : World} {L L' : List Res} (p : L.Perm L') : ∀ {S : Nat → Prop}, Holds L w S → Holds L' w S := by
  induction p with
  | nil => exact fun h => h
  | cons x _ ih => exact fun h => h.cons fun _ => ih
  | swap x y l => exact fun h => Holds.swap h
  | trans _ _ ih1 ih2 => exact fun h => ih2 (ih1 h)
theorem Holds.sel {w : World} : ∀ (ix : List Nat) {L : List Res} {S : Nat → Prop}, Holds L w S → ∃ S', Holds (selL ix L) w S' ∧ ∀ k, S' k → S k
  | [], _, _, _ => ⟨fun _ => False, fun _ h => h, fun _ h => h.elim⟩
  | i :: t, L, S, h => by
    unfold selL
    by_cases hi : i < L.length
    · rw [List.getElem?_eq_getElem hi]
      obtain ⟨S1, S2, h1, h2, h3, h4⟩ := Holds.perm (erase_perm L i hi) h
      obtain ⟨S', g1, g2⟩ := Holds.sel t h2
      exact ⟨fun k => S1 k ∨ S' k, ⟨S1, S', h1, g1, fun k a b => h3 k a (g2 k b), fun _ => Iff.rfl⟩, fun k hk => (h4 k).2 (hk.imp id (g2 k))⟩
    · rw [List.getElem?_eq_none (by omega)]
      exact Holds.sel t h
theorem St.sel {W0 w : World} {K : Know} {L : List Res} (h : St W0 w K L) (ix : List Nat) : St W0 w K (selL ix L) := by
  obtain ⟨a, S, F, b, c, d, e⟩ := h
  obtain ⟨S', g1, g2⟩ := Holds.sel ix b
  exact ⟨a, S', F, g1, fun k hk => c k (g2 k hk), d, fun k hk => ⟨(e k hk).1, fun h => (e k hk).2 (g2 k h)⟩⟩

end Go.Proofs.YtcjgdlfcfcabiaaGreat

/- Contracts of package prefix: writing. -/
namespace Go.Proofs.YtcjgdlfcfcabiaaGreat
open Go.RowKit

/-- The numbers of a prefix. -/
structure PreS where
  base : Int
  len : Int
  leader : Int
  sum : Int
  attr : Int
  last : Int
  first : Int
  maxt : Int
  prod : Int
  epoch : Int
  seq : Int
  count : Int
deriving DecidableEq
def pv (x : PreS) : Value := .agg #[.int .i64 x.base, .int .i64 x.len, .int .i64 x.leader, .int .i64 x.sum, .int .i64 x.attr, .int .i64 x.last, .int .i64 x.first, .int .i64 x.maxt, .int .i64 x.prod, .int .i64 x.epoch, .int .i64 x.seq, .int .i64 x.count]
def PreS.list (x : PreS) : List Int := [x.base, x.len, x.leader, x.sum, x.attr, x.last, x.first, x.maxt, x.prod, x.epoch, x.seq, x.count]
def PreS.R (x : PreS) : Prop := ∀ n ∈ x.list, -9223372036854775808 ≤ n ∧ n < 9223372036854775808
def PreS.zero : PreS := ⟨0, 0, 0, 0, 0, 0, 0, 0, 0, 0, 0, 0⟩
/-- A number without a sign, as one with: beyond all, where it doesn't fit. -/
def sumItem (n : Int) : Int := if n < 0 ∨ 4294967295 < n then 4294967296 else if 2147483647 < n then n - 4294967296 else n
def PreS.items (x : PreS) : List (Int × Nat) := [(x.base, 8), (x.len, 4), (x.leader, 4), (2, 1), (sumItem x.sum, 4), (x.attr, 2), (x.last, 4), (x.first, 8), (x.maxt, 8), (x.prod, 8), (x.epoch, 2), (x.seq, 4), (x.count, 4)]
def preSizes : List Nat := [8, 4, 4, 1, 4, 2, 4, 8, 8, 8, 2, 4, 4]
theorem sumItem_range (n : Int) : -9223372036854775808 ≤ sumItem n ∧ sumItem n < 9223372036854775808 := by
  unfold sumItem; split
  · omega
  · split <;> omega
theorem wrap32_sum (n : Int) (h0 : ¬ n < 0) (h1 : ¬ 4294967295 < n) : wrap32 n = sumItem n := by
  have e : wrap32 n = (n + 2147483648) % 4294967296 - 2147483648 := by unfold wrap32; rfl
  rw [e]
  unfold sumItem
  rw [if_neg (by omega)]
  split <;> omega
theorem OutS.okI {o : OutS} {a b : Int} {m : Nat} (h : o.ok (m + 8)) : (o.int a b).ok m := OutS.ok_int h (by omega)
theorem OutS.int_bad (o : OutS) (n : Int) (h : n < 0 ∨ 4294967295 < n) : o.int (sumItem n) 4 = o.fail 11 := by
  have e : sumItem n = 4294967296 := if_pos h
  rw [e]
  unfold OutS.int
  rw [if_neg (by decide)]

set_option maxHeartbeats 1000000 in
set_option maxRecDepth 100000 in
theorem prefix_putSum (p : Nat) (o : OutS) (n : Int) (hn : -9223372036854775808 ≤ n ∧ n < 9223372036854775808) {W0 w : World} {K : Know} {L : List Res} (h : St W0 w K (.out p o :: L)) (hr : o.ok 8) :
    Calls Tryz.prog 90 #[outPtr p, .int .i64 n] w fun en w' => en = .returned (.tuple #[]) ∧ St W0 w' K (.out p (o.int (sumItem n) 4) :: L) := by
  have H := Lib.hid h
  have HR := Lib.hid hr
  clear h hr
  by_cases h0 : n < 0
  · have E := Lib.hid (OutS.int_bad o n (.inl h0)).symm
    clear hn
    go_enter Tryz.func90, Tryz.ntmps90
    go_wp2_with (go_at_call 86; refine (so_fail _ _ _ (by first | (first | with_reducible exact H.out | with_reducible exact H.out.p1 | with_reducible exact H.out.p2 | with_reducible exact H.out.p3 | with_reducible exact H.out.p4 | with_reducible exact H.out.p5) | ((repeat first | with_reducible refine St.drewN ?_ _ | with_reducible refine St.drew ?_ | with_reducible refine St.alloc ?_ _); first | with_reducible exact H.out | with_reducible exact H.out.p1 | with_reducible exact H.out.p2 | with_reducible exact H.out.p3 | with_reducible exact H.out.p4 | with_reducible exact H.out.p5))).mono ?_; (repeat first | rw [E.out]); rintro e wn ⟨rfl, h⟩; replace H := Lib.hid h; clear h)
    refine bodyPost_ret (results_none rfl _ _ _) rfl ⟨rfl, H.out⟩
  by_cases h1 : 4294967295 < n
  · have E := Lib.hid (OutS.int_bad o n (.inr h1)).symm
    clear hn
    go_enter Tryz.func90, Tryz.ntmps90
    go_wp2_with (go_at_call 86; refine (so_fail _ _ _ (by first | (first | with_reducible exact H.out | with_reducible exact H.out.p1 | with_reducible exact H.out.p2 | with_reducible exact H.out.p3 | with_reducible exact H.out.p4 | with_reducible exact H.out.p5) | ((repeat first | with_reducible refine St.drewN ?_ _ | with_reducible refine St.drew ?_ | with_reducible refine St.alloc ?_ _); first | with_reducible exact H.out | with_reducible exact H.out.p1 | with_reducible exact H.out.p2 | with_reducible exact H.out.p3 | with_reducible exact H.out.p4 | with_reducible exact H.out.p5))).mono ?_; (repeat first | rw [E.out]); rintro e wn ⟨rfl, h⟩; replace H := Lib.hid h; clear h)
    refine bodyPost_ret (results_none rfl _ _ _) rfl ⟨rfl, H.out⟩
  · have HW2 := Lib.hid (wrap32_sum n h0 h1)
    have HS := Lib.hid (sumItem_range n)
    have HS2 := Lib.hid (wrap64_in _ HS.out.1 HS.out.2)
    clear hn
    go_enter Tryz.func90, Tryz.ntmps90
    go_wp2_with (go_at_call 89; rw [show wrap64 (wrap32 n) = sumItem n from by rw [HW2.out]; exact HS2.out]; refine (so_int _ _ _ _ HS.out H.out HR.out).mono ?_; rintro e wn ⟨rfl, h⟩; replace H := Lib.hid h; clear h)
    go_end0
    exact ⟨rfl, H.out⟩

set_option maxHeartbeats 1000000 in
set_option maxRecDepth 100000 in
theorem prefix_write (p : Nat) (o : OutS) (x : PreS) (hx : x.R) {W0 w : World} {K : Know} {L : List Res} (h : St W0 w K (.out p o :: L)) (hr : o.ok 200) :
    Calls Tryz.prog 58 #[outPtr p, pv x] w fun en w' => en = .returned (.tuple #[]) ∧ St W0 w' K (.out p (o.ints x.items) :: L) := by
  have H := Lib.hid (h.allocRaw #[.int .i64 x.base, .int .i64 x.len, .int .i64 x.leader, .int .i64 x.sum, .int .i64 x.attr, .int .i64 x.last, .int .i64 x.first, .int .i64 x.maxt, .int .i64 x.prod, .int .i64 x.epoch, .int .i64 x.seq, .int .i64 x.count] 62).p1
  have HR := Lib.hid hr
  have N0 := Lib.hid (hx x.base (by simp [PreS.list]))
  have N1 := Lib.hid (hx x.len (by simp [PreS.list]))
  have N2 := Lib.hid (hx x.leader (by simp [PreS.list]))
  have N3 := Lib.hid (hx x.sum (by simp [PreS.list]))
  have N4 := Lib.hid (hx x.attr (by simp [PreS.list]))
  have N5 := Lib.hid (hx x.last (by simp [PreS.list]))
  have N6 := Lib.hid (hx x.first (by simp [PreS.list]))
  have N7 := Lib.hid (hx x.maxt (by simp [PreS.list]))
  have N8 := Lib.hid (hx x.prod (by simp [PreS.list]))
  have N9 := Lib.hid (hx x.epoch (by simp [PreS.list]))
  have N10 := Lib.hid (hx x.seq (by simp [PreS.list]))
  have N11 := Lib.hid (hx x.count (by simp [PreS.list]))
  have HS := Lib.hid (sumItem_range x.sum)
  clear h hr hx
  go_enter Tryz.func58, Tryz.ntmps58
  unfold pv
  go_wp2_with (first
    | (go_at_call 89; refine (so_int _ _ _ _ (by first | exact N0.out | exact N1.out | exact N2.out | exact N3.out | exact N4.out | exact N5.out | exact N6.out | exact N7.out | exact N8.out | exact N9.out | exact N10.out | exact N11.out | decide) (by first | (first | with_reducible exact H.out | with_reducible exact H.out.p1 | with_reducible exact H.out.p2 | with_reducible exact H.out.p3 | with_reducible exact H.out.p4 | with_reducible exact H.out.p5) | ((repeat first | with_reducible refine St.drewN ?_ _ | with_reducible refine St.drew ?_ | with_reducible refine St.alloc ?_ _); first | with_reducible exact H.out | with_reducible exact H.out.p1 | with_reducible exact H.out.p2 | with_reducible exact H.out.p3 | with_reducible exact H.out.p4 | with_reducible exact H.out.p5)) (by repeat (first | exact OutS.ok_mono HR.out (by decide) | with_reducible refine OutS.okI ?_))).mono ?_; rintro e wn ⟨rfl, h⟩; replace H := Lib.hid h; clear h; have c0 := H.out.cellOf (b := w.heap.size) (c := #[.int .i64 x.base, .int .i64 x.len, .int .i64 x.leader, .int .i64 x.sum, .int .i64 x.attr, .int .i64 x.last, .int .i64 x.first, .int .i64 x.maxt, .int .i64 x.prod, .int .i64 x.epoch, .int .i64 x.seq, .int .i64 x.count]) (T := 62) (by simp) 0; have c1 := H.out.cellOf (b := w.heap.size) (c := #[.int .i64 x.base, .int .i64 x.len, .int .i64 x.leader, .int .i64 x.sum, .int .i64 x.attr, .int .i64 x.last, .int .i64 x.first, .int .i64 x.maxt, .int .i64 x.prod, .int .i64 x.epoch, .int .i64 x.seq, .int .i64 x.count]) (T := 62) (by simp) 1; have c2 := H.out.cellOf (b := w.heap.size) (c := #[.int .i64 x.base, .int .i64 x.len, .int .i64 x.leader, .int .i64 x.sum, .int .i64 x.attr, .int .i64 x.last, .int .i64 x.first, .int .i64 x.maxt, .int .i64 x.prod, .int .i64 x.epoch, .int .i64 x.seq, .int .i64 x.count]) (T := 62) (by simp) 2; have c3 := H.out.cellOf (b := w.heap.size) (c := #[.int .i64 x.base, .int .i64 x.len, .int .i64 x.leader, .int .i64 x.sum, .int .i64 x.attr, .int .i64 x.last, .int .i64 x.first, .int .i64 x.maxt, .int .i64 x.prod, .int .i64 x.epoch, .int .i64 x.seq, .int .i64 x.count]) (T := 62) (by simp) 3; have c4 := H.out.cellOf (b := w.heap.size) (c := #[.int .i64 x.base, .int .i64 x.len, .int .i64 x.leader, .int .i64 x.sum, .int .i64 x.attr, .int .i64 x.last, .int .i64 x.first, .int .i64 x.maxt, .int .i64 x.prod, .int .i64 x.epoch, .int .i64 x.seq, .int .i64 x.count]) (T := 62) (by simp) 4; have c5 := H.out.cellOf (b := w.heap.size) (c := #[.int .i64 x.base, .int .i64 x.len, .int .i64 x.leader, .int .i64 x.sum, .int .i64 x.attr, .int .i64 x.last, .int .i64 x.first, .int .i64 x.maxt, .int .i64 x.prod, .int .i64 x.epoch, .int .i64 x.seq, .int .i64 x.count]) (T := 62) (by simp) 5; have c6 := H.out.cellOf (b := w.heap.size) (c := #[.int .i64 x.base, .int .i64 x.len, .int .i64 x.leader, .int .i64 x.sum, .int .i64 x.attr, .int .i64 x.last, .int .i64 x.first, .int .i64 x.maxt, .int .i64 x.prod, .int .i64 x.epoch, .int .i64 x.seq, .int .i64 x.count]) (T := 62) (by simp) 6; have c7 := H.out.cellOf (b := w.heap.size) (c := #[.int .i64 x.base, .int .i64 x.len, .int .i64 x.leader, .int .i64 x.sum, .int .i64 x.attr, .int .i64 x.last, .int .i64 x.first, .int .i64 x.maxt, .int .i64 x.prod, .int .i64 x.epoch, .int .i64 x.seq, .int .i64 x.count]) (T := 62) (by simp) 7; have c8 := H.out.cellOf (b := w.heap.size) (c := #[.int .i64 x.base, .int .i64 x.len, .int .i64 x.leader, .int .i64 x.sum, .int .i64 x.attr, .int .i64 x.last, .int .i64 x.first, .int .i64 x.maxt, .int .i64 x.prod, .int .i64 x.epoch, .int .i64 x.seq, .int .i64 x.count]) (T := 62) (by simp) 8; have c9 := H.out.cellOf (b := w.heap.size) (c := #[.int .i64 x.base, .int .i64 x.len, .int .i64 x.leader, .int .i64 x.sum, .int .i64 x.attr, .int .i64 x.last, .int .i64 x.first, .int .i64 x.maxt, .int .i64 x.prod, .int .i64 x.epoch, .int .i64 x.seq, .int .i64 x.count]) (T := 62) (by simp) 9; have c10 := H.out.cellOf (b := w.heap.size) (c := #[.int .i64 x.base, .int .i64 x.len, .int .i64 x.leader, .int .i64 x.sum, .int .i64 x.attr, .int .i64 x.last, .int .i64 x.first, .int .i64 x.maxt, .int .i64 x.prod, .int .i64 x.epoch, .int .i64 x.seq, .int .i64 x.count]) (T := 62) (by simp) 10; have c11 := H.out.cellOf (b := w.heap.size) (c := #[.int .i64 x.base, .int .i64 x.len, .int .i64 x.leader, .int .i64 x.sum, .int .i64 x.attr, .int .i64 x.last, .int .i64 x.first, .int .i64 x.maxt, .int .i64 x.prod, .int .i64 x.epoch, .int .i64 x.seq, .int .i64 x.count]) (T := 62) (by simp) 11; simp at c0 c1 c2 c3 c4 c5 c6 c7 c8 c9 c10 c11)
    | (go_at_call 90; refine (prefix_putSum _ _ _ (by first | exact N0.out | exact N1.out | exact N2.out | exact N3.out | exact N4.out | exact N5.out | exact N6.out | exact N7.out | exact N8.out | exact N9.out | exact N10.out | exact N11.out | decide) (by first | (first | with_reducible exact H.out | with_reducible exact H.out.p1 | with_reducible exact H.out.p2 | with_reducible exact H.out.p3 | with_reducible exact H.out.p4 | with_reducible exact H.out.p5) | ((repeat first | with_reducible refine St.drewN ?_ _ | with_reducible refine St.drew ?_ | with_reducible refine St.alloc ?_ _); first | with_reducible exact H.out | with_reducible exact H.out.p1 | with_reducible exact H.out.p2 | with_reducible exact H.out.p3 | with_reducible exact H.out.p4 | with_reducible exact H.out.p5)) (by repeat (first | exact OutS.ok_mono HR.out (by decide) | with_reducible refine OutS.okI ?_))).mono ?_; rintro e wn ⟨rfl, h⟩; replace H := Lib.hid h; clear h; have c0 := H.out.cellOf (b := w.heap.size) (c := #[.int .i64 x.base, .int .i64 x.len, .int .i64 x.leader, .int .i64 x.sum, .int .i64 x.attr, .int .i64 x.last, .int .i64 x.first, .int .i64 x.maxt, .int .i64 x.prod, .int .i64 x.epoch, .int .i64 x.seq, .int .i64 x.count]) (T := 62) (by simp) 0; have c1 := H.out.cellOf (b := w.heap.size) (c := #[.int .i64 x.base, .int .i64 x.len, .int .i64 x.leader, .int .i64 x.sum, .int .i64 x.attr, .int .i64 x.last, .int .i64 x.first, .int .i64 x.maxt, .int .i64 x.prod, .int .i64 x.epoch, .int .i64 x.seq, .int .i64 x.count]) (T := 62) (by simp) 1; have c2 := H.out.cellOf (b := w.heap.size) (c := #[.int .i64 x.base, .int .i64 x.len, .int .i64 x.leader, .int .i64 x.sum, .int .i64 x.attr, .int .i64 x.last, .int .i64 x.first, .int .i64 x.maxt, .int .i64 x.prod, .int .i64 x.epoch, .int .i64 x.seq, .int .i64 x.count]) (T := 62) (by simp) 2; have c3 := H.out.cellOf (b := w.heap.size) (c := #[.int .i64 x.base, .int .i64 x.len, .int .i64 x.leader, .int .i64 x.sum, .int .i64 x.attr, .int .i64 x.last, .int .i64 x.first, .int .i64 x.maxt, .int .i64 x.prod, .int .i64 x.epoch, .int .i64 x.seq, .int .i64 x.count]) (T := 62) (by simp) 3; have c4 := H.out.cellOf (b := w.heap.size) (c := #[.int .i64 x.base, .int .i64 x.len, .int .i64 x.leader, .int .i64 x.sum, .int .i64 x.attr, .int .i64 x.last, .int .i64 x.first, .int .i64 x.maxt, .int .i64 x.prod, .int .i64 x.epoch, .int .i64 x.seq, .int .i64 x.count]) (T := 62) (by simp) 4; have c5 := H.out.cellOf (b := w.heap.size) (c := #[.int .i64 x.base, .int .i64 x.len, .int .i64 x.leader, .int .i64 x.sum, .int .i64 x.attr, .int .i64 x.last, .int .i64 x.first, .int .i64 x.maxt, .int .i64 x.prod, .int .i64 x.epoch, .int .i64 x.seq, .int .i64 x.count]) (T := 62) (by simp) 5; have c6 := H.out.cellOf (b := w.heap.size) (c := #[.int .i64 x.base, .int .i64 x.len, .int .i64 x.leader, .int .i64 x.sum, .int .i64 x.attr, .int .i64 x.last, .int .i64 x.first, .int .i64 x.maxt, .int .i64 x.prod, .int .i64 x.epoch, .int .i64 x.seq, .int .i64 x.count]) (T := 62) (by simp) 6; have c7 := H.out.cellOf (b := w.heap.size) (c := #[.int .i64 x.base, .int .i64 x.len, .int .i64 x.leader, .int .i64 x.sum, .int .i64 x.attr, .int .i64 x.last, .int .i64 x.first, .int .i64 x.maxt, .int .i64 x.prod, .int .i64 x.epoch, .int .i64 x.seq, .int .i64 x.count]) (T := 62) (by simp) 7; have c8 := H.out.cellOf (b := w.heap.size) (c := #[.int .i64 x.base, .int .i64 x.len, .int .i64 x.leader, .int .i64 x.sum, .int .i64 x.attr, .int .i64 x.last, .int .i64 x.first, .int .i64 x.maxt, .int .i64 x.prod, .int .i64 x.epoch, .int .i64 x.seq, .int .i64 x.count]) (T := 62) (by simp) 8; have c9 := H.out.cellOf (b := w.heap.size) (c := #[.int .i64 x.base, .int .i64 x.len, .int .i64 x.leader, .int .i64 x.sum, .int .i64 x.attr, .int .i64 x.last, .int .i64 x.first, .int .i64 x.maxt, .int .i64 x.prod, .int .i64 x.epoch, .int .i64 x.seq, .int .i64 x.count]) (T := 62) (by simp) 9; have c10 := H.out.cellOf (b := w.heap.size) (c := #[.int .i64 x.base, .int .i64 x.len, .int .i64 x.leader, .int .i64 x.sum, .int .i64 x.attr, .int .i64 x.last, .int .i64 x.first, .int .i64 x.maxt, .int .i64 x.prod, .int .i64 x.epoch, .int .i64 x.seq, .int .i64 x.count]) (T := 62) (by simp) 10; have c11 := H.out.cellOf (b := w.heap.size) (c := #[.int .i64 x.base, .int .i64 x.len, .int .i64 x.leader, .int .i64 x.sum, .int .i64 x.attr, .int .i64 x.last, .int .i64 x.first, .int .i64 x.maxt, .int .i64 x.prod, .int .i64 x.epoch, .int .i64 x.seq, .int .i64 x.count]) (T := 62) (by simp) 11; simp at c0 c1 c2 c3 c4 c5 c6 c7 c8 c9 c10 c11))
  go_end0
  exact ⟨rfl, H.out.p1.drop⟩

end Go.Proofs.YtcjgdlfcfcabiaaGreat
