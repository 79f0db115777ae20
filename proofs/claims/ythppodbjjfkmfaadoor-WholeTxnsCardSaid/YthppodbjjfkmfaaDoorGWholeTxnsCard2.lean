/- Requests of transactions: what is wrong with them. -/
import Derived.Test.YthppodbjjfkmfaaDoorBlobP
import Derived.Test.YthppodbjjfkmfaaDoorBlob1
import Derived.Test.YthppodbjjfkmfaaDoorBlob2
import Derived.Test.YthppodbjjfkmfaaDoorGWholeTxnsCard1
import Derived.Test.YthppodbjjfkmfaaDoorRef04
import Derived.Deep.RegionHeld3
import Derived.Deep.DeepCutAuto
import Derived.Test.YthppodbjjfkmfaaDoorSep
import Derived.Deep.MidRow
import Derived.Test.YthppodbjjfkmfaaDoorRef04b
import Derived.IntWalk
import Derived.Test.YthppodbjjfkmfaaDoorRec1
import Derived.Test.YthppodbjjfkmfaaDoorRecP
import Derived.Test.YthppodbjjfkmfaaDoorRecs
/- The bytes of control records (pure). -/
namespace Go.Proofs.YthppodbjjfkmfaaDoor
open Go.RowKit

/-- A number of so many bytes, behind the version. -/
def verB (n : Int) (k : Nat) : Bs := beBytes 0 2 ++ beBytes n k
def ctlKey (k : Int) : Bs × Int := if k = 0 ∨ k = 1 then (verB k 2, 0) else ([], 12)
def ctlVal (n : Int) : Bs × Int := if 0 ≤ n ∧ n < 2147483648 then (verB n 4, 0) else ([], 11)
/-- Of bytes the number behind the version. -/
def verRd (k : Nat) (ok : Int → Bool) (e : Int) (s : Bs) : Int × Int :=
  if s.length < 2 then (0, 1) else if sInt (s.take 2) ≠ 0 then (0, 7) else if s.length < 2 + k then (0, 1)
  else if ok (sInt ((s.drop 2).take k)) = false then (0, e) else if 2 + k < s.length then (0, 2) else (sInt ((s.drop 2).take k), 0)
def verA (s : Bs) : Int × InS := (⟨s, 0, 0⟩ : InS).int 2
def verI (s : Bs) : InS := if (verA s).1 = 0 then (verA s).2 else (verA s).2.fail 7
def verJ (k : Nat) (ok : Int → Bool) (e : Int) (s : Bs) : InS := if ok ((verI s).int k).1 = true then ((verI s).int k).2 else ((verI s).int k).2.fail e
def verD (k : Nat) (ok : Int → Bool) (e : Int) (s : Bs) : Int × Int := if (verJ k ok e s).close.err = 0 then (((verI s).int k).1, 0) else (0, (verJ k ok e s).close.err)
theorem close_stuckC {i : InS} (h : i.err ≠ 0) : i.close = i := by
  unfold InS.close
  split
  · exact if_neg h
  · rfl
theorem verD_bad {k : Nat} {ok : Int → Bool} {e x : Int} {s : Bs} (hx : x ≠ 0) (h : (verJ k ok e s).err = x) : verD k ok e s = (0, x) := by
  subst h
  unfold verD
  rw [close_stuckC hx, if_neg hx]
theorem verJ_stuck {k : Nat} {ok : Int → Bool} {e x : Int} {s : Bs} (h1 : 1 ≤ k) (h8 : k ≤ 8) (hx : x ≠ 0) (h : (verI s).err = x) : (verJ k ok e s).err = x := by
  subst h
  have h2 : (verI s).int k = (0, verI s) := (rds_intN k h1 h8).stuck (verI s) hx
  unfold verJ
  rw [h2]
  split
  · rfl
  · rw [show (verI s).fail e = verI s from if_neg hx]
theorem verD_eq (k : Nat) (ok : Int → Bool) (e : Int) (h1 : 1 ≤ k) (h8 : k ≤ 8) (he : e ≠ 0) (s : Bs) : verD k ok e s = verRd k ok e s := by
  have hi := rds_intN 2 (by decide) (by decide)
  have hk := rds_intN k h1 h8
  unfold verRd
  by_cases c1 : s.length < 2
  · rw [if_pos c1]
    obtain ⟨_, q, _, h3⟩ := hi.err s 0 1 (Nat.zero_le _) (by simp [getIntN, c1])
    have h4 : verA s = (0, ⟨s, q, 1⟩) := h3
    refine verD_bad (by decide) (verJ_stuck h1 h8 (by decide) ?_)
    unfold verI
    rw [h4]
    rfl
  rw [if_neg c1]
  obtain ⟨_, h3⟩ := hi.ok s 0 (sInt (s.take 2)) 2 (Nat.zero_le _) (by simp [getIntN, c1])
  have h4 : verA s = (sInt (s.take 2), ⟨s, 2, 0⟩) := h3
  by_cases c2 : sInt (s.take 2) ≠ 0
  · rw [if_pos c2]
    refine verD_bad (by decide) (verJ_stuck h1 h8 (by decide) ?_)
    unfold verI
    rw [h4, if_neg c2]
    rfl
  rw [if_neg c2]
  have hI : verI s = ⟨s, 2, 0⟩ := by unfold verI; rw [h4, if_pos (by simpa using c2)]
  by_cases c3 : s.length < 2 + k
  · rw [if_pos c3]
    obtain ⟨_, q, _, h7⟩ := hk.err s 2 1 (by omega) (by unfold getIntN; rw [if_pos (by rw [List.length_drop]; omega)])
    have h7 : (verI s).int k = (0, ⟨s, q, 1⟩) := by rw [hI]; exact h7
    refine verD_bad (by decide) ?_
    unfold verJ
    rw [h7]
    split
    · rfl
    · rfl
  rw [if_neg c3]
  obtain ⟨_, h7⟩ := hk.ok s 2 (sInt ((s.drop 2).take k)) k (by omega) (by unfold getIntN; rw [if_neg (by rw [List.length_drop]; omega)])
  have h7 : (verI s).int k = (sInt ((s.drop 2).take k), ⟨s, 2 + k, 0⟩) := by rw [hI]; exact h7
  by_cases c4 : ok (sInt ((s.drop 2).take k)) = false
  · rw [if_pos c4]
    refine verD_bad he ?_
    unfold verJ
    rw [h7]
    rw [if_neg (by rw [c4]; decide)]
    rfl
  rw [if_neg c4]
  have hJ : verJ k ok e s = ⟨s, 2 + k, 0⟩ := by unfold verJ; rw [h7, if_pos (by simpa using c4)]
  by_cases c5 : 2 + k < s.length
  · have hc : (⟨s, 2 + k, 0⟩ : InS).close = ⟨s, 2 + k, 2⟩ := by
      unfold InS.close
      rw [if_pos (show 0 < (⟨s, 2 + k, 0⟩ : InS).left by simp only [InS.left]; omega)]
      rfl
    unfold verD
    rw [if_pos c5, hJ, hc, if_neg (by simp only; decide)]
  · have hc : (⟨s, 2 + k, 0⟩ : InS).close = ⟨s, 2 + k, 0⟩ := by
      unfold InS.close
      rw [if_neg (show ¬ 0 < (⟨s, 2 + k, 0⟩ : InS).left by simp only [InS.left]; omega)]
    unfold verD
    rw [if_neg c5, hJ, hc, if_pos rfl, h7]
def way (n : Int) : Bool := n == 0 || n == 1
def time0 (n : Int) : Bool := decide (0 ≤ n)
theorem verB_len (n : Int) (k : Nat) : (verB n k).length = 2 + k := by unfold verB; simp [beBytes_length]
theorem verB_take (n : Int) (k : Nat) : (verB n k).take 2 = beBytes 0 2 := by unfold verB; rw [List.take_left' (by simp [beBytes_length])]
theorem verB_drop (n : Int) (k : Nat) : (verB n k).drop 2 = beBytes n k := by unfold verB; rw [List.drop_left' (by simp [beBytes_length])]
theorem verRd_back (n : Int) (k : Nat) (ok : Int → Bool) (e : Int) (h1 : 1 ≤ k) (h8 : k ≤ 8) (hf : fits n k) (ho : ok n = true) : verRd k ok e (verB n k) = (n, 0) := by
  have h2 : sInt (beBytes n k) = n := (sInt_beBytes_iff n k h1).2 ⟨hf.2.2.1, hf.2.2.2⟩
  have h3 : (verB n k).length = 2 + k := verB_len n k
  have h4 : ((verB n k).drop 2).take k = beBytes n k := by rw [verB_drop, List.take_of_length_le (by simp [beBytes_length])]
  unfold verRd
  rw [if_neg (by omega), verB_take, if_neg (by decide), if_neg (by omega), h4, h2, if_neg (by rw [ho]; decide), if_neg (by omega)]
theorem ver_text (n : Int) (k : Nat) (h : fits n k) : ((⟨beBytes 0 2, 0⟩ : OutS).int n k).text = (verB n k, 0) := by
  unfold OutS.int
  rw [if_pos h]
  rfl
theorem ver_textN (n : Int) (k : Nat) (h : ¬ fits n k) : ((⟨beBytes 0 2, 0⟩ : OutS).int n k).text = ([], 11) := by
  unfold OutS.int
  rw [if_neg h]
  rfl
theorem half2 : half 2 = 32768 := by decide
theorem half4 : half 4 = 2147483648 := by decide
theorem fits2 (n : Int) (h : -32768 ≤ n ∧ n < 32768) : fits n 2 := ⟨by decide, by decide, by have := half2; show -half 2 ≤ n; omega, by have := half2; show n < half 2; omega⟩
theorem fits4 (n : Int) : fits n 4 ↔ (-2147483648 ≤ n ∧ n < 2147483648) := by
  have := half4
  constructor
  · intro h
    have h3 : -half 4 ≤ n := h.2.2.1
    have h4 : n < half 4 := h.2.2.2
    omega
  · intro h
    exact ⟨by decide, by decide, by show -half 4 ≤ n; omega, by show n < half 4; omega⟩

end Go.Proofs.YthppodbjjfkmfaaDoor

/- Contracts of cursitorref08. -/
namespace Go.Proofs.YthppodbjjfkmfaaDoor
open Go.RowKit

end Go.Proofs.YthppodbjjfkmfaaDoor

/- Heads of requests: the reference: written. -/
namespace Go.Proofs.YthppodbjjfkmfaaDoor
open Go.RowKit

theorem req_keep {W0 w : World} {K : Know} {L : List Res} {hb : Nat} {a0 a1 a2 a3 a4 : Value} {T : TypeId} (h : St W0 w K (.raw hb #[a0, a1, a2, a3, a4] T :: L)) : w.cell? ⟨hb, 0, none⟩ = some a0 ∧ w.cell? ⟨hb, 1, none⟩ = some a1 ∧ w.cell? ⟨hb, 2, none⟩ = some a2 ∧ w.cell? ⟨hb, 3, none⟩ = some a3 ∧ w.cell? ⟨hb, 4, none⟩ = some a4 :=
  let ⟨x0, x1, x2, x3, x4, _⟩ := raw5 h
  ⟨x0, x1, x2, x3, x4⟩
end Go.Proofs.YthppodbjjfkmfaaDoor

/- Heads of requests, read. -/
namespace Go.Proofs.YthppodbjjfkmfaaDoor
open Go.RowKit

theorem results_cell_only {P : Program} {fn : Func} {p : Tmp} {ty : TypeId} (h : fn.results = #[.cell p ty]) (tmps : Array Value) (w : World) (b : Nat) (cs : List Value) (dd : TypeDesc)
    (hp : tmps.getD p undef = .pointer (some ⟨b, 0, none⟩)) (hc : w.rangeAt b 0 cs) (hu : P.underlying ty = some dd) (hd : dd.isRow = true) (hi : (P.info? ty).map (·.size) = some cs.length) :
    (results fn tmps).run P w = .ok (.agg cs.toArray) w := by
  have hp' : tmps[p]?.getD undef = .pointer (some ⟨b, 0, none⟩) := by simpa using hp
  simp [results, h, hp', asAddr, run_loadVar_mid w b 0 ty cs dd hc hu hd hi]
theorem s_intQ (p : Nat) (i j : InS) (n q : Int) (hx : i.int n = (q, j)) {W0 w : World} {K : Know} {L : List Res} (h : St W0 w K (.inp p i :: L)) :
    Calls Tryd.prog 32 #[inPtr p, .int .i64 n] w fun en w' => en = .returned (.int .i64 q) ∧ St W0 w' K (.inp p j :: L) := by
  have := s_int p i n h; rw [hx] at this; exact this
theorem s_failQ (p : Nat) (i j : InS) (e : Int) (hx : i.fail e = j) {W0 w : World} {K : Know} {L : List Res} (h : St W0 w K (.inp p i :: L)) :
    Calls Tryd.prog 33 #[inPtr p, .int .i64 e] w fun en w' => en = .returned (.tuple #[]) ∧ St W0 w' K (.inp p j :: L) := by
  have := s_fail p i e h; rw [hx] at this; exact this
theorem s_errQ (p : Nat) (i : InS) (e : Int) (hx : i.err = e) {W0 w : World} {K : Know} {L : List Res} (h : St W0 w K (.inp p i :: L)) :
    Calls Tryd.prog 35 #[inPtr p] w fun en w' => en = .returned (.int .i64 e) ∧ St W0 w' K (.inp p i :: L) := by
  have := s_err p i h; rw [hx] at this; exact this
theorem blob_fixed2 (p : Nat) (i j : InS) (u : Bool) (d : Bs) (hx : i.fixed 2 = (⟨u, d⟩, j)) {W0 w : World} {K : Know} {L : List Res} (h : St W0 w K (.inp p i :: L)) :
    Calls Tryd.prog 34 #[inPtr p, .int .i64 2] w fun en w' => en = .returned (.agg #[.bool u, .string (bb d)]) ∧ St W0 w' K (.inp p j :: L) := by
  have := blob_fixed p i 2 h; rw [hx] at this; exact this

set_option maxHeartbeats 1000000 in
set_option maxRecDepth 100000 in
theorem req_read (p : Nat) (i0 i1 i2 i3 i4 i5 : InS) (a v n : Int) (u : Bool) (d : Bs) (e er : Int) (h0 : i0.int 2 = (a, i1)) (h1 : i1.int 2 = (v, i2)) (hv : verErr a v = e) (h2 : (if e = 0 then i2 else i2.fail e) = i3) (h3 : i3.int 4 = (n, i4)) (h4 : i4.fixed 2 = (⟨u, d⟩, i5)) (h5 : i5.err = er)
    (y : HeadS) (hy : (if er = 0 then (⟨a, v, n, ⟨u, d⟩⟩ : HeadS) else HeadS.z) = y) {W0 w : World} {K : Know} {L : List Res} (hk : K.has Know.reqs) (h : St W0 w K (.inp p i0 :: L)) :
    Calls Tryd.prog 13 #[inPtr p] w fun en w' => en = .returned (.agg #[.int .i64 y.kind, .int .i64 y.ver, .int .i64 y.num, .bool y.cli.null, .string (bb y.cli.data)]) ∧ St W0 w' K (.inp p i5 :: L) := by
  have g1 := h.allocRaw #[.int .i64 0, .int .i64 0, .int .i64 0, .bool false, .string ⟨#[]⟩] 25
  have g2 := g1.allocRaw #[.int .i64 0, .int .i64 0, .int .i64 0, .bool false, .string ⟨#[]⟩] 25
  obtain ⟨rb, hrb⟩ : ∃ b, w.heap.size = b := ⟨_, rfl⟩
  obtain ⟨hb, hhb⟩ : ∃ b, rb + 1 = b := ⟨_, rfl⟩
  simp only [World.size_alloc, hrb, hhb] at g2
  have E0 := Lib.hid h0
  have E1 := Lib.hid h1
  have EV := Lib.hid hv
  have E2 := Lib.hid h2
  have E3 := Lib.hid h3
  have E4 := Lib.hid h4
  have E5 := Lib.hid h5
  have HY := Lib.hid hy
  have HK := Lib.hid hk
  have H := Lib.hid g2
  have t1 : True := trivial
  clear g1 g2 h h0 h1 hv h2 h3 h4 h5 hy hk
  by_cases he : e = 0
  · subst he
    obtain rfl : i2 = i3 := by have := E2.out; rw [if_pos rfl] at this; exact this
    clear E2
    by_cases her : er = 0
    · subst her
      obtain rfl := HY.out
      clear HY
      go_enter Tryd.func13, Tryd.ntmps13
      go_wp2_with (first
        | (go_at_call 32; have _t := t1; clear _t; (with_reducible refine (s_intQ p i0 i1 2 a E0.out (show St W0 _ K (.inp p i0 :: .raw hb #[.int .i64 0, .int .i64 0, .int .i64 0, .bool false, .string ⟨#[]⟩] 25 :: .raw rb #[.int .i64 0, .int .i64 0, .int .i64 0, .bool false, .string ⟨#[]⟩] 25 :: L) from H.out.p2)).mono ?_); rintro e_ wn ⟨rfl, h⟩; have h : St W0 _ K (.raw hb #[.int .i64 0, .int .i64 0, .int .i64 0, .bool false, .string ⟨#[]⟩] 25 :: .raw rb #[.int .i64 0, .int .i64 0, .int .i64 0, .bool false, .string ⟨#[]⟩] 25 :: .inp p i1 :: L) := h.p2.p2; replace H := Lib.hid h; clear h; obtain ⟨x0, x1, x2, x3, x4, y0, y1, y2, y3, y4⟩ := raw5 (b := hb) (H.out); have t2 : True := trivial; clear t1)
        | (go_at_call 32; have _t := t2; clear _t; (with_reducible refine (s_intQ p i1 i2 2 v E1.out (show St W0 _ K (.inp p i1 :: .raw hb #[.int .i64 a, .int .i64 0, .int .i64 0, .bool false, .string ⟨#[]⟩] 25 :: .raw rb #[.int .i64 0, .int .i64 0, .int .i64 0, .bool false, .string ⟨#[]⟩] 25 :: L) from (H.out.rawSet 0 (.int .i64 a)).p2)).mono ?_); rintro e_ wn ⟨rfl, h⟩; have h : St W0 _ K (.raw hb #[.int .i64 a, .int .i64 0, .int .i64 0, .bool false, .string ⟨#[]⟩] 25 :: .raw rb #[.int .i64 0, .int .i64 0, .int .i64 0, .bool false, .string ⟨#[]⟩] 25 :: .inp p i2 :: L) := h.p2.p2; replace H := Lib.hid h; clear h; obtain ⟨x0, x1, x2, x3, x4, y0, y1, y2, y3, y4⟩ := raw5 (b := hb) (H.out); obtain ⟨z0, z1, z2, z3, z4, _⟩ := raw5 (b := hb) (show St W0 _ K (.raw hb #[.int .i64 a, .int .i64 v, .int .i64 0, .bool false, .string ⟨#[]⟩] 25 :: _) from H.out.rawSet 1 (.int .i64 v)); have t3 : True := trivial; clear t2)
        | (go_at_call 18; (with_reducible refine (ver_check a v 0 EV.out HK.out (show St W0 _ K (.raw hb #[.int .i64 a, .int .i64 v, .int .i64 0, .bool false, .string ⟨#[]⟩] 25 :: .raw rb #[.int .i64 0, .int .i64 0, .int .i64 0, .bool false, .string ⟨#[]⟩] 25 :: .inp p i2 :: L) from H.out.rawSet 1 (.int .i64 v))).mono ?_); rintro e_ wn ⟨rfl, h⟩; replace H := Lib.hid h; clear h)
        | (go_at_call 32; have _t := t3; clear _t; (with_reducible refine (s_intQ p i2 i4 4 n E3.out (H.out.p2)).mono ?_); rintro e_ wn ⟨rfl, h⟩; have h : St W0 _ K (.raw hb #[.int .i64 a, .int .i64 v, .int .i64 0, .bool false, .string ⟨#[]⟩] 25 :: .raw rb #[.int .i64 0, .int .i64 0, .int .i64 0, .bool false, .string ⟨#[]⟩] 25 :: .inp p i4 :: L) := h.p2.p2; replace H := Lib.hid h; clear h; obtain ⟨x0, x1, x2, x3, x4, y0, y1, y2, y3, y4⟩ := raw5 (b := hb) (H.out); clear t3)
        | (go_at_call 34; (with_reducible refine (blob_fixed2 p i4 i5 u d E4.out (show St W0 _ K (.inp p i4 :: .raw hb #[.int .i64 a, .int .i64 v, .int .i64 n, .bool false, .string ⟨#[]⟩] 25 :: .raw rb #[.int .i64 0, .int .i64 0, .int .i64 0, .bool false, .string ⟨#[]⟩] 25 :: L) from (H.out.rawSet 2 (.int .i64 n)).p2)).mono ?_); rintro e_ wn ⟨rfl, h⟩; have h : St W0 _ K (.raw hb #[.int .i64 a, .int .i64 v, .int .i64 n, .bool false, .string ⟨#[]⟩] 25 :: .raw rb #[.int .i64 0, .int .i64 0, .int .i64 0, .bool false, .string ⟨#[]⟩] 25 :: .inp p i5 :: L) := h.p2.p2; replace H := Lib.hid h; clear h; obtain ⟨x0, x1, x2, x3, x4, y0, y1, y2, y3, y4⟩ := raw5 (b := hb) (H.out))
        | (go_at_call 35; (with_reducible refine (s_errQ p i5 0 E5.out (show St W0 _ K (.inp p i5 :: .raw hb #[.int .i64 a, .int .i64 v, .int .i64 n, .bool u, .string (bb d)] 25 :: .raw rb #[.int .i64 0, .int .i64 0, .int .i64 0, .bool false, .string ⟨#[]⟩] 25 :: L) from ((H.out.rawSet 3 (.bool u)).rawSet 4 (.string (bb d))).p2)).mono ?_); rintro e_ wn ⟨rfl, h⟩; have h : St W0 _ K (.raw rb #[.int .i64 0, .int .i64 0, .int .i64 0, .bool false, .string ⟨#[]⟩] 25 :: .raw hb #[.int .i64 a, .int .i64 v, .int .i64 n, .bool u, .string (bb d)] 25 :: .inp p i5 :: L) := h.p1.p2; replace H := Lib.hid h; clear h; obtain ⟨p0, p1, p2, p3, p4, q0, q1, q2, q3, q4⟩ := raw5 (b := rb) (H.out); obtain ⟨x0, x1, x2, x3, x4, y0, y1, y2, y3, y4⟩ := raw5 (b := hb) (H.out.p1)))
      have hz : St W0 _ K (.raw rb #[.int .i64 a, .int .i64 v, .int .i64 n, .bool u, .string (bb d)] 25 :: _) := (((((H.out.rawSet 0 _).rawSet 1 _).rawSet 2 _).rawSet 3 _).rawSet 4 _)
      refine bodyPost_ret (results_cell_only rfl _ _ rb [.int .i64 a, .int .i64 v, .int .i64 n, .bool u, .string (bb d)] _ rfl (St.range hz) Tryd.underlying25 rfl (by kernel_rfl)) rfl ?_
      exact ⟨rfl, hz.drop.drop⟩
    · have gr : (er == 0) = false := by rw [beq_eq_false_iff_ne]; exact her
      obtain rfl : HeadS.z = y := by have := HY.out; rw [if_neg her] at this; exact this
      clear HY her
      go_enter Tryd.func13, Tryd.ntmps13
      go_wp2_with (first
        | (go_at_call 32; have _t := t1; clear _t; (with_reducible refine (s_intQ p i0 i1 2 a E0.out (show St W0 _ K (.inp p i0 :: .raw hb #[.int .i64 0, .int .i64 0, .int .i64 0, .bool false, .string ⟨#[]⟩] 25 :: .raw rb #[.int .i64 0, .int .i64 0, .int .i64 0, .bool false, .string ⟨#[]⟩] 25 :: L) from H.out.p2)).mono ?_); rintro e_ wn ⟨rfl, h⟩; have h : St W0 _ K (.raw hb #[.int .i64 0, .int .i64 0, .int .i64 0, .bool false, .string ⟨#[]⟩] 25 :: .raw rb #[.int .i64 0, .int .i64 0, .int .i64 0, .bool false, .string ⟨#[]⟩] 25 :: .inp p i1 :: L) := h.p2.p2; replace H := Lib.hid h; clear h; obtain ⟨x0, x1, x2, x3, x4, y0, y1, y2, y3, y4⟩ := raw5 (b := hb) (H.out); have t2 : True := trivial; clear t1)
        | (go_at_call 32; have _t := t2; clear _t; (with_reducible refine (s_intQ p i1 i2 2 v E1.out (show St W0 _ K (.inp p i1 :: .raw hb #[.int .i64 a, .int .i64 0, .int .i64 0, .bool false, .string ⟨#[]⟩] 25 :: .raw rb #[.int .i64 0, .int .i64 0, .int .i64 0, .bool false, .string ⟨#[]⟩] 25 :: L) from (H.out.rawSet 0 (.int .i64 a)).p2)).mono ?_); rintro e_ wn ⟨rfl, h⟩; have h : St W0 _ K (.raw hb #[.int .i64 a, .int .i64 0, .int .i64 0, .bool false, .string ⟨#[]⟩] 25 :: .raw rb #[.int .i64 0, .int .i64 0, .int .i64 0, .bool false, .string ⟨#[]⟩] 25 :: .inp p i2 :: L) := h.p2.p2; replace H := Lib.hid h; clear h; obtain ⟨x0, x1, x2, x3, x4, y0, y1, y2, y3, y4⟩ := raw5 (b := hb) (H.out); obtain ⟨z0, z1, z2, z3, z4, _⟩ := raw5 (b := hb) (show St W0 _ K (.raw hb #[.int .i64 a, .int .i64 v, .int .i64 0, .bool false, .string ⟨#[]⟩] 25 :: _) from H.out.rawSet 1 (.int .i64 v)); have t3 : True := trivial; clear t2)
        | (go_at_call 18; (with_reducible refine (ver_check a v 0 EV.out HK.out (show St W0 _ K (.raw hb #[.int .i64 a, .int .i64 v, .int .i64 0, .bool false, .string ⟨#[]⟩] 25 :: .raw rb #[.int .i64 0, .int .i64 0, .int .i64 0, .bool false, .string ⟨#[]⟩] 25 :: .inp p i2 :: L) from H.out.rawSet 1 (.int .i64 v))).mono ?_); rintro e_ wn ⟨rfl, h⟩; replace H := Lib.hid h; clear h)
        | (go_at_call 32; have _t := t3; clear _t; (with_reducible refine (s_intQ p i2 i4 4 n E3.out (H.out.p2)).mono ?_); rintro e_ wn ⟨rfl, h⟩; have h : St W0 _ K (.raw hb #[.int .i64 a, .int .i64 v, .int .i64 0, .bool false, .string ⟨#[]⟩] 25 :: .raw rb #[.int .i64 0, .int .i64 0, .int .i64 0, .bool false, .string ⟨#[]⟩] 25 :: .inp p i4 :: L) := h.p2.p2; replace H := Lib.hid h; clear h; obtain ⟨x0, x1, x2, x3, x4, y0, y1, y2, y3, y4⟩ := raw5 (b := hb) (H.out); clear t3)
        | (go_at_call 34; (with_reducible refine (blob_fixed2 p i4 i5 u d E4.out (show St W0 _ K (.inp p i4 :: .raw hb #[.int .i64 a, .int .i64 v, .int .i64 n, .bool false, .string ⟨#[]⟩] 25 :: .raw rb #[.int .i64 0, .int .i64 0, .int .i64 0, .bool false, .string ⟨#[]⟩] 25 :: L) from (H.out.rawSet 2 (.int .i64 n)).p2)).mono ?_); rintro e_ wn ⟨rfl, h⟩; have h : St W0 _ K (.raw hb #[.int .i64 a, .int .i64 v, .int .i64 n, .bool false, .string ⟨#[]⟩] 25 :: .raw rb #[.int .i64 0, .int .i64 0, .int .i64 0, .bool false, .string ⟨#[]⟩] 25 :: .inp p i5 :: L) := h.p2.p2; replace H := Lib.hid h; clear h; obtain ⟨x0, x1, x2, x3, x4, y0, y1, y2, y3, y4⟩ := raw5 (b := hb) (H.out))
        | (go_at_call 35; (with_reducible refine (s_errQ p i5 er E5.out (show St W0 _ K (.inp p i5 :: .raw hb #[.int .i64 a, .int .i64 v, .int .i64 n, .bool u, .string (bb d)] 25 :: .raw rb #[.int .i64 0, .int .i64 0, .int .i64 0, .bool false, .string ⟨#[]⟩] 25 :: L) from ((H.out.rawSet 3 (.bool u)).rawSet 4 (.string (bb d))).p2)).mono ?_); rintro e_ wn ⟨rfl, h⟩; have h : St W0 _ K (.raw rb #[.int .i64 0, .int .i64 0, .int .i64 0, .bool false, .string ⟨#[]⟩] 25 :: .raw hb #[.int .i64 a, .int .i64 v, .int .i64 n, .bool u, .string (bb d)] 25 :: .inp p i5 :: L) := h.p1.p2; replace H := Lib.hid h; clear h; obtain ⟨p0, p1, p2, p3, p4, q0, q1, q2, q3, q4⟩ := raw5 (b := rb) (H.out); obtain ⟨x0, x1, x2, x3, x4, y0, y1, y2, y3, y4⟩ := raw5 (b := hb) (H.out.p1)))
      have hz : St W0 _ K (.raw rb #[.int .i64 0, .int .i64 0, .int .i64 0, .bool false, .string ⟨#[]⟩] 25 :: _) := (((((H.out.rawSet 0 _).rawSet 1 _).rawSet 2 _).rawSet 3 _).rawSet 4 _)
      refine bodyPost_ret (results_cell_only rfl _ _ rb [.int .i64 0, .int .i64 0, .int .i64 0, .bool false, .string ⟨#[]⟩] _ rfl (St.range hz) Tryd.underlying25 rfl (by kernel_rfl)) rfl ?_
      exact ⟨rfl, hz.drop.drop⟩
  · have gz : (e == 0) = false := by rw [beq_eq_false_iff_ne]; exact he
    replace E2 := Lib.hid (show i2.fail e = i3 by have := E2.out; rw [if_neg he] at this; exact this)
    clear he
    by_cases her : er = 0
    · subst her
      obtain rfl := HY.out
      clear HY
      go_enter Tryd.func13, Tryd.ntmps13
      go_wp2_with (first
        | (go_at_call 32; have _t := t1; clear _t; (with_reducible refine (s_intQ p i0 i1 2 a E0.out (show St W0 _ K (.inp p i0 :: .raw hb #[.int .i64 0, .int .i64 0, .int .i64 0, .bool false, .string ⟨#[]⟩] 25 :: .raw rb #[.int .i64 0, .int .i64 0, .int .i64 0, .bool false, .string ⟨#[]⟩] 25 :: L) from H.out.p2)).mono ?_); rintro e_ wn ⟨rfl, h⟩; have h : St W0 _ K (.raw hb #[.int .i64 0, .int .i64 0, .int .i64 0, .bool false, .string ⟨#[]⟩] 25 :: .raw rb #[.int .i64 0, .int .i64 0, .int .i64 0, .bool false, .string ⟨#[]⟩] 25 :: .inp p i1 :: L) := h.p2.p2; replace H := Lib.hid h; clear h; obtain ⟨x0, x1, x2, x3, x4, y0, y1, y2, y3, y4⟩ := raw5 (b := hb) (H.out); have t2 : True := trivial; clear t1)
        | (go_at_call 32; have _t := t2; clear _t; (with_reducible refine (s_intQ p i1 i2 2 v E1.out (show St W0 _ K (.inp p i1 :: .raw hb #[.int .i64 a, .int .i64 0, .int .i64 0, .bool false, .string ⟨#[]⟩] 25 :: .raw rb #[.int .i64 0, .int .i64 0, .int .i64 0, .bool false, .string ⟨#[]⟩] 25 :: L) from (H.out.rawSet 0 (.int .i64 a)).p2)).mono ?_); rintro e_ wn ⟨rfl, h⟩; have h : St W0 _ K (.raw hb #[.int .i64 a, .int .i64 0, .int .i64 0, .bool false, .string ⟨#[]⟩] 25 :: .raw rb #[.int .i64 0, .int .i64 0, .int .i64 0, .bool false, .string ⟨#[]⟩] 25 :: .inp p i2 :: L) := h.p2.p2; replace H := Lib.hid h; clear h; obtain ⟨x0, x1, x2, x3, x4, y0, y1, y2, y3, y4⟩ := raw5 (b := hb) (H.out); obtain ⟨z0, z1, z2, z3, z4, _⟩ := raw5 (b := hb) (show St W0 _ K (.raw hb #[.int .i64 a, .int .i64 v, .int .i64 0, .bool false, .string ⟨#[]⟩] 25 :: _) from H.out.rawSet 1 (.int .i64 v)); have t3 : True := trivial; clear t2)
        | (go_at_call 18; (with_reducible refine (ver_check a v e EV.out HK.out (show St W0 _ K (.raw hb #[.int .i64 a, .int .i64 v, .int .i64 0, .bool false, .string ⟨#[]⟩] 25 :: .raw rb #[.int .i64 0, .int .i64 0, .int .i64 0, .bool false, .string ⟨#[]⟩] 25 :: .inp p i2 :: L) from H.out.rawSet 1 (.int .i64 v))).mono ?_); rintro e_ wn ⟨rfl, h⟩; replace H := Lib.hid h; clear h)
        | (go_at_call 33; (with_reducible refine (s_failQ p i2 i3 e E2.out (H.out.p2)).mono ?_); rintro e_ wn ⟨rfl, h⟩; have h : St W0 _ K (.raw hb #[.int .i64 a, .int .i64 v, .int .i64 0, .bool false, .string ⟨#[]⟩] 25 :: .raw rb #[.int .i64 0, .int .i64 0, .int .i64 0, .bool false, .string ⟨#[]⟩] 25 :: .inp p i3 :: L) := h.p2.p2; replace H := Lib.hid h; clear h)
        | (go_at_call 32; have _t := t3; clear _t; (with_reducible refine (s_intQ p i3 i4 4 n E3.out (H.out.p2)).mono ?_); rintro e_ wn ⟨rfl, h⟩; have h : St W0 _ K (.raw hb #[.int .i64 a, .int .i64 v, .int .i64 0, .bool false, .string ⟨#[]⟩] 25 :: .raw rb #[.int .i64 0, .int .i64 0, .int .i64 0, .bool false, .string ⟨#[]⟩] 25 :: .inp p i4 :: L) := h.p2.p2; replace H := Lib.hid h; clear h; obtain ⟨x0, x1, x2, x3, x4, y0, y1, y2, y3, y4⟩ := raw5 (b := hb) (H.out); clear t3)
        | (go_at_call 34; (with_reducible refine (blob_fixed2 p i4 i5 u d E4.out (show St W0 _ K (.inp p i4 :: .raw hb #[.int .i64 a, .int .i64 v, .int .i64 n, .bool false, .string ⟨#[]⟩] 25 :: .raw rb #[.int .i64 0, .int .i64 0, .int .i64 0, .bool false, .string ⟨#[]⟩] 25 :: L) from (H.out.rawSet 2 (.int .i64 n)).p2)).mono ?_); rintro e_ wn ⟨rfl, h⟩; have h : St W0 _ K (.raw hb #[.int .i64 a, .int .i64 v, .int .i64 n, .bool false, .string ⟨#[]⟩] 25 :: .raw rb #[.int .i64 0, .int .i64 0, .int .i64 0, .bool false, .string ⟨#[]⟩] 25 :: .inp p i5 :: L) := h.p2.p2; replace H := Lib.hid h; clear h; obtain ⟨x0, x1, x2, x3, x4, y0, y1, y2, y3, y4⟩ := raw5 (b := hb) (H.out))
        | (go_at_call 35; (with_reducible refine (s_errQ p i5 0 E5.out (show St W0 _ K (.inp p i5 :: .raw hb #[.int .i64 a, .int .i64 v, .int .i64 n, .bool u, .string (bb d)] 25 :: .raw rb #[.int .i64 0, .int .i64 0, .int .i64 0, .bool false, .string ⟨#[]⟩] 25 :: L) from ((H.out.rawSet 3 (.bool u)).rawSet 4 (.string (bb d))).p2)).mono ?_); rintro e_ wn ⟨rfl, h⟩; have h : St W0 _ K (.raw rb #[.int .i64 0, .int .i64 0, .int .i64 0, .bool false, .string ⟨#[]⟩] 25 :: .raw hb #[.int .i64 a, .int .i64 v, .int .i64 n, .bool u, .string (bb d)] 25 :: .inp p i5 :: L) := h.p1.p2; replace H := Lib.hid h; clear h; obtain ⟨p0, p1, p2, p3, p4, q0, q1, q2, q3, q4⟩ := raw5 (b := rb) (H.out); obtain ⟨x0, x1, x2, x3, x4, y0, y1, y2, y3, y4⟩ := raw5 (b := hb) (H.out.p1)))
      have hz : St W0 _ K (.raw rb #[.int .i64 a, .int .i64 v, .int .i64 n, .bool u, .string (bb d)] 25 :: _) := (((((H.out.rawSet 0 _).rawSet 1 _).rawSet 2 _).rawSet 3 _).rawSet 4 _)
      refine bodyPost_ret (results_cell_only rfl _ _ rb [.int .i64 a, .int .i64 v, .int .i64 n, .bool u, .string (bb d)] _ rfl (St.range hz) Tryd.underlying25 rfl (by kernel_rfl)) rfl ?_
      exact ⟨rfl, hz.drop.drop⟩
    · have gr : (er == 0) = false := by rw [beq_eq_false_iff_ne]; exact her
      obtain rfl : HeadS.z = y := by have := HY.out; rw [if_neg her] at this; exact this
      clear HY her
      go_enter Tryd.func13, Tryd.ntmps13
      go_wp2_with (first
        | (go_at_call 32; have _t := t1; clear _t; (with_reducible refine (s_intQ p i0 i1 2 a E0.out (show St W0 _ K (.inp p i0 :: .raw hb #[.int .i64 0, .int .i64 0, .int .i64 0, .bool false, .string ⟨#[]⟩] 25 :: .raw rb #[.int .i64 0, .int .i64 0, .int .i64 0, .bool false, .string ⟨#[]⟩] 25 :: L) from H.out.p2)).mono ?_); rintro e_ wn ⟨rfl, h⟩; have h : St W0 _ K (.raw hb #[.int .i64 0, .int .i64 0, .int .i64 0, .bool false, .string ⟨#[]⟩] 25 :: .raw rb #[.int .i64 0, .int .i64 0, .int .i64 0, .bool false, .string ⟨#[]⟩] 25 :: .inp p i1 :: L) := h.p2.p2; replace H := Lib.hid h; clear h; obtain ⟨x0, x1, x2, x3, x4, y0, y1, y2, y3, y4⟩ := raw5 (b := hb) (H.out); have t2 : True := trivial; clear t1)
        | (go_at_call 32; have _t := t2; clear _t; (with_reducible refine (s_intQ p i1 i2 2 v E1.out (show St W0 _ K (.inp p i1 :: .raw hb #[.int .i64 a, .int .i64 0, .int .i64 0, .bool false, .string ⟨#[]⟩] 25 :: .raw rb #[.int .i64 0, .int .i64 0, .int .i64 0, .bool false, .string ⟨#[]⟩] 25 :: L) from (H.out.rawSet 0 (.int .i64 a)).p2)).mono ?_); rintro e_ wn ⟨rfl, h⟩; have h : St W0 _ K (.raw hb #[.int .i64 a, .int .i64 0, .int .i64 0, .bool false, .string ⟨#[]⟩] 25 :: .raw rb #[.int .i64 0, .int .i64 0, .int .i64 0, .bool false, .string ⟨#[]⟩] 25 :: .inp p i2 :: L) := h.p2.p2; replace H := Lib.hid h; clear h; obtain ⟨x0, x1, x2, x3, x4, y0, y1, y2, y3, y4⟩ := raw5 (b := hb) (H.out); obtain ⟨z0, z1, z2, z3, z4, _⟩ := raw5 (b := hb) (show St W0 _ K (.raw hb #[.int .i64 a, .int .i64 v, .int .i64 0, .bool false, .string ⟨#[]⟩] 25 :: _) from H.out.rawSet 1 (.int .i64 v)); have t3 : True := trivial; clear t2)
        | (go_at_call 18; (with_reducible refine (ver_check a v e EV.out HK.out (show St W0 _ K (.raw hb #[.int .i64 a, .int .i64 v, .int .i64 0, .bool false, .string ⟨#[]⟩] 25 :: .raw rb #[.int .i64 0, .int .i64 0, .int .i64 0, .bool false, .string ⟨#[]⟩] 25 :: .inp p i2 :: L) from H.out.rawSet 1 (.int .i64 v))).mono ?_); rintro e_ wn ⟨rfl, h⟩; replace H := Lib.hid h; clear h)
        | (go_at_call 33; (with_reducible refine (s_failQ p i2 i3 e E2.out (H.out.p2)).mono ?_); rintro e_ wn ⟨rfl, h⟩; have h : St W0 _ K (.raw hb #[.int .i64 a, .int .i64 v, .int .i64 0, .bool false, .string ⟨#[]⟩] 25 :: .raw rb #[.int .i64 0, .int .i64 0, .int .i64 0, .bool false, .string ⟨#[]⟩] 25 :: .inp p i3 :: L) := h.p2.p2; replace H := Lib.hid h; clear h)
        | (go_at_call 32; have _t := t3; clear _t; (with_reducible refine (s_intQ p i3 i4 4 n E3.out (H.out.p2)).mono ?_); rintro e_ wn ⟨rfl, h⟩; have h : St W0 _ K (.raw hb #[.int .i64 a, .int .i64 v, .int .i64 0, .bool false, .string ⟨#[]⟩] 25 :: .raw rb #[.int .i64 0, .int .i64 0, .int .i64 0, .bool false, .string ⟨#[]⟩] 25 :: .inp p i4 :: L) := h.p2.p2; replace H := Lib.hid h; clear h; obtain ⟨x0, x1, x2, x3, x4, y0, y1, y2, y3, y4⟩ := raw5 (b := hb) (H.out); clear t3)
        | (go_at_call 34; (with_reducible refine (blob_fixed2 p i4 i5 u d E4.out (show St W0 _ K (.inp p i4 :: .raw hb #[.int .i64 a, .int .i64 v, .int .i64 n, .bool false, .string ⟨#[]⟩] 25 :: .raw rb #[.int .i64 0, .int .i64 0, .int .i64 0, .bool false, .string ⟨#[]⟩] 25 :: L) from (H.out.rawSet 2 (.int .i64 n)).p2)).mono ?_); rintro e_ wn ⟨rfl, h⟩; have h : St W0 _ K (.raw hb #[.int .i64 a, .int .i64 v, .int .i64 n, .bool false, .string ⟨#[]⟩] 25 :: .raw rb #[.int .i64 0, .int .i64 0, .int .i64 0, .bool false, .string ⟨#[]⟩] 25 :: .inp p i5 :: L) := h.p2.p2; replace H := Lib.hid h; clear h; obtain ⟨x0, x1, x2, x3, x4, y0, y1, y2, y3, y4⟩ := raw5 (b := hb) (H.out))
        | (go_at_call 35; (with_reducible refine (s_errQ p i5 er E5.out (show St W0 _ K (.inp p i5 :: .raw hb #[.int .i64 a, .int .i64 v, .int .i64 n, .bool u, .string (bb d)] 25 :: .raw rb #[.int .i64 0, .int .i64 0, .int .i64 0, .bool false, .string ⟨#[]⟩] 25 :: L) from ((H.out.rawSet 3 (.bool u)).rawSet 4 (.string (bb d))).p2)).mono ?_); rintro e_ wn ⟨rfl, h⟩; have h : St W0 _ K (.raw rb #[.int .i64 0, .int .i64 0, .int .i64 0, .bool false, .string ⟨#[]⟩] 25 :: .raw hb #[.int .i64 a, .int .i64 v, .int .i64 n, .bool u, .string (bb d)] 25 :: .inp p i5 :: L) := h.p1.p2; replace H := Lib.hid h; clear h; obtain ⟨p0, p1, p2, p3, p4, q0, q1, q2, q3, q4⟩ := raw5 (b := rb) (H.out); obtain ⟨x0, x1, x2, x3, x4, y0, y1, y2, y3, y4⟩ := raw5 (b := hb) (H.out.p1)))
      have hz : St W0 _ K (.raw rb #[.int .i64 0, .int .i64 0, .int .i64 0, .bool false, .string ⟨#[]⟩] 25 :: _) := (((((H.out.rawSet 0 _).rawSet 1 _).rawSet 2 _).rawSet 3 _).rawSet 4 _)
      refine bodyPost_ret (results_cell_only rfl _ _ rb [.int .i64 0, .int .i64 0, .int .i64 0, .bool false, .string ⟨#[]⟩] _ rfl (St.range hz) Tryd.underlying25 rfl (by kernel_rfl)) rfl ?_
      exact ⟨rfl, hz.drop.drop⟩

end Go.Proofs.YthppodbjjfkmfaaDoor

/- A whole value stored into a block of one's own. -/
namespace Go.Proofs.YthppodbjjfkmfaaDoor
open Go.RowKit

def setAll : Array Value → Nat → List Value → Array Value
  | c, _, [] => c
  | c, o, v :: r => setAll (c.setIfInBounds o v) (o + 1) r
theorem St.there {W0 w : World} {K : Know} {L : List Res} {b : Nat} {c : Array Value} {T : TypeId} (h : St W0 w K (.raw b c T :: L)) : w.there b 0 c.size := fun j hj => by
  rw [Nat.zero_add]
  exact ⟨by rw [h.rawCell j, Array.getElem?_eq_getElem hj]; rfl, h.rawFree j⟩
theorem St.rawSets {W0 : World} {K : Know} {L : List Res} {b : Nat} {T : TypeId} : ∀ (vs : List Value) (o : Nat) (c : Array Value) (w : World), St W0 w K (.raw b c T :: L) → St W0 (w.setCells b o vs) K (.raw b (setAll c o vs) T :: L)
  | [], _, _, _, h => h
  | v :: r, o, _, _, h => St.rawSets r (o + 1) _ _ (h.rawSet o v)
/-- A whole value stored into a block of one's own, the new world under a name. -/
theorem St.storeEx {W0 w : World} {K : Know} {L : List Res} {b : Nat} {c : Array Value} {T : TypeId} (h : St W0 w K (.raw b c T :: L)) (cs : Array Value) : ∃ wz, w.setCells b 0 cs.toList = wz ∧ St W0 wz K (.raw b (setAll c 0 cs.toList) T :: L) := ⟨_, rfl, h.rawSets _ _ _ _⟩
theorem St.allocEx {W0 w : World} {K : Know} {L : List Res} (h : St W0 w K L) (c : Array Value) (T : TypeId) : ∃ wy b, w.alloc (.cells c T (0, 0)) = wy ∧ w.heap.size = b ∧ St W0 wy K (.raw b c T :: L) := ⟨_, _, rfl, rfl, h.allocRaw c T⟩

end Go.Proofs.YthppodbjjfkmfaaDoor

/- Heads of requests: the reference, read. -/
namespace Go.Proofs.YthppodbjjfkmfaaDoor
open Go.RowKit

theorem results_cell_tmp2 {P : Program} {fn : Func} {p t t' : Tmp} {ty : TypeId} (h : fn.results = #[.cell p ty, .tmp t, .tmp t']) (tmps : Array Value) (w : World) (b : Nat) (cs : List Value) (dd : TypeDesc)
    (hp : tmps.getD p undef = .pointer (some ⟨b, 0, none⟩)) (hc : w.rangeAt b 0 cs) (hu : P.underlying ty = some dd) (hd : dd.isRow = true) (hi : (P.info? ty).map (·.size) = some cs.length) :
    (results fn tmps).run P w = .ok (.tuple #[.agg cs.toArray, tmps.getD t undef, tmps.getD t' undef]) w := by
  have hp' : tmps[p]?.getD undef = .pointer (some ⟨b, 0, none⟩) := by simpa using hp
  simp [results, h, hp', asAddr, run_loadVar_mid w b 0 ty cs dd hc hu hd hi]
def reHeadV (r : Except Int (HeadS × Nat)) : HeadS := match r with | .ok x => x.1 | .error _ => HeadS.z
def reHeadN (r : Except Int (HeadS × Nat)) : Nat := match r with | .ok x => x.2 | .error _ => 0
def reHeadE (r : Except Int (HeadS × Nat)) : Int := match r with | .ok _ => 0 | .error e => e

theorem raw4g {W0 w : World} {K : Know} {L : List Res} {b : Nat} {a0 a1 a2 a3 : Value} {T : TypeId} (h : St W0 w K (.raw b #[a0, a1, a2, a3] T :: L)) : w.cell? ⟨b, 0, none⟩ = some a0 ∧ w.cell? ⟨b, 1, none⟩ = some a1 ∧ w.cell? ⟨b, 2, none⟩ = some a2 ∧ w.cell? ⟨b, 3, none⟩ = some a3 :=
  ⟨(h.rawCell 0).trans rfl, (h.rawCell 1).trans rfl, (h.rawCell 2).trans rfl, (h.rawCell 3).trans rfl⟩
end Go.Proofs.YthppodbjjfkmfaaDoor

/- Heads of requests: the reference, read to the end. -/
namespace Go.Proofs.YthppodbjjfkmfaaDoor
open Go.RowKit

end Go.Proofs.YthppodbjjfkmfaaDoor

/- Heads of requests: contracts at large. -/
namespace Go.Proofs.YthppodbjjfkmfaaDoor
open Go.RowKit

theorem req_readH (p : Nat) (i j : InS) (y : HeadS) (hx : i.head = (y, j)) {W0 w : World} {K : Know} {L : List Res} (hk : K.has Know.reqs) (h : St W0 w K (.inp p i :: L)) :
    Calls Tryd.prog 13 #[inPtr p] w fun en w' => en = .returned (.agg #[.int .i64 y.kind, .int .i64 y.ver, .int .i64 y.num, .bool y.cli.null, .string (bb y.cli.data)]) ∧ St W0 w' K (.inp p j :: L) := by
  have e2 : (headF i).2 = j := congrArg Prod.snd hx
  have e1 : (if j.err = 0 then (⟨(headA i).1, (headB i).1, (headD i).1, ⟨(headF i).1.null, (headF i).1.data⟩⟩ : HeadS) else HeadS.z) = y := by rw [← e2]; exact congrArg Prod.fst hx
  exact req_read p i (headA i).2 (headB i).2 (headC i) (headD i).2 j (headA i).1 (headB i).1 (headD i).1 (headF i).1.null (headF i).1.data (headE i) j.err rfl rfl rfl rfl rfl (by rw [← e2]; rfl) rfl y e1 hk h
theorem req_writeV (p : Nat) (h0 : HeadS) (o2 : OutS) (vd : ByteArray) (hv : vd = bb h0.cli.data) (hx : (⟨[], 0⟩ : OutS).head h0 = o2) (hR : h0.R) {W0 w : World} {K : Know} {L : List Res} (hk : K.has Know.reqs) (h : St W0 w K (.out p ⟨[], 0⟩ :: L)) :
    Calls Tryd.prog 5 #[outPtr p, .agg #[.int .i64 h0.kind, .int .i64 h0.ver, .int .i64 h0.num, .bool h0.cli.null, .string vd]] w fun en w' => en = .returned (.tuple #[]) ∧ St W0 w' K (.out p o2 :: L) := by
  subst hv
  obtain ⟨a, v, n, ⟨u, d⟩⟩ := h0
  obtain ⟨ra, rv, rn⟩ := hR
  by_cases he : headErr ⟨a, v, n, ⟨u, d⟩⟩ = 0
  · obtain ⟨g0, g1, g2, g3, g4⟩ := head_put _ he
    simp only at g1 g2 g3 g4 ra rv rn
    rw [g0] at hx
    subst hx
    obtain ⟨s1, s2⟩ := verErr_small _ _ g1
    have hb : fits (⟨u, d⟩ : BlobS).len 2 := by
      have h2 : half 2 = 32768 := by decide
      unfold BlobS.len
      refine ⟨by decide, by decide, ?_, ?_⟩ <;> simp [h2] <;> split <;> omega
    have e1 : (⟨[], 0⟩ : OutS).int a 2 = ⟨beBytes a 2, 0⟩ := by unfold OutS.int; rw [if_pos (fits2_small _ s1)]; rfl
    have e2 : (⟨beBytes a 2, 0⟩ : OutS).int v 2 = ⟨beBytes a 2 ++ beBytes v 2, 0⟩ := by unfold OutS.int; rw [if_pos (fits2_small _ ⟨s2.1, by omega⟩)]; rfl
    have e3 : (⟨beBytes a 2 ++ beBytes v 2, 0⟩ : OutS).int n 4 = ⟨beBytes a 2 ++ beBytes v 2 ++ beBytes n 4, 0⟩ := by unfold OutS.int; rw [if_pos g2]; rfl
    have e4 : (⟨beBytes a 2 ++ beBytes v 2 ++ beBytes n 4, 0⟩ : OutS).putFixed ⟨u, d⟩ 2 = ⟨encHead ⟨a, v, n, ⟨u, d⟩⟩, 0⟩ := by
      unfold OutS.putFixed OutS.int OutS.putData
      rw [if_pos hb, g3]
      simp [OutS.put, encHead, encF, List.append_assoc]
    exact req_write_ok p _ _ _ _ _ a v n u d he e1 e2 e3 e4 ra rv rn (by simp [OutS.ok]) (by simp [OutS.ok]) (by simp [OutS.ok]) (by simp [OutS.ok]; omega) hk h
  · have hx2 : (⟨[], 0⟩ : OutS).fail (headErr ⟨a, v, n, ⟨u, d⟩⟩) = o2 := by rw [← hx, head_bad _ he]; rfl
    exact req_write_bad p _ o2 a v n u d _ rfl he hx2 rn hk h
theorem req_checkV (h0 : HeadS) (q : Int) (vd : ByteArray) (hv : vd = bb h0.cli.data) (hq : headErr h0 = q) (hR : h0.R) {W0 w : World} {K : Know} {L : List Res} (hk : K.has Know.reqs) (h : St W0 w K L) :
    Calls Tryd.prog 4 #[.agg #[.int .i64 h0.kind, .int .i64 h0.ver, .int .i64 h0.num, .bool h0.cli.null, .string vd]] w fun en w' => en = .returned (.int .i64 q) ∧ St W0 w' K L := by
  subst hv
  exact req_check _ _ _ _ _ q hq hR.2.2 hk h
theorem so_textQ (p : Nat) (o : OutS) (s : Bs) (e : Int) (hx : o.text = (s, e)) {W0 w : World} {K : Know} {L : List Res} (h : St W0 w K (.out p o :: L)) :
    Calls Tryd.prog 11 #[outPtr p] w fun en w' => en = .returned (.tuple #[.string (bb s), .int .i64 e]) ∧ St W0 w' K (.out p o :: L) := by
  have := so_text p o h; rw [hx] at this; exact this
end Go.Proofs.YthppodbjjfkmfaaDoor

/- Layer 17, walked: RequestWrites, what it stands on. -/
namespace Go.Proofs.YthppodbjjfkmfaaDoor
open Go.RowKit

theorem req_write5 (p : Nat) (a v n : Int) (u : Bool) (d : Bs) (o2 : OutS) (hx : (⟨[], 0⟩ : OutS).head ⟨a, v, n, ⟨u, d⟩⟩ = o2) (hR : HeadS.R ⟨a, v, n, ⟨u, d⟩⟩) {W0 w : World} {K : Know} {L : List Res} (hk : K.has Know.reqs) (h : St W0 w K (.out p ⟨[], 0⟩ :: L)) :
    Calls Tryd.prog 5 #[outPtr p, .agg #[.int .i64 a, .int .i64 v, .int .i64 n, .bool u, .string (bb d)]] w fun en w' => en = .returned (.tuple #[]) ∧ St W0 w' K (.out p o2 :: L) := req_writeV p ⟨a, v, n, ⟨u, d⟩⟩ o2 _ rfl hx hR hk h

theorem req_readQ (p : Nat) (i j : InS) (a v n : Int) (u : Bool) (d : Bs) (hx : i.head = (⟨a, v, n, ⟨u, d⟩⟩, j)) {W0 w : World} {K : Know} {L : List Res} (hk : K.has Know.reqs) (h : St W0 w K (.inp p i :: L)) :
    Calls Tryd.prog 13 #[inPtr p] w fun en w' => en = .returned (.agg #[.int .i64 a, .int .i64 v, .int .i64 n, .bool u, .string (bb d)]) ∧ St W0 w' K (.inp p j :: L) := req_readH p i j ⟨a, v, n, ⟨u, d⟩⟩ hx hk h
theorem s_closeQ (p : Nat) (i j : InS) (e : Int) (hx : i.close = j) (he : j.err = e) {W0 w : World} {K : Know} {L : List Res} (h : St W0 w K (.inp p i :: L)) :
    Calls Tryd.prog 16 #[inPtr p] w fun en w' => en = .returned (.int .i64 e) ∧ St W0 w' K (.inp p j :: L) := by
  subst he; subst hx; exact s_close p i h

end Go.Proofs.YthppodbjjfkmfaaDoor

/- Values, decoded (pure). -/
namespace Go.Proofs.YthppodbjjfkmfaaDoor
open Go.RowKit

theorem close_st {i : InS} (h : i.err ≠ 0) : i.close.err = i.err := by
  unfold InS.close
  split
  · unfold InS.fail; rw [if_neg h]
  · rfl
theorem valF_stuck {i : InS} (h : i.err ≠ 0) : i.valF = (ValS.z, i) := by
  have r8 : i.int 8 = (0, i) := (rds_intN 8 (by decide) (by decide)).stuck i h
  have r2 : i.int 2 = (0, i) := (rds_intN 2 (by decide) (by decide)).stuck i h
  have r4 : i.int 4 = (0, i) := (rds_intN 4 (by decide) (by decide)).stuck i h
  have r1 : i.int 1 = (0, i) := (rds_intN 1 (by decide) (by decide)).stuck i h
  have rt : i.tops = ([], i) := rds_tops.stuck i h
  exact valF_eq r8 r2 r4 r1 rt r8 r8
theorem decE_zero {s : Bs} (h : decE s = 0) : ((⟨s, 0, 0⟩ : InS).int 2).1 = 0 := by
  by_cases ha : ((⟨s, 0, 0⟩ : InS).int 2).1 = 0
  · exact ha
  · exfalso
    have hj : (decI s).err ≠ 0 := by
      unfold decI
      rw [if_neg ha]
      unfold InS.fail
      split
      · show (7 : Int) ≠ 0; decide
      · assumption
    unfold decE at h
    rw [valF_stuck hj, close_st hj] at h
    exact hj h
theorem valDec_ok {s : Bs} {v : ValS} (h : valDec s = (v, 0)) (hz : v ≠ ValS.z ∨ True) : decE s = 0 ∧ (decI s).valF.1 = v ∧ v.err = 0 := by
  unfold valDec at h
  by_cases h1 : decE s ≠ 0
  · rw [if_pos h1] at h
    simp only [Prod.mk.injEq] at h
    exact absurd h.2 h1
  · rw [if_neg h1] at h
    by_cases h2 : (decI s).valF.1.err ≠ 0
    · rw [if_pos h2] at h
      simp only [Prod.mk.injEq] at h
      exact absurd h.2 h2
    · rw [if_neg h2] at h
      simp only [Prod.mk.injEq] at h
      refine ⟨Classical.not_not.1 h1, h.1, ?_⟩
      rw [← h.1]
      exact Classical.not_not.1 h2
theorem valDec_bad {s : Bs} {v : ValS} {E : Int} (h : valDec s = (v, E)) (h0 : E ≠ 0) : (decE s = E) ∨ (decE s = 0 ∧ (decI s).valF.1.err = E) := by
  unfold valDec at h
  by_cases h1 : decE s ≠ 0
  · rw [if_pos h1] at h
    simp only [Prod.mk.injEq] at h
    exact .inl h.2
  · rw [if_neg h1] at h
    have h1 := Classical.not_not.1 h1
    by_cases h2 : (decI s).valF.1.err ≠ 0
    · rw [if_pos h2] at h
      simp only [Prod.mk.injEq] at h
      exact .inr ⟨h1, h.2⟩
    · rw [if_neg h2] at h
      simp only [Prod.mk.injEq] at h
      exact absurd h.2.symm h0

end Go.Proofs.YthppodbjjfkmfaaDoor

/- Numbers and texts, read. -/
namespace Go.Proofs.YthppodbjjfkmfaaDoor
open Go.RowKit

theorem cnt_nat (i : InS) (each : Nat) : (i.count 4 each).1 = ((i.cnt each).1 : Int) ∧ (i.cnt each).1 ≤ 2147483647 := by
  have hr : -2147483648 ≤ (i.int 4).1 ∧ (i.int 4).1 < 2147483648 := by
    have e4 : half (4 : Int).toNat = 2147483648 := by decide
    by_cases hi : i.err = 0
    · obtain ⟨s, pos, er⟩ := i
      simp only at hi
      subst hi
      unfold InS.int
      rw [if_neg (by decide)]
      simp only
      unfold InS.take
      split
      · show -2147483648 ≤ sInt [] ∧ sInt [] < 2147483648; decide
      · split
        · show -2147483648 ≤ sInt [] ∧ sInt [] < 2147483648; decide
        · split
          · show -2147483648 ≤ sInt [] ∧ sInt [] < 2147483648; decide
          · rename_i h1 h2 h3
            have hl : (((s.drop pos)).take (4 : Int).toNat).length = 4 := by
              rw [List.length_take, List.length_drop]
              simp only [InS.left] at h3
              have : (4 : Int).toNat = 4 := rfl
              omega
            have h6 := sInt_fits _ 4 (by decide) (by decide) hl
            have h7 := h6.2.2
            have e5 : half ((4 : Nat) : Int).toNat = 2147483648 := by decide
            rw [e5] at h7
            exact h7
    · rw [int_stuck i hi]; show (-2147483648 : Int) ≤ 0 ∧ (0 : Int) < 2147483648; decide
  have h0 : 0 ≤ (i.count 4 each).1 ∧ (i.count 4 each).1 < 2147483648 := by
    unfold InS.count
    simp only
    split
    · simp
    · split
      · simp
      · omega
  unfold InS.cnt
  simp only
  omega
theorem s_intV (p : Nat) (i j : InS) (x : Int) (size : Int) (hx : i.int size = (x, j)) {W0 w : World} {K : Know} {L : List Res} (h : St W0 w K (.inp p i :: L)) :
    Calls Tryd.prog 32 #[inPtr p, .int .i64 size] w fun en w' => en = .returned (.int .i64 x) ∧ St W0 w' K (.inp p j :: L) := by
  have h2 := s_int p i size h
  rw [hx] at h2
  exact h2
theorem s_errV (p : Nat) (i : InS) (e : Int) (hx : i.err = e) {W0 w : World} {K : Know} {L : List Res} (h : St W0 w K (.inp p i :: L)) :
    Calls Tryd.prog 35 #[inPtr p] w fun en w' => en = .returned (.int .i64 e) ∧ St W0 w' K (.inp p i :: L) := by
  subst hx; exact s_err p i h
theorem blob_textV (p : Nat) (i j : InS) (s : Bs) (hx : i.text = (s, j)) {W0 w : World} {K : Know} {L : List Res} (h : St W0 w K (.inp p i :: L)) :
    Calls Tryd.prog 39 #[inPtr p] w fun en w' => en = .returned (.string (bb s)) ∧ St W0 w' K (.inp p j :: L) := by
  have h2 := blob_text p i h
  rw [hx] at h2
  exact h2
theorem elem_int : ElemT Tryd.prog 3 (.int .i64 0) 1 8 := elemT_of (by kernel_rfl) rfl (by decide)
theorem tops_nil (K : Know) : K.has (K.and (Know.tops (.slice none 0 0) [])) := fun _ _ h => ⟨h, ⟨none, 0, rfl, fun h => absurd h (by simp)⟩, fun x hx => by cases hx⟩

end Go.Proofs.YthppodbjjfkmfaaDoor

/- Topics, read. -/
namespace Go.Proofs.YthppodbjjfkmfaaDoor
open Go.RowKit

end Go.Proofs.YthppodbjjfkmfaaDoor

/- Contracts of package control. -/
namespace Go.Proofs.YthppodbjjfkmfaaDoor
open Go.RowKit

end Go.Proofs.YthppodbjjfkmfaaDoor

/- Contracts: control records. -/
namespace Go.Proofs.YthppodbjjfkmfaaDoor
open Go.RowKit

theorem know_nil0 {α : Type} (R : List Value → α → Prop) (sz : Nat) (K : Know) : K.has (Know.flat R (.slice none 0 0) sz []) := fun _ _ _ => ⟨none, 0, rfl, fun h => absurd h (by simp)⟩

def ctlRead (n1 n2 : Bool) (d1 d2 : Bs) (many o : Int) : Int × Int × Int :=
  if n1 = true ∨ n2 = true ∨ many ≠ 0 ∨ o ≠ 0 then (0, 0, 12)
  else if (verRd 2 way 12 d1).2 ≠ 0 then (0, 0, (verRd 2 way 12 d1).2)
  else if (verRd 4 time0 11 d2).2 ≠ 0 then (0, 0, (verRd 4 time0 11 d2).2)
  else ((verRd 2 way 12 d1).1, (verRd 4 time0 11 d2).1, 0)

end Go.Proofs.YthppodbjjfkmfaaDoor

/- Batches (pure): which may be. -/
namespace Go.Proofs.YthppodbjjfkmfaaDoor
open Go.RowKit

structure BatS where
  base : Int
  leader : Int
  app : Bool
  txn : Bool
  ctl : Bool
  last : Int
  first : Int
  maxt : Int
  prod : Int
  epoch : Int
  seq : Int
  recs : List RecS
deriving DecidableEq
def BatS.zero : BatS := ⟨0, 0, false, false, false, 0, 0, 0, 0, 0, 0, []⟩
def Rn (n : Int) : Prop := -9223372036854775808 ≤ n ∧ n < 9223372036854775808
def BatS.R (b : BatS) : Prop := Rn b.base ∧ Rn b.leader ∧ Rn b.last ∧ Rn b.first ∧ Rn b.maxt ∧ Rn b.prod ∧ Rn b.epoch ∧ Rn b.seq
def BatS.placed (b : BatS) : Bool := decide (0 ≤ b.base ∧ (-1 ≤ b.leader ∧ b.leader ≤ 2147483647) ∧ (0 ≤ b.last ∧ b.last ≤ 2147483647) ∧ b.base ≤ 9223372036854775807 - b.last ∧ 0 ≤ b.first ∧ 0 ≤ b.maxt)
def BatS.signed (b : BatS) : Bool :=
  if b.prod = -1 then decide (b.epoch = -1 ∧ b.seq = -1 ∧ b.txn = false)
  else if b.prod < 0 ∨ ¬ (0 ≤ b.epoch ∧ b.epoch ≤ 32767) then false
  else if b.ctl then decide (b.seq = -1)
  else decide (0 ≤ b.seq ∧ b.seq ≤ 2147483647)
/-- The greatest time of records behind a first one, or why their places and times may not be. -/
def rowsC (first last : Int) : List RecS → Int → Int → Except Int Int
  | [], _, g => .ok g
  | r :: t, ah, g => if r.off ≤ ah ∨ last < r.off then .error 13 else if r.time < -first ∨ 9223372036854775807 - first < r.time then .error 11 else rowsC first last t r.off (max g (first + r.time))
def rowsE (app : Bool) (maxt : Int) (r : Except Int Int) : Int := match r with
  | .error e => e
  | .ok g => if app = false ∧ maxt ≠ g then 11 else 0
def BatS.rows (b : BatS) : Int := rowsE b.app b.maxt (rowsC b.first b.last b.recs (-1) b.first)
def recsC : List RecS → Int
  | [] => 0
  | r :: t => if recOk r = 0 then recsC t else recOk r
def ctlOf (r : RecS) : Int × Int × Int := ctlRead r.key.null r.val.null r.key.data r.val.data r.hdrs.length r.off
def BatS.ends (b : BatS) : Int := match b.recs with | [] => 0 | r :: _ => (ctlOf r).2.2
def batErr (b : BatS) : Int :=
  if b.placed = false then 11
  else if b.ctl = true ∧ b.txn = false then 8
  else if b.signed = false then 11
  else if b.ctl = true ∧ b.recs.length ≠ 1 then 10
  else if recsC b.recs ≠ 0 then recsC b.recs
  else if b.ctl = true ∧ b.ends ≠ 0 then b.ends
  else b.rows

end Go.Proofs.YthppodbjjfkmfaaDoor

/- Batches (pure): rows. -/
namespace Go.Proofs.YthppodbjjfkmfaaDoor
open Go.RowKit

def FitB (l : List (RecS × Value)) : Prop := ∀ x ∈ l, x.1.R ∧ HFit x.1.hdrs ∧ x.1.sum ≤ 1000000
theorem sum_hdrs {x : RecS} (h : x.sum ≤ 1000000) : x.hdrs.length ≤ 1000000 := by have := hsum_le x.hdrs; unfold RecS.sum at h; omega
theorem sum_data {x : RecS} (h : x.sum ≤ 1000000) : x.key.data.length ≤ 140737488355328 ∧ x.val.data.length ≤ 140737488355328 := by unfold RecS.sum at h; omega
theorem drop_recs (l : List (RecS × Value)) (k : Nat) (h : k < l.length) (x : RecS) (hx : l[k].1 = x) : (l.map (·.1)).drop k = x :: (l.map (·.1)).drop (k + 1) := by
  subst hx
  rw [List.drop_eq_getElem_cons (by simpa using h), List.getElem_map]
def GOf (r : Except Int Int) : Int := match r with | .ok g => g | .error _ => 0
theorem rowsC_cons (first last : Int) (r : RecS) (t : List RecS) (ah g : Int) : rowsC first last (r :: t) ah g = if r.off ≤ ah ∨ last < r.off then .error 13 else if r.time < -first ∨ 9223372036854775807 - first < r.time then .error 11 else rowsC first last t r.off (max g (first + r.time)) := rfl

end Go.Proofs.YthppodbjjfkmfaaDoor

/- Ends of transactions as batches (pure). -/
namespace Go.Proofs.YthppodbjjfkmfaaDoor
open Go.RowKit

theorem rc_cell_tmp {P : Program} {fn : Func} {p t : Tmp} {ty : TypeId} (h : fn.results = #[.cell p ty, .tmp t]) (tmps : Array Value) (w : World) (b : Nat) (cs : List Value) (d : TypeDesc)
    (hp : tmps.getD p undef = .pointer (some ⟨b, 0, none⟩)) (hc : w.rangeAt b 0 cs) (hu : P.underlying ty = some d) (hd : d.isRow = true) (hi : (P.info? ty).map (·.size) = some cs.length) :
    (results fn tmps).run P w = .ok (.tuple #[.agg cs.toArray, tmps.getD t undef]) w := by
  have hp' : tmps[p]?.getD undef = .pointer (some ⟨b, 0, none⟩) := by simpa using hp
  simp [results, h, hp', asAddr, run_loadVar_mid w b 0 ty cs d hc hu hd hi]
theorem rc_cell_only {P : Program} {fn : Func} {p : Tmp} {ty : TypeId} (h : fn.results = #[.cell p ty]) (tmps : Array Value) (w : World) (b : Nat) (cs : List Value) (d : TypeDesc)
    (hp : tmps.getD p undef = .pointer (some ⟨b, 0, none⟩)) (hc : w.rangeAt b 0 cs) (hu : P.underlying ty = some d) (hd : d.isRow = true) (hi : (P.info? ty).map (·.size) = some cs.length) :
    (results fn tmps).run P w = .ok (.agg cs.toArray) w := by
  have hp' : tmps[p]?.getD undef = .pointer (some ⟨b, 0, none⟩) := by simpa using hp
  simp [results, h, hp', asAddr, run_loadVar_mid w b 0 ty cs d hc hu hd hi]
theorem rc_range {W0 w : World} {K : Know} {L : List Res} {b : Nat} {c : List Value} {T : TypeId} (h : St W0 w K (.raw b c.toArray T :: L)) : w.rangeAt b 0 c := by
  intro j v hv
  rw [Nat.zero_add, h.rawCell j]
  simpa using hv
theorem raw5e {W0 w : World} {K : Know} {L : List Res} {b : Nat} {a0 a1 a2 a3 a4 : Value} {T : TypeId} (h : St W0 w K (.raw b #[a0, a1, a2, a3, a4] T :: L)) :
    (w.cell? ⟨b, 0, none⟩ = some a0 ∧ w.cell? ⟨b, 1, none⟩ = some a1 ∧ w.cell? ⟨b, 2, none⟩ = some a2 ∧ w.cell? ⟨b, 3, none⟩ = some a3 ∧ w.cell? ⟨b, 4, none⟩ = some a4) ∧
    (w.frozen? ⟨b, 0, none⟩ = false ∧ w.frozen? ⟨b, 1, none⟩ = false ∧ w.frozen? ⟨b, 2, none⟩ = false ∧ w.frozen? ⟨b, 3, none⟩ = false ∧ w.frozen? ⟨b, 4, none⟩ = false) :=
  ⟨⟨(h.rawCell 0).trans rfl, (h.rawCell 1).trans rfl, (h.rawCell 2).trans rfl, (h.rawCell 3).trans rfl, (h.rawCell 4).trans rfl⟩, h.rawFree 0, h.rawFree 1, h.rawFree 2, h.rawFree 3, h.rawFree 4⟩
theorem St.sets12 {W0 w : World} {K : Know} {L : List Res} {b : Nat} {T : TypeId} {a0 a1 a2 a3 a4 a5 a6 a7 a8 a9 a10 a11 : Value} (v0 v1 v2 v3 v4 v5 v6 v7 v8 v9 v10 v11 : Value) (h : St W0 w K (.raw b #[a0, a1, a2, a3, a4, a5, a6, a7, a8, a9, a10, a11] T :: L)) : St W0 ((((((((((((w.setCell ⟨b, 0, none⟩ v0).setCell ⟨b, 1, none⟩ v1).setCell ⟨b, 2, none⟩ v2).setCell ⟨b, 3, none⟩ v3).setCell ⟨b, 4, none⟩ v4).setCell ⟨b, 5, none⟩ v5).setCell ⟨b, 6, none⟩ v6).setCell ⟨b, 7, none⟩ v7).setCell ⟨b, 8, none⟩ v8).setCell ⟨b, 9, none⟩ v9).setCell ⟨b, 10, none⟩ v10).setCell ⟨b, 11, none⟩ v11) K (.raw b #[v0, v1, v2, v3, v4, v5, v6, v7, v8, v9, v10, v11] T :: L) := by
  have h : St W0 _ K (.raw b #[v0, a1, a2, a3, a4, a5, a6, a7, a8, a9, a10, a11] T :: L) := h.rawSet 0 v0
  have h : St W0 _ K (.raw b #[v0, v1, a2, a3, a4, a5, a6, a7, a8, a9, a10, a11] T :: L) := h.rawSet 1 v1
  have h : St W0 _ K (.raw b #[v0, v1, v2, a3, a4, a5, a6, a7, a8, a9, a10, a11] T :: L) := h.rawSet 2 v2
  have h : St W0 _ K (.raw b #[v0, v1, v2, v3, a4, a5, a6, a7, a8, a9, a10, a11] T :: L) := h.rawSet 3 v3
  have h : St W0 _ K (.raw b #[v0, v1, v2, v3, v4, a5, a6, a7, a8, a9, a10, a11] T :: L) := h.rawSet 4 v4
  have h : St W0 _ K (.raw b #[v0, v1, v2, v3, v4, v5, a6, a7, a8, a9, a10, a11] T :: L) := h.rawSet 5 v5
  have h : St W0 _ K (.raw b #[v0, v1, v2, v3, v4, v5, v6, a7, a8, a9, a10, a11] T :: L) := h.rawSet 6 v6
  have h : St W0 _ K (.raw b #[v0, v1, v2, v3, v4, v5, v6, v7, a8, a9, a10, a11] T :: L) := h.rawSet 7 v7
  have h : St W0 _ K (.raw b #[v0, v1, v2, v3, v4, v5, v6, v7, v8, a9, a10, a11] T :: L) := h.rawSet 8 v8
  have h : St W0 _ K (.raw b #[v0, v1, v2, v3, v4, v5, v6, v7, v8, v9, a10, a11] T :: L) := h.rawSet 9 v9
  have h : St W0 _ K (.raw b #[v0, v1, v2, v3, v4, v5, v6, v7, v8, v9, v10, a11] T :: L) := h.rawSet 10 v10
  have h : St W0 _ K (.raw b #[v0, v1, v2, v3, v4, v5, v6, v7, v8, v9, v10, v11] T :: L) := h.rawSet 11 v11
  exact h
/-- How a batch ends a transaction: whose, of which epoch, how, when, by whom, and that it does. -/
def endOf (b : BatS) : Int × Int × Int × Int × Int × Bool :=
  if b.ctl = true ∧ batErr b = 0 then match b.recs with
    | x :: _ => (b.prod, b.epoch, (ctlOf x).1, b.first + x.time, (ctlOf x).2.1, true)
    | [] => (0, 0, 0, 0, 0, false)
  else (0, 0, 0, 0, 0, false)
theorem rowsC_time {first last : Int} {x : RecS} {t : List RecS} {ah g g2 : Int} (h : rowsC first last (x :: t) ah g = .ok g2) : -first ≤ x.time ∧ x.time ≤ 9223372036854775807 - first := by
  rw [rowsC_cons] at h
  by_cases c1 : x.off ≤ ah ∨ last < x.off
  · rw [if_pos c1] at h; cases h
  rw [if_neg c1] at h
  by_cases c2 : x.time < -first ∨ 9223372036854775807 - first < x.time
  · rw [if_pos c2] at h; cases h
  omega
theorem batErr_ctl (b : BatS) (h : batErr b = 0) (hc : b.ctl = true) : ∃ x, b.recs = [x] ∧ (ctlOf x).2.2 = 0 ∧ (-b.first ≤ x.time ∧ x.time ≤ 9223372036854775807 - b.first) ∧ 0 ≤ b.first := by
  unfold batErr at h
  by_cases p1 : b.placed = false
  · rw [if_pos p1] at h; cases h
  rw [if_neg p1] at h
  by_cases p2 : b.ctl = true ∧ b.txn = false
  · rw [if_pos p2] at h; cases h
  rw [if_neg p2] at h
  by_cases p3 : b.signed = false
  · rw [if_pos p3] at h; cases h
  rw [if_neg p3] at h
  by_cases p4 : b.ctl = true ∧ b.recs.length ≠ 1
  · rw [if_pos p4] at h; cases h
  rw [if_neg p4] at h
  by_cases p5 : recsC b.recs ≠ 0
  · rw [if_pos p5] at h; exact absurd h p5
  rw [if_neg p5] at h
  by_cases p6 : b.ctl = true ∧ b.ends ≠ 0
  · rw [if_pos p6] at h; exact absurd h p6.2
  rw [if_neg p6] at h
  have hl : b.recs.length = 1 := by
    by_cases hh : b.recs.length = 1
    · exact hh
    · exact absurd ⟨hc, hh⟩ p4
  obtain ⟨x, hx⟩ := List.length_eq_one_iff.1 hl
  have hp : b.placed = true := by cases hh : b.placed with
    | false => exact absurd hh p1
    | true => rfl
  have hp2 := (of_decide_eq_true hp).2.2.2.2.1
  have he : b.ends = 0 := by
    by_cases hh : b.ends = 0
    · exact hh
    · exact absurd ⟨hc, hh⟩ p6
  unfold BatS.ends at he
  rw [hx] at he
  refine ⟨x, hx, he, ?_, hp2⟩
  unfold BatS.rows at h
  rw [hx] at h
  cases hr : rowsC b.first b.last [x] (-1) b.first with
  | error e =>
    rw [hr] at h
    have h : e = 0 := h
    subst h
    rw [rowsC_cons] at hr
    by_cases c1 : x.off ≤ -1 ∨ b.last < x.off
    · rw [if_pos c1] at hr; cases hr
    rw [if_neg c1] at hr
    by_cases c2 : x.time < -b.first ∨ 9223372036854775807 - b.first < x.time
    · rw [if_pos c2] at hr; cases hr
    rw [if_neg c2] at hr
    cases hr
  | ok g => exact rowsC_time hr

end Go.Proofs.YthppodbjjfkmfaaDoor

/- The fields of a value, read. -/
namespace Go.Proofs.YthppodbjjfkmfaaDoor
open Go.RowKit

end Go.Proofs.YthppodbjjfkmfaaDoor

/- Values, decoded. -/
namespace Go.Proofs.YthppodbjjfkmfaaDoor
open Go.RowKit

theorem St.sets7 {W0 w : World} {K : Know} {L : List Res} {b : Nat} {T : TypeId} {a0 a1 a2 a3 a4 a5 a6 : Value} (v0 v1 v2 v3 v4 v5 v6 : Value) (h : St W0 w K (.raw b #[a0, a1, a2, a3, a4, a5, a6] T :: L)) : St W0 (((((((w.setCell ⟨b, 0, none⟩ v0).setCell ⟨b, 1, none⟩ v1).setCell ⟨b, 2, none⟩ v2).setCell ⟨b, 3, none⟩ v3).setCell ⟨b, 4, none⟩ v4).setCell ⟨b, 5, none⟩ v5).setCell ⟨b, 6, none⟩ v6) K (.raw b #[v0, v1, v2, v3, v4, v5, v6] T :: L) := by
  have h : St W0 _ K (.raw b #[v0, a1, a2, a3, a4, a5, a6] T :: L) := h.rawSet 0 v0
  have h : St W0 _ K (.raw b #[v0, v1, a2, a3, a4, a5, a6] T :: L) := h.rawSet 1 v1
  have h : St W0 _ K (.raw b #[v0, v1, v2, a3, a4, a5, a6] T :: L) := h.rawSet 2 v2
  have h : St W0 _ K (.raw b #[v0, v1, v2, v3, a4, a5, a6] T :: L) := h.rawSet 3 v3
  have h : St W0 _ K (.raw b #[v0, v1, v2, v3, v4, a5, a6] T :: L) := h.rawSet 4 v4
  have h : St W0 _ K (.raw b #[v0, v1, v2, v3, v4, v5, a6] T :: L) := h.rawSet 5 v5
  have h : St W0 _ K (.raw b #[v0, v1, v2, v3, v4, v5, v6] T :: L) := h.rawSet 6 v6
  exact h
theorem s_failV (p : Nat) (i j : InS) (e : Int) (hx : i.fail e = j) {W0 w : World} {K : Know} {L : List Res} (h : St W0 w K (.inp p i :: L)) :
    Calls Tryd.prog 33 #[inPtr p, .int .i64 e] w fun en w' => en = .returned (.tuple #[]) ∧ St W0 w' K (.inp p j :: L) := by
  subst hx; exact s_fail p i e h
theorem s_closeV (p : Nat) (i : InS) (e : Int) (hx : i.close.err = e) {W0 w : World} {K : Know} {L : List Res} (h : St W0 w K (.inp p i :: L)) :
    Calls Tryd.prog 16 #[inPtr p] w fun en w' => en = .returned (.int .i64 e) ∧ St W0 w' K (.inp p i.close :: L) := by
  subst hx; exact s_close p i h
end Go.Proofs.YthppodbjjfkmfaaDoor

/- Parts of requests of transactions. -/
namespace Go.Proofs.YthppodbjjfkmfaaDoor
open Go.RowKit

set_option maxHeartbeats 1000000 in
set_option maxRecDepth 100000 in
theorem txn_who (p e : Int) (r : Bool) (hr : who p e = r) {W0 w : World} {K : Know} {L : List Res} (h : St W0 w K L) :
    Calls Tryd.prog 45 #[.int .i64 p, .int .i64 e] w fun en w' => en = .returned (.bool r) ∧ St W0 w' K L := by
  have H := Lib.hid h
  clear h
  cases r with
  | true =>
    obtain ⟨h1, h2, h3⟩ := who_t hr
    clear hr

    go_enter Tryd.func45, Tryd.ntmps45
    go_wp2
    go_ret
    exact ⟨rfl, H.out⟩
  | false =>
    by_cases h1 : p < 0
    · have g1 : ¬ (0 ≤ p) := by omega
      clear hr

      go_enter Tryd.func45, Tryd.ntmps45
      go_wp2
      go_ret
      exact ⟨rfl, H.out⟩
    · have g1 : 0 ≤ p := by omega
      by_cases h2 : e < 0
      · have g2 : ¬ (0 ≤ e) := by omega
        clear hr

        go_enter Tryd.func45, Tryd.ntmps45
        go_wp2
        go_ret
        exact ⟨rfl, H.out⟩
      · have g2 : 0 ≤ e := by omega
        have g3 : ¬ (e ≤ 32767) := by rcases who_f hr with h | h | h <;> omega
        clear hr

        go_enter Tryd.func45, Tryd.ntmps45
        go_wp2
        go_ret
        exact ⟨rfl, H.out⟩

set_option maxHeartbeats 1000000 in
set_option maxRecDepth 100000 in
theorem s_bool (b : Nat) (i j : InS) (c : Bool) (hx : i.boolP = (c, j)) {W0 w : World} {K : Know} {L : List Res} (h : St W0 w K (.inp b i :: L)) :
    Calls Tryd.prog 40 #[inPtr b] w fun en w' => en = .returned (.bool c) ∧ St W0 w' K (.inp b j :: L) := by
  have H := Lib.hid h
  clear h
  obtain ⟨⟨n, k⟩, hn⟩ : ∃ r, i.int 1 = r := ⟨_, rfl⟩
  have HN := Lib.hid hn
  unfold InS.boolP at hx
  rw [hn] at hx
  simp only [Prod.mk.injEq] at hx
  obtain ⟨hc, hj⟩ := hx
  clear hn
  by_cases h0 : n = 0
  · rw [if_neg (by omega)] at hj
    subst h0 hj hc
    go_enter Tryd.func40, Tryd.ntmps40
    go_wp2_with (go_at_call 32; (with_reducible refine (s_intV b _ _ _ 1 HN.out H.out).mono ?_); rintro e_ wn ⟨rfl, h⟩; replace H := Lib.hid h; clear h)
    go_ret
    exact ⟨rfl, H.out⟩
  · by_cases h1 : n = 1
    · rw [if_neg (by omega)] at hj
      subst h1 hj hc
      go_enter Tryd.func40, Tryd.ntmps40
      go_wp2_with (go_at_call 32; (with_reducible refine (s_intV b _ _ _ 1 HN.out H.out).mono ?_); rintro e_ wn ⟨rfl, h⟩; replace H := Lib.hid h; clear h)
      go_ret
      exact ⟨rfl, H.out⟩
    · rw [if_pos ⟨h0, h1⟩] at hj
      have g0 : (n == 0) = false := by rw [beq_eq_false_iff_ne]; exact h0
      have g00 : (n != 0) = true := by simp [bne, g0]
      have g1 : (n == 1) = false := by rw [beq_eq_false_iff_ne]; exact h1
      have g11 : (n != 1) = true := by simp [bne, g1]
      rw [g1] at hc
      subst hc
      have HJ := Lib.hid hj
      clear hj h0 h1
      go_enter Tryd.func40, Tryd.ntmps40
      go_wp2_with (first
    | (go_at_call 32; (with_reducible refine (s_intV b _ _ _ 1 HN.out H.out).mono ?_); rintro e_ wn ⟨rfl, h⟩; replace H := Lib.hid h; clear h)
    | (go_at_call 33; (with_reducible refine (s_failV b _ _ 11 HJ.out H.out).mono ?_); rintro e_ wn ⟨rfl, h⟩; replace H := Lib.hid h; clear h))
      go_ret
      exact ⟨rfl, H.out⟩
theorem so_byteV (b : Nat) (e e2 : Bs) (c : UInt8) (n : Int) (hn : n = c.toNat) (he : e ++ [c] = e2) (hl : e.length ≤ 100000000000000) {W0 w : World} {K : Know} {L : List Res} (h : St W0 w K (.out b ⟨e, 0⟩ :: L)) :
    Calls Tryd.prog 42 #[outPtr b, .int .u8 n] w fun en w' => en = .returned (.tuple #[]) ∧ St W0 w' K (.out b ⟨e2, 0⟩ :: L) := by
  subst he hn; exact so_byte b ⟨e, 0⟩ c h (by unfold OutS.ok; simp only; omega)
set_option maxHeartbeats 1000000 in
set_option maxRecDepth 100000 in
theorem txn_putBool (b : Nat) (e e2 : Bs) (c : Bool) (he : e ++ encO c = e2) (hl : e.length ≤ 100000000000000) {W0 w : World} {K : Know} {L : List Res} (h : St W0 w K (.out b ⟨e, 0⟩ :: L)) :
    Calls Tryd.prog 31 #[outPtr b, .bool c] w fun en w' => en = .returned (.tuple #[]) ∧ St W0 w' K (.out b ⟨e2, 0⟩ :: L) := by
  have H := Lib.hid h
  have HE := Lib.hid he
  have HL := Lib.hid hl
  clear h he hl
  cases c with
  | true =>
    have HE2 : Hid (e ++ [1] = e2) := Lib.hid HE.out
    have HN2 := Lib.hid (show (1 : Int) = ((1 : UInt8).toNat : Int) by decide)
    go_enter Tryd.func31, Tryd.ntmps31
    go_wp2_with (go_at_call 42; (with_reducible refine (so_byteV b e e2 1 1 HN2.out HE2.out HL.out H.out).mono ?_); rintro e_ wn ⟨rfl, h⟩; replace H := Lib.hid h; clear h)
    go_end0
    exact ⟨rfl, H.out⟩
  | false =>
    have HE2 : Hid (e ++ [0] = e2) := Lib.hid HE.out
    have HN2 := Lib.hid (show (0 : Int) = ((0 : UInt8).toNat : Int) by decide)
    go_enter Tryd.func31, Tryd.ntmps31
    go_wp2_with (go_at_call 42; (with_reducible refine (so_byteV b e e2 0 0 HN2.out HE2.out HL.out H.out).mono ?_); rintro e_ wn ⟨rfl, h⟩; replace H := Lib.hid h; clear h)
    go_end0
    exact ⟨rfl, H.out⟩
set_option maxHeartbeats 1000000 in
set_option maxRecDepth 100000 in
theorem txn_checkWriter (id : Bs) (p e : Int) (r : Int) (hr : chkW id p e = r) (hl : id.length ≤ 140737488355328) {W0 w : World} {K : Know} {L : List Res} (h : St W0 w K L) :
    Calls Tryd.prog 24 #[.string (bb id), .int .i64 p, .int .i64 e] w fun en w' => en = .returned (.int .i64 r) ∧ St W0 w' K L := by
  have H := Lib.hid h
  have HL := Lib.hid hl
  unfold chkW at hr
  obtain ⟨a, ha⟩ : ∃ a, keyRight id = a := ⟨_, rfl⟩
  obtain ⟨c, hc⟩ : ∃ c, who p e = c := ⟨_, rfl⟩
  have HA := Lib.hid ha
  have HC := Lib.hid hc
  rw [ha, hc] at hr
  clear h hl ha hc
  cases a with
  | false =>
    obtain rfl : (4 : Int) = r := hr
    go_enter Tryd.func24, Tryd.ntmps24
    go_wp2_with (go_at_call 28; (with_reducible refine (key_right' id _ HL.out HA.out H.out).mono ?_); rintro e_ wn ⟨rfl, h⟩; replace H := Lib.hid h; clear h)
    go_ret
    exact ⟨rfl, H.out⟩
  | true =>
    cases c with
    | false =>
      obtain rfl : (11 : Int) = r := hr
      go_enter Tryd.func24, Tryd.ntmps24
      go_wp2_with (first
    | (go_at_call 28; (with_reducible refine (key_right' id _ HL.out HA.out H.out).mono ?_); rintro e_ wn ⟨rfl, h⟩; replace H := Lib.hid h; clear h)
    | (go_at_call 45; (with_reducible refine (txn_who p e _ HC.out H.out).mono ?_); rintro e_ wn ⟨rfl, h⟩; replace H := Lib.hid h; clear h))
      go_ret
      exact ⟨rfl, H.out⟩
    | true =>
      obtain rfl : (0 : Int) = r := hr
      go_enter Tryd.func24, Tryd.ntmps24
      go_wp2_with (first
    | (go_at_call 28; (with_reducible refine (key_right' id _ HL.out HA.out H.out).mono ?_); rintro e_ wn ⟨rfl, h⟩; replace H := Lib.hid h; clear h)
    | (go_at_call 45; (with_reducible refine (txn_who p e _ HC.out H.out).mono ?_); rintro e_ wn ⟨rfl, h⟩; replace H := Lib.hid h; clear h))
      go_ret
      exact ⟨rfl, H.out⟩
set_option maxHeartbeats 1000000 in
set_option maxRecDepth 100000 in
theorem end_check (id : Bs) (p e : Int) (c : Bool) (r : Int) (hr : chkW id p e = r) (hl : id.length ≤ 140737488355328) {W0 w : World} {K : Know} {L : List Res} (h : St W0 w K L) :
    Calls Tryd.prog 7 #[.agg #[.string (bb id), .int .i64 p, .int .i64 e, .bool c]] w fun en w' => en = .returned (.int .i64 r) ∧ St W0 w' K L := by
  have h0 := h.allocRaw #[.string (bb id), .int .i64 p, .int .i64 e, .bool c] 29
  have H := Lib.hid h0
  have HR := Lib.hid hr
  have HL := Lib.hid hl
  clear h h0 hr hl
  go_enter Tryd.func7, Tryd.ntmps7
  go_wp2_with (go_at_call 24; (with_reducible refine (txn_checkWriter id p e _ HR.out HL.out H.out).mono ?_); rintro e_ wn ⟨rfl, h⟩; replace H := Lib.hid h; clear h)
  go_ret
  exact ⟨rfl, H.out.drop⟩

end Go.Proofs.YthppodbjjfkmfaaDoor

/- Ends of transactions, written. -/
namespace Go.Proofs.YthppodbjjfkmfaaDoor
open Go.RowKit

theorem so_failT (p : Nat) (o o2 : OutS) (e : Int) (hx : o.fail e = o2) {W0 w : World} {K : Know} {L : List Res} (h : St W0 w K (.out p o :: L)) :
    Calls Tryd.prog 21 #[outPtr p, .int .i64 e] w fun en w' => en = .returned (.tuple #[]) ∧ St W0 w' K (.out p o2 :: L) := by
  subst hx; exact so_fail p o e h
set_option maxHeartbeats 1000000 in
set_option maxRecDepth 100000 in
theorem may_end (b : Nat) (o o2 : OutS) (id : Bs) (p e : Int) (c : Bool) (r : Int) (t : Bool) (hr : chkW id p e = r) (ht : (r == 0) = t) (ho : (if r = 0 then o else o.fail r) = o2) (hl : id.length ≤ 140737488355328) {W0 w : World} {K : Know} {L : List Res} (h : St W0 w K (.out b o :: L)) :
    Calls Tryd.prog 25 #[outPtr b, .func (.func 7) #[.agg #[.string (bb id), .int .i64 p, .int .i64 e, .bool c]] #[]] w fun en w' => en = .returned (.bool t) ∧ St W0 w' K (.out b o2 :: L) := by
  have H := Lib.hid h
  have HR := Lib.hid hr
  have HL := Lib.hid hl
  clear h hr hl
  by_cases h0 : r = 0
  · rw [if_pos h0] at ho
    subst ho h0
    obtain rfl : true = t := ht
    go_enter Tryd.func25, Tryd.ntmps25
    go_wp2_with (go_at_call 7; go_loud ((with_reducible refine (end_check id p e c _ HR.out HL.out H.out).mono ?_)); rintro e_ wn ⟨rfl, h⟩; replace H := Lib.hid h; clear h)
    go_ret
    exact ⟨rfl, H.out⟩
  · rw [if_neg h0] at ho
    have HO := Lib.hid ho
    have g0 : (r == 0) = false := by rw [beq_eq_false_iff_ne]; exact h0
    have g00 : (r != 0) = true := by simp [bne, g0]
    rw [g0] at ht
    subst ht
    clear ho h0
    go_enter Tryd.func25, Tryd.ntmps25
    go_wp2_with (first
    | (go_at_call 7; (with_reducible refine (end_check id p e c _ HR.out HL.out H.out).mono ?_); rintro e_ wn ⟨rfl, h⟩; replace H := Lib.hid h; clear h)
    | (go_at_call 21; (with_reducible refine (so_failT b _ _ _ HO.out H.out).mono ?_); rintro e_ wn ⟨rfl, h⟩; replace H := Lib.hid h; clear h))
    go_ret
    exact ⟨rfl, H.out⟩

end Go.Proofs.YthppodbjjfkmfaaDoor

/- Ends of transactions, written and read. -/
namespace Go.Proofs.YthppodbjjfkmfaaDoor
open Go.RowKit

theorem chkW_ok {id : Bs} {p e : Int} (h : chkW id p e = 0) : keyRight id = true ∧ who p e = true := by
  unfold chkW at h
  by_cases h1 : keyRight id = false
  · rw [if_pos h1] at h; cases h
  · rw [if_neg h1] at h
    by_cases h2 : who p e = false
    · rw [if_pos h2] at h; cases h
    · exact ⟨by simpa using h1, by simpa using h2⟩
set_option maxHeartbeats 1000000 in
set_option maxRecDepth 100000 in
theorem txn_putWriter (b : Nat) (o o1 o2 : Bs) (p e : Int) (h1 : o ++ beBytes p (8 : Int).toNat = o1) (h2 : o1 ++ beBytes e (2 : Int).toNat = o2) (hf8 : fits p 8) (hf2 : fits e 2) (hl : o.length ≤ 100000000) {W0 w : World} {K : Know} {L : List Res} (h : St W0 w K (.out b ⟨o, 0⟩ :: L)) :
    Calls Tryd.prog 27 #[outPtr b, .int .i64 p, .int .i64 e] w fun en w' => en = .returned (.tuple #[]) ∧ St W0 w' K (.out b ⟨o2, 0⟩ :: L) := by
  have H := Lib.hid h
  have H1 := Lib.hid h1
  have H2 := Lib.hid h2
  have HF8 := Lib.hid hf8
  have HF2 := Lib.hid hf2
  have HL := Lib.hid (show o.length ≤ 100000000000000 by omega)
  have HL2 := Lib.hid (show o1.length ≤ 100000000000000 by rw [← h1, List.length_append, beBytes_length]; have : (8 : Int).toNat = 8 := rfl; omega)
  clear h h1 h2 hf8 hf2 hl
  go_enter Tryd.func27, Tryd.ntmps27
  go_wp2_with (first
    | (go_at_call 22; (with_reducible refine (so_intV b o o1 p 8 H1.out HF8.out HL.out H.out).mono ?_); rintro e_ wn ⟨rfl, h⟩; replace H := Lib.hid h; clear h)
    | (go_at_call 22; (with_reducible refine (so_intV b o1 o2 e 2 H2.out HF2.out HL2.out H.out).mono ?_); rintro e_ wn ⟨rfl, h⟩; replace H := Lib.hid h; clear h))
  go_end0
  exact ⟨rfl, H.out⟩
set_option maxHeartbeats 2000000 in
set_option maxRecDepth 100000 in
theorem end_write_ok (b : Nat) (o o1 o2 o3 o4 : Bs) (id : Bs) (p e : Int) (c : Bool) (h1 : o ++ encF 2 ⟨false, id⟩ = o1) (h2 : o1 ++ beBytes p (8 : Int).toNat = o2) (h3 : o2 ++ beBytes e (2 : Int).toNat = o3) (h4 : o3 ++ encO c = o4) (hk : chkW id p e = 0) (hil : id.length ≤ 32767) (hp : p < 9223372036854775808) (hl : o.length ≤ 1000000) {W0 w : World} {K : Know} {L : List Res} (h : St W0 w K (.out b ⟨o, 0⟩ :: L)) :
    Calls Tryd.prog 10 #[.agg #[.string (bb id), .int .i64 p, .int .i64 e, .bool c], outPtr b] w fun en w' => en = .returned (.tuple #[]) ∧ St W0 w' K (.out b ⟨o4, 0⟩ :: L) := by
  have hw := who_t (chkW_ok hk).2
  have h0 := h.allocRaw #[.string (bb id), .int .i64 p, .int .i64 e, .bool c] 29
  have H := Lib.hid h0
  have H1 := Lib.hid h1
  have H2 := Lib.hid h2
  have H3 := Lib.hid h3
  have H4 := Lib.hid h4
  have HK := Lib.hid hk
  have HIL := Lib.hid hil
  have HIL2 := Lib.hid (show id.length ≤ 140737488355328 by omega)
  have HF8 := Lib.hid (vfits8 p (by omega))
  have HF2 := Lib.hid (vfits2 e (by omega))
  have hl1 : o1.length = o.length + (id.length + 2) := by rw [← h1, List.length_append]; unfold encF; rw [List.length_append, beBytes_length]; simp only; omega
  have hl2 : o2.length = o1.length + 8 := by rw [← h2, List.length_append, beBytes_length]; rfl
  have hl3 : o3.length = o2.length + 2 := by rw [← h3, List.length_append, beBytes_length]; rfl
  have HL := Lib.hid (show o.length ≤ 100000000000000 by omega)
  have HL1 := Lib.hid (show o1.length ≤ 100000000 by omega)
  have HL3 := Lib.hid (show o3.length ≤ 100000000000000 by omega)
  have HT := Lib.hid (show ((0 : Int) == 0) = true by rfl)
  have HO := Lib.hid (show (if (0 : Int) = 0 then (⟨o, 0⟩ : OutS) else (⟨o, 0⟩ : OutS).fail 0) = ⟨o, 0⟩ by rfl)
  clear h h0 h1 h2 h3 h4 hk hil hp hl hl1 hl2 hl3 hw
  go_enter Tryd.func10, Tryd.ntmps10
  go_wp2_with (first
    | (go_at_call 25; (with_reducible refine (may_end b _ _ id p e c _ _ HK.out HT.out HO.out HIL2.out H.out.p1).mono ?_); rintro e_ wn ⟨rfl, h⟩; have d0 := h.p1.rawCell 0; have d1 := h.p1.rawCell 1; have d2 := h.p1.rawCell 2; have d3 := h.p1.rawCell 3; simp at d0 d1 d2 d3; replace H := Lib.hid h; clear h)
    | (go_at_call 30; (with_reducible refine (blob_putTextV b o o1 id H1.out HIL.out HL.out H.out).mono ?_); rintro e_ wn ⟨rfl, h⟩; have d0 := h.p1.rawCell 0; have d1 := h.p1.rawCell 1; have d2 := h.p1.rawCell 2; have d3 := h.p1.rawCell 3; simp at d0 d1 d2 d3; replace H := Lib.hid h; clear h)
    | (go_at_call 27; (with_reducible refine (txn_putWriter b o1 o2 o3 p e H2.out H3.out HF8.out HF2.out HL1.out H.out).mono ?_); rintro e_ wn ⟨rfl, h⟩; have d0 := h.p1.rawCell 0; have d1 := h.p1.rawCell 1; have d2 := h.p1.rawCell 2; have d3 := h.p1.rawCell 3; simp at d0 d1 d2 d3; replace H := Lib.hid h; clear h)
    | (go_at_call 31; (with_reducible refine (txn_putBool b o3 o4 c H4.out HL3.out H.out).mono ?_); rintro e_ wn ⟨rfl, h⟩; replace H := Lib.hid h; clear h))
  go_end0
  exact ⟨rfl, H.out.p1.drop⟩
set_option maxHeartbeats 1000000 in
set_option maxRecDepth 100000 in
theorem txn_readWriter (b : Nat) (i i1 i2 : InS) (p e : Int) (h1 : i.int 8 = (p, i1)) (h2 : i1.int 2 = (e, i2)) {W0 w : World} {K : Know} {L : List Res} (h : St W0 w K (.inp b i :: L)) :
    Calls Tryd.prog 36 #[inPtr b] w fun en w' => en = .returned (.tuple #[.int .i64 p, .int .i64 e]) ∧ St W0 w' K (.inp b i2 :: L) := by
  have H := Lib.hid h
  have H1 := Lib.hid h1
  have H2 := Lib.hid h2
  clear h h1 h2
  go_enter Tryd.func36, Tryd.ntmps36
  go_wp2_with (first
    | (go_at_call 32; (with_reducible refine (s_intV b _ _ _ 8 H1.out H.out).mono ?_); rintro e_ wn ⟨rfl, h⟩; replace H := Lib.hid h; clear h)
    | (go_at_call 32; (with_reducible refine (s_intV b _ _ _ 2 H2.out H.out).mono ?_); rintro e_ wn ⟨rfl, h⟩; replace H := Lib.hid h; clear h))
  go_ret2
  exact ⟨rfl, H.out⟩

end Go.Proofs.YthppodbjjfkmfaaDoor

/- Requests of transactions: what is wrong with them. -/
namespace Go.Proofs.YthppodbjjfkmfaaDoor
open Go.RowKit

set_option maxHeartbeats 2000000 in
set_option maxRecDepth 100000 in
theorem beg_was (v : Int) (nl : Bool) (d : Bs) (tm p e : Int) (r : Bool) (hr : was v p e = r) {W0 w : World} {K : Know} {L : List Res} (h : St W0 w K L) :
    Calls Tryd.prog 29 #[.agg #[.bool nl, .string (bb d), .int .i64 tm, .int .i64 p, .int .i64 e], .int .i64 v] w fun en w' => en = .returned (.bool r) ∧ St W0 w' K L := by
  have H := Lib.hid (h.allocRaw #[.bool nl, .string (bb d), .int .i64 tm, .int .i64 p, .int .i64 e] 27)
  subst hr
  obtain ⟨c, hc⟩ : ∃ c, who p e = c := ⟨_, rfl⟩
  have HW := Lib.hid hc
  unfold was
  rw [hc]
  clear h hc
  by_cases h1 : p = -1
  · have g1 : (p == -1) = true := by rw [beq_iff_eq]; exact h1
    by_cases h2 : e = -1
    · have g2 : (e == -1) = true := by rw [beq_iff_eq]; exact h2
      rw [g1, g2]
      clear h1 h2
      go_enter Tryd.func29, Tryd.ntmps29
      go_wp2_with (first
    | (go_at_call 45; (with_reducible refine (txn_who p e _ HW.out H.out).mono ?_); rintro e_ wn ⟨rfl, h⟩; replace H := Lib.hid h; clear h))
      go_ret
      exact ⟨rfl, H.out.drop⟩
    · have g2 : (e == -1) = false := by rw [beq_eq_false_iff_ne]; exact h2
      rw [g1, g2]
      clear h1 h2
      by_cases h3 : v = 1
      · have g3 : (v == 1) = true := by rw [beq_iff_eq]; exact h3
        rw [g3]
        clear h3
        cases c with
        | true =>
          go_enter Tryd.func29, Tryd.ntmps29
          go_wp2_with (first
    | (go_at_call 45; (with_reducible refine (txn_who p e _ HW.out H.out).mono ?_); rintro e_ wn ⟨rfl, h⟩; replace H := Lib.hid h; clear h))
          go_ret
          exact ⟨rfl, H.out.drop⟩
        | false =>
          go_enter Tryd.func29, Tryd.ntmps29
          go_wp2_with (first
    | (go_at_call 45; (with_reducible refine (txn_who p e _ HW.out H.out).mono ?_); rintro e_ wn ⟨rfl, h⟩; replace H := Lib.hid h; clear h))
          go_ret
          exact ⟨rfl, H.out.drop⟩
      · have g3 : (v == 1) = false := by rw [beq_eq_false_iff_ne]; exact h3
        rw [g3]
        clear h3
        go_enter Tryd.func29, Tryd.ntmps29
        go_wp2_with (first
    | (go_at_call 45; (with_reducible refine (txn_who p e _ HW.out H.out).mono ?_); rintro e_ wn ⟨rfl, h⟩; replace H := Lib.hid h; clear h))
        go_ret
        exact ⟨rfl, H.out.drop⟩
  · have g1 : (p == -1) = false := by rw [beq_eq_false_iff_ne]; exact h1
    rw [g1]
    clear h1
    by_cases h3 : v = 1
    · have g3 : (v == 1) = true := by rw [beq_iff_eq]; exact h3
      rw [g3]
      clear h3
      cases c with
      | true =>
        go_enter Tryd.func29, Tryd.ntmps29
        go_wp2_with (first
    | (go_at_call 45; (with_reducible refine (txn_who p e _ HW.out H.out).mono ?_); rintro e_ wn ⟨rfl, h⟩; replace H := Lib.hid h; clear h))
        go_ret
        exact ⟨rfl, H.out.drop⟩
      | false =>
        go_enter Tryd.func29, Tryd.ntmps29
        go_wp2_with (first
    | (go_at_call 45; (with_reducible refine (txn_who p e _ HW.out H.out).mono ?_); rintro e_ wn ⟨rfl, h⟩; replace H := Lib.hid h; clear h))
        go_ret
        exact ⟨rfl, H.out.drop⟩
    · have g3 : (v == 1) = false := by rw [beq_eq_false_iff_ne]; exact h3
      rw [g3]
      clear h3
      go_enter Tryd.func29, Tryd.ntmps29
      go_wp2_with (first
    | (go_at_call 45; (with_reducible refine (txn_who p e _ HW.out H.out).mono ?_); rintro e_ wn ⟨rfl, h⟩; replace H := Lib.hid h; clear h))
      go_ret
      exact ⟨rfl, H.out.drop⟩

theorem blob_rightQT (u : Bool) (d : Bs) (r : Bool) (hr : (⟨u, d⟩ : BlobS).right = r) {W0 w : World} {K : Know} {L : List Res} (h : St W0 w K L) :
    Calls Tryd.prog 20 #[.agg #[.bool u, .string (bb d)]] w fun en w' => en = .returned (.bool r) ∧ St W0 w' K L := by
  subst hr; exact blob_right ⟨u, d⟩ h
set_option maxHeartbeats 8000000 in
set_option maxRecDepth 100000 in
theorem beg_check (v : Int) (nl : Bool) (d : Bs) (tm p e : Int) (r : Int) (hr : begE v nl d tm p e = r) (hl : d.length ≤ 140737488355328) {W0 w : World} {K : Know} {L : List Res} (h : St W0 w K L) :
    Calls Tryd.prog 9 #[.agg #[.bool nl, .string (bb d), .int .i64 tm, .int .i64 p, .int .i64 e], .int .i64 v] w fun en w' => en = .returned (.int .i64 r) ∧ St W0 w' K L := by
  have H := Lib.hid (h.allocRaw #[.bool nl, .string (bb d), .int .i64 tm, .int .i64 p, .int .i64 e] 27)
  have HDL := Lib.hid hl
  clear h hl
  cases nl with
  | true =>
    by_cases hd : d = []
    · subst hd
      have HBR := Lib.hid (show (⟨true, []⟩ : BlobS).right = true from rfl)
      rw [show begE v true [] tm p e = if tm < 0 ∨ 2147483647 < tm then 11 else if was v p e = false then 11 else 0 by unfold begE; rw [show idOk true [] = true from rfl]; rfl] at hr
      by_cases h1 : tm < 0
      · rw [if_pos (.inl h1)] at hr
        subst hr
        go_enter Tryd.func9, Tryd.ntmps9
        go_wp2_with (first
    | (go_at_call 20; (with_reducible refine (blob_rightQT _ [] _ HBR.out H.out).mono ?_); rintro e_ wn ⟨rfl, h⟩; have c0 := h.rawCell 0; have c1 := h.rawCell 1; have c2 := h.rawCell 2; have c3 := h.rawCell 3; have c4 := h.rawCell 4; simp at c0 c1 c2 c3 c4; replace H := Lib.hid h; clear h)
    | (go_at_call 29; (with_reducible refine (beg_was v true [] tm p e _ HWS.out H.out).mono ?_); rintro e_ wn ⟨rfl, h⟩; replace H := Lib.hid h; clear h))
        go_ret
        exact ⟨rfl, H.out.drop⟩
      by_cases h2 : 2147483647 < tm
      · rw [if_pos (.inr h2)] at hr
        subst hr
        go_enter Tryd.func9, Tryd.ntmps9
        go_wp2_with (first
    | (go_at_call 20; (with_reducible refine (blob_rightQT _ [] _ HBR.out H.out).mono ?_); rintro e_ wn ⟨rfl, h⟩; have c0 := h.rawCell 0; have c1 := h.rawCell 1; have c2 := h.rawCell 2; have c3 := h.rawCell 3; have c4 := h.rawCell 4; simp at c0 c1 c2 c3 c4; replace H := Lib.hid h; clear h)
    | (go_at_call 29; (with_reducible refine (beg_was v true [] tm p e _ HWS.out H.out).mono ?_); rintro e_ wn ⟨rfl, h⟩; replace H := Lib.hid h; clear h))
        go_ret
        exact ⟨rfl, H.out.drop⟩
      rw [if_neg (by omega)] at hr
      obtain ⟨ws, hws⟩ : ∃ ws, was v p e = ws := ⟨_, rfl⟩
      have HWS := Lib.hid hws
      rw [hws] at hr
      clear hws
      cases ws with
      | true =>
        obtain rfl : (0 : Int) = r := hr
        go_enter Tryd.func9, Tryd.ntmps9
        go_wp2_with (first
    | (go_at_call 20; (with_reducible refine (blob_rightQT _ [] _ HBR.out H.out).mono ?_); rintro e_ wn ⟨rfl, h⟩; have c0 := h.rawCell 0; have c1 := h.rawCell 1; have c2 := h.rawCell 2; have c3 := h.rawCell 3; have c4 := h.rawCell 4; simp at c0 c1 c2 c3 c4; replace H := Lib.hid h; clear h)
    | (go_at_call 29; (with_reducible refine (beg_was v true [] tm p e _ HWS.out H.out).mono ?_); rintro e_ wn ⟨rfl, h⟩; replace H := Lib.hid h; clear h))
        go_ret
        exact ⟨rfl, H.out.drop⟩
      | false =>
        obtain rfl : (11 : Int) = r := hr
        go_enter Tryd.func9, Tryd.ntmps9
        go_wp2_with (first
    | (go_at_call 20; (with_reducible refine (blob_rightQT _ [] _ HBR.out H.out).mono ?_); rintro e_ wn ⟨rfl, h⟩; have c0 := h.rawCell 0; have c1 := h.rawCell 1; have c2 := h.rawCell 2; have c3 := h.rawCell 3; have c4 := h.rawCell 4; simp at c0 c1 c2 c3 c4; replace H := Lib.hid h; clear h)
    | (go_at_call 29; (with_reducible refine (beg_was v true [] tm p e _ HWS.out H.out).mono ?_); rintro e_ wn ⟨rfl, h⟩; replace H := Lib.hid h; clear h))
        go_ret
        exact ⟨rfl, H.out.drop⟩
    · have HBR := Lib.hid (show (⟨true, d⟩ : BlobS).right = false by unfold BlobS.right; cases d with | nil => exact absurd rfl hd | cons _ _ => rfl)
      have hid : idOk true d = false := by cases d with | nil => exact absurd rfl hd | cons _ _ => rfl
      obtain rfl : (4 : Int) = r := by rw [← hr]; unfold begE; rw [hid]; rfl
      clear hr hid hd
      go_enter Tryd.func9, Tryd.ntmps9
      go_wp2_with (first
    | (go_at_call 20; (with_reducible refine (blob_rightQT _ d _ HBR.out H.out).mono ?_); rintro e_ wn ⟨rfl, h⟩; have c0 := h.rawCell 0; have c1 := h.rawCell 1; have c2 := h.rawCell 2; have c3 := h.rawCell 3; have c4 := h.rawCell 4; simp at c0 c1 c2 c3 c4; replace H := Lib.hid h; clear h))
      go_ret
      exact ⟨rfl, H.out.drop⟩
  | false =>
    have HBR := Lib.hid (show (⟨false, d⟩ : BlobS).right = true from rfl)
    obtain ⟨kr, hkr⟩ : ∃ kr, keyRight d = kr := ⟨_, rfl⟩
    have HKR := Lib.hid hkr
    cases kr with
    | true =>
      have hid : idOk false d = true := hkr
      rw [show begE v false d tm p e = if tm < 0 ∨ 2147483647 < tm then 11 else if was v p e = false then 11 else 0 by unfold begE; rw [hid]; rfl] at hr
      clear hid hkr 
      by_cases h1 : tm < 0
      · rw [if_pos (.inl h1)] at hr
        subst hr
        go_enter Tryd.func9, Tryd.ntmps9
        go_wp2_with (first
    | (go_at_call 20; (with_reducible refine (blob_rightQT _ d _ HBR.out H.out).mono ?_); rintro e_ wn ⟨rfl, h⟩; have c0 := h.rawCell 0; have c1 := h.rawCell 1; have c2 := h.rawCell 2; have c3 := h.rawCell 3; have c4 := h.rawCell 4; simp at c0 c1 c2 c3 c4; replace H := Lib.hid h; clear h)
    | (go_at_call 28; (with_reducible refine (key_right' d _ HDL.out HKR.out H.out).mono ?_); rintro e_ wn ⟨rfl, h⟩; have c0 := h.rawCell 0; have c1 := h.rawCell 1; have c2 := h.rawCell 2; have c3 := h.rawCell 3; have c4 := h.rawCell 4; simp at c0 c1 c2 c3 c4; replace H := Lib.hid h; clear h)
    | (go_at_call 29; (with_reducible refine (beg_was v false d tm p e _ HWS.out H.out).mono ?_); rintro e_ wn ⟨rfl, h⟩; replace H := Lib.hid h; clear h))
        go_ret
        exact ⟨rfl, H.out.drop⟩
      by_cases h2 : 2147483647 < tm
      · rw [if_pos (.inr h2)] at hr
        subst hr
        go_enter Tryd.func9, Tryd.ntmps9
        go_wp2_with (first
    | (go_at_call 20; (with_reducible refine (blob_rightQT _ d _ HBR.out H.out).mono ?_); rintro e_ wn ⟨rfl, h⟩; have c0 := h.rawCell 0; have c1 := h.rawCell 1; have c2 := h.rawCell 2; have c3 := h.rawCell 3; have c4 := h.rawCell 4; simp at c0 c1 c2 c3 c4; replace H := Lib.hid h; clear h)
    | (go_at_call 28; (with_reducible refine (key_right' d _ HDL.out HKR.out H.out).mono ?_); rintro e_ wn ⟨rfl, h⟩; have c0 := h.rawCell 0; have c1 := h.rawCell 1; have c2 := h.rawCell 2; have c3 := h.rawCell 3; have c4 := h.rawCell 4; simp at c0 c1 c2 c3 c4; replace H := Lib.hid h; clear h)
    | (go_at_call 29; (with_reducible refine (beg_was v false d tm p e _ HWS.out H.out).mono ?_); rintro e_ wn ⟨rfl, h⟩; replace H := Lib.hid h; clear h))
        go_ret
        exact ⟨rfl, H.out.drop⟩
      rw [if_neg (by omega)] at hr
      obtain ⟨ws, hws⟩ : ∃ ws, was v p e = ws := ⟨_, rfl⟩
      have HWS := Lib.hid hws
      rw [hws] at hr
      clear hws
      cases ws with
      | true =>
        obtain rfl : (0 : Int) = r := hr
        go_enter Tryd.func9, Tryd.ntmps9
        go_wp2_with (first
    | (go_at_call 20; (with_reducible refine (blob_rightQT _ d _ HBR.out H.out).mono ?_); rintro e_ wn ⟨rfl, h⟩; have c0 := h.rawCell 0; have c1 := h.rawCell 1; have c2 := h.rawCell 2; have c3 := h.rawCell 3; have c4 := h.rawCell 4; simp at c0 c1 c2 c3 c4; replace H := Lib.hid h; clear h)
    | (go_at_call 28; (with_reducible refine (key_right' d _ HDL.out HKR.out H.out).mono ?_); rintro e_ wn ⟨rfl, h⟩; have c0 := h.rawCell 0; have c1 := h.rawCell 1; have c2 := h.rawCell 2; have c3 := h.rawCell 3; have c4 := h.rawCell 4; simp at c0 c1 c2 c3 c4; replace H := Lib.hid h; clear h)
    | (go_at_call 29; (with_reducible refine (beg_was v false d tm p e _ HWS.out H.out).mono ?_); rintro e_ wn ⟨rfl, h⟩; replace H := Lib.hid h; clear h))
        go_ret
        exact ⟨rfl, H.out.drop⟩
      | false =>
        obtain rfl : (11 : Int) = r := hr
        go_enter Tryd.func9, Tryd.ntmps9
        go_wp2_with (first
    | (go_at_call 20; (with_reducible refine (blob_rightQT _ d _ HBR.out H.out).mono ?_); rintro e_ wn ⟨rfl, h⟩; have c0 := h.rawCell 0; have c1 := h.rawCell 1; have c2 := h.rawCell 2; have c3 := h.rawCell 3; have c4 := h.rawCell 4; simp at c0 c1 c2 c3 c4; replace H := Lib.hid h; clear h)
    | (go_at_call 28; (with_reducible refine (key_right' d _ HDL.out HKR.out H.out).mono ?_); rintro e_ wn ⟨rfl, h⟩; have c0 := h.rawCell 0; have c1 := h.rawCell 1; have c2 := h.rawCell 2; have c3 := h.rawCell 3; have c4 := h.rawCell 4; simp at c0 c1 c2 c3 c4; replace H := Lib.hid h; clear h)
    | (go_at_call 29; (with_reducible refine (beg_was v false d tm p e _ HWS.out H.out).mono ?_); rintro e_ wn ⟨rfl, h⟩; replace H := Lib.hid h; clear h))
        go_ret
        exact ⟨rfl, H.out.drop⟩
    | false =>
      have hid : idOk false d = false := hkr
      obtain rfl : (4 : Int) = r := by rw [← hr]; unfold begE; rw [hid]; rfl
      clear hr hid hkr
      go_enter Tryd.func9, Tryd.ntmps9
      go_wp2_with (first
    | (go_at_call 20; (with_reducible refine (blob_rightQT _ d _ HBR.out H.out).mono ?_); rintro e_ wn ⟨rfl, h⟩; have c0 := h.rawCell 0; have c1 := h.rawCell 1; have c2 := h.rawCell 2; have c3 := h.rawCell 3; have c4 := h.rawCell 4; simp at c0 c1 c2 c3 c4; replace H := Lib.hid h; clear h)
    | (go_at_call 28; (with_reducible refine (key_right' d _ HDL.out HKR.out H.out).mono ?_); rintro e_ wn ⟨rfl, h⟩; have c0 := h.rawCell 0; have c1 := h.rawCell 1; have c2 := h.rawCell 2; have c3 := h.rawCell 3; have c4 := h.rawCell 4; simp at c0 c1 c2 c3 c4; replace H := Lib.hid h; clear h))
      go_ret
      exact ⟨rfl, H.out.drop⟩

end Go.Proofs.YthppodbjjfkmfaaDoor
