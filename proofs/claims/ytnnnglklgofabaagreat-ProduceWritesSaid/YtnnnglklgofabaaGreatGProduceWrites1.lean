/- A text. -/
import Derived.Test.YtnnnglklgofabaaGreatRec5
import Derived.Test.YtnnnglklgofabaaGreatL06W
import Derived.Test.YtnnnglklgofabaaGreatGrow
import Derived.Test.YtnnnglklgofabaaGreatS1
import Derived.Test.YtnnnglklgofabaaGreatHdr2
import Derived.Test.YtnnnglklgofabaaGreatBlobP
import Derived.Test.YtnnnglklgofabaaGreatBlob1
import Derived.Test.YtnnnglklgofabaaGreatBlob2
import Derived.Test.YtnnnglklgofabaaGreatRec1
import Derived.Test.YtnnnglklgofabaaGreatRecP
import Derived.Test.YtnnnglklgofabaaGreatSep
import Derived.Test.YtnnnglklgofabaaGreatIntsP
/- A text. -/
namespace Go.Proofs.YtnnnglklgofabaaGreat
open Go.RowKit

theorem rec_readQ (p : Nat) (i : InS) (x : RecS) (k : InS) (hx : i.record = (x, k)) {W0 w : World} {K : Know} {L : List Res} (h : St W0 w K (.inp p i :: L)) :
  Calls Tryz.prog 181 #[inPtr p] w fun en w' => ∃ v, en = .returned (.agg #[.int .i64 x.time, .int .i64 x.off, .bool x.key.null, .string (bb x.key.data), .bool x.val.null, .string (bb x.val.data), v]) ∧ St W0 w' (K.and (Know.flat RHdr v 3 x.hdrs)) (.inp p k :: L) := by
 have h1 := rec_read p i h; rw [hx] at h1; exact h1

set_option maxHeartbeats 1000000 in
set_option maxRecDepth 100000 in
theorem ref07_odd (n : Bool) (d : Bs) (r : Bool) (hr : (⟨n, d⟩ : BlobS).right = r) {W0 w : World} {K : Know} {L : List Res} (h : St W0 w K L) :
  Calls Tryz.prog 133 #[.agg #[.bool n, .string (bb d)]] w fun en w' => en = .returned (.bool (!r)) ∧ St W0 w' K L := by
 have hr : (n && !d.isEmpty) = !r := by
  unfold BlobS.right at hr
  cases n <;> cases r <;> cases d <;> simp_all
 have H := Lib.hid (h.alloc (.cells #[.bool n, .string (bb d)] 23)); clear h
 cases n <;> cases d
 all_goals
  have HR := Lib.hid hr; clear hr; go_enter Tryz.func133, Tryz.ntmps133; go_wp2; go_ret; exact ⟨ret_bool HR.out, H.out⟩
def badR (a b c : Bool) : Int := if a && b && c then 0 else 4

set_option maxHeartbeats 1000000 in
set_option maxRecDepth 100000 in
theorem ref07_right (x : RecS) (v : Value) (e : Int) (he : recOk x = e) (hl : x.hdrs.length ≤ 9223372036854775807) {W0 w : World} {K : Know} {L : List Res} (hk : K.has (Know.flat RHdr v 3 x.hdrs)) (h : St W0 w K L) :
   Calls Tryz.prog 102 #[.agg #[.int .i64 x.time, .int .i64 x.off, .bool x.key.null, .string (bb x.key.data), .bool x.val.null, .string (bb x.val.data), v]] w fun en w' => en = .returned (.int .i64 e) ∧ St W0 w' K L := by
 obtain ⟨wA, hwA⟩ : ∃ b, w.heap.size = b := ⟨_, rfl⟩; have h0 := h.allocRaw #[.int .i64 x.time, .int .i64 x.off, .bool x.key.null, .string (bb x.key.data), .bool x.val.null, .string (bb x.val.data), v] 119; rw [hwA] at h0; have H := Lib.hid h0; have HK := Lib.hid hk; have HL := Lib.hid hl; clear h hk hl h0; unfold recOk at he
 by_cases h1 : x.off < 0
 · rw [if_pos (.inl h1)] at he; subst he; go_enter Tryz.func102, Tryz.ntmps102; go_wp2; go_ret; exact ⟨rfl, H.out.drop⟩
 by_cases h2 : 2147483647 < x.off
 · rw [if_pos (.inr h2)] at he; subst he; go_enter Tryz.func102, Tryz.ntmps102; go_wp2; go_ret; exact ⟨rfl, H.out.drop⟩
 rw [if_neg (by omega)] at he; have he : badR x.key.right x.val.right (hright x.hdrs) = e := he; obtain ⟨r1, hr1⟩ : ∃ r, x.key.right = r := ⟨_, rfl⟩; obtain ⟨r2, hr2⟩ : ∃ r, x.val.right = r := ⟨_, rfl⟩; obtain ⟨r3, hr3⟩ : ∃ r, hright x.hdrs = r := ⟨_, rfl⟩; rw [hr1, hr2, hr3] at he; have E1 := Lib.hid hr1; have E2 := Lib.hid hr2; have E3 := Lib.hid hr3; clear hr1 hr2 hr3; have t1 : True := trivial; have t2 : True := trivial; obtain ⟨ac0, ac1, ac2, ac3, ac4, ac5, ac6, af0, af1, af2, af3, af4, af5, af6⟩ := raw7 (b := wA) H.out
 cases r1 <;> cases r2 <;> cases r3
 all_goals
   subst he; go_enter Tryz.func102, Tryz.ntmps102
   go_wp2_with (first
    | (go_at_call 133; have _t := t1; clear _t; refine (ref07_odd _ _ _ E1.out H.out).mono ?_; rintro e wn ⟨rfl, h⟩; replace H := Lib.hid h; clear h t1; (first | (obtain ⟨ac0, ac1, ac2, ac3, ac4, ac5, ac6, af0, af1, af2, af3, af4, af5, af6⟩ := raw7 (b := wA) H.out) | (obtain ⟨ac0, ac1, ac2, ac3, ac4, ac5, ac6, af0, af1, af2, af3, af4, af5, af6⟩ := raw7 (b := wA) H.out.p1) | (obtain ⟨ac0, ac1, ac2, ac3, ac4, ac5, ac6, af0, af1, af2, af3, af4, af5, af6⟩ := raw7 (b := wA) H.out.p2) | (obtain ⟨ac0, ac1, ac2, ac3, ac4, ac5, ac6, af0, af1, af2, af3, af4, af5, af6⟩ := raw7 (b := wA) H.out.p3)))
    | (go_at_call 133; have _t := t2; clear _t; refine (ref07_odd _ _ _ E2.out H.out).mono ?_; rintro e wn ⟨rfl, h⟩; replace H := Lib.hid h; clear h t2; (first | (obtain ⟨ac0, ac1, ac2, ac3, ac4, ac5, ac6, af0, af1, af2, af3, af4, af5, af6⟩ := raw7 (b := wA) H.out) | (obtain ⟨ac0, ac1, ac2, ac3, ac4, ac5, ac6, af0, af1, af2, af3, af4, af5, af6⟩ := raw7 (b := wA) H.out.p1) | (obtain ⟨ac0, ac1, ac2, ac3, ac4, ac5, ac6, af0, af1, af2, af3, af4, af5, af6⟩ := raw7 (b := wA) H.out.p2) | (obtain ⟨ac0, ac1, ac2, ac3, ac4, ac5, ac6, af0, af1, af2, af3, af4, af5, af6⟩ := raw7 (b := wA) H.out.p3)))
    | (go_at_call 134; refine (ref06_right v x.hdrs HL.out HK.out H.out).mono ?_; rw [E3.out]; rintro e wn ⟨rfl, h⟩; replace H := Lib.hid h; clear h))
   go_ret; exact ⟨rfl, H.out.drop⟩

def smallR (x : RecS) : Int := if 500 < x.key.data.length ∨ 500 < x.val.data.length then 0 else smallN x.hdrs
theorem dropNext {l a r : Bs} {n : Nat} (h : l.drop n = a ++ r) : l.drop (n + a.length) = r := by rw [← List.drop_drop, h, List.drop_left]
theorem reInner_back (x : RecS) (hx : x.R) (ho : recOk x = 0) (hs : x.sum ≤ 1000000) : reInner (recF x) = .ok x := by
 obtain ⟨ho, hr⟩ := recOk_zero ho; unfold RecS.allRight at hr; rw [Bool.and_eq_true, Bool.and_eq_true] at hr; unfold RecS.sum at hs; have d1 : (recF x).drop 1 = encI x.time ++ (encI x.off ++ (encV x.key ++ (encV x.val ++ encHs x.hdrs))) := rfl; have d2 := dropNext d1; have d3 := dropNext d2; have d4 := dropNext d3; have d5 := dropNext d4
 have h0 : getIntN 1 (recF x) = .ok (0, 1) := by
  unfold getIntN; rw [if_neg (by unfold recF; simp)]
  rfl
 have h1 : vgetL ((recF x).drop 1) = .ok (x.time, (encI x.time).length) := by rw [d1]; exact vgetL_put _ hx.1.1 hx.1.2 _
 have h2 : vgetI ((recF x).drop (1 + (encI x.time).length)) = .ok (x.off, (encI x.off).length) := by rw [d2]; exact vgetI_put _ (by omega) (by omega) _
 have h3 := revaried_back x.key hr.1.1 (by omega) (encV x.val ++ encHs x.hdrs); have h4 := revaried_back x.val hr.1.2 (by omega) (encHs x.hdrs); have h5' := reHdrs_back x.hdrs [] hr.2 (by omega); rw [List.append_nil] at h5'; have h5 : reHdrs ((recF x).drop (1 + (encI x.time).length + (encI x.off).length + (encV x.key).length + (encV x.val).length)) = .ok (x.hdrs, (encHs x.hdrs).length) := by rw [d5]; exact h5'
 rw [← d3] at h3; rw [← d4] at h4
 have hl : 1 + (encI x.time).length + (encI x.off).length + (encV x.key).length + (encV x.val).length + (encHs x.hdrs).length = (recF x).length := by
  unfold recF; simp only [List.length_append, List.length_cons, List.length_nil]
  omega
 unfold reInner; rw [h0]; simp only [if_true]; rw [h1]; simp only; rw [h2]; simp only; rw [if_neg (by omega), h3]; simp only; rw [h4]; simp only; rw [h5]; simp only; rw [if_pos hl]
def Know.all {α : Type} (l : List α) (k : α → Know) : Know := ⟨fun w F => ∀ x ∈ l, (k x).p w F, fun w w' F h hs hk x hx => (k x).keep w w' F (h x hx) hs hk, fun w F F' h hs x hx => (k x).mono w F F' (h x hx) hs⟩
def RRec (cs : List Value) (x : RecS × Value) : Prop := cs = [.int .i64 x.1.time, .int .i64 x.1.off, .bool x.1.key.null, .string (bb x.1.key.data), .bool x.1.val.null, .string (bb x.1.val.data), x.2]
def rcells (x : RecS × Value) : List Value := [.int .i64 x.1.time, .int .i64 x.1.off, .bool x.1.key.null, .string (bb x.1.key.data), .bool x.1.val.null, .string (bb x.1.val.data), x.2]
def Know.recs (v : Value) (l : List (RecS × Value)) : Know := (Know.flat RRec v 7 l).and (Know.all l fun x => Know.flat RHdr x.2 3 x.1.hdrs)
theorem recs_flat {K : Know} {v : Value} {l : List (RecS × Value)} (h : K.has (Know.recs v l)) : K.has (Know.flat RRec v 7 l) := fun w F x => (h w F x).1
theorem recs_hdrs {K : Know} {v : Value} {l : List (RecS × Value)} (h : K.has (Know.recs v l)) {x : RecS × Value} (hx : x ∈ l) : K.has (Know.flat RHdr x.2 3 x.1.hdrs) := fun w F y => (h w F y).2 x hx
theorem recs_form {W0 w : World} {K : Know} {L : List Res} {v : Value} {l : List (RecS × Value)} (hk : K.has (Know.recs v l)) (h : St W0 w K L) : ∃ q cap, v = .slice q l.length cap := by
 obtain ⟨F, hF, _⟩ := h.get; obtain ⟨q, cap, hv, _⟩ := (recs_flat hk _ _ hF).at; exact ⟨q, cap, hv⟩
theorem recs_at {W0 w : World} {K : Know} {L : List Res} {q : Option Addr} {n cap : Nat} {l : List (RecS × Value)} (hk : K.has (Know.recs (.slice q n cap) l)) (h : St W0 w K L) (h0 : 0 < l.length) : ∃ b off, q = some ⟨b, off, none⟩ := by
 obtain ⟨F, hF, _⟩ := h.get; obtain ⟨q2, cap2, hv, hr⟩ := (recs_flat hk _ _ hF).at; obtain ⟨b, off, hq, _⟩ := hr h0; simp at hv; exact ⟨b, off, hv.1.trans hq⟩
theorem recs_cell {W0 w : World} {K : Know} {L : List Res} {b off n cap : Nat} {l : List (RecS × Value)} (hk : K.has (Know.recs (.slice (some ⟨b, off, none⟩) n cap) l)) (h : St W0 w K L) (i : Nat) (hi : i < l.length) (x : RecS × Value) (hx : l[i] = x) :
  w.cell? ⟨b, off + (i * 7), none⟩ = some (.int .i64 x.1.time) ∧ w.cell? ⟨b, off + (i * 7 + 1), none⟩ = some (.int .i64 x.1.off) ∧ w.cell? ⟨b, off + (i * 7 + 2), none⟩ = some (.bool x.1.key.null) ∧ w.cell? ⟨b, off + (i * 7 + 3), none⟩ = some (.string (bb x.1.key.data)) ∧ w.cell? ⟨b, off + (i * 7 + 4), none⟩ = some (.bool x.1.val.null) ∧ w.cell? ⟨b, off + (i * 7 + 5), none⟩ = some (.string (bb x.1.val.data)) ∧ w.cell? ⟨b, off + (i * 7 + 6), none⟩ = some (x.2) := by
 subst hx; obtain ⟨F, hF, _⟩ := h.get; obtain ⟨q2, cap2, hv, hr⟩ := (recs_flat hk _ _ hF).at; obtain ⟨b2, off2, hq, hc⟩ := hr (by omega); rw [hq] at hv; simp at hv; obtain ⟨⟨rfl, rfl⟩, _, _⟩ := hv; obtain ⟨cs, _, hR, hcs⟩ := hc i hi; unfold RRec at hR; subst hR; exact ⟨hcs 0 _ rfl, hcs 1 _ rfl, hcs 2 _ rfl, hcs 3 _ rfl, hcs 4 _ rfl, hcs 5 _ rfl, hcs 6 _ rfl⟩
def encAll (l : List (RecS × Value)) : Bs := l.flatMap fun x => encR x.1
theorem encAll_snoc (l : List (RecS × Value)) (x : RecS × Value) : encAll (l ++ [x]) = encAll l ++ encR x.1 := by unfold encAll; simp
theorem encAll_take (l : List (RecS × Value)) (k : Nat) (h : k < l.length) : encAll (l.take (k + 1)) = encAll (l.take k) ++ encR l[k].1 := by rw [List.take_succ_eq_append_getElem h, encAll_snoc]
theorem reRec_back (x : RecS) (hx : x.R) (ho : recOk x = 0) (hs : x.sum ≤ 1000000) (r : Bs) : reRec (encR x ++ r) = .ok (x, (encR x).length) := by
 have hle := recF_le x hx hs; have h1 := revaried_back ⟨false, recF x⟩ rfl (by simp only; omega) r; unfold reRec encR; rw [h1]; simp only [Bool.false_eq_true, if_false]; rw [reInner_back x hx ho hs]
theorem elem_rec : ElemT Tryz.prog 119 (.agg #[.int .i64 0, .int .i64 0, .bool false, .string ⟨#[]⟩, .bool false, .string ⟨#[]⟩, .slice none 0 0]) 7 88 := elemT_of (by kernel_rfl) rfl (by decide)
def consE (x : RecS) (r : Except Int (List RecS)) : Except Int (List RecS) := match r with | .ok t => .ok (x :: t) | .error e => .error e
def unp : Nat → InS → Except Int (List RecS)
  | 0, i => if i.left = 0 then .ok [] else .error 10
  | n + 1, i => if i.left = 0 then .error 10 else if i.record.2.err = 0 then consE i.record.1 (unp n i.record.2) else .error i.record.2.err
def preU (acc : List RecS) (r : Except Int (List RecS)) : Except Int (List RecS) := match r with | .ok t => .ok (acc ++ t) | .error e => .error e
theorem preU_nil (r : Except Int (List RecS)) : preU [] r = r := by cases r <;> rfl
theorem preU_snoc (acc : List RecS) (x : RecS) (r : Except Int (List RecS)) : preU (acc ++ [x]) r = preU acc (consE x r) := by
 cases r with
 | error e => rfl
 | ok t => simp [preU, consE]
theorem s_leftQ (p : Nat) (i : InS) (n : Nat) (hx : i.left = n) {W0 w : World} {K : Know} {L : List Res} (h : St W0 w K (.inp p i :: L)) :
  Calls Tryz.prog 52 #[inPtr p] w fun en w' => en = .returned (.int .i64 n) ∧ St W0 w' K (.inp p i :: L) := by
 subst hx; exact s_left p i h
theorem s_errE (p : Nat) (i : InS) (e : Int) (hx : i.err = e) {W0 w : World} {K : Know} {L : List Res} (h : St W0 w K (.inp p i :: L)) :
  Calls Tryz.prog 20 #[inPtr p] w fun en w' => en = .returned (.int .i64 e) ∧ St W0 w' K (.inp p i :: L) := by
 subst hx; exact s_err p i h
def verRd (k : Nat) (ok : Int → Bool) (e : Int) (s : Bs) : Int × Int :=
  if s.length < 2 then (0, 1) else if sInt (s.take 2) ≠ 0 then (0, 7) else if s.length < 2 + k then (0, 1)
  else if ok (sInt ((s.drop 2).take k)) = false then (0, e) else if 2 + k < s.length then (0, 2) else (sInt ((s.drop 2).take k), 0)
def verA (s : Bs) : Int × InS := (⟨s, 0, 0⟩ : InS).int 2
def verI (s : Bs) : InS := if (verA s).1 = 0 then (verA s).2 else (verA s).2.fail 7
def verJ (k : Nat) (ok : Int → Bool) (e : Int) (s : Bs) : InS := if ok ((verI s).int k).1 = true then ((verI s).int k).2 else ((verI s).int k).2.fail e
def verD (k : Nat) (ok : Int → Bool) (e : Int) (s : Bs) : Int × Int := if (verJ k ok e s).close.err = 0 then (((verI s).int k).1, 0) else (0, (verJ k ok e s).close.err)
theorem close_stuckC {i : InS} (h : i.err ≠ 0) : i.close = i := by
 unfold InS.close
 split
 · exact if_neg h
 · rfl
theorem verD_bad {k : Nat} {ok : Int → Bool} {e x : Int} {s : Bs} (hx : x ≠ 0) (h : (verJ k ok e s).err = x) : verD k ok e s = (0, x) := by
 subst h; unfold verD; rw [close_stuckC hx, if_neg hx]
theorem verJ_stuck {k : Nat} {ok : Int → Bool} {e x : Int} {s : Bs} (h1 : 1 ≤ k) (h8 : k ≤ 8) (hx : x ≠ 0) (h : (verI s).err = x) : (verJ k ok e s).err = x := by
 subst h; have h2 : (verI s).int k = (0, verI s) := (rds_intN k h1 h8).stuck (verI s) hx; unfold verJ; rw [h2]
 split
 · rfl
 · rw [show (verI s).fail e = verI s from if_neg hx]
theorem verD_eq (k : Nat) (ok : Int → Bool) (e : Int) (h1 : 1 ≤ k) (h8 : k ≤ 8) (he : e ≠ 0) (s : Bs) : verD k ok e s = verRd k ok e s := by
 have hi := rds_intN 2 (by decide) (by decide); have hk := rds_intN k h1 h8; unfold verRd
 by_cases c1 : s.length < 2
 · rw [if_pos c1]; obtain ⟨_, q, _, h3⟩ := hi.err s 0 1 (Nat.zero_le _) (by simp [getIntN, c1]); have h4 : verA s = (0, ⟨s, q, 1⟩) := h3; refine verD_bad (by decide) (verJ_stuck h1 h8 (by decide) ?_); unfold verI; rw [h4]
   rfl
 rw [if_neg c1]; obtain ⟨_, h3⟩ := hi.ok s 0 (sInt (s.take 2)) 2 (Nat.zero_le _) (by simp [getIntN, c1]); have h4 : verA s = (sInt (s.take 2), ⟨s, 2, 0⟩) := h3
 by_cases c2 : sInt (s.take 2) ≠ 0
 · rw [if_pos c2]; refine verD_bad (by decide) (verJ_stuck h1 h8 (by decide) ?_); unfold verI; rw [h4, if_neg c2]
   rfl
 rw [if_neg c2]; have hI : verI s = ⟨s, 2, 0⟩ := by unfold verI; rw [h4, if_pos (by simpa using c2)]
 by_cases c3 : s.length < 2 + k
 · rw [if_pos c3]; obtain ⟨_, q, _, h7⟩ := hk.err s 2 1 (by omega) (by unfold getIntN; rw [if_pos (by rw [List.length_drop]; omega)]); have h7 : (verI s).int k = (0, ⟨s, q, 1⟩) := by rw [hI]; exact h7
   refine verD_bad (by decide) ?_; unfold verJ; rw [h7]
   split
   · rfl
   · rfl
 rw [if_neg c3]; obtain ⟨_, h7⟩ := hk.ok s 2 (sInt ((s.drop 2).take k)) k (by omega) (by unfold getIntN; rw [if_neg (by rw [List.length_drop]; omega)]); have h7 : (verI s).int k = (sInt ((s.drop 2).take k), ⟨s, 2 + k, 0⟩) := by rw [hI]; exact h7
 by_cases c4 : ok (sInt ((s.drop 2).take k)) = false
 · rw [if_pos c4]; refine verD_bad he ?_; unfold verJ; rw [h7]; rw [if_neg (by rw [c4]; decide)]
   rfl
 rw [if_neg c4]; have hJ : verJ k ok e s = ⟨s, 2 + k, 0⟩ := by unfold verJ; rw [h7, if_pos (by simpa using c4)]
 by_cases c5 : 2 + k < s.length
 · have hc : (⟨s, 2 + k, 0⟩ : InS).close = ⟨s, 2 + k, 2⟩ := by
    unfold InS.close; rw [if_pos (show 0 < (⟨s, 2 + k, 0⟩ : InS).left by simp only [InS.left]; omega)]
    rfl
   unfold verD; rw [if_pos c5, hJ, hc, if_neg (by simp only; decide)]
 · have hc : (⟨s, 2 + k, 0⟩ : InS).close = ⟨s, 2 + k, 0⟩ := by
    unfold InS.close; rw [if_neg (show ¬ 0 < (⟨s, 2 + k, 0⟩ : InS).left by simp only [InS.left]; omega)]
   unfold verD; rw [if_neg c5, hJ, hc, if_pos rfl, h7]
def way (n : Int) : Bool := n == 0 || n == 1
def time0 (n : Int) : Bool := decide (0 ≤ n)
set_option maxHeartbeats 1000000 in
set_option maxRecDepth 100000 in
theorem ctl_known (n : Int) {W0 w : World} {K : Know} {L : List Res} (h : St W0 w K L) :
   Calls Tryz.prog 173 #[.int .i64 n] w fun en w' => en = .returned (.bool (way n)) ∧ St W0 w' K L := by
 have H := Lib.hid h; clear h
 by_cases h0 : n = 0
 · subst h0; go_enter Tryz.func173, Tryz.ntmps173; go_wp2; go_ret; exact ⟨rfl, H.out⟩
 have e0 : (n == 0) = false := by simpa using h0
 go_enter Tryz.func173, Tryz.ntmps173; go_wp2; go_ret; exact ⟨ret_bool (by unfold way; rw [e0]; rfl), H.out⟩

set_option maxHeartbeats 1000000 in
set_option maxRecDepth 100000 in
theorem ctl_time0 (n : Int) {W0 w : World} {K : Know} {L : List Res} (h : St W0 w K L) :
  Calls Tryz.prog 174 #[.int .i64 n] w fun en w' => en = .returned (.bool (time0 n)) ∧ St W0 w' K L := by
 have H := Lib.hid h; clear h; go_enter Tryz.func174, Tryz.ntmps174; go_wp2; go_ret; exact ⟨ret_bool (by unfold time0; rfl), H.out⟩

set_option maxHeartbeats 1000000 in
set_option maxRecDepth 100000 in
theorem ctl_readKind (s : Bs) (r : Int × Int) (hr : verRd 2 way 12 s = r) (hs : s.length ≤ 140737488355328) {W0 w : World} {K : Know} {L : List Res} (h : St W0 w K L) :
  Calls Tryz.prog 172 #[.string (bb s), .int .i64 2, .func (.func 173) #[] #[], .int .i64 12] w fun en w' => en = .returned (.tuple #[.int .i64 r.1, .int .i64 r.2]) ∧ St W0 w' K L := by
 have hrd : verD 2 way 12 s = r := (verD_eq 2 way 12 (by decide) (by decide) (by decide) s).trans hr; have H := Lib.hid h; have HS := Lib.hid hs; clear h hs hr; obtain ⟨a, ha⟩ : ∃ a, verA s = a := ⟨_, rfl⟩; have hI : verI s = if a.1 = 0 then a.2 else a.2.fail 7 := by unfold verI; rw [ha]
 obtain ⟨i, hi⟩ : ∃ i, verI s = i := ⟨_, rfl⟩; rw [hi] at hI; obtain ⟨t, ht⟩ : ∃ t, i.int 2 = t := ⟨_, rfl⟩; have hJ : verJ 2 way 12 s = if way t.1 = true then t.2 else t.2.fail 12 := by unfold verJ; rw [hi]; show (if way (i.int 2).1 = true then (i.int 2).2 else (i.int 2).2.fail 12) = _; rw [ht]
 obtain ⟨j, hj⟩ : ∃ j, verJ 2 way 12 s = j := ⟨_, rfl⟩
 have hD : (if j.close.err = 0 then (t.1, 0) else (0, j.close.err)) = r := by
  rw [← hrd, ← hj, ← ht, ← hi]; rfl
 rw [hj] at hJ; obtain ⟨c, hc⟩ : ∃ c, j.close = c := ⟨_, rfl⟩; rw [hc] at hD; have EA := Lib.hid (show (⟨s, 0, 0⟩ : InS).int 2 = a from ha); have ET := Lib.hid ht; have EC := Lib.hid hc; obtain ⟨o, ho⟩ : ∃ o, way t.1 = o := ⟨_, rfl⟩; rw [ho] at hJ; have EO := Lib.hid ho; clear ha hi ht hj hc ho hrd
 by_cases h1 : a.1 = 0 <;> cases o <;> by_cases h3 : c.err = 0
 all_goals
  first | rw [if_pos h1] at hI | rw [if_neg h1] at hI
  first | rw [if_pos rfl] at hJ | rw [if_neg (by decide)] at hJ
  first | rw [if_pos h3] at hD | rw [if_neg h3] at hD
  subst hD; have b1 : (a.1 != 0) = decide (a.1 ≠ 0) := by by_cases h : a.1 = 0 <;> simp [h]
  have b3 : (c.err != 0) = decide (c.err ≠ 0) := by by_cases h : c.err = 0 <;> simp [h]
  first | rw [decide_eq_true h1] at b1 | rw [decide_eq_false (not_not_intro h1)] at b1
  first | rw [decide_eq_true h3] at b3 | rw [decide_eq_false (not_not_intro h3)] at b3
  have EI := Lib.hid hI.symm; have EJ := Lib.hid hJ.symm; clear h1 h3 hI hJ; go_enter Tryz.func172, Tryz.ntmps172
  go_wp2_with (first
   | (go_at_call 14; refine (s_new s HS.out stQ).mono ?_; rintro e wn ⟨bi, rfl, h⟩; replace H := Lib.hid h; clear h)
   | (go_at_call 44; refine (s_int _ _ _ stQ).mono ?_; (repeat first | rw [EA.out] | rw [ET.out]); rintro e wn ⟨rfl, h⟩; replace H := Lib.hid h; clear h; (try rw [EI.out] at H); (try rw [EJ.out] at H))
   | (go_at_call 47; refine (s_fail _ _ _ stQ).mono ?_; (repeat first | rw [EI.out] | rw [EJ.out]); rintro e wn ⟨rfl, h⟩; replace H := Lib.hid h; clear h)
   | (go_at_call 173; refine (ctl_known _ H.out).mono ?_; rw [EO.out]; rintro e wn ⟨rfl, h⟩; replace H := Lib.hid h; clear h)
   | (go_at_call 18; refine (s_close _ _ stQ).mono ?_; (repeat first | rw [EC.out]); rintro e wn ⟨rfl, h⟩; replace H := Lib.hid h; clear h))
  go_ret2; exact ⟨rfl, H.out.drop⟩

set_option maxHeartbeats 1000000 in
set_option maxRecDepth 100000 in
theorem ctl_readTime (s : Bs) (r : Int × Int) (hr : verRd 4 time0 11 s = r) (hs : s.length ≤ 140737488355328) {W0 w : World} {K : Know} {L : List Res} (h : St W0 w K L) :
  Calls Tryz.prog 172 #[.string (bb s), .int .i64 4, .func (.func 174) #[] #[], .int .i64 11] w fun en w' => en = .returned (.tuple #[.int .i64 r.1, .int .i64 r.2]) ∧ St W0 w' K L := by
 have hrd : verD 4 time0 11 s = r := (verD_eq 4 time0 11 (by decide) (by decide) (by decide) s).trans hr; have H := Lib.hid h; have HS := Lib.hid hs; clear h hs hr; obtain ⟨a, ha⟩ : ∃ a, verA s = a := ⟨_, rfl⟩; have hI : verI s = if a.1 = 0 then a.2 else a.2.fail 7 := by unfold verI; rw [ha]
 obtain ⟨i, hi⟩ : ∃ i, verI s = i := ⟨_, rfl⟩; rw [hi] at hI; obtain ⟨t, ht⟩ : ∃ t, i.int 4 = t := ⟨_, rfl⟩; have hJ : verJ 4 time0 11 s = if time0 t.1 = true then t.2 else t.2.fail 11 := by unfold verJ; rw [hi]; show (if time0 (i.int 4).1 = true then (i.int 4).2 else (i.int 4).2.fail 11) = _; rw [ht]
 obtain ⟨j, hj⟩ : ∃ j, verJ 4 time0 11 s = j := ⟨_, rfl⟩
 have hD : (if j.close.err = 0 then (t.1, 0) else (0, j.close.err)) = r := by
  rw [← hrd, ← hj, ← ht, ← hi]; rfl
 rw [hj] at hJ; obtain ⟨c, hc⟩ : ∃ c, j.close = c := ⟨_, rfl⟩; rw [hc] at hD; have EA := Lib.hid (show (⟨s, 0, 0⟩ : InS).int 2 = a from ha); have ET := Lib.hid ht; have EC := Lib.hid hc; obtain ⟨o, ho⟩ : ∃ o, time0 t.1 = o := ⟨_, rfl⟩; rw [ho] at hJ; have EO := Lib.hid ho; clear ha hi ht hj hc ho hrd
 by_cases h1 : a.1 = 0 <;> cases o <;> by_cases h3 : c.err = 0
 all_goals
  first | rw [if_pos h1] at hI | rw [if_neg h1] at hI
  first | rw [if_pos rfl] at hJ | rw [if_neg (by decide)] at hJ
  first | rw [if_pos h3] at hD | rw [if_neg h3] at hD
  subst hD; have b1 : (a.1 != 0) = decide (a.1 ≠ 0) := by by_cases h : a.1 = 0 <;> simp [h]
  have b3 : (c.err != 0) = decide (c.err ≠ 0) := by by_cases h : c.err = 0 <;> simp [h]
  first | rw [decide_eq_true h1] at b1 | rw [decide_eq_false (not_not_intro h1)] at b1
  first | rw [decide_eq_true h3] at b3 | rw [decide_eq_false (not_not_intro h3)] at b3
  have EI := Lib.hid hI.symm; have EJ := Lib.hid hJ.symm; clear h1 h3 hI hJ; go_enter Tryz.func172, Tryz.ntmps172
  go_wp2_with (first
   | (go_at_call 14; refine (s_new s HS.out stQ).mono ?_; rintro e wn ⟨bi, rfl, h⟩; replace H := Lib.hid h; clear h)
   | (go_at_call 44; refine (s_int _ _ _ stQ).mono ?_; (repeat first | rw [EA.out] | rw [ET.out]); rintro e wn ⟨rfl, h⟩; replace H := Lib.hid h; clear h; (try rw [EI.out] at H); (try rw [EJ.out] at H))
   | (go_at_call 47; refine (s_fail _ _ _ stQ).mono ?_; (repeat first | rw [EI.out] | rw [EJ.out]); rintro e wn ⟨rfl, h⟩; replace H := Lib.hid h; clear h)
   | (go_at_call 174; refine (ctl_time0 _ H.out).mono ?_; rw [EO.out]; rintro e wn ⟨rfl, h⟩; replace H := Lib.hid h; clear h)
   | (go_at_call 18; refine (s_close _ _ stQ).mono ?_; (repeat first | rw [EC.out]); rintro e wn ⟨rfl, h⟩; replace H := Lib.hid h; clear h))
  go_ret2; exact ⟨rfl, H.out.drop⟩

set_option maxHeartbeats 1000000 in
set_option maxRecDepth 100000 in
theorem ctl_readKey (s : Bs) (r : Int × Int) (hr : verRd 2 way 12 s = r) (hs : s.length ≤ 140737488355328) {W0 w : World} {K : Know} {L : List Res} (h : St W0 w K L) :
  Calls Tryz.prog 153 #[.string (bb s)] w fun en w' => en = .returned (.tuple #[.int .i64 r.1, .int .i64 r.2]) ∧ St W0 w' K L := by
 have H := Lib.hid h; have HS := Lib.hid hs; have HR := Lib.hid hr; clear h hs hr; go_enter Tryz.func153, Tryz.ntmps153; go_wp2_with ((go_at_call 172; refine (ctl_readKind s r HR.out HS.out stQ).mono ?_; rintro e wn ⟨rfl, h⟩; replace H := Lib.hid h; clear h)); go_ret2; exact ⟨rfl, H.out⟩

set_option maxHeartbeats 1000000 in
set_option maxRecDepth 100000 in
theorem ctl_readValue (s : Bs) (r : Int × Int) (hr : verRd 4 time0 11 s = r) (hs : s.length ≤ 140737488355328) {W0 w : World} {K : Know} {L : List Res} (h : St W0 w K L) :
  Calls Tryz.prog 154 #[.string (bb s)] w fun en w' => en = .returned (.tuple #[.int .i64 r.1, .int .i64 r.2]) ∧ St W0 w' K L := by
 have H := Lib.hid h; have HS := Lib.hid hs; have HR := Lib.hid hr; clear h hs hr; go_enter Tryz.func154, Tryz.ntmps154; go_wp2_with ((go_at_call 172; refine (ctl_readTime s r HR.out HS.out stQ).mono ?_; rintro e wn ⟨rfl, h⟩; replace H := Lib.hid h; clear h)); go_ret2; exact ⟨rfl, H.out⟩
theorem zq8 {p : Prop} (h : p := by
  go_wp2_with (first
   | (go_at_call 54; (with_reducible refine (sr_int (s.take 2) HT.out H.out).mono ?_); rw [E1.out]; rintro e wn ⟨rfl, h⟩; replace H := Lib.hid h; clear h)
   | (go_at_call 54; (with_reducible refine (sr_int ((s.drop 2).take 2) HT2.out H.out).mono ?_); rw [E2.out]; rintro e wn ⟨rfl, h⟩; replace H := Lib.hid h; clear h))
  go_ret2; exact ⟨rfl, H.out⟩) : p := h
set_option maxHeartbeats 1000000 in
set_option maxRecDepth 100000 in
theorem ref08_readKey (s : Bs) (r : Int × Int) (hr : verRd 2 way 12 s = r) (hs : s.length ≤ 140737488355328) {W0 w : World} {K : Know} {L : List Res} (h : St W0 w K L) :
   Calls Tryz.prog 135 #[.string (bb s)] w fun en w' => en = .returned (.tuple #[.int .i64 r.1, .int .i64 r.2]) ∧ St W0 w' K L := by
 have H := Lib.hid h; have HS := Lib.hid hs; have HT := Lib.hid (show (s.take 2).length ≤ 8 by rw [List.length_take]; omega); have HT2 := Lib.hid (show ((s.drop 2).take 2).length ≤ 8 by rw [List.length_take]; omega); obtain ⟨v1, hv1⟩ : ∃ v, sInt (s.take 2) = v := ⟨_, rfl⟩; obtain ⟨v2, hv2⟩ : ∃ v, sInt ((s.drop 2).take 2) = v := ⟨_, rfl⟩; unfold verRd at hr; rw [hv1, hv2] at hr; have E1 := Lib.hid hv1; have E2 := Lib.hid hv2; clear h hs hv1 hv2
 by_cases c1 : s.length < 2
 · rw [if_pos c1] at hr; subst hr; go_enter Tryz.func135, Tryz.ntmps135
   exact zq8
 rw [if_neg c1] at hr
 by_cases c2 : v1 ≠ 0
 · rw [if_pos c2] at hr; subst hr; have d2 : (v1 != 0) = true := by simpa using c2
   go_enter Tryz.func135, Tryz.ntmps135
   exact zq8
 rw [if_neg c2] at hr; have d2 : (v1 != 0) = false := by simpa using c2
 clear c2
 by_cases c3 : s.length < 2 + 2
 · rw [if_pos c3] at hr; subst hr; have c3' : s.length < 4 := c3; clear c3; go_enter Tryz.func135, Tryz.ntmps135
   exact zq8
 rw [if_neg c3] at hr; have c3' : ¬ s.length < 4 := c3; clear c3
 by_cases c4 : way v2 = false
 · rw [if_pos c4] at hr; subst hr; have n0 : (v2 != 0) = true ∧ (v2 != 1) = true := (by unfold way at c4; simpa using c4); obtain ⟨n0, n1⟩ := n0; clear c4; go_enter Tryz.func135, Tryz.ntmps135
   exact zq8
 rw [if_neg c4] at hr
 by_cases c5 : 2 + 2 < s.length
 · rw [if_pos c5] at hr; subst hr; have c5' : 4 < s.length := c5; clear c5; have hv2 : v2 = 0 ∨ v2 = 1 := (by unfold way at c4; simp at c4; omega); clear c4; rcases hv2 with rfl | rfl
   all_goals
    go_enter Tryz.func135, Tryz.ntmps135
    exact zq8
 rw [if_neg c5] at hr; subst hr; have c5' : ¬ 4 < s.length := c5; clear c5; have hv2 : v2 = 0 ∨ v2 = 1 := (by unfold way at c4; simp at c4; omega); clear c4; rcases hv2 with rfl | rfl
 all_goals
   go_enter Tryz.func135, Tryz.ntmps135
   exact zq8

theorem zq11 {p : Prop} (h : p := by
  go_wp2_with (first
   | (go_at_call 54; (with_reducible refine (sr_int (s.take 2) HT.out H.out).mono ?_); rw [E1.out]; rintro e wn ⟨rfl, h⟩; replace H := Lib.hid h; clear h)
   | (go_at_call 54; (with_reducible refine (sr_int ((s.drop 2).take 4) HT2.out H.out).mono ?_); rw [E2.out]; rintro e wn ⟨rfl, h⟩; replace H := Lib.hid h; clear h))
  go_ret2; exact ⟨rfl, H.out⟩) : p := h
theorem zq20 {p : Prop} (h : p := by
  go_wp2_with (first
   | (go_at_call 54; (with_reducible refine (sr_int (s.take 2) HT.out H.out).mono ?_); rw [E1.out]; rintro e wn ⟨rfl, h⟩; replace H := Lib.hid h; clear h))
  go_ret2; exact ⟨rfl, H.out⟩) : p := h
set_option maxHeartbeats 1000000 in
set_option maxRecDepth 100000 in
theorem ref08_readValue (s : Bs) (r : Int × Int) (hr : verRd 4 time0 11 s = r) (hs : s.length ≤ 140737488355328) {W0 w : World} {K : Know} {L : List Res} (h : St W0 w K L) :
   Calls Tryz.prog 136 #[.string (bb s)] w fun en w' => en = .returned (.tuple #[.int .i64 r.1, .int .i64 r.2]) ∧ St W0 w' K L := by
 have H := Lib.hid h; have HS := Lib.hid hs; have HT := Lib.hid (show (s.take 2).length ≤ 8 by rw [List.length_take]; omega); have HT2 := Lib.hid (show ((s.drop 2).take 4).length ≤ 8 by rw [List.length_take]; omega); obtain ⟨v1, hv1⟩ : ∃ v, sInt (s.take 2) = v := ⟨_, rfl⟩; obtain ⟨v2, hv2⟩ : ∃ v, sInt ((s.drop 2).take 4) = v := ⟨_, rfl⟩; unfold verRd at hr; rw [hv1, hv2] at hr; have E1 := Lib.hid hv1; have E2 := Lib.hid hv2; clear h hs hv1 hv2
 by_cases c1 : s.length < 2
 · rw [if_pos c1] at hr; subst hr; go_enter Tryz.func136, Tryz.ntmps136
   exact zq20
 rw [if_neg c1] at hr
 by_cases c2 : v1 ≠ 0
 · rw [if_pos c2] at hr; subst hr; have d2 : (v1 != 0) = true := by simpa using c2
   go_enter Tryz.func136, Tryz.ntmps136
   exact zq20
 rw [if_neg c2] at hr; have d2 : (v1 != 0) = false := by simpa using c2
 clear c2
 by_cases c3 : s.length < 2 + 4
 · rw [if_pos c3] at hr; subst hr; have c3' : s.length < 6 := c3; clear c3; go_enter Tryz.func136, Tryz.ntmps136
   exact zq20
 rw [if_neg c3] at hr; have c3' : ¬ s.length < 6 := c3; clear c3
 by_cases c4 : time0 v2 = false
 · rw [if_pos c4] at hr; subst hr; have n0 : v2 < 0 := (by unfold time0 at c4; simpa using c4); clear c4; go_enter Tryz.func136, Tryz.ntmps136
   exact zq11
 rw [if_neg c4] at hr
 by_cases c5 : 2 + 4 < s.length
 · rw [if_pos c5] at hr; subst hr; have c5' : 6 < s.length := c5; clear c5; have n0 : ¬ v2 < 0 := (by unfold time0 at c4; simpa using c4); clear c4
   all_goals
    go_enter Tryz.func136, Tryz.ntmps136
    exact zq11
 rw [if_neg c5] at hr; subst hr; have c5' : ¬ 6 < s.length := c5; clear c5; have n0 : ¬ v2 < 0 := (by unfold time0 at c4; simpa using c4); clear c4
 all_goals
   go_enter Tryz.func136, Tryz.ntmps136
   exact zq11
def ctlRead (n1 n2 : Bool) (d1 d2 : Bs) (many o : Int) : Int × Int × Int :=
  if n1 = true ∨ n2 = true ∨ many ≠ 0 ∨ o ≠ 0 then (0, 0, 12)
  else if (verRd 2 way 12 d1).2 ≠ 0 then (0, 0, (verRd 2 way 12 d1).2)
  else if (verRd 4 time0 11 d2).2 ≠ 0 then (0, 0, (verRd 4 time0 11 d2).2)
  else ((verRd 2 way 12 d1).1, (verRd 4 time0 11 d2).1, 0)

set_option maxHeartbeats 1000000 in
set_option maxRecDepth 100000 in
theorem ctl_read (t o : Int) (n1 n2 : Bool) (d1 d2 : Bs) (q : Option Addr) (ln cap : Nat) (r : Int × Int × Int) (hr : ctlRead n1 n2 d1 d2 ln o = r) (hd1 : d1.length ≤ 140737488355328) (hd2 : d2.length ≤ 140737488355328) {W0 w : World} {K : Know} {L : List Res} (h : St W0 w K L) :
   Calls Tryz.prog 123 #[.agg #[.int .i64 t, .int .i64 o, .bool n1, .string (bb d1), .bool n2, .string (bb d2), (.slice q ln cap)]] w fun en w' => en = .returned (.tuple #[.int .i64 r.1, .int .i64 r.2.1, .int .i64 r.2.2]) ∧ St W0 w' K L := by
 have h0 := h.allocRaw #[.int .i64 t, .int .i64 o, .bool n1, .string (bb d1), .bool n2, .string (bb d2), (.slice q ln cap)] 119; obtain ⟨wA, hwA⟩ : ∃ b, w.heap.size = b := ⟨_, rfl⟩; rw [hwA] at h0; have H := Lib.hid h0; have HD1 := Lib.hid hd1; have HD2 := Lib.hid hd2; obtain ⟨ac0, ac1, ac2, ac3, ac4, ac5, ac6, af0, af1, af2, af3, af4, af5, af6⟩ := raw7 (b := wA) (H.out); clear h h0 hd1 hd2; unfold ctlRead at hr
 by_cases g1 : n1 = true
 · rw [if_pos (.inl g1)] at hr; subst hr g1; go_enter Tryz.func123, Tryz.ntmps123; go_wp2; go_ret3; exact ⟨rfl, H.out.drop⟩
 by_cases g2 : n2 = true
 · rw [if_pos (.inr (.inl g2))] at hr; subst hr g2; obtain rfl : n1 = false := by simpa using g1
   clear g1; go_enter Tryz.func123, Tryz.ntmps123; go_wp2; go_ret3; exact ⟨rfl, H.out.drop⟩
 obtain rfl : n1 = false := by simpa using g1
 obtain rfl : n2 = false := by simpa using g2
 clear g1 g2
 by_cases g3 : (ln : Int) ≠ 0
 · rw [if_pos (.inr (.inr (.inl g3)))] at hr; subst hr; have b1 : ((ln : Int) != 0) = true := by simpa using g3
   have b2 : decide (0 < ln) = true := decide_eq_true (by omega); have b3 : decide ((0 : Int) < ln) = true := decide_eq_true (by omega); have b4 : 0 < ln := by omega
   clear g3; go_enter Tryz.func123, Tryz.ntmps123; go_wp2; go_ret3; exact ⟨rfl, H.out.drop⟩
 obtain rfl : ln = 0 := by omega
 clear g3
 by_cases g4 : o ≠ 0
 · rw [if_pos (.inr (.inr (.inr g4)))] at hr; subst hr; have b1 : (o != 0) = true := by simpa using g4
   clear g4; go_enter Tryz.func123, Tryz.ntmps123; go_wp2; go_ret3; exact ⟨rfl, H.out.drop⟩
 obtain rfl : o = 0 := by simpa using g4
 clear g4; rw [if_neg (by simp)] at hr; obtain ⟨a, ha⟩ : ∃ a, verRd 2 way 12 d1 = a := ⟨_, rfl⟩; obtain ⟨b, hb⟩ : ∃ b, verRd 4 time0 11 d2 = b := ⟨_, rfl⟩; rw [ha, hb] at hr; have EA := Lib.hid ha; have EB := Lib.hid hb; clear ha hb
 by_cases g5 : a.2 ≠ 0
 · rw [if_pos g5] at hr; subst hr; have b1 : (a.2 != 0) = true := by simpa using g5
   clear g5; go_enter Tryz.func123, Tryz.ntmps123
   go_wp2_with (first
    | (go_at_call 153; refine (ctl_readKey d1 a EA.out HD1.out H.out).mono ?_; rintro e wn ⟨rfl, h⟩; replace H := Lib.hid h; clear h; obtain ⟨ac0, ac1, ac2, ac3, ac4, ac5, ac6, af0, af1, af2, af3, af4, af5, af6⟩ := raw7 (b := wA) (H.out)))
   go_ret3; exact ⟨rfl, H.out.drop⟩
 rw [if_neg g5] at hr; have b1 : (a.2 != 0) = false := by simpa using g5
 clear g5
 by_cases g6 : b.2 ≠ 0
 · rw [if_pos g6] at hr; subst hr; have b2 : (b.2 != 0) = true := by simpa using g6
   clear g6; go_enter Tryz.func123, Tryz.ntmps123
   go_wp2_with (first
    | (go_at_call 153; refine (ctl_readKey d1 a EA.out HD1.out H.out).mono ?_; rintro e wn ⟨rfl, h⟩; replace H := Lib.hid h; clear h; obtain ⟨ac0, ac1, ac2, ac3, ac4, ac5, ac6, af0, af1, af2, af3, af4, af5, af6⟩ := raw7 (b := wA) (H.out))
    | (go_at_call 154; refine (ctl_readValue d2 b EB.out HD2.out H.out).mono ?_; rintro e wn ⟨rfl, h⟩; replace H := Lib.hid h; clear h; obtain ⟨ac0, ac1, ac2, ac3, ac4, ac5, ac6, af0, af1, af2, af3, af4, af5, af6⟩ := raw7 (b := wA) (H.out)))
   go_ret3; exact ⟨rfl, H.out.drop⟩
 rw [if_neg g6] at hr; subst hr; have b2 : (b.2 != 0) = false := by simpa using g6
 clear g6; go_enter Tryz.func123, Tryz.ntmps123
 go_wp2_with (first
   | (go_at_call 153; refine (ctl_readKey d1 a EA.out HD1.out H.out).mono ?_; rintro e wn ⟨rfl, h⟩; replace H := Lib.hid h; clear h; obtain ⟨ac0, ac1, ac2, ac3, ac4, ac5, ac6, af0, af1, af2, af3, af4, af5, af6⟩ := raw7 (b := wA) (H.out))
   | (go_at_call 154; refine (ctl_readValue d2 b EB.out HD2.out H.out).mono ?_; rintro e wn ⟨rfl, h⟩; replace H := Lib.hid h; clear h; obtain ⟨ac0, ac1, ac2, ac3, ac4, ac5, ac6, af0, af1, af2, af3, af4, af5, af6⟩ := raw7 (b := wA) (H.out)))
 go_ret3; exact ⟨rfl, H.out.drop⟩

set_option maxHeartbeats 1000000 in
set_option maxRecDepth 100000 in
theorem ref08_read (t o : Int) (n1 n2 : Bool) (d1 d2 : Bs) (q : Option Addr) (ln cap : Nat) (r : Int × Int × Int) (hr : ctlRead n1 n2 d1 d2 ln o = r) (hd1 : d1.length ≤ 140737488355328) (hd2 : d2.length ≤ 140737488355328) {W0 w : World} {K : Know} {L : List Res} (h : St W0 w K L) :
   Calls Tryz.prog 103 #[.agg #[.int .i64 t, .int .i64 o, .bool n1, .string (bb d1), .bool n2, .string (bb d2), (.slice q ln cap)]] w fun en w' => en = .returned (.tuple #[.int .i64 r.1, .int .i64 r.2.1, .int .i64 r.2.2]) ∧ St W0 w' K L := by
 have h0 := h.allocRaw #[.int .i64 t, .int .i64 o, .bool n1, .string (bb d1), .bool n2, .string (bb d2), (.slice q ln cap)] 119; obtain ⟨wA, hwA⟩ : ∃ b, w.heap.size = b := ⟨_, rfl⟩; rw [hwA] at h0; have H := Lib.hid h0; have HD1 := Lib.hid hd1; have HD2 := Lib.hid hd2; obtain ⟨ac0, ac1, ac2, ac3, ac4, ac5, ac6, af0, af1, af2, af3, af4, af5, af6⟩ := raw7 (b := wA) (H.out); clear h h0 hd1 hd2; unfold ctlRead at hr
 by_cases g1 : n1 = true
 · rw [if_pos (.inl g1)] at hr; subst hr g1; go_enter Tryz.func103, Tryz.ntmps103; go_wp2; go_ret3; exact ⟨rfl, H.out.drop⟩
 by_cases g2 : n2 = true
 · rw [if_pos (.inr (.inl g2))] at hr; subst hr g2; obtain rfl : n1 = false := by simpa using g1
   clear g1; go_enter Tryz.func103, Tryz.ntmps103; go_wp2; go_ret3; exact ⟨rfl, H.out.drop⟩
 obtain rfl : n1 = false := by simpa using g1
 obtain rfl : n2 = false := by simpa using g2
 clear g1 g2
 by_cases g3 : (ln : Int) ≠ 0
 · rw [if_pos (.inr (.inr (.inl g3)))] at hr; subst hr; have b1 : ((ln : Int) != 0) = true := by simpa using g3
   have b2 : decide (0 < ln) = true := decide_eq_true (by omega); have b3 : decide ((0 : Int) < ln) = true := decide_eq_true (by omega); have b4 : 0 < ln := by omega
   clear g3; go_enter Tryz.func103, Tryz.ntmps103; go_wp2; go_ret3; exact ⟨rfl, H.out.drop⟩
 obtain rfl : ln = 0 := by omega
 clear g3
 by_cases g4 : o ≠ 0
 · rw [if_pos (.inr (.inr (.inr g4)))] at hr; subst hr; have b1 : (o != 0) = true := by simpa using g4
   clear g4; go_enter Tryz.func103, Tryz.ntmps103; go_wp2; go_ret3; exact ⟨rfl, H.out.drop⟩
 obtain rfl : o = 0 := by simpa using g4
 clear g4; rw [if_neg (by simp)] at hr; obtain ⟨a, ha⟩ : ∃ a, verRd 2 way 12 d1 = a := ⟨_, rfl⟩; obtain ⟨b, hb⟩ : ∃ b, verRd 4 time0 11 d2 = b := ⟨_, rfl⟩; rw [ha, hb] at hr; have EA := Lib.hid ha; have EB := Lib.hid hb; clear ha hb
 by_cases g5 : a.2 ≠ 0
 · rw [if_pos g5] at hr; subst hr; have b1 : (a.2 != 0) = true := by simpa using g5
   clear g5; go_enter Tryz.func103, Tryz.ntmps103
   go_wp2_with (first
    | (go_at_call 135; refine (ref08_readKey d1 a EA.out HD1.out H.out).mono ?_; rintro e wn ⟨rfl, h⟩; replace H := Lib.hid h; clear h; obtain ⟨ac0, ac1, ac2, ac3, ac4, ac5, ac6, af0, af1, af2, af3, af4, af5, af6⟩ := raw7 (b := wA) (H.out)))
   go_ret3; exact ⟨rfl, H.out.drop⟩
 rw [if_neg g5] at hr; have b1 : (a.2 != 0) = false := by simpa using g5
 clear g5
 by_cases g6 : b.2 ≠ 0
 · rw [if_pos g6] at hr; subst hr; have b2 : (b.2 != 0) = true := by simpa using g6
   clear g6; go_enter Tryz.func103, Tryz.ntmps103
   go_wp2_with (first
    | (go_at_call 135; refine (ref08_readKey d1 a EA.out HD1.out H.out).mono ?_; rintro e wn ⟨rfl, h⟩; replace H := Lib.hid h; clear h; obtain ⟨ac0, ac1, ac2, ac3, ac4, ac5, ac6, af0, af1, af2, af3, af4, af5, af6⟩ := raw7 (b := wA) (H.out))
    | (go_at_call 136; refine (ref08_readValue d2 b EB.out HD2.out H.out).mono ?_; rintro e wn ⟨rfl, h⟩; replace H := Lib.hid h; clear h; obtain ⟨ac0, ac1, ac2, ac3, ac4, ac5, ac6, af0, af1, af2, af3, af4, af5, af6⟩ := raw7 (b := wA) (H.out)))
   go_ret3; exact ⟨rfl, H.out.drop⟩
 rw [if_neg g6] at hr; subst hr; have b2 : (b.2 != 0) = false := by simpa using g6
 clear g6; go_enter Tryz.func103, Tryz.ntmps103
 go_wp2_with (first
   | (go_at_call 135; refine (ref08_readKey d1 a EA.out HD1.out H.out).mono ?_; rintro e wn ⟨rfl, h⟩; replace H := Lib.hid h; clear h; obtain ⟨ac0, ac1, ac2, ac3, ac4, ac5, ac6, af0, af1, af2, af3, af4, af5, af6⟩ := raw7 (b := wA) (H.out))
   | (go_at_call 136; refine (ref08_readValue d2 b EB.out HD2.out H.out).mono ?_; rintro e wn ⟨rfl, h⟩; replace H := Lib.hid h; clear h; obtain ⟨ac0, ac1, ac2, ac3, ac4, ac5, ac6, af0, af1, af2, af3, af4, af5, af6⟩ := raw7 (b := wA) (H.out)))
 go_ret3; exact ⟨rfl, H.out.drop⟩
structure BatS where
  base : Int
  leader : Int
  app : Bool
  txn : Bool
  ctl : Bool
  last : Int
  first : Int
  maxt : Int
  prod : Int
  epoch : Int
  seq : Int
  recs : List RecS
deriving DecidableEq
def BatS.zero : BatS := ⟨0, 0, false, false, false, 0, 0, 0, 0, 0, 0, []⟩
def Rn (n : Int) : Prop := -9223372036854775808 ≤ n ∧ n < 9223372036854775808
def BatS.R (b : BatS) : Prop := Rn b.base ∧ Rn b.leader ∧ Rn b.last ∧ Rn b.first ∧ Rn b.maxt ∧ Rn b.prod ∧ Rn b.epoch ∧ Rn b.seq
def BatS.placed (b : BatS) : Bool := decide (0 ≤ b.base ∧ (-1 ≤ b.leader ∧ b.leader ≤ 2147483647) ∧ (0 ≤ b.last ∧ b.last ≤ 2147483647) ∧ b.base ≤ 9223372036854775807 - b.last ∧ 0 ≤ b.first ∧ 0 ≤ b.maxt)
def BatS.signed (b : BatS) : Bool :=
  if b.prod = -1 then decide (b.epoch = -1 ∧ b.seq = -1 ∧ b.txn = false)
  else if b.prod < 0 ∨ ¬ (0 ≤ b.epoch ∧ b.epoch ≤ 32767) then false
  else if b.ctl then decide (b.seq = -1)
  else decide (0 ≤ b.seq ∧ b.seq ≤ 2147483647)
def rowsC (first last : Int) : List RecS → Int → Int → Except Int Int
  | [], _, g => .ok g
  | r :: t, ah, g => if r.off ≤ ah ∨ last < r.off then .error 13 else if r.time < -first ∨ 9223372036854775807 - first < r.time then .error 11 else rowsC first last t r.off (max g (first + r.time))
def rowsE (app : Bool) (maxt : Int) (r : Except Int Int) : Int := match r with
  | .error e => e
  | .ok g => if app = false ∧ maxt ≠ g then 11 else 0
def BatS.rows (b : BatS) : Int := rowsE b.app b.maxt (rowsC b.first b.last b.recs (-1) b.first)
def recsC : List RecS → Int
  | [] => 0
  | r :: t => if recOk r = 0 then recsC t else recOk r
def ctlOf (r : RecS) : Int × Int × Int := ctlRead r.key.null r.val.null r.key.data r.val.data r.hdrs.length r.off
def BatS.ends (b : BatS) : Int := match b.recs with | [] => 0 | r :: _ => (ctlOf r).2.2
def batErr (b : BatS) : Int :=
  if b.placed = false then 11
  else if b.ctl = true ∧ b.txn = false then 8
  else if b.signed = false then 11
  else if b.ctl = true ∧ b.recs.length ≠ 1 then 10
  else if recsC b.recs ≠ 0 then recsC b.recs
  else if b.ctl = true ∧ b.ends ≠ 0 then b.ends
  else b.rows
def FitB (l : List (RecS × Value)) : Prop := ∀ x ∈ l, x.1.R ∧ HFit x.1.hdrs ∧ x.1.sum ≤ 1000000
theorem sum_hdrs {x : RecS} (h : x.sum ≤ 1000000) : x.hdrs.length ≤ 1000000 := by have := hsum_le x.hdrs; unfold RecS.sum at h; omega
theorem sum_data {x : RecS} (h : x.sum ≤ 1000000) : x.key.data.length ≤ 140737488355328 ∧ x.val.data.length ≤ 140737488355328 := by unfold RecS.sum at h; omega
theorem drop_recs (l : List (RecS × Value)) (k : Nat) (h : k < l.length) (x : RecS) (hx : l[k].1 = x) : (l.map (·.1)).drop k = x :: (l.map (·.1)).drop (k + 1) := by
 subst hx; rw [List.drop_eq_getElem_cons (by simpa using h), List.getElem_map]
theorem rowsC_cons (first last : Int) (r : RecS) (t : List RecS) (ah g : Int) : rowsC first last (r :: t) ah g = if r.off ≤ ah ∨ last < r.off then .error 13 else if r.time < -first ∨ 9223372036854775807 - first < r.time then .error 11 else rowsC first last t r.off (max g (first + r.time)) := rfl
structure PreS where
  base : Int
  len : Int
  leader : Int
  sum : Int
  attr : Int
  last : Int
  first : Int
  maxt : Int
  prod : Int
  epoch : Int
  seq : Int
  count : Int
deriving DecidableEq
def pv (x : PreS) : Value := .agg #[.int .i64 x.base, .int .i64 x.len, .int .i64 x.leader, .int .i64 x.sum, .int .i64 x.attr, .int .i64 x.last, .int .i64 x.first, .int .i64 x.maxt, .int .i64 x.prod, .int .i64 x.epoch, .int .i64 x.seq, .int .i64 x.count]
def PreS.list (x : PreS) : List Int := [x.base, x.len, x.leader, x.sum, x.attr, x.last, x.first, x.maxt, x.prod, x.epoch, x.seq, x.count]
def PreS.R (x : PreS) : Prop := ∀ n ∈ x.list, -9223372036854775808 ≤ n ∧ n < 9223372036854775808
def PreS.zero : PreS := ⟨0, 0, 0, 0, 0, 0, 0, 0, 0, 0, 0, 0⟩
def sumItem (n : Int) : Int := if n < 0 ∨ 4294967295 < n then 4294967296 else if 2147483647 < n then n - 4294967296 else n
def PreS.items (x : PreS) : List (Int × Nat) := [(x.base, 8), (x.len, 4), (x.leader, 4), (2, 1), (sumItem x.sum, 4), (x.attr, 2), (x.last, 4), (x.first, 8), (x.maxt, 8), (x.prod, 8), (x.epoch, 2), (x.seq, 4), (x.count, 4)]
def preSizes : List Nat := [8, 4, 4, 1, 4, 2, 4, 8, 8, 8, 2, 4, 4]
theorem sumItem_range (n : Int) : -9223372036854775808 ≤ sumItem n ∧ sumItem n < 9223372036854775808 := by
 unfold sumItem; split
 · omega
 · split <;> omega
theorem wrap32_sum (n : Int) (h0 : ¬ n < 0) (h1 : ¬ 4294967295 < n) : wrap32 n = sumItem n := by
 have e : wrap32 n = (n + 2147483648) % 4294967296 - 2147483648 := by unfold wrap32; rfl
 rw [e]; unfold sumItem; rw [if_neg (by omega)]
 split <;> omega
theorem OutS.okI {o : OutS} {a b : Int} {m : Nat} (h : o.ok (m + 8)) : (o.int a b).ok m := OutS.ok_int h (by omega)
theorem OutS.int_bad (o : OutS) (n : Int) (h : n < 0 ∨ 4294967295 < n) : o.int (sumItem n) 4 = o.fail 11 := by
 have e : sumItem n = 4294967296 := if_pos h; rw [e]; unfold OutS.int; rw [if_neg (by decide)]

set_option maxHeartbeats 1000000 in
set_option maxRecDepth 100000 in
theorem prefix_putSum (p : Nat) (o : OutS) (n : Int) (_ : -9223372036854775808 ≤ n ∧ n < 9223372036854775808) {W0 w : World} {K : Know} {L : List Res} (h : St W0 w K (.out p o :: L)) (hr : o.ok 8) :
   Calls Tryz.prog 157 #[outPtr p, .int .i64 n] w fun en w' => en = .returned (.tuple #[]) ∧ St W0 w' K (.out p (o.int (sumItem n) 4) :: L) := by
 have H := Lib.hid h; have HR := Lib.hid hr; clear h hr
 by_cases h0 : n < 0
 · have E := Lib.hid (OutS.int_bad o n (.inl h0)).symm; go_enter Tryz.func157, Tryz.ntmps157; go_wp2_with (go_at_call 30; refine (so_fail _ _ _ stQ).mono ?_; (repeat first | rw [E.out]); rintro e wn ⟨rfl, h⟩; replace H := Lib.hid h; clear h); refine bodyPost_ret (results_none rfl _ _ _) rfl ⟨rfl, H.out⟩
 by_cases h1 : 4294967295 < n
 · have E := Lib.hid (OutS.int_bad o n (.inr h1)).symm; go_enter Tryz.func157, Tryz.ntmps157; go_wp2_with (go_at_call 30; refine (so_fail _ _ _ stQ).mono ?_; (repeat first | rw [E.out]); rintro e wn ⟨rfl, h⟩; replace H := Lib.hid h; clear h); refine bodyPost_ret (results_none rfl _ _ _) rfl ⟨rfl, H.out⟩
 · have HW2 := Lib.hid (wrap32_sum n h0 h1); have HS := Lib.hid (sumItem_range n); have HS2 := Lib.hid (wrap64_in _ HS.out.1 HS.out.2); go_enter Tryz.func157, Tryz.ntmps157; go_wp2_with (go_at_call 32; rw [show wrap64 (wrap32 n) = sumItem n from by rw [HW2.out]; exact HS2.out]; refine (so_int _ _ _ _ HS.out H.out HR.out).mono ?_; rintro e wn ⟨rfl, h⟩; replace H := Lib.hid h; clear h); go_end0; exact ⟨rfl, H.out⟩

set_option maxHeartbeats 1000000 in
set_option maxRecDepth 100000 in
theorem prefix_write (p : Nat) (o : OutS) (x : PreS) (hx : x.R) {W0 w : World} {K : Know} {L : List Res} (h : St W0 w K (.out p o :: L)) (hr : o.ok 200) :
  Calls Tryz.prog 127 #[outPtr p, pv x] w fun en w' => en = .returned (.tuple #[]) ∧ St W0 w' K (.out p (o.ints x.items) :: L) := by
 have H := Lib.hid (h.allocRaw #[.int .i64 x.base, .int .i64 x.len, .int .i64 x.leader, .int .i64 x.sum, .int .i64 x.attr, .int .i64 x.last, .int .i64 x.first, .int .i64 x.maxt, .int .i64 x.prod, .int .i64 x.epoch, .int .i64 x.seq, .int .i64 x.count] 154).p1; have HR := Lib.hid hr; have N0 := Lib.hid (hx x.base (by simp [PreS.list])); have N1 := Lib.hid (hx x.len (by simp [PreS.list])); have N2 := Lib.hid (hx x.leader (by simp [PreS.list])); have N3 := Lib.hid (hx x.sum (by simp [PreS.list])); have N4 := Lib.hid (hx x.attr (by simp [PreS.list])); have N5 := Lib.hid (hx x.last (by simp [PreS.list])); have N6 := Lib.hid (hx x.first (by simp [PreS.list])); have N7 := Lib.hid (hx x.maxt (by simp [PreS.list])); have N8 := Lib.hid (hx x.prod (by simp [PreS.list])); have N9 := Lib.hid (hx x.epoch (by simp [PreS.list])); have N10 := Lib.hid (hx x.seq (by simp [PreS.list])); have N11 := Lib.hid (hx x.count (by simp [PreS.list])); have HS := Lib.hid (sumItem_range x.sum); clear h hr hx; go_enter Tryz.func127, Tryz.ntmps127; unfold pv
 go_wp2_with (first
  | (go_at_call 32; refine (so_int _ _ _ _ (by first | exact N0.out | exact N1.out | exact N2.out | exact N3.out | exact N4.out | exact N5.out | exact N6.out | exact N7.out | exact N8.out | exact N9.out | exact N10.out | exact N11.out | decide) stQ (by repeat (first | exact OutS.ok_mono HR.out (by decide) | with_reducible refine OutS.okI ?_))).mono ?_; rintro e wn ⟨rfl, h⟩; replace H := Lib.hid h; clear h; have c0 := H.out.cellOf (b := w.heap.size) (c := #[.int .i64 x.base, .int .i64 x.len, .int .i64 x.leader, .int .i64 x.sum, .int .i64 x.attr, .int .i64 x.last, .int .i64 x.first, .int .i64 x.maxt, .int .i64 x.prod, .int .i64 x.epoch, .int .i64 x.seq, .int .i64 x.count]) (T := 154) (by simp) 0; have c1 := H.out.cellOf (b := w.heap.size) (c := #[.int .i64 x.base, .int .i64 x.len, .int .i64 x.leader, .int .i64 x.sum, .int .i64 x.attr, .int .i64 x.last, .int .i64 x.first, .int .i64 x.maxt, .int .i64 x.prod, .int .i64 x.epoch, .int .i64 x.seq, .int .i64 x.count]) (T := 154) (by simp) 1; have c2 := H.out.cellOf (b := w.heap.size) (c := #[.int .i64 x.base, .int .i64 x.len, .int .i64 x.leader, .int .i64 x.sum, .int .i64 x.attr, .int .i64 x.last, .int .i64 x.first, .int .i64 x.maxt, .int .i64 x.prod, .int .i64 x.epoch, .int .i64 x.seq, .int .i64 x.count]) (T := 154) (by simp) 2; have c3 := H.out.cellOf (b := w.heap.size) (c := #[.int .i64 x.base, .int .i64 x.len, .int .i64 x.leader, .int .i64 x.sum, .int .i64 x.attr, .int .i64 x.last, .int .i64 x.first, .int .i64 x.maxt, .int .i64 x.prod, .int .i64 x.epoch, .int .i64 x.seq, .int .i64 x.count]) (T := 154) (by simp) 3; have c4 := H.out.cellOf (b := w.heap.size) (c := #[.int .i64 x.base, .int .i64 x.len, .int .i64 x.leader, .int .i64 x.sum, .int .i64 x.attr, .int .i64 x.last, .int .i64 x.first, .int .i64 x.maxt, .int .i64 x.prod, .int .i64 x.epoch, .int .i64 x.seq, .int .i64 x.count]) (T := 154) (by simp) 4; have c5 := H.out.cellOf (b := w.heap.size) (c := #[.int .i64 x.base, .int .i64 x.len, .int .i64 x.leader, .int .i64 x.sum, .int .i64 x.attr, .int .i64 x.last, .int .i64 x.first, .int .i64 x.maxt, .int .i64 x.prod, .int .i64 x.epoch, .int .i64 x.seq, .int .i64 x.count]) (T := 154) (by simp) 5; have c6 := H.out.cellOf (b := w.heap.size) (c := #[.int .i64 x.base, .int .i64 x.len, .int .i64 x.leader, .int .i64 x.sum, .int .i64 x.attr, .int .i64 x.last, .int .i64 x.first, .int .i64 x.maxt, .int .i64 x.prod, .int .i64 x.epoch, .int .i64 x.seq, .int .i64 x.count]) (T := 154) (by simp) 6; have c7 := H.out.cellOf (b := w.heap.size) (c := #[.int .i64 x.base, .int .i64 x.len, .int .i64 x.leader, .int .i64 x.sum, .int .i64 x.attr, .int .i64 x.last, .int .i64 x.first, .int .i64 x.maxt, .int .i64 x.prod, .int .i64 x.epoch, .int .i64 x.seq, .int .i64 x.count]) (T := 154) (by simp) 7; have c8 := H.out.cellOf (b := w.heap.size) (c := #[.int .i64 x.base, .int .i64 x.len, .int .i64 x.leader, .int .i64 x.sum, .int .i64 x.attr, .int .i64 x.last, .int .i64 x.first, .int .i64 x.maxt, .int .i64 x.prod, .int .i64 x.epoch, .int .i64 x.seq, .int .i64 x.count]) (T := 154) (by simp) 8; have c9 := H.out.cellOf (b := w.heap.size) (c := #[.int .i64 x.base, .int .i64 x.len, .int .i64 x.leader, .int .i64 x.sum, .int .i64 x.attr, .int .i64 x.last, .int .i64 x.first, .int .i64 x.maxt, .int .i64 x.prod, .int .i64 x.epoch, .int .i64 x.seq, .int .i64 x.count]) (T := 154) (by simp) 9; have c10 := H.out.cellOf (b := w.heap.size) (c := #[.int .i64 x.base, .int .i64 x.len, .int .i64 x.leader, .int .i64 x.sum, .int .i64 x.attr, .int .i64 x.last, .int .i64 x.first, .int .i64 x.maxt, .int .i64 x.prod, .int .i64 x.epoch, .int .i64 x.seq, .int .i64 x.count]) (T := 154) (by simp) 10; have c11 := H.out.cellOf (b := w.heap.size) (c := #[.int .i64 x.base, .int .i64 x.len, .int .i64 x.leader, .int .i64 x.sum, .int .i64 x.attr, .int .i64 x.last, .int .i64 x.first, .int .i64 x.maxt, .int .i64 x.prod, .int .i64 x.epoch, .int .i64 x.seq, .int .i64 x.count]) (T := 154) (by simp) 11; simp at c0 c1 c2 c3 c4 c5 c6 c7 c8 c9 c10 c11)
  | (go_at_call 157; refine (prefix_putSum _ _ _ (by first | exact N0.out | exact N1.out | exact N2.out | exact N3.out | exact N4.out | exact N5.out | exact N6.out | exact N7.out | exact N8.out | exact N9.out | exact N10.out | exact N11.out | decide) stQ (by repeat (first | exact OutS.ok_mono HR.out (by decide) | with_reducible refine OutS.okI ?_))).mono ?_; rintro e wn ⟨rfl, h⟩; replace H := Lib.hid h; clear h; have c0 := H.out.cellOf (b := w.heap.size) (c := #[.int .i64 x.base, .int .i64 x.len, .int .i64 x.leader, .int .i64 x.sum, .int .i64 x.attr, .int .i64 x.last, .int .i64 x.first, .int .i64 x.maxt, .int .i64 x.prod, .int .i64 x.epoch, .int .i64 x.seq, .int .i64 x.count]) (T := 154) (by simp) 0; have c1 := H.out.cellOf (b := w.heap.size) (c := #[.int .i64 x.base, .int .i64 x.len, .int .i64 x.leader, .int .i64 x.sum, .int .i64 x.attr, .int .i64 x.last, .int .i64 x.first, .int .i64 x.maxt, .int .i64 x.prod, .int .i64 x.epoch, .int .i64 x.seq, .int .i64 x.count]) (T := 154) (by simp) 1; have c2 := H.out.cellOf (b := w.heap.size) (c := #[.int .i64 x.base, .int .i64 x.len, .int .i64 x.leader, .int .i64 x.sum, .int .i64 x.attr, .int .i64 x.last, .int .i64 x.first, .int .i64 x.maxt, .int .i64 x.prod, .int .i64 x.epoch, .int .i64 x.seq, .int .i64 x.count]) (T := 154) (by simp) 2; have c3 := H.out.cellOf (b := w.heap.size) (c := #[.int .i64 x.base, .int .i64 x.len, .int .i64 x.leader, .int .i64 x.sum, .int .i64 x.attr, .int .i64 x.last, .int .i64 x.first, .int .i64 x.maxt, .int .i64 x.prod, .int .i64 x.epoch, .int .i64 x.seq, .int .i64 x.count]) (T := 154) (by simp) 3; have c4 := H.out.cellOf (b := w.heap.size) (c := #[.int .i64 x.base, .int .i64 x.len, .int .i64 x.leader, .int .i64 x.sum, .int .i64 x.attr, .int .i64 x.last, .int .i64 x.first, .int .i64 x.maxt, .int .i64 x.prod, .int .i64 x.epoch, .int .i64 x.seq, .int .i64 x.count]) (T := 154) (by simp) 4; have c5 := H.out.cellOf (b := w.heap.size) (c := #[.int .i64 x.base, .int .i64 x.len, .int .i64 x.leader, .int .i64 x.sum, .int .i64 x.attr, .int .i64 x.last, .int .i64 x.first, .int .i64 x.maxt, .int .i64 x.prod, .int .i64 x.epoch, .int .i64 x.seq, .int .i64 x.count]) (T := 154) (by simp) 5; have c6 := H.out.cellOf (b := w.heap.size) (c := #[.int .i64 x.base, .int .i64 x.len, .int .i64 x.leader, .int .i64 x.sum, .int .i64 x.attr, .int .i64 x.last, .int .i64 x.first, .int .i64 x.maxt, .int .i64 x.prod, .int .i64 x.epoch, .int .i64 x.seq, .int .i64 x.count]) (T := 154) (by simp) 6; have c7 := H.out.cellOf (b := w.heap.size) (c := #[.int .i64 x.base, .int .i64 x.len, .int .i64 x.leader, .int .i64 x.sum, .int .i64 x.attr, .int .i64 x.last, .int .i64 x.first, .int .i64 x.maxt, .int .i64 x.prod, .int .i64 x.epoch, .int .i64 x.seq, .int .i64 x.count]) (T := 154) (by simp) 7; have c8 := H.out.cellOf (b := w.heap.size) (c := #[.int .i64 x.base, .int .i64 x.len, .int .i64 x.leader, .int .i64 x.sum, .int .i64 x.attr, .int .i64 x.last, .int .i64 x.first, .int .i64 x.maxt, .int .i64 x.prod, .int .i64 x.epoch, .int .i64 x.seq, .int .i64 x.count]) (T := 154) (by simp) 8; have c9 := H.out.cellOf (b := w.heap.size) (c := #[.int .i64 x.base, .int .i64 x.len, .int .i64 x.leader, .int .i64 x.sum, .int .i64 x.attr, .int .i64 x.last, .int .i64 x.first, .int .i64 x.maxt, .int .i64 x.prod, .int .i64 x.epoch, .int .i64 x.seq, .int .i64 x.count]) (T := 154) (by simp) 9; have c10 := H.out.cellOf (b := w.heap.size) (c := #[.int .i64 x.base, .int .i64 x.len, .int .i64 x.leader, .int .i64 x.sum, .int .i64 x.attr, .int .i64 x.last, .int .i64 x.first, .int .i64 x.maxt, .int .i64 x.prod, .int .i64 x.epoch, .int .i64 x.seq, .int .i64 x.count]) (T := 154) (by simp) 10; have c11 := H.out.cellOf (b := w.heap.size) (c := #[.int .i64 x.base, .int .i64 x.len, .int .i64 x.leader, .int .i64 x.sum, .int .i64 x.attr, .int .i64 x.last, .int .i64 x.first, .int .i64 x.maxt, .int .i64 x.prod, .int .i64 x.epoch, .int .i64 x.seq, .int .i64 x.count]) (T := 154) (by simp) 11; simp at c0 c1 c2 c3 c4 c5 c6 c7 c8 c9 c10 c11))
 go_end0; exact ⟨rfl, H.out.p1.drop⟩
theorem St.set1_Pre2 {W0 w : World} {K : Know} {L : List Res} {r : Res} {b j : Nat} {c : Array Value} {T : TypeId} {v : Value} (h : St W0 w K (r :: .raw b c T :: L)) : St W0 (w.setCell ⟨b, j, none⟩ v) K (r :: .raw b (c.setIfInBounds j v) T :: L) := (h.p1.rawSet j v).p1
theorem and_u32 (n : Int) : bits .and .i64 n 4294967295 = n % 4294967296 := by
 rw [bits_and_i64]; have e1 : ((4294967295 : Int) % 18446744073709551616).toNat = 2 ^ 32 - 1 := by decide
 rw [e1, Nat.and_two_pow_sub_one_eq_mod]; have h : (0 : Int) ≤ n % 18446744073709551616 := Int.emod_nonneg _ (by decide); rw [IntKind.wrap_i64]
 omega

set_option maxHeartbeats 1000000 in
set_option maxRecDepth 100000 in
theorem prefix_fields (p : Nat) (i i1 i2 i3 i4 i5 i6 i7 i8 i9 i10 i11 i12 i13 : InS) (a0 a1 a2 a3 a4 a5 a6 a7 a8 a9 a10 a11 a12 sm : Int) (e0 : i.int 8 = (a0, i1)) (e1 : i1.int 4 = (a1, i2)) (e2 : i2.int 4 = (a2, i3)) (e3 : i3.int 1 = (a3, i4)) (e4 : i4.int 4 = (a4, i5)) (e5 : i5.int 2 = (a5, i6)) (e6 : i6.int 4 = (a6, i7)) (e7 : i7.int 8 = (a7, i8)) (e8 : i8.int 8 = (a8, i9)) (e9 : i9.int 8 = (a9, i10)) (e10 : i10.int 2 = (a10, i11)) (e11 : i11.int 4 = (a11, i12)) (e12 : i12.int 4 = (a12, i13)) (hsm : bits .and .i64 a4 4294967295 = sm) {W0 w : World} {K : Know} {L : List Res} (h : St W0 w K (.inp p i :: L)) :
  Calls Tryz.prog 164 #[inPtr p] w fun en w' => en = .returned (.tuple #[.agg #[.int .i64 a0, .int .i64 a1, .int .i64 a2, .int .i64 sm, .int .i64 a5, .int .i64 a6, .int .i64 a7, .int .i64 a8, .int .i64 a9, .int .i64 a10, .int .i64 a11, .int .i64 a12], .int .i64 a3]) ∧ St W0 w' K (.inp p i13 :: L) := by
 have H := Lib.hid (h.allocRaw #[.int .i64 0, .int .i64 0, .int .i64 0, .int .i64 0, .int .i64 0, .int .i64 0, .int .i64 0, .int .i64 0, .int .i64 0, .int .i64 0, .int .i64 0, .int .i64 0] 154).p1; have E0 := Lib.hid e0; have tok0 : True := trivial; have E1 := Lib.hid e1; have tok1 : True := trivial; have E2 := Lib.hid e2; have tok2 : True := trivial; have E3 := Lib.hid e3; have tok3 : True := trivial; have E4 := Lib.hid e4; have tok4 : True := trivial; have E5 := Lib.hid e5; have tok5 : True := trivial; have E6 := Lib.hid e6; have tok6 : True := trivial; have E7 := Lib.hid e7; have tok7 : True := trivial; have E8 := Lib.hid e8; have tok8 : True := trivial; have E9 := Lib.hid e9; have tok9 : True := trivial; have E10 := Lib.hid e10; have tok10 : True := trivial; have E11 := Lib.hid e11; have tok11 : True := trivial; have E12 := Lib.hid e12; have tok12 : True := trivial; clear h e0 e1 e2 e3 e4 e5 e6 e7 e8 e9 e10 e11 e12; go_enter Tryz.func164, Tryz.ntmps164
 go_wp2_with (first
  | (go_at_call 44; have _t := tok0; clear _t; (with_reducible refine (s_int _ i 8 H.out).mono ?_); rw [E0.out]; rintro e wn ⟨rfl, h⟩; replace H := Lib.hid (show St W0 wn K (.inp p i1 :: .raw w.heap.size #[.int .i64 0, .int .i64 0, .int .i64 0, .int .i64 0, .int .i64 0, .int .i64 0, .int .i64 0, .int .i64 0, .int .i64 0, .int .i64 0, .int .i64 0, .int .i64 0] 154 :: L) from h); clear h tok0; have z0 := H.out.p1.rawCell 0; have z1 := H.out.p1.rawFree 0; simp at z0)
  | (go_at_call 44; have _t := tok1; clear _t; (with_reducible refine (s_int _ i1 4 (St.set1_Pre2 H.out)).mono ?_); rw [E1.out]; rintro e wn ⟨rfl, h⟩; replace H := Lib.hid (show St W0 wn K (.inp p i2 :: .raw w.heap.size #[.int .i64 a0, .int .i64 0, .int .i64 0, .int .i64 0, .int .i64 0, .int .i64 0, .int .i64 0, .int .i64 0, .int .i64 0, .int .i64 0, .int .i64 0, .int .i64 0] 154 :: L) from h); clear h tok1; have z0 := H.out.p1.rawCell 1; have z1 := H.out.p1.rawFree 1; simp at z0)
  | (go_at_call 44; have _t := tok2; clear _t; (with_reducible refine (s_int _ i2 4 (St.set1_Pre2 H.out)).mono ?_); rw [E2.out]; rintro e wn ⟨rfl, h⟩; replace H := Lib.hid (show St W0 wn K (.inp p i3 :: .raw w.heap.size #[.int .i64 a0, .int .i64 a1, .int .i64 0, .int .i64 0, .int .i64 0, .int .i64 0, .int .i64 0, .int .i64 0, .int .i64 0, .int .i64 0, .int .i64 0, .int .i64 0] 154 :: L) from h); clear h tok2; have z0 := H.out.p1.rawCell 2; have z1 := H.out.p1.rawFree 2; simp at z0)
  | (go_at_call 44; have _t := tok3; clear _t; (with_reducible refine (s_int _ i3 1 (St.set1_Pre2 H.out)).mono ?_); rw [E3.out]; rintro e wn ⟨rfl, h⟩; replace H := Lib.hid (show St W0 wn K (.inp p i4 :: .raw w.heap.size #[.int .i64 a0, .int .i64 a1, .int .i64 a2, .int .i64 0, .int .i64 0, .int .i64 0, .int .i64 0, .int .i64 0, .int .i64 0, .int .i64 0, .int .i64 0, .int .i64 0] 154 :: L) from h); clear h tok3; have z0 := H.out.p1.rawCell 0; have z1 := H.out.p1.rawFree 0; simp at z0)
  | (go_at_call 44; have _t := tok4; clear _t; (with_reducible refine (s_int _ i4 4 H.out).mono ?_); rw [E4.out]; rintro e wn ⟨rfl, h⟩; replace H := Lib.hid (show St W0 wn K (.inp p i5 :: .raw w.heap.size #[.int .i64 a0, .int .i64 a1, .int .i64 a2, .int .i64 0, .int .i64 0, .int .i64 0, .int .i64 0, .int .i64 0, .int .i64 0, .int .i64 0, .int .i64 0, .int .i64 0] 154 :: L) from h); clear h tok4; have z0 := H.out.p1.rawCell 3; have z1 := H.out.p1.rawFree 3; simp at z0)
  | (go_at_call 44; have _t := tok5; clear _t; (with_reducible refine (s_int _ i5 2 (St.set1_Pre2 H.out)).mono ?_); rw [E5.out]; rintro e wn ⟨rfl, h⟩; replace H := Lib.hid (show St W0 wn K (.inp p i6 :: .raw w.heap.size #[.int .i64 a0, .int .i64 a1, .int .i64 a2, .int .i64 sm, .int .i64 0, .int .i64 0, .int .i64 0, .int .i64 0, .int .i64 0, .int .i64 0, .int .i64 0, .int .i64 0] 154 :: L) from h); clear h tok5; have z0 := H.out.p1.rawCell 4; have z1 := H.out.p1.rawFree 4; simp at z0)
  | (go_at_call 44; have _t := tok6; clear _t; (with_reducible refine (s_int _ i6 4 (St.set1_Pre2 H.out)).mono ?_); rw [E6.out]; rintro e wn ⟨rfl, h⟩; replace H := Lib.hid (show St W0 wn K (.inp p i7 :: .raw w.heap.size #[.int .i64 a0, .int .i64 a1, .int .i64 a2, .int .i64 sm, .int .i64 a5, .int .i64 0, .int .i64 0, .int .i64 0, .int .i64 0, .int .i64 0, .int .i64 0, .int .i64 0] 154 :: L) from h); clear h tok6; have z0 := H.out.p1.rawCell 5; have z1 := H.out.p1.rawFree 5; simp at z0)
  | (go_at_call 44; have _t := tok7; clear _t; (with_reducible refine (s_int _ i7 8 (St.set1_Pre2 H.out)).mono ?_); rw [E7.out]; rintro e wn ⟨rfl, h⟩; replace H := Lib.hid (show St W0 wn K (.inp p i8 :: .raw w.heap.size #[.int .i64 a0, .int .i64 a1, .int .i64 a2, .int .i64 sm, .int .i64 a5, .int .i64 a6, .int .i64 0, .int .i64 0, .int .i64 0, .int .i64 0, .int .i64 0, .int .i64 0] 154 :: L) from h); clear h tok7; have z0 := H.out.p1.rawCell 6; have z1 := H.out.p1.rawFree 6; simp at z0)
  | (go_at_call 44; have _t := tok8; clear _t; (with_reducible refine (s_int _ i8 8 (St.set1_Pre2 H.out)).mono ?_); rw [E8.out]; rintro e wn ⟨rfl, h⟩; replace H := Lib.hid (show St W0 wn K (.inp p i9 :: .raw w.heap.size #[.int .i64 a0, .int .i64 a1, .int .i64 a2, .int .i64 sm, .int .i64 a5, .int .i64 a6, .int .i64 a7, .int .i64 0, .int .i64 0, .int .i64 0, .int .i64 0, .int .i64 0] 154 :: L) from h); clear h tok8; have z0 := H.out.p1.rawCell 7; have z1 := H.out.p1.rawFree 7; simp at z0)
  | (go_at_call 44; have _t := tok9; clear _t; (with_reducible refine (s_int _ i9 8 (St.set1_Pre2 H.out)).mono ?_); rw [E9.out]; rintro e wn ⟨rfl, h⟩; replace H := Lib.hid (show St W0 wn K (.inp p i10 :: .raw w.heap.size #[.int .i64 a0, .int .i64 a1, .int .i64 a2, .int .i64 sm, .int .i64 a5, .int .i64 a6, .int .i64 a7, .int .i64 a8, .int .i64 0, .int .i64 0, .int .i64 0, .int .i64 0] 154 :: L) from h); clear h tok9; have z0 := H.out.p1.rawCell 8; have z1 := H.out.p1.rawFree 8; simp at z0)
  | (go_at_call 44; have _t := tok10; clear _t; (with_reducible refine (s_int _ i10 2 (St.set1_Pre2 H.out)).mono ?_); rw [E10.out]; rintro e wn ⟨rfl, h⟩; replace H := Lib.hid (show St W0 wn K (.inp p i11 :: .raw w.heap.size #[.int .i64 a0, .int .i64 a1, .int .i64 a2, .int .i64 sm, .int .i64 a5, .int .i64 a6, .int .i64 a7, .int .i64 a8, .int .i64 a9, .int .i64 0, .int .i64 0, .int .i64 0] 154 :: L) from h); clear h tok10; have z0 := H.out.p1.rawCell 9; have z1 := H.out.p1.rawFree 9; simp at z0)
  | (go_at_call 44; have _t := tok11; clear _t; (with_reducible refine (s_int _ i11 4 (St.set1_Pre2 H.out)).mono ?_); rw [E11.out]; rintro e wn ⟨rfl, h⟩; replace H := Lib.hid (show St W0 wn K (.inp p i12 :: .raw w.heap.size #[.int .i64 a0, .int .i64 a1, .int .i64 a2, .int .i64 sm, .int .i64 a5, .int .i64 a6, .int .i64 a7, .int .i64 a8, .int .i64 a9, .int .i64 a10, .int .i64 0, .int .i64 0] 154 :: L) from h); clear h tok11; have z0 := H.out.p1.rawCell 10; have z1 := H.out.p1.rawFree 10; simp at z0)
  | (go_at_call 44; have _t := tok12; clear _t; (with_reducible refine (s_int _ i12 4 (St.set1_Pre2 H.out)).mono ?_); rw [E12.out]; rintro e wn ⟨rfl, h⟩; replace H := Lib.hid (show St W0 wn K (.inp p i13 :: .raw w.heap.size #[.int .i64 a0, .int .i64 a1, .int .i64 a2, .int .i64 sm, .int .i64 a5, .int .i64 a6, .int .i64 a7, .int .i64 a8, .int .i64 a9, .int .i64 a10, .int .i64 a11, .int .i64 0] 154 :: L) from h); clear h tok12; have z0 := H.out.p1.rawCell 11; have z1 := H.out.p1.rawFree 11; simp at z0; have HH := Lib.hid H.out.p1; have qf0 := HH.out.freeOf (b := w.heap.size) (c := #[.int .i64 a0, .int .i64 a1, .int .i64 a2, .int .i64 sm, .int .i64 a5, .int .i64 a6, .int .i64 a7, .int .i64 a8, .int .i64 a9, .int .i64 a10, .int .i64 a11, .int .i64 0]) (T := 154) (by simp) 0; have qc0 := HH.out.cellOf (b := w.heap.size) (c := #[.int .i64 a0, .int .i64 a1, .int .i64 a2, .int .i64 sm, .int .i64 a5, .int .i64 a6, .int .i64 a7, .int .i64 a8, .int .i64 a9, .int .i64 a10, .int .i64 a11, .int .i64 0]) (T := 154) (by simp) 0; have qf1 := HH.out.freeOf (b := w.heap.size) (c := #[.int .i64 a0, .int .i64 a1, .int .i64 a2, .int .i64 sm, .int .i64 a5, .int .i64 a6, .int .i64 a7, .int .i64 a8, .int .i64 a9, .int .i64 a10, .int .i64 a11, .int .i64 0]) (T := 154) (by simp) 1; have qc1 := HH.out.cellOf (b := w.heap.size) (c := #[.int .i64 a0, .int .i64 a1, .int .i64 a2, .int .i64 sm, .int .i64 a5, .int .i64 a6, .int .i64 a7, .int .i64 a8, .int .i64 a9, .int .i64 a10, .int .i64 a11, .int .i64 0]) (T := 154) (by simp) 1; have qf2 := HH.out.freeOf (b := w.heap.size) (c := #[.int .i64 a0, .int .i64 a1, .int .i64 a2, .int .i64 sm, .int .i64 a5, .int .i64 a6, .int .i64 a7, .int .i64 a8, .int .i64 a9, .int .i64 a10, .int .i64 a11, .int .i64 0]) (T := 154) (by simp) 2; have qc2 := HH.out.cellOf (b := w.heap.size) (c := #[.int .i64 a0, .int .i64 a1, .int .i64 a2, .int .i64 sm, .int .i64 a5, .int .i64 a6, .int .i64 a7, .int .i64 a8, .int .i64 a9, .int .i64 a10, .int .i64 a11, .int .i64 0]) (T := 154) (by simp) 2; have qf3 := HH.out.freeOf (b := w.heap.size) (c := #[.int .i64 a0, .int .i64 a1, .int .i64 a2, .int .i64 sm, .int .i64 a5, .int .i64 a6, .int .i64 a7, .int .i64 a8, .int .i64 a9, .int .i64 a10, .int .i64 a11, .int .i64 0]) (T := 154) (by simp) 3; have qc3 := HH.out.cellOf (b := w.heap.size) (c := #[.int .i64 a0, .int .i64 a1, .int .i64 a2, .int .i64 sm, .int .i64 a5, .int .i64 a6, .int .i64 a7, .int .i64 a8, .int .i64 a9, .int .i64 a10, .int .i64 a11, .int .i64 0]) (T := 154) (by simp) 3; have qf4 := HH.out.freeOf (b := w.heap.size) (c := #[.int .i64 a0, .int .i64 a1, .int .i64 a2, .int .i64 sm, .int .i64 a5, .int .i64 a6, .int .i64 a7, .int .i64 a8, .int .i64 a9, .int .i64 a10, .int .i64 a11, .int .i64 0]) (T := 154) (by simp) 4; have qc4 := HH.out.cellOf (b := w.heap.size) (c := #[.int .i64 a0, .int .i64 a1, .int .i64 a2, .int .i64 sm, .int .i64 a5, .int .i64 a6, .int .i64 a7, .int .i64 a8, .int .i64 a9, .int .i64 a10, .int .i64 a11, .int .i64 0]) (T := 154) (by simp) 4; have qf5 := HH.out.freeOf (b := w.heap.size) (c := #[.int .i64 a0, .int .i64 a1, .int .i64 a2, .int .i64 sm, .int .i64 a5, .int .i64 a6, .int .i64 a7, .int .i64 a8, .int .i64 a9, .int .i64 a10, .int .i64 a11, .int .i64 0]) (T := 154) (by simp) 5; have qc5 := HH.out.cellOf (b := w.heap.size) (c := #[.int .i64 a0, .int .i64 a1, .int .i64 a2, .int .i64 sm, .int .i64 a5, .int .i64 a6, .int .i64 a7, .int .i64 a8, .int .i64 a9, .int .i64 a10, .int .i64 a11, .int .i64 0]) (T := 154) (by simp) 5; have qf6 := HH.out.freeOf (b := w.heap.size) (c := #[.int .i64 a0, .int .i64 a1, .int .i64 a2, .int .i64 sm, .int .i64 a5, .int .i64 a6, .int .i64 a7, .int .i64 a8, .int .i64 a9, .int .i64 a10, .int .i64 a11, .int .i64 0]) (T := 154) (by simp) 6; have qc6 := HH.out.cellOf (b := w.heap.size) (c := #[.int .i64 a0, .int .i64 a1, .int .i64 a2, .int .i64 sm, .int .i64 a5, .int .i64 a6, .int .i64 a7, .int .i64 a8, .int .i64 a9, .int .i64 a10, .int .i64 a11, .int .i64 0]) (T := 154) (by simp) 6; have qf7 := HH.out.freeOf (b := w.heap.size) (c := #[.int .i64 a0, .int .i64 a1, .int .i64 a2, .int .i64 sm, .int .i64 a5, .int .i64 a6, .int .i64 a7, .int .i64 a8, .int .i64 a9, .int .i64 a10, .int .i64 a11, .int .i64 0]) (T := 154) (by simp) 7; have qc7 := HH.out.cellOf (b := w.heap.size) (c := #[.int .i64 a0, .int .i64 a1, .int .i64 a2, .int .i64 sm, .int .i64 a5, .int .i64 a6, .int .i64 a7, .int .i64 a8, .int .i64 a9, .int .i64 a10, .int .i64 a11, .int .i64 0]) (T := 154) (by simp) 7; have qf8 := HH.out.freeOf (b := w.heap.size) (c := #[.int .i64 a0, .int .i64 a1, .int .i64 a2, .int .i64 sm, .int .i64 a5, .int .i64 a6, .int .i64 a7, .int .i64 a8, .int .i64 a9, .int .i64 a10, .int .i64 a11, .int .i64 0]) (T := 154) (by simp) 8; have qc8 := HH.out.cellOf (b := w.heap.size) (c := #[.int .i64 a0, .int .i64 a1, .int .i64 a2, .int .i64 sm, .int .i64 a5, .int .i64 a6, .int .i64 a7, .int .i64 a8, .int .i64 a9, .int .i64 a10, .int .i64 a11, .int .i64 0]) (T := 154) (by simp) 8; have qf9 := HH.out.freeOf (b := w.heap.size) (c := #[.int .i64 a0, .int .i64 a1, .int .i64 a2, .int .i64 sm, .int .i64 a5, .int .i64 a6, .int .i64 a7, .int .i64 a8, .int .i64 a9, .int .i64 a10, .int .i64 a11, .int .i64 0]) (T := 154) (by simp) 9; have qc9 := HH.out.cellOf (b := w.heap.size) (c := #[.int .i64 a0, .int .i64 a1, .int .i64 a2, .int .i64 sm, .int .i64 a5, .int .i64 a6, .int .i64 a7, .int .i64 a8, .int .i64 a9, .int .i64 a10, .int .i64 a11, .int .i64 0]) (T := 154) (by simp) 9; have qf10 := HH.out.freeOf (b := w.heap.size) (c := #[.int .i64 a0, .int .i64 a1, .int .i64 a2, .int .i64 sm, .int .i64 a5, .int .i64 a6, .int .i64 a7, .int .i64 a8, .int .i64 a9, .int .i64 a10, .int .i64 a11, .int .i64 0]) (T := 154) (by simp) 10; have qc10 := HH.out.cellOf (b := w.heap.size) (c := #[.int .i64 a0, .int .i64 a1, .int .i64 a2, .int .i64 sm, .int .i64 a5, .int .i64 a6, .int .i64 a7, .int .i64 a8, .int .i64 a9, .int .i64 a10, .int .i64 a11, .int .i64 0]) (T := 154) (by simp) 10; have qf11 := HH.out.freeOf (b := w.heap.size) (c := #[.int .i64 a0, .int .i64 a1, .int .i64 a2, .int .i64 sm, .int .i64 a5, .int .i64 a6, .int .i64 a7, .int .i64 a8, .int .i64 a9, .int .i64 a10, .int .i64 a11, .int .i64 0]) (T := 154) (by simp) 11; have qc11 := HH.out.cellOf (b := w.heap.size) (c := #[.int .i64 a0, .int .i64 a1, .int .i64 a2, .int .i64 sm, .int .i64 a5, .int .i64 a6, .int .i64 a7, .int .i64 a8, .int .i64 a9, .int .i64 a10, .int .i64 a11, .int .i64 0]) (T := 154) (by simp) 11; simp at qc0 qc1 qc2 qc3 qc4 qc5 qc6 qc7 qc8 qc9 qc10 qc11))
 refine bodyPost_ret (v := .tuple #[.agg #[.int .i64 a0, .int .i64 a1, .int .i64 a2, .int .i64 sm, .int .i64 a5, .int .i64 a6, .int .i64 a7, .int .i64 a8, .int .i64 a9, .int .i64 a10, .int .i64 a11, .int .i64 a12], .int .i64 a3]) (by simp [results, Tryz.results164, go_sem, qc0, qc1, qc2, qc3, qc4, qc5, qc6, qc7, qc8, qc9, qc10, qc11]) rfl ⟨rfl, ?_⟩; exact (((((((((((((H.out.p1.rawSet 11 _).rawSet 0 _).rawSet 1 _).rawSet 2 _).rawSet 3 _).rawSet 4 _).rawSet 5 _).rawSet 6 _).rawSet 7 _).rawSet 8 _).rawSet 9 _).rawSet 10 _).rawSet 11 _).drop

end Go.Proofs.YtnnnglklgofabaaGreat
