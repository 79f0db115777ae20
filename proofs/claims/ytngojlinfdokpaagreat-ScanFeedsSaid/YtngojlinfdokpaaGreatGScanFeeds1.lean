/- A text. -/
import Derived.Test.YtngojlinfdokpaaGreatCtl1
import Derived.Test.YtngojlinfdokpaaGreatCtl2
import Derived.Test.YtngojlinfdokpaaGreatRec1
import Derived.Test.YtngojlinfdokpaaGreatRecP
import Derived.Deep.RegionHeld3
import Derived.Test.YtngojlinfdokpaaGreatHdr3
import Derived.Test.YtngojlinfdokpaaGreatRef06
import Derived.Test.YtngojlinfdokpaaGreatSep
import Derived.Deep.MidRow
import Derived.Test.YtngojlinfdokpaaGreatBytesR
import Derived.Test.YtngojlinfdokpaaGreatGrow
import Derived.Test.YtngojlinfdokpaaGreatS1
import Derived.Test.YtngojlinfdokpaaGreatHdr2
/- A text. -/
namespace Go.Proofs.YtngojlinfdokpaaGreat
open Go.RowKit

def ctlRead (n1 n2 : Bool) (d1 d2 : Bs) (many o : Int) : Int × Int × Int :=
  if n1 = true ∨ n2 = true ∨ many ≠ 0 ∨ o ≠ 0 then (0, 0, 12)
  else if (verRd 2 way 12 d1).2 ≠ 0 then (0, 0, (verRd 2 way 12 d1).2)
  else if (verRd 4 time0 11 d2).2 ≠ 0 then (0, 0, (verRd 4 time0 11 d2).2)
  else ((verRd 2 way 12 d1).1, (verRd 4 time0 11 d2).1, 0)

set_option maxHeartbeats 1000000 in
set_option maxRecDepth 100000 in
theorem ctl_read (t o : Int) (n1 n2 : Bool) (d1 d2 : Bs) (q : Option Addr) (ln cap : Nat) (r : Int × Int × Int) (hr : ctlRead n1 n2 d1 d2 ln o = r) (hd1 : d1.length ≤ 140737488355328) (hd2 : d2.length ≤ 140737488355328) {W0 w : World} {K : Know} {L : List Res} (h : St W0 w K L) :
   Calls Tryz.prog 58 #[.agg #[.int .i64 t, .int .i64 o, .bool n1, .string (bb d1), .bool n2, .string (bb d2), (.slice q ln cap)]] w fun en w' => en = .returned (.tuple #[.int .i64 r.1, .int .i64 r.2.1, .int .i64 r.2.2]) ∧ St W0 w' K L := by
 have h0 := h.allocRaw #[.int .i64 t, .int .i64 o, .bool n1, .string (bb d1), .bool n2, .string (bb d2), (.slice q ln cap)] 65
 obtain ⟨wA, hwA⟩ : ∃ b, w.heap.size = b := ⟨_, rfl⟩
 rw [hwA] at h0
 have H := Lib.hid h0
 have HD1 := Lib.hid hd1
 have HD2 := Lib.hid hd2
 obtain ⟨ac0, ac1, ac2, ac3, ac4, ac5, ac6, af0, af1, af2, af3, af4, af5, af6⟩ := raw7 (b := wA) (H.out)
 clear h h0 hd1 hd2
 unfold ctlRead at hr
 by_cases g1 : n1 = true
 · rw [if_pos (.inl g1)] at hr
   subst hr g1
   go_enter Tryz.func58, Tryz.ntmps58
   go_wp2
   go_ret3
   exact ⟨rfl, H.out.drop⟩
 by_cases g2 : n2 = true
 · rw [if_pos (.inr (.inl g2))] at hr
   subst hr g2
   obtain rfl : n1 = false := by simpa using g1
   clear g1
   go_enter Tryz.func58, Tryz.ntmps58
   go_wp2
   go_ret3
   exact ⟨rfl, H.out.drop⟩
 obtain rfl : n1 = false := by simpa using g1
 obtain rfl : n2 = false := by simpa using g2
 clear g1 g2
 by_cases g3 : (ln : Int) ≠ 0
 · rw [if_pos (.inr (.inr (.inl g3)))] at hr
   subst hr
   have b1 : ((ln : Int) != 0) = true := by simpa using g3
   have b2 : decide (0 < ln) = true := decide_eq_true (by omega)
   have b3 : decide ((0 : Int) < ln) = true := decide_eq_true (by omega)
   have b4 : 0 < ln := by omega
   clear g3
   go_enter Tryz.func58, Tryz.ntmps58
   go_wp2
   go_ret3
   exact ⟨rfl, H.out.drop⟩
 obtain rfl : ln = 0 := by omega
 clear g3
 by_cases g4 : o ≠ 0
 · rw [if_pos (.inr (.inr (.inr g4)))] at hr
   subst hr
   have b1 : (o != 0) = true := by simpa using g4
   clear g4
   go_enter Tryz.func58, Tryz.ntmps58
   go_wp2
   go_ret3
   exact ⟨rfl, H.out.drop⟩
 obtain rfl : o = 0 := by simpa using g4
 clear g4
 rw [if_neg (by simp)] at hr
 obtain ⟨a, ha⟩ : ∃ a, verRd 2 way 12 d1 = a := ⟨_, rfl⟩
 obtain ⟨b, hb⟩ : ∃ b, verRd 4 time0 11 d2 = b := ⟨_, rfl⟩
 rw [ha, hb] at hr
 have EA := Lib.hid ha
 have EB := Lib.hid hb
 clear ha hb
 by_cases g5 : a.2 ≠ 0
 · rw [if_pos g5] at hr
   subst hr
   have b1 : (a.2 != 0) = true := by simpa using g5
   clear g5
   go_enter Tryz.func58, Tryz.ntmps58
   go_wp2_with (first
    | (go_at_call 81; refine (ctl_readKey d1 a EA.out HD1.out H.out).mono ?_; rintro e wn ⟨rfl, h⟩; replace H := Lib.hid h; clear h; obtain ⟨ac0, ac1, ac2, ac3, ac4, ac5, ac6, af0, af1, af2, af3, af4, af5, af6⟩ := raw7 (b := wA) (H.out)))
   go_ret3
   exact ⟨rfl, H.out.drop⟩
 rw [if_neg g5] at hr
 have b1 : (a.2 != 0) = false := by simpa using g5
 clear g5
 by_cases g6 : b.2 ≠ 0
 · rw [if_pos g6] at hr
   subst hr
   have b2 : (b.2 != 0) = true := by simpa using g6
   clear g6
   go_enter Tryz.func58, Tryz.ntmps58
   go_wp2_with (first
    | (go_at_call 81; refine (ctl_readKey d1 a EA.out HD1.out H.out).mono ?_; rintro e wn ⟨rfl, h⟩; replace H := Lib.hid h; clear h; obtain ⟨ac0, ac1, ac2, ac3, ac4, ac5, ac6, af0, af1, af2, af3, af4, af5, af6⟩ := raw7 (b := wA) (H.out))
    | (go_at_call 82; refine (ctl_readValue d2 b EB.out HD2.out H.out).mono ?_; rintro e wn ⟨rfl, h⟩; replace H := Lib.hid h; clear h; obtain ⟨ac0, ac1, ac2, ac3, ac4, ac5, ac6, af0, af1, af2, af3, af4, af5, af6⟩ := raw7 (b := wA) (H.out)))
   go_ret3
   exact ⟨rfl, H.out.drop⟩
 rw [if_neg g6] at hr
 subst hr
 have b2 : (b.2 != 0) = false := by simpa using g6
 clear g6
 go_enter Tryz.func58, Tryz.ntmps58
 go_wp2_with (first
   | (go_at_call 81; refine (ctl_readKey d1 a EA.out HD1.out H.out).mono ?_; rintro e wn ⟨rfl, h⟩; replace H := Lib.hid h; clear h; obtain ⟨ac0, ac1, ac2, ac3, ac4, ac5, ac6, af0, af1, af2, af3, af4, af5, af6⟩ := raw7 (b := wA) (H.out))
   | (go_at_call 82; refine (ctl_readValue d2 b EB.out HD2.out H.out).mono ?_; rintro e wn ⟨rfl, h⟩; replace H := Lib.hid h; clear h; obtain ⟨ac0, ac1, ac2, ac3, ac4, ac5, ac6, af0, af1, af2, af3, af4, af5, af6⟩ := raw7 (b := wA) (H.out)))
 go_ret3
 exact ⟨rfl, H.out.drop⟩

set_option maxHeartbeats 1000000 in
set_option maxRecDepth 100000 in
theorem ref08_read (t o : Int) (n1 n2 : Bool) (d1 d2 : Bs) (q : Option Addr) (ln cap : Nat) (r : Int × Int × Int) (hr : ctlRead n1 n2 d1 d2 ln o = r) (hd1 : d1.length ≤ 140737488355328) (hd2 : d2.length ≤ 140737488355328) {W0 w : World} {K : Know} {L : List Res} (h : St W0 w K L) :
   Calls Tryz.prog 24 #[.agg #[.int .i64 t, .int .i64 o, .bool n1, .string (bb d1), .bool n2, .string (bb d2), (.slice q ln cap)]] w fun en w' => en = .returned (.tuple #[.int .i64 r.1, .int .i64 r.2.1, .int .i64 r.2.2]) ∧ St W0 w' K L := by
 have h0 := h.allocRaw #[.int .i64 t, .int .i64 o, .bool n1, .string (bb d1), .bool n2, .string (bb d2), (.slice q ln cap)] 65
 obtain ⟨wA, hwA⟩ : ∃ b, w.heap.size = b := ⟨_, rfl⟩
 rw [hwA] at h0
 have H := Lib.hid h0
 have HD1 := Lib.hid hd1
 have HD2 := Lib.hid hd2
 obtain ⟨ac0, ac1, ac2, ac3, ac4, ac5, ac6, af0, af1, af2, af3, af4, af5, af6⟩ := raw7 (b := wA) (H.out)
 clear h h0 hd1 hd2
 unfold ctlRead at hr
 by_cases g1 : n1 = true
 · rw [if_pos (.inl g1)] at hr
   subst hr g1
   go_enter Tryz.func24, Tryz.ntmps24
   go_wp2
   go_ret3
   exact ⟨rfl, H.out.drop⟩
 by_cases g2 : n2 = true
 · rw [if_pos (.inr (.inl g2))] at hr
   subst hr g2
   obtain rfl : n1 = false := by simpa using g1
   clear g1
   go_enter Tryz.func24, Tryz.ntmps24
   go_wp2
   go_ret3
   exact ⟨rfl, H.out.drop⟩
 obtain rfl : n1 = false := by simpa using g1
 obtain rfl : n2 = false := by simpa using g2
 clear g1 g2
 by_cases g3 : (ln : Int) ≠ 0
 · rw [if_pos (.inr (.inr (.inl g3)))] at hr
   subst hr
   have b1 : ((ln : Int) != 0) = true := by simpa using g3
   have b2 : decide (0 < ln) = true := decide_eq_true (by omega)
   have b3 : decide ((0 : Int) < ln) = true := decide_eq_true (by omega)
   have b4 : 0 < ln := by omega
   clear g3
   go_enter Tryz.func24, Tryz.ntmps24
   go_wp2
   go_ret3
   exact ⟨rfl, H.out.drop⟩
 obtain rfl : ln = 0 := by omega
 clear g3
 by_cases g4 : o ≠ 0
 · rw [if_pos (.inr (.inr (.inr g4)))] at hr
   subst hr
   have b1 : (o != 0) = true := by simpa using g4
   clear g4
   go_enter Tryz.func24, Tryz.ntmps24
   go_wp2
   go_ret3
   exact ⟨rfl, H.out.drop⟩
 obtain rfl : o = 0 := by simpa using g4
 clear g4
 rw [if_neg (by simp)] at hr
 obtain ⟨a, ha⟩ : ∃ a, verRd 2 way 12 d1 = a := ⟨_, rfl⟩
 obtain ⟨b, hb⟩ : ∃ b, verRd 4 time0 11 d2 = b := ⟨_, rfl⟩
 rw [ha, hb] at hr
 have EA := Lib.hid ha
 have EB := Lib.hid hb
 clear ha hb
 by_cases g5 : a.2 ≠ 0
 · rw [if_pos g5] at hr
   subst hr
   have b1 : (a.2 != 0) = true := by simpa using g5
   clear g5
   go_enter Tryz.func24, Tryz.ntmps24
   go_wp2_with (first
    | (go_at_call 46; refine (ref08_readKey d1 a EA.out HD1.out H.out).mono ?_; rintro e wn ⟨rfl, h⟩; replace H := Lib.hid h; clear h; obtain ⟨ac0, ac1, ac2, ac3, ac4, ac5, ac6, af0, af1, af2, af3, af4, af5, af6⟩ := raw7 (b := wA) (H.out)))
   go_ret3
   exact ⟨rfl, H.out.drop⟩
 rw [if_neg g5] at hr
 have b1 : (a.2 != 0) = false := by simpa using g5
 clear g5
 by_cases g6 : b.2 ≠ 0
 · rw [if_pos g6] at hr
   subst hr
   have b2 : (b.2 != 0) = true := by simpa using g6
   clear g6
   go_enter Tryz.func24, Tryz.ntmps24
   go_wp2_with (first
    | (go_at_call 46; refine (ref08_readKey d1 a EA.out HD1.out H.out).mono ?_; rintro e wn ⟨rfl, h⟩; replace H := Lib.hid h; clear h; obtain ⟨ac0, ac1, ac2, ac3, ac4, ac5, ac6, af0, af1, af2, af3, af4, af5, af6⟩ := raw7 (b := wA) (H.out))
    | (go_at_call 47; refine (ref08_readValue d2 b EB.out HD2.out H.out).mono ?_; rintro e wn ⟨rfl, h⟩; replace H := Lib.hid h; clear h; obtain ⟨ac0, ac1, ac2, ac3, ac4, ac5, ac6, af0, af1, af2, af3, af4, af5, af6⟩ := raw7 (b := wA) (H.out)))
   go_ret3
   exact ⟨rfl, H.out.drop⟩
 rw [if_neg g6] at hr
 subst hr
 have b2 : (b.2 != 0) = false := by simpa using g6
 clear g6
 go_enter Tryz.func24, Tryz.ntmps24
 go_wp2_with (first
   | (go_at_call 46; refine (ref08_readKey d1 a EA.out HD1.out H.out).mono ?_; rintro e wn ⟨rfl, h⟩; replace H := Lib.hid h; clear h; obtain ⟨ac0, ac1, ac2, ac3, ac4, ac5, ac6, af0, af1, af2, af3, af4, af5, af6⟩ := raw7 (b := wA) (H.out))
   | (go_at_call 47; refine (ref08_readValue d2 b EB.out HD2.out H.out).mono ?_; rintro e wn ⟨rfl, h⟩; replace H := Lib.hid h; clear h; obtain ⟨ac0, ac1, ac2, ac3, ac4, ac5, ac6, af0, af1, af2, af3, af4, af5, af6⟩ := raw7 (b := wA) (H.out)))
 go_ret3
 exact ⟨rfl, H.out.drop⟩
structure BatS where
  base : Int
  leader : Int
  app : Bool
  txn : Bool
  ctl : Bool
  last : Int
  first : Int
  maxt : Int
  prod : Int
  epoch : Int
  seq : Int
  recs : List RecS
deriving DecidableEq
def BatS.zero : BatS := ⟨0, 0, false, false, false, 0, 0, 0, 0, 0, 0, []⟩
def Rn (n : Int) : Prop := -9223372036854775808 ≤ n ∧ n < 9223372036854775808
def BatS.R (b : BatS) : Prop := Rn b.base ∧ Rn b.leader ∧ Rn b.last ∧ Rn b.first ∧ Rn b.maxt ∧ Rn b.prod ∧ Rn b.epoch ∧ Rn b.seq
def BatS.placed (b : BatS) : Bool := decide (0 ≤ b.base ∧ (-1 ≤ b.leader ∧ b.leader ≤ 2147483647) ∧ (0 ≤ b.last ∧ b.last ≤ 2147483647) ∧ b.base ≤ 9223372036854775807 - b.last ∧ 0 ≤ b.first ∧ 0 ≤ b.maxt)
def BatS.signed (b : BatS) : Bool :=
  if b.prod = -1 then decide (b.epoch = -1 ∧ b.seq = -1 ∧ b.txn = false)
  else if b.prod < 0 ∨ ¬ (0 ≤ b.epoch ∧ b.epoch ≤ 32767) then false
  else if b.ctl then decide (b.seq = -1)
  else decide (0 ≤ b.seq ∧ b.seq ≤ 2147483647)
def rowsC (first last : Int) : List RecS → Int → Int → Except Int Int
  | [], _, g => .ok g
  | r :: t, ah, g => if r.off ≤ ah ∨ last < r.off then .error 13 else if r.time < -first ∨ 9223372036854775807 - first < r.time then .error 11 else rowsC first last t r.off (max g (first + r.time))
def rowsE (app : Bool) (maxt : Int) (r : Except Int Int) : Int := match r with
  | .error e => e
  | .ok g => if app = false ∧ maxt ≠ g then 11 else 0
def BatS.rows (b : BatS) : Int := rowsE b.app b.maxt (rowsC b.first b.last b.recs (-1) b.first)
def recsC : List RecS → Int
  | [] => 0
  | r :: t => if recOk r = 0 then recsC t else recOk r
def ctlOf (r : RecS) : Int × Int × Int := ctlRead r.key.null r.val.null r.key.data r.val.data r.hdrs.length r.off
def BatS.ends (b : BatS) : Int := match b.recs with | [] => 0 | r :: _ => (ctlOf r).2.2
def batErr (b : BatS) : Int :=
  if b.placed = false then 11
  else if b.ctl = true ∧ b.txn = false then 8
  else if b.signed = false then 11
  else if b.ctl = true ∧ b.recs.length ≠ 1 then 10
  else if recsC b.recs ≠ 0 then recsC b.recs
  else if b.ctl = true ∧ b.ends ≠ 0 then b.ends
  else b.rows
theorem put_ok (a b : Bs) : (⟨a, 0⟩ : OutS).put b = ⟨a ++ b, 0⟩ := rfl
set_option maxHeartbeats 1000000 in
set_option maxRecDepth 100000 in
theorem rec_putFields (p : Nat) (x : RecS) (v : Value) (hx : x.R) (ho : recOk x = 0) (hs : x.sum ≤ 1000000) {W0 w : World} {K : Know} {L : List Res} (hk : K.has (Know.flat RHdr v 3 x.hdrs)) (h : St W0 w K (.out p ⟨[], 0⟩ :: L)) :
  Calls Tryz.prog 84 #[outPtr p, .agg #[.int .i64 x.time, .int .i64 x.off, .bool x.key.null, .string (bb x.key.data), .bool x.val.null, .string (bb x.val.data), v]] w fun en w' => en = .returned (.tuple #[]) ∧ St W0 w' K (.out p ⟨recF x, 0⟩ :: L) := by
 have H := Lib.hid (h.allocRaw #[.int .i64 x.time, .int .i64 x.off, .bool x.key.null, .string (bb x.key.data), .bool x.val.null, .string (bb x.val.data), v] 65).p1
 have HK := Lib.hid hk
 obtain ⟨ho, hr⟩ := recOk_zero ho
 have hle := recF_le x hx hs
 unfold RecS.allRight at hr
 rw [Bool.and_eq_true, Bool.and_eq_true] at hr
 have hsm := hs
 unfold RecS.sum at hsm
 have hsl := hsum_le x.hdrs
 have HT := Lib.hid hx.1
 have HO := Lib.hid hx.2
 obtain ⟨s2, h2⟩ : ∃ s, [0] ++ encI x.time = s := ⟨_, rfl⟩
 obtain ⟨s3, h3⟩ : ∃ s, s2 ++ encI x.off = s := ⟨_, rfl⟩
 obtain ⟨s4, h4⟩ : ∃ s, s3 ++ encV x.key = s := ⟨_, rfl⟩
 obtain ⟨s5, h5⟩ : ∃ s, s4 ++ encV x.val = s := ⟨_, rfl⟩
 have h6 : s5 ++ encHs x.hdrs = recF x := by rw [← h5, ← h4, ← h3, ← h2]; unfold recF; simp only [List.append_assoc]
 obtain ⟨s6, hs6⟩ : ∃ s, recF x = s := ⟨_, rfl⟩
 rw [hs6] at h6 hle ⊢
 have l6 := congrArg List.length h6
 have l5 := congrArg List.length h5
 have l4 := congrArg List.length h4
 have l3 := congrArg List.length h3
 have l2 := congrArg List.length h2
 simp only [List.length_append, List.length_cons, List.length_nil] at l2 l3 l4 l5 l6
 have E1 := Lib.hid (show (⟨[], 0⟩ : OutS).put [0] = ⟨[0], 0⟩ from rfl)
 have E2 := Lib.hid (show (⟨[0], 0⟩ : OutS).putLong x.time = ⟨s2, 0⟩ from by rw [← h2]; rfl)
 have E3 := Lib.hid (show (⟨s2, 0⟩ : OutS).putInt x.off = ⟨s3, 0⟩ from by rw [putInt_len (by omega) (by omega), put_ok, h3])
 have E4 := Lib.hid (show (⟨s3, 0⟩ : OutS).putVaried x.key = ⟨s4, 0⟩ from by rw [putVaried_right hr.1.1 (by omega), put_ok, h4])
 have E5 := Lib.hid (show (⟨s4, 0⟩ : OutS).putVaried x.val = ⟨s5, 0⟩ from by rw [putVaried_right hr.1.2 (by omega), put_ok, h5])
 have E6 := Lib.hid (show (⟨s5, 0⟩ : OutS).putHdrs x.hdrs = ⟨s6, 0⟩ from by rw [putHdrs_right hr.2 (by omega), put_ok, h6])
 have K1 := Lib.hid (show (⟨[0], 0⟩ : OutS).ok 16 by unfold OutS.ok; simp)
 have K2 := Lib.hid (show (⟨s2, 0⟩ : OutS).ok 16 by unfold OutS.ok; simp only; omega)
 have K3 := Lib.hid (show (⟨s3, 0⟩ : OutS).ok (x.key.data.length + 16) by unfold OutS.ok; simp only; omega)
 have K4 := Lib.hid (show (⟨s4, 0⟩ : OutS).ok (x.val.data.length + 16) by unfold OutS.ok; simp only; omega)
 have K5 := Lib.hid (show (⟨s5, 0⟩ : OutS).ok (hsize x.hdrs + 16) by unfold OutS.ok; simp only; omega)
 have HLL := Lib.hid (show x.hdrs.length ≤ 140737488355328 by omega)
 have t1 : True := trivial
 have t2 : True := trivial
 have t3 : True := trivial
 have t4 : True := trivial
 have t5 : True := trivial
 have t6 : True := trivial
 clear h hk hx ho hr hs hle hsm hsl h2 h3 h4 h5 h6 hs6 l2 l3 l4 l5 l6
 go_enter Tryz.func84, Tryz.ntmps84
 go_wp2_with (first
  | (go_at_call 104; have _t := t1; clear _t; refine (so_byte _ _ 0 H.out (by unfold OutS.ok; decide)).mono ?_; rw [E1.out]; rintro e wn ⟨rfl, h⟩; replace H := Lib.hid h; clear h t1; obtain ⟨c0, c1, c2, c3, c4, c5, c6, f0, f1, f2, f3, f4, f5, f6⟩ := raw7 (b := w.heap.size) H.out.p1)
  | (go_at_call 105; have _t := t2; clear _t; refine (sv_putLong _ _ _ HT.out H.out K1.out).mono ?_; rw [E2.out]; rintro e wn ⟨rfl, h⟩; replace H := Lib.hid h; clear h t2; obtain ⟨c0, c1, c2, c3, c4, c5, c6, f0, f1, f2, f3, f4, f5, f6⟩ := raw7 (b := w.heap.size) H.out.p1)
  | (go_at_call 106; have _t := t3; clear _t; refine (sv_putInt _ _ _ HO.out H.out K2.out).mono ?_; rw [E3.out]; rintro e wn ⟨rfl, h⟩; replace H := Lib.hid h; clear h t3; obtain ⟨c0, c1, c2, c3, c4, c5, c6, f0, f1, f2, f3, f4, f5, f6⟩ := raw7 (b := w.heap.size) H.out.p1)
  | (go_at_call 107; have _t := t4; clear _t; refine (blob_putVaried _ _ x.key H.out K3.out).mono ?_; rw [E4.out]; rintro e wn ⟨rfl, h⟩; replace H := Lib.hid h; clear h t4; obtain ⟨c0, c1, c2, c3, c4, c5, c6, f0, f1, f2, f3, f4, f5, f6⟩ := raw7 (b := w.heap.size) H.out.p1)
  | (go_at_call 107; have _t := t5; clear _t; refine (blob_putVaried _ _ x.val H.out K4.out).mono ?_; rw [E5.out]; rintro e wn ⟨rfl, h⟩; replace H := Lib.hid h; clear h t5; obtain ⟨c0, c1, c2, c3, c4, c5, c6, f0, f1, f2, f3, f4, f5, f6⟩ := raw7 (b := w.heap.size) H.out.p1)
  | (go_at_call 108; have _t := t6; clear _t; refine (header_write _ _ _ x.hdrs HLL.out HK.out H.out K5.out).mono ?_; rw [E6.out]; rintro e wn ⟨rfl, h⟩; replace H := Lib.hid h; clear h t6; obtain ⟨c0, c1, c2, c3, c4, c5, c6, f0, f1, f2, f3, f4, f5, f6⟩ := raw7 (b := w.heap.size) H.out.p1))
 go_end0
 exact ⟨rfl, H.out.p1.drop⟩

theorem rec_rightZ (x : RecS) (v : Value) (he : recOk x = 0) (hl : x.hdrs.length ≤ 1000000) {W0 w : World} {K : Know} {L : List Res} (hk : K.has (Know.flat RHdr v 3 x.hdrs)) (h : St W0 w K L) :
 Calls Tryz.prog 57 #[.agg #[.int .i64 x.time, .int .i64 x.off, .bool x.key.null, .string (bb x.key.data), .bool x.val.null, .string (bb x.val.data), v]] w fun en w' => en = .returned (.int .i64 0) ∧ St W0 w' K L := rec_right x v 0 he hl hk h

set_option maxHeartbeats 1000000 in
set_option maxRecDepth 100000 in
theorem rec_write (p : Nat) (o o' : OutS) (x : RecS) (v : Value) (hx : x.R) (hs : x.sum ≤ 1000000) (hoo : o.putRec x = o') (hro : o.ok 40000000) {W0 w : World} {K : Know} {L : List Res} (hk : K.has (Know.flat RHdr v 3 x.hdrs)) (h : St W0 w K (.out p o :: L)) :
   Calls Tryz.prog 60 #[outPtr p, .agg #[.int .i64 x.time, .int .i64 x.off, .bool x.key.null, .string (bb x.key.data), .bool x.val.null, .string (bb x.val.data), v]] w fun en w' => en = .returned (.tuple #[]) ∧ St W0 w' K (.out p o' :: L) := by
 have H := Lib.hid (h.allocRaw #[.int .i64 x.time, .int .i64 x.off, .bool x.key.null, .string (bb x.key.data), .bool x.val.null, .string (bb x.val.data), v] 65).p1
 have HK := Lib.hid hk
 have HL := Lib.hid (show x.hdrs.length ≤ 1000000 by have := hsum_le x.hdrs; unfold RecS.sum at hs; omega)
 unfold OutS.putRec at hoo
 by_cases he : recOk x = 0
 · rw [if_pos he] at hoo
   have hle := recF_le x hx hs
   have HX := Lib.hid hx
   have HE := Lib.hid he
   have HS := Lib.hid hs
   have ET := Lib.hid (show (⟨recF x, 0⟩ : OutS).text = (recF x, 0) from rfl)
   have EP := Lib.hid (show o.putName (recF x) = o' by unfold OutS.putName; rw [putVaried_right rfl (by simp only; omega)]; exact hoo)
   have KO := Lib.hid (show o.ok ((recF x).length + 16) from OutS.ok_mono hro (by omega))
   obtain ⟨s, hsd⟩ : ∃ s, recF x = s := ⟨_, rfl⟩
   rw [hsd] at ET EP KO
   have HSD := Lib.hid hsd
   clear h hk he hoo hle hx hs hro hsd
   go_enter Tryz.func60, Tryz.ntmps60
   go_wp2_with (first
    | (go_at_call 57; refine (rec_rightZ x v HE.out HL.out HK.out H.out).mono ?_; rintro e wn ⟨rfl, h⟩; replace H := Lib.hid h; have HA := Lib.hid (h.p1.allocOut); clear h; obtain ⟨c0, c1, c2, c3, c4, c5, c6, f0, f1, f2, f3, f4, f5, f6⟩ := raw7 (b := w.heap.size) HA.out.p1)
    | (go_at_call 84; refine (rec_putFields _ x v HX.out HE.out HS.out HK.out HA.out).mono ?_; rw [HSD.out]; rintro e wn ⟨rfl, h⟩; replace H := Lib.hid h; clear h)
    | (go_at_call 61; refine (so_text _ _ H.out).mono ?_; rw [ET.out]; rintro e wn ⟨rfl, h⟩; replace H := Lib.hid h.p2; clear h)
    | (go_at_call 85; refine (blob_putName _ _ s H.out KO.out).mono ?_; rw [EP.out]; rintro e wn ⟨rfl, h⟩; replace H := Lib.hid h; clear h))
   go_end0
   exact ⟨rfl, H.out.p2.drop.p1.drop⟩
 · rw [if_neg he] at hoo
   obtain ⟨e, hee⟩ : ∃ e, recOk x = e := ⟨_, rfl⟩
   rw [hee] at he hoo
   have hb : (e != 0) = true := by rw [bne_iff_ne]; exact he
   have HE := Lib.hid hee
   have EF := Lib.hid hoo
   clear h hk he hoo hx hs hro hee
   go_enter Tryz.func60, Tryz.ntmps60
   go_wp2_with (first
    | (go_at_call 57; refine (rec_right x v e HE.out HL.out HK.out H.out).mono ?_; rintro e wn ⟨rfl, h⟩; replace H := Lib.hid h; clear h)
    | (go_at_call 83; refine (so_fail _ _ _ H.out).mono ?_; rw [EF.out]; rintro e wn ⟨rfl, h⟩; replace H := Lib.hid h; clear h))
   refine bodyPost_ret (results_none rfl _ _ _) rfl ⟨rfl, H.out.p1.drop⟩
theorem St.raw_ne {W0 w : World} {K : Know} {L : List Res} {a b : Nat} {c c' : Array Value} {T T' : TypeId} (h : St W0 w K (.raw a c T :: .raw b c' T' :: L)) : ¬ (a = b) := by
 rintro rfl
 obtain ⟨_, S, F, ⟨S1, S2, h1, ⟨S3, S4, h3, _, _, e3⟩, d1, _⟩, _⟩ := h
 exact d1 a ((h1.2 a).2 rfl) ((e3 a).2 (.inl ((h3.2 a).2 rfl)))
theorem St.set1 {W0 w : World} {K : Know} {L : List Res} {r : Res} {b j : Nat} {c : Array Value} {T : TypeId} {v : Value} (h : St W0 w K (r :: .raw b c T :: L)) : St W0 (w.setCell ⟨b, j, none⟩ v) K (r :: .raw b (c.setIfInBounds j v) T :: L) := (h.p1.rawSet j v).p1

set_option maxHeartbeats 1000000 in
set_option maxRecDepth 100000 in
theorem rec_fields_10 (p : Nat) (i i1 i2 i3 i4 i5 i6 : InS) (a t o : Int) (kb vb : BlobS) (hs : List HdrS) (e0 : i.int 1 = (a, i1)) (ha : (a != 0) = false) (e1 : i1.vlong = (t, i2)) (e2 : i2.vint = (o, i3)) (ho : ¬ o < 0) (e4 : i3.varied = (kb, i4)) (e5 : i4.varied = (vb, i5)) (e6 : i5.hdrs = (hs, i6)) {W0 w : World} {K : Know} {L : List Res} (h : St W0 w K (.inp p i :: L)) :
  Calls Tryz.prog 119 #[inPtr p] w fun en w' => ∃ v, en = .returned (.agg #[.int .i64 t, .int .i64 o, .bool kb.null, .string (bb kb.data), .bool vb.null, .string (bb vb.data), v]) ∧ St W0 w' (K.and (Know.flat RHdr v 3 hs)) (.inp p i6 :: L) := by
 have h0 := (h.allocRaw #[.int .i64 0, .int .i64 0, .bool false, .string ⟨#[]⟩, .bool false, .string ⟨#[]⟩, .slice none 0 0] 65).p1
 obtain ⟨wA, hwA⟩ : ∃ b, w.heap.size = b := ⟨_, rfl⟩
 rw [hwA] at h0
 have H := Lib.hid h0
 have E0 := Lib.hid e0
 have E1 := Lib.hid e1
 have E2 := Lib.hid e2
 have E4 := Lib.hid e4
 have E5 := Lib.hid e5
 have E6 := Lib.hid e6
 have t0 : True := trivial
 have t1 : True := trivial
 have t2 : True := trivial
 have t3 : True := trivial
 have t4 : True := trivial
 have t5 : True := trivial
 have t6 : True := trivial
 clear h h0 e0 e1 e2 e4 e5 e6
 go_enter Tryz.func119, Tryz.ntmps119
 go_wp2_with (first
  | (go_at_call 111; have _t := t0; clear _t; refine (s_int _ i 1 H.out).mono ?_; rw [E0.out]; rintro e wn ⟨rfl, h⟩; replace H := Lib.hid (show St W0 wn K (.inp p i1 :: .raw wA #[.int .i64 0, .int .i64 0, .bool false, .string ⟨#[]⟩, .bool false, .string ⟨#[]⟩, .slice none 0 0] 65 :: L) from h); clear h t0; obtain ⟨wB, hwB⟩ : ∃ b, wn.heap.size = b := ⟨_, rfl⟩; have HB := H.out.allocRaw #[.int .i64 0, .int .i64 0, .bool false, .string ⟨#[]⟩, .bool false, .string ⟨#[]⟩, .slice none 0 0] 65; rw [hwB] at HB; have HB := Lib.hid HB.p1)
  | (go_at_call 123; have _t := t2; clear _t; refine (sv_long _ i1 HB.out).mono ?_; rw [E1.out]; rintro e wn ⟨rfl, h⟩; replace H := Lib.hid (show St W0 wn (K) (.inp p i2 :: .raw wB #[.int .i64 0, .int .i64 0, .bool false, .string ⟨#[]⟩, .bool false, .string ⟨#[]⟩, .slice none 0 0] 65 :: .raw wA #[.int .i64 0, .int .i64 0, .bool false, .string ⟨#[]⟩, .bool false, .string ⟨#[]⟩, .slice none 0 0] 65 :: L) from h); clear h t2; obtain ⟨yc0, yc1, yc2, yc3, yc4, yc5, yc6, yf0, yf1, yf2, yf3, yf4, yf5, yf6⟩ := raw7 (H.out.p1))
  | (go_at_call 124; have _t := t3; clear _t; refine (sv_int _ i2 (St.set1 H.out)).mono ?_; rw [E2.out]; rintro e wn ⟨rfl, h⟩; replace H := Lib.hid (show St W0 wn (K) (.inp p i3 :: .raw wB #[.int .i64 t, .int .i64 0, .bool false, .string ⟨#[]⟩, .bool false, .string ⟨#[]⟩, .slice none 0 0] 65 :: .raw wA #[.int .i64 0, .int .i64 0, .bool false, .string ⟨#[]⟩, .bool false, .string ⟨#[]⟩, .slice none 0 0] 65 :: L) from h); clear h t3; obtain ⟨yc0, yc1, yc2, yc3, yc4, yc5, yc6, yf0, yf1, yf2, yf3, yf4, yf5, yf6⟩ := raw7 (H.out.p1))
  | (go_at_call 122; have _t := t5; clear _t; refine (blob_varied _ i3 (St.set1 H.out)).mono ?_; rw [E4.out]; rintro e wn ⟨rfl, h⟩; replace H := Lib.hid (show St W0 wn (K) (.inp p i4 :: .raw wB #[.int .i64 t, .int .i64 o, .bool false, .string ⟨#[]⟩, .bool false, .string ⟨#[]⟩, .slice none 0 0] 65 :: .raw wA #[.int .i64 0, .int .i64 0, .bool false, .string ⟨#[]⟩, .bool false, .string ⟨#[]⟩, .slice none 0 0] 65 :: L) from h); clear h t5; obtain ⟨yc0, yc1, yc2, yc3, yc4, yc5, yc6, yf0, yf1, yf2, yf3, yf4, yf5, yf6⟩ := raw7 (H.out.p1); unfold bv)
  | (go_at_call 122; have _t := t6; clear _t; refine (blob_varied _ i4 (St.set1 (St.set1 H.out))).mono ?_; rw [E5.out]; rintro e wn ⟨rfl, h⟩; replace H := Lib.hid (show St W0 wn (K) (.inp p i5 :: .raw wB #[.int .i64 t, .int .i64 o, .bool kb.null, .string (bb kb.data), .bool false, .string ⟨#[]⟩, .slice none 0 0] 65 :: .raw wA #[.int .i64 0, .int .i64 0, .bool false, .string ⟨#[]⟩, .bool false, .string ⟨#[]⟩, .slice none 0 0] 65 :: L) from h); clear h t6; obtain ⟨yc0, yc1, yc2, yc3, yc4, yc5, yc6, yf0, yf1, yf2, yf3, yf4, yf5, yf6⟩ := raw7 (H.out.p1); unfold bv)
  | (go_at_call 125; refine (header_read _ i5 (St.set1 (St.set1 H.out))).mono ?_; rw [E6.out]; rintro e wn ⟨v, rfl, h⟩; obtain ⟨q6, cap6, hv6⟩ := flat_form (Know.has_right (Know.has_refl _)) h; subst hv6; replace H := Lib.hid (show St W0 wn (K.and (Know.flat RHdr (.slice q6 hs.length cap6) 3 hs)) (.inp p i6 :: .raw wB #[.int .i64 t, .int .i64 o, .bool kb.null, .string (bb kb.data), .bool vb.null, .string (bb vb.data), .slice none 0 0] 65 :: .raw wA #[.int .i64 0, .int .i64 0, .bool false, .string ⟨#[]⟩, .bool false, .string ⟨#[]⟩, .slice none 0 0] 65 :: L) from h); clear h; obtain ⟨yc0, yc1, yc2, yc3, yc4, yc5, yc6, yf0, yf1, yf2, yf3, yf4, yf5, yf6⟩ := raw7 (H.out.p1); obtain ⟨qc0, qc1, qc2, qc3, qc4, qc5, qc6, qf0, qf1, qf2, qf3, qf4, qf5, qf6⟩ := raw7 (H.out.p2); have hne1 : ¬ (wB = wA) := H.out.drop.raw_ne; have hne2 : ¬ (wA = wB) := (fun e => hne1 e.symm)))
 refine bodyPost_ret (v := .agg #[.int .i64 t, .int .i64 o, .bool kb.null, .string (bb kb.data), .bool vb.null, .string (bb vb.data), .slice q6 hs.length cap6]) (by simp [results, Tryz.results119, go_sem, qc0, qc1, qc2, qc3, qc4, qc5, qc6]) rfl ⟨.slice q6 hs.length cap6, rfl, ?_⟩
 exact (((((((((H.out.p1.rawSet 6 (.slice q6 hs.length cap6)).p2).rawSet 0 _).rawSet 1 _).rawSet 2 _).rawSet 3 _).rawSet 4 _).rawSet 5 _).rawSet 6 _).drop.drop

set_option maxHeartbeats 1000000 in
set_option maxRecDepth 100000 in
theorem rec_fields_11 (p : Nat) (i i1 i2 i3 j3 i4 i5 i6 : InS) (a t o : Int) (kb vb : BlobS) (hs : List HdrS) (e0 : i.int 1 = (a, i1)) (ha : (a != 0) = false) (e1 : i1.vlong = (t, i2)) (e2 : i2.vint = (o, i3)) (ho : o < 0) (ej3 : i3.fail 11 = j3) (e4 : j3.varied = (kb, i4)) (e5 : i4.varied = (vb, i5)) (e6 : i5.hdrs = (hs, i6)) {W0 w : World} {K : Know} {L : List Res} (h : St W0 w K (.inp p i :: L)) :
  Calls Tryz.prog 119 #[inPtr p] w fun en w' => ∃ v, en = .returned (.agg #[.int .i64 t, .int .i64 o, .bool kb.null, .string (bb kb.data), .bool vb.null, .string (bb vb.data), v]) ∧ St W0 w' (K.and (Know.flat RHdr v 3 hs)) (.inp p i6 :: L) := by
 have h0 := (h.allocRaw #[.int .i64 0, .int .i64 0, .bool false, .string ⟨#[]⟩, .bool false, .string ⟨#[]⟩, .slice none 0 0] 65).p1
 obtain ⟨wA, hwA⟩ : ∃ b, w.heap.size = b := ⟨_, rfl⟩
 rw [hwA] at h0
 have H := Lib.hid h0
 have E0 := Lib.hid e0
 have E1 := Lib.hid e1
 have E2 := Lib.hid e2
 have E4 := Lib.hid e4
 have E5 := Lib.hid e5
 have E6 := Lib.hid e6
 have EJ3 := Lib.hid ej3
 have t0 : True := trivial
 have t1 : True := trivial
 have t2 : True := trivial
 have t3 : True := trivial
 have t4 : True := trivial
 have t5 : True := trivial
 have t6 : True := trivial
 clear h h0 e0 e1 e2 e4 e5 e6 ej3
 go_enter Tryz.func119, Tryz.ntmps119
 go_wp2_with (first
  | (go_at_call 111; have _t := t0; clear _t; refine (s_int _ i 1 H.out).mono ?_; rw [E0.out]; rintro e wn ⟨rfl, h⟩; replace H := Lib.hid (show St W0 wn K (.inp p i1 :: .raw wA #[.int .i64 0, .int .i64 0, .bool false, .string ⟨#[]⟩, .bool false, .string ⟨#[]⟩, .slice none 0 0] 65 :: L) from h); clear h t0; obtain ⟨wB, hwB⟩ : ∃ b, wn.heap.size = b := ⟨_, rfl⟩; have HB := H.out.allocRaw #[.int .i64 0, .int .i64 0, .bool false, .string ⟨#[]⟩, .bool false, .string ⟨#[]⟩, .slice none 0 0] 65; rw [hwB] at HB; have HB := Lib.hid HB.p1)
  | (go_at_call 123; have _t := t2; clear _t; refine (sv_long _ i1 HB.out).mono ?_; rw [E1.out]; rintro e wn ⟨rfl, h⟩; replace H := Lib.hid (show St W0 wn (K) (.inp p i2 :: .raw wB #[.int .i64 0, .int .i64 0, .bool false, .string ⟨#[]⟩, .bool false, .string ⟨#[]⟩, .slice none 0 0] 65 :: .raw wA #[.int .i64 0, .int .i64 0, .bool false, .string ⟨#[]⟩, .bool false, .string ⟨#[]⟩, .slice none 0 0] 65 :: L) from h); clear h t2; obtain ⟨yc0, yc1, yc2, yc3, yc4, yc5, yc6, yf0, yf1, yf2, yf3, yf4, yf5, yf6⟩ := raw7 (H.out.p1))
  | (go_at_call 124; have _t := t3; clear _t; refine (sv_int _ i2 (St.set1 H.out)).mono ?_; rw [E2.out]; rintro e wn ⟨rfl, h⟩; replace H := Lib.hid (show St W0 wn (K) (.inp p i3 :: .raw wB #[.int .i64 t, .int .i64 0, .bool false, .string ⟨#[]⟩, .bool false, .string ⟨#[]⟩, .slice none 0 0] 65 :: .raw wA #[.int .i64 0, .int .i64 0, .bool false, .string ⟨#[]⟩, .bool false, .string ⟨#[]⟩, .slice none 0 0] 65 :: L) from h); clear h t3; obtain ⟨yc0, yc1, yc2, yc3, yc4, yc5, yc6, yf0, yf1, yf2, yf3, yf4, yf5, yf6⟩ := raw7 (H.out.p1))
  | (go_at_call 73; have _t := t4; clear _t; refine (s_fail _ i3 11 (St.set1 H.out)).mono ?_; rw [EJ3.out]; rintro e wn ⟨rfl, h⟩; replace H := Lib.hid (show St W0 wn (K) (.inp p j3 :: .raw wB #[.int .i64 t, .int .i64 o, .bool false, .string ⟨#[]⟩, .bool false, .string ⟨#[]⟩, .slice none 0 0] 65 :: .raw wA #[.int .i64 0, .int .i64 0, .bool false, .string ⟨#[]⟩, .bool false, .string ⟨#[]⟩, .slice none 0 0] 65 :: L) from h); clear h t4; obtain ⟨yc0, yc1, yc2, yc3, yc4, yc5, yc6, yf0, yf1, yf2, yf3, yf4, yf5, yf6⟩ := raw7 (H.out.p1); have HX := H)
  | (go_at_call 122; have _t := t5; clear _t; refine (blob_varied _ j3 H.out).mono ?_; rw [E4.out]; rintro e wn ⟨rfl, h⟩; replace H := Lib.hid (show St W0 wn (K) (.inp p i4 :: .raw wB #[.int .i64 t, .int .i64 o, .bool false, .string ⟨#[]⟩, .bool false, .string ⟨#[]⟩, .slice none 0 0] 65 :: .raw wA #[.int .i64 0, .int .i64 0, .bool false, .string ⟨#[]⟩, .bool false, .string ⟨#[]⟩, .slice none 0 0] 65 :: L) from h); clear h t5; obtain ⟨yc0, yc1, yc2, yc3, yc4, yc5, yc6, yf0, yf1, yf2, yf3, yf4, yf5, yf6⟩ := raw7 (H.out.p1); unfold bv)
  | (go_at_call 122; have _t := t6; clear _t; refine (blob_varied _ i4 (St.set1 (St.set1 H.out))).mono ?_; rw [E5.out]; rintro e wn ⟨rfl, h⟩; replace H := Lib.hid (show St W0 wn (K) (.inp p i5 :: .raw wB #[.int .i64 t, .int .i64 o, .bool kb.null, .string (bb kb.data), .bool false, .string ⟨#[]⟩, .slice none 0 0] 65 :: .raw wA #[.int .i64 0, .int .i64 0, .bool false, .string ⟨#[]⟩, .bool false, .string ⟨#[]⟩, .slice none 0 0] 65 :: L) from h); clear h t6; obtain ⟨yc0, yc1, yc2, yc3, yc4, yc5, yc6, yf0, yf1, yf2, yf3, yf4, yf5, yf6⟩ := raw7 (H.out.p1); unfold bv)
  | (go_at_call 125; refine (header_read _ i5 (St.set1 (St.set1 H.out))).mono ?_; rw [E6.out]; rintro e wn ⟨v, rfl, h⟩; obtain ⟨q6, cap6, hv6⟩ := flat_form (Know.has_right (Know.has_refl _)) h; subst hv6; replace H := Lib.hid (show St W0 wn (K.and (Know.flat RHdr (.slice q6 hs.length cap6) 3 hs)) (.inp p i6 :: .raw wB #[.int .i64 t, .int .i64 o, .bool kb.null, .string (bb kb.data), .bool vb.null, .string (bb vb.data), .slice none 0 0] 65 :: .raw wA #[.int .i64 0, .int .i64 0, .bool false, .string ⟨#[]⟩, .bool false, .string ⟨#[]⟩, .slice none 0 0] 65 :: L) from h); clear h; obtain ⟨yc0, yc1, yc2, yc3, yc4, yc5, yc6, yf0, yf1, yf2, yf3, yf4, yf5, yf6⟩ := raw7 (H.out.p1); obtain ⟨qc0, qc1, qc2, qc3, qc4, qc5, qc6, qf0, qf1, qf2, qf3, qf4, qf5, qf6⟩ := raw7 (H.out.p2); have hne1 : ¬ (wB = wA) := H.out.drop.raw_ne; have hne2 : ¬ (wA = wB) := (fun e => hne1 e.symm)))
 refine bodyPost_ret (v := .agg #[.int .i64 t, .int .i64 o, .bool kb.null, .string (bb kb.data), .bool vb.null, .string (bb vb.data), .slice q6 hs.length cap6]) (by simp [results, Tryz.results119, go_sem, qc0, qc1, qc2, qc3, qc4, qc5, qc6]) rfl ⟨.slice q6 hs.length cap6, rfl, ?_⟩
 exact (((((((((H.out.p1.rawSet 6 (.slice q6 hs.length cap6)).p2).rawSet 0 _).rawSet 1 _).rawSet 2 _).rawSet 3 _).rawSet 4 _).rawSet 5 _).rawSet 6 _).drop.drop

set_option maxHeartbeats 1000000 in
set_option maxRecDepth 100000 in
theorem rec_fields_00 (p : Nat) (i i1 j1 i2 i3 i4 i5 i6 : InS) (a t o : Int) (kb vb : BlobS) (hs : List HdrS) (e0 : i.int 1 = (a, i1)) (ha : (a != 0) = true) (ej1 : i1.fail 8 = j1) (e1 : j1.vlong = (t, i2)) (e2 : i2.vint = (o, i3)) (ho : ¬ o < 0) (e4 : i3.varied = (kb, i4)) (e5 : i4.varied = (vb, i5)) (e6 : i5.hdrs = (hs, i6)) {W0 w : World} {K : Know} {L : List Res} (h : St W0 w K (.inp p i :: L)) :
  Calls Tryz.prog 119 #[inPtr p] w fun en w' => ∃ v, en = .returned (.agg #[.int .i64 t, .int .i64 o, .bool kb.null, .string (bb kb.data), .bool vb.null, .string (bb vb.data), v]) ∧ St W0 w' (K.and (Know.flat RHdr v 3 hs)) (.inp p i6 :: L) := by
 have h0 := (h.allocRaw #[.int .i64 0, .int .i64 0, .bool false, .string ⟨#[]⟩, .bool false, .string ⟨#[]⟩, .slice none 0 0] 65).p1
 obtain ⟨wA, hwA⟩ : ∃ b, w.heap.size = b := ⟨_, rfl⟩
 rw [hwA] at h0
 have H := Lib.hid h0
 have E0 := Lib.hid e0
 have E1 := Lib.hid e1
 have E2 := Lib.hid e2
 have E4 := Lib.hid e4
 have E5 := Lib.hid e5
 have E6 := Lib.hid e6
 have EJ1 := Lib.hid ej1
 have t0 : True := trivial
 have t1 : True := trivial
 have t2 : True := trivial
 have t3 : True := trivial
 have t4 : True := trivial
 have t5 : True := trivial
 have t6 : True := trivial
 clear h h0 e0 e1 e2 e4 e5 e6 ej1
 go_enter Tryz.func119, Tryz.ntmps119
 go_wp2_with (first
  | (go_at_call 111; have _t := t0; clear _t; refine (s_int _ i 1 H.out).mono ?_; rw [E0.out]; rintro e wn ⟨rfl, h⟩; replace H := Lib.hid (show St W0 wn K (.inp p i1 :: .raw wA #[.int .i64 0, .int .i64 0, .bool false, .string ⟨#[]⟩, .bool false, .string ⟨#[]⟩, .slice none 0 0] 65 :: L) from h); clear h t0; skip)
  | (go_at_call 73; have _t := t1; clear _t; refine (s_fail _ i1 8 H.out).mono ?_; rw [EJ1.out]; rintro e wn ⟨rfl, h⟩; replace H := Lib.hid (show St W0 wn K (.inp p j1 :: .raw wA #[.int .i64 0, .int .i64 0, .bool false, .string ⟨#[]⟩, .bool false, .string ⟨#[]⟩, .slice none 0 0] 65 :: L) from h); clear h t1; obtain ⟨wB, hwB⟩ : ∃ b, wn.heap.size = b := ⟨_, rfl⟩; have HB := H.out.allocRaw #[.int .i64 0, .int .i64 0, .bool false, .string ⟨#[]⟩, .bool false, .string ⟨#[]⟩, .slice none 0 0] 65; rw [hwB] at HB; have HB := Lib.hid HB.p1)
  | (go_at_call 123; have _t := t2; clear _t; refine (sv_long _ j1 HB.out).mono ?_; rw [E1.out]; rintro e wn ⟨rfl, h⟩; replace H := Lib.hid (show St W0 wn (K) (.inp p i2 :: .raw wB #[.int .i64 0, .int .i64 0, .bool false, .string ⟨#[]⟩, .bool false, .string ⟨#[]⟩, .slice none 0 0] 65 :: .raw wA #[.int .i64 0, .int .i64 0, .bool false, .string ⟨#[]⟩, .bool false, .string ⟨#[]⟩, .slice none 0 0] 65 :: L) from h); clear h t2; obtain ⟨yc0, yc1, yc2, yc3, yc4, yc5, yc6, yf0, yf1, yf2, yf3, yf4, yf5, yf6⟩ := raw7 (H.out.p1))
  | (go_at_call 124; have _t := t3; clear _t; refine (sv_int _ i2 (St.set1 H.out)).mono ?_; rw [E2.out]; rintro e wn ⟨rfl, h⟩; replace H := Lib.hid (show St W0 wn (K) (.inp p i3 :: .raw wB #[.int .i64 t, .int .i64 0, .bool false, .string ⟨#[]⟩, .bool false, .string ⟨#[]⟩, .slice none 0 0] 65 :: .raw wA #[.int .i64 0, .int .i64 0, .bool false, .string ⟨#[]⟩, .bool false, .string ⟨#[]⟩, .slice none 0 0] 65 :: L) from h); clear h t3; obtain ⟨yc0, yc1, yc2, yc3, yc4, yc5, yc6, yf0, yf1, yf2, yf3, yf4, yf5, yf6⟩ := raw7 (H.out.p1))
  | (go_at_call 122; have _t := t5; clear _t; refine (blob_varied _ i3 (St.set1 H.out)).mono ?_; rw [E4.out]; rintro e wn ⟨rfl, h⟩; replace H := Lib.hid (show St W0 wn (K) (.inp p i4 :: .raw wB #[.int .i64 t, .int .i64 o, .bool false, .string ⟨#[]⟩, .bool false, .string ⟨#[]⟩, .slice none 0 0] 65 :: .raw wA #[.int .i64 0, .int .i64 0, .bool false, .string ⟨#[]⟩, .bool false, .string ⟨#[]⟩, .slice none 0 0] 65 :: L) from h); clear h t5; obtain ⟨yc0, yc1, yc2, yc3, yc4, yc5, yc6, yf0, yf1, yf2, yf3, yf4, yf5, yf6⟩ := raw7 (H.out.p1); unfold bv)
  | (go_at_call 122; have _t := t6; clear _t; refine (blob_varied _ i4 (St.set1 (St.set1 H.out))).mono ?_; rw [E5.out]; rintro e wn ⟨rfl, h⟩; replace H := Lib.hid (show St W0 wn (K) (.inp p i5 :: .raw wB #[.int .i64 t, .int .i64 o, .bool kb.null, .string (bb kb.data), .bool false, .string ⟨#[]⟩, .slice none 0 0] 65 :: .raw wA #[.int .i64 0, .int .i64 0, .bool false, .string ⟨#[]⟩, .bool false, .string ⟨#[]⟩, .slice none 0 0] 65 :: L) from h); clear h t6; obtain ⟨yc0, yc1, yc2, yc3, yc4, yc5, yc6, yf0, yf1, yf2, yf3, yf4, yf5, yf6⟩ := raw7 (H.out.p1); unfold bv)
  | (go_at_call 125; refine (header_read _ i5 (St.set1 (St.set1 H.out))).mono ?_; rw [E6.out]; rintro e wn ⟨v, rfl, h⟩; obtain ⟨q6, cap6, hv6⟩ := flat_form (Know.has_right (Know.has_refl _)) h; subst hv6; replace H := Lib.hid (show St W0 wn (K.and (Know.flat RHdr (.slice q6 hs.length cap6) 3 hs)) (.inp p i6 :: .raw wB #[.int .i64 t, .int .i64 o, .bool kb.null, .string (bb kb.data), .bool vb.null, .string (bb vb.data), .slice none 0 0] 65 :: .raw wA #[.int .i64 0, .int .i64 0, .bool false, .string ⟨#[]⟩, .bool false, .string ⟨#[]⟩, .slice none 0 0] 65 :: L) from h); clear h; obtain ⟨yc0, yc1, yc2, yc3, yc4, yc5, yc6, yf0, yf1, yf2, yf3, yf4, yf5, yf6⟩ := raw7 (H.out.p1); obtain ⟨qc0, qc1, qc2, qc3, qc4, qc5, qc6, qf0, qf1, qf2, qf3, qf4, qf5, qf6⟩ := raw7 (H.out.p2); have hne1 : ¬ (wB = wA) := H.out.drop.raw_ne; have hne2 : ¬ (wA = wB) := (fun e => hne1 e.symm)))
 refine bodyPost_ret (v := .agg #[.int .i64 t, .int .i64 o, .bool kb.null, .string (bb kb.data), .bool vb.null, .string (bb vb.data), .slice q6 hs.length cap6]) (by simp [results, Tryz.results119, go_sem, qc0, qc1, qc2, qc3, qc4, qc5, qc6]) rfl ⟨.slice q6 hs.length cap6, rfl, ?_⟩
 exact (((((((((H.out.p1.rawSet 6 (.slice q6 hs.length cap6)).p2).rawSet 0 _).rawSet 1 _).rawSet 2 _).rawSet 3 _).rawSet 4 _).rawSet 5 _).rawSet 6 _).drop.drop

set_option maxHeartbeats 1000000 in
set_option maxRecDepth 100000 in
theorem rec_fields_01 (p : Nat) (i i1 j1 i2 i3 j3 i4 i5 i6 : InS) (a t o : Int) (kb vb : BlobS) (hs : List HdrS) (e0 : i.int 1 = (a, i1)) (ha : (a != 0) = true) (ej1 : i1.fail 8 = j1) (e1 : j1.vlong = (t, i2)) (e2 : i2.vint = (o, i3)) (ho : o < 0) (ej3 : i3.fail 11 = j3) (e4 : j3.varied = (kb, i4)) (e5 : i4.varied = (vb, i5)) (e6 : i5.hdrs = (hs, i6)) {W0 w : World} {K : Know} {L : List Res} (h : St W0 w K (.inp p i :: L)) :
  Calls Tryz.prog 119 #[inPtr p] w fun en w' => ∃ v, en = .returned (.agg #[.int .i64 t, .int .i64 o, .bool kb.null, .string (bb kb.data), .bool vb.null, .string (bb vb.data), v]) ∧ St W0 w' (K.and (Know.flat RHdr v 3 hs)) (.inp p i6 :: L) := by
 have h0 := (h.allocRaw #[.int .i64 0, .int .i64 0, .bool false, .string ⟨#[]⟩, .bool false, .string ⟨#[]⟩, .slice none 0 0] 65).p1
 obtain ⟨wA, hwA⟩ : ∃ b, w.heap.size = b := ⟨_, rfl⟩
 rw [hwA] at h0
 have H := Lib.hid h0
 have E0 := Lib.hid e0
 have E1 := Lib.hid e1
 have E2 := Lib.hid e2
 have E4 := Lib.hid e4
 have E5 := Lib.hid e5
 have E6 := Lib.hid e6
 have EJ1 := Lib.hid ej1
 have EJ3 := Lib.hid ej3
 have t0 : True := trivial
 have t1 : True := trivial
 have t2 : True := trivial
 have t3 : True := trivial
 have t4 : True := trivial
 have t5 : True := trivial
 have t6 : True := trivial
 clear h h0 e0 e1 e2 e4 e5 e6 ej1 ej3
 go_enter Tryz.func119, Tryz.ntmps119
 go_wp2_with (first
  | (go_at_call 111; have _t := t0; clear _t; refine (s_int _ i 1 H.out).mono ?_; rw [E0.out]; rintro e wn ⟨rfl, h⟩; replace H := Lib.hid (show St W0 wn K (.inp p i1 :: .raw wA #[.int .i64 0, .int .i64 0, .bool false, .string ⟨#[]⟩, .bool false, .string ⟨#[]⟩, .slice none 0 0] 65 :: L) from h); clear h t0; skip)
  | (go_at_call 73; have _t := t1; clear _t; refine (s_fail _ i1 8 H.out).mono ?_; rw [EJ1.out]; rintro e wn ⟨rfl, h⟩; replace H := Lib.hid (show St W0 wn K (.inp p j1 :: .raw wA #[.int .i64 0, .int .i64 0, .bool false, .string ⟨#[]⟩, .bool false, .string ⟨#[]⟩, .slice none 0 0] 65 :: L) from h); clear h t1; obtain ⟨wB, hwB⟩ : ∃ b, wn.heap.size = b := ⟨_, rfl⟩; have HB := H.out.allocRaw #[.int .i64 0, .int .i64 0, .bool false, .string ⟨#[]⟩, .bool false, .string ⟨#[]⟩, .slice none 0 0] 65; rw [hwB] at HB; have HB := Lib.hid HB.p1)
  | (go_at_call 123; have _t := t2; clear _t; refine (sv_long _ j1 HB.out).mono ?_; rw [E1.out]; rintro e wn ⟨rfl, h⟩; replace H := Lib.hid (show St W0 wn (K) (.inp p i2 :: .raw wB #[.int .i64 0, .int .i64 0, .bool false, .string ⟨#[]⟩, .bool false, .string ⟨#[]⟩, .slice none 0 0] 65 :: .raw wA #[.int .i64 0, .int .i64 0, .bool false, .string ⟨#[]⟩, .bool false, .string ⟨#[]⟩, .slice none 0 0] 65 :: L) from h); clear h t2; obtain ⟨yc0, yc1, yc2, yc3, yc4, yc5, yc6, yf0, yf1, yf2, yf3, yf4, yf5, yf6⟩ := raw7 (H.out.p1))
  | (go_at_call 124; have _t := t3; clear _t; refine (sv_int _ i2 (St.set1 H.out)).mono ?_; rw [E2.out]; rintro e wn ⟨rfl, h⟩; replace H := Lib.hid (show St W0 wn (K) (.inp p i3 :: .raw wB #[.int .i64 t, .int .i64 0, .bool false, .string ⟨#[]⟩, .bool false, .string ⟨#[]⟩, .slice none 0 0] 65 :: .raw wA #[.int .i64 0, .int .i64 0, .bool false, .string ⟨#[]⟩, .bool false, .string ⟨#[]⟩, .slice none 0 0] 65 :: L) from h); clear h t3; obtain ⟨yc0, yc1, yc2, yc3, yc4, yc5, yc6, yf0, yf1, yf2, yf3, yf4, yf5, yf6⟩ := raw7 (H.out.p1))
  | (go_at_call 73; have _t := t4; clear _t; refine (s_fail _ i3 11 (St.set1 H.out)).mono ?_; rw [EJ3.out]; rintro e wn ⟨rfl, h⟩; replace H := Lib.hid (show St W0 wn (K) (.inp p j3 :: .raw wB #[.int .i64 t, .int .i64 o, .bool false, .string ⟨#[]⟩, .bool false, .string ⟨#[]⟩, .slice none 0 0] 65 :: .raw wA #[.int .i64 0, .int .i64 0, .bool false, .string ⟨#[]⟩, .bool false, .string ⟨#[]⟩, .slice none 0 0] 65 :: L) from h); clear h t4; obtain ⟨yc0, yc1, yc2, yc3, yc4, yc5, yc6, yf0, yf1, yf2, yf3, yf4, yf5, yf6⟩ := raw7 (H.out.p1); have HX := H)
  | (go_at_call 122; have _t := t5; clear _t; refine (blob_varied _ j3 H.out).mono ?_; rw [E4.out]; rintro e wn ⟨rfl, h⟩; replace H := Lib.hid (show St W0 wn (K) (.inp p i4 :: .raw wB #[.int .i64 t, .int .i64 o, .bool false, .string ⟨#[]⟩, .bool false, .string ⟨#[]⟩, .slice none 0 0] 65 :: .raw wA #[.int .i64 0, .int .i64 0, .bool false, .string ⟨#[]⟩, .bool false, .string ⟨#[]⟩, .slice none 0 0] 65 :: L) from h); clear h t5; obtain ⟨yc0, yc1, yc2, yc3, yc4, yc5, yc6, yf0, yf1, yf2, yf3, yf4, yf5, yf6⟩ := raw7 (H.out.p1); unfold bv)
  | (go_at_call 122; have _t := t6; clear _t; refine (blob_varied _ i4 (St.set1 (St.set1 H.out))).mono ?_; rw [E5.out]; rintro e wn ⟨rfl, h⟩; replace H := Lib.hid (show St W0 wn (K) (.inp p i5 :: .raw wB #[.int .i64 t, .int .i64 o, .bool kb.null, .string (bb kb.data), .bool false, .string ⟨#[]⟩, .slice none 0 0] 65 :: .raw wA #[.int .i64 0, .int .i64 0, .bool false, .string ⟨#[]⟩, .bool false, .string ⟨#[]⟩, .slice none 0 0] 65 :: L) from h); clear h t6; obtain ⟨yc0, yc1, yc2, yc3, yc4, yc5, yc6, yf0, yf1, yf2, yf3, yf4, yf5, yf6⟩ := raw7 (H.out.p1); unfold bv)
  | (go_at_call 125; refine (header_read _ i5 (St.set1 (St.set1 H.out))).mono ?_; rw [E6.out]; rintro e wn ⟨v, rfl, h⟩; obtain ⟨q6, cap6, hv6⟩ := flat_form (Know.has_right (Know.has_refl _)) h; subst hv6; replace H := Lib.hid (show St W0 wn (K.and (Know.flat RHdr (.slice q6 hs.length cap6) 3 hs)) (.inp p i6 :: .raw wB #[.int .i64 t, .int .i64 o, .bool kb.null, .string (bb kb.data), .bool vb.null, .string (bb vb.data), .slice none 0 0] 65 :: .raw wA #[.int .i64 0, .int .i64 0, .bool false, .string ⟨#[]⟩, .bool false, .string ⟨#[]⟩, .slice none 0 0] 65 :: L) from h); clear h; obtain ⟨yc0, yc1, yc2, yc3, yc4, yc5, yc6, yf0, yf1, yf2, yf3, yf4, yf5, yf6⟩ := raw7 (H.out.p1); obtain ⟨qc0, qc1, qc2, qc3, qc4, qc5, qc6, qf0, qf1, qf2, qf3, qf4, qf5, qf6⟩ := raw7 (H.out.p2); have hne1 : ¬ (wB = wA) := H.out.drop.raw_ne; have hne2 : ¬ (wA = wB) := (fun e => hne1 e.symm)))
 refine bodyPost_ret (v := .agg #[.int .i64 t, .int .i64 o, .bool kb.null, .string (bb kb.data), .bool vb.null, .string (bb vb.data), .slice q6 hs.length cap6]) (by simp [results, Tryz.results119, go_sem, qc0, qc1, qc2, qc3, qc4, qc5, qc6]) rfl ⟨.slice q6 hs.length cap6, rfl, ?_⟩
 exact (((((((((H.out.p1.rawSet 6 (.slice q6 hs.length cap6)).p2).rawSet 0 _).rawSet 1 _).rawSet 2 _).rawSet 3 _).rawSet 4 _).rawSet 5 _).rawSet 6 _).drop.drop

theorem rec_fields (p : Nat) (i : InS) {W0 w : World} {K : Know} {L : List Res} (h : St W0 w K (.inp p i :: L)) :
   Calls Tryz.prog 119 #[inPtr p] w fun en w' => ∃ v, en = .returned (.agg #[.int .i64 i.recFields.1.time, .int .i64 i.recFields.1.off, .bool i.recFields.1.key.null, .string (bb i.recFields.1.key.data), .bool i.recFields.1.val.null, .string (bb i.recFields.1.val.data), v]) ∧ St W0 w' (K.and (Know.flat RHdr v 3 i.recFields.1.hdrs)) (.inp p i.recFields.2 :: L) := by
 obtain ⟨⟨a, i1⟩, e0⟩ : ∃ z, i.int 1 = z := ⟨_, rfl⟩
 unfold InS.recFields
 rw [e0]
 simp only
 by_cases ha : a = 0
 · rw [if_pos ha]
   unfold InS.recTime InS.recOff
   by_cases ho : i1.vlong.2.vint.1 < 0
   · rw [if_pos ho]
     exact rec_fields_11 p i _ _ _ _ _ _ _ a _ _ _ _ _ e0 (by rw [ha]; rfl) rfl rfl ho rfl rfl rfl rfl h
   · rw [if_neg ho]
     exact rec_fields_10 p i _ _ _ _ _ _ a _ _ _ _ _ e0 (by rw [ha]; rfl) rfl rfl ho rfl rfl rfl h
 · rw [if_neg ha]
   unfold InS.recTime InS.recOff
   by_cases ho : (i1.fail 8).vlong.2.vint.1 < 0
   · rw [if_pos ho]
     exact rec_fields_01 p i _ _ _ _ _ _ _ _ a _ _ _ _ _ e0 (bne_iff_ne.2 ha) rfl rfl rfl ho rfl rfl rfl rfl h
   · rw [if_neg ho]
     exact rec_fields_00 p i _ _ _ _ _ _ _ a _ _ _ _ _ e0 (bne_iff_ne.2 ha) rfl rfl rfl ho rfl rfl rfl h
set_option maxHeartbeats 1000000 in
set_option maxRecDepth 100000 in
theorem rec_read_ok (p : Nat) (i i1 k c : InS) (nm : Bs) (x : RecS) (hn : i.name = (nm, i1)) (hx : (⟨nm, 0, 0⟩ : InS).recFields = (x, k)) (hc : k.close = c) (hl : nm.length ≤ 140737488355328) (he : c.err = 0) (hj : i1.err = 0) {W0 w : World} {K : Know} {L : List Res} (h : St W0 w K (.inp p i :: L)) :
  Calls Tryz.prog 112 #[inPtr p] w fun en w' => ∃ v, en = .returned (.agg #[.int .i64 x.time, .int .i64 x.off, .bool x.key.null, .string (bb x.key.data), .bool x.val.null, .string (bb x.val.data), v]) ∧ St W0 w' (K.and (Know.flat RHdr v 3 x.hdrs)) (.inp p i1 :: L) := by
 have h0 := (h.allocRaw #[.int .i64 0, .int .i64 0, .bool false, .string ⟨#[]⟩, .bool false, .string ⟨#[]⟩, .slice none 0 0] 65).p1
 obtain ⟨wA, hwA⟩ : ∃ b, w.heap.size = b := ⟨_, rfl⟩
 rw [hwA] at h0
 have H := Lib.hid h0
 have EN := Lib.hid hn
 have EX := Lib.hid hx
 have EC := Lib.hid hc
 have HL := Lib.hid hl
 have HE := Lib.hid he
 have HJ := Lib.hid hj
 skip
 clear h h0 hn hx hc hl he hj 
 go_enter Tryz.func112, Tryz.ntmps112
 go_wp2_with (first
  | (go_at_call 118; refine (blob_name _ i H.out).mono ?_; rw [EN.out]; rintro e wn ⟨rfl, h⟩; replace H := Lib.hid h; clear h)
  | (go_at_call 41; refine (s_new nm HL.out H.out).mono ?_; rintro e wn ⟨bi, rfl, h⟩; replace H := Lib.hid h; clear h)
  | (go_at_call 119; refine (rec_fields _ _ H.out).mono ?_; rw [EX.out]; rintro e wn ⟨v6, rfl, h⟩; obtain ⟨q6, cap6, hv6⟩ := flat_form (Know.has_right (Know.has_refl _)) h; subst hv6; obtain ⟨wB, hwB⟩ : ∃ b, wn.heap.size = b := ⟨_, rfl⟩; have h := h.allocRaw #[.int .i64 x.time, .int .i64 x.off, .bool x.key.null, .string (bb x.key.data), .bool x.val.null, .string (bb x.val.data), .slice q6 x.hdrs.length cap6] 65; rw [hwB] at h; replace H := Lib.hid (show St W0 _ (K.and (Know.flat RHdr (.slice q6 x.hdrs.length cap6) 3 x.hdrs)) (.raw wB #[.int .i64 x.time, .int .i64 x.off, .bool x.key.null, .string (bb x.key.data), .bool x.val.null, .string (bb x.val.data), .slice q6 x.hdrs.length cap6] 65 :: .inp bi k :: .inp p i1 :: .raw wA #[.int .i64 0, .int .i64 0, .bool false, .string ⟨#[]⟩, .bool false, .string ⟨#[]⟩, .slice none 0 0] 65 :: L) from h); clear h)
  | (go_at_call 113; refine (s_close _ k H.out.p1).mono ?_; rw [EC.out, HE.out]; rintro e wn ⟨rfl, h⟩; replace H := Lib.hid h.p2; clear h)
  | (go_at_call 43; refine (s_err _ i1 H.out).mono ?_; rw [HJ.out]; rintro e wn ⟨rfl, h⟩; replace H := Lib.hid h; clear h; (first | (obtain ⟨ac0, ac1, ac2, ac3, ac4, ac5, ac6, af0, af1, af2, af3, af4, af5, af6⟩ := raw7 (b := wA) H.out) | (obtain ⟨ac0, ac1, ac2, ac3, ac4, ac5, ac6, af0, af1, af2, af3, af4, af5, af6⟩ := raw7 (b := wA) H.out.p1) | (obtain ⟨ac0, ac1, ac2, ac3, ac4, ac5, ac6, af0, af1, af2, af3, af4, af5, af6⟩ := raw7 (b := wA) H.out.p2) | (obtain ⟨ac0, ac1, ac2, ac3, ac4, ac5, ac6, af0, af1, af2, af3, af4, af5, af6⟩ := raw7 (b := wA) H.out.p3)); (first | (obtain ⟨bc0, bc1, bc2, bc3, bc4, bc5, bc6, bf0, bf1, bf2, bf3, bf4, bf5, bf6⟩ := raw7 (b := wB) H.out) | (obtain ⟨bc0, bc1, bc2, bc3, bc4, bc5, bc6, bf0, bf1, bf2, bf3, bf4, bf5, bf6⟩ := raw7 (b := wB) H.out.p1) | (obtain ⟨bc0, bc1, bc2, bc3, bc4, bc5, bc6, bf0, bf1, bf2, bf3, bf4, bf5, bf6⟩ := raw7 (b := wB) H.out.p2) | (obtain ⟨bc0, bc1, bc2, bc3, bc4, bc5, bc6, bf0, bf1, bf2, bf3, bf4, bf5, bf6⟩ := raw7 (b := wB) H.out.p3))))
 refine bodyPost_ret (v := .agg #[.int .i64 x.time, .int .i64 x.off, .bool x.key.null, .string (bb x.key.data), .bool x.val.null, .string (bb x.val.data), .slice q6 x.hdrs.length cap6]) (by simp [results, Tryz.results112, go_sem, ac0, ac1, ac2, ac3, ac4, ac5, ac6]) rfl ⟨.slice q6 x.hdrs.length cap6, rfl, ?_⟩
 exact ((((((((H.out.p3).rawSet 0 _).rawSet 1 _).rawSet 2 _).rawSet 3 _).rawSet 4 _).rawSet 5 _).rawSet 6 _).drop.p1.drop.p1.drop

set_option maxHeartbeats 1000000 in
set_option maxRecDepth 100000 in
theorem rec_read_bad (p : Nat) (i i1 k c : InS) (nm : Bs) (x : RecS) (hn : i.name = (nm, i1)) (hx : (⟨nm, 0, 0⟩ : InS).recFields = (x, k)) (hc : k.close = c) (hl : nm.length ≤ 140737488355328) (he : c.err = 0) (f : Int) (hj : i1.err = f) (hf : (f != 0) = true) {W0 w : World} {K : Know} {L : List Res} (h : St W0 w K (.inp p i :: L)) :
  Calls Tryz.prog 112 #[inPtr p] w fun en w' => en = .returned (.agg #[.int .i64 0, .int .i64 0, .bool false, .string ⟨#[]⟩, .bool false, .string ⟨#[]⟩, .slice none 0 0]) ∧ St W0 w' K (.inp p i1 :: L) := by
 have h0 := (h.allocRaw #[.int .i64 0, .int .i64 0, .bool false, .string ⟨#[]⟩, .bool false, .string ⟨#[]⟩, .slice none 0 0] 65).p1
 obtain ⟨wA, hwA⟩ : ∃ b, w.heap.size = b := ⟨_, rfl⟩
 rw [hwA] at h0
 have H := Lib.hid h0
 have EN := Lib.hid hn
 have EX := Lib.hid hx
 have EC := Lib.hid hc
 have HL := Lib.hid hl
 have HE := Lib.hid he
 have HJ := Lib.hid hj
 skip
 clear h h0 hn hx hc hl he hj 
 go_enter Tryz.func112, Tryz.ntmps112
 go_wp2_with (first
  | (go_at_call 118; refine (blob_name _ i H.out).mono ?_; rw [EN.out]; rintro e wn ⟨rfl, h⟩; replace H := Lib.hid h; clear h)
  | (go_at_call 41; refine (s_new nm HL.out H.out).mono ?_; rintro e wn ⟨bi, rfl, h⟩; replace H := Lib.hid h; clear h)
  | (go_at_call 119; refine (rec_fields _ _ H.out).mono ?_; rw [EX.out]; rintro e wn ⟨v6, rfl, h⟩; obtain ⟨q6, cap6, hv6⟩ := flat_form (Know.has_right (Know.has_refl _)) h; subst hv6; obtain ⟨wB, hwB⟩ : ∃ b, wn.heap.size = b := ⟨_, rfl⟩; have h := h.allocRaw #[.int .i64 x.time, .int .i64 x.off, .bool x.key.null, .string (bb x.key.data), .bool x.val.null, .string (bb x.val.data), .slice q6 x.hdrs.length cap6] 65; rw [hwB] at h; replace H := Lib.hid (show St W0 _ (K.and (Know.flat RHdr (.slice q6 x.hdrs.length cap6) 3 x.hdrs)) (.raw wB #[.int .i64 x.time, .int .i64 x.off, .bool x.key.null, .string (bb x.key.data), .bool x.val.null, .string (bb x.val.data), .slice q6 x.hdrs.length cap6] 65 :: .inp bi k :: .inp p i1 :: .raw wA #[.int .i64 0, .int .i64 0, .bool false, .string ⟨#[]⟩, .bool false, .string ⟨#[]⟩, .slice none 0 0] 65 :: L) from h); clear h)
  | (go_at_call 113; refine (s_close _ k H.out.p1).mono ?_; rw [EC.out, HE.out]; rintro e wn ⟨rfl, h⟩; replace H := Lib.hid h.p2; clear h)
  | (go_at_call 43; refine (s_err _ i1 H.out).mono ?_; rw [HJ.out]; rintro e wn ⟨rfl, h⟩; replace H := Lib.hid h; clear h; (first | (obtain ⟨ac0, ac1, ac2, ac3, ac4, ac5, ac6, af0, af1, af2, af3, af4, af5, af6⟩ := raw7 (b := wA) H.out) | (obtain ⟨ac0, ac1, ac2, ac3, ac4, ac5, ac6, af0, af1, af2, af3, af4, af5, af6⟩ := raw7 (b := wA) H.out.p1) | (obtain ⟨ac0, ac1, ac2, ac3, ac4, ac5, ac6, af0, af1, af2, af3, af4, af5, af6⟩ := raw7 (b := wA) H.out.p2) | (obtain ⟨ac0, ac1, ac2, ac3, ac4, ac5, ac6, af0, af1, af2, af3, af4, af5, af6⟩ := raw7 (b := wA) H.out.p3)); (first | (obtain ⟨bc0, bc1, bc2, bc3, bc4, bc5, bc6, bf0, bf1, bf2, bf3, bf4, bf5, bf6⟩ := raw7 (b := wB) H.out) | (obtain ⟨bc0, bc1, bc2, bc3, bc4, bc5, bc6, bf0, bf1, bf2, bf3, bf4, bf5, bf6⟩ := raw7 (b := wB) H.out.p1) | (obtain ⟨bc0, bc1, bc2, bc3, bc4, bc5, bc6, bf0, bf1, bf2, bf3, bf4, bf5, bf6⟩ := raw7 (b := wB) H.out.p2) | (obtain ⟨bc0, bc1, bc2, bc3, bc4, bc5, bc6, bf0, bf1, bf2, bf3, bf4, bf5, bf6⟩ := raw7 (b := wB) H.out.p3))))
 refine bodyPost_ret (v := .agg #[.int .i64 0, .int .i64 0, .bool false, .string ⟨#[]⟩, .bool false, .string ⟨#[]⟩, .slice none 0 0]) (by simp [results, Tryz.results112, go_sem, ac0, ac1, ac2, ac3, ac4, ac5, ac6]) rfl ⟨rfl, ?_⟩
 exact (((((((((H.out.p3).rawSet 0 _).rawSet 1 _).rawSet 2 _).rawSet 3 _).rawSet 4 _).rawSet 5 _).rawSet 6 _).drop.p1.drop.p1.drop).know (Know.has_left (Know.has_refl _))

set_option maxHeartbeats 1000000 in
set_option maxRecDepth 100000 in
theorem rec_read_inner (p : Nat) (i i1 k c : InS) (nm : Bs) (x : RecS) (hn : i.name = (nm, i1)) (hx : (⟨nm, 0, 0⟩ : InS).recFields = (x, k)) (hc : k.close = c) (hl : nm.length ≤ 140737488355328) (e : Int) (he : c.err = e) (hen : (e != 0) = true) (j : InS) (hjj : i1.fail e = j) (f : Int) (hj : j.err = f) (hf : (f != 0) = true) {W0 w : World} {K : Know} {L : List Res} (h : St W0 w K (.inp p i :: L)) :
  Calls Tryz.prog 112 #[inPtr p] w fun en w' => en = .returned (.agg #[.int .i64 0, .int .i64 0, .bool false, .string ⟨#[]⟩, .bool false, .string ⟨#[]⟩, .slice none 0 0]) ∧ St W0 w' K (.inp p j :: L) := by
 have h0 := (h.allocRaw #[.int .i64 0, .int .i64 0, .bool false, .string ⟨#[]⟩, .bool false, .string ⟨#[]⟩, .slice none 0 0] 65).p1
 obtain ⟨wA, hwA⟩ : ∃ b, w.heap.size = b := ⟨_, rfl⟩
 rw [hwA] at h0
 have H := Lib.hid h0
 have EN := Lib.hid hn
 have EX := Lib.hid hx
 have EC := Lib.hid hc
 have HL := Lib.hid hl
 have HE := Lib.hid he
 have HJ := Lib.hid hj
 have EJ := Lib.hid hjj
 clear h h0 hn hx hc hl he hj hjj
 go_enter Tryz.func112, Tryz.ntmps112
 go_wp2_with (first
  | (go_at_call 118; refine (blob_name _ i H.out).mono ?_; rw [EN.out]; rintro e wn ⟨rfl, h⟩; replace H := Lib.hid h; clear h)
  | (go_at_call 41; refine (s_new nm HL.out H.out).mono ?_; rintro e wn ⟨bi, rfl, h⟩; replace H := Lib.hid h; clear h)
  | (go_at_call 119; refine (rec_fields _ _ H.out).mono ?_; rw [EX.out]; rintro e wn ⟨v6, rfl, h⟩; obtain ⟨q6, cap6, hv6⟩ := flat_form (Know.has_right (Know.has_refl _)) h; subst hv6; obtain ⟨wB, hwB⟩ : ∃ b, wn.heap.size = b := ⟨_, rfl⟩; have h := h.allocRaw #[.int .i64 x.time, .int .i64 x.off, .bool x.key.null, .string (bb x.key.data), .bool x.val.null, .string (bb x.val.data), .slice q6 x.hdrs.length cap6] 65; rw [hwB] at h; replace H := Lib.hid (show St W0 _ (K.and (Know.flat RHdr (.slice q6 x.hdrs.length cap6) 3 x.hdrs)) (.raw wB #[.int .i64 x.time, .int .i64 x.off, .bool x.key.null, .string (bb x.key.data), .bool x.val.null, .string (bb x.val.data), .slice q6 x.hdrs.length cap6] 65 :: .inp bi k :: .inp p i1 :: .raw wA #[.int .i64 0, .int .i64 0, .bool false, .string ⟨#[]⟩, .bool false, .string ⟨#[]⟩, .slice none 0 0] 65 :: L) from h); clear h)
  | (go_at_call 113; refine (s_close _ k H.out.p1).mono ?_; rw [EC.out, HE.out]; rintro e wn ⟨rfl, h⟩; replace H := Lib.hid h.p2; clear h)
  | (go_at_call 73; refine (s_fail _ i1 _ H.out).mono ?_; rw [EJ.out]; rintro e wn ⟨rfl, h⟩; replace H := Lib.hid h; clear h)
  | (go_at_call 43; refine (s_err _ j H.out).mono ?_; rw [HJ.out]; rintro e wn ⟨rfl, h⟩; replace H := Lib.hid h; clear h; (first | (obtain ⟨ac0, ac1, ac2, ac3, ac4, ac5, ac6, af0, af1, af2, af3, af4, af5, af6⟩ := raw7 (b := wA) H.out) | (obtain ⟨ac0, ac1, ac2, ac3, ac4, ac5, ac6, af0, af1, af2, af3, af4, af5, af6⟩ := raw7 (b := wA) H.out.p1) | (obtain ⟨ac0, ac1, ac2, ac3, ac4, ac5, ac6, af0, af1, af2, af3, af4, af5, af6⟩ := raw7 (b := wA) H.out.p2) | (obtain ⟨ac0, ac1, ac2, ac3, ac4, ac5, ac6, af0, af1, af2, af3, af4, af5, af6⟩ := raw7 (b := wA) H.out.p3)); (first | (obtain ⟨bc0, bc1, bc2, bc3, bc4, bc5, bc6, bf0, bf1, bf2, bf3, bf4, bf5, bf6⟩ := raw7 (b := wB) H.out) | (obtain ⟨bc0, bc1, bc2, bc3, bc4, bc5, bc6, bf0, bf1, bf2, bf3, bf4, bf5, bf6⟩ := raw7 (b := wB) H.out.p1) | (obtain ⟨bc0, bc1, bc2, bc3, bc4, bc5, bc6, bf0, bf1, bf2, bf3, bf4, bf5, bf6⟩ := raw7 (b := wB) H.out.p2) | (obtain ⟨bc0, bc1, bc2, bc3, bc4, bc5, bc6, bf0, bf1, bf2, bf3, bf4, bf5, bf6⟩ := raw7 (b := wB) H.out.p3))))
 refine bodyPost_ret (v := .agg #[.int .i64 0, .int .i64 0, .bool false, .string ⟨#[]⟩, .bool false, .string ⟨#[]⟩, .slice none 0 0]) (by simp [results, Tryz.results112, go_sem, ac0, ac1, ac2, ac3, ac4, ac5, ac6]) rfl ⟨rfl, ?_⟩
 exact (((((((((H.out.p3).rawSet 0 _).rawSet 1 _).rawSet 2 _).rawSet 3 _).rawSet 4 _).rawSet 5 _).rawSet 6 _).drop.p1.drop.p1.drop).know (Know.has_left (Know.has_refl _))

theorem name_len (i : InS) (h : i.ok) : i.name.1.length ≤ i.s.length := by
 by_cases he : i.err = 0
 · obtain ⟨s, pos, err⟩ := i
   simp only at he
   subst he
   have hp : pos ≤ s.length := h.1
   show (InS.varied ⟨s, pos, 0⟩).1.data.length ≤ s.length
   cases hv : revaried (s.drop pos) with
   | ok b =>
    obtain ⟨g1, g2⟩ := rds_varied.ok s pos b.1 b.2 hp hv
    obtain ⟨_, _, _, _, _, o⟩ := revaried_one hv
    rw [g2]
    simp only
    split at o <;> omega
   | error e =>
    obtain ⟨_, q, _, g⟩ := rds_varied.err s pos e hp hv
    rw [g]
    simp
 · rw [name_stuck he]; simp
theorem rec_read (p : Nat) (i : InS) {W0 w : World} {K : Know} {L : List Res} (h : St W0 w K (.inp p i :: L)) :
   Calls Tryz.prog 112 #[inPtr p] w fun en w' => ∃ v, en = .returned (.agg #[.int .i64 i.record.1.time, .int .i64 i.record.1.off, .bool i.record.1.key.null, .string (bb i.record.1.key.data), .bool i.record.1.val.null, .string (bb i.record.1.val.data), v]) ∧ St W0 w' (K.and (Know.flat RHdr v 3 i.record.1.hdrs)) (.inp p i.record.2 :: L) := by
 have hok := h.inpGet.2
 have hnl := name_len i hok
 have hsl := hok.2
 obtain ⟨⟨nm, i1⟩, hn⟩ : ∃ z, i.name = z := ⟨_, rfl⟩
 rw [hn] at hnl
 simp only at hnl
 obtain ⟨⟨x, k⟩, hx⟩ : ∃ z, (⟨nm, 0, 0⟩ : InS).recFields = z := ⟨_, rfl⟩
 have hz : ∀ (K' : Know), K'.has (K'.and (Know.flat RHdr (.slice none 0 0) 3 [])) := fun K' => know_nil _ _ _
 unfold InS.record InS.recJ recD
 rw [hn]
 simp only
 rw [hx]
 simp only
 by_cases he : k.close.err = 0
 · rw [if_pos he]
   by_cases hj : i1.err = 0
   · rw [if_pos hj]
     exact rec_read_ok p i i1 k _ nm x hn hx rfl (by omega) he hj h
   · rw [if_neg hj]
     exact (rec_read_bad p i i1 k _ nm x hn hx rfl (by omega) he _ rfl (bne_iff_ne.2 hj) h).mono fun en w' hh => ⟨_, hh.1, hh.2.know (hz K)⟩
 · rw [if_neg he]
   have hj : (i1.fail k.close.err).err ≠ 0 := by unfold InS.fail; split; exact he; assumption
   rw [if_neg hj]
   exact (rec_read_inner p i i1 k _ nm x hn hx rfl (by omega) _ rfl (bne_iff_ne.2 he) _ rfl _ rfl (bne_iff_ne.2 hj) h).mono fun en w' hh => ⟨_, hh.1, hh.2.know (hz K)⟩
theorem dec_false {a b : RecS} (h : ¬ a = b) {r : Bool} (hr : decide (a = b) = r) : r = false := by rw [← hr]; exact decide_eq_false h

set_option maxHeartbeats 1000000 in
set_option maxRecDepth 100000 in
theorem ref07_same (t1 o1 t2 o2 : Int) (n1 m1 n2 m2 : Bool) (d1 f1 d2 f2 : Bs) (l1 l2 : List HdrS) (va vb : Value) (r : Bool) (hr : decide ((⟨t1, o1, ⟨n1, d1⟩, ⟨m1, f1⟩, l1⟩ : RecS) = ⟨t2, o2, ⟨n2, d2⟩, ⟨m2, f2⟩, l2⟩) = r) (hl1 : l1.length ≤ 9223372036854775807) (hl2 : l2.length ≤ 9223372036854775807) {W0 w : World} {K : Know} {L : List Res} (hka : K.has (Know.flat RHdr va 3 l1)) (hkb : K.has (Know.flat RHdr vb 3 l2)) (h : St W0 w K L) :
   Calls Tryz.prog 39 #[.agg #[.int .i64 t1, .int .i64 o1, .bool n1, .string (bb d1), .bool m1, .string (bb f1), va], .agg #[.int .i64 t2, .int .i64 o2, .bool n2, .string (bb d2), .bool m2, .string (bb f2), vb]] w fun en w' => en = .returned (.bool r) ∧ St W0 w' K L := by
 have h0 := (h.allocRaw #[.int .i64 t1, .int .i64 o1, .bool n1, .string (bb d1), .bool m1, .string (bb f1), va] 65).allocRaw #[.int .i64 t2, .int .i64 o2, .bool n2, .string (bb d2), .bool m2, .string (bb f2), vb] 65
 rw [World.size_alloc] at h0
 have H := Lib.hid h0
 have HA := Lib.hid hka
 have HB := Lib.hid hkb
 have HL1 := Lib.hid hl1
 have HL2 := Lib.hid hl2
 clear h h0 hka hkb hl1 hl2
 by_cases hn : t1 = t2
 rotate_left
 · have HR := Lib.hid (show r = false from dec_false (by intro h; cases h; exact hn rfl) hr)
   have hb : (t1 == t2) = false := by simpa using hn
   rw [show r = false from HR.out]
   clear hn hr
   go_enter Tryz.func39, Tryz.ntmps39
   go_wp2
   go_ret
   exact ⟨rfl, H.out.drop.drop⟩
 subst hn
 by_cases hn : o1 = o2
 rotate_left
 · have HR := Lib.hid (show r = false from dec_false (by intro h; cases h; exact hn rfl) hr)
   have hb : (o1 == o2) = false := by simpa using hn
   rw [show r = false from HR.out]
   clear hn hr
   go_enter Tryz.func39, Tryz.ntmps39
   go_wp2
   go_ret
   exact ⟨rfl, H.out.drop.drop⟩
 subst hn
 by_cases hn : n1 = n2
 rotate_left
 · have HR := Lib.hid (show r = false from dec_false (by intro h; cases h; exact hn rfl) hr)
   have hb : (n1 == n2) = false := by simpa using hn
   rw [show r = false from HR.out]
   clear hn hr
   go_enter Tryz.func39, Tryz.ntmps39
   go_wp2
   go_ret
   exact ⟨rfl, H.out.drop.drop⟩
 subst hn
 by_cases hn : d1 = d2
 rotate_left
 · have HR := Lib.hid (show r = false from dec_false (by intro h; cases h; exact hn rfl) hr)
   have hb : (d1 == d2) = false := by simpa using hn
   rw [show r = false from HR.out]
   clear hn hr
   go_enter Tryz.func39, Tryz.ntmps39
   go_wp2
   go_ret
   exact ⟨rfl, H.out.drop.drop⟩
 subst hn
 by_cases hn : m1 = m2
 rotate_left
 · have HR := Lib.hid (show r = false from dec_false (by intro h; cases h; exact hn rfl) hr)
   have hb : (m1 == m2) = false := by simpa using hn
   rw [show r = false from HR.out]
   clear hn hr
   go_enter Tryz.func39, Tryz.ntmps39
   go_wp2
   go_ret
   exact ⟨rfl, H.out.drop.drop⟩
 subst hn
 by_cases hn : f1 = f2
 rotate_left
 · have HR := Lib.hid (show r = false from dec_false (by intro h; cases h; exact hn rfl) hr)
   have hb : (f1 == f2) = false := by simpa using hn
   rw [show r = false from HR.out]
   clear hn hr
   go_enter Tryz.func39, Tryz.ntmps39
   go_wp2
   go_ret
   exact ⟨rfl, H.out.drop.drop⟩
 subst hn
 have HD := Lib.hid (show decide (l1 = l2) = r by rw [← hr]; exact decide_eq_decide.mpr ⟨fun h => by rw [h], fun h => by cases h; rfl⟩)
 clear hr
 go_enter Tryz.func39, Tryz.ntmps39
 go_wp2_with (go_at_call 70; refine (ref06_same va vb l1 l2 HL1.out HL2.out HA.out HB.out H.out).mono ?_; rw [HD.out]; rintro e wn ⟨rfl, h⟩; replace H := Lib.hid h; clear h)
 go_ret
 exact ⟨rfl, H.out.drop.drop⟩
theorem ref07_sameV (a b : RecS) (va vb : Value) (r : Bool) (hr : decide (a = b) = r) (hl1 : a.hdrs.length ≤ 9223372036854775807) (hl2 : b.hdrs.length ≤ 9223372036854775807) {W0 w : World} {K : Know} {L : List Res} (hka : K.has (Know.flat RHdr va 3 a.hdrs)) (hkb : K.has (Know.flat RHdr vb 3 b.hdrs)) (h : St W0 w K L) :
  Calls Tryz.prog 39 #[.agg #[.int .i64 a.time, .int .i64 a.off, .bool a.key.null, .string (bb a.key.data), .bool a.val.null, .string (bb a.val.data), va], .agg #[.int .i64 b.time, .int .i64 b.off, .bool b.key.null, .string (bb b.key.data), .bool b.val.null, .string (bb b.val.data), vb]] w fun en w' => en = .returned (.bool r) ∧ St W0 w' K L :=
 ref07_same a.time a.off b.time b.off a.key.null a.val.null b.key.null b.val.null a.key.data a.val.data b.key.data b.val.data a.hdrs b.hdrs va vb r hr hl1 hl2 hka hkb h
def Fit (n : Nat) : Prop := n ≤ 140737488351232
def HFit (l : List HdrS) : Prop := ∀ x ∈ l, x.key.length ≤ 140737488351232 ∧ x.val.data.length ≤ 140737488351232
theorem rec_readQ (p : Nat) (i : InS) (x : RecS) (k : InS) (hx : i.record = (x, k)) {W0 w : World} {K : Know} {L : List Res} (h : St W0 w K (.inp p i :: L)) :
  Calls Tryz.prog 112 #[inPtr p] w fun en w' => ∃ v, en = .returned (.agg #[.int .i64 x.time, .int .i64 x.off, .bool x.key.null, .string (bb x.key.data), .bool x.val.null, .string (bb x.val.data), v]) ∧ St W0 w' (K.and (Know.flat RHdr v 3 x.hdrs)) (.inp p k :: L) := by
 have h1 := rec_read p i h
 rw [hx] at h1
 exact h1

set_option maxHeartbeats 1000000 in
set_option maxRecDepth 100000 in
theorem ref07_odd (n : Bool) (d : Bs) (r : Bool) (hr : (⟨n, d⟩ : BlobS).right = r) {W0 w : World} {K : Know} {L : List Res} (h : St W0 w K L) :
  Calls Tryz.prog 44 #[.agg #[.bool n, .string (bb d)]] w fun en w' => en = .returned (.bool (!r)) ∧ St W0 w' K L := by
 have hr : (n && !d.isEmpty) = !r := by
  unfold BlobS.right at hr
  cases n <;> cases r <;> cases d <;> simp_all
 have H := Lib.hid (h.alloc (.cells #[.bool n, .string (bb d)] 62))
 clear h
 cases n <;> cases d
 all_goals
  have HR := Lib.hid hr
  clear hr
  go_enter Tryz.func44, Tryz.ntmps44
  go_wp2
  go_ret
  exact ⟨ret_bool HR.out, H.out⟩
def badR (a b c : Bool) : Int := if a && b && c then 0 else 4

set_option maxHeartbeats 1000000 in
set_option maxRecDepth 100000 in
theorem ref07_right (x : RecS) (v : Value) (e : Int) (he : recOk x = e) (hl : x.hdrs.length ≤ 9223372036854775807) {W0 w : World} {K : Know} {L : List Res} (hk : K.has (Know.flat RHdr v 3 x.hdrs)) (h : St W0 w K L) :
   Calls Tryz.prog 23 #[.agg #[.int .i64 x.time, .int .i64 x.off, .bool x.key.null, .string (bb x.key.data), .bool x.val.null, .string (bb x.val.data), v]] w fun en w' => en = .returned (.int .i64 e) ∧ St W0 w' K L := by
 obtain ⟨wA, hwA⟩ : ∃ b, w.heap.size = b := ⟨_, rfl⟩
 have h0 := h.allocRaw #[.int .i64 x.time, .int .i64 x.off, .bool x.key.null, .string (bb x.key.data), .bool x.val.null, .string (bb x.val.data), v] 65
 rw [hwA] at h0
 have H := Lib.hid h0
 have HK := Lib.hid hk
 have HL := Lib.hid hl
 clear h hk hl h0
 unfold recOk at he
 by_cases h1 : x.off < 0
 · rw [if_pos (.inl h1)] at he
   subst he
   go_enter Tryz.func23, Tryz.ntmps23
   go_wp2
   go_ret
   exact ⟨rfl, H.out.drop⟩
 by_cases h2 : 2147483647 < x.off
 · rw [if_pos (.inr h2)] at he
   subst he
   go_enter Tryz.func23, Tryz.ntmps23
   go_wp2
   go_ret
   exact ⟨rfl, H.out.drop⟩
 rw [if_neg (by omega)] at he
 have he : badR x.key.right x.val.right (hright x.hdrs) = e := he
 obtain ⟨r1, hr1⟩ : ∃ r, x.key.right = r := ⟨_, rfl⟩
 obtain ⟨r2, hr2⟩ : ∃ r, x.val.right = r := ⟨_, rfl⟩
 obtain ⟨r3, hr3⟩ : ∃ r, hright x.hdrs = r := ⟨_, rfl⟩
 rw [hr1, hr2, hr3] at he
 have E1 := Lib.hid hr1
 have E2 := Lib.hid hr2
 have E3 := Lib.hid hr3
 clear hr1 hr2 hr3
 have t1 : True := trivial
 have t2 : True := trivial
 obtain ⟨ac0, ac1, ac2, ac3, ac4, ac5, ac6, af0, af1, af2, af3, af4, af5, af6⟩ := raw7 (b := wA) H.out
 cases r1 <;> cases r2 <;> cases r3
 all_goals
   subst he
   go_enter Tryz.func23, Tryz.ntmps23
   go_wp2_with (first
    | (go_at_call 44; have _t := t1; clear _t; refine (ref07_odd _ _ _ E1.out H.out).mono ?_; rintro e wn ⟨rfl, h⟩; replace H := Lib.hid h; clear h t1; (first | (obtain ⟨ac0, ac1, ac2, ac3, ac4, ac5, ac6, af0, af1, af2, af3, af4, af5, af6⟩ := raw7 (b := wA) H.out) | (obtain ⟨ac0, ac1, ac2, ac3, ac4, ac5, ac6, af0, af1, af2, af3, af4, af5, af6⟩ := raw7 (b := wA) H.out.p1) | (obtain ⟨ac0, ac1, ac2, ac3, ac4, ac5, ac6, af0, af1, af2, af3, af4, af5, af6⟩ := raw7 (b := wA) H.out.p2) | (obtain ⟨ac0, ac1, ac2, ac3, ac4, ac5, ac6, af0, af1, af2, af3, af4, af5, af6⟩ := raw7 (b := wA) H.out.p3)))
    | (go_at_call 44; have _t := t2; clear _t; refine (ref07_odd _ _ _ E2.out H.out).mono ?_; rintro e wn ⟨rfl, h⟩; replace H := Lib.hid h; clear h t2; (first | (obtain ⟨ac0, ac1, ac2, ac3, ac4, ac5, ac6, af0, af1, af2, af3, af4, af5, af6⟩ := raw7 (b := wA) H.out) | (obtain ⟨ac0, ac1, ac2, ac3, ac4, ac5, ac6, af0, af1, af2, af3, af4, af5, af6⟩ := raw7 (b := wA) H.out.p1) | (obtain ⟨ac0, ac1, ac2, ac3, ac4, ac5, ac6, af0, af1, af2, af3, af4, af5, af6⟩ := raw7 (b := wA) H.out.p2) | (obtain ⟨ac0, ac1, ac2, ac3, ac4, ac5, ac6, af0, af1, af2, af3, af4, af5, af6⟩ := raw7 (b := wA) H.out.p3)))
    | (go_at_call 45; refine (ref06_right v x.hdrs HL.out HK.out H.out).mono ?_; rw [E3.out]; rintro e wn ⟨rfl, h⟩; replace H := Lib.hid h; clear h))
   go_ret
   exact ⟨rfl, H.out.drop⟩
theorem dropNext {l a r : Bs} {n : Nat} (h : l.drop n = a ++ r) : l.drop (n + a.length) = r := by rw [← List.drop_drop, h, List.drop_left]
theorem reInner_back (x : RecS) (hx : x.R) (ho : recOk x = 0) (hs : x.sum ≤ 1000000) : reInner (recF x) = .ok x := by
 obtain ⟨ho, hr⟩ := recOk_zero ho
 unfold RecS.allRight at hr
 rw [Bool.and_eq_true, Bool.and_eq_true] at hr
 unfold RecS.sum at hs
 have d1 : (recF x).drop 1 = encI x.time ++ (encI x.off ++ (encV x.key ++ (encV x.val ++ encHs x.hdrs))) := rfl
 have d2 := dropNext d1
 have d3 := dropNext d2
 have d4 := dropNext d3
 have d5 := dropNext d4
 have h0 : getIntN 1 (recF x) = .ok (0, 1) := by
  unfold getIntN
  rw [if_neg (by unfold recF; simp)]
  rfl
 have h1 : vgetL ((recF x).drop 1) = .ok (x.time, (encI x.time).length) := by rw [d1]; exact vgetL_put _ hx.1.1 hx.1.2 _
 have h2 : vgetI ((recF x).drop (1 + (encI x.time).length)) = .ok (x.off, (encI x.off).length) := by rw [d2]; exact vgetI_put _ (by omega) (by omega) _
 have h3 := revaried_back x.key hr.1.1 (by omega) (encV x.val ++ encHs x.hdrs)
 have h4 := revaried_back x.val hr.1.2 (by omega) (encHs x.hdrs)
 have h5' := reHdrs_back x.hdrs [] hr.2 (by omega)
 rw [List.append_nil] at h5'
 have h5 : reHdrs ((recF x).drop (1 + (encI x.time).length + (encI x.off).length + (encV x.key).length + (encV x.val).length)) = .ok (x.hdrs, (encHs x.hdrs).length) := by rw [d5]; exact h5'
 rw [← d3] at h3
 rw [← d4] at h4
 have hl : 1 + (encI x.time).length + (encI x.off).length + (encV x.key).length + (encV x.val).length + (encHs x.hdrs).length = (recF x).length := by
  unfold recF
  simp only [List.length_append, List.length_cons, List.length_nil]
  omega
 unfold reInner
 rw [h0]
 simp only [if_true]
 rw [h1]
 simp only
 rw [h2]
 simp only
 rw [if_neg (by omega), h3]
 simp only
 rw [h4]
 simp only
 rw [h5]
 simp only
 rw [if_pos hl]
def Know.all {α : Type} (l : List α) (k : α → Know) : Know := ⟨fun w F => ∀ x ∈ l, (k x).p w F, fun w w' F h hs hk x hx => (k x).keep w w' F (h x hx) hs hk, fun w F F' h hs x hx => (k x).mono w F F' (h x hx) hs⟩
def RRec (cs : List Value) (x : RecS × Value) : Prop := cs = [.int .i64 x.1.time, .int .i64 x.1.off, .bool x.1.key.null, .string (bb x.1.key.data), .bool x.1.val.null, .string (bb x.1.val.data), x.2]
def rcells (x : RecS × Value) : List Value := [.int .i64 x.1.time, .int .i64 x.1.off, .bool x.1.key.null, .string (bb x.1.key.data), .bool x.1.val.null, .string (bb x.1.val.data), x.2]
def Know.recs (v : Value) (l : List (RecS × Value)) : Know := (Know.flat RRec v 7 l).and (Know.all l fun x => Know.flat RHdr x.2 3 x.1.hdrs)
theorem recs_flat {K : Know} {v : Value} {l : List (RecS × Value)} (h : K.has (Know.recs v l)) : K.has (Know.flat RRec v 7 l) := fun w F x => (h w F x).1
theorem recs_hdrs {K : Know} {v : Value} {l : List (RecS × Value)} (h : K.has (Know.recs v l)) {x : RecS × Value} (hx : x ∈ l) : K.has (Know.flat RHdr x.2 3 x.1.hdrs) := fun w F y => (h w F y).2 x hx
theorem recs_form {W0 w : World} {K : Know} {L : List Res} {v : Value} {l : List (RecS × Value)} (hk : K.has (Know.recs v l)) (h : St W0 w K L) : ∃ q cap, v = .slice q l.length cap := by
 obtain ⟨F, hF, _⟩ := h.get
 obtain ⟨q, cap, hv, _⟩ := (recs_flat hk _ _ hF).at
 exact ⟨q, cap, hv⟩
theorem recs_at {W0 w : World} {K : Know} {L : List Res} {q : Option Addr} {n cap : Nat} {l : List (RecS × Value)} (hk : K.has (Know.recs (.slice q n cap) l)) (h : St W0 w K L) (h0 : 0 < l.length) : ∃ b off, q = some ⟨b, off, none⟩ := by
 obtain ⟨F, hF, _⟩ := h.get
 obtain ⟨q2, cap2, hv, hr⟩ := (recs_flat hk _ _ hF).at
 obtain ⟨b, off, hq, _⟩ := hr h0
 simp at hv
 exact ⟨b, off, hv.1.trans hq⟩
theorem recs_cell {W0 w : World} {K : Know} {L : List Res} {b off n cap : Nat} {l : List (RecS × Value)} (hk : K.has (Know.recs (.slice (some ⟨b, off, none⟩) n cap) l)) (h : St W0 w K L) (i : Nat) (hi : i < l.length) (x : RecS × Value) (hx : l[i] = x) :
  w.cell? ⟨b, off + (i * 7), none⟩ = some (.int .i64 x.1.time) ∧ w.cell? ⟨b, off + (i * 7 + 1), none⟩ = some (.int .i64 x.1.off) ∧ w.cell? ⟨b, off + (i * 7 + 2), none⟩ = some (.bool x.1.key.null) ∧ w.cell? ⟨b, off + (i * 7 + 3), none⟩ = some (.string (bb x.1.key.data)) ∧ w.cell? ⟨b, off + (i * 7 + 4), none⟩ = some (.bool x.1.val.null) ∧ w.cell? ⟨b, off + (i * 7 + 5), none⟩ = some (.string (bb x.1.val.data)) ∧ w.cell? ⟨b, off + (i * 7 + 6), none⟩ = some (x.2) := by
 subst hx
 obtain ⟨F, hF, _⟩ := h.get
 obtain ⟨q2, cap2, hv, hr⟩ := (recs_flat hk _ _ hF).at
 obtain ⟨b2, off2, hq, hc⟩ := hr (by omega)
 rw [hq] at hv
 simp at hv
 obtain ⟨⟨rfl, rfl⟩, _, _⟩ := hv
 obtain ⟨cs, _, hR, hcs⟩ := hc i hi
 unfold RRec at hR
 subst hR
 exact ⟨hcs 0 _ rfl, hcs 1 _ rfl, hcs 2 _ rfl, hcs 3 _ rfl, hcs 4 _ rfl, hcs 5 _ rfl, hcs 6 _ rfl⟩
def encAll (l : List (RecS × Value)) : Bs := l.flatMap fun x => encR x.1
theorem encAll_snoc (l : List (RecS × Value)) (x : RecS × Value) : encAll (l ++ [x]) = encAll l ++ encR x.1 := by unfold encAll; simp
theorem encAll_take (l : List (RecS × Value)) (k : Nat) (h : k < l.length) : encAll (l.take (k + 1)) = encAll (l.take k) ++ encR l[k].1 := by rw [List.take_succ_eq_append_getElem h, encAll_snoc]
theorem reRec_back (x : RecS) (hx : x.R) (ho : recOk x = 0) (hs : x.sum ≤ 1000000) (r : Bs) : reRec (encR x ++ r) = .ok (x, (encR x).length) := by
 have hle := recF_le x hx hs
 have h1 := revaried_back ⟨false, recF x⟩ rfl (by simp only; omega) r
 unfold reRec encR
 rw [h1]
 simp only [Bool.false_eq_true, if_false]
 rw [reInner_back x hx ho hs]
def FitB (l : List (RecS × Value)) : Prop := ∀ x ∈ l, x.1.R ∧ HFit x.1.hdrs ∧ x.1.sum ≤ 1000000
theorem sum_hdrs {x : RecS} (h : x.sum ≤ 1000000) : x.hdrs.length ≤ 1000000 := by have := hsum_le x.hdrs; unfold RecS.sum at h; omega
theorem sum_data {x : RecS} (h : x.sum ≤ 1000000) : x.key.data.length ≤ 140737488355328 ∧ x.val.data.length ≤ 140737488355328 := by unfold RecS.sum at h; omega
theorem drop_recs (l : List (RecS × Value)) (k : Nat) (h : k < l.length) (x : RecS) (hx : l[k].1 = x) : (l.map (·.1)).drop k = x :: (l.map (·.1)).drop (k + 1) := by
 subst hx
 rw [List.drop_eq_getElem_cons (by simpa using h), List.getElem_map]
theorem rowsC_cons (first last : Int) (r : RecS) (t : List RecS) (ah g : Int) : rowsC first last (r :: t) ah g = if r.off ≤ ah ∨ last < r.off then .error 13 else if r.time < -first ∨ 9223372036854775807 - first < r.time then .error 11 else rowsC first last t r.off (max g (first + r.time)) := rfl
theorem rc_cell_tmp {P : Program} {fn : Func} {p t : Tmp} {ty : TypeId} (h : fn.results = #[.cell p ty, .tmp t]) (tmps : Array Value) (w : World) (b : Nat) (cs : List Value) (d : TypeDesc)
    (hp : tmps.getD p undef = .pointer (some ⟨b, 0, none⟩)) (hc : w.rangeAt b 0 cs) (hu : P.underlying ty = some d) (hd : d.isRow = true) (hi : (P.info? ty).map (·.size) = some cs.length) :
    (results fn tmps).run P w = .ok (.tuple #[.agg cs.toArray, tmps.getD t undef]) w := by
  have hp' : tmps[p]?.getD undef = .pointer (some ⟨b, 0, none⟩) := by simpa using hp
  simp [results, h, hp', asAddr, run_loadVar_mid w b 0 ty cs d hc hu hd hi]
theorem rc_cell_only {P : Program} {fn : Func} {p : Tmp} {ty : TypeId} (h : fn.results = #[.cell p ty]) (tmps : Array Value) (w : World) (b : Nat) (cs : List Value) (d : TypeDesc)
    (hp : tmps.getD p undef = .pointer (some ⟨b, 0, none⟩)) (hc : w.rangeAt b 0 cs) (hu : P.underlying ty = some d) (hd : d.isRow = true) (hi : (P.info? ty).map (·.size) = some cs.length) :
    (results fn tmps).run P w = .ok (.agg cs.toArray) w := by
  have hp' : tmps[p]?.getD undef = .pointer (some ⟨b, 0, none⟩) := by simpa using hp
  simp [results, h, hp', asAddr, run_loadVar_mid w b 0 ty cs d hc hu hd hi]
theorem rc_range {W0 w : World} {K : Know} {L : List Res} {b : Nat} {c : List Value} {T : TypeId} (h : St W0 w K (.raw b c.toArray T :: L)) : w.rangeAt b 0 c := by
 intro j v hv
 rw [Nat.zero_add, h.rawCell j]
 simpa using hv
theorem St.sets12 {W0 w : World} {K : Know} {L : List Res} {b : Nat} {T : TypeId} {a0 a1 a2 a3 a4 a5 a6 a7 a8 a9 a10 a11 : Value} (v0 v1 v2 v3 v4 v5 v6 v7 v8 v9 v10 v11 : Value) (h : St W0 w K (.raw b #[a0, a1, a2, a3, a4, a5, a6, a7, a8, a9, a10, a11] T :: L)) : St W0 ((((((((((((w.setCell ⟨b, 0, none⟩ v0).setCell ⟨b, 1, none⟩ v1).setCell ⟨b, 2, none⟩ v2).setCell ⟨b, 3, none⟩ v3).setCell ⟨b, 4, none⟩ v4).setCell ⟨b, 5, none⟩ v5).setCell ⟨b, 6, none⟩ v6).setCell ⟨b, 7, none⟩ v7).setCell ⟨b, 8, none⟩ v8).setCell ⟨b, 9, none⟩ v9).setCell ⟨b, 10, none⟩ v10).setCell ⟨b, 11, none⟩ v11) K (.raw b #[v0, v1, v2, v3, v4, v5, v6, v7, v8, v9, v10, v11] T :: L) := by
 have h : St W0 _ K (.raw b #[v0, a1, a2, a3, a4, a5, a6, a7, a8, a9, a10, a11] T :: L) := h.rawSet 0 v0
 have h : St W0 _ K (.raw b #[v0, v1, a2, a3, a4, a5, a6, a7, a8, a9, a10, a11] T :: L) := h.rawSet 1 v1
 have h : St W0 _ K (.raw b #[v0, v1, v2, a3, a4, a5, a6, a7, a8, a9, a10, a11] T :: L) := h.rawSet 2 v2
 have h : St W0 _ K (.raw b #[v0, v1, v2, v3, a4, a5, a6, a7, a8, a9, a10, a11] T :: L) := h.rawSet 3 v3
 have h : St W0 _ K (.raw b #[v0, v1, v2, v3, v4, a5, a6, a7, a8, a9, a10, a11] T :: L) := h.rawSet 4 v4
 have h : St W0 _ K (.raw b #[v0, v1, v2, v3, v4, v5, a6, a7, a8, a9, a10, a11] T :: L) := h.rawSet 5 v5
 have h : St W0 _ K (.raw b #[v0, v1, v2, v3, v4, v5, v6, a7, a8, a9, a10, a11] T :: L) := h.rawSet 6 v6
 have h : St W0 _ K (.raw b #[v0, v1, v2, v3, v4, v5, v6, v7, a8, a9, a10, a11] T :: L) := h.rawSet 7 v7
 have h : St W0 _ K (.raw b #[v0, v1, v2, v3, v4, v5, v6, v7, v8, a9, a10, a11] T :: L) := h.rawSet 8 v8
 have h : St W0 _ K (.raw b #[v0, v1, v2, v3, v4, v5, v6, v7, v8, v9, a10, a11] T :: L) := h.rawSet 9 v9
 have h : St W0 _ K (.raw b #[v0, v1, v2, v3, v4, v5, v6, v7, v8, v9, v10, a11] T :: L) := h.rawSet 10 v10
 have h : St W0 _ K (.raw b #[v0, v1, v2, v3, v4, v5, v6, v7, v8, v9, v10, v11] T :: L) := h.rawSet 11 v11
 exact h
def endOf (b : BatS) : Int × Int × Int × Int × Int × Bool :=
  if b.ctl = true ∧ batErr b = 0 then match b.recs with
    | x :: _ => (b.prod, b.epoch, (ctlOf x).1, b.first + x.time, (ctlOf x).2.1, true)
    | [] => (0, 0, 0, 0, 0, false)
  else (0, 0, 0, 0, 0, false)
theorem wpl_appstr_st {W0 w : World} {K : Know} {L : List Res} {ops : Array Oper} {rest : List Oper} {o : Oper} {a : Act} {Q : Exit → Act → World → Prop} (hgd : o.guard = none) (sl x : Operand)
    (ho : o.op = .call { callee := .builtin .append, args := #[sl, x], argTypes := #[22, 9] })
    (v : Value) (n : Nat) (r s : Bs) (hn : n = r.length) (hs : a.eval sl = v) (hst : St W0 w K (.row v 5 1 n (bvals r) :: L)) (hx : a.eval x = .string (bb s)) (hbytes : n + s.length ≤ 140737488355328)
    (h : ∀ v' w', St W0 w' K (.row v' 5 1 (r ++ s).length (bvals (r ++ s)) :: L) → wpList Tryz.prog ops Q rest (a.put o.dst v') w') : wpList Tryz.prog ops Q (o :: rest) a w := by
  obtain ⟨i0, hi, hz0, hz1, hz2⟩ := info_parts info_u8'
  subst hn
  refine wpl_app_str hgd sl x 22 9 ho 5 i0 Tryz.underlying22 Tryz.underlying9 hi hz0 hz1 hz2 v _ _ hs hst.rowGet (bb s) hx hbytes ?_
  intro v' w1 h1 h2 h3
  rw [strCells_bb, ← bvals_append] at h1
  have e : r.length + (bb s).size = (r ++ s).length := by rw [List.length_append]; rfl
  rw [e] at h1
  exact h v' w1 (hst.rowGrown h1 h2 h3)
theorem St.rowCut {W0 w : World} {K : Know} {L : List Res} {g cap n m : Nat} {T : TypeId} {xs : List Value} (h : St W0 w K (.row (.slice (some ⟨g, 0, none⟩) n cap) T 1 n xs :: L)) (hm : m ≤ n) : St W0 w K (.row (.slice (some ⟨g, 0, none⟩) m cap) T 1 m (xs.take m) :: L) := by
 refine h.map fun S hS => ?_
 obtain ⟨S1, S2, ⟨⟨a1, a2⟩, h2⟩, r⟩ := hS
 refine ⟨S1, S2, ⟨⟨?_, ?_⟩, h2⟩, r⟩
 · rw [List.length_take]; omega
 · rcases a2 with ⟨a3, _⟩ | ⟨g2, cap2, cur, e1, e2, e3, e4, e5, e6, e7⟩
   · cases a3
   · simp at e1
     obtain ⟨rfl, rfl⟩ := e1
     refine .inr ⟨g, cap, cur, rfl, e2, e3, by omega, e5, e6, ?_⟩
     rw [← e7, List.take_take]
     congr 1
     omega
theorem St.rowTextAt {W0 w : World} {K : Know} {L : List Res} {g cap n : Nat} {s : Bs} (h : St W0 w K (.row (.slice (some ⟨g, 0, none⟩) n cap) 5 1 n (bvals s) :: L)) (pos k c : Nat) (hn : n = s.length) (hk : pos + k ≤ s.length) :
   (convert 22 9 (.slice (some ⟨g, pos, none⟩) k c)).run Tryz.prog w = .ok (.string (bb ((s.drop pos).take k))) w := by
 have hl : ((s.drop pos).take k).length = k := by rw [List.length_take, List.length_drop]; omega
 have := run_convert_bytes_back (P := Tryz.prog) w 22 9 5 ⟨g, pos, none⟩ c ((s.drop pos).take k) Tryz.underlying22 Tryz.underlying5 Tryz.underlying9 (fun j hj => ?_)
 · rw [hl] at this; exact this
 · rw [hl] at hj
   have ha : (⟨g, pos, none⟩ : Addr).add j = ⟨g, pos + j, none⟩ := by unfold Addr.add; split <;> simp_all
   rw [ha, h.rowCell (pos + j) (by omega)]
   have hb : pos + j < s.length := by omega
   unfold bvals
   rw [List.getElem?_map, List.getElem?_eq_getElem hb]
   simp
theorem conv_nil0 (w : World) : (convert 22 9 (.slice none 0 0)).run Tryz.prog w = .ok (.string ⟨#[]⟩) w := owns_text (s := []) (World.ownsRow_nil _ _ _ _)
theorem conv_zeroN (w : World) (a : Addr) (c : Nat) : (convert 22 9 (.slice (some a) 0 c)).run Tryz.prog w = .ok (.string ⟨#[]⟩) w :=
 run_convert_bytes_back (P := Tryz.prog) w 22 9 5 a c [] Tryz.underlying22 Tryz.underlying5 Tryz.underlying9 (fun j hj => by simp at hj)
theorem rc_cell_tmp3S {P : Program} {fn : Func} {p t u : Tmp} {ty : TypeId} (h : fn.results = #[.cell p ty, .tmp t, .tmp u]) (tmps : Array Value) (w : World) (b : Nat) (cs : List Value) (d : TypeDesc)
    (hp : tmps.getD p undef = .pointer (some ⟨b, 0, none⟩)) (hc : w.rangeAt b 0 cs) (hu : P.underlying ty = some d) (hd : d.isRow = true) (hi : (P.info? ty).map (·.size) = some cs.length) :
    (results fn tmps).run P w = .ok (.tuple #[.agg cs.toArray, tmps.getD t undef, tmps.getD u undef]) w := by
  have hp' : tmps[p]?.getD undef = .pointer (some ⟨b, 0, none⟩) := by simpa using hp
  simp [results, h, hp', asAddr, run_loadVar_mid w b 0 ty cs d hc hu hd hi]
theorem s_errS (p : Nat) (i : InS) (e : Int) (hx : i.err = e) {W0 w : World} {K : Know} {L : List Res} (h : St W0 w K (.inp p i :: L)) :
  Calls Tryz.prog 43 #[inPtr p] w fun en w' => en = .returned (.int .i64 e) ∧ St W0 w' K (.inp p i :: L) := by
 subst hx; exact s_err p i h
theorem elem_rec : ElemT Tryz.prog 65 (.agg #[.int .i64 0, .int .i64 0, .bool false, .string ⟨#[]⟩, .bool false, .string ⟨#[]⟩, .slice none 0 0]) 7 88 := elemT_of (by kernel_rfl) rfl (by decide)
def consE (x : RecS) (r : Except Int (List RecS)) : Except Int (List RecS) := match r with | .ok t => .ok (x :: t) | .error e => .error e
def unp : Nat → InS → Except Int (List RecS)
  | 0, i => if i.left = 0 then .ok [] else .error 10
  | n + 1, i => if i.left = 0 then .error 10 else if i.record.2.err = 0 then consE i.record.1 (unp n i.record.2) else .error i.record.2.err
def preU (acc : List RecS) (r : Except Int (List RecS)) : Except Int (List RecS) := match r with | .ok t => .ok (acc ++ t) | .error e => .error e
theorem preU_nil (r : Except Int (List RecS)) : preU [] r = r := by cases r <;> rfl
theorem preU_snoc (acc : List RecS) (x : RecS) (r : Except Int (List RecS)) : preU (acc ++ [x]) r = preU acc (consE x r) := by
 cases r with
 | error e => rfl
 | ok t => simp [preU, consE]
theorem s_leftQ (p : Nat) (i : InS) (n : Nat) (hx : i.left = n) {W0 w : World} {K : Know} {L : List Res} (h : St W0 w K (.inp p i :: L)) :
  Calls Tryz.prog 95 #[inPtr p] w fun en w' => en = .returned (.int .i64 n) ∧ St W0 w' K (.inp p i :: L) := by
 subst hx; exact s_left p i h
theorem s_errE (p : Nat) (i : InS) (e : Int) (hx : i.err = e) {W0 w : World} {K : Know} {L : List Res} (h : St W0 w K (.inp p i :: L)) :
  Calls Tryz.prog 43 #[inPtr p] w fun en w' => en = .returned (.int .i64 e) ∧ St W0 w' K (.inp p i :: L) := by
 subst hx; exact s_err p i h

end Go.Proofs.YtngojlinfdokpaaGreat
