/- A text. -/
import Derived.Test.YtngojlinfdokpaaCtl1
import Derived.Test.YtngojlinfdokpaaCtl2
import Derived.Test.YtngojlinfdokpaaRec1
namespace Go.Proofs.Ytngojlinfdokpaa
open Go.RowKit

def ctlRead (n1 n2 : Bool) (d1 d2 : Bs) (many o : Int) : Int × Int × Int :=
  if n1 = true ∨ n2 = true ∨ many ≠ 0 ∨ o ≠ 0 then (0, 0, 12)
  else if (verRd 2 way 12 d1).2 ≠ 0 then (0, 0, (verRd 2 way 12 d1).2)
  else if (verRd 4 time0 11 d2).2 ≠ 0 then (0, 0, (verRd 4 time0 11 d2).2)
  else ((verRd 2 way 12 d1).1, (verRd 4 time0 11 d2).1, 0)

set_option maxHeartbeats 1000000 in
set_option maxRecDepth 100000 in
theorem ctl_read (t o : Int) (n1 n2 : Bool) (d1 d2 : Bs) (q : Option Addr) (ln cap : Nat) (r : Int × Int × Int) (hr : ctlRead n1 n2 d1 d2 ln o = r) (hd1 : d1.length ≤ 140737488355328) (hd2 : d2.length ≤ 140737488355328) {W0 w : World} {K : Know} {L : List Res} (h : St W0 w K L) :
   Calls Try.prog 25 #[.agg #[.int .i64 t, .int .i64 o, .bool n1, .string (bb d1), .bool n2, .string (bb d2), (.slice q ln cap)]] w fun en w' => en = .returned (.tuple #[.int .i64 r.1, .int .i64 r.2.1, .int .i64 r.2.2]) ∧ St W0 w' K L := by
 have h0 := h.allocRaw #[.int .i64 t, .int .i64 o, .bool n1, .string (bb d1), .bool n2, .string (bb d2), (.slice q ln cap)] 63
 obtain ⟨wA, hwA⟩ : ∃ b, w.heap.size = b := ⟨_, rfl⟩
 rw [hwA] at h0
 have H := Lib.hid h0
 have HD1 := Lib.hid hd1
 have HD2 := Lib.hid hd2
 obtain ⟨ac0, ac1, ac2, ac3, ac4, ac5, ac6, af0, af1, af2, af3, af4, af5, af6⟩ := raw7 (b := wA) (H.out)
 clear h h0 hd1 hd2
 unfold ctlRead at hr
 by_cases g1 : n1 = true
 · rw [if_pos (.inl g1)] at hr
   subst hr g1
   go_enter Try.func25, Try.ntmps25
   go_wp2
   go_ret3
   exact ⟨rfl, H.out.drop⟩
 by_cases g2 : n2 = true
 · rw [if_pos (.inr (.inl g2))] at hr
   subst hr g2
   obtain rfl : n1 = false := by simpa using g1
   clear g1
   go_enter Try.func25, Try.ntmps25
   go_wp2
   go_ret3
   exact ⟨rfl, H.out.drop⟩
 obtain rfl : n1 = false := by simpa using g1
 obtain rfl : n2 = false := by simpa using g2
 clear g1 g2
 by_cases g3 : (ln : Int) ≠ 0
 · rw [if_pos (.inr (.inr (.inl g3)))] at hr
   subst hr
   have b1 : ((ln : Int) != 0) = true := by simpa using g3
   have b2 : decide (0 < ln) = true := decide_eq_true (by omega)
   have b3 : decide ((0 : Int) < ln) = true := decide_eq_true (by omega)
   have b4 : 0 < ln := by omega
   clear g3
   go_enter Try.func25, Try.ntmps25
   go_wp2
   go_ret3
   exact ⟨rfl, H.out.drop⟩
 obtain rfl : ln = 0 := by omega
 clear g3
 by_cases g4 : o ≠ 0
 · rw [if_pos (.inr (.inr (.inr g4)))] at hr
   subst hr
   have b1 : (o != 0) = true := by simpa using g4
   clear g4
   go_enter Try.func25, Try.ntmps25
   go_wp2
   go_ret3
   exact ⟨rfl, H.out.drop⟩
 obtain rfl : o = 0 := by simpa using g4
 clear g4
 rw [if_neg (by simp)] at hr
 obtain ⟨a, ha⟩ : ∃ a, verRd 2 way 12 d1 = a := ⟨_, rfl⟩
 obtain ⟨b, hb⟩ : ∃ b, verRd 4 time0 11 d2 = b := ⟨_, rfl⟩
 rw [ha, hb] at hr
 have EA := Lib.hid ha
 have EB := Lib.hid hb
 clear ha hb
 by_cases g5 : a.2 ≠ 0
 · rw [if_pos g5] at hr
   subst hr
   have b1 : (a.2 != 0) = true := by simpa using g5
   clear g5
   go_enter Try.func25, Try.ntmps25
   go_wp2_with (first
    | (go_at_call 37; refine (ctl_readKey d1 a EA.out HD1.out H.out).mono ?_; rintro e wn ⟨rfl, h⟩; replace H := Lib.hid h; clear h; obtain ⟨ac0, ac1, ac2, ac3, ac4, ac5, ac6, af0, af1, af2, af3, af4, af5, af6⟩ := raw7 (b := wA) (H.out)))
   go_ret3
   exact ⟨rfl, H.out.drop⟩
 rw [if_neg g5] at hr
 have b1 : (a.2 != 0) = false := by simpa using g5
 clear g5
 by_cases g6 : b.2 ≠ 0
 · rw [if_pos g6] at hr
   subst hr
   have b2 : (b.2 != 0) = true := by simpa using g6
   clear g6
   go_enter Try.func25, Try.ntmps25
   go_wp2_with (first
    | (go_at_call 37; refine (ctl_readKey d1 a EA.out HD1.out H.out).mono ?_; rintro e wn ⟨rfl, h⟩; replace H := Lib.hid h; clear h; obtain ⟨ac0, ac1, ac2, ac3, ac4, ac5, ac6, af0, af1, af2, af3, af4, af5, af6⟩ := raw7 (b := wA) (H.out))
    | (go_at_call 38; refine (ctl_readValue d2 b EB.out HD2.out H.out).mono ?_; rintro e wn ⟨rfl, h⟩; replace H := Lib.hid h; clear h; obtain ⟨ac0, ac1, ac2, ac3, ac4, ac5, ac6, af0, af1, af2, af3, af4, af5, af6⟩ := raw7 (b := wA) (H.out)))
   go_ret3
   exact ⟨rfl, H.out.drop⟩
 rw [if_neg g6] at hr
 subst hr
 have b2 : (b.2 != 0) = false := by simpa using g6
 clear g6
 go_enter Try.func25, Try.ntmps25
 go_wp2_with (first
   | (go_at_call 37; refine (ctl_readKey d1 a EA.out HD1.out H.out).mono ?_; rintro e wn ⟨rfl, h⟩; replace H := Lib.hid h; clear h; obtain ⟨ac0, ac1, ac2, ac3, ac4, ac5, ac6, af0, af1, af2, af3, af4, af5, af6⟩ := raw7 (b := wA) (H.out))
   | (go_at_call 38; refine (ctl_readValue d2 b EB.out HD2.out H.out).mono ?_; rintro e wn ⟨rfl, h⟩; replace H := Lib.hid h; clear h; obtain ⟨ac0, ac1, ac2, ac3, ac4, ac5, ac6, af0, af1, af2, af3, af4, af5, af6⟩ := raw7 (b := wA) (H.out)))
 go_ret3
 exact ⟨rfl, H.out.drop⟩

end Go.Proofs.Ytngojlinfdokpaa
