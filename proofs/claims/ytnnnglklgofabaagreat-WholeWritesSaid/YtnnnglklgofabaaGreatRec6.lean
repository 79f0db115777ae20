/- A text. -/
import Derived.Test.YtnnnglklgofabaaGreatRec5
import Derived.Test.YtnnnglklgofabaaGreatL06W
namespace Go.Proofs.YtnnnglklgofabaaGreat
open Go.RowKit

set_option maxHeartbeats 1000000 in
set_option maxRecDepth 100000 in
theorem ref07_odd (n : Bool) (d : Bs) (r : Bool) (hr : (⟨n, d⟩ : BlobS).right = r) {W0 w : World} {K : Know} {L : List Res} (h : St W0 w K L) :
  Calls Tryz.prog 133 #[.agg #[.bool n, .string (bb d)]] w fun en w' => en = .returned (.bool (!r)) ∧ St W0 w' K L := by
 have hr : (n && !d.isEmpty) = !r := by
  unfold BlobS.right at hr
  cases n <;> cases r <;> cases d <;> simp_all
 have H := Lib.hid (h.alloc (.cells #[.bool n, .string (bb d)] 23)); clear h
 cases n <;> cases d
 all_goals
  have HR := Lib.hid hr; clear hr; go_enter Tryz.func133, Tryz.ntmps133; go_wp2; go_ret; exact ⟨ret_bool HR.out, H.out⟩
def badR (a b c : Bool) : Int := if a && b && c then 0 else 4

set_option maxHeartbeats 1000000 in
set_option maxRecDepth 100000 in
theorem ref07_right (x : RecS) (v : Value) (e : Int) (he : recOk x = e) (hl : x.hdrs.length ≤ 9223372036854775807) {W0 w : World} {K : Know} {L : List Res} (hk : K.has (Know.flat RHdr v 3 x.hdrs)) (h : St W0 w K L) :
   Calls Tryz.prog 102 #[.agg #[.int .i64 x.time, .int .i64 x.off, .bool x.key.null, .string (bb x.key.data), .bool x.val.null, .string (bb x.val.data), v]] w fun en w' => en = .returned (.int .i64 e) ∧ St W0 w' K L := by
 obtain ⟨wA, hwA⟩ : ∃ b, w.heap.size = b := ⟨_, rfl⟩; have h0 := h.allocRaw #[.int .i64 x.time, .int .i64 x.off, .bool x.key.null, .string (bb x.key.data), .bool x.val.null, .string (bb x.val.data), v] 119; rw [hwA] at h0; have H := Lib.hid h0; have HK := Lib.hid hk; have HL := Lib.hid hl; clear h hk hl h0; unfold recOk at he
 by_cases h1 : x.off < 0
 · rw [if_pos (.inl h1)] at he; subst he; go_enter Tryz.func102, Tryz.ntmps102; go_wp2; go_ret; exact ⟨rfl, H.out.drop⟩
 by_cases h2 : 2147483647 < x.off
 · rw [if_pos (.inr h2)] at he; subst he; go_enter Tryz.func102, Tryz.ntmps102; go_wp2; go_ret; exact ⟨rfl, H.out.drop⟩
 rw [if_neg (by omega)] at he; have he : badR x.key.right x.val.right (hright x.hdrs) = e := he; obtain ⟨r1, hr1⟩ : ∃ r, x.key.right = r := ⟨_, rfl⟩; obtain ⟨r2, hr2⟩ : ∃ r, x.val.right = r := ⟨_, rfl⟩; obtain ⟨r3, hr3⟩ : ∃ r, hright x.hdrs = r := ⟨_, rfl⟩; rw [hr1, hr2, hr3] at he; have E1 := Lib.hid hr1; have E2 := Lib.hid hr2; have E3 := Lib.hid hr3; clear hr1 hr2 hr3; have t1 : True := trivial; have t2 : True := trivial; obtain ⟨ac0, ac1, ac2, ac3, ac4, ac5, ac6, af0, af1, af2, af3, af4, af5, af6⟩ := raw7 (b := wA) H.out
 cases r1 <;> cases r2 <;> cases r3
 all_goals
   subst he; go_enter Tryz.func102, Tryz.ntmps102
   go_wp2_with (first
    | (go_at_call 133; have _t := t1; clear _t; refine (ref07_odd _ _ _ E1.out H.out).mono ?_; rintro e wn ⟨rfl, h⟩; replace H := Lib.hid h; clear h t1; (first | (obtain ⟨ac0, ac1, ac2, ac3, ac4, ac5, ac6, af0, af1, af2, af3, af4, af5, af6⟩ := raw7 (b := wA) H.out) | (obtain ⟨ac0, ac1, ac2, ac3, ac4, ac5, ac6, af0, af1, af2, af3, af4, af5, af6⟩ := raw7 (b := wA) H.out.p1) | (obtain ⟨ac0, ac1, ac2, ac3, ac4, ac5, ac6, af0, af1, af2, af3, af4, af5, af6⟩ := raw7 (b := wA) H.out.p2) | (obtain ⟨ac0, ac1, ac2, ac3, ac4, ac5, ac6, af0, af1, af2, af3, af4, af5, af6⟩ := raw7 (b := wA) H.out.p3)))
    | (go_at_call 133; have _t := t2; clear _t; refine (ref07_odd _ _ _ E2.out H.out).mono ?_; rintro e wn ⟨rfl, h⟩; replace H := Lib.hid h; clear h t2; (first | (obtain ⟨ac0, ac1, ac2, ac3, ac4, ac5, ac6, af0, af1, af2, af3, af4, af5, af6⟩ := raw7 (b := wA) H.out) | (obtain ⟨ac0, ac1, ac2, ac3, ac4, ac5, ac6, af0, af1, af2, af3, af4, af5, af6⟩ := raw7 (b := wA) H.out.p1) | (obtain ⟨ac0, ac1, ac2, ac3, ac4, ac5, ac6, af0, af1, af2, af3, af4, af5, af6⟩ := raw7 (b := wA) H.out.p2) | (obtain ⟨ac0, ac1, ac2, ac3, ac4, ac5, ac6, af0, af1, af2, af3, af4, af5, af6⟩ := raw7 (b := wA) H.out.p3)))
    | (go_at_call 134; refine (ref06_right v x.hdrs HL.out HK.out H.out).mono ?_; rw [E3.out]; rintro e wn ⟨rfl, h⟩; replace H := Lib.hid h; clear h))
   go_ret; exact ⟨rfl, H.out.drop⟩

def smallR (x : RecS) : Int := if 500 < x.key.data.length ∨ 500 < x.val.data.length then 0 else smallN x.hdrs
end Go.Proofs.YtnnnglklgofabaaGreat
