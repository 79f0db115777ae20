/- Ends of transactions, read. -/
import Derived.Test.YtombolmicfjjpaaGTxnWrites5
import Derived.Test.YtombolmicfjjpaaGTxnWrites8
import Derived.Test.YtombolmicfjjpaaGTxnWrites4
import Derived.Test.YtombolmicfjjpaaGTxnWrites6
import Derived.Handy
/- Requests of transactions that are one. -/
namespace Go.Proofs.Ytombolmicfjjpaa
open Go.RowKit

set_option maxHeartbeats 2000000 in
set_option maxRecDepth 100000 in
theorem ref18_sameT (nl : Bool) (d : Bs) (tm p e : Int) (c : Bool) (l1 l2 : List (TopS × Value)) (q1 q2 : Option Addr) (cap1 cap2 : Nat) (hr : l1.map (·.1) = l2.map (·.1)) (hf1 : LenT l1) (hf2 : LenT l2) {W0 w : World} {K : Know} {L : List Res} (hk1 : K.has (Know.tops (.slice q1 l1.length cap1) l1)) (hk2 : K.has (Know.tops (.slice q2 l2.length cap2) l2)) (h : St W0 w K L) :
    Calls Try.prog 42 #[.agg #[.bool nl, .string (bb d), .int .i64 tm, .int .i64 p, .int .i64 e, .slice q1 l1.length cap1, .bool c], .agg #[.bool nl, .string (bb d), .int .i64 tm, .int .i64 p, .int .i64 e, .slice q2 l2.length cap2, .bool c]] w fun en w' => en = .returned (.bool true) ∧ St W0 w' K L := by
  have h0 := (h.allocRaw #[.bool nl, .string (bb d), .int .i64 tm, .int .i64 p, .int .i64 e, .slice q1 l1.length cap1, .bool c] 66).allocRaw #[.bool nl, .string (bb d), .int .i64 tm, .int .i64 p, .int .i64 e, .slice q2 l2.length cap2, .bool c] 66
  rw [World.size_alloc] at h0
  have H := Lib.hid h0
  have HR := Lib.hid (decide_eq_true hr)
  have HF1 := Lib.hid hf1
  have HF2 := Lib.hid hf2
  have HK1 := Lib.hid hk1
  have HK2 := Lib.hid hk2
  have e1 : (nl == nl) = true := beq_self_eq_true _
  have e2 : (d == d) = true := beq_self_eq_true _
  have e3 : (c == c) = true := beq_self_eq_true _
  clear h h0 hr hf1 hf2 hk1 hk2
  go_enter Try.func42, Try.ntmps42
  go_wp2_with (go_at_call 28; (with_reducible refine (ref14_sameTopics l1 l2 q1 q2 cap1 cap2 true HR.out HF1.out HF2.out HK1.out HK2.out H.out).mono ?_); rintro e_ wn ⟨rfl, h⟩; replace H := Lib.hid h; clear h)
  go_ret
  exact ⟨rfl, H.out.drop.drop⟩

end Go.Proofs.Ytombolmicfjjpaa

/- Requests of transactions, for the law. -/
namespace Go.Proofs.Ytombolmicfjjpaa
open Go.RowKit

theorem lenT_nilQ : LenT [] := ⟨by decide, fun x hx => by cases hx⟩
theorem fewT_nilQ : FewT [] := ⟨by decide, fun x hx => by cases hx⟩
theorem has_nilQ (K : Know) : K.has (Know.tops (.slice none 0 0) []) := Know.has_trans (tops_nil K) (Know.has_right (Know.has_refl _))
theorem w22Z0 (nl : Bool) (d : Bs) (tm p e : Int) (S : Bs) (hS : encReq 22 0 nl d tm p e [] false = S) (hE : begE 0 nl d tm p e = 0) (hp : p < 9223372036854775808) {W0 w : World} {K : Know} {L : List Res} (h : St W0 w K L) :
    Calls Try.prog 39 #[.int .i64 22, .int .i64 0, .agg #[.bool nl, .string (bb d), .int .i64 tm, .int .i64 p, .int .i64 e, .slice none 0 0, .bool false]] w fun en w' => en = .returned (.tuple #[.string (bb S), .int .i64 0, .int .i64 0]) ∧ St W0 w' K L := by
  refine (l18w_220 nl d tm p e [] none 0 false _ _ rfl rfl hE hp (idOk_len (begE_ok hE).1).1 (has_nilQ K) h).mono ?_
  rintro e_ wn ⟨rfl, h2⟩
  refine ⟨?_, h2⟩
  rw [← hS]
  simp [encReq, encW]
theorem rw22Z0 (nl : Bool) (d : Bs) (tm p e : Int) (S : Bs) (hS : encReq 22 0 nl d tm p e [] false = S) (hil : d.length ≤ 32767) (htm : -9223372036854775808 ≤ tm ∧ tm < 9223372036854775808) (hp : -9223372036854775808 ≤ p ∧ p < 9223372036854775808) (he : -9223372036854775808 ≤ e ∧ e < 9223372036854775808) {W0 w : World} {K : Know} {L : List Res} (h : St W0 w K L) :
    Calls Try.prog 41 #[.int .i64 22, .int .i64 0, .agg #[.bool nl, .string (bb d), .int .i64 tm, .int .i64 p, .int .i64 e, .slice none 0 0, .bool false]] w fun en w' => en = .returned (.string (bb S)) ∧ St W0 w' K L := by
  exact ref18_write220 nl d tm p e [] none 0 false S hS hil htm hp he (has_nilQ K) h
theorem w22Z1 (nl : Bool) (d : Bs) (tm p e : Int) (S : Bs) (hS : encReq 22 1 nl d tm p e [] false = S) (hE : begE 1 nl d tm p e = 0) (hp : p < 9223372036854775808) {W0 w : World} {K : Know} {L : List Res} (h : St W0 w K L) :
    Calls Try.prog 39 #[.int .i64 22, .int .i64 1, .agg #[.bool nl, .string (bb d), .int .i64 tm, .int .i64 p, .int .i64 e, .slice none 0 0, .bool false]] w fun en w' => en = .returned (.tuple #[.string (bb S), .int .i64 0, .int .i64 0]) ∧ St W0 w' K L := by
  refine (l18w_221 nl d tm p e [] none 0 false _ _ _ _ rfl rfl rfl rfl hE hp (idOk_len (begE_ok hE).1).1 (has_nilQ K) h).mono ?_
  rintro e_ wn ⟨rfl, h2⟩
  refine ⟨?_, h2⟩
  rw [← hS]
  simp [encReq, encW]
theorem rw22Z1 (nl : Bool) (d : Bs) (tm p e : Int) (S : Bs) (hS : encReq 22 1 nl d tm p e [] false = S) (hil : d.length ≤ 32767) (htm : -9223372036854775808 ≤ tm ∧ tm < 9223372036854775808) (hp : -9223372036854775808 ≤ p ∧ p < 9223372036854775808) (he : -9223372036854775808 ≤ e ∧ e < 9223372036854775808) {W0 w : World} {K : Know} {L : List Res} (h : St W0 w K L) :
    Calls Try.prog 41 #[.int .i64 22, .int .i64 1, .agg #[.bool nl, .string (bb d), .int .i64 tm, .int .i64 p, .int .i64 e, .slice none 0 0, .bool false]] w fun en w' => en = .returned (.string (bb S)) ∧ St W0 w' K L := by
  exact ref18_write221 nl d tm p e [] none 0 false S hS hil htm hp he (has_nilQ K) h
theorem w22Zb (v : Int) (nl : Bool) (d : Bs) (tm p e : Int) (r : Int) (hE : begE v nl d tm p e = r) (h0 : r ≠ 0) (hil : d.length ≤ 140737488355328) {W0 w : World} {K : Know} {L : List Res} (h : St W0 w K L) :
    Calls Try.prog 39 #[.int .i64 22, .int .i64 v, .agg #[.bool nl, .string (bb d), .int .i64 tm, .int .i64 p, .int .i64 e, .slice none 0 0, .bool false]] w fun en w' => en = .returned (.tuple #[.string ⟨#[]⟩, .int .i64 r, .int .i64 r]) ∧ St W0 w' K L := by
  exact l18w_22b v nl d tm p e [] none 0 false r hE h0 hil (has_nilQ K) h
theorem c22Z (v : Int) (nl : Bool) (d : Bs) (tm p e : Int) (r : Int) (hE : begE v nl d tm p e = r) {W0 w : World} {K : Know} {L : List Res} (h : St W0 w K L) :
    Calls Try.prog 40 #[.int .i64 22, .int .i64 v, .agg #[.bool nl, .string (bb d), .int .i64 tm, .int .i64 p, .int .i64 e, .slice none 0 0, .bool false]] w fun en w' => en = .returned (.int .i64 r) ∧ St W0 w' K L := by
  exact ref18_check22 v nl d tm p e [] none 0 false r hE fewT_nilQ (has_nilQ K) h
theorem s22Z (nl : Bool) (d : Bs) (tm p e : Int) (c : Bool) {W0 w : World} {K : Know} {L : List Res} (h : St W0 w K L) :
    Calls Try.prog 42 #[.agg #[.bool nl, .string (bb d), .int .i64 tm, .int .i64 p, .int .i64 e, .slice none 0 0, .bool c], .agg #[.bool nl, .string (bb d), .int .i64 tm, .int .i64 p, .int .i64 e, .slice none 0 0, .bool c]] w fun en w' => en = .returned (.bool true) ∧ St W0 w' K L := by
  exact ref18_sameT nl d tm p e c [] [] none none 0 0 rfl lenT_nilQ lenT_nilQ (has_nilQ K) (has_nilQ K) h
theorem w26Z (v : Int) (d : Bs) (p e : Int) (c : Bool) (S : Bs) (hS : encReq 26 v false d 0 p e [] c = S) (hE : chkW d p e = 0) (hp : p < 9223372036854775808) {W0 w : World} {K : Know} {L : List Res} (h : St W0 w K L) :
    Calls Try.prog 39 #[.int .i64 26, .int .i64 v, .agg #[.bool false, .string (bb d), .int .i64 0, .int .i64 p, .int .i64 e, .slice none 0 0, .bool c]] w fun en w' => en = .returned (.tuple #[.string (bb S), .int .i64 0, .int .i64 0]) ∧ St W0 w' K L := by
  refine (l18w_26 v false d 0 p e [] none 0 c _ _ _ _ rfl rfl rfl rfl hE hp ((keyRight_iff d).1 (chkW_ok hE).1).2 (has_nilQ K) h).mono ?_
  rintro e_ wn ⟨rfl, h2⟩
  refine ⟨?_, h2⟩
  rw [← hS]
  simp [encReq, encW]
theorem w26Zb (v : Int) (d : Bs) (p e : Int) (c : Bool) (r : Int) (hE : chkW d p e = r) (h0 : r ≠ 0) (hil : d.length ≤ 140737488355328) {W0 w : World} {K : Know} {L : List Res} (h : St W0 w K L) :
    Calls Try.prog 39 #[.int .i64 26, .int .i64 v, .agg #[.bool false, .string (bb d), .int .i64 0, .int .i64 p, .int .i64 e, .slice none 0 0, .bool c]] w fun en w' => en = .returned (.tuple #[.string ⟨#[]⟩, .int .i64 r, .int .i64 r]) ∧ St W0 w' K L := by
  exact l18w_26b v false d 0 p e [] none 0 c r hE h0 hil (has_nilQ K) h
theorem c26Z (v : Int) (d : Bs) (p e : Int) (c : Bool) (r : Int) (hE : chkW d p e = r) {W0 w : World} {K : Know} {L : List Res} (h : St W0 w K L) :
    Calls Try.prog 40 #[.int .i64 26, .int .i64 v, .agg #[.bool false, .string (bb d), .int .i64 0, .int .i64 p, .int .i64 e, .slice none 0 0, .bool c]] w fun en w' => en = .returned (.int .i64 r) ∧ St W0 w' K L := by
  exact ref18_check26 v false d 0 p e [] none 0 c r hE fewT_nilQ (has_nilQ K) h
theorem rw26Z (v : Int) (d : Bs) (p e : Int) (c : Bool) (S : Bs) (hS : encReq 26 v false d 0 p e [] c = S) (hil : d.length ≤ 32767) (hp : -9223372036854775808 ≤ p ∧ p < 9223372036854775808) (he : -9223372036854775808 ≤ e ∧ e < 9223372036854775808) {W0 w : World} {K : Know} {L : List Res} (h : St W0 w K L) :
    Calls Try.prog 41 #[.int .i64 26, .int .i64 v, .agg #[.bool false, .string (bb d), .int .i64 0, .int .i64 p, .int .i64 e, .slice none 0 0, .bool c]] w fun en w' => en = .returned (.string (bb S)) ∧ St W0 w' K L := by
  cases c with
  | true => exact ref18_write26t v false d 0 p e [] none 0 S hS hil (by decide) hp he (has_nilQ K) h
  | false => exact ref18_write26f v false d 0 p e [] none 0 S hS hil (by decide) hp he (has_nilQ K) h
theorem w24Z (v : Int) (d : Bs) (p e : Int) (l : List (TopS × Value)) (q : Option Addr) (cap : Nat) (S : Bs) (hS : encReq 24 v false d 0 p e (l.map (·.1)) false = S) (hE : addE d p e (l.map (·.1)) = 0) (hp : p < 9223372036854775808) (hf : FewT l) (hfit : FitTs (l.map (·.1))) {W0 w : World} {K : Know} {L : List Res} (hk : K.has (Know.tops (.slice q l.length cap) l)) (h : St W0 w K L) :
    Calls Try.prog 39 #[.int .i64 24, .int .i64 v, .agg #[.bool false, .string (bb d), .int .i64 0, .int .i64 p, .int .i64 e, .slice q l.length cap, .bool false]] w fun en w' => en = .returned (.tuple #[.string (bb S), .int .i64 0, .int .i64 0]) ∧ St W0 w' K L := by
  refine (l18w_24 v false d 0 p e l q cap false _ _ _ _ rfl rfl rfl rfl hE hp ((keyRight_iff d).1 (chkW_ok (addE_ok hE).1).1).2 hf hfit hk h).mono ?_
  rintro e_ wn ⟨rfl, h2⟩
  refine ⟨?_, h2⟩
  rw [← hS]
  simp [encReq, encW]

end Go.Proofs.Ytombolmicfjjpaa

/- Requests of transactions: are they whole. -/
namespace Go.Proofs.Ytombolmicfjjpaa
open Go.RowKit

theorem blob_fixedT (p : Nat) (i j : InS) (n : Bool) (d : Bs) (hx : i.fixed 2 = (⟨n, d⟩, j)) {W0 w : World} {K : Know} {L : List Res} (h : St W0 w K (.inp p i :: L)) :
    Calls Try.prog 111 #[inPtr p, .int .i64 2] w fun en w' => en = .returned (.agg #[.bool n, .string (bb d)]) ∧ St W0 w' K (.inp p j :: L) := by
  have := blob_fixed p i 2 h
  rw [hx] at this
  exact this
set_option maxHeartbeats 1000000 in
set_option maxRecDepth 100000 in
theorem ver_check (v : Int) (nl : Bool) (d : Bs) (tm p e : Int) (r : Int) (hr : begE v nl d tm p e = r) (hl : d.length ≤ 140737488355328) {W0 w : World} {K : Know} {L : List Res} (h : St W0 w K L) :
    Calls Try.prog 146 #[.agg #[.bool nl, .string (bb d), .int .i64 tm, .int .i64 p, .int .i64 e, .int .i64 v]] w fun en w' => en = .returned (.int .i64 r) ∧ St W0 w' K L := by
  have H := Lib.hid (h.allocRaw #[.bool nl, .string (bb d), .int .i64 tm, .int .i64 p, .int .i64 e, .int .i64 v] 173)
  have HR := Lib.hid hr
  have HL := Lib.hid hl
  clear h hr hl
  go_enter Try.func146, Try.ntmps146
  go_wp2_with (go_at_call 93; (with_reducible refine (beg_check v nl d tm p e _ HR.out HL.out H.out).mono ?_); rintro e_ wn ⟨rfl, h⟩; replace H := Lib.hid h; clear h)
  go_ret
  exact ⟨rfl, H.out.drop⟩
set_option maxHeartbeats 1000000 in
set_option maxRecDepth 100000 in
theorem whole_err (b : Nat) (i : InS) (e : Int) (hi : i.err = e) (h0 : e ≠ 0) (v : Value) {W0 w : World} {K : Know} {L : List Res} (h : St W0 w K (.inp b i :: L)) :
    Calls Try.prog 119 #[inPtr b, v] w fun en w' => en = .returned (.bool false) ∧ St W0 w' K (.inp b i :: L) := by
  have H := Lib.hid h
  have HI := Lib.hid hi
  have g1 : (e == 0) = false := by rw [beq_eq_false_iff_ne]; exact h0
  have g2 : (e != 0) = true := by simp [bne, g1]
  clear h hi h0
  go_enter Try.func119, Try.ntmps119
  go_wp2_with (go_at_call 27; (with_reducible refine (s_errV b _ _ HI.out H.out).mono ?_); rintro e_ wn ⟨rfl, h⟩; replace H := Lib.hid h; clear h)
  go_ret
  exact ⟨rfl, H.out⟩
theorem s_failW (p : Nat) (i j : InS) (e : Int) (hx : i.fail e = j) {W0 w : World} {K : Know} {L : List Res} (h : St W0 w K (.inp p i :: L)) :
    Calls Try.prog 73 #[inPtr p, .int .i64 e] w fun en w' => en = .returned (.tuple #[]) ∧ St W0 w' K (.inp p j :: L) := by
  subst hx; exact s_fail p i e h

set_option maxHeartbeats 2000000 in
set_option maxRecDepth 100000 in
theorem whole_beg (b : Nat) (i j : InS) (v : Int) (nl : Bool) (d : Bs) (tm p e : Int) (r : Int) (t : Bool) (hr : begE v nl d tm p e = r) (hl : d.length ≤ 140737488355328) (hi : i.err = 0) (ht : (r == 0) = t) (hj : (if r = 0 then i else i.fail r) = j) {W0 w : World} {K : Know} {L : List Res} (h : St W0 w K (.inp b i :: L)) :
    Calls Try.prog 119 #[inPtr b, .iface 173 (.agg #[.bool nl, .string (bb d), .int .i64 tm, .int .i64 p, .int .i64 e, .int .i64 v])] w fun en w' => en = .returned (.bool t) ∧ St W0 w' K (.inp b j :: L) := by
  have H := Lib.hid h
  have HI := Lib.hid hi
  have HR := Lib.hid hr
  have HL := Lib.hid hl
  clear h hr hl
  clear hi
  by_cases h0 : r = 0
  · rw [if_pos h0] at hj
    subst hj h0
    obtain rfl : true = t := ht
    go_enter Try.func119, Try.ntmps119
    go_wp2_with (first
    | (go_at_call 27; (with_reducible refine (s_errV b _ _ HI.out H.out).mono ?_); rintro e_ wn ⟨rfl, h⟩; replace H := Lib.hid h; clear h)
    | (go_at_call 146; (with_reducible refine (ver_check v nl d tm p e _ HR.out HL.out H.out).mono ?_); rintro e_ wn ⟨rfl, h⟩; replace H := Lib.hid h; clear h))
    go_ret
    exact ⟨rfl, H.out⟩
  · rw [if_neg h0] at hj
    have HJ := Lib.hid hj
    have g0 : (r == 0) = false := by rw [beq_eq_false_iff_ne]; exact h0
    have g00 : (r != 0) = true := by simp [bne, g0]
    rw [g0] at ht
    subst ht
    clear hj h0
    go_enter Try.func119, Try.ntmps119
    go_wp2_with (first
    | (go_at_call 27; (with_reducible refine (s_errV b _ _ HI.out H.out).mono ?_); rintro e_ wn ⟨rfl, h⟩; replace H := Lib.hid h; clear h)
    | (go_at_call 146; (with_reducible refine (ver_check v nl d tm p e _ HR.out HL.out H.out).mono ?_); rintro e_ wn ⟨rfl, h⟩; replace H := Lib.hid h; clear h)
    | (go_at_call 73; (with_reducible refine (s_failW b _ _ _ HJ.out H.out).mono ?_); rintro e_ wn ⟨rfl, h⟩; replace H := Lib.hid h; clear h))
    go_ret
    exact ⟨rfl, H.out⟩

set_option maxHeartbeats 2000000 in
set_option maxRecDepth 100000 in
theorem whole_add (b : Nat) (i j : InS) (d : Bs) (p e : Int) (l : List (TopS × Value)) (q : Option Addr) (cap : Nat) (r : Int) (t : Bool) (hr : addE d p e (l.map (·.1)) = r) (hl : d.length ≤ 140737488355328) (hf : FewT l) (hi : i.err = 0) (ht : (r == 0) = t) (hj : (if r = 0 then i else i.fail r) = j) {W0 w : World} {K : Know} {L : List Res} (hk : K.has (Know.tops (.slice q l.length cap) l)) (h : St W0 w K (.inp b i :: L)) :
    Calls Try.prog 119 #[inPtr b, .iface 144 (.agg #[.string (bb d), .int .i64 p, .int .i64 e, .slice q l.length cap])] w fun en w' => en = .returned (.bool t) ∧ St W0 w' K (.inp b j :: L) := by
  have H := Lib.hid h
  have HI := Lib.hid hi
  have HR := Lib.hid hr
  have HL := Lib.hid hl
  have HF := Lib.hid hf
  have HK := Lib.hid hk
  clear h hr hl hf hk
  clear hi
  by_cases h0 : r = 0
  · rw [if_pos h0] at hj
    subst hj h0
    obtain rfl : true = t := ht
    go_enter Try.func119, Try.ntmps119
    go_wp2_with (first
    | (go_at_call 27; (with_reducible refine (s_errV b _ _ HI.out H.out).mono ?_); rintro e_ wn ⟨rfl, h⟩; replace H := Lib.hid h; clear h)
    | (go_at_call 95; (with_reducible refine (add_check d p e l q cap _ HR.out HL.out HF.out HK.out H.out).mono ?_); rintro e_ wn ⟨rfl, h⟩; replace H := Lib.hid h; clear h))
    go_ret
    exact ⟨rfl, H.out⟩
  · rw [if_neg h0] at hj
    have HJ := Lib.hid hj
    have g0 : (r == 0) = false := by rw [beq_eq_false_iff_ne]; exact h0
    have g00 : (r != 0) = true := by simp [bne, g0]
    rw [g0] at ht
    subst ht
    clear hj h0
    go_enter Try.func119, Try.ntmps119
    go_wp2_with (first
    | (go_at_call 27; (with_reducible refine (s_errV b _ _ HI.out H.out).mono ?_); rintro e_ wn ⟨rfl, h⟩; replace H := Lib.hid h; clear h)
    | (go_at_call 95; (with_reducible refine (add_check d p e l q cap _ HR.out HL.out HF.out HK.out H.out).mono ?_); rintro e_ wn ⟨rfl, h⟩; replace H := Lib.hid h; clear h)
    | (go_at_call 73; (with_reducible refine (s_failW b _ _ _ HJ.out H.out).mono ?_); rintro e_ wn ⟨rfl, h⟩; replace H := Lib.hid h; clear h))
    go_ret
    exact ⟨rfl, H.out⟩

set_option maxHeartbeats 2000000 in
set_option maxRecDepth 100000 in
theorem whole_endG (b : Nat) (i j : InS) (id : Bs) (p e : Int) (c : Bool) (r : Int) (t : Bool) (hr : chkW id p e = r) (hl : id.length ≤ 140737488355328) (hi : i.err = 0) (ht : (r == 0) = t) (hj : (if r = 0 then i else i.fail r) = j) {W0 w : World} {K : Know} {L : List Res} (h : St W0 w K (.inp b i :: L)) :
    Calls Try.prog 119 #[inPtr b, .iface 136 (.agg #[.string (bb id), .int .i64 p, .int .i64 e, .bool c])] w fun en w' => en = .returned (.bool t) ∧ St W0 w' K (.inp b j :: L) := by
  have H := Lib.hid h
  have HI := Lib.hid hi
  have HR := Lib.hid hr
  have HL := Lib.hid hl
  clear h hr hl
  clear hi
  by_cases h0 : r = 0
  · rw [if_pos h0] at hj
    subst hj h0
    obtain rfl : true = t := ht
    go_enter Try.func119, Try.ntmps119
    go_wp2_with (first
    | (go_at_call 27; (with_reducible refine (s_errV b _ _ HI.out H.out).mono ?_); rintro e_ wn ⟨rfl, h⟩; replace H := Lib.hid h; clear h)
    | (go_at_call 96; (with_reducible refine (end_check id p e c _ HR.out HL.out H.out).mono ?_); rintro e_ wn ⟨rfl, h⟩; replace H := Lib.hid h; clear h))
    go_ret
    exact ⟨rfl, H.out⟩
  · rw [if_neg h0] at hj
    have HJ := Lib.hid hj
    have g0 : (r == 0) = false := by rw [beq_eq_false_iff_ne]; exact h0
    have g00 : (r != 0) = true := by simp [bne, g0]
    rw [g0] at ht
    subst ht
    clear hj h0
    go_enter Try.func119, Try.ntmps119
    go_wp2_with (first
    | (go_at_call 27; (with_reducible refine (s_errV b _ _ HI.out H.out).mono ?_); rintro e_ wn ⟨rfl, h⟩; replace H := Lib.hid h; clear h)
    | (go_at_call 96; (with_reducible refine (end_check id p e c _ HR.out HL.out H.out).mono ?_); rintro e_ wn ⟨rfl, h⟩; replace H := Lib.hid h; clear h)
    | (go_at_call 73; (with_reducible refine (s_failW b _ _ _ HJ.out H.out).mono ?_); rintro e_ wn ⟨rfl, h⟩; replace H := Lib.hid h; clear h))
    go_ret
    exact ⟨rfl, H.out⟩

theorem whole_begO (b : Nat) (i : InS) (v : Int) (nl : Bool) (d : Bs) (tm p e : Int) (hr : begE v nl d tm p e = 0) (hl : d.length ≤ 140737488355328) (hi : i.err = 0) {W0 w : World} {K : Know} {L : List Res} (h : St W0 w K (.inp b i :: L)) :
    Calls Try.prog 119 #[inPtr b, .iface 173 (.agg #[.bool nl, .string (bb d), .int .i64 tm, .int .i64 p, .int .i64 e, .int .i64 v])] w fun en w' => en = .returned (.bool true) ∧ St W0 w' K (.inp b i :: L) :=
  whole_beg b i i v nl d tm p e 0 true hr hl hi rfl (if_pos rfl) h
theorem whole_addO (b : Nat) (i : InS) (d : Bs) (p e : Int) (l : List (TopS × Value)) (q : Option Addr) (cap : Nat) (hr : addE d p e (l.map (·.1)) = 0) (hl : d.length ≤ 140737488355328) (hf : FewT l) (hi : i.err = 0) {W0 w : World} {K : Know} {L : List Res} (hk : K.has (Know.tops (.slice q l.length cap) l)) (h : St W0 w K (.inp b i :: L)) :
    Calls Try.prog 119 #[inPtr b, .iface 144 (.agg #[.string (bb d), .int .i64 p, .int .i64 e, .slice q l.length cap])] w fun en w' => en = .returned (.bool true) ∧ St W0 w' K (.inp b i :: L) :=
  whole_add b i i d p e l q cap 0 true hr hl hf hi rfl (if_pos rfl) hk h

end Go.Proofs.Ytombolmicfjjpaa

/- Begin, read. -/
namespace Go.Proofs.Ytombolmicfjjpaa
open Go.RowKit

set_option maxHeartbeats 6000000 in
set_option maxRecDepth 100000 in
theorem read_beg0_ok (b : Nat) (i i1 i2 : InS) (nl : Bool) (d : Bs) (tm : Int) (h1 : i.fixed 2 = (⟨nl, d⟩, i1)) (h2 : i1.int 4 = (tm, i2)) (hi : i2.err = 0) (hr : begE 0 nl d tm (-1) (-1) = 0) (hl : d.length ≤ 140737488355328) {W0 w : World} {K : Know} {L : List Res} (h : St W0 w K (.inp b i :: L)) :
    Calls Try.prog 99 #[inPtr b, .int .i64 0] w fun en w' => en = .returned (.agg #[.bool nl, .string (bb d), .int .i64 tm, .int .i64 (-1), .int .i64 (-1)]) ∧ St W0 w' K (.inp b i2 :: L) := by
  obtain ⟨rb, hrb⟩ : ∃ b, w.heap.size = b := ⟨_, rfl⟩
  obtain ⟨eb, heb⟩ : ∃ b, rb + 1 = b := ⟨_, rfl⟩
  have g1 := (h.allocRaw #[.bool false, .string ⟨#[]⟩, .int .i64 0, .int .i64 0, .int .i64 0] 141).allocRaw #[.bool false, .string ⟨#[]⟩, .int .i64 0, .int .i64 (-1), .int .i64 (-1)] 141
  simp only [World.size_alloc, hrb, heb] at g1
  have H := Lib.hid g1.p2
  have H1 := Lib.hid h1
  have H2 := Lib.hid h2
  have HI := Lib.hid hi
  have HR := Lib.hid hr
  have HL := Lib.hid hl
  have HT := Lib.hid (show ((0 : Int) == 0) = true by rfl)
  have HJ := Lib.hid (show (if (0 : Int) = 0 then i2 else i2.fail 0) = i2 by rfl)
  clear h g1 h1 h2 hi hr hl
  go_enter Try.func99, Try.ntmps99
  go_wp2_with (first
    | (go_at_call 111; (with_reducible refine (blob_fixedT b i i1 nl d H1.out H.out).mono ?_); rintro e_ wn ⟨rfl, h⟩; have f0 := h.p1.rawFree 0; have g0 := h.p1.rawCell 0; simp at g0; have f1 := h.p1.rawFree 1; have g1 := h.p1.rawCell 1; simp at g1; have h := (show St W0 ((wn.setCell ⟨eb, 0, none⟩ (.bool nl)).setCell ⟨eb, 1, none⟩ (.string (bb d))) K (.inp b i1 :: .raw eb #[.bool nl, .string (bb d), .int .i64 0, .int .i64 (-1), .int .i64 (-1)] 141 :: .raw rb #[.bool false, .string ⟨#[]⟩, .int .i64 0, .int .i64 0, .int .i64 0] 141 :: L) from ((h.p1.rawSet 0 (.bool nl)).rawSet 1 (.string (bb d))).p1); replace H := Lib.hid h; clear h)
    | (go_at_call 72; (with_reducible refine (s_intV b i1 i2 tm 4 H2.out H.out).mono ?_); rintro e_ wn ⟨rfl, h⟩; have f2 := h.p1.rawFree 2; have g2 := h.p1.rawCell 2; simp at g2; have h := (show St W0 (wn.setCell ⟨eb, 2, none⟩ (.int .i64 tm)) K (.inp b i2 :: .raw eb #[.bool nl, .string (bb d), .int .i64 tm, .int .i64 (-1), .int .i64 (-1)] 141 :: .raw rb #[.bool false, .string ⟨#[]⟩, .int .i64 0, .int .i64 0, .int .i64 0] 141 :: L) from (h.p1.rawSet 2 (.int .i64 tm)).p1); have c0 := h.p1.rawCell 0; have c1 := h.p1.rawCell 1; have c2 := h.p1.rawCell 2; have c3 := h.p1.rawCell 3; have c4 := h.p1.rawCell 4; simp at c0 c1 c2 c3 c4; replace H := Lib.hid h; clear h)
    | (go_at_call 119; clear c0 c1 c2 c3 c4; (with_reducible refine (whole_begO b i2 0 nl d tm (-1) (-1) HR.out HL.out HI.out H.out).mono ?_); rintro e_ wn ⟨rfl, h⟩; have c0 := h.p1.rawCell 0; have d0 := h.p2.rawCell 0; have r0 := h.p2.rawFree 0; have c1 := h.p1.rawCell 1; have d1 := h.p2.rawCell 1; have r1 := h.p2.rawFree 1; have c2 := h.p1.rawCell 2; have d2 := h.p2.rawCell 2; have r2 := h.p2.rawFree 2; have c3 := h.p1.rawCell 3; have d3 := h.p2.rawCell 3; have r3 := h.p2.rawFree 3; have c4 := h.p1.rawCell 4; have d4 := h.p2.rawCell 4; have r4 := h.p2.rawFree 4; simp at c0 d0 c1 d1 c2 d2 c3 d3 c4 d4; replace H := Lib.hid h; clear h))
  have hz : St W0 _ _ (.raw rb #[.bool nl, .string (bb d), .int .i64 tm, .int .i64 (-1), .int .i64 (-1)] 141 :: .inp b i2 :: .raw eb #[.bool nl, .string (bb d), .int .i64 tm, .int .i64 (-1), .int .i64 (-1)] 141 :: L) := (((((H.out.p2.rawSet 0 _).rawSet 1 _).rawSet 2 _).rawSet 3 _).rawSet 4 _)
  refine bodyPost_ret (rc_cell_only rfl _ _ rb [.bool nl, .string (bb d), .int .i64 tm, .int .i64 (-1), .int .i64 (-1)] _ rfl (rc_range hz) Try.underlying141 rfl (by kernel_rfl)) rfl ?_
  exact ⟨rfl, hz.drop.p1.drop⟩

set_option maxHeartbeats 6000000 in
set_option maxRecDepth 100000 in
theorem read_beg0_chk (b : Nat) (i i1 i2 j : InS) (nl : Bool) (d : Bs) (tm : Int) (h1 : i.fixed 2 = (⟨nl, d⟩, i1)) (h2 : i1.int 4 = (tm, i2)) (hi : i2.err = 0) (r : Int) (hr : begE 0 nl d tm (-1) (-1) = r) (h0 : r ≠ 0) (hj : i2.fail r = j) (hl : d.length ≤ 140737488355328) {W0 w : World} {K : Know} {L : List Res} (h : St W0 w K (.inp b i :: L)) :
    Calls Try.prog 99 #[inPtr b, .int .i64 0] w fun en w' => en = .returned (.agg #[.bool false, .string ⟨#[]⟩, .int .i64 0, .int .i64 0, .int .i64 0]) ∧ St W0 w' K (.inp b j :: L) := by
  obtain ⟨rb, hrb⟩ : ∃ b, w.heap.size = b := ⟨_, rfl⟩
  obtain ⟨eb, heb⟩ : ∃ b, rb + 1 = b := ⟨_, rfl⟩
  have g1 := (h.allocRaw #[.bool false, .string ⟨#[]⟩, .int .i64 0, .int .i64 0, .int .i64 0] 141).allocRaw #[.bool false, .string ⟨#[]⟩, .int .i64 0, .int .i64 (-1), .int .i64 (-1)] 141
  simp only [World.size_alloc, hrb, heb] at g1
  have H := Lib.hid g1.p2
  have H1 := Lib.hid h1
  have H2 := Lib.hid h2
  have HI := Lib.hid hi
  have HR := Lib.hid hr
  have HL := Lib.hid hl
  have HT := Lib.hid (show (r == 0) = false by rw [beq_eq_false_iff_ne]; exact h0)
  have HJ := Lib.hid (show (if r = 0 then i2 else i2.fail r) = j by rw [if_neg h0]; exact hj)
  clear h g1 h1 h2 hi hr hl h0 hj
  go_enter Try.func99, Try.ntmps99
  go_wp2_with (first
    | (go_at_call 111; (with_reducible refine (blob_fixedT b i i1 nl d H1.out H.out).mono ?_); rintro e_ wn ⟨rfl, h⟩; have f0 := h.p1.rawFree 0; have g0 := h.p1.rawCell 0; simp at g0; have f1 := h.p1.rawFree 1; have g1 := h.p1.rawCell 1; simp at g1; have h := (show St W0 ((wn.setCell ⟨eb, 0, none⟩ (.bool nl)).setCell ⟨eb, 1, none⟩ (.string (bb d))) K (.inp b i1 :: .raw eb #[.bool nl, .string (bb d), .int .i64 0, .int .i64 (-1), .int .i64 (-1)] 141 :: .raw rb #[.bool false, .string ⟨#[]⟩, .int .i64 0, .int .i64 0, .int .i64 0] 141 :: L) from ((h.p1.rawSet 0 (.bool nl)).rawSet 1 (.string (bb d))).p1); replace H := Lib.hid h; clear h)
    | (go_at_call 72; (with_reducible refine (s_intV b i1 i2 tm 4 H2.out H.out).mono ?_); rintro e_ wn ⟨rfl, h⟩; have f2 := h.p1.rawFree 2; have g2 := h.p1.rawCell 2; simp at g2; have h := (show St W0 (wn.setCell ⟨eb, 2, none⟩ (.int .i64 tm)) K (.inp b i2 :: .raw eb #[.bool nl, .string (bb d), .int .i64 tm, .int .i64 (-1), .int .i64 (-1)] 141 :: .raw rb #[.bool false, .string ⟨#[]⟩, .int .i64 0, .int .i64 0, .int .i64 0] 141 :: L) from (h.p1.rawSet 2 (.int .i64 tm)).p1); have c0 := h.p1.rawCell 0; have c1 := h.p1.rawCell 1; have c2 := h.p1.rawCell 2; have c3 := h.p1.rawCell 3; have c4 := h.p1.rawCell 4; simp at c0 c1 c2 c3 c4; replace H := Lib.hid h; clear h)
    | (go_at_call 119; clear c0 c1 c2 c3 c4; (with_reducible refine (whole_beg b i2 _ 0 nl d tm (-1) (-1) _ _ HR.out HL.out HI.out HT.out HJ.out H.out).mono ?_); rintro e_ wn ⟨rfl, h⟩; have c0 := h.p1.rawCell 0; have d0 := h.p2.rawCell 0; have r0 := h.p2.rawFree 0; have c1 := h.p1.rawCell 1; have d1 := h.p2.rawCell 1; have r1 := h.p2.rawFree 1; have c2 := h.p1.rawCell 2; have d2 := h.p2.rawCell 2; have r2 := h.p2.rawFree 2; have c3 := h.p1.rawCell 3; have d3 := h.p2.rawCell 3; have r3 := h.p2.rawFree 3; have c4 := h.p1.rawCell 4; have d4 := h.p2.rawCell 4; have r4 := h.p2.rawFree 4; simp at c0 d0 c1 d1 c2 d2 c3 d3 c4 d4; replace H := Lib.hid h; clear h))
  have hz : St W0 _ _ (.raw rb #[.bool false, .string ⟨#[]⟩, .int .i64 0, .int .i64 0, .int .i64 0] 141 :: .inp b j :: .raw eb #[.bool nl, .string (bb d), .int .i64 tm, .int .i64 (-1), .int .i64 (-1)] 141 :: L) := (((((H.out.p2.rawSet 0 _).rawSet 1 _).rawSet 2 _).rawSet 3 _).rawSet 4 _)
  refine bodyPost_ret (rc_cell_only rfl _ _ rb [.bool false, .string ⟨#[]⟩, .int .i64 0, .int .i64 0, .int .i64 0] _ rfl (rc_range hz) Try.underlying141 rfl (by kernel_rfl)) rfl ?_
  exact ⟨rfl, hz.drop.p1.drop⟩

set_option maxHeartbeats 6000000 in
set_option maxRecDepth 100000 in
theorem read_beg0_err (b : Nat) (i i1 i2 : InS) (nl : Bool) (d : Bs) (tm : Int) (h1 : i.fixed 2 = (⟨nl, d⟩, i1)) (h2 : i1.int 4 = (tm, i2)) (x : Int) (hi : i2.err = x) (h0 : x ≠ 0) {W0 w : World} {K : Know} {L : List Res} (h : St W0 w K (.inp b i :: L)) :
    Calls Try.prog 99 #[inPtr b, .int .i64 0] w fun en w' => en = .returned (.agg #[.bool false, .string ⟨#[]⟩, .int .i64 0, .int .i64 0, .int .i64 0]) ∧ St W0 w' K (.inp b i2 :: L) := by
  obtain ⟨rb, hrb⟩ : ∃ b, w.heap.size = b := ⟨_, rfl⟩
  obtain ⟨eb, heb⟩ : ∃ b, rb + 1 = b := ⟨_, rfl⟩
  have g1 := (h.allocRaw #[.bool false, .string ⟨#[]⟩, .int .i64 0, .int .i64 0, .int .i64 0] 141).allocRaw #[.bool false, .string ⟨#[]⟩, .int .i64 0, .int .i64 (-1), .int .i64 (-1)] 141
  simp only [World.size_alloc, hrb, heb] at g1
  have H := Lib.hid g1.p2
  have H1 := Lib.hid h1
  have H2 := Lib.hid h2
  have HI := Lib.hid hi
  have H0 := Lib.hid h0
  clear h g1 h1 h2 hi h0
  go_enter Try.func99, Try.ntmps99
  go_wp2_with (first
    | (go_at_call 111; (with_reducible refine (blob_fixedT b i i1 nl d H1.out H.out).mono ?_); rintro e_ wn ⟨rfl, h⟩; have f0 := h.p1.rawFree 0; have g0 := h.p1.rawCell 0; simp at g0; have f1 := h.p1.rawFree 1; have g1 := h.p1.rawCell 1; simp at g1; have h := (show St W0 ((wn.setCell ⟨eb, 0, none⟩ (.bool nl)).setCell ⟨eb, 1, none⟩ (.string (bb d))) K (.inp b i1 :: .raw eb #[.bool nl, .string (bb d), .int .i64 0, .int .i64 (-1), .int .i64 (-1)] 141 :: .raw rb #[.bool false, .string ⟨#[]⟩, .int .i64 0, .int .i64 0, .int .i64 0] 141 :: L) from ((h.p1.rawSet 0 (.bool nl)).rawSet 1 (.string (bb d))).p1); replace H := Lib.hid h; clear h)
    | (go_at_call 72; (with_reducible refine (s_intV b i1 i2 tm 4 H2.out H.out).mono ?_); rintro e_ wn ⟨rfl, h⟩; have f2 := h.p1.rawFree 2; have g2 := h.p1.rawCell 2; simp at g2; have h := (show St W0 (wn.setCell ⟨eb, 2, none⟩ (.int .i64 tm)) K (.inp b i2 :: .raw eb #[.bool nl, .string (bb d), .int .i64 tm, .int .i64 (-1), .int .i64 (-1)] 141 :: .raw rb #[.bool false, .string ⟨#[]⟩, .int .i64 0, .int .i64 0, .int .i64 0] 141 :: L) from (h.p1.rawSet 2 (.int .i64 tm)).p1); have c0 := h.p1.rawCell 0; have c1 := h.p1.rawCell 1; have c2 := h.p1.rawCell 2; have c3 := h.p1.rawCell 3; have c4 := h.p1.rawCell 4; simp at c0 c1 c2 c3 c4; replace H := Lib.hid h; clear h)
    | (go_at_call 119; clear c0 c1 c2 c3 c4; (with_reducible refine (whole_err b i2 x HI.out H0.out _ H.out).mono ?_); rintro e_ wn ⟨rfl, h⟩; have c0 := h.p1.rawCell 0; have d0 := h.p2.rawCell 0; have r0 := h.p2.rawFree 0; have c1 := h.p1.rawCell 1; have d1 := h.p2.rawCell 1; have r1 := h.p2.rawFree 1; have c2 := h.p1.rawCell 2; have d2 := h.p2.rawCell 2; have r2 := h.p2.rawFree 2; have c3 := h.p1.rawCell 3; have d3 := h.p2.rawCell 3; have r3 := h.p2.rawFree 3; have c4 := h.p1.rawCell 4; have d4 := h.p2.rawCell 4; have r4 := h.p2.rawFree 4; simp at c0 d0 c1 d1 c2 d2 c3 d3 c4 d4; replace H := Lib.hid h; clear h))
  have hz : St W0 _ _ (.raw rb #[.bool false, .string ⟨#[]⟩, .int .i64 0, .int .i64 0, .int .i64 0] 141 :: .inp b i2 :: .raw eb #[.bool nl, .string (bb d), .int .i64 tm, .int .i64 (-1), .int .i64 (-1)] 141 :: L) := (((((H.out.p2.rawSet 0 _).rawSet 1 _).rawSet 2 _).rawSet 3 _).rawSet 4 _)
  refine bodyPost_ret (rc_cell_only rfl _ _ rb [.bool false, .string ⟨#[]⟩, .int .i64 0, .int .i64 0, .int .i64 0] _ rfl (rc_range hz) Try.underlying141 rfl (by kernel_rfl)) rfl ?_
  exact ⟨rfl, hz.drop.p1.drop⟩

set_option maxHeartbeats 6000000 in
set_option maxRecDepth 100000 in
theorem read_beg1_ok (b : Nat) (i i1 i2 i3 i4 : InS) (nl : Bool) (d : Bs) (tm p e : Int) (h1 : i.fixed 2 = (⟨nl, d⟩, i1)) (h2 : i1.int 4 = (tm, i2)) (h3 : i2.int 8 = (p, i3)) (h4 : i3.int 2 = (e, i4)) (hi : i4.err = 0) (hr : begE 1 nl d tm p e = 0) (hl : d.length ≤ 140737488355328) {W0 w : World} {K : Know} {L : List Res} (h : St W0 w K (.inp b i :: L)) :
    Calls Try.prog 99 #[inPtr b, .int .i64 1] w fun en w' => en = .returned (.agg #[.bool nl, .string (bb d), .int .i64 tm, .int .i64 p, .int .i64 e]) ∧ St W0 w' K (.inp b i4 :: L) := by
  obtain ⟨rb, hrb⟩ : ∃ b, w.heap.size = b := ⟨_, rfl⟩
  obtain ⟨eb, heb⟩ : ∃ b, rb + 1 = b := ⟨_, rfl⟩
  have g1 := (h.allocRaw #[.bool false, .string ⟨#[]⟩, .int .i64 0, .int .i64 0, .int .i64 0] 141).allocRaw #[.bool false, .string ⟨#[]⟩, .int .i64 0, .int .i64 (-1), .int .i64 (-1)] 141
  simp only [World.size_alloc, hrb, heb] at g1
  have H := Lib.hid g1.p2
  have H1 := Lib.hid h1
  have H2 := Lib.hid h2
  have H3 := Lib.hid h3
  have H4 := Lib.hid h4
  have HI := Lib.hid hi
  have HR := Lib.hid hr
  have HL := Lib.hid hl
  have HT := Lib.hid (show ((0 : Int) == 0) = true by rfl)
  have HJ := Lib.hid (show (if (0 : Int) = 0 then i4 else i4.fail 0) = i4 by rfl)
  clear h g1 h1 h2 h3 h4 hi hr hl
  go_enter Try.func99, Try.ntmps99
  go_wp2_with (first
    | (go_at_call 111; (with_reducible refine (blob_fixedT b i i1 nl d H1.out H.out).mono ?_); rintro e_ wn ⟨rfl, h⟩; have f0 := h.p1.rawFree 0; have g0 := h.p1.rawCell 0; simp at g0; have f1 := h.p1.rawFree 1; have g1 := h.p1.rawCell 1; simp at g1; have h := (show St W0 ((wn.setCell ⟨eb, 0, none⟩ (.bool nl)).setCell ⟨eb, 1, none⟩ (.string (bb d))) K (.inp b i1 :: .raw eb #[.bool nl, .string (bb d), .int .i64 0, .int .i64 (-1), .int .i64 (-1)] 141 :: .raw rb #[.bool false, .string ⟨#[]⟩, .int .i64 0, .int .i64 0, .int .i64 0] 141 :: L) from ((h.p1.rawSet 0 (.bool nl)).rawSet 1 (.string (bb d))).p1); replace H := Lib.hid h; clear h)
    | (go_at_call 72; (with_reducible refine (s_intV b i1 i2 tm 4 H2.out H.out).mono ?_); rintro e_ wn ⟨rfl, h⟩; have f2 := h.p1.rawFree 2; have g2 := h.p1.rawCell 2; simp at g2; have h := (show St W0 (wn.setCell ⟨eb, 2, none⟩ (.int .i64 tm)) K (.inp b i2 :: .raw eb #[.bool nl, .string (bb d), .int .i64 tm, .int .i64 (-1), .int .i64 (-1)] 141 :: .raw rb #[.bool false, .string ⟨#[]⟩, .int .i64 0, .int .i64 0, .int .i64 0] 141 :: L) from (h.p1.rawSet 2 (.int .i64 tm)).p1); replace H := Lib.hid h; clear h)
    | (go_at_call 118; (with_reducible refine (txn_readWriter b i2 i3 i4 p e H3.out H4.out H.out).mono ?_); rintro e_ wn ⟨rfl, h⟩; have f3 := h.p1.rawFree 3; have g3 := h.p1.rawCell 3; simp at g3; have f4 := h.p1.rawFree 4; have g4 := h.p1.rawCell 4; simp at g4; have h := (show St W0 ((wn.setCell ⟨eb, 3, none⟩ (.int .i64 p)).setCell ⟨eb, 4, none⟩ (.int .i64 e)) K (.inp b i4 :: .raw eb #[.bool nl, .string (bb d), .int .i64 tm, .int .i64 p, .int .i64 e] 141 :: .raw rb #[.bool false, .string ⟨#[]⟩, .int .i64 0, .int .i64 0, .int .i64 0] 141 :: L) from ((h.p1.rawSet 3 (.int .i64 p)).rawSet 4 (.int .i64 e)).p1); have c0 := h.p1.rawCell 0; have c1 := h.p1.rawCell 1; have c2 := h.p1.rawCell 2; have c3 := h.p1.rawCell 3; have c4 := h.p1.rawCell 4; simp at c0 c1 c2 c3 c4; replace H := Lib.hid h; clear h)
    | (go_at_call 119; clear c0 c1 c2 c3 c4; (with_reducible refine (whole_begO b i4 1 nl d tm p e HR.out HL.out HI.out H.out).mono ?_); rintro e_ wn ⟨rfl, h⟩; have c0 := h.p1.rawCell 0; have d0 := h.p2.rawCell 0; have r0 := h.p2.rawFree 0; have c1 := h.p1.rawCell 1; have d1 := h.p2.rawCell 1; have r1 := h.p2.rawFree 1; have c2 := h.p1.rawCell 2; have d2 := h.p2.rawCell 2; have r2 := h.p2.rawFree 2; have c3 := h.p1.rawCell 3; have d3 := h.p2.rawCell 3; have r3 := h.p2.rawFree 3; have c4 := h.p1.rawCell 4; have d4 := h.p2.rawCell 4; have r4 := h.p2.rawFree 4; simp at c0 d0 c1 d1 c2 d2 c3 d3 c4 d4; replace H := Lib.hid h; clear h))
  have hz : St W0 _ _ (.raw rb #[.bool nl, .string (bb d), .int .i64 tm, .int .i64 p, .int .i64 e] 141 :: .inp b i4 :: .raw eb #[.bool nl, .string (bb d), .int .i64 tm, .int .i64 p, .int .i64 e] 141 :: L) := (((((H.out.p2.rawSet 0 _).rawSet 1 _).rawSet 2 _).rawSet 3 _).rawSet 4 _)
  refine bodyPost_ret (rc_cell_only rfl _ _ rb [.bool nl, .string (bb d), .int .i64 tm, .int .i64 p, .int .i64 e] _ rfl (rc_range hz) Try.underlying141 rfl (by kernel_rfl)) rfl ?_
  exact ⟨rfl, hz.drop.p1.drop⟩

set_option maxHeartbeats 6000000 in
set_option maxRecDepth 100000 in
theorem read_beg1_chk (b : Nat) (i i1 i2 i3 i4 j : InS) (nl : Bool) (d : Bs) (tm p e : Int) (h1 : i.fixed 2 = (⟨nl, d⟩, i1)) (h2 : i1.int 4 = (tm, i2)) (h3 : i2.int 8 = (p, i3)) (h4 : i3.int 2 = (e, i4)) (hi : i4.err = 0) (r : Int) (hr : begE 1 nl d tm p e = r) (h0 : r ≠ 0) (hj : i4.fail r = j) (hl : d.length ≤ 140737488355328) {W0 w : World} {K : Know} {L : List Res} (h : St W0 w K (.inp b i :: L)) :
    Calls Try.prog 99 #[inPtr b, .int .i64 1] w fun en w' => en = .returned (.agg #[.bool false, .string ⟨#[]⟩, .int .i64 0, .int .i64 0, .int .i64 0]) ∧ St W0 w' K (.inp b j :: L) := by
  obtain ⟨rb, hrb⟩ : ∃ b, w.heap.size = b := ⟨_, rfl⟩
  obtain ⟨eb, heb⟩ : ∃ b, rb + 1 = b := ⟨_, rfl⟩
  have g1 := (h.allocRaw #[.bool false, .string ⟨#[]⟩, .int .i64 0, .int .i64 0, .int .i64 0] 141).allocRaw #[.bool false, .string ⟨#[]⟩, .int .i64 0, .int .i64 (-1), .int .i64 (-1)] 141
  simp only [World.size_alloc, hrb, heb] at g1
  have H := Lib.hid g1.p2
  have H1 := Lib.hid h1
  have H2 := Lib.hid h2
  have H3 := Lib.hid h3
  have H4 := Lib.hid h4
  have HI := Lib.hid hi
  have HR := Lib.hid hr
  have HL := Lib.hid hl
  have HT := Lib.hid (show (r == 0) = false by rw [beq_eq_false_iff_ne]; exact h0)
  have HJ := Lib.hid (show (if r = 0 then i4 else i4.fail r) = j by rw [if_neg h0]; exact hj)
  clear h g1 h1 h2 h3 h4 hi hr hl h0 hj
  go_enter Try.func99, Try.ntmps99
  go_wp2_with (first
    | (go_at_call 111; (with_reducible refine (blob_fixedT b i i1 nl d H1.out H.out).mono ?_); rintro e_ wn ⟨rfl, h⟩; have f0 := h.p1.rawFree 0; have g0 := h.p1.rawCell 0; simp at g0; have f1 := h.p1.rawFree 1; have g1 := h.p1.rawCell 1; simp at g1; have h := (show St W0 ((wn.setCell ⟨eb, 0, none⟩ (.bool nl)).setCell ⟨eb, 1, none⟩ (.string (bb d))) K (.inp b i1 :: .raw eb #[.bool nl, .string (bb d), .int .i64 0, .int .i64 (-1), .int .i64 (-1)] 141 :: .raw rb #[.bool false, .string ⟨#[]⟩, .int .i64 0, .int .i64 0, .int .i64 0] 141 :: L) from ((h.p1.rawSet 0 (.bool nl)).rawSet 1 (.string (bb d))).p1); replace H := Lib.hid h; clear h)
    | (go_at_call 72; (with_reducible refine (s_intV b i1 i2 tm 4 H2.out H.out).mono ?_); rintro e_ wn ⟨rfl, h⟩; have f2 := h.p1.rawFree 2; have g2 := h.p1.rawCell 2; simp at g2; have h := (show St W0 (wn.setCell ⟨eb, 2, none⟩ (.int .i64 tm)) K (.inp b i2 :: .raw eb #[.bool nl, .string (bb d), .int .i64 tm, .int .i64 (-1), .int .i64 (-1)] 141 :: .raw rb #[.bool false, .string ⟨#[]⟩, .int .i64 0, .int .i64 0, .int .i64 0] 141 :: L) from (h.p1.rawSet 2 (.int .i64 tm)).p1); replace H := Lib.hid h; clear h)
    | (go_at_call 118; (with_reducible refine (txn_readWriter b i2 i3 i4 p e H3.out H4.out H.out).mono ?_); rintro e_ wn ⟨rfl, h⟩; have f3 := h.p1.rawFree 3; have g3 := h.p1.rawCell 3; simp at g3; have f4 := h.p1.rawFree 4; have g4 := h.p1.rawCell 4; simp at g4; have h := (show St W0 ((wn.setCell ⟨eb, 3, none⟩ (.int .i64 p)).setCell ⟨eb, 4, none⟩ (.int .i64 e)) K (.inp b i4 :: .raw eb #[.bool nl, .string (bb d), .int .i64 tm, .int .i64 p, .int .i64 e] 141 :: .raw rb #[.bool false, .string ⟨#[]⟩, .int .i64 0, .int .i64 0, .int .i64 0] 141 :: L) from ((h.p1.rawSet 3 (.int .i64 p)).rawSet 4 (.int .i64 e)).p1); have c0 := h.p1.rawCell 0; have c1 := h.p1.rawCell 1; have c2 := h.p1.rawCell 2; have c3 := h.p1.rawCell 3; have c4 := h.p1.rawCell 4; simp at c0 c1 c2 c3 c4; replace H := Lib.hid h; clear h)
    | (go_at_call 119; clear c0 c1 c2 c3 c4; (with_reducible refine (whole_beg b i4 _ 1 nl d tm p e _ _ HR.out HL.out HI.out HT.out HJ.out H.out).mono ?_); rintro e_ wn ⟨rfl, h⟩; have c0 := h.p1.rawCell 0; have d0 := h.p2.rawCell 0; have r0 := h.p2.rawFree 0; have c1 := h.p1.rawCell 1; have d1 := h.p2.rawCell 1; have r1 := h.p2.rawFree 1; have c2 := h.p1.rawCell 2; have d2 := h.p2.rawCell 2; have r2 := h.p2.rawFree 2; have c3 := h.p1.rawCell 3; have d3 := h.p2.rawCell 3; have r3 := h.p2.rawFree 3; have c4 := h.p1.rawCell 4; have d4 := h.p2.rawCell 4; have r4 := h.p2.rawFree 4; simp at c0 d0 c1 d1 c2 d2 c3 d3 c4 d4; replace H := Lib.hid h; clear h))
  have hz : St W0 _ _ (.raw rb #[.bool false, .string ⟨#[]⟩, .int .i64 0, .int .i64 0, .int .i64 0] 141 :: .inp b j :: .raw eb #[.bool nl, .string (bb d), .int .i64 tm, .int .i64 p, .int .i64 e] 141 :: L) := (((((H.out.p2.rawSet 0 _).rawSet 1 _).rawSet 2 _).rawSet 3 _).rawSet 4 _)
  refine bodyPost_ret (rc_cell_only rfl _ _ rb [.bool false, .string ⟨#[]⟩, .int .i64 0, .int .i64 0, .int .i64 0] _ rfl (rc_range hz) Try.underlying141 rfl (by kernel_rfl)) rfl ?_
  exact ⟨rfl, hz.drop.p1.drop⟩

set_option maxHeartbeats 6000000 in
set_option maxRecDepth 100000 in
theorem read_beg1_err (b : Nat) (i i1 i2 i3 i4 : InS) (nl : Bool) (d : Bs) (tm p e : Int) (h1 : i.fixed 2 = (⟨nl, d⟩, i1)) (h2 : i1.int 4 = (tm, i2)) (h3 : i2.int 8 = (p, i3)) (h4 : i3.int 2 = (e, i4)) (x : Int) (hi : i4.err = x) (h0 : x ≠ 0) {W0 w : World} {K : Know} {L : List Res} (h : St W0 w K (.inp b i :: L)) :
    Calls Try.prog 99 #[inPtr b, .int .i64 1] w fun en w' => en = .returned (.agg #[.bool false, .string ⟨#[]⟩, .int .i64 0, .int .i64 0, .int .i64 0]) ∧ St W0 w' K (.inp b i4 :: L) := by
  obtain ⟨rb, hrb⟩ : ∃ b, w.heap.size = b := ⟨_, rfl⟩
  obtain ⟨eb, heb⟩ : ∃ b, rb + 1 = b := ⟨_, rfl⟩
  have g1 := (h.allocRaw #[.bool false, .string ⟨#[]⟩, .int .i64 0, .int .i64 0, .int .i64 0] 141).allocRaw #[.bool false, .string ⟨#[]⟩, .int .i64 0, .int .i64 (-1), .int .i64 (-1)] 141
  simp only [World.size_alloc, hrb, heb] at g1
  have H := Lib.hid g1.p2
  have H1 := Lib.hid h1
  have H2 := Lib.hid h2
  have H3 := Lib.hid h3
  have H4 := Lib.hid h4
  have HI := Lib.hid hi
  have H0 := Lib.hid h0
  clear h g1 h1 h2 h3 h4 hi h0
  go_enter Try.func99, Try.ntmps99
  go_wp2_with (first
    | (go_at_call 111; (with_reducible refine (blob_fixedT b i i1 nl d H1.out H.out).mono ?_); rintro e_ wn ⟨rfl, h⟩; have f0 := h.p1.rawFree 0; have g0 := h.p1.rawCell 0; simp at g0; have f1 := h.p1.rawFree 1; have g1 := h.p1.rawCell 1; simp at g1; have h := (show St W0 ((wn.setCell ⟨eb, 0, none⟩ (.bool nl)).setCell ⟨eb, 1, none⟩ (.string (bb d))) K (.inp b i1 :: .raw eb #[.bool nl, .string (bb d), .int .i64 0, .int .i64 (-1), .int .i64 (-1)] 141 :: .raw rb #[.bool false, .string ⟨#[]⟩, .int .i64 0, .int .i64 0, .int .i64 0] 141 :: L) from ((h.p1.rawSet 0 (.bool nl)).rawSet 1 (.string (bb d))).p1); replace H := Lib.hid h; clear h)
    | (go_at_call 72; (with_reducible refine (s_intV b i1 i2 tm 4 H2.out H.out).mono ?_); rintro e_ wn ⟨rfl, h⟩; have f2 := h.p1.rawFree 2; have g2 := h.p1.rawCell 2; simp at g2; have h := (show St W0 (wn.setCell ⟨eb, 2, none⟩ (.int .i64 tm)) K (.inp b i2 :: .raw eb #[.bool nl, .string (bb d), .int .i64 tm, .int .i64 (-1), .int .i64 (-1)] 141 :: .raw rb #[.bool false, .string ⟨#[]⟩, .int .i64 0, .int .i64 0, .int .i64 0] 141 :: L) from (h.p1.rawSet 2 (.int .i64 tm)).p1); replace H := Lib.hid h; clear h)
    | (go_at_call 118; (with_reducible refine (txn_readWriter b i2 i3 i4 p e H3.out H4.out H.out).mono ?_); rintro e_ wn ⟨rfl, h⟩; have f3 := h.p1.rawFree 3; have g3 := h.p1.rawCell 3; simp at g3; have f4 := h.p1.rawFree 4; have g4 := h.p1.rawCell 4; simp at g4; have h := (show St W0 ((wn.setCell ⟨eb, 3, none⟩ (.int .i64 p)).setCell ⟨eb, 4, none⟩ (.int .i64 e)) K (.inp b i4 :: .raw eb #[.bool nl, .string (bb d), .int .i64 tm, .int .i64 p, .int .i64 e] 141 :: .raw rb #[.bool false, .string ⟨#[]⟩, .int .i64 0, .int .i64 0, .int .i64 0] 141 :: L) from ((h.p1.rawSet 3 (.int .i64 p)).rawSet 4 (.int .i64 e)).p1); have c0 := h.p1.rawCell 0; have c1 := h.p1.rawCell 1; have c2 := h.p1.rawCell 2; have c3 := h.p1.rawCell 3; have c4 := h.p1.rawCell 4; simp at c0 c1 c2 c3 c4; replace H := Lib.hid h; clear h)
    | (go_at_call 119; clear c0 c1 c2 c3 c4; (with_reducible refine (whole_err b i4 x HI.out H0.out _ H.out).mono ?_); rintro e_ wn ⟨rfl, h⟩; have c0 := h.p1.rawCell 0; have d0 := h.p2.rawCell 0; have r0 := h.p2.rawFree 0; have c1 := h.p1.rawCell 1; have d1 := h.p2.rawCell 1; have r1 := h.p2.rawFree 1; have c2 := h.p1.rawCell 2; have d2 := h.p2.rawCell 2; have r2 := h.p2.rawFree 2; have c3 := h.p1.rawCell 3; have d3 := h.p2.rawCell 3; have r3 := h.p2.rawFree 3; have c4 := h.p1.rawCell 4; have d4 := h.p2.rawCell 4; have r4 := h.p2.rawFree 4; simp at c0 d0 c1 d1 c2 d2 c3 d3 c4 d4; replace H := Lib.hid h; clear h))
  have hz : St W0 _ _ (.raw rb #[.bool false, .string ⟨#[]⟩, .int .i64 0, .int .i64 0, .int .i64 0] 141 :: .inp b i4 :: .raw eb #[.bool nl, .string (bb d), .int .i64 tm, .int .i64 p, .int .i64 e] 141 :: L) := (((((H.out.p2.rawSet 0 _).rawSet 1 _).rawSet 2 _).rawSet 3 _).rawSet 4 _)
  refine bodyPost_ret (rc_cell_only rfl _ _ rb [.bool false, .string ⟨#[]⟩, .int .i64 0, .int .i64 0, .int .i64 0] _ rfl (rc_range hz) Try.underlying141 rfl (by kernel_rfl)) rfl ?_
  exact ⟨rfl, hz.drop.p1.drop⟩

end Go.Proofs.Ytombolmicfjjpaa

/- Add and End, read. -/
namespace Go.Proofs.Ytombolmicfjjpaa
open Go.RowKit

set_option maxHeartbeats 6000000 in
set_option maxRecDepth 100000 in
theorem read_add_ok (b : Nat) (i i1 i2 i3 i4 : InS) (d : Bs) (p e : Int) (tl : List TopS) (h1 : i.text = (d, i1)) (h2 : i1.int 8 = (p, i2)) (h3 : i2.int 2 = (e, i3)) (h4 : i3.tops = (tl, i4)) (hi : i4.err = 0) (hr : addE d p e tl = 0) (hl : d.length ≤ 140737488355328) (hf : FewL tl) {W0 w : World} {K : Know} {L : List Res} (h : St W0 w K (.inp b i :: L)) :
    Calls Try.prog 100 #[inPtr b] w fun en w' => ∃ (q : Option Addr) (cap : Nat) (lr : List (TopS × Value)), en = .returned (.agg #[.string (bb d), .int .i64 p, .int .i64 e, .slice q lr.length cap]) ∧ lr.map (·.1) = tl ∧ St W0 w' (K.and (Know.tops (.slice q lr.length cap) lr)) (.inp b i4 :: L) := by
  obtain ⟨rb, hrb⟩ : ∃ b, w.heap.size = b := ⟨_, rfl⟩
  obtain ⟨eb, heb⟩ : ∃ b, rb + 1 = b := ⟨_, rfl⟩
  have g1 := (h.allocRaw #[.string ⟨#[]⟩, .int .i64 0, .int .i64 0, .slice none 0 0] 144).allocRaw #[.string ⟨#[]⟩, .int .i64 0, .int .i64 0, .slice none 0 0] 144
  simp only [World.size_alloc, hrb, heb] at g1
  have H := Lib.hid g1.p2
  have H1 := Lib.hid h1
  have H2 := Lib.hid h2
  have H3 := Lib.hid h3
  have H4 := Lib.hid h4
  have HI := Lib.hid hi
  have HR := Lib.hid hr
  have HL := Lib.hid hl
  have HFL := Lib.hid hf
  have HT := Lib.hid (show ((0 : Int) == 0) = true by rfl)
  have HJ := Lib.hid (show (if (0 : Int) = 0 then i4 else i4.fail 0) = i4 by rfl)
  clear h g1 h1 h2 h3 h4 hi hr hl hf
  go_enter Try.func100, Try.ntmps100
  go_wp2_with (first
    | (go_at_call 78; (with_reducible refine (blob_textV b _ _ d H1.out H.out).mono ?_); rintro e_ wn ⟨rfl, h⟩; have f0 := h.p1.rawFree 0; have g0 := h.p1.rawCell 0; simp at g0; have h := (show St W0 (wn.setCell ⟨eb, 0, none⟩ (.string (bb d))) K (.inp b i1 :: .raw eb #[.string (bb d), .int .i64 0, .int .i64 0, .slice none 0 0] 144 :: .raw rb #[.string ⟨#[]⟩, .int .i64 0, .int .i64 0, .slice none 0 0] 144 :: L) from (h.p1.rawSet 0 (.string (bb d))).p1); replace H := Lib.hid h; clear h)
    | (go_at_call 118; (with_reducible refine (txn_readWriter b _ _ _ p e H2.out H3.out H.out).mono ?_); rintro e_ wn ⟨rfl, h⟩; have f1 := h.p1.rawFree 1; have g1 := h.p1.rawCell 1; simp at g1; have f2 := h.p1.rawFree 2; have g2 := h.p1.rawCell 2; simp at g2; have h := (show St W0 ((wn.setCell ⟨eb, 1, none⟩ (.int .i64 p)).setCell ⟨eb, 2, none⟩ (.int .i64 e)) K (.inp b i3 :: .raw eb #[.string (bb d), .int .i64 p, .int .i64 e, .slice none 0 0] 144 :: .raw rb #[.string ⟨#[]⟩, .int .i64 0, .int .i64 0, .slice none 0 0] 144 :: L) from ((h.p1.rawSet 1 (.int .i64 p)).rawSet 2 (.int .i64 e)).p1); replace H := Lib.hid h; clear h)
    | (go_at_call 25; (with_reducible refine (val_topics b _ _ tl H4.out H.out).mono ?_); rintro e_ wn ⟨v_, lr, rfl, hlr, h⟩; obtain ⟨q, cap, rfl⟩ := tops_form (Know.has_right (Know.has_refl _)) h; have HLR := Lib.hid hlr; clear hlr; have f3 := h.p1.rawFree 3; have g3 := h.p1.rawCell 3; simp at g3; have h := (show St W0 (wn.setCell ⟨eb, 3, none⟩ (.slice q lr.length cap)) (K.and (Know.tops (.slice q lr.length cap) lr)) (.inp b i4 :: .raw eb #[.string (bb d), .int .i64 p, .int .i64 e, .slice q lr.length cap] 144 :: .raw rb #[.string ⟨#[]⟩, .int .i64 0, .int .i64 0, .slice none 0 0] 144 :: L) from (h.p1.rawSet 3 (.slice q lr.length cap)).p1); have c0 := h.p1.rawCell 0; have c1 := h.p1.rawCell 1; have c2 := h.p1.rawCell 2; have c3 := h.p1.rawCell 3; simp at c0 c1 c2 c3; replace H := Lib.hid h; clear h)
    | (go_at_call 119; clear c0 c1 c2 c3; (with_reducible refine (whole_addO b i4 d p e lr q cap (by rw [HLR.out]; exact HR.out) HL.out (fewT_of (by rw [HLR.out]; exact HFL.out)) HI.out (Know.has_right (Know.has_refl _)) H.out).mono ?_); rintro e_ wn ⟨rfl, h⟩; have c0 := h.p1.rawCell 0; have d0 := h.p2.rawCell 0; have r0 := h.p2.rawFree 0; have c1 := h.p1.rawCell 1; have d1 := h.p2.rawCell 1; have r1 := h.p2.rawFree 1; have c2 := h.p1.rawCell 2; have d2 := h.p2.rawCell 2; have r2 := h.p2.rawFree 2; have c3 := h.p1.rawCell 3; have d3 := h.p2.rawCell 3; have r3 := h.p2.rawFree 3; simp at c0 d0 c1 d1 c2 d2 c3 d3; replace H := Lib.hid h; clear h))
  have hz : St W0 _ _ (.raw rb #[.string (bb d), .int .i64 p, .int .i64 e, .slice q lr.length cap] 144 :: .inp b i4 :: .raw eb #[.string (bb d), .int .i64 p, .int .i64 e, .slice q lr.length cap] 144 :: L) := ((((H.out.p2.rawSet 0 _).rawSet 1 _).rawSet 2 _).rawSet 3 _)
  refine bodyPost_ret (rc_cell_only rfl _ _ rb [.string (bb d), .int .i64 p, .int .i64 e, .slice q lr.length cap] _ rfl (rc_range hz) Try.underlying144 rfl (by kernel_rfl)) rfl ?_
  exact ⟨q, cap, lr, rfl, HLR.out, hz.drop.p1.drop⟩

set_option maxHeartbeats 6000000 in
set_option maxRecDepth 100000 in
theorem read_add_chk (b : Nat) (i i1 i2 i3 i4 j : InS) (d : Bs) (p e : Int) (tl : List TopS) (h1 : i.text = (d, i1)) (h2 : i1.int 8 = (p, i2)) (h3 : i2.int 2 = (e, i3)) (h4 : i3.tops = (tl, i4)) (hi : i4.err = 0) (r : Int) (hr : addE d p e tl = r) (h0 : r ≠ 0) (hj : i4.fail r = j) (hl : d.length ≤ 140737488355328) (hf : FewL tl) {W0 w : World} {K : Know} {L : List Res} (h : St W0 w K (.inp b i :: L)) :
    Calls Try.prog 100 #[inPtr b] w fun en w' => en = .returned (.agg #[.string ⟨#[]⟩, .int .i64 0, .int .i64 0, .slice none 0 0]) ∧ St W0 w' K (.inp b j :: L) := by
  obtain ⟨rb, hrb⟩ : ∃ b, w.heap.size = b := ⟨_, rfl⟩
  obtain ⟨eb, heb⟩ : ∃ b, rb + 1 = b := ⟨_, rfl⟩
  have g1 := (h.allocRaw #[.string ⟨#[]⟩, .int .i64 0, .int .i64 0, .slice none 0 0] 144).allocRaw #[.string ⟨#[]⟩, .int .i64 0, .int .i64 0, .slice none 0 0] 144
  simp only [World.size_alloc, hrb, heb] at g1
  have H := Lib.hid g1.p2
  have H1 := Lib.hid h1
  have H2 := Lib.hid h2
  have H3 := Lib.hid h3
  have H4 := Lib.hid h4
  have HI := Lib.hid hi
  have HR := Lib.hid hr
  have HL := Lib.hid hl
  have HFL := Lib.hid hf
  have HT := Lib.hid (show (r == 0) = false by rw [beq_eq_false_iff_ne]; exact h0)
  have HJ := Lib.hid (show (if r = 0 then i4 else i4.fail r) = j by rw [if_neg h0]; exact hj)
  clear h g1 h1 h2 h3 h4 hi hr hl hf h0 hj
  go_enter Try.func100, Try.ntmps100
  go_wp2_with (first
    | (go_at_call 78; (with_reducible refine (blob_textV b _ _ d H1.out H.out).mono ?_); rintro e_ wn ⟨rfl, h⟩; have f0 := h.p1.rawFree 0; have g0 := h.p1.rawCell 0; simp at g0; have h := (show St W0 (wn.setCell ⟨eb, 0, none⟩ (.string (bb d))) K (.inp b i1 :: .raw eb #[.string (bb d), .int .i64 0, .int .i64 0, .slice none 0 0] 144 :: .raw rb #[.string ⟨#[]⟩, .int .i64 0, .int .i64 0, .slice none 0 0] 144 :: L) from (h.p1.rawSet 0 (.string (bb d))).p1); replace H := Lib.hid h; clear h)
    | (go_at_call 118; (with_reducible refine (txn_readWriter b _ _ _ p e H2.out H3.out H.out).mono ?_); rintro e_ wn ⟨rfl, h⟩; have f1 := h.p1.rawFree 1; have g1 := h.p1.rawCell 1; simp at g1; have f2 := h.p1.rawFree 2; have g2 := h.p1.rawCell 2; simp at g2; have h := (show St W0 ((wn.setCell ⟨eb, 1, none⟩ (.int .i64 p)).setCell ⟨eb, 2, none⟩ (.int .i64 e)) K (.inp b i3 :: .raw eb #[.string (bb d), .int .i64 p, .int .i64 e, .slice none 0 0] 144 :: .raw rb #[.string ⟨#[]⟩, .int .i64 0, .int .i64 0, .slice none 0 0] 144 :: L) from ((h.p1.rawSet 1 (.int .i64 p)).rawSet 2 (.int .i64 e)).p1); replace H := Lib.hid h; clear h)
    | (go_at_call 25; (with_reducible refine (val_topics b _ _ tl H4.out H.out).mono ?_); rintro e_ wn ⟨v_, lr, rfl, hlr, h⟩; obtain ⟨q, cap, rfl⟩ := tops_form (Know.has_right (Know.has_refl _)) h; have HLR := Lib.hid hlr; clear hlr; have f3 := h.p1.rawFree 3; have g3 := h.p1.rawCell 3; simp at g3; have h := (show St W0 (wn.setCell ⟨eb, 3, none⟩ (.slice q lr.length cap)) (K.and (Know.tops (.slice q lr.length cap) lr)) (.inp b i4 :: .raw eb #[.string (bb d), .int .i64 p, .int .i64 e, .slice q lr.length cap] 144 :: .raw rb #[.string ⟨#[]⟩, .int .i64 0, .int .i64 0, .slice none 0 0] 144 :: L) from (h.p1.rawSet 3 (.slice q lr.length cap)).p1); have c0 := h.p1.rawCell 0; have c1 := h.p1.rawCell 1; have c2 := h.p1.rawCell 2; have c3 := h.p1.rawCell 3; simp at c0 c1 c2 c3; replace H := Lib.hid h; clear h)
    | (go_at_call 119; clear c0 c1 c2 c3; (with_reducible refine (whole_add b i4 _ d p e lr q cap _ _ (by rw [HLR.out]; exact HR.out) HL.out (fewT_of (by rw [HLR.out]; exact HFL.out)) HI.out HT.out HJ.out (Know.has_right (Know.has_refl _)) H.out).mono ?_); rintro e_ wn ⟨rfl, h⟩; have c0 := h.p1.rawCell 0; have d0 := h.p2.rawCell 0; have r0 := h.p2.rawFree 0; have c1 := h.p1.rawCell 1; have d1 := h.p2.rawCell 1; have r1 := h.p2.rawFree 1; have c2 := h.p1.rawCell 2; have d2 := h.p2.rawCell 2; have r2 := h.p2.rawFree 2; have c3 := h.p1.rawCell 3; have d3 := h.p2.rawCell 3; have r3 := h.p2.rawFree 3; simp at c0 d0 c1 d1 c2 d2 c3 d3; replace H := Lib.hid h; clear h))
  have hz : St W0 _ _ (.raw rb #[.string ⟨#[]⟩, .int .i64 0, .int .i64 0, .slice none 0 0] 144 :: .inp b j :: .raw eb #[.string (bb d), .int .i64 p, .int .i64 e, .slice q lr.length cap] 144 :: L) := ((((H.out.p2.rawSet 0 _).rawSet 1 _).rawSet 2 _).rawSet 3 _)
  refine bodyPost_ret (rc_cell_only rfl _ _ rb [.string ⟨#[]⟩, .int .i64 0, .int .i64 0, .slice none 0 0] _ rfl (rc_range hz) Try.underlying144 rfl (by kernel_rfl)) rfl ?_
  exact ⟨rfl, (hz.drop.p1.drop).know (Know.has_left (Know.has_refl _))⟩

set_option maxHeartbeats 6000000 in
set_option maxRecDepth 100000 in
theorem read_add_err (b : Nat) (i i1 i2 i3 i4 : InS) (d : Bs) (p e : Int) (tl : List TopS) (h1 : i.text = (d, i1)) (h2 : i1.int 8 = (p, i2)) (h3 : i2.int 2 = (e, i3)) (h4 : i3.tops = (tl, i4)) (x : Int) (hi : i4.err = x) (h0 : x ≠ 0) {W0 w : World} {K : Know} {L : List Res} (h : St W0 w K (.inp b i :: L)) :
    Calls Try.prog 100 #[inPtr b] w fun en w' => en = .returned (.agg #[.string ⟨#[]⟩, .int .i64 0, .int .i64 0, .slice none 0 0]) ∧ St W0 w' K (.inp b i4 :: L) := by
  obtain ⟨rb, hrb⟩ : ∃ b, w.heap.size = b := ⟨_, rfl⟩
  obtain ⟨eb, heb⟩ : ∃ b, rb + 1 = b := ⟨_, rfl⟩
  have g1 := (h.allocRaw #[.string ⟨#[]⟩, .int .i64 0, .int .i64 0, .slice none 0 0] 144).allocRaw #[.string ⟨#[]⟩, .int .i64 0, .int .i64 0, .slice none 0 0] 144
  simp only [World.size_alloc, hrb, heb] at g1
  have H := Lib.hid g1.p2
  have H1 := Lib.hid h1
  have H2 := Lib.hid h2
  have H3 := Lib.hid h3
  have H4 := Lib.hid h4
  have HI := Lib.hid hi
  have H0 := Lib.hid h0
  clear h g1 h1 h2 h3 h4 hi h0
  go_enter Try.func100, Try.ntmps100
  go_wp2_with (first
    | (go_at_call 78; (with_reducible refine (blob_textV b _ _ d H1.out H.out).mono ?_); rintro e_ wn ⟨rfl, h⟩; have f0 := h.p1.rawFree 0; have g0 := h.p1.rawCell 0; simp at g0; have h := (show St W0 (wn.setCell ⟨eb, 0, none⟩ (.string (bb d))) K (.inp b i1 :: .raw eb #[.string (bb d), .int .i64 0, .int .i64 0, .slice none 0 0] 144 :: .raw rb #[.string ⟨#[]⟩, .int .i64 0, .int .i64 0, .slice none 0 0] 144 :: L) from (h.p1.rawSet 0 (.string (bb d))).p1); replace H := Lib.hid h; clear h)
    | (go_at_call 118; (with_reducible refine (txn_readWriter b _ _ _ p e H2.out H3.out H.out).mono ?_); rintro e_ wn ⟨rfl, h⟩; have f1 := h.p1.rawFree 1; have g1 := h.p1.rawCell 1; simp at g1; have f2 := h.p1.rawFree 2; have g2 := h.p1.rawCell 2; simp at g2; have h := (show St W0 ((wn.setCell ⟨eb, 1, none⟩ (.int .i64 p)).setCell ⟨eb, 2, none⟩ (.int .i64 e)) K (.inp b i3 :: .raw eb #[.string (bb d), .int .i64 p, .int .i64 e, .slice none 0 0] 144 :: .raw rb #[.string ⟨#[]⟩, .int .i64 0, .int .i64 0, .slice none 0 0] 144 :: L) from ((h.p1.rawSet 1 (.int .i64 p)).rawSet 2 (.int .i64 e)).p1); replace H := Lib.hid h; clear h)
    | (go_at_call 25; (with_reducible refine (val_topics b _ _ tl H4.out H.out).mono ?_); rintro e_ wn ⟨v_, lr, rfl, hlr, h⟩; obtain ⟨q, cap, rfl⟩ := tops_form (Know.has_right (Know.has_refl _)) h; have HLR := Lib.hid hlr; clear hlr; have f3 := h.p1.rawFree 3; have g3 := h.p1.rawCell 3; simp at g3; have h := (show St W0 (wn.setCell ⟨eb, 3, none⟩ (.slice q lr.length cap)) (K.and (Know.tops (.slice q lr.length cap) lr)) (.inp b i4 :: .raw eb #[.string (bb d), .int .i64 p, .int .i64 e, .slice q lr.length cap] 144 :: .raw rb #[.string ⟨#[]⟩, .int .i64 0, .int .i64 0, .slice none 0 0] 144 :: L) from (h.p1.rawSet 3 (.slice q lr.length cap)).p1); have c0 := h.p1.rawCell 0; have c1 := h.p1.rawCell 1; have c2 := h.p1.rawCell 2; have c3 := h.p1.rawCell 3; simp at c0 c1 c2 c3; replace H := Lib.hid h; clear h)
    | (go_at_call 119; clear c0 c1 c2 c3; (with_reducible refine (whole_err b i4 x HI.out H0.out _ H.out).mono ?_); rintro e_ wn ⟨rfl, h⟩; have c0 := h.p1.rawCell 0; have d0 := h.p2.rawCell 0; have r0 := h.p2.rawFree 0; have c1 := h.p1.rawCell 1; have d1 := h.p2.rawCell 1; have r1 := h.p2.rawFree 1; have c2 := h.p1.rawCell 2; have d2 := h.p2.rawCell 2; have r2 := h.p2.rawFree 2; have c3 := h.p1.rawCell 3; have d3 := h.p2.rawCell 3; have r3 := h.p2.rawFree 3; simp at c0 d0 c1 d1 c2 d2 c3 d3; replace H := Lib.hid h; clear h))
  have hz : St W0 _ _ (.raw rb #[.string ⟨#[]⟩, .int .i64 0, .int .i64 0, .slice none 0 0] 144 :: .inp b i4 :: .raw eb #[.string (bb d), .int .i64 p, .int .i64 e, .slice q lr.length cap] 144 :: L) := ((((H.out.p2.rawSet 0 _).rawSet 1 _).rawSet 2 _).rawSet 3 _)
  refine bodyPost_ret (rc_cell_only rfl _ _ rb [.string ⟨#[]⟩, .int .i64 0, .int .i64 0, .slice none 0 0] _ rfl (rc_range hz) Try.underlying144 rfl (by kernel_rfl)) rfl ?_
  exact ⟨rfl, (hz.drop.p1.drop).know (Know.has_left (Know.has_refl _))⟩

set_option maxHeartbeats 6000000 in
set_option maxRecDepth 100000 in
theorem read_end_chk (b : Nat) (i i1 i2 i3 i4 j : InS) (id : Bs) (p e : Int) (c : Bool) (h1 : i.text = (id, i1)) (h2 : i1.int 8 = (p, i2)) (h3 : i2.int 2 = (e, i3)) (h4 : i3.boolP = (c, i4)) (hi : i4.err = 0) (r : Int) (hr : chkW id p e = r) (h0 : r ≠ 0) (hj : i4.fail r = j) (hl : id.length ≤ 140737488355328) {W0 w : World} {K : Know} {L : List Res} (h : St W0 w K (.inp b i :: L)) :
    Calls Try.prog 91 #[inPtr b] w fun en w' => en = .returned (.agg #[.string ⟨#[]⟩, .int .i64 0, .int .i64 0, .bool false]) ∧ St W0 w' K (.inp b j :: L) := by
  obtain ⟨rb, hrb⟩ : ∃ b, w.heap.size = b := ⟨_, rfl⟩
  obtain ⟨eb, heb⟩ : ∃ b, rb + 1 = b := ⟨_, rfl⟩
  have g1 := (h.allocRaw #[.string ⟨#[]⟩, .int .i64 0, .int .i64 0, .bool false] 136).allocRaw #[.string ⟨#[]⟩, .int .i64 0, .int .i64 0, .bool false] 136
  simp only [World.size_alloc, hrb, heb] at g1
  have H := Lib.hid g1.p2
  have H1 := Lib.hid h1
  have H2 := Lib.hid h2
  have H3 := Lib.hid h3
  have H4 := Lib.hid h4
  have HI := Lib.hid hi
  have HR := Lib.hid hr
  have HL := Lib.hid hl
  have HT := Lib.hid (show (r == 0) = false by rw [beq_eq_false_iff_ne]; exact h0)
  have HJ := Lib.hid (show (if r = 0 then i4 else i4.fail r) = j by rw [if_neg h0]; exact hj)
  clear h g1 h1 h2 h3 h4 hi hr hl h0 hj
  go_enter Try.func91, Try.ntmps91
  go_wp2_with (first
    | (go_at_call 78; (with_reducible refine (blob_textV b _ _ id H1.out H.out).mono ?_); rintro e_ wn ⟨rfl, h⟩; have f0 := h.p1.rawFree 0; have g0 := h.p1.rawCell 0; simp at g0; have h := (show St W0 (wn.setCell ⟨eb, 0, none⟩ (.string (bb id))) K (.inp b i1 :: .raw eb #[.string (bb id), .int .i64 0, .int .i64 0, .bool false] 136 :: .raw rb #[.string ⟨#[]⟩, .int .i64 0, .int .i64 0, .bool false] 136 :: L) from (h.p1.rawSet 0 (.string (bb id))).p1); replace H := Lib.hid h; clear h)
    | (go_at_call 118; (with_reducible refine (txn_readWriter b _ _ _ p e H2.out H3.out H.out).mono ?_); rintro e_ wn ⟨rfl, h⟩; have f1 := h.p1.rawFree 1; have g1 := h.p1.rawCell 1; simp at g1; have f2 := h.p1.rawFree 2; have g2 := h.p1.rawCell 2; simp at g2; have h := (show St W0 ((wn.setCell ⟨eb, 1, none⟩ (.int .i64 p)).setCell ⟨eb, 2, none⟩ (.int .i64 e)) K (.inp b i3 :: .raw eb #[.string (bb id), .int .i64 p, .int .i64 e, .bool false] 136 :: .raw rb #[.string ⟨#[]⟩, .int .i64 0, .int .i64 0, .bool false] 136 :: L) from ((h.p1.rawSet 1 (.int .i64 p)).rawSet 2 (.int .i64 e)).p1); replace H := Lib.hid h; clear h)
    | (go_at_call 48; (with_reducible refine (s_bool b _ _ c H4.out H.out).mono ?_); rintro e_ wn ⟨rfl, h⟩; have f3 := h.p1.rawFree 3; have g3 := h.p1.rawCell 3; simp at g3; have h := (show St W0 (wn.setCell ⟨eb, 3, none⟩ (.bool c)) K (.inp b i4 :: .raw eb #[.string (bb id), .int .i64 p, .int .i64 e, .bool c] 136 :: .raw rb #[.string ⟨#[]⟩, .int .i64 0, .int .i64 0, .bool false] 136 :: L) from (h.p1.rawSet 3 (.bool c)).p1); have c0 := h.p1.rawCell 0; have c1 := h.p1.rawCell 1; have c2 := h.p1.rawCell 2; have c3 := h.p1.rawCell 3; simp at c0 c1 c2 c3; replace H := Lib.hid h; clear h)
    | (go_at_call 119; clear c0 c1 c2 c3; (with_reducible refine (whole_endG b i4 _ id p e c _ _ HR.out HL.out HI.out HT.out HJ.out H.out).mono ?_); rintro e_ wn ⟨rfl, h⟩; have c0 := h.p1.rawCell 0; have d0 := h.p2.rawCell 0; have r0 := h.p2.rawFree 0; have c1 := h.p1.rawCell 1; have d1 := h.p2.rawCell 1; have r1 := h.p2.rawFree 1; have c2 := h.p1.rawCell 2; have d2 := h.p2.rawCell 2; have r2 := h.p2.rawFree 2; have c3 := h.p1.rawCell 3; have d3 := h.p2.rawCell 3; have r3 := h.p2.rawFree 3; simp at c0 d0 c1 d1 c2 d2 c3 d3; replace H := Lib.hid h; clear h))
  have hz : St W0 _ _ (.raw rb #[.string ⟨#[]⟩, .int .i64 0, .int .i64 0, .bool false] 136 :: .inp b j :: .raw eb #[.string (bb id), .int .i64 p, .int .i64 e, .bool c] 136 :: L) := ((((H.out.p2.rawSet 0 _).rawSet 1 _).rawSet 2 _).rawSet 3 _)
  refine bodyPost_ret (rc_cell_only rfl _ _ rb [.string ⟨#[]⟩, .int .i64 0, .int .i64 0, .bool false] _ rfl (rc_range hz) Try.underlying136 rfl (by kernel_rfl)) rfl ?_
  exact ⟨rfl, hz.drop.p1.drop⟩

set_option maxHeartbeats 6000000 in
set_option maxRecDepth 100000 in
theorem read_end_err (b : Nat) (i i1 i2 i3 i4 : InS) (id : Bs) (p e : Int) (c : Bool) (h1 : i.text = (id, i1)) (h2 : i1.int 8 = (p, i2)) (h3 : i2.int 2 = (e, i3)) (h4 : i3.boolP = (c, i4)) (x : Int) (hi : i4.err = x) (h0 : x ≠ 0) {W0 w : World} {K : Know} {L : List Res} (h : St W0 w K (.inp b i :: L)) :
    Calls Try.prog 91 #[inPtr b] w fun en w' => en = .returned (.agg #[.string ⟨#[]⟩, .int .i64 0, .int .i64 0, .bool false]) ∧ St W0 w' K (.inp b i4 :: L) := by
  obtain ⟨rb, hrb⟩ : ∃ b, w.heap.size = b := ⟨_, rfl⟩
  obtain ⟨eb, heb⟩ : ∃ b, rb + 1 = b := ⟨_, rfl⟩
  have g1 := (h.allocRaw #[.string ⟨#[]⟩, .int .i64 0, .int .i64 0, .bool false] 136).allocRaw #[.string ⟨#[]⟩, .int .i64 0, .int .i64 0, .bool false] 136
  simp only [World.size_alloc, hrb, heb] at g1
  have H := Lib.hid g1.p2
  have H1 := Lib.hid h1
  have H2 := Lib.hid h2
  have H3 := Lib.hid h3
  have H4 := Lib.hid h4
  have HI := Lib.hid hi
  have H0 := Lib.hid h0
  clear h g1 h1 h2 h3 h4 hi h0
  go_enter Try.func91, Try.ntmps91
  go_wp2_with (first
    | (go_at_call 78; (with_reducible refine (blob_textV b _ _ id H1.out H.out).mono ?_); rintro e_ wn ⟨rfl, h⟩; have f0 := h.p1.rawFree 0; have g0 := h.p1.rawCell 0; simp at g0; have h := (show St W0 (wn.setCell ⟨eb, 0, none⟩ (.string (bb id))) K (.inp b i1 :: .raw eb #[.string (bb id), .int .i64 0, .int .i64 0, .bool false] 136 :: .raw rb #[.string ⟨#[]⟩, .int .i64 0, .int .i64 0, .bool false] 136 :: L) from (h.p1.rawSet 0 (.string (bb id))).p1); replace H := Lib.hid h; clear h)
    | (go_at_call 118; (with_reducible refine (txn_readWriter b _ _ _ p e H2.out H3.out H.out).mono ?_); rintro e_ wn ⟨rfl, h⟩; have f1 := h.p1.rawFree 1; have g1 := h.p1.rawCell 1; simp at g1; have f2 := h.p1.rawFree 2; have g2 := h.p1.rawCell 2; simp at g2; have h := (show St W0 ((wn.setCell ⟨eb, 1, none⟩ (.int .i64 p)).setCell ⟨eb, 2, none⟩ (.int .i64 e)) K (.inp b i3 :: .raw eb #[.string (bb id), .int .i64 p, .int .i64 e, .bool false] 136 :: .raw rb #[.string ⟨#[]⟩, .int .i64 0, .int .i64 0, .bool false] 136 :: L) from ((h.p1.rawSet 1 (.int .i64 p)).rawSet 2 (.int .i64 e)).p1); replace H := Lib.hid h; clear h)
    | (go_at_call 48; (with_reducible refine (s_bool b _ _ c H4.out H.out).mono ?_); rintro e_ wn ⟨rfl, h⟩; have f3 := h.p1.rawFree 3; have g3 := h.p1.rawCell 3; simp at g3; have h := (show St W0 (wn.setCell ⟨eb, 3, none⟩ (.bool c)) K (.inp b i4 :: .raw eb #[.string (bb id), .int .i64 p, .int .i64 e, .bool c] 136 :: .raw rb #[.string ⟨#[]⟩, .int .i64 0, .int .i64 0, .bool false] 136 :: L) from (h.p1.rawSet 3 (.bool c)).p1); have c0 := h.p1.rawCell 0; have c1 := h.p1.rawCell 1; have c2 := h.p1.rawCell 2; have c3 := h.p1.rawCell 3; simp at c0 c1 c2 c3; replace H := Lib.hid h; clear h)
    | (go_at_call 119; clear c0 c1 c2 c3; (with_reducible refine (whole_err b i4 x HI.out H0.out _ H.out).mono ?_); rintro e_ wn ⟨rfl, h⟩; have c0 := h.p1.rawCell 0; have d0 := h.p2.rawCell 0; have r0 := h.p2.rawFree 0; have c1 := h.p1.rawCell 1; have d1 := h.p2.rawCell 1; have r1 := h.p2.rawFree 1; have c2 := h.p1.rawCell 2; have d2 := h.p2.rawCell 2; have r2 := h.p2.rawFree 2; have c3 := h.p1.rawCell 3; have d3 := h.p2.rawCell 3; have r3 := h.p2.rawFree 3; simp at c0 d0 c1 d1 c2 d2 c3 d3; replace H := Lib.hid h; clear h))
  have hz : St W0 _ _ (.raw rb #[.string ⟨#[]⟩, .int .i64 0, .int .i64 0, .bool false] 136 :: .inp b i4 :: .raw eb #[.string (bb id), .int .i64 p, .int .i64 e, .bool c] 136 :: L) := ((((H.out.p2.rawSet 0 _).rawSet 1 _).rawSet 2 _).rawSet 3 _)
  refine bodyPost_ret (rc_cell_only rfl _ _ rb [.string ⟨#[]⟩, .int .i64 0, .int .i64 0, .bool false] _ rfl (rc_range hz) Try.underlying136 rfl (by kernel_rfl)) rfl ?_
  exact ⟨rfl, hz.drop.p1.drop⟩

end Go.Proofs.Ytombolmicfjjpaa

/- Ends of transactions, read. -/
namespace Go.Proofs.Ytombolmicfjjpaa
open Go.RowKit

set_option maxHeartbeats 1000000 in
set_option maxRecDepth 100000 in
theorem whole_end (b : Nat) (i : InS) (id : Bs) (p e : Int) (c : Bool) (hi : i.err = 0) (hr : chkW id p e = 0) (hl : id.length ≤ 140737488355328) {W0 w : World} {K : Know} {L : List Res} (h : St W0 w K (.inp b i :: L)) :
    Calls Try.prog 119 #[inPtr b, .iface 136 (.agg #[.string (bb id), .int .i64 p, .int .i64 e, .bool c])] w fun en w' => en = .returned (.bool true) ∧ St W0 w' K (.inp b i :: L) := by
  have H := Lib.hid h
  have HI := Lib.hid hi
  have HR := Lib.hid hr
  have HL := Lib.hid hl
  clear h hi hr hl
  go_enter Try.func119, Try.ntmps119
  go_wp2_with (first
    | (go_at_call 27; (with_reducible refine (s_errV b _ _ HI.out H.out).mono ?_); rintro e_ wn ⟨rfl, h⟩; replace H := Lib.hid h; clear h)
    | (go_at_call 96; (with_reducible refine (end_check id p e c _ HR.out HL.out H.out).mono ?_); rintro e_ wn ⟨rfl, h⟩; replace H := Lib.hid h; clear h))
  go_ret
  exact ⟨rfl, H.out⟩

set_option maxHeartbeats 2000000 in
set_option maxRecDepth 100000 in
theorem read_end_ok (b : Nat) (i i1 i2 i3 i4 : InS) (id : Bs) (p e : Int) (c : Bool) (h1 : i.text = (id, i1)) (h2 : i1.int 8 = (p, i2)) (h3 : i2.int 2 = (e, i3)) (h4 : i3.boolP = (c, i4)) (hi : i4.err = 0) (hr : chkW id p e = 0) (hl : id.length ≤ 140737488355328) {W0 w : World} {K : Know} {L : List Res} (h : St W0 w K (.inp b i :: L)) :
    Calls Try.prog 91 #[inPtr b] w fun en w' => en = .returned (.agg #[.string (bb id), .int .i64 p, .int .i64 e, .bool c]) ∧ St W0 w' K (.inp b i4 :: L) := by
  obtain ⟨rb, hrb⟩ : ∃ b, w.heap.size = b := ⟨_, rfl⟩
  obtain ⟨eb, heb⟩ : ∃ b, rb + 1 = b := ⟨_, rfl⟩
  have g1 := (h.allocRaw #[.string ⟨#[]⟩, .int .i64 0, .int .i64 0, .bool false] 136).allocRaw #[.string ⟨#[]⟩, .int .i64 0, .int .i64 0, .bool false] 136
  simp only [World.size_alloc, hrb, heb] at g1
  have H := Lib.hid g1.p2
  have H1 := Lib.hid h1
  have H2 := Lib.hid h2
  have H3 := Lib.hid h3
  have H4 := Lib.hid h4
  have HI := Lib.hid hi
  have HR := Lib.hid hr
  have HL := Lib.hid hl
  clear h g1 h1 h2 h3 h4 hi hr hl
  go_enter Try.func91, Try.ntmps91
  go_wp2_with (first
    | (go_at_call 78; (with_reducible refine (blob_textV b _ _ id H1.out H.out).mono ?_); rintro e_ wn ⟨rfl, h⟩; have f0 := h.p1.rawFree 0; have g0 := h.p1.rawCell 0; simp at g0; have h := (show St W0 (wn.setCell ⟨eb, 0, none⟩ (.string (bb id))) K (.inp b i1 :: .raw eb #[.string (bb id), .int .i64 0, .int .i64 0, .bool false] 136 :: .raw rb #[.string ⟨#[]⟩, .int .i64 0, .int .i64 0, .bool false] 136 :: L) from (h.p1.rawSet 0 (.string (bb id))).p1); replace H := Lib.hid h; clear h)
    | (go_at_call 118; (with_reducible refine (txn_readWriter b _ _ _ p e H2.out H3.out H.out).mono ?_); rintro e_ wn ⟨rfl, h⟩; have f1 := h.p1.rawFree 1; have g1 := h.p1.rawCell 1; simp at g1; have f2 := h.p1.rawFree 2; have g2 := h.p1.rawCell 2; simp at g2; have h := (show St W0 ((wn.setCell ⟨eb, 1, none⟩ (.int .i64 p)).setCell ⟨eb, 2, none⟩ (.int .i64 e)) K (.inp b i3 :: .raw eb #[.string (bb id), .int .i64 p, .int .i64 e, .bool false] 136 :: .raw rb #[.string ⟨#[]⟩, .int .i64 0, .int .i64 0, .bool false] 136 :: L) from ((h.p1.rawSet 1 (.int .i64 p)).rawSet 2 (.int .i64 e)).p1); replace H := Lib.hid h; clear h)
    | (go_at_call 48; (with_reducible refine (s_bool b _ _ c H4.out H.out).mono ?_); rintro e_ wn ⟨rfl, h⟩; have f3 := h.p1.rawFree 3; have g3 := h.p1.rawCell 3; simp at g3; have h := (show St W0 (wn.setCell ⟨eb, 3, none⟩ (.bool c)) K (.inp b i4 :: .raw eb #[.string (bb id), .int .i64 p, .int .i64 e, .bool c] 136 :: .raw rb #[.string ⟨#[]⟩, .int .i64 0, .int .i64 0, .bool false] 136 :: L) from (h.p1.rawSet 3 (.bool c)).p1); have c0 := h.p1.rawCell 0; have c1 := h.p1.rawCell 1; have c2 := h.p1.rawCell 2; have c3 := h.p1.rawCell 3; simp at c0 c1 c2 c3; replace H := Lib.hid h; clear h)
    | (go_at_call 119; (with_reducible refine (whole_end b i4 id p e c HI.out HR.out HL.out H.out).mono ?_); rintro e_ wn ⟨rfl, h⟩; have c0 := h.p1.rawCell 0; have d0 := h.p2.rawCell 0; have r0 := h.p2.rawFree 0; have c1 := h.p1.rawCell 1; have d1 := h.p2.rawCell 1; have r1 := h.p2.rawFree 1; have c2 := h.p1.rawCell 2; have d2 := h.p2.rawCell 2; have r2 := h.p2.rawFree 2; have c3 := h.p1.rawCell 3; have d3 := h.p2.rawCell 3; have r3 := h.p2.rawFree 3; simp at c0 c1 c2 c3 d0 d1 d2 d3; replace H := Lib.hid h; clear h))
  have hz : St W0 _ _ (.raw rb #[.string (bb id), .int .i64 p, .int .i64 e, .bool c] 136 :: .inp b i4 :: .raw eb #[.string (bb id), .int .i64 p, .int .i64 e, .bool c] 136 :: L) := ((((H.out.p2).rawSet 0 _).rawSet 1 _).rawSet 2 _).rawSet 3 _
  refine bodyPost_ret (rc_cell_only rfl _ _ rb [.string (bb id), .int .i64 p, .int .i64 e, .bool c] _ rfl (rc_range hz) Try.underlying136 rfl (by kernel_rfl)) rfl ?_
  exact ⟨rfl, hz.drop.p1.drop⟩

end Go.Proofs.Ytombolmicfjjpaa
