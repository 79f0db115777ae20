/- Through the layers, walked: WholeEnds: what it stands on, and its short ways. -/
import Derived.Test.YtkenneeejdngaaaCtl3
import Derived.Test.YtkenneeejdngaaaRec8
import Derived.Test.YtkenneeejdngaaaKeyP
import Derived.BigQuiet
namespace Go.Proofs.Ytkenneeejdngaaa
open Go.RowKit

theorem rec_encodeC (t o : Int) (n1 n2 : Bool) (d1 d2 : Bs) (l : List HdrS) (v : Value) (e : Int) (s : Bs) (hx : (⟨t, o, ⟨n1, d1⟩, ⟨n2, d2⟩, l⟩ : RecS).R) (hs : (⟨t, o, ⟨n1, d1⟩, ⟨n2, d2⟩, l⟩ : RecS).sum ≤ 1000000) (he : recOk ⟨t, o, ⟨n1, d1⟩, ⟨n2, d2⟩, l⟩ = e) (hss : encOk ⟨t, o, ⟨n1, d1⟩, ⟨n2, d2⟩, l⟩ = s) {W0 w : World} {K : Know} {L : List Res} (hk : K.has (Know.flat RHdr v 3 l)) (h : St W0 w K L) :
    Calls Try.prog 36 #[.agg #[.int .i64 t, .int .i64 o, .bool n1, .string (bb d1), .bool n2, .string (bb d2), v]] w fun en w' => en = .returned (.tuple #[.string (bb s), .int .i64 e]) ∧ St W0 w' K L :=
  rec_encode ⟨t, o, ⟨n1, d1⟩, ⟨n2, d2⟩, l⟩ v e s hx hs he hss hk h
theorem rec_decodeC (s : Bs) (t o : Int) (n1 n2 : Bool) (d1 d2 : Bs) (l : List HdrS) (e : Int) (hx : decR s = ⟨t, o, ⟨n1, d1⟩, ⟨n2, d2⟩, l⟩) (he : (decJ s).err = e) (hl : s.length ≤ 140737488355328) {W0 w : World} {K : Know} {L : List Res} (h : St W0 w K L) :
    Calls Try.prog 39 #[.string (bb s)] w fun en w' => ∃ v, en = .returned (.tuple #[.agg #[.int .i64 t, .int .i64 o, .bool n1, .string (bb d1), .bool n2, .string (bb d2), v], .int .i64 e]) ∧ St W0 w' (K.and (Know.flat RHdr v 3 l)) L :=
  rec_decode s ⟨t, o, ⟨n1, d1⟩, ⟨n2, d2⟩, l⟩ e hx he hl h
theorem flat_form0 {W0 w : World} {K : Know} {L : List Res} {α : Type} {R : List Value → α → Prop} {sz : Nat} {v : Value} (hk : K.has (Know.flat R v sz ([] : List α))) (h : St W0 w K L) : ∃ q cap, v = .slice q 0 cap := flat_form hk h
theorem flat_form1 {W0 w : World} {K : Know} {L : List Res} {α : Type} {R : List Value → α → Prop} {sz : Nat} {v : Value} {x : α} (hk : K.has (Know.flat R v sz [x])) (h : St W0 w K L) : ∃ q cap, v = .slice q 1 cap := flat_form hk h
theorem St.hdrRow {W0 w : World} {K : Know} {L : List Res} (key : Bs) (h : St W0 w K L) : St W0 (w.alloc (.cells #[.string (bb key), .bool false, .string ⟨#[]⟩] 57)) (K.and (Know.flat RHdr (.slice (some ⟨w.heap.size, 0, none⟩) 1 1) 3 [(⟨key, ⟨false, []⟩⟩ : HdrS)])) L :=
  St.freezeRow (l := [(⟨key, ⟨false, []⟩⟩ : HdrS)]) (f := hcells) (h.rowLit [.string (bb key), .bool false, .string ⟨#[]⟩] 57 3 1 rfl (by decide)) (fun x hx => by simp at hx; subst hx; exact ⟨rfl, rfl⟩)
theorem ctlKey_of {n : Int} {ks : Bs} (h : ctlKey n = (ks, 0)) : (n = 0 ∨ n = 1) ∧ ks = verB n 2 := by
  unfold ctlKey at h
  split at h
  · rename_i hw; cases h; exact ⟨hw, rfl⟩
  · cases h
theorem ctlVal_of {n : Int} {ks : Bs} (h : ctlVal n = (ks, 0)) : (0 ≤ n ∧ n < 2147483648) ∧ ks = verB n 4 := by
  unfold ctlVal at h
  split at h
  · rename_i hw; cases h; exact ⟨hw, rfl⟩
  · cases h
theorem verRd2_ok {s : Bs} (h : (verRd 2 way 12 s).2 = 0) : s = [0, 0, 0, 0] ∨ s = [0, 0, 0, 1] := by
  unfold verRd at h
  split at h
  · cases h
  rename_i c1
  split at h
  · cases h
  rename_i c2
  split at h
  · cases h
  rename_i c3
  split at h
  · cases h
  rename_i c4
  split at h
  · cases h
  rename_i c5
  match s, c1, c3, c5 with
  | [a, b, c, d], _, _, _ =>
    have h1 : beBytes (sInt [a, b]) 2 = [a, b] := beBytes_sInt [a, b]
    have h2 : beBytes (sInt [c, d]) 2 = [c, d] := beBytes_sInt [c, d]
    have e1 : sInt [a, b] = 0 := by simpa using c2
    have e2 : sInt [c, d] = 0 ∨ sInt [c, d] = 1 := by
      unfold way at c4
      simp at c4
      omega
    rw [e1] at h1
    have h1 : ([0, 0] : Bs) = [a, b] := h1
    simp at h1
    obtain ⟨rfl, rfl⟩ := h1
    rcases e2 with e2 | e2
    · rw [e2] at h2
      have h2 : ([0, 0] : Bs) = [c, d] := h2
      simp at h2
      obtain ⟨rfl, rfl⟩ := h2
      exact .inl rfl
    · rw [e2] at h2
      have h2 : ([0, 1] : Bs) = [c, d] := h2
      simp at h2
      obtain ⟨rfl, rfl⟩ := h2
      exact .inr rfl
  | [], h, _, _ => exact absurd (show ([] : Bs).length < 2 by decide) h
  | [a], h, _, _ => exact absurd (show [a].length < 2 by simp) h
  | [a, b], _, h, _ => exact absurd (show [a, b].length < 2 + 2 by simp) h
  | [a, b, c], _, h, _ => exact absurd (show [a, b, c].length < 2 + 2 by simp) h
  | a :: b :: c :: d :: e :: t, _, _, h => exact absurd (show 2 + 2 < (a :: b :: c :: d :: e :: t).length by simp) h

set_option maxHeartbeats 1000000 in
set_option maxRecDepth 100000 in
theorem wholeEnds_kind (n m tm : Int) (key : Bs) (hn : -9223372036854775808 ≤ n ∧ n < 9223372036854775808) (hm : -9223372036854775808 ≤ m ∧ m < 9223372036854775808) (e : Int) (hk : ctlKey n = ([], e)) (he : (e != 0) = true) {W0 w : World} (h : St W0 w Know.none []) :
    Calls Try.prog 14 #[.agg #[.int .i64 n, .int .i64 m], .int .i64 tm, .string (bb key)] w fun en w' => en = .returned (.bool true) ∧ Below W0.heap.size W0 w' := by
  obtain ⟨wP, hwP⟩ : ∃ b, w.heap.size = b := ⟨_, rfl⟩
  have h0 := h.allocRaw #[.int .i64 n, .int .i64 m] 87
  rw [hwP] at h0
  have pc0 : _ = some (Value.int .i64 n) := h0.rawCell 0
  have pc1 : _ = some (Value.int .i64 m) := h0.rawCell 1
  have H := Lib.hid h0
  have HN := Lib.hid hn
  have HM := Lib.hid hm
  have k1 : True := trivial
  have EK := Lib.hid hk
  clear h h0 hn hm hk
  go_enter Try.func14, Try.ntmps14
  go_wp2
  go_quiet (fail)
  go_wp2_with (first
    | (go_at_call 50; have _t := k1; clear _t; refine (ctl_record_ok 1 7 [0, 0, 0, 1] (verB 7 4) (by decide +kernel) (by decide +kernel) (by decide) (by decide) (H.out.drewN _)).mono ?_; rintro e wn ⟨rfl, h⟩; obtain ⟨wQ, hwQ⟩ : ∃ b, wn.heap.size = b := ⟨_, rfl⟩; have h := h.allocRaw #[.int .i64 0, .int .i64 0, .bool false, .string (bb [0, 0, 0, 1]), .bool false, .string (bb (verB 7 4)), .slice none 0 0] 62; rw [hwQ] at h; replace H := Lib.hid h; clear h; clear k1; have k2 : True := trivial; obtain ⟨qc0, qc1, qc2, qc3, qc4, qc5, qc6, qf0, qf1, qf2, qf3, qf4, qf5, qf6⟩ := raw7 (b := wQ) (H.out))
    | (go_at_call 50; have _t := k2; clear _t; refine (ctl_record_kind n m e EK.out he HN.out HM.out H.out).mono ?_; rintro e wn ⟨rfl, h⟩; obtain ⟨wR, hwR⟩ : ∃ b, wn.heap.size = b := ⟨_, rfl⟩; have h := h.allocRaw #[.int .i64 0, .int .i64 0, .bool false, .string ⟨#[]⟩, .bool false, .string ⟨#[]⟩, .slice none 0 0] 62; rw [hwR] at h; replace H := Lib.hid h; clear h; clear k2; have k3 : True := trivial))
  go_ret
  exact ⟨rfl, H.out.below⟩

set_option maxHeartbeats 1000000 in
set_option maxRecDepth 100000 in
theorem wholeEnds_time (n m tm : Int) (key : Bs) (hn : -9223372036854775808 ≤ n ∧ n < 9223372036854775808) (hm : -9223372036854775808 ≤ m ∧ m < 9223372036854775808) (ks : Bs) (e : Int) (hk : ctlKey n = (ks, 0)) (hv : ctlVal m = ([], e)) (he : (e != 0) = true) {W0 w : World} (h : St W0 w Know.none []) :
    Calls Try.prog 14 #[.agg #[.int .i64 n, .int .i64 m], .int .i64 tm, .string (bb key)] w fun en w' => en = .returned (.bool true) ∧ Below W0.heap.size W0 w' := by
  obtain ⟨wP, hwP⟩ : ∃ b, w.heap.size = b := ⟨_, rfl⟩
  have h0 := h.allocRaw #[.int .i64 n, .int .i64 m] 87
  rw [hwP] at h0
  have pc0 : _ = some (Value.int .i64 n) := h0.rawCell 0
  have pc1 : _ = some (Value.int .i64 m) := h0.rawCell 1
  have H := Lib.hid h0
  have HN := Lib.hid hn
  have HM := Lib.hid hm
  have k1 : True := trivial
  have EK := Lib.hid hk
  have EV := Lib.hid hv
  clear h h0 hn hm hk hv
  go_enter Try.func14, Try.ntmps14
  go_wp2
  go_quiet (fail)
  go_wp2_with (first
    | (go_at_call 50; have _t := k1; clear _t; refine (ctl_record_ok 1 7 [0, 0, 0, 1] (verB 7 4) (by decide +kernel) (by decide +kernel) (by decide) (by decide) (H.out.drewN _)).mono ?_; rintro e wn ⟨rfl, h⟩; obtain ⟨wQ, hwQ⟩ : ∃ b, wn.heap.size = b := ⟨_, rfl⟩; have h := h.allocRaw #[.int .i64 0, .int .i64 0, .bool false, .string (bb [0, 0, 0, 1]), .bool false, .string (bb (verB 7 4)), .slice none 0 0] 62; rw [hwQ] at h; replace H := Lib.hid h; clear h; clear k1; have k2 : True := trivial; obtain ⟨qc0, qc1, qc2, qc3, qc4, qc5, qc6, qf0, qf1, qf2, qf3, qf4, qf5, qf6⟩ := raw7 (b := wQ) (H.out))
    | (go_at_call 50; have _t := k2; clear _t; refine (ctl_record_time n m ks e EK.out EV.out he HN.out HM.out H.out).mono ?_; rintro e wn ⟨rfl, h⟩; obtain ⟨wR, hwR⟩ : ∃ b, wn.heap.size = b := ⟨_, rfl⟩; have h := h.allocRaw #[.int .i64 0, .int .i64 0, .bool false, .string ⟨#[]⟩, .bool false, .string ⟨#[]⟩, .slice none 0 0] 62; rw [hwR] at h; replace H := Lib.hid h; clear h; clear k2; have k3 : True := trivial))
  go_ret
  exact ⟨rfl, H.out.below⟩

set_option maxHeartbeats 1000000 in
set_option maxRecDepth 100000 in
theorem wholeEnds_long (n m tm : Int) (key : Bs) (hn : -9223372036854775808 ≤ n ∧ n < 9223372036854775808) (hm : -9223372036854775808 ≤ m ∧ m < 9223372036854775808) (ks vs : Bs) (hk : ctlKey n = (ks, 0)) (hv : ctlVal m = (vs, 0)) (hl : 200 < key.length) {W0 w : World} (h : St W0 w Know.none []) :
    Calls Try.prog 14 #[.agg #[.int .i64 n, .int .i64 m], .int .i64 tm, .string (bb key)] w fun en w' => en = .returned (.bool true) ∧ Below W0.heap.size W0 w' := by
  obtain ⟨wP, hwP⟩ : ∃ b, w.heap.size = b := ⟨_, rfl⟩
  have h0 := h.allocRaw #[.int .i64 n, .int .i64 m] 87
  rw [hwP] at h0
  have pc0 : _ = some (Value.int .i64 n) := h0.rawCell 0
  have pc1 : _ = some (Value.int .i64 m) := h0.rawCell 1
  have H := Lib.hid h0
  have HN := Lib.hid hn
  have HM := Lib.hid hm
  have k1 : True := trivial
  have EK := Lib.hid hk
  have EV := Lib.hid hv
  have hlb : decide ((200 : Int) < (key.length : Int)) = true := decide_eq_true (by omega)
  clear h h0 hn hm hk hv hl
  go_enter Try.func14, Try.ntmps14
  go_wp2
  go_quiet (fail)
  go_wp2_with (first
    | (go_at_call 50; have _t := k1; clear _t; refine (ctl_record_ok 1 7 [0, 0, 0, 1] (verB 7 4) (by decide +kernel) (by decide +kernel) (by decide) (by decide) (H.out.drewN _)).mono ?_; rintro e wn ⟨rfl, h⟩; obtain ⟨wQ, hwQ⟩ : ∃ b, wn.heap.size = b := ⟨_, rfl⟩; have h := h.allocRaw #[.int .i64 0, .int .i64 0, .bool false, .string (bb [0, 0, 0, 1]), .bool false, .string (bb (verB 7 4)), .slice none 0 0] 62; rw [hwQ] at h; replace H := Lib.hid h; clear h; clear k1; have k2 : True := trivial; obtain ⟨qc0, qc1, qc2, qc3, qc4, qc5, qc6, qf0, qf1, qf2, qf3, qf4, qf5, qf6⟩ := raw7 (b := wQ) (H.out))
    | (go_at_call 50; have _t := k2; clear _t; refine (ctl_record_ok n m ks vs EK.out EV.out HN.out HM.out H.out).mono ?_; rintro e wn ⟨rfl, h⟩; obtain ⟨wR, hwR⟩ : ∃ b, wn.heap.size = b := ⟨_, rfl⟩; have h := h.allocRaw #[.int .i64 0, .int .i64 0, .bool false, .string (bb ks), .bool false, .string (bb vs), .slice none 0 0] 62; rw [hwR] at h; replace H := Lib.hid h; clear h; clear k2; have k3 : True := trivial))
  go_ret
  exact ⟨rfl, H.out.below⟩

end Go.Proofs.Ytkenneeejdngaaa
