/- Values, read by definition: early ends. -/
import Derived.Test.YtombolmicfjjpaaGMarkReads4
import Derived.Test.YtombolmicfjjpaaRecP
import Derived.Test.YtombolmicfjjpaaRecs
import Derived.Test.YtombolmicfjjpaaSep
import Derived.Deep.MidRow
import Derived.Test.YtombolmicfjjpaaGMarkReads2
import Derived.Test.YtombolmicfjjpaaS1
import Derived.Test.YtombolmicfjjpaaVBack
import Derived.Test.YtombolmicfjjpaaBlobP
import Derived.Deep.RegionHeld3
import Derived.BigQuiet
import Derived.Test.YtombolmicfjjpaaGrow
import Derived.Deep.DeepCutAuto
import Derived.RegionTactic
/- Batches (pure): which may be. -/
namespace Go.Proofs.Ytombolmicfjjpaa
open Go.RowKit

structure BatS where
  base : Int
  leader : Int
  app : Bool
  txn : Bool
  ctl : Bool
  last : Int
  first : Int
  maxt : Int
  prod : Int
  epoch : Int
  seq : Int
  recs : List RecS
deriving DecidableEq
def BatS.zero : BatS := ⟨0, 0, false, false, false, 0, 0, 0, 0, 0, 0, []⟩
def Rn (n : Int) : Prop := -9223372036854775808 ≤ n ∧ n < 9223372036854775808
def BatS.R (b : BatS) : Prop := Rn b.base ∧ Rn b.leader ∧ Rn b.last ∧ Rn b.first ∧ Rn b.maxt ∧ Rn b.prod ∧ Rn b.epoch ∧ Rn b.seq
def BatS.signed (b : BatS) : Bool :=
  if b.prod = -1 then decide (b.epoch = -1 ∧ b.seq = -1 ∧ b.txn = false)
  else if b.prod < 0 ∨ ¬ (0 ≤ b.epoch ∧ b.epoch ≤ 32767) then false
  else if b.ctl then decide (b.seq = -1)
  else decide (0 ≤ b.seq ∧ b.seq ≤ 2147483647)
/-- The greatest time of records behind a first one, or why their places and times may not be. -/
def rowsC (first last : Int) : List RecS → Int → Int → Except Int Int
  | [], _, g => .ok g
  | r :: t, ah, g => if r.off ≤ ah ∨ last < r.off then .error 13 else if r.time < -first ∨ 9223372036854775807 - first < r.time then .error 11 else rowsC first last t r.off (max g (first + r.time))
def rowsE (app : Bool) (maxt : Int) (r : Except Int Int) : Int := match r with
  | .error e => e
  | .ok g => if app = false ∧ maxt ≠ g then 11 else 0
def BatS.rows (b : BatS) : Int := rowsE b.app b.maxt (rowsC b.first b.last b.recs (-1) b.first)
def ctlOf (r : RecS) : Int × Int × Int := ctlRead r.key.null r.val.null r.key.data r.val.data r.hdrs.length r.off
def BatS.ends (b : BatS) : Int := match b.recs with | [] => 0 | r :: _ => (ctlOf r).2.2
end Go.Proofs.Ytombolmicfjjpaa

/- Batches (pure): rows. -/
namespace Go.Proofs.Ytombolmicfjjpaa
open Go.RowKit

end Go.Proofs.Ytombolmicfjjpaa

/- Ends of transactions as batches (pure). -/
namespace Go.Proofs.Ytombolmicfjjpaa
open Go.RowKit

theorem rc_cell_only {P : Program} {fn : Func} {p : Tmp} {ty : TypeId} (h : fn.results = #[.cell p ty]) (tmps : Array Value) (w : World) (b : Nat) (cs : List Value) (d : TypeDesc)
    (hp : tmps.getD p undef = .pointer (some ⟨b, 0, none⟩)) (hc : w.rangeAt b 0 cs) (hu : P.underlying ty = some d) (hd : d.isRow = true) (hi : (P.info? ty).map (·.size) = some cs.length) :
    (results fn tmps).run P w = .ok (.agg cs.toArray) w := by
  have hp' : tmps[p]?.getD undef = .pointer (some ⟨b, 0, none⟩) := by simpa using hp
  simp [results, h, hp', asAddr, run_loadVar_mid w b 0 ty cs d hc hu hd hi]
theorem rc_range {W0 w : World} {K : Know} {L : List Res} {b : Nat} {c : List Value} {T : TypeId} (h : St W0 w K (.raw b c.toArray T :: L)) : w.rangeAt b 0 c := by
  intro j v hv
  rw [Nat.zero_add, h.rawCell j]
  simpa using hv
end Go.Proofs.Ytombolmicfjjpaa

/- The fields of a value, read. -/
namespace Go.Proofs.Ytombolmicfjjpaa
open Go.RowKit

end Go.Proofs.Ytombolmicfjjpaa

/- Values, decoded. -/
namespace Go.Proofs.Ytombolmicfjjpaa
open Go.RowKit

theorem s_failV (p : Nat) (i j : InS) (e : Int) (hx : i.fail e = j) {W0 w : World} {K : Know} {L : List Res} (h : St W0 w K (.inp p i :: L)) :
    Calls Try.prog 73 #[inPtr p, .int .i64 e] w fun en w' => en = .returned (.tuple #[]) ∧ St W0 w' K (.inp p j :: L) := by
  subst hx; exact s_fail p i e h
end Go.Proofs.Ytombolmicfjjpaa

/- Parts of requests of transactions. -/
namespace Go.Proofs.Ytombolmicfjjpaa
open Go.RowKit

set_option maxHeartbeats 1000000 in
set_option maxRecDepth 100000 in
theorem txn_who (p e : Int) (r : Bool) (hr : who p e = r) {W0 w : World} {K : Know} {L : List Res} (h : St W0 w K L) :
    Calls Try.prog 46 #[.int .i64 p, .int .i64 e] w fun en w' => en = .returned (.bool r) ∧ St W0 w' K L := by
  have H := Lib.hid h
  clear h
  cases r with
  | true =>
    obtain ⟨h1, h2, h3⟩ := who_t hr
    clear hr

    go_enter Try.func46, Try.ntmps46
    go_wp2
    go_ret
    exact ⟨rfl, H.out⟩
  | false =>
    by_cases h1 : p < 0
    · have g1 : ¬ (0 ≤ p) := by omega
      clear hr

      go_enter Try.func46, Try.ntmps46
      go_wp2
      go_ret
      exact ⟨rfl, H.out⟩
    · have g1 : 0 ≤ p := by omega
      by_cases h2 : e < 0
      · have g2 : ¬ (0 ≤ e) := by omega
        clear hr

        go_enter Try.func46, Try.ntmps46
        go_wp2
        go_ret
        exact ⟨rfl, H.out⟩
      · have g2 : 0 ≤ e := by omega
        have g3 : ¬ (e ≤ 32767) := by rcases who_f hr with h | h | h <;> omega
        clear hr

        go_enter Try.func46, Try.ntmps46
        go_wp2
        go_ret
        exact ⟨rfl, H.out⟩

set_option maxHeartbeats 1000000 in
set_option maxRecDepth 100000 in
theorem txn_rise (l : List (TopS × Value)) (q : Option Addr) (cap : Nat) (E : Int) (hE : riseE (l.map (·.1)) = E) (hf : FewT l) {W0 w : World} {K : Know} {L : List Res} (hk : K.has (Know.tops (.slice q l.length cap) l)) (h : St W0 w K L) :
    Calls Try.prog 47 #[.slice q l.length cap] w fun en w' => en = .returned (.int .i64 E) ∧ St W0 w' K L := by
  have H := Lib.hid h
  have HE := Lib.hid ((riseE_eq _).trans hE)
  have HF := Lib.hid hf
  have HK := Lib.hid hk
  clear h hE hf hk
  go_enter Try.func47, Try.ntmps47
  go_wp2_with (go_at_call 17; (with_reducible refine (val_checkV 0 0 0 1 0 0 l _ _ _ HE.out HF.out HK.out H.out).mono ?_); rintro e_ wn ⟨rfl, h⟩; replace H := Lib.hid h; clear h)
  go_ret
  exact ⟨rfl, H.out⟩
set_option maxHeartbeats 1000000 in
set_option maxRecDepth 100000 in
theorem s_bool (b : Nat) (i j : InS) (c : Bool) (hx : i.boolP = (c, j)) {W0 w : World} {K : Know} {L : List Res} (h : St W0 w K (.inp b i :: L)) :
    Calls Try.prog 48 #[inPtr b] w fun en w' => en = .returned (.bool c) ∧ St W0 w' K (.inp b j :: L) := by
  have H := Lib.hid h
  clear h
  obtain ⟨⟨n, k⟩, hn⟩ : ∃ r, i.int 1 = r := ⟨_, rfl⟩
  have HN := Lib.hid hn
  unfold InS.boolP at hx
  rw [hn] at hx
  simp only [Prod.mk.injEq] at hx
  obtain ⟨hc, hj⟩ := hx
  clear hn
  by_cases h0 : n = 0
  · rw [if_neg (by omega)] at hj
    subst h0 hj hc
    go_enter Try.func48, Try.ntmps48
    go_wp2_with (go_at_call 72; (with_reducible refine (s_intV b _ _ _ 1 HN.out H.out).mono ?_); rintro e_ wn ⟨rfl, h⟩; replace H := Lib.hid h; clear h)
    go_ret
    exact ⟨rfl, H.out⟩
  · by_cases h1 : n = 1
    · rw [if_neg (by omega)] at hj
      subst h1 hj hc
      go_enter Try.func48, Try.ntmps48
      go_wp2_with (go_at_call 72; (with_reducible refine (s_intV b _ _ _ 1 HN.out H.out).mono ?_); rintro e_ wn ⟨rfl, h⟩; replace H := Lib.hid h; clear h)
      go_ret
      exact ⟨rfl, H.out⟩
    · rw [if_pos ⟨h0, h1⟩] at hj
      have g0 : (n == 0) = false := by rw [beq_eq_false_iff_ne]; exact h0
      have g00 : (n != 0) = true := by simp [bne, g0]
      have g1 : (n == 1) = false := by rw [beq_eq_false_iff_ne]; exact h1
      have g11 : (n != 1) = true := by simp [bne, g1]
      rw [g1] at hc
      subst hc
      have HJ := Lib.hid hj
      clear hj h0 h1
      go_enter Try.func48, Try.ntmps48
      go_wp2_with (first
    | (go_at_call 72; (with_reducible refine (s_intV b _ _ _ 1 HN.out H.out).mono ?_); rintro e_ wn ⟨rfl, h⟩; replace H := Lib.hid h; clear h)
    | (go_at_call 73; (with_reducible refine (s_failV b _ _ 11 HJ.out H.out).mono ?_); rintro e_ wn ⟨rfl, h⟩; replace H := Lib.hid h; clear h))
      go_ret
      exact ⟨rfl, H.out⟩
theorem so_byteV (b : Nat) (e e2 : Bs) (c : UInt8) (n : Int) (hn : n = c.toNat) (he : e ++ [c] = e2) (hl : e.length ≤ 100000000000000) {W0 w : World} {K : Know} {L : List Res} (h : St W0 w K (.out b ⟨e, 0⟩ :: L)) :
    Calls Try.prog 102 #[outPtr b, .int .u8 n] w fun en w' => en = .returned (.tuple #[]) ∧ St W0 w' K (.out b ⟨e2, 0⟩ :: L) := by
  subst he hn; exact so_byte b ⟨e, 0⟩ c h (by unfold OutS.ok; simp only; omega)
set_option maxHeartbeats 1000000 in
set_option maxRecDepth 100000 in
theorem txn_putBool (b : Nat) (e e2 : Bs) (c : Bool) (he : e ++ encO c = e2) (hl : e.length ≤ 100000000000000) {W0 w : World} {K : Know} {L : List Res} (h : St W0 w K (.out b ⟨e, 0⟩ :: L)) :
    Calls Try.prog 49 #[outPtr b, .bool c] w fun en w' => en = .returned (.tuple #[]) ∧ St W0 w' K (.out b ⟨e2, 0⟩ :: L) := by
  have H := Lib.hid h
  have HE := Lib.hid he
  have HL := Lib.hid hl
  clear h he hl
  cases c with
  | true =>
    have HE2 : Hid (e ++ [1] = e2) := Lib.hid HE.out
    have HN2 := Lib.hid (show (1 : Int) = ((1 : UInt8).toNat : Int) by decide)
    go_enter Try.func49, Try.ntmps49
    go_wp2_with (go_at_call 102; (with_reducible refine (so_byteV b e e2 1 1 HN2.out HE2.out HL.out H.out).mono ?_); rintro e_ wn ⟨rfl, h⟩; replace H := Lib.hid h; clear h)
    go_end0
    exact ⟨rfl, H.out⟩
  | false =>
    have HE2 : Hid (e ++ [0] = e2) := Lib.hid HE.out
    have HN2 := Lib.hid (show (0 : Int) = ((0 : UInt8).toNat : Int) by decide)
    go_enter Try.func49, Try.ntmps49
    go_wp2_with (go_at_call 102; (with_reducible refine (so_byteV b e e2 0 0 HN2.out HE2.out HL.out H.out).mono ?_); rintro e_ wn ⟨rfl, h⟩; replace H := Lib.hid h; clear h)
    go_end0
    exact ⟨rfl, H.out⟩
end Go.Proofs.Ytombolmicfjjpaa

/- Marks: what is wrong with one. -/
namespace Go.Proofs.Ytombolmicfjjpaa
open Go.RowKit

set_option maxHeartbeats 8000000 in
set_option maxRecDepth 100000 in
theorem mark_check1 (v p e : Int) (c : Bool) (l : List (TopS × Value)) (q : Option Addr) (cap : Nat) (co : Int) (r : Int) (hr : mErr v p e (l.map (·.1)) co = r) (hf : FewT l) {W0 w : World} {K : Know} {L : List Res} (hk : K.has (Know.tops (.slice q l.length cap) l)) (h : St W0 w K L) :
    Calls Try.prog 56 #[.agg #[.int .i64 p, .int .i64 e, .bool c, .slice q l.length cap, .int .i64 co], .int .i64 v] w fun en w' => en = .returned (.int .i64 r) ∧ St W0 w' K L := by
  have H := Lib.hid (h.allocRaw #[.int .i64 p, .int .i64 e, .bool c, .slice q l.length cap, .int .i64 co] 92)
  have HF := Lib.hid hf
  have HK := Lib.hid hk
  unfold mErr at hr
  obtain ⟨a, ha⟩ : ∃ a, who p e = a := ⟨_, rfl⟩
  have HW := Lib.hid ha
  rw [ha] at hr
  clear h hf hk
  cases a with
  | false =>
    obtain rfl : (11 : Int) = r := hr
    clear ha
    go_enter Try.func56, Try.ntmps56
    go_wp2_with (first
    | (go_at_call 46; (with_reducible refine (txn_who p e _ HW.out H.out).mono ?_); rintro e_ wn ⟨rfl, h⟩; have c0 := h.rawCell 0; have c1 := h.rawCell 1; have c2 := h.rawCell 2; have c3 := h.rawCell 3; have c4 := h.rawCell 4; simp at c0 c1 c2 c3 c4; replace H := Lib.hid h; clear h))
    go_ret
    exact ⟨rfl, H.out.drop⟩
  | true =>
    rw [if_neg (by decide)] at hr
    clear ha
    by_cases h4 : co < 0
    · rw [if_pos (.inl h4)] at hr
      subst hr
      go_enter Try.func56, Try.ntmps56
      go_wp2_with (first
    | (go_at_call 46; (with_reducible refine (txn_who p e _ HW.out H.out).mono ?_); rintro e_ wn ⟨rfl, h⟩; have c0 := h.rawCell 0; have c1 := h.rawCell 1; have c2 := h.rawCell 2; have c3 := h.rawCell 3; have c4 := h.rawCell 4; simp at c0 c1 c2 c3 c4; replace H := Lib.hid h; clear h))
      go_ret
      exact ⟨rfl, H.out.drop⟩
    by_cases h5 : 2147483647 < co
    · rw [if_pos (.inr h5)] at hr
      subst hr
      go_enter Try.func56, Try.ntmps56
      go_wp2_with (first
    | (go_at_call 46; (with_reducible refine (txn_who p e _ HW.out H.out).mono ?_); rintro e_ wn ⟨rfl, h⟩; have c0 := h.rawCell 0; have c1 := h.rawCell 1; have c2 := h.rawCell 2; have c3 := h.rawCell 3; have c4 := h.rawCell 4; simp at c0 c1 c2 c3 c4; replace H := Lib.hid h; clear h))
      go_ret
      exact ⟨rfl, H.out.drop⟩
    rw [if_neg (by omega)] at hr
    by_cases h6 : v = 0
    · subst h6
      cases hc : (co == 0) with
      | true =>
        have hc2 : (co != 0) = false := by simp [bne, hc]
        rw [if_neg (by simp at hc; omega)] at hr
        have HE := Lib.hid hr
        clear hr
        go_enter Try.func56, Try.ntmps56
        go_wp2_with (first
    | (go_at_call 46; (with_reducible refine (txn_who p e _ HW.out H.out).mono ?_); rintro e_ wn ⟨rfl, h⟩; have c0 := h.rawCell 0; have c1 := h.rawCell 1; have c2 := h.rawCell 2; have c3 := h.rawCell 3; have c4 := h.rawCell 4; simp at c0 c1 c2 c3 c4; replace H := Lib.hid h; clear h)
    | (go_at_call 47; (with_reducible refine (txn_rise l q cap r HE.out HF.out HK.out H.out).mono ?_); rintro e_ wn ⟨rfl, h⟩; replace H := Lib.hid h; clear h))
        go_ret
        exact ⟨rfl, H.out.drop⟩
      | false =>
        have hc2 : (co != 0) = true := by simp [bne, hc]
        rw [if_pos ⟨rfl, by simpa using hc⟩] at hr
        subst hr
        go_enter Try.func56, Try.ntmps56
        go_wp2_with (first
    | (go_at_call 46; (with_reducible refine (txn_who p e _ HW.out H.out).mono ?_); rintro e_ wn ⟨rfl, h⟩; have c0 := h.rawCell 0; have c1 := h.rawCell 1; have c2 := h.rawCell 2; have c3 := h.rawCell 3; have c4 := h.rawCell 4; simp at c0 c1 c2 c3 c4; replace H := Lib.hid h; clear h))
        go_ret
        exact ⟨rfl, H.out.drop⟩
    · have hv : (v == 0) = false := by rw [beq_eq_false_iff_ne]; exact h6
      rw [if_neg (by omega)] at hr
      clear h6
      have HE := Lib.hid hr
      clear hr
      go_enter Try.func56, Try.ntmps56
      go_wp2_with (first
    | (go_at_call 46; (with_reducible refine (txn_who p e _ HW.out H.out).mono ?_); rintro e_ wn ⟨rfl, h⟩; have c0 := h.rawCell 0; have c1 := h.rawCell 1; have c2 := h.rawCell 2; have c3 := h.rawCell 3; have c4 := h.rawCell 4; simp at c0 c1 c2 c3 c4; replace H := Lib.hid h; clear h)
    | (go_at_call 47; (with_reducible refine (txn_rise l q cap r HE.out HF.out HK.out H.out).mono ?_); rintro e_ wn ⟨rfl, h⟩; replace H := Lib.hid h; clear h))
      go_ret
      exact ⟨rfl, H.out.drop⟩

end Go.Proofs.Ytombolmicfjjpaa

/- Which topics rise, of marks (pure). -/
namespace Go.Proofs.Ytombolmicfjjpaa
open Go.RowKit

theorem riseE_tM {l : List (TopS × Value)} (hz : ((l.length : Int) == 0) = false) (hr : tRise (l.map (·.1)) = true) : riseE (l.map (·.1)) = 0 := by
  unfold riseE
  rw [if_neg (by intro h; rw [List.map_eq_nil_iff] at h; subst h; cases hz), hr]
  rfl
theorem riseE_fM {l : List (TopS × Value)} (hz : ((l.length : Int) == 0) = false) (hr : tRise (l.map (·.1)) = false) : riseE (l.map (·.1)) = 13 := by
  unfold riseE
  rw [if_neg (by intro h; rw [List.map_eq_nil_iff] at h; subst h; cases hz), hr]
  rfl
theorem riseE_zM {l : List (TopS × Value)} (hz : ((l.length : Int) == 0) = true) : riseE (l.map (·.1)) = 10 := by
  have h1 : (l.length : Int) = 0 := by simpa using hz
  have h2 : l = [] := List.length_eq_zero_iff.1 (by omega)
  subst h2
  rfl

end Go.Proofs.Ytombolmicfjjpaa

/- Marks, by definition: what is wrong with one. -/
namespace Go.Proofs.Ytombolmicfjjpaa
open Go.RowKit

set_option maxHeartbeats 8000000 in
set_option maxRecDepth 100000 in
theorem ref19_one (v p e : Int) (c : Bool) (l : List (TopS × Value)) (q : Option Addr) (cap : Nat) (co : Int) (r : Int) (hr : mErr v p e (l.map (·.1)) co = r) (hf : FewT l) {W0 w : World} {K : Know} {L : List Res} (hk : K.has (Know.tops (.slice q l.length cap) l)) (h : St W0 w K L) :
    Calls Try.prog 104 #[.agg #[.int .i64 p, .int .i64 e, .bool c, .slice q l.length cap, .int .i64 co], .int .i64 v] w fun en w' => en = .returned (.int .i64 r) ∧ St W0 w' K L := by
  have H := Lib.hid (h.allocRaw #[.int .i64 p, .int .i64 e, .bool c, .slice q l.length cap, .int .i64 co] 152)
  have HF := Lib.hid hf
  have HK := Lib.hid hk
  unfold mErr at hr
  obtain ⟨a, ha⟩ : ∃ a, who p e = a := ⟨_, rfl⟩
  have HW := Lib.hid ha
  rw [ha] at hr
  clear h hf hk
  cases a with
  | false =>
    obtain rfl : (11 : Int) = r := hr
    by_cases h1 : p < 0
    · clear ha
      go_enter Try.func104, Try.ntmps104
      go_wp2_with (fail)
      go_ret
      exact ⟨rfl, H.out.drop⟩
    · by_cases h2 : e < 0
      · clear ha
        go_enter Try.func104, Try.ntmps104
        go_wp2_with (fail)
        go_ret
        exact ⟨rfl, H.out.drop⟩
      · have h3 : 32767 < e := by rcases who_f ha with h | h | h <;> omega
        clear ha
        go_enter Try.func104, Try.ntmps104
        go_wp2_with (fail)
        go_ret
        exact ⟨rfl, H.out.drop⟩
  | true =>
    rw [if_neg (by decide)] at hr
    obtain ⟨w1, w2, w3⟩ := who_t ha
    have w4 : ¬ p < 0 := by omega
    have w5 : ¬ e < 0 := by omega
    have w6 : ¬ 32767 < e := by omega
    clear ha w1 w2 w3
    by_cases h4 : co < 0
    · rw [if_pos (.inl h4)] at hr
      subst hr
      go_enter Try.func104, Try.ntmps104
      go_wp2_with (fail)
      go_ret
      exact ⟨rfl, H.out.drop⟩
    by_cases h5 : 2147483647 < co
    · rw [if_pos (.inr h5)] at hr
      subst hr
      go_enter Try.func104, Try.ntmps104
      go_wp2_with (fail)
      go_ret
      exact ⟨rfl, H.out.drop⟩
    rw [if_neg (by omega)] at hr
    by_cases h6 : v = 0
    · subst h6
      cases hc : (co == 0) with
      | true =>
        have hc2 : (co != 0) = false := by simp [bne, hc]
        rw [if_neg (by simp at hc; omega)] at hr
        cases hz : ((l.length : Int) == 0) with
        | true =>
          obtain rfl : (10 : Int) = r := (riseE_zM hz).symm.trans hr
          clear hr
          go_enter Try.func104, Try.ntmps104
          go_wp2_with (fail)
          go_ret
          exact ⟨rfl, H.out.drop⟩
        | false =>
          obtain ⟨rr, hrr⟩ : ∃ rr, tRise (l.map (·.1)) = rr := ⟨_, rfl⟩
          have HRI := Lib.hid hrr
          cases rr with
          | true =>
            obtain rfl : (0 : Int) = r := (riseE_tM hz hrr).symm.trans hr
            clear hr hrr
            go_enter Try.func104, Try.ntmps104
            go_wp2_with (first
    | (go_at_call 45; (with_reducible refine (ref14_rise l q cap _ HRI.out HF.out HK.out H.out).mono ?_); rintro e_ wn ⟨rfl, h⟩; replace H := Lib.hid h; clear h))
            go_ret
            exact ⟨rfl, H.out.drop⟩
          | false =>
            obtain rfl : (13 : Int) = r := (riseE_fM hz hrr).symm.trans hr
            clear hr hrr
            go_enter Try.func104, Try.ntmps104
            go_wp2_with (first
    | (go_at_call 45; (with_reducible refine (ref14_rise l q cap _ HRI.out HF.out HK.out H.out).mono ?_); rintro e_ wn ⟨rfl, h⟩; replace H := Lib.hid h; clear h))
            go_ret
            exact ⟨rfl, H.out.drop⟩
      | false =>
        have hc2 : (co != 0) = true := by simp [bne, hc]
        rw [if_pos ⟨rfl, by simpa using hc⟩] at hr
        subst hr
        go_enter Try.func104, Try.ntmps104
        go_wp2_with (fail)
        go_ret
        exact ⟨rfl, H.out.drop⟩
    · have hv : (v == 0) = false := by rw [beq_eq_false_iff_ne]; exact h6
      rw [if_neg (by omega)] at hr
      clear h6
      cases hz : ((l.length : Int) == 0) with
      | true =>
        obtain rfl : (10 : Int) = r := (riseE_zM hz).symm.trans hr
        clear hr
        go_enter Try.func104, Try.ntmps104
        go_wp2_with (fail)
        go_ret
        exact ⟨rfl, H.out.drop⟩
      | false =>
        obtain ⟨rr, hrr⟩ : ∃ rr, tRise (l.map (·.1)) = rr := ⟨_, rfl⟩
        have HRI := Lib.hid hrr
        cases rr with
        | true =>
          obtain rfl : (0 : Int) = r := (riseE_tM hz hrr).symm.trans hr
          clear hr hrr
          go_enter Try.func104, Try.ntmps104
          go_wp2_with (first
    | (go_at_call 45; (with_reducible refine (ref14_rise l q cap _ HRI.out HF.out HK.out H.out).mono ?_); rintro e_ wn ⟨rfl, h⟩; replace H := Lib.hid h; clear h))
          go_ret
          exact ⟨rfl, H.out.drop⟩
        | false =>
          obtain rfl : (13 : Int) = r := (riseE_fM hz hrr).symm.trans hr
          clear hr hrr
          go_enter Try.func104, Try.ntmps104
          go_wp2_with (first
    | (go_at_call 45; (with_reducible refine (ref14_rise l q cap _ HRI.out HF.out HK.out H.out).mono ?_); rintro e_ wn ⟨rfl, h⟩; replace H := Lib.hid h; clear h))
          go_ret
          exact ⟨rfl, H.out.drop⟩

end Go.Proofs.Ytombolmicfjjpaa

/- Marks: what is wrong with all of them. -/
namespace Go.Proofs.Ytombolmicfjjpaa
open Go.RowKit

set_option maxHeartbeats 4000000 in
set_option maxRecDepth 100000 in
theorem marks_check (v : Int) (l : List MarkR) (q : Option Addr) (cap : Nat) (r : Int) (hr : marksErr v (l.map MarkR.m) = r) (hf : ∀ x ∈ l, x.Fit) (hn : l.length ≤ 1000000) {W0 w : World} {K : Know} {L : List Res} (hk : K.has (Know.marks (.slice q l.length cap) l)) (h : St W0 w K L) :
    Calls Try.prog 55 #[.slice q l.length cap, .int .i64 v] w fun en w' => en = .returned (.int .i64 r) ∧ St W0 w' K L := by
  have H := Lib.hid h
  have HK := Lib.hid hk
  have HF := Lib.hid hf
  have hni : (l.length : Int) ≤ 1000000 := by omega
  unfold marksErr at hr
  clear h hk hf
  by_cases h0 : l = []
  · subst h0
    obtain rfl : (10 : Int) = r := hr
    go_enter Try.func55, Try.ntmps55
    go_wp2
    go_ret
    exact ⟨rfl, H.out⟩
  rw [if_neg (by rw [List.map_eq_nil_iff]; exact h0)] at hr
  have g0 : ((l.length : Int) == 0) = false := by
    rw [beq_eq_false_iff_ne]
    have := List.length_pos_iff.2 h0
    omega
  have HR := Lib.hid hr
  clear hr h0
  go_enter Try.func55, Try.ntmps55
  go_wp2
  go_loopw [6, 7, 13] (fun _ _ iv wr => ∃ k : Nat, k ≤ l.length ∧ iv = .int .i64 k ∧ Hid (msE v ((l.map MarkR.m).drop k) = r) ∧ St W0 wr K L) (fun _ _ iv _ => l.length - (intOf iv).toNat)
  case atStart => exact ⟨0, Nat.zero_le _, rfl, Lib.hid (by rw [List.drop_zero]; exact HR.out), H.out⟩
  case round =>
    obtain ⟨k, hkl, rfl, HM, hst⟩ := hrel
    clear H
    have H := Lib.hid hst
    clear hst
    by_cases hlt : k < l.length
    · as_aux_lemma =>
      obtain ⟨b0, off, hqq⟩ := marks_at HK.out H.out (by omega)
      subst hqq
      obtain ⟨x, hx⟩ : ∃ x, l[k] = x := ⟨_, rfl⟩
      have hmem : x ∈ l := hx ▸ List.getElem_mem hlt
      have hxk := marks_tops HK.out hmem
      have hcell := marks_cell HK.out H.out k hlt x hx
      have hmk : k < (l.map MarkR.m).length := by rw [List.length_map]; exact hlt
      have hmg : (l.map MarkR.m)[k] = x.m := by rw [List.getElem_map, hx]
      obtain ⟨hxl, hxf, hxr⟩ := HF.out x hmem
      obtain ⟨⟨p, e, c, tl, co⟩, xl, xq, xcap⟩ := x
      obtain ⟨c0, c1, c2, c3, c4⟩ : wr.cell? ⟨b0, off + k * 5, none⟩ = some (.int .i64 p) ∧ wr.cell? ⟨b0, off + k * 5 + 1, none⟩ = some (.int .i64 e) ∧ wr.cell? ⟨b0, off + k * 5 + 2, none⟩ = some (.bool c) ∧ wr.cell? ⟨b0, off + k * 5 + 3, none⟩ = some (.slice xq xl.length xcap) ∧ wr.cell? ⟨b0, off + k * 5 + 4, none⟩ = some (.int .i64 co) := hcell
      have HXK := Lib.hid (show K.has (Know.tops (.slice xq xl.length xcap) xl) from hxk)
      have HXL := Lib.hid (show xl.map (·.1) = tl from hxl)
      have HXF := Lib.hid (show FewT xl from hxf)
      have hkn : (k : Int) < (l.length : Int) := by omega
      obtain ⟨tb, htb⟩ : ∃ b, wr.heap.size = b := ⟨_, rfl⟩
      have h := H.out.allocRaw #[.int .i64 p, .int .i64 e, .bool c, .slice xq xl.length xcap, .int .i64 co] 92
      rw [htb] at h
      obtain ⟨r1, hr1⟩ : ∃ r1, mErr v p e tl co = r1 := ⟨_, rfl⟩
      have HR1 := Lib.hid (show mErr v p e (xl.map fun y => y.1) co = r1 by rw [show (xl.map fun y => y.1) = tl from hxl]; exact hr1)
      have hme : ((l.map MarkR.m)[k]).err v = r1 := by rw [hmg]; exact hr1
      have d0 := h.rawCell 0
      have d1 := h.rawCell 1
      have d2 := h.rawCell 2
      have d3 := h.rawCell 3
      have d4 := h.rawCell 4
      simp at d0 d1 d2 d3 d4
      clear H
      have H := Lib.hid h
      clear h
      by_cases h1 : r1 = 0
      · have HN := Lib.hid ((msE_step v _ k hmk (by rw [hme]; exact h1)).symm.trans HM.out)
        subst h1
        clear hx hmem hxk hmk hmg hxl hxf hxr hr1 hme
        go_wp2_with (go_at_call 56; (with_reducible refine (mark_check1 v p e c xl xq xcap co _ HR1.out HXF.out HXK.out H.out).mono ?_); rintro e_ wn ⟨rfl, h⟩; replace H := Lib.hid h; clear h)
        go_roundw
        case rel => exact ⟨k + 1, hlt, by go_num, HN, H.out.drop⟩
        case measure => first | (simp [intOf]; done) | (simp [intOf]; omega)
      · have hb := (msE_bad v _ k hmk (by rw [hme]; exact h1)).symm.trans HM.out
        rw [hme] at hb
        have g1 : (r1 == 0) = false := by rw [beq_eq_false_iff_ne]; exact h1
        have g2 : (r1 != 0) = true := by simp [bne, g1]
        have HB := Lib.hid hb
        clear hx hmem hxk hmk hmg hxl hxf hxr hr1 hme hb h1
        go_wp2_with (go_at_call 56; (with_reducible refine (mark_check1 v p e c xl xq xcap co _ HR1.out HXF.out HXK.out H.out).mono ?_); rintro e_ wn ⟨rfl, h⟩; replace H := Lib.hid h; clear h)
        go_ret
        exact ⟨by rw [HB.out]; rfl, H.out.drop⟩
    · obtain rfl : k = l.length := by omega
      have hz := HM.out
      rw [List.drop_of_length_le (by rw [List.length_map]; exact Nat.le_refl _)] at hz
      obtain rfl : (0 : Int) = r := hz
      go_wp2
      go_ret
      exact ⟨rfl, H.out⟩

set_option maxHeartbeats 4000000 in
set_option maxRecDepth 100000 in
theorem ref19_check (v : Int) (l : List MarkR) (q : Option Addr) (cap : Nat) (r : Int) (hr : marksErr v (l.map MarkR.m) = r) (hf : ∀ x ∈ l, x.Fit) (hn : l.length ≤ 1000000) {W0 w : World} {K : Know} {L : List Res} (hk : K.has (Know.marks (.slice q l.length cap) l)) (h : St W0 w K L) :
    Calls Try.prog 53 #[.slice q l.length cap, .int .i64 v] w fun en w' => en = .returned (.int .i64 r) ∧ St W0 w' K L := by
  have H := Lib.hid h
  have HK := Lib.hid hk
  have HF := Lib.hid hf
  have hni : (l.length : Int) ≤ 1000000 := by omega
  unfold marksErr at hr
  clear h hk hf
  by_cases h0 : l = []
  · subst h0
    obtain rfl : (10 : Int) = r := hr
    go_enter Try.func53, Try.ntmps53
    go_wp2
    go_ret
    exact ⟨rfl, H.out⟩
  rw [if_neg (by rw [List.map_eq_nil_iff]; exact h0)] at hr
  have g0 : ((l.length : Int) == 0) = false := by
    rw [beq_eq_false_iff_ne]
    have := List.length_pos_iff.2 h0
    omega
  have HR := Lib.hid hr
  clear hr h0
  go_enter Try.func53, Try.ntmps53
  go_wp2
  go_loopw [5, 6] (fun iv _ wr => ∃ k : Nat, k ≤ l.length ∧ iv = .int .i64 k ∧ Hid (msE v ((l.map MarkR.m).drop k) = r) ∧ St W0 wr K L) (fun iv _ _ => l.length - (intOf iv).toNat)
  case atStart => exact ⟨0, Nat.zero_le _, rfl, Lib.hid (by rw [List.drop_zero]; exact HR.out), H.out⟩
  case round =>
    obtain ⟨k, hkl, rfl, HM, hst⟩ := hrel
    clear H
    have H := Lib.hid hst
    clear hst
    by_cases hlt : k < l.length
    · as_aux_lemma =>
      obtain ⟨b0, off, hqq⟩ := marks_at HK.out H.out (by omega)
      subst hqq
      obtain ⟨x, hx⟩ : ∃ x, l[k] = x := ⟨_, rfl⟩
      have hmem : x ∈ l := hx ▸ List.getElem_mem hlt
      have hxk := marks_tops HK.out hmem
      have hcell := marks_cell HK.out H.out k hlt x hx
      have hmk : k < (l.map MarkR.m).length := by rw [List.length_map]; exact hlt
      have hmg : (l.map MarkR.m)[k] = x.m := by rw [List.getElem_map, hx]
      obtain ⟨hxl, hxf, hxr⟩ := HF.out x hmem
      obtain ⟨⟨p, e, c, tl, co⟩, xl, xq, xcap⟩ := x
      obtain ⟨c0, c1, c2, c3, c4⟩ : wr.cell? ⟨b0, off + k * 5, none⟩ = some (.int .i64 p) ∧ wr.cell? ⟨b0, off + k * 5 + 1, none⟩ = some (.int .i64 e) ∧ wr.cell? ⟨b0, off + k * 5 + 2, none⟩ = some (.bool c) ∧ wr.cell? ⟨b0, off + k * 5 + 3, none⟩ = some (.slice xq xl.length xcap) ∧ wr.cell? ⟨b0, off + k * 5 + 4, none⟩ = some (.int .i64 co) := hcell
      have HXK := Lib.hid (show K.has (Know.tops (.slice xq xl.length xcap) xl) from hxk)
      have HXL := Lib.hid (show xl.map (·.1) = tl from hxl)
      have HXF := Lib.hid (show FewT xl from hxf)
      have hkn : (k : Int) < (l.length : Int) := by omega
      obtain ⟨r1, hr1⟩ : ∃ r1, mErr v p e tl co = r1 := ⟨_, rfl⟩
      have HR1 := Lib.hid (show mErr v p e (xl.map fun y => y.1) co = r1 by rw [show (xl.map fun y => y.1) = tl from hxl]; exact hr1)
      have hme : ((l.map MarkR.m)[k]).err v = r1 := by rw [hmg]; exact hr1
      by_cases h1 : r1 = 0
      · have HN := Lib.hid ((msE_step v _ k hmk (by rw [hme]; exact h1)).symm.trans HM.out)
        subst h1
        clear hx hmem hxk hmk hmg hxl hxf hxr hr1 hme
        go_wp2_with (go_at_call 104; (with_reducible refine (ref19_one v p e c xl xq xcap co _ HR1.out HXF.out HXK.out H.out).mono ?_); rintro e_ wn ⟨rfl, h⟩; replace H := Lib.hid h; clear h)
        go_roundw
        case rel => exact ⟨k + 1, hlt, by go_num, HN, H.out⟩
        case measure => first | (simp [intOf]; done) | (simp [intOf]; omega)
      · have hb := (msE_bad v _ k hmk (by rw [hme]; exact h1)).symm.trans HM.out
        rw [hme] at hb
        have g1 : (r1 == 0) = false := by rw [beq_eq_false_iff_ne]; exact h1
        have g2 : (r1 != 0) = true := by simp [bne, g1]
        have HB := Lib.hid hb
        clear hx hmem hxk hmk hmg hxl hxf hxr hr1 hme hb h1
        go_wp2_with (go_at_call 104; (with_reducible refine (ref19_one v p e c xl xq xcap co _ HR1.out HXF.out HXK.out H.out).mono ?_); rintro e_ wn ⟨rfl, h⟩; replace H := Lib.hid h; clear h)
        go_ret
        exact ⟨by rw [HB.out]; rfl, H.out⟩
    · obtain rfl : k = l.length := by omega
      have hz := HM.out
      rw [List.drop_of_length_le (by rw [List.length_map]; exact Nat.le_refl _)] at hz
      obtain rfl : (0 : Int) = r := hz
      go_wp2
      go_ret
      exact ⟨rfl, H.out⟩

end Go.Proofs.Ytombolmicfjjpaa

/- Marks, as the document has them. -/
namespace Go.Proofs.Ytombolmicfjjpaa
open Go.RowKit

theorem elem_mk19 : ElemT Try.prog 152 (.agg #[.int .i64 0, .int .i64 0, .bool false, .slice none 0 0, .int .i64 0]) 5 56 := elemT_of (by kernel_rfl) rfl (by decide)
theorem elem_mk : ElemT Try.prog 92 (.agg #[.int .i64 0, .int .i64 0, .bool false, .slice none 0 0, .int .i64 0]) 5 56 := elemT_of (by kernel_rfl) rfl (by decide)
def mcells (x : MarkR) : List Value := [.int .i64 x.m.prod, .int .i64 x.m.epoch, .bool x.m.commit, .slice x.q x.l.length x.cap, .int .i64 x.m.coord]
theorem marks_know {K : Know} {v : Value} {l : List MarkR} (h1 : K.has (Know.flat RMark v 5 l)) (h2 : ∀ x ∈ l, K.has (Know.tops (.slice x.q x.l.length x.cap) x.l)) : K.has (Know.marks v l) := fun w F h => ⟨h1 w F h, fun x hx => h2 x hx w F h⟩
theorem marks_nil (K : Know) : K.has (Know.marks (.slice none 0 0) []) := marks_know (know_nil0 RMark 5 K) (fun x hx => by cases hx)
theorem St.freezeMarks {W0 w : World} {K : Know} {L : List Res} {v : Value} {T : TypeId} {l : List MarkR} (h : St W0 w K (.row v T 5 l.length (l.flatMap mcells) :: L)) (ht : ∀ x ∈ l, K.has (Know.tops (.slice x.q x.l.length x.cap) x.l)) : St W0 w (K.and (Know.marks v l)) L := by
  have hf := h.freezeRow (R := RMark) (fun x _ => ⟨rfl, rfl⟩)
  exact hf.know (K' := K.and (Know.marks v l)) (fun w F hh => ⟨hh.1, hh.2, fun x hx => ht x hx _ _ hh.1⟩)

set_option maxHeartbeats 4000000 in
set_option maxRecDepth 100000 in
theorem law19_of (l : List MarkR) (q : Option Addr) (cap : Nat) (hn : l.length ≤ 1000000) (hf : ∀ x ∈ l, x.Fit) {W0 w : World} {K : Know} {L : List Res} (hk : K.has (Know.marks (.slice q l.length cap) l)) (h : St W0 w K L) :
    Calls Try.prog 54 #[.slice q l.length cap] w fun en w' => ∃ v, en = .returned v ∧ St W0 w' (K.and (Know.marks v l)) L := by
  have H := Lib.hid h
  have HK := Lib.hid hk
  have HF := Lib.hid hf
  have hni : (l.length : Int) ≤ 1000000 := by omega
  clear h hk hf
  go_enter Try.func54, Try.ntmps54
  go_wp2
  go_loopw [3, 8] (fun lv iv wr => ∃ (k : Nat) (xs : List Value), k ≤ l.length ∧ iv = .int .i64 k ∧ Hid (xs = (l.take k).flatMap mcells) ∧ St W0 wr K (.row lv 152 5 k xs :: L)) (fun _ iv _ => l.length - (intOf iv).toNat)
  case atStart => exact ⟨0, [], Nat.zero_le _, rfl, Lib.hid rfl, H.out.nilRow 152 5⟩
  case round =>
    obtain ⟨k, xs, hkl, rfl, HXS, hst⟩ := hrel
    clear H
    have H := Lib.hid hst
    clear hst
    by_cases hlt : k < l.length
    · obtain ⟨b0, off, hqq⟩ := marks_at HK.out H.out (by omega)
      subst hqq
      obtain ⟨x, hx⟩ : ∃ x, l[k] = x := ⟨_, rfl⟩
      have hmem : x ∈ l := hx ▸ List.getElem_mem hlt
      have hxk := marks_tops HK.out hmem
      have hcell := marks_cell HK.out H.out k hlt x hx
      have hmk : k < (l.map MarkR.m).length := by rw [List.length_map]; exact hlt
      have hmg : (l.map MarkR.m)[k] = x.m := by rw [List.getElem_map, hx]
      obtain ⟨hxl, hxf, hxr⟩ := HF.out x hmem
      obtain ⟨⟨p, e, c, tl, co⟩, xl, xq, xcap⟩ := x
      obtain ⟨c0, c1, c2, c3, c4⟩ : wr.cell? ⟨b0, off + k * 5, none⟩ = some (.int .i64 p) ∧ wr.cell? ⟨b0, off + k * 5 + 1, none⟩ = some (.int .i64 e) ∧ wr.cell? ⟨b0, off + k * 5 + 2, none⟩ = some (.bool c) ∧ wr.cell? ⟨b0, off + k * 5 + 3, none⟩ = some (.slice xq xl.length xcap) ∧ wr.cell? ⟨b0, off + k * 5 + 4, none⟩ = some (.int .i64 co) := hcell
      have HXK := Lib.hid (show K.has (Know.tops (.slice xq xl.length xcap) xl) from hxk)
      have HXL := Lib.hid (show xl.map (·.1) = tl from hxl)
      have HXF := Lib.hid (show FewT xl from hxf)
      have hkn : (k : Int) < (l.length : Int) := by omega
      obtain ⟨tb, htb⟩ : ∃ b, wr.heap.size = b := ⟨_, rfl⟩
      have h := H.out.allocRaw #[.int .i64 p, .int .i64 e, .bool c, .slice xq xl.length xcap, .int .i64 co] 92
      rw [htb] at h
      have HXE := Lib.hid (show l[k] = ⟨⟨p, e, c, tl, co⟩, xl, xq, xcap⟩ from hx)
      have d0 := h.rawCell 0
      have d1 := h.rawCell 1
      have d2 := h.rawCell 2
      have d3 := h.rawCell 3
      have d4 := h.rawCell 4
      simp at d0 d1 d2 d3 d4
      clear H
      have H := Lib.hid h
      clear h
      clear hx hmem hxk hmk hmg hxl hxf hxr
      go_wp2_with (at_builtin; refine wpl_app1_st rfl _ _ 88 rfl 152 Try.underlying88 elem_mk19 _ _ _ rfl H.out.p1 [.int .i64 p, .int .i64 e, .bool c, .slice xq xl.length xcap, .int .i64 co] 152 (by rw [World.size_alloc, htb]; rfl) rfl (by simp [Value.oneCell']) (by unfold maxLen; omega) (by omega) ?_; intro v' w' h; replace H := Lib.hid h; clear h)
      go_roundw
      case rel =>
        refine ⟨k + 1, xs ++ [.int .i64 p, .int .i64 e, .bool c, .slice xq xl.length xcap, .int .i64 co], hlt, by go_num, Lib.hid ?_, H.out.p1.drop⟩
        rw [List.take_succ_eq_append_getElem hlt, List.flatMap_append, HXE.out, List.flatMap_cons, List.flatMap_nil, List.append_nil, ← HXS.out]
        rfl
      case measure => first | (simp [intOf]; done) | (simp [intOf]; omega)
    · obtain rfl : k = l.length := by omega
      have h := H.out
      rw [HXS.out, List.take_length] at h
      clear H
      have H := Lib.hid h
      clear h
      go_wp2
      go_ret
      exact ⟨_, rfl, H.out.freezeMarks (fun x hx => marks_tops HK.out hx)⟩

end Go.Proofs.Ytombolmicfjjpaa

/- How many, by definition. -/
namespace Go.Proofs.Ytombolmicfjjpaa
open Go.RowKit

theorem sr_intV (s : Bs) (a : Int) (ha : sInt s = a) (hs : s.length ≤ 8) {W0 w : World} {K : Know} {L : List Res} (h : St W0 w K L) :
    Calls Try.prog 76 #[.string (bb s)] w fun en w' => en = .returned (.int .i64 a) ∧ St W0 w' K L := by
  subst ha; exact sr_int s hs h
set_option maxHeartbeats 1000000 in
set_option maxRecDepth 100000 in
theorem ref14_count (s : Bs) (each : Nat) (ei : Int) (hei : ei = each) (he : 0 < each) (he2 : each ≤ 100) (hs : s.length ≤ 1000000) (n : Nat) (E : Int) (hr : cntR each s = (n, E)) {W0 w : World} {K : Know} {L : List Res} (h : St W0 w K L) :
    Calls Try.prog 80 #[.string (bb s), .int .i64 ei] w fun en w' => en = .returned (.tuple #[.int .i64 n, .int .i64 E]) ∧ St W0 w' K L := by
  have H := Lib.hid h
  clear h
  by_cases h1 : s.length < 4
  · rw [cntR_short h1] at hr
    cases hr
    have g1 : (s.length : Int) < 4 := by omega
    clear h1
    go_enter Try.func80, Try.ntmps80
    go_wp2
    go_ret2
    exact ⟨rfl, H.out⟩
  have g1 : ¬ (s.length : Int) < 4 := by omega
  have hlt : (s.take 4).length = 4 := by rw [List.length_take]; omega
  have HT := Lib.hid (show (s.take 4).length ≤ 8 by omega)
  obtain ⟨a, ha⟩ : ∃ a, sInt (s.take 4) = a := ⟨_, rfl⟩
  have HA := Lib.hid ha
  by_cases h2 : a < 0
  · rw [cntR_neg h1 (by rw [ha]; exact h2)] at hr
    cases hr
    clear h1 hlt ha
    go_enter Try.func80, Try.ntmps80
    go_wp2_with (go_at_call 76; (with_reducible refine (sr_intV (s.take 4) _ HA.out HT.out H.out).mono ?_); rintro e_ wn ⟨rfl, h⟩; replace H := Lib.hid h; clear h)
    go_ret2
    exact ⟨rfl, H.out⟩
  obtain ⟨D, hD⟩ : ∃ D, ((s.length : Int) - 4) / each = D := ⟨_, rfl⟩
  have hDb : 0 ≤ D ∧ D ≤ 1000000 := by
    rw [← hD]
    refine ⟨Int.ediv_nonneg (by omega) (by omega), ?_⟩
    exact Int.le_trans (Int.ediv_le_self _ (by omega)) (by omega)
  have gq : Int.tdiv ((s.length : Int) - 4) ei = D := by rw [hei, ← hD]; exact Int.tdiv_eq_ediv_of_nonneg (by omega)
  have ge : ¬ ei = 0 := by omega
  have ge2 : (ei == 0) = false := by rw [beq_eq_false_iff_ne]; exact ge
  obtain ⟨hD0, hD1⟩ := hDb
  by_cases h3 : D < a
  · rw [cntR_more h1 (by rw [ha]; exact h2) (by rw [ha, hD]; exact h3)] at hr
    cases hr
    clear h1 hlt ha hD hei he he2
    go_enter Try.func80, Try.ntmps80
    go_wp2_with (go_at_call 76; (with_reducible refine (sr_intV (s.take 4) _ HA.out HT.out H.out).mono ?_); rintro e_ wn ⟨rfl, h⟩; replace H := Lib.hid h; clear h)
    go_ret2
    exact ⟨rfl, H.out⟩
  · rw [cntR_ok h1 (by rw [ha]; exact h2) (by rw [ha, hD]; exact h3), ha] at hr
    cases hr
    obtain ⟨m, hm⟩ : ∃ m : Nat, a.toNat = m := ⟨_, rfl⟩
    have ham : a = (m : Int) := by omega
    rw [hm]
    subst ham
    clear h1 hlt ha hD hei he he2 hm
    go_enter Try.func80, Try.ntmps80
    go_wp2_with (go_at_call 76; (with_reducible refine (sr_intV (s.take 4) _ HA.out HT.out H.out).mono ?_); rintro e_ wn ⟨rfl, h⟩; replace H := Lib.hid h; clear h)
    go_ret2
    exact ⟨rfl, H.out⟩

end Go.Proofs.Ytombolmicfjjpaa

/- Layer 3: that it speaks. -/
namespace Go.Proofs.Ytombolmicfjjpaa
open Go.RowKit

end Go.Proofs.Ytombolmicfjjpaa

/- Layer 4: that it speaks. -/
namespace Go.Proofs.Ytombolmicfjjpaa
open Go.RowKit

theorem Holds.only {w : World} {r : Res} : ∀ {L : List Res} {S : Nat → Prop}, Holds L w S → r ∈ L → ∃ S', Holds [r] w S' ∧ ∀ k, S' k → S k
  | [], _, _, hm => by cases hm
  | a :: L, S, ⟨S1, S2, h1, h2, h3, h4⟩, hm => by
    cases hm with
    | head => exact ⟨S1, ⟨S1, fun _ => False, h1, fun _ h => h, fun _ _ h => h, fun k => by simp⟩, fun k hk => (h4 k).2 (.inl hk)⟩
    | tail _ hm =>
      obtain ⟨S', g1, g2⟩ := Holds.only h2 hm
      exact ⟨S', g1, fun k hk => (h4 k).2 (.inr (g2 k hk))⟩
theorem St.only {W0 w : World} {K : Know} {L : List Res} {r : Res} (h : St W0 w K L) (hm : r ∈ L) : St W0 w K [r] := by
  obtain ⟨a, S, F, b, c, d, e⟩ := h
  obtain ⟨S', g1, g2⟩ := b.only hm
  exact ⟨a, S', F, g1, fun k hk => c k (g2 k hk), d, fun k hk => ⟨(e k hk).1, fun h => (e k hk).2 (g2 k h)⟩⟩

end Go.Proofs.Ytombolmicfjjpaa

/- Layer 4, walked: BlobReads. -/
namespace Go.Proofs.Ytombolmicfjjpaa
open Go.RowKit

end Go.Proofs.Ytombolmicfjjpaa

/- Topics, read by definition: what is called. -/
namespace Go.Proofs.Ytombolmicfjjpaa
open Go.RowKit

theorem intsB_snoc : ∀ (k : Nat) (s : Bs), intsB (k + 1) s = intsB k s ++ [sInt ((s.drop (4 * k)).take 4)]
  | 0, s => by simp [intsB]
  | k + 1, s => by
    have e : 4 * (k + 1) = 4 + 4 * k := by omega
    show sInt (s.take 4) :: intsB (k + 1) (s.drop 4) = (sInt (s.take 4) :: intsB k (s.drop 4)) ++ [sInt ((s.drop (4 * (k + 1))).take 4)]
    rw [intsB_snoc k (s.drop 4), List.drop_drop, List.cons_append, e]
theorem takeEnd (s : Bs) (p : Nat) : List.take (s.length - p) (List.drop p s) = s.drop p := List.take_of_length_le (by rw [List.length_drop]; omega)
theorem ref14_countT (t X : Bs) (ht : t = X) (each : Nat) (ei : Int) (hei : ei = each) (he : 0 < each) (he2 : each ≤ 100) (hs : X.length ≤ 1000000) (n : Nat) (E : Int) (hr : cntR each X = (n, E)) {W0 w : World} {K : Know} {L : List Res} (h : St W0 w K L) :
    Calls Try.prog 80 #[.string (bb t), .int .i64 ei] w fun en w' => en = .returned (.tuple #[.int .i64 n, .int .i64 E]) ∧ St W0 w' K L := by
  subst ht; exact ref14_count t each ei hei he he2 hs n E hr h
theorem ref04_fixErr (t X : Bs) (e : Int) (ht : t = X) (hs : X.length ≤ 140737488355328) (hv : refixed 2 X = .error e) {W0 w : World} {K : Know} {L : List Res} (h : St W0 w K L) :
    Calls Try.prog 81 #[.string (bb t), .int .i64 2] w fun en w' => en = .returned (.agg #[.bool false, .string ⟨#[]⟩, .int .i64 0, .int .i64 e]) ∧ St W0 w' K L := by
  subst ht
  have := ref04_readFixed t 2 hs (by decide) h
  rw [gotV_errT hv] at this
  exact this
theorem ref04_fixOk (t X : Bs) (nl : Bool) (d : Bs) (k : Nat) (ht : t = X) (hs : X.length ≤ 140737488355328) (hv : refixed 2 X = .ok (⟨nl, d⟩, k)) {W0 w : World} {K : Know} {L : List Res} (h : St W0 w K L) :
    Calls Try.prog 81 #[.string (bb t), .int .i64 2] w fun en w' => en = .returned (.agg #[.bool nl, .string (bb d), .int .i64 k, .int .i64 0]) ∧ St W0 w' K L := by
  subst ht
  have := ref04_readFixed t 2 hs (by decide) h
  rw [gotV_okT hv] at this
  exact this
theorem sr_intT (t X : Bs) (ht : t = X) (a : Int) (ha : sInt X = a) (hs : X.length ≤ 8) {W0 w : World} {K : Know} {L : List Res} (h : St W0 w K L) :
    Calls Try.prog 76 #[.string (bb t)] w fun en w' => en = .returned (.int .i64 a) ∧ St W0 w' K L := by
  subst ht; exact sr_intV t a ha hs h

end Go.Proofs.Ytombolmicfjjpaa

/- A whole value stored into a block of one's own. -/
namespace Go.Proofs.Ytombolmicfjjpaa
open Go.RowKit

def setAll : Array Value → Nat → List Value → Array Value
  | c, _, [] => c
  | c, o, v :: r => setAll (c.setIfInBounds o v) (o + 1) r
theorem St.there {W0 w : World} {K : Know} {L : List Res} {b : Nat} {c : Array Value} {T : TypeId} (h : St W0 w K (.raw b c T :: L)) : w.there b 0 c.size := fun j hj => by
  rw [Nat.zero_add]
  exact ⟨by rw [h.rawCell j, Array.getElem?_eq_getElem hj]; rfl, h.rawFree j⟩
theorem St.rawSets {W0 : World} {K : Know} {L : List Res} {b : Nat} {T : TypeId} : ∀ (vs : List Value) (o : Nat) (c : Array Value) (w : World), St W0 w K (.raw b c T :: L) → St W0 (w.setCells b o vs) K (.raw b (setAll c o vs) T :: L)
  | [], _, _, _, h => h
  | v :: r, o, _, _, h => St.rawSets r (o + 1) _ _ (h.rawSet o v)
/-- A whole value stored into a block of one's own, the new world under a name. -/
theorem St.storeEx {W0 w : World} {K : Know} {L : List Res} {b : Nat} {c : Array Value} {T : TypeId} (h : St W0 w K (.raw b c T :: L)) (cs : Array Value) : ∃ wz, w.setCells b 0 cs.toList = wz ∧ St W0 wz K (.raw b (setAll c 0 cs.toList) T :: L) := ⟨_, rfl, h.rawSets _ _ _ _⟩
theorem St.allocEx {W0 w : World} {K : Know} {L : List Res} (h : St W0 w K L) (c : Array Value) (T : TypeId) : ∃ wy b, w.alloc (.cells c T (0, 0)) = wy ∧ w.heap.size = b ∧ St W0 wy K (.raw b c T :: L) := ⟨_, _, rfl, rfl, h.allocRaw c T⟩

end Go.Proofs.Ytombolmicfjjpaa

/- Operations of regions that draw their order. -/
namespace Go.Proofs.Ytombolmicfjjpaa
open Go.RowKit

theorem op_value {P : Program} {o : Oper} {a : Act} {w w' : World} {v : Value} {KK : Act → World → Prop} {Q : Exit → Act → World → Prop} (hr : (execOp a.eval o).run P w = .ok (.value v) w') (h : KK (a.put o.dst v) w') : o.wp P a w KK Q := by
  unfold Oper.wp
  rw [hr]
  exact h
/-- One element appended, which lies in a block of one's own, inside a region that draws its order. -/
theorem op_app1 {W0 w : World} {K : Know} {L : List Res} {o : Oper} {a : Act} {KK : Act → World → Prop} {Q : Exit → Act → World → Prop} (sl x : Operand) (t : TypeId)
    (ho : o.op = .call { callee := .builtin .append, args := #[sl, x], argTypes := #[t, t] })
    (e : TypeId) {z : Value} {size bytes : Nat} (ht : Try.prog.underlying t = some (.slice e)) (he : ElemT Try.prog e z size bytes)
    (v : Value) (n : Nat) (xs : List Value) (hs : a.eval sl = v) (bS : Nat) (cs : Array Value) (T : TypeId) (hst : St W0 w K (.raw bS cs T :: .row v e size n xs :: L))
    (hx : a.eval x = .slice (some ⟨bS, 0, none⟩) 1 1) (hl : cs.toList.length = size) (h1 : ∀ u ∈ cs.toList, u.oneCell' = true)
    (h63 : n + 1 ≤ maxLen) (hbytes : (n + 1) * bytes ≤ 140737488355328)
    (h : ∀ v' w', St W0 w' K (.row v' e size (n + 1) (xs ++ cs.toList) :: L) → KK (a.put o.dst v') w') : o.wp Try.prog a w KK Q := by
  have hc := hst.rawCell
  have hst2 := hst.p1
  obtain ⟨⟨i, g1, g2, g3, g4⟩, g5, g6⟩ := he
  obtain ⟨v', w', hr, h2, h3, h4⟩ := app_val (P := Try.prog) w t o.type e i z size bytes ht g1 g2 g3 g4 g5 g6 v n xs hst2.rowGet ⟨bS, 0, none⟩ 1 1 cs.toList (by omega) (fun j u hj => by
    have ha : (⟨bS, 0, none⟩ : Addr).add j = ⟨bS, j, none⟩ := by unfold Addr.add; split <;> simp_all
    rw [ha, hc j]
    simpa using hj) h1 h63 hbytes
  unfold Oper.wp execOp
  simp only [ho, resolve, invoke, builtin, Sem.run_bind, Sem.run_pure, Result.andThen_ok, List.map_toArray, List.map_cons, List.map_nil, hs, hx, hr]
  exact h v' w' (hst2.rowGrown h2 h3 h4).p1.drop
theorem op_skip {P : Program} {o : Oper} {a : Act} {w w' : World} {KK : Act → World → Prop} {Q : Exit → Act → World → Prop} (hr : (execOp a.eval o).run P w = .ok .skip w') (h : KK (a.put o.dst undef) w') : o.wp P a w KK Q := by
  unfold Oper.wp
  rw [hr]
  exact h
theorem St.setEx {W0 w : World} {K : Know} {L : List Res} {b : Nat} {c : Array Value} {T : TypeId} (h : St W0 w K (.raw b c T :: L)) (j : Nat) (v : Value) : ∃ wz, w.setCell ⟨b, j, none⟩ v = wz ∧ St W0 wz K (.raw b (c.setIfInBounds j v) T :: L) := ⟨_, rfl, h.rawSet j v⟩

end Go.Proofs.Ytombolmicfjjpaa

/- Topics, read by definition. -/
namespace Go.Proofs.Ytombolmicfjjpaa
open Go.RowKit

set_option maxHeartbeats 1000000 in
set_option maxRecDepth 100000 in
theorem ref14_readTopics_bad (s : Bs) (hs : s.length ≤ 1000000) (n : Nat) (E : Int) (hc : cntR 6 s = (n, E)) (h0 : E ≠ 0) (lf : List TopS) (mf : Nat) (ef : Int) (hr : topsR s = (lf, mf, ef)) {W0 w : World} {K : Know} {L : List Res} (h : St W0 w K L) :
    Calls Try.prog 26 #[.string (bb s)] w fun en w' => ∃ (v : Value) (lr : List (TopS × Value)), en = .returned (.tuple #[v, .int .i64 mf, .int .i64 ef]) ∧ lr.map (·.1) = lf ∧ St W0 w' (K.and (Know.tops v lr)) L := by
  rw [topsR_bad hc h0] at hr
  cases hr
  have H := Lib.hid h
  have HSL := Lib.hid hs
  have HC := Lib.hid hc
  have g1 : (E == 0) = false := by rw [beq_eq_false_iff_ne]; exact h0
  have g2 : (E != 0) = true := by simp [bne, g1]
  clear h hs hc h0
  go_enter Try.func26, Try.ntmps26
  go_wp2_with (go_at_call 80; (with_reducible refine (ref14_count s 6 6 rfl (by decide) (by decide) HSL.out n _ HC.out H.out).mono ?_); rintro e_ wn ⟨rfl, h⟩; replace H := Lib.hid h; clear h)
  go_ret3
  exact ⟨_, [], rfl, rfl, H.out.know (tops_nil K)⟩

set_option maxHeartbeats 4000000 in
set_option maxRecDepth 100000 in
theorem ref14_readTopics_go (s : Bs) (hs : s.length ≤ 1000000) (n : Nat) (hc : cntR 6 s = (n, 0)) (lf : List TopS) (mf : Nat) (ef : Int) (hr : topsR s = (lf, mf, ef)) {W0 w : World} {K : Know} {L : List Res} (h : St W0 w K L) :
    Calls Try.prog 26 #[.string (bb s)] w fun en w' => ∃ (v : Value) (lr : List (TopS × Value)), en = .returned (.tuple #[v, .int .i64 mf, .int .i64 ef]) ∧ lr.map (·.1) = lf ∧ St W0 w' (K.and (Know.tops v lr)) L := by
  obtain ⟨hgo, hle⟩ := topsR_go hc
  rw [hr] at hgo
  have H := Lib.hid h
  have HSL := Lib.hid hs
  have HC := Lib.hid hc
  have HNB := Lib.hid (show n ≤ 1000000 by omega)
  have HGO := Lib.hid hgo.symm
  have HP4 := Lib.hid (show 4 ≤ s.length by omega)
  have hni : (n : Int) ≤ 1000000 := by omega
  clear h hs hc hr hgo hle
  go_enter Try.func26, Try.ntmps26
  go_wp2_with (go_at_call 80; (with_reducible refine (ref14_count s 6 6 rfl (by decide) (by decide) HSL.out n _ HC.out H.out).mono ?_); rintro e_ wn ⟨rfl, h⟩; replace H := Lib.hid h; clear h)
  go_loopw [7, 8, 9, 10, 11, 12, 13, 14] (fun pv ov iv _ _ _ _ _ wr => ∃ (k p : Nat) (acc : List (TopS × Value)) (K2 : Know), k ≤ n ∧ iv = .int .i64 k ∧ pv = .int .i64 p ∧ Hid (acc.length = k) ∧ Hid (p ≤ s.length) ∧ Hid (stepR (acc.map (·.1)) p (topN (n - k) (s.drop p)) = (lf, mf, ef)) ∧ Hid (K2.has K) ∧ Hid (∀ x ∈ acc, K2.has (Know.flat RI x.2 1 x.1.parts)) ∧ St W0 wr K2 (.row ov 51 2 acc.length (acc.flatMap tcells) :: L)) (fun _ _ iv _ _ _ _ _ _ => n - (intOf iv).toNat)
  case atStart => exact ⟨0, 4, [], K, Nat.zero_le _, rfl, rfl, Lib.hid rfl, HP4, Lib.hid HGO.out, Lib.hid (Know.has_refl _), Lib.hid (fun x hx => by cases hx), H.out.rowLit [] 51 2 0 rfl (by decide)⟩
  case round =>
    obtain ⟨k, p, acc, K2, hk, rfl, rfl, HAL, HPL, HP, HKK, HALL, hst⟩ := hrel
    clear H
    have H := Lib.hid hst
    clear hst
    by_cases hlt : k < n
    · have hkn : (k : Int) < (n : Int) := by omega
      have hP1 := HP.out
      rw [show n - k = (n - (k + 1)) + 1 by omega] at hP1
      have hsl : (s.length : Int) ≤ 1000000 := by have := HSL.out; omega
      have hp0 : (p : Int) ≤ (s.length : Int) := by have := HPL.out; omega
      have HTE := Lib.hid (takeEnd s p)
      have HX := Lib.hid (show (s.drop p).length ≤ 140737488355328 by rw [List.length_drop]; have := HSL.out; omega)
      cases hv : refixed 2 (s.drop p) with
      | error er =>
        have h0 := refixed_err hv
        rw [stepR_err hv] at hP1
        cases hP1
        have HV := Lib.hid hv
        have g1 : (ef == 0) = false := by rw [beq_eq_false_iff_ne]; exact h0
        have g2 : (ef != 0) = true := by simp [bne, g1]
        clear hv h0
        as_aux_lemma =>
        go_wp2_with (go_at_call 81; (with_reducible refine (ref04_fixErr _ (s.drop p) ef HTE.out HX.out HV.out H.out).mono ?_); rintro e_ wn ⟨rfl, h⟩; obtain ⟨gb, hgb⟩ : ∃ b, wn.heap.size = b := ⟨_, rfl⟩; have h := h.allocRaw #[.bool false, .string ⟨#[]⟩, .int .i64 0, .int .i64 ef] 128; rw [hgb] at h; have x0 := h.rawCell 0; have x1 := h.rawCell 1; have x2 := h.rawCell 2; have x3 := h.rawCell 3; simp at x0 x1 x2 x3; replace H := Lib.hid h; clear h)
        have hs := H.out.drew
        go_region
        go_wp2
        go_ret3
        exact ⟨_, [], rfl, rfl, hs.drop.drop.know (Know.has_trans HKK.out (tops_nil K))⟩
      | ok x =>
        obtain ⟨⟨nl, d⟩, kk⟩ := x
        have HV := Lib.hid hv
        cases nl with
        | true =>
          rw [stepR_null hv rfl] at hP1
          cases hP1
          clear hv
          as_aux_lemma =>
          go_wp2_with (go_at_call 81; (with_reducible refine (ref04_fixOk _ (s.drop p) true d kk HTE.out HX.out HV.out H.out).mono ?_); rintro e_ wn ⟨rfl, h⟩; obtain ⟨gb, hgb⟩ : ∃ b, wn.heap.size = b := ⟨_, rfl⟩; have h := h.allocRaw #[.bool true, .string (bb d), .int .i64 kk, .int .i64 0] 128; rw [hgb] at h; have x0 := h.rawCell 0; have x1 := h.rawCell 1; have x2 := h.rawCell 2; have x3 := h.rawCell 3; simp at x0 x1 x2 x3; replace H := Lib.hid h; clear h)
          go_ret3
          exact ⟨_, [], rfl, rfl, H.out.drop.drop.know (Know.has_trans HKK.out (tops_nil K))⟩
        | false =>
          obtain ⟨hk2, hkl⟩ := refixed_le hv
          rw [List.length_drop] at hkl
          have hp1 : ((p : Int) + (kk : Int)) ≤ (s.length : Int) := by have := HPL.out; omega
          have hp1n : p + kk ≤ s.length := by have := HPL.out; omega
          have HTE2 := Lib.hid (takeEnd s (p + kk))
          have HX2 := Lib.hid (show (s.drop (p + kk)).length ≤ 1000000 by rw [List.length_drop]; have := HSL.out; omega)
          obtain ⟨⟨m, f⟩, hc2⟩ : ∃ r, cntR 4 (s.drop (p + kk)) = r := ⟨_, rfl⟩
          have HC2 := Lib.hid hc2
          by_cases h0 : f = 0
          rotate_left
          · rw [stepR_cnt hv rfl hc2 h0] at hP1
            cases hP1
            have g1 : (ef == 0) = false := by rw [beq_eq_false_iff_ne]; exact h0
            have g2 : (ef != 0) = true := by simp [bne, g1]
            clear hv hc2 h0 hk2 hkl
            as_aux_lemma =>
            go_wp2_with (first
    | (go_at_call 81; (with_reducible refine (ref04_fixOk _ (s.drop p) false d kk HTE.out HX.out HV.out H.out).mono ?_); rintro e_ wn ⟨rfl, h⟩; obtain ⟨gb, hgb⟩ : ∃ b, wn.heap.size = b := ⟨_, rfl⟩; have h := h.allocRaw #[.bool false, .string (bb d), .int .i64 kk, .int .i64 0] 128; rw [hgb] at h; have x0 := h.rawCell 0; have x1 := h.rawCell 1; have x2 := h.rawCell 2; have x3 := h.rawCell 3; simp at x0 x1 x2 x3; replace H := Lib.hid h; clear h)
    | (go_at_call 80; (with_reducible refine (ref14_countT _ (s.drop (p + kk)) HTE2.out 4 4 rfl (by decide) (by decide) HX2.out m ef HC2.out H.out).mono ?_); rintro e_ wn ⟨rfl, h⟩; have x0 := h.rawCell 0; have x1 := h.rawCell 1; have x2 := h.rawCell 2; have x3 := h.rawCell 3; simp at x0 x1 x2 x3; replace H := Lib.hid h; clear h))
            go_ret3
            exact ⟨_, [], rfl, rfl, H.out.drop.drop.know (Know.has_trans HKK.out (tops_nil K))⟩
          subst h0
          rw [stepR_next hv rfl hc2] at hP1
          obtain ⟨_, hml⟩ := cntR_zero (by decide) hc2
          rw [List.length_drop] at hml
          obtain ⟨p2, hp2⟩ : ∃ p2, p + kk + 4 = p2 := ⟨_, rfl⟩
          rw [hp2] at hP1
          have HP2 := Lib.hid hP1
          have HML := Lib.hid (show p2 + 4 * m ≤ s.length by omega)
          have hmi : (m : Int) ≤ 1000000 := by have := HSL.out; omega
          have HP2E := Lib.hid hp2
          have hpi : (p : Int) + (kk : Int) + 4 = (p2 : Int) := by omega
          clear hv hc2 hP1 hk2 hkl hml hp2
          as_aux_lemma =>
          go_wp2_with (first
    | (go_at_call 81; (with_reducible refine (ref04_fixOk _ (s.drop p) false d kk HTE.out HX.out HV.out H.out).mono ?_); rintro e_ wn ⟨rfl, h⟩; obtain ⟨gb, hgb⟩ : ∃ b, wn.heap.size = b := ⟨_, rfl⟩; have h := h.allocRaw #[.bool false, .string (bb d), .int .i64 kk, .int .i64 0] 128; rw [hgb] at h; have x0 := h.rawCell 0; have x1 := h.rawCell 1; have x2 := h.rawCell 2; have x3 := h.rawCell 3; simp at x0 x1 x2 x3; replace H := Lib.hid h; clear h)
    | (go_at_call 80; (with_reducible refine (ref14_countT _ (s.drop (p + kk)) HTE2.out 4 4 rfl (by decide) (by decide) HX2.out m 0 HC2.out H.out).mono ?_); rintro e_ wn ⟨rfl, h⟩; have x0 := h.rawCell 0; have x1 := h.rawCell 1; have x2 := h.rawCell 2; have x3 := h.rawCell 3; simp at x0 x1 x2 x3; obtain ⟨tb, htb⟩ : ∃ b, wn.heap.size = b := ⟨_, rfl⟩; have h := h.allocRaw #[.string (bb d), .slice none 0 0] 51; rw [htb] at h; replace H := Lib.hid h; clear h))
          go_loopw [7, 14] (fun pv iv wr => ∃ (k2 q : Nat) (rv : Value) (ps : List Int), k2 ≤ m ∧ iv = .int .i64 k2 ∧ pv = .int .i64 q ∧ Hid (q = p2 + 4 * k2) ∧ Hid (ps.length = k2) ∧ Hid (ps = intsB k2 (s.drop p2)) ∧ St W0 wr K2 (.raw tb #[.string (bb d), rv] 51 :: .row rv 3 1 ps.length (ps.flatMap fun x => [.int .i64 x]) :: .row u8 51 2 acc.length (acc.flatMap tcells) :: L)) (fun _ iv _ => m - (intOf iv).toNat)
          case atStart => exact ⟨0, p2, _, [], Nat.zero_le _, rfl, by first | rfl | (rw [hpi]) | (simp only [hpi]), Lib.hid rfl, Lib.hid rfl, Lib.hid rfl, ((H.out.p1.drop).nilRow 3 1).p1⟩
          case round =>
            obtain ⟨k2, q, rv, ps, hk2, rfl, rfl, HQ, HPN, HPS, hst⟩ := hrel
            obtain ⟨qr, cr, hrv⟩ := hst.p1.rowAny
            subst hrv
            clear H
            have H := Lib.hid hst
            clear hst
            by_cases hlt2 : k2 < m
            · have hkm : (k2 : Int) < (m : Int) := by omega
              have hq4 : (q : Int) + 4 ≤ (s.length : Int) := by have := HQ.out; have := HML.out; omega
              obtain ⟨a, ha⟩ : ∃ a, sInt ((s.drop q).take 4) = a := ⟨_, rfl⟩
              have HPS2 := Lib.hid (show ps ++ [a] = intsB (k2 + 1) (s.drop p2) by rw [intsB_snoc, ← HPS.out, List.drop_drop, ← HQ.out, ha])
              have HAE := Lib.hid ha
              have HT8 := Lib.hid (show ((s.drop q).take 4).length ≤ 8 by rw [List.length_take]; omega)
              obtain ⟨q4, hq4e⟩ : ∃ q4, q + 4 = q4 := ⟨_, rfl⟩
              have HT4 := Lib.hid (show List.take (q4 - q) (s.drop q) = (s.drop q).take 4 by rw [← hq4e, Nat.add_sub_cancel_left])
              have hw4 : IntKind.i64.wrap ((q : Int) + 4) = (q4 : Int) := by rw [IntKind.wrap_i64]; omega
              have hw5 : IntKind.i64.wrap (q4 : Int) = (q4 : Int) := by rw [IntKind.wrap_i64]; omega
              have hqa : (q4 : Int) ≤ (s.length : Int) := by omega
              have hqb : q ≤ q4 := by omega
              have hqc : (q : Int) ≤ (q4 : Int) := by omega
              have hq4i : (q : Int) + 4 = (q4 : Int) := by omega
              clear hq4e
              have HPB := Lib.hid (show ps.length ≤ 1000000 by have := HPN.out; omega)
              clear ha
              go_wp2_with fail
              have hs := H.out.drew
              refine wp_region_held_drew (S := fun _ => True) (by kernel_rfl) trivial (fun hHeld => ?_)
              refine wpAnyH_take (i := 0) (oi := { dst := some 66, op := Op.fieldAddr 51 (Operand.tmp 13) 1, type := 0, pos := "ref.go:113", after := #[], guard := none }) (v := ?_) rfl (by kernel_rfl) (by kernel_rfl) (by kernel_rfl) (fun _ _ _ h => h) (Or.inl ⟨by rfl, ?_⟩) (by assumption) ?_
              rotate_left
              · intro w hSw; (try dsimp only at hSw); go_simp; try with_reducible rfl
              simp only [Act.put, List.setIfInBounds_toArray, List.set_cons_zero, List.set_cons_succ]
              refine wpAnyH_take (i := 2) (oi := { dst := some 68, op := Op.move (Operand.tmp 0), type := 9, pos := "ref.go:113", after := #[], guard := none }) (v := ?_) rfl (by kernel_rfl) (by kernel_rfl) (by kernel_rfl) (fun _ _ _ h => h) (Or.inl ⟨by rfl, ?_⟩) (by assumption) ?_
              rotate_left
              · intro w hSw; (try dsimp only at hSw); go_simp; try with_reducible rfl
              simp only [Act.put, List.setIfInBounds_toArray, List.set_cons_zero, List.set_cons_succ]
              refine wpAnyH_take (i := 3) (oi := { dst := some 69, op := Op.move (Operand.tmp 7), type := 3, pos := "ref.go:113", after := #[], guard := none }) (v := ?_) rfl (by kernel_rfl) (by kernel_rfl) (by kernel_rfl) (fun _ _ _ h => h) (Or.inl ⟨by rfl, ?_⟩) (by assumption) ?_
              rotate_left
              · intro w hSw; (try dsimp only at hSw); go_simp; try with_reducible rfl
              simp only [Act.put, List.setIfInBounds_toArray, List.set_cons_zero, List.set_cons_succ]
              refine wpAnyH_take (i := 4) (oi := { dst := some 70, op := Op.move (Operand.tmp 7), type := 3, pos := "ref.go:113", after := #[], guard := none }) (v := ?_) rfl (by kernel_rfl) (by kernel_rfl) (by kernel_rfl) (fun _ _ _ h => h) (Or.inl ⟨by rfl, ?_⟩) (by assumption) ?_
              rotate_left
              · intro w hSw; (try dsimp only at hSw); go_simp; try with_reducible rfl
              simp only [Act.put, List.setIfInBounds_toArray, List.set_cons_zero, List.set_cons_succ]
              refine wpAnyH_take (i := 5) (oi := { dst := some 71, op := Op.binOp BinOp.add 3 (Operand.tmp 70) (Operand.const (Value.int IntKind.i64 4)) 3, type := 3, pos := "ref.go:113", after := #[{ on := 4, ground := Ground.data }], guard := none }) (v := ?_) rfl (by kernel_rfl) (by kernel_rfl) (by kernel_rfl) (fun _ _ _ h => h) (Or.inl ⟨by rfl, ?_⟩) (by assumption) ?_
              rotate_left
              · intro w hSw; (try dsimp only at hSw); go_simp; try with_reducible rfl
              simp only [Act.put, List.setIfInBounds_toArray, List.set_cons_zero, List.set_cons_succ]
              refine wpAnyH_take (i := 6) (oi := { dst := some 72, op := Op.slice 9 (Operand.tmp 68) (some (Operand.tmp 69)) (some (Operand.tmp 71)) none, type := 9, pos := "ref.go:113", after := #[{ on := 2, ground := Ground.data }, { on := 3, ground := Ground.data }, { on := 5, ground := Ground.data }], guard := none }) (v := ?_) rfl (by kernel_rfl) (by kernel_rfl) (by kernel_rfl) (fun _ _ _ h => h) (Or.inl ⟨by rfl, ?_⟩) (by assumption) ?_
              rotate_left
              · intro w hSw; (try dsimp only at hSw); go_simp; try with_reducible rfl
              simp only [Act.put, List.setIfInBounds_toArray, List.set_cons_zero, List.set_cons_succ]
              refine wpAnyH_ready (rs := [1, 7]) (by kernel_rfl) (by simp) (AllReadyH.cons (o := { dst := some 67, op := Op.load 49 (Operand.tmp 66), type := 49, pos := "ref.go:113", after := #[{ on := 0, ground := Ground.data }], guard := none }) rfl (fun KK hK => ?_) (AllReadyH.cons (o := { dst := some 73, op := Op.call { callee := Callee.value (Operand.func 76), args := #[Operand.tmp 72], argTypes := #[9] }, type := 3, pos := "ref.go:113", after := #[{ on := 6, ground := Ground.data }], guard := none }) rfl (fun KK hK => ?_) AllReadyH.nil))
              · have c1 := hs.rawCell 1
                simp at c1
                go_simp
                refine hK.out _ _ (trivial) (fun hHeld => ?_)
                clear hK KK
                try simp only [Act.put, List.setIfInBounds_toArray, List.set_cons_zero, List.set_cons_succ]
                clear c1
                refine wpAnyH_ready (rs := [7]) (by kernel_rfl) (by simp) (AllReadyH.cons (o := { dst := some 73, op := Op.call { callee := Callee.value (Operand.func 76), args := #[Operand.tmp 72], argTypes := #[9] }, type := 3, pos := "ref.go:113", after := #[{ on := 6, ground := Ground.data }], guard := none }) rfl (fun KK hK => ?_) AllReadyH.nil)
                · go_simp
                  go_at_call 76
                  with_reducible refine (sr_intT _ ((s.drop q).take 4) HT4.out a HAE.out HT8.out hs).mono ?_
                  rintro e wq ⟨rfl, hs⟩
                  refine hK.out _ _ (trivial) (fun hHeld => ?_)
                  clear hK KK
                  try simp only [Act.put, List.setIfInBounds_toArray, List.set_cons_zero, List.set_cons_succ]
                  refine wpAnyH_ready (rs := [8]) (by kernel_rfl) (by simp) (AllReadyH.cons (o := { dst := some 74, op := Op.buildSlice 49 1 #[(0, Operand.tmp 73)], type := 49, pos := "ref.go:113", after := #[{ on := 7, ground := Ground.data }], guard := none }) rfl (fun KK hK => ?_) AllReadyH.nil)
                  · rw [if_pos (by rfl)]
                    refine op_value (v := .slice (some ⟨wq.heap.size, 0, none⟩) 1 1) (w' := wq.alloc (.cells #[.int .i64 a] 3 (0, 0))) (by go_simp) ?_
                    obtain ⟨wy, bS, ey, eb, hs⟩ := hs.allocEx #[.int .i64 a] 3
                    rw [ey, eb]
                    clear ey eb
                    refine hK.out _ _ (trivial) (fun hHeld => ?_)
                    clear hK KK
                    try simp only [Act.put, List.setIfInBounds_toArray, List.set_cons_zero, List.set_cons_succ]
                    refine wpAnyH_ready (rs := [9]) (by kernel_rfl) (by simp) (AllReadyH.cons (o := { dst := some 75, op := Op.call { callee := Callee.builtin Builtin.append, args := #[Operand.tmp 67, Operand.tmp 74], argTypes := #[49, 49] }, type := 49, pos := "ref.go:113", after := #[{ on := 1, ground := Ground.data }, { on := 8, ground := Ground.data }, { on := 7, ground := Ground.chain }], guard := none }) rfl (fun KK hK => ?_) AllReadyH.nil)
                    · rw [if_pos (by rfl)]
                      refine op_app1 (.tmp 67) (.tmp 74) 49 rfl 3 Try.underlying49 elem_int (.slice qr ps.length cr) ps.length _ (by rfl) bS #[.int .i64 a] 3 hs.p2.p1 (by rfl) rfl (by simp [Value.oneCell']) (by have := HPB.out; unfold maxLen; omega) (by have := HPB.out; omega) (fun v' w' h => ?_)
                      obtain ⟨qv, cv, hqv⟩ := h.rowAny
                      subst hqv
                      have hs := h.p1
                      clear h
                      refine hK.out _ _ (trivial) (fun hHeld => ?_)
                      clear hK KK
                      try simp only [Act.put, List.setIfInBounds_toArray, List.set_cons_zero, List.set_cons_succ]
                      refine wpAnyH_take (i := 10) (oi := { dst := some 76, op := Op.fieldAddr 51 (Operand.tmp 13) 1, type := 0, pos := "ref.go:113", after := #[{ on := 0, ground := Ground.phase }, { on := 1, ground := Ground.phase }, { on := 2, ground := Ground.phase }, { on := 3, ground := Ground.phase }, { on := 4, ground := Ground.phase }, { on := 5, ground := Ground.phase }, { on := 6, ground := Ground.phase }, { on := 7, ground := Ground.phase }, { on := 8, ground := Ground.phase }, { on := 9, ground := Ground.phase }], guard := none }) (v := ?_) rfl (by kernel_rfl) (by kernel_rfl) (by kernel_rfl) (fun _ _ _ h => h) (Or.inl ⟨by rfl, ?_⟩) (by assumption) ?_
                      rotate_left
                      · intro w hSw; (try dsimp only at hSw); go_simp; try with_reducible rfl
                      simp only [Act.put, List.setIfInBounds_toArray, List.set_cons_zero, List.set_cons_succ]
                      refine wpAnyH_ready (rs := [11]) (by kernel_rfl) (by simp) (AllReadyH.cons (o := { dst := none, op := Op.store 49 (Operand.tmp 76) (Operand.tmp 75), type := 0, pos := "ref.go:113", after := #[{ on := 10, ground := Ground.data }, { on := 9, ground := Ground.data }, { on := 9, ground := Ground.chain }, { on := 0, ground := Ground.phase }, { on := 1, ground := Ground.phase }, { on := 2, ground := Ground.phase }, { on := 3, ground := Ground.phase }, { on := 4, ground := Ground.phase }, { on := 5, ground := Ground.phase }, { on := 6, ground := Ground.phase }, { on := 7, ground := Ground.phase }, { on := 8, ground := Ground.phase }, { on := 9, ground := Ground.phase }], guard := none }) rfl (fun KK hK => ?_) AllReadyH.nil)
                      · have f1 := hs.rawFree 1
                        have c1 := hs.rawCell 1
                        simp at c1
                        rw [if_pos (by rfl)]
                        refine op_skip (w' := w'.setCell ⟨tb, 1, none⟩ (.slice qv (ps.length + 1) cv)) (by go_simp) ?_
                        obtain ⟨wz, ez, hs⟩ := hs.setEx 1 (.slice qv (ps.length + 1) cv)
                        rw [ez]
                        clear ez f1 c1
                        refine hK.out _ _ (trivial) (fun hHeld => ?_)
                        clear hK KK
                        try simp only [Act.put, List.setIfInBounds_toArray, List.set_cons_zero, List.set_cons_succ]
                        refine wpAnyH_done (by kernel_rfl) ?_ _
                        clear hHeld
                        go_wp2_with fail
                        go_roundw
                        case rel => exact ⟨k2 + 1, q4, _, ps ++ [a], hlt2, by go_num, by first | rfl | go_num, Lib.hid (by have := HQ.out; omega), Lib.hid (by rw [List.length_append, HPN.out]; rfl), HPS2, by rw [List.length_append, List.flatMap_append]; exact hs⟩
                        case measure => first | (simp [intOf]; done) | (simp [intOf]; omega)
              · go_simp
                go_at_call 76
                with_reducible refine (sr_intT _ ((s.drop q).take 4) HT4.out a HAE.out HT8.out hs).mono ?_
                rintro e wq ⟨rfl, hs⟩
                refine hK.out _ _ (trivial) (fun hHeld => ?_)
                clear hK KK
                try simp only [Act.put, List.setIfInBounds_toArray, List.set_cons_zero, List.set_cons_succ]
                refine wpAnyH_ready (rs := [1, 8]) (by kernel_rfl) (by simp) (AllReadyH.cons (o := { dst := some 67, op := Op.load 49 (Operand.tmp 66), type := 49, pos := "ref.go:113", after := #[{ on := 0, ground := Ground.data }], guard := none }) rfl (fun KK hK => ?_) (AllReadyH.cons (o := { dst := some 74, op := Op.buildSlice 49 1 #[(0, Operand.tmp 73)], type := 49, pos := "ref.go:113", after := #[{ on := 7, ground := Ground.data }], guard := none }) rfl (fun KK hK => ?_) AllReadyH.nil))
                · have c1 := hs.rawCell 1
                  simp at c1
                  go_simp
                  refine hK.out _ _ (trivial) (fun hHeld => ?_)
                  clear hK KK
                  try simp only [Act.put, List.setIfInBounds_toArray, List.set_cons_zero, List.set_cons_succ]
                  clear c1
                  refine wpAnyH_ready (rs := [8]) (by kernel_rfl) (by simp) (AllReadyH.cons (o := { dst := some 74, op := Op.buildSlice 49 1 #[(0, Operand.tmp 73)], type := 49, pos := "ref.go:113", after := #[{ on := 7, ground := Ground.data }], guard := none }) rfl (fun KK hK => ?_) AllReadyH.nil)
                  · rw [if_pos (by rfl)]
                    refine op_value (v := .slice (some ⟨wq.heap.size, 0, none⟩) 1 1) (w' := wq.alloc (.cells #[.int .i64 a] 3 (0, 0))) (by go_simp) ?_
                    obtain ⟨wy, bS, ey, eb, hs⟩ := hs.allocEx #[.int .i64 a] 3
                    rw [ey, eb]
                    clear ey eb
                    refine hK.out _ _ (trivial) (fun hHeld => ?_)
                    clear hK KK
                    try simp only [Act.put, List.setIfInBounds_toArray, List.set_cons_zero, List.set_cons_succ]
                    refine wpAnyH_ready (rs := [9]) (by kernel_rfl) (by simp) (AllReadyH.cons (o := { dst := some 75, op := Op.call { callee := Callee.builtin Builtin.append, args := #[Operand.tmp 67, Operand.tmp 74], argTypes := #[49, 49] }, type := 49, pos := "ref.go:113", after := #[{ on := 1, ground := Ground.data }, { on := 8, ground := Ground.data }, { on := 7, ground := Ground.chain }], guard := none }) rfl (fun KK hK => ?_) AllReadyH.nil)
                    · rw [if_pos (by rfl)]
                      refine op_app1 (.tmp 67) (.tmp 74) 49 rfl 3 Try.underlying49 elem_int (.slice qr ps.length cr) ps.length _ (by rfl) bS #[.int .i64 a] 3 hs.p2.p1 (by rfl) rfl (by simp [Value.oneCell']) (by have := HPB.out; unfold maxLen; omega) (by have := HPB.out; omega) (fun v' w' h => ?_)
                      obtain ⟨qv, cv, hqv⟩ := h.rowAny
                      subst hqv
                      have hs := h.p1
                      clear h
                      refine hK.out _ _ (trivial) (fun hHeld => ?_)
                      clear hK KK
                      try simp only [Act.put, List.setIfInBounds_toArray, List.set_cons_zero, List.set_cons_succ]
                      refine wpAnyH_take (i := 10) (oi := { dst := some 76, op := Op.fieldAddr 51 (Operand.tmp 13) 1, type := 0, pos := "ref.go:113", after := #[{ on := 0, ground := Ground.phase }, { on := 1, ground := Ground.phase }, { on := 2, ground := Ground.phase }, { on := 3, ground := Ground.phase }, { on := 4, ground := Ground.phase }, { on := 5, ground := Ground.phase }, { on := 6, ground := Ground.phase }, { on := 7, ground := Ground.phase }, { on := 8, ground := Ground.phase }, { on := 9, ground := Ground.phase }], guard := none }) (v := ?_) rfl (by kernel_rfl) (by kernel_rfl) (by kernel_rfl) (fun _ _ _ h => h) (Or.inl ⟨by rfl, ?_⟩) (by assumption) ?_
                      rotate_left
                      · intro w hSw; (try dsimp only at hSw); go_simp; try with_reducible rfl
                      simp only [Act.put, List.setIfInBounds_toArray, List.set_cons_zero, List.set_cons_succ]
                      refine wpAnyH_ready (rs := [11]) (by kernel_rfl) (by simp) (AllReadyH.cons (o := { dst := none, op := Op.store 49 (Operand.tmp 76) (Operand.tmp 75), type := 0, pos := "ref.go:113", after := #[{ on := 10, ground := Ground.data }, { on := 9, ground := Ground.data }, { on := 9, ground := Ground.chain }, { on := 0, ground := Ground.phase }, { on := 1, ground := Ground.phase }, { on := 2, ground := Ground.phase }, { on := 3, ground := Ground.phase }, { on := 4, ground := Ground.phase }, { on := 5, ground := Ground.phase }, { on := 6, ground := Ground.phase }, { on := 7, ground := Ground.phase }, { on := 8, ground := Ground.phase }, { on := 9, ground := Ground.phase }], guard := none }) rfl (fun KK hK => ?_) AllReadyH.nil)
                      · have f1 := hs.rawFree 1
                        have c1 := hs.rawCell 1
                        simp at c1
                        rw [if_pos (by rfl)]
                        refine op_skip (w' := w'.setCell ⟨tb, 1, none⟩ (.slice qv (ps.length + 1) cv)) (by go_simp) ?_
                        obtain ⟨wz, ez, hs⟩ := hs.setEx 1 (.slice qv (ps.length + 1) cv)
                        rw [ez]
                        clear ez f1 c1
                        refine hK.out _ _ (trivial) (fun hHeld => ?_)
                        clear hK KK
                        try simp only [Act.put, List.setIfInBounds_toArray, List.set_cons_zero, List.set_cons_succ]
                        refine wpAnyH_done (by kernel_rfl) ?_ _
                        clear hHeld
                        go_wp2_with fail
                        go_roundw
                        case rel => exact ⟨k2 + 1, q4, _, ps ++ [a], hlt2, by go_num, by first | rfl | go_num, Lib.hid (by have := HQ.out; omega), Lib.hid (by rw [List.length_append, HPN.out]; rfl), HPS2, by rw [List.length_append, List.flatMap_append]; exact hs⟩
                        case measure => first | (simp [intOf]; done) | (simp [intOf]; omega)
                · rw [if_pos (by rfl)]
                  refine op_value (v := .slice (some ⟨wq.heap.size, 0, none⟩) 1 1) (w' := wq.alloc (.cells #[.int .i64 a] 3 (0, 0))) (by go_simp) ?_
                  obtain ⟨wy, bS, ey, eb, hs⟩ := hs.allocEx #[.int .i64 a] 3
                  rw [ey, eb]
                  clear ey eb
                  refine hK.out _ _ (trivial) (fun hHeld => ?_)
                  clear hK KK
                  try simp only [Act.put, List.setIfInBounds_toArray, List.set_cons_zero, List.set_cons_succ]
                  refine wpAnyH_ready (rs := [1]) (by kernel_rfl) (by simp) (AllReadyH.cons (o := { dst := some 67, op := Op.load 49 (Operand.tmp 66), type := 49, pos := "ref.go:113", after := #[{ on := 0, ground := Ground.data }], guard := none }) rfl (fun KK hK => ?_) AllReadyH.nil)
                  · have c1 := hs.p1.rawCell 1
                    simp at c1
                    go_simp
                    refine hK.out _ _ (trivial) (fun hHeld => ?_)
                    clear hK KK
                    try simp only [Act.put, List.setIfInBounds_toArray, List.set_cons_zero, List.set_cons_succ]
                    clear c1
                    refine wpAnyH_ready (rs := [9]) (by kernel_rfl) (by simp) (AllReadyH.cons (o := { dst := some 75, op := Op.call { callee := Callee.builtin Builtin.append, args := #[Operand.tmp 67, Operand.tmp 74], argTypes := #[49, 49] }, type := 49, pos := "ref.go:113", after := #[{ on := 1, ground := Ground.data }, { on := 8, ground := Ground.data }, { on := 7, ground := Ground.chain }], guard := none }) rfl (fun KK hK => ?_) AllReadyH.nil)
                    · rw [if_pos (by rfl)]
                      refine op_app1 (.tmp 67) (.tmp 74) 49 rfl 3 Try.underlying49 elem_int (.slice qr ps.length cr) ps.length _ (by rfl) bS #[.int .i64 a] 3 hs.p2.p1 (by rfl) rfl (by simp [Value.oneCell']) (by have := HPB.out; unfold maxLen; omega) (by have := HPB.out; omega) (fun v' w' h => ?_)
                      obtain ⟨qv, cv, hqv⟩ := h.rowAny
                      subst hqv
                      have hs := h.p1
                      clear h
                      refine hK.out _ _ (trivial) (fun hHeld => ?_)
                      clear hK KK
                      try simp only [Act.put, List.setIfInBounds_toArray, List.set_cons_zero, List.set_cons_succ]
                      refine wpAnyH_take (i := 10) (oi := { dst := some 76, op := Op.fieldAddr 51 (Operand.tmp 13) 1, type := 0, pos := "ref.go:113", after := #[{ on := 0, ground := Ground.phase }, { on := 1, ground := Ground.phase }, { on := 2, ground := Ground.phase }, { on := 3, ground := Ground.phase }, { on := 4, ground := Ground.phase }, { on := 5, ground := Ground.phase }, { on := 6, ground := Ground.phase }, { on := 7, ground := Ground.phase }, { on := 8, ground := Ground.phase }, { on := 9, ground := Ground.phase }], guard := none }) (v := ?_) rfl (by kernel_rfl) (by kernel_rfl) (by kernel_rfl) (fun _ _ _ h => h) (Or.inl ⟨by rfl, ?_⟩) (by assumption) ?_
                      rotate_left
                      · intro w hSw; (try dsimp only at hSw); go_simp; try with_reducible rfl
                      simp only [Act.put, List.setIfInBounds_toArray, List.set_cons_zero, List.set_cons_succ]
                      refine wpAnyH_ready (rs := [11]) (by kernel_rfl) (by simp) (AllReadyH.cons (o := { dst := none, op := Op.store 49 (Operand.tmp 76) (Operand.tmp 75), type := 0, pos := "ref.go:113", after := #[{ on := 10, ground := Ground.data }, { on := 9, ground := Ground.data }, { on := 9, ground := Ground.chain }, { on := 0, ground := Ground.phase }, { on := 1, ground := Ground.phase }, { on := 2, ground := Ground.phase }, { on := 3, ground := Ground.phase }, { on := 4, ground := Ground.phase }, { on := 5, ground := Ground.phase }, { on := 6, ground := Ground.phase }, { on := 7, ground := Ground.phase }, { on := 8, ground := Ground.phase }, { on := 9, ground := Ground.phase }], guard := none }) rfl (fun KK hK => ?_) AllReadyH.nil)
                      · have f1 := hs.rawFree 1
                        have c1 := hs.rawCell 1
                        simp at c1
                        rw [if_pos (by rfl)]
                        refine op_skip (w' := w'.setCell ⟨tb, 1, none⟩ (.slice qv (ps.length + 1) cv)) (by go_simp) ?_
                        obtain ⟨wz, ez, hs⟩ := hs.setEx 1 (.slice qv (ps.length + 1) cv)
                        rw [ez]
                        clear ez f1 c1
                        refine hK.out _ _ (trivial) (fun hHeld => ?_)
                        clear hK KK
                        try simp only [Act.put, List.setIfInBounds_toArray, List.set_cons_zero, List.set_cons_succ]
                        refine wpAnyH_done (by kernel_rfl) ?_ _
                        clear hHeld
                        go_wp2_with fail
                        go_roundw
                        case rel => exact ⟨k2 + 1, q4, _, ps ++ [a], hlt2, by go_num, by first | rfl | go_num, Lib.hid (by have := HQ.out; omega), Lib.hid (by rw [List.length_append, HPN.out]; rfl), HPS2, by rw [List.length_append, List.flatMap_append]; exact hs⟩
                        case measure => first | (simp [intOf]; done) | (simp [intOf]; omega)
            · obtain rfl : k2 = m := by omega
              have y0 := H.out.rawCell 0
              have y1 := H.out.rawCell 1
              simp at y0 y1
              have HAB := Lib.hid (show acc.length ≤ 2147483647 by have := HAL.out; have := HNB.out; omega)
              have HN2 := Lib.hid ((H.out.p1.freezeRow (R := RI) (fun x _ => ⟨rfl, rfl⟩)).drop)
              clear H
              have H := HN2
              clear HN2
              go_wp2_with (at_builtin; refine wpl_app1_st rfl _ _ 22 rfl 51 Try.underlying22 elem_top _ _ _ rfl H.out [.string (bb d), .slice qr ps.length cr] 51 rfl rfl (by simp [Value.oneCell']) (by have := HAB.out; unfold maxLen; omega) (by have := HAB.out; omega) ?_; intro v' w' h; replace H := Lib.hid h; clear h)
              go_roundw
              case rel => exact ⟨k + 1, q, acc ++ [((⟨d, ps⟩ : TopS), .slice qr ps.length cr)], K2.and (Know.flat RI (.slice qr ps.length cr) 1 ps), hlt, by go_num, rfl, Lib.hid (by rw [List.length_append, HAL.out]; rfl), Lib.hid (by have := HQ.out; have := HML.out; omega), Lib.hid (by rw [List.map_append, HQ.out]; have h9 := HP2.out; rw [← HPS.out] at h9; exact h9), Lib.hid (Know.has_trans (Know.has_left (Know.has_refl _)) HKK.out), Lib.hid (fun x hx => by
                rcases List.mem_append.1 hx with hx | hx
                · exact Know.has_left (HALL.out x hx)
                · rw [List.mem_singleton.1 hx]; exact Know.has_right (Know.has_refl _)), by rw [List.length_append, List.flatMap_append]; exact H.out⟩
              case measure => first | (simp [intOf]; done) | (simp [intOf]; omega)
    · obtain rfl : k = n := by omega
      have hp := HP.out
      rw [Nat.sub_self, stepR_zero] at hp
      simp only [Prod.mk.injEq] at hp
      obtain ⟨rfl, rfl, rfl⟩ := hp
      go_wp2
      go_ret3
      have hf := H.out.freezeRow (R := RTop) (fun x _ => ⟨rfl, rfl⟩)
      have hf2 := hf.know (K' := K.and (Know.tops _ acc)) (fun w F hh => ⟨HKK.out _ _ hh.1, hh.2, fun y hy => HALL.out y hy _ _ hh.1⟩)
      first | exact ⟨_, acc, rfl, rfl, hf2⟩ | exact ⟨_, rfl, acc, rfl, hf2⟩
theorem ref14_readTopics (s : Bs) (hs : s.length ≤ 1000000) (lf : List TopS) (mf : Nat) (ef : Int) (hr : topsR s = (lf, mf, ef)) {W0 w : World} {K : Know} {L : List Res} (h : St W0 w K L) :
    Calls Try.prog 26 #[.string (bb s)] w fun en w' => ∃ (v : Value) (lr : List (TopS × Value)), en = .returned (.tuple #[v, .int .i64 mf, .int .i64 ef]) ∧ lr.map (·.1) = lf ∧ St W0 w' (K.and (Know.tops v lr)) L := by
  obtain ⟨⟨n, E⟩, hc⟩ : ∃ r, cntR 6 s = r := ⟨_, rfl⟩
  by_cases h0 : E = 0
  · subst h0
    exact ref14_readTopics_go s hs n hc lf mf ef hr h
  · exact ref14_readTopics_bad s hs n E hc h0 lf mf ef hr h

end Go.Proofs.Ytombolmicfjjpaa

/- Values, checked by definition: the ways. -/
namespace Go.Proofs.Ytombolmicfjjpaa
open Go.RowKit

end Go.Proofs.Ytombolmicfjjpaa

/- Values, checked by definition. -/
namespace Go.Proofs.Ytombolmicfjjpaa
open Go.RowKit

end Go.Proofs.Ytombolmicfjjpaa

/- All cells of a block set (arrays). -/
namespace Go.Proofs.Ytombolmicfjjpaa
open Go.RowKit

theorem setAll_getV : ∀ (vs : List Value) (o : Nat) (c : Array Value) (i : Nat), (setAll c o vs)[i]? = if o ≤ i ∧ i < o + vs.length ∧ i < c.size then vs[i - o]? else c[i]?
  | [], o, c, i => by
    show c[i]? = _
    rw [if_neg (by simp; omega)]
  | v :: r, o, c, i => by
    show (setAll (c.setIfInBounds o v) (o + 1) r)[i]? = _
    rw [setAll_getV r (o + 1) _ i]
    simp only [Array.size_setIfInBounds, List.length_cons]
    by_cases h1 : o + 1 ≤ i ∧ i < o + 1 + r.length ∧ i < c.size
    · rw [if_pos h1, if_pos (by omega)]
      obtain ⟨k, rfl⟩ : ∃ k, i = o + 1 + k := ⟨i - (o + 1), by omega⟩
      rw [show o + 1 + k - (o + 1) = k by omega, show o + 1 + k - o = k + 1 by omega]
      rfl
    · rw [if_neg h1, Array.getElem?_setIfInBounds]
      by_cases h2 : o = i
      · subst h2
        rw [if_pos rfl]
        by_cases h3 : o < c.size
        · rw [if_pos h3, if_pos (by omega), Nat.sub_self]; rfl
        · rw [if_neg h3, if_neg (by omega), Array.getElem?_eq_none (by omega)]
      · rw [if_neg h2, if_neg (by omega)]
theorem setAll_allV (c cs : Array Value) (h : c.size = cs.size) : setAll c 0 cs.toList = cs := by
  refine Array.ext_getElem? fun i => ?_
  rw [setAll_getV]
  by_cases h1 : i < cs.size
  · rw [if_pos (by simp; omega), Nat.sub_zero, Array.getElem?_toList]
  · rw [if_neg (by simp; omega), Array.getElem?_eq_none (by omega), Array.getElem?_eq_none (by omega)]

end Go.Proofs.Ytombolmicfjjpaa

/- Values, read by definition: early ends. -/
namespace Go.Proofs.Ytombolmicfjjpaa
open Go.RowKit

theorem ref14_readTopicsT (t X : Bs) (ht : t = X) (hs : X.length ≤ 1000000) (lf : List TopS) (mf : Nat) (ef : Int) (hr : topsR X = (lf, mf, ef)) {W0 w : World} {K : Know} {L : List Res} (h : St W0 w K L) :
    Calls Try.prog 26 #[.string (bb t)] w fun en w' => ∃ (v : Value) (lr : List (TopS × Value)), en = .returned (.tuple #[v, .int .i64 mf, .int .i64 ef]) ∧ lr.map (·.1) = lf ∧ St W0 w' (K.and (Know.tops v lr)) L := by
  subst ht; exact ref14_readTopics t hs lf mf ef hr h

end Go.Proofs.Ytombolmicfjjpaa
