/- Parts of requests, for the law. -/
import Derived.Test.YtombolmicfjjpaaGTxnParts2
import Derived.Test.YtombolmicfjjpaaGTxnParts3
import Derived.Test.YtombolmicfjjpaaGTxnParts1
import Derived.Test.YtombolmicfjjpaaBlob1
import Derived.Test.YtombolmicfjjpaaRef04
import Derived.Test.YtombolmicfjjpaaKeyP
import Derived.Test.YtombolmicfjjpaaBlob2
import Derived.Test.YtombolmicfjjpaaBlobP
import Derived.Test.YtombolmicfjjpaaRec1
import Derived.Test.YtombolmicfjjpaaRecP
import Derived.Test.YtombolmicfjjpaaRecs
import Derived.Test.YtombolmicfjjpaaSep
import Derived.Deep.MidRow
import Derived.Handy
import Derived.Deep.RegionHeld3
import Derived.Deep.DeepCutAuto
import Derived.Test.YtombolmicfjjpaaArgs
import Derived.SizedLaws
import Derived.Deep.Slices
/- Values, checked. -/
namespace Go.Proofs.Ytombolmicfjjpaa
open Go.RowKit

theorem idle_0 : idle 0 = true := rfl
theorem val_check (v : ValS) (l : List (TopS × Value)) (q : Option Addr) (cap : Nat) (hl : l.map (·.1) = v.tops) (E : Int) (he : v.err = E) (hf : FewT l) {W0 w : World} {K : Know} {L : List Res} (hk : K.has (Know.tops (.slice q l.length cap) l)) (h : St W0 w K L) :
    Calls Try.prog 17 #[.agg #[.int .i64 v.prod, .int .i64 v.epoch, .int .i64 v.timeout, .int .i64 v.state, .slice q l.length cap, .int .i64 v.upd, .int .i64 v.started]] w fun en w' => en = .returned (.int .i64 E) ∧ St W0 w' K L := by
  obtain ⟨p, e, t, s, tops, u, st⟩ := v
  simp only at hl ⊢
  subst hl
  unfold ValS.err ValS.ranged at he
  simp only at he
  cases hrg : (decide (0 ≤ p) && (decide (0 ≤ e) && (decide (e ≤ 32767) && (decide (0 ≤ t) && (decide (t ≤ 2147483647) && (decide (0 ≤ u) && decide (-1 ≤ st))))))) with
  | false =>
    rw [if_pos hrg] at he
    subst he
    exact val_check_11 p e t s u st l q cap hrg hf hk h
  | true =>
    rw [if_neg (by rw [hrg]; decide)] at he
    by_cases hs : s < 0 ∨ 7 ≤ s
    · rw [if_pos hs] at he
      subst he
      exact val_check_12 p e t s u st l q cap hrg hs hf hk h
    · rw [if_neg hs] at he
      have s1 : 0 ≤ s := by omega
      have s2 : s < 7 := by omega
      have hemp : (l.map (·.1)).isEmpty = decide (l = []) := by cases l <;> simp
      rw [hemp] at he
      by_cases hem : l = []
      · rw [decide_eq_true hem] at he
        cases hi : idle s with
        | false =>
          rw [if_pos (.inl (by rw [hi]; rfl))] at he
          subst he
          subst hem; exact val_check_10e p e t s u st q cap hrg s1 s2 hi hf hk h
        | true =>
          by_cases h1 : s = 0
          · by_cases h2 : st = -1
            · rw [if_neg (by rw [hi, h1, h2]; decide)] at he
              have htr : tRise (l.map (·.1)) = true := by rw [hem]; rfl
              rw [if_neg (by rw [htr]; decide)] at he
              subst he
              subst hem; exact val_check_e11t p e t s u st q cap hrg s1 s2 hi h1 h2 htr hf hk h
            · rw [if_pos (.inr (by rw [h1, beq_eq_false_iff_ne.2 h2]; rfl))] at he
              subst he
              subst hem; exact val_check_e10 p e t s u st q cap hrg s1 s2 hi h1 h2 hf hk h
          · by_cases h2 : st = -1
            · rw [if_pos (.inr (by rw [h2, beq_eq_false_iff_ne.2 h1]; rfl))] at he
              subst he
              subst hem; exact val_check_e01 p e t s u st q cap hrg s1 s2 hi h1 h2 hf hk h
            · rw [if_neg (by rw [hi, beq_eq_false_iff_ne.2 h1, beq_eq_false_iff_ne.2 h2]; decide)] at he
              have htr : tRise (l.map (·.1)) = true := by rw [hem]; rfl
              rw [if_neg (by rw [htr]; decide)] at he
              subst he
              subst hem; exact val_check_e00t p e t s u st q cap hrg s1 s2 hi h1 h2 htr hf hk h
      · rw [decide_eq_false hem] at he
        cases hi : idle s with
        | true =>
          rw [if_pos (.inl (by rw [hi]; rfl))] at he
          subst he
          exact val_check_10f p e t s u st l q cap hrg s1 s2 hi hem hf hk h
        | false =>
          have h1 : ¬ s = 0 := by rintro rfl; rw [idle_0] at hi; cases hi
          by_cases h2 : st = -1
          · rw [if_pos (.inr (by rw [h2, beq_eq_false_iff_ne.2 h1]; rfl))] at he
            subst he
            exact val_check_f01 p e t s u st l q cap hrg s1 s2 hi hem h1 h2 hf hk h
          · rw [if_neg (by rw [hi, beq_eq_false_iff_ne.2 h1, beq_eq_false_iff_ne.2 h2]; decide)] at he
            cases htr : tRise (l.map (·.1)) with
            | true =>
              rw [if_neg (by rw [htr]; decide)] at he
              subst he
              exact val_check_f00t p e t s u st l q cap hrg s1 s2 hi hem h1 h2 htr hf hk h
            | false =>
              rw [if_pos htr] at he
              subst he
              exact val_check_f00b p e t s u st l q cap hrg s1 s2 hi hem h1 h2 htr hf hk h

end Go.Proofs.Ytombolmicfjjpaa

/- Numbers and texts, written. -/
namespace Go.Proofs.Ytombolmicfjjpaa
open Go.RowKit

theorem fits_rng (n size : Int) (h : fits n size) : -9223372036854775808 ≤ n ∧ n < 9223372036854775808 := by
  obtain ⟨h1, h2, h3, h4⟩ := h
  unfold half at h3 h4
  rcases (by omega : size.toNat - 1 = 0 ∨ size.toNat - 1 = 1 ∨ size.toNat - 1 = 2 ∨ size.toNat - 1 = 3 ∨ size.toNat - 1 = 4 ∨ size.toNat - 1 = 5 ∨ size.toNat - 1 = 6 ∨ size.toNat - 1 = 7) with h | h | h | h | h | h | h | h <;> rw [h] at h3 h4 <;> omega
theorem so_intV (p : Nat) (e e2 : Bs) (n size : Int) (he : e ++ beBytes n size.toNat = e2) (hf : fits n size) (hl : e.length ≤ 100000000000000) {W0 w : World} {K : Know} {L : List Res} (h : St W0 w K (.out p ⟨e, 0⟩ :: L)) :
    Calls Try.prog 69 #[outPtr p, .int .i64 n, .int .i64 size] w fun en w' => en = .returned (.tuple #[]) ∧ St W0 w' K (.out p ⟨e2, 0⟩ :: L) := by
  have h2 := so_int p ⟨e, 0⟩ n size (fits_rng n size hf) h (by unfold OutS.ok; simp only; omega)
  have e3 : (⟨e, 0⟩ : OutS).int n size = ⟨e2, 0⟩ := by unfold OutS.int; rw [if_pos hf, ← he]; rfl
  rw [e3] at h2
  exact h2
theorem blob_putTextV (p : Nat) (e e2 s : Bs) (he : e ++ encF 2 ⟨false, s⟩ = e2) (hs : s.length ≤ 32767) (hl : e.length ≤ 100000000000000) {W0 w : World} {K : Know} {L : List Res} (h : St W0 w K (.out p ⟨e, 0⟩ :: L)) :
    Calls Try.prog 86 #[outPtr p, .string (bb s)] w fun en w' => en = .returned (.tuple #[]) ∧ St W0 w' K (.out p ⟨e2, 0⟩ :: L) := by
  have h2 := blob_putText p ⟨e, 0⟩ s h (by unfold OutS.ok; simp only; omega)
  have hf : fits (⟨false, s⟩ : BlobS).len 2 := vfits2 _ (by show -32768 ≤ (s.length : Int) ∧ (s.length : Int) < 32768; omega)
  have e3 : (⟨e, 0⟩ : OutS).putText s = ⟨e2, 0⟩ := by
    show ((⟨e, 0⟩ : OutS).int (⟨false, s⟩ : BlobS).len 2).putData ⟨false, s⟩ = _
    unfold OutS.int
    rw [if_pos hf, ← he]
    show (⟨(e ++ beBytes (⟨false, s⟩ : BlobS).len 2) ++ s, 0⟩ : OutS) = _
    rw [List.append_assoc]
    rfl
  rw [e3] at h2
  exact h2
end Go.Proofs.Ytombolmicfjjpaa

/- Topics, written. -/
namespace Go.Proofs.Ytombolmicfjjpaa
open Go.RowKit

end Go.Proofs.Ytombolmicfjjpaa

/- Values that may be (pure). -/
namespace Go.Proofs.Ytombolmicfjjpaa
open Go.RowKit

/-- The numbers of a value are such as there can be. -/
def ValS.R (v : ValS) : Prop := (-9223372036854775808 ≤ v.prod ∧ v.prod < 9223372036854775808) ∧ (-9223372036854775808 ≤ v.epoch ∧ v.epoch < 9223372036854775808) ∧ (-9223372036854775808 ≤ v.timeout ∧ v.timeout < 9223372036854775808) ∧ (-9223372036854775808 ≤ v.state ∧ v.state < 9223372036854775808) ∧ (-9223372036854775808 ≤ v.upd ∧ v.upd < 9223372036854775808) ∧ (-9223372036854775808 ≤ v.started ∧ v.started < 9223372036854775808)
theorem so_textV (p : Nat) (e : Bs) {W0 w : World} {K : Know} {L : List Res} (h : St W0 w K (.out p ⟨e, 0⟩ :: L)) :
    Calls Try.prog 32 #[outPtr p] w fun en w' => en = .returned (.tuple #[.string (bb e), .int .i64 0]) ∧ St W0 w' K (.out p ⟨e, 0⟩ :: L) := so_text p ⟨e, 0⟩ h
theorem val_checkV (p e t s u st : Int) (l : List (TopS × Value)) (q : Option Addr) (cap : Nat) (E : Int) (he : ValS.err ⟨p, e, t, s, l.map (·.1), u, st⟩ = E) (hf : FewT l) {W0 w : World} {K : Know} {L : List Res} (hk : K.has (Know.tops (.slice q l.length cap) l)) (h : St W0 w K L) :
    Calls Try.prog 17 #[.agg #[.int .i64 p, .int .i64 e, .int .i64 t, .int .i64 s, .slice q l.length cap, .int .i64 u, .int .i64 st]] w fun en w' => en = .returned (.int .i64 E) ∧ St W0 w' K L := val_check ⟨p, e, t, s, l.map (·.1), u, st⟩ l q cap rfl E he hf hk h

end Go.Proofs.Ytombolmicfjjpaa

/- Values, read (pure). -/
namespace Go.Proofs.Ytombolmicfjjpaa
open Go.RowKit

def ValS.z : ValS := ⟨0, 0, 0, 0, [], 0, 0⟩
/-- Within its bytes. -/
def InS.At (s : Bs) (i : InS) : Prop := i.s = s ∧ i.pos ≤ s.length
theorem At.int {s : Bs} {i : InS} (h : i.At s) (k : Int) : (i.int k).2.At s := by
  obtain ⟨rfl, h⟩ := h
  unfold InS.int
  split
  · unfold InS.fail; split
    · exact ⟨rfl, h⟩
    · exact ⟨rfl, h⟩
  · unfold InS.take
    split
    · exact ⟨rfl, h⟩
    · split
      · exact ⟨rfl, h⟩
      · split
        · exact ⟨rfl, h⟩
        · rename_i h1 h2 h3
          refine ⟨rfl, ?_⟩
          simp only [InS.left] at h3
          show i.pos + k.toNat ≤ i.s.length
          omega
theorem At.fail {s : Bs} {i : InS} (h : i.At s) (e : Int) : (i.fail e).At s := by
  unfold InS.fail
  split
  · exact ⟨h.1, h.2⟩
  · exact h
end Go.Proofs.Ytombolmicfjjpaa

/- Parts of requests of transactions (pure). -/
namespace Go.Proofs.Ytombolmicfjjpaa
open Go.RowKit

/-- Can it be somebody who writes? -/
def who (p e : Int) : Bool := decide (0 ≤ p) && (decide (0 ≤ e) && decide (e ≤ 32767))
theorem who_t {p e : Int} (h : who p e = true) : 0 ≤ p ∧ 0 ≤ e ∧ e ≤ 32767 := by
  unfold who at h; simpa only [Bool.and_eq_true, decide_eq_true_eq] using h
theorem who_f {p e : Int} (h : who p e = false) : p < 0 ∨ e < 0 ∨ 32767 < e := by
  unfold who at h
  by_cases h1 : p < 0
  · exact .inl h1
  · by_cases h2 : e < 0
    · exact .inr (.inl h2)
    · by_cases h3 : 32767 < e
      · exact .inr (.inr h3)
      · rw [decide_eq_true (show 0 ≤ p by omega), decide_eq_true (show 0 ≤ e by omega), decide_eq_true (show e ≤ 32767 by omega)] at h
        cases h
def chkW (id : Bs) (p e : Int) : Int := if keyRight id = false then 4 else if who p e = false then 11 else 0
def InS.boolP (i : InS) : Bool × InS := ((i.int 1).1 == 1, if (i.int 1).1 ≠ 0 ∧ (i.int 1).1 ≠ 1 then (i.int 1).2.fail 11 else (i.int 1).2)
def encO (c : Bool) : Bs := [if c then 1 else 0]
def riseE (l : List TopS) : Int := if l = [] then 10 else if tRise l = false then 13 else 0
theorem riseE_eq (l : List TopS) : ValS.err ⟨0, 0, 0, 1, l, 0, 0⟩ = riseE l := by
  have h1 : ValS.ranged ⟨0, 0, 0, 1, l, 0, 0⟩ = true := by rfl
  unfold ValS.err riseE
  rw [h1]
  cases l with
  | nil => rfl
  | cons a t =>
    have e0 : ¬ (true = false) := by decide
    have e1 : ¬ ((1 : Int) < 0 ∨ 7 ≤ (1 : Int)) := by decide
    have e2 : ¬ ((idle 1 != false) = true ∨ (((1 : Int) == 0) != ((0 : Int) == -1)) = true) := by decide
    exact (if_neg e0).trans ((if_neg e1).trans ((if_neg e2).trans (if_neg (List.cons_ne_nil a t)).symm))

end Go.Proofs.Ytombolmicfjjpaa

/- One end (pure). -/
namespace Go.Proofs.Ytombolmicfjjpaa
open Go.RowKit

def z18 : Bs := [0, 1, 97, 0, 0, 0, 0, 0, 0, 0, 0, 0, 0, 1]
theorem few_nilT : FewT [] := ⟨by decide, fun x hx => by cases hx⟩

end Go.Proofs.Ytombolmicfjjpaa

/- How many topics are looked at (pure). -/
namespace Go.Proofs.Ytombolmicfjjpaa
open Go.RowKit

/-- How much of a topic is looked at. -/
def topW (t : TopS) : Nat := t.name.length + 4 * t.parts.length + 6
def topWs (l : List TopS) : Nat := (l.map topW).sum
theorem topWs_take (l : List TopS) (k : Nat) (hk : k < l.length) (t : TopS) (ht : l[k] = t) : topWs (l.take (k + 1)) = topWs (l.take k) + topW t := by
  unfold topWs
  rw [List.take_succ_eq_append_getElem hk, List.map_append, List.sum_append, ht]
  simp
theorem topWs_le (l : List TopS) (k : Nat) : topWs (l.take k) ≤ topWs l := by
  have h : topWs l = topWs (l.take k) + topWs (l.drop k) := by
    unfold topWs
    rw [← List.sum_append, ← List.map_append, List.take_append_drop]
  omega
theorem topWs_len (l : List TopS) : 6 * l.length ≤ topWs l := by
  unfold topWs
  induction l with
  | nil => simp
  | cons x t ih => rw [List.map_cons, List.sum_cons, List.length_cons]; unfold topW at ih ⊢; omega
theorem topWs_mem (l : List TopS) (t : TopS) (h : t ∈ l) : topW t ≤ topWs l := by
  unfold topWs
  induction l with
  | nil => cases h
  | cons x m ih =>
    rw [List.map_cons, List.sum_cons]
    rcases List.mem_cons.1 h with rfl | h
    · omega
    · have := ih h; omega
def few (l : List TopS) : Int := if topWs l ≤ 1000 then 1 else 0
theorem few_one {l : List TopS} (h : few l = 1) : topWs l ≤ 1000 := by
  unfold few at h
  by_cases hh : topWs l ≤ 1000
  · exact hh
  · rw [if_neg hh] at h; cases h
theorem few_T {l : List (TopS × Value)} (h : topWs (l.map (·.1)) ≤ 1000) : FewT l := by
  have h1 := topWs_len (l.map (·.1))
  rw [List.length_map] at h1
  refine ⟨by omega, fun x hx => ?_⟩
  have h2 := topWs_mem (l.map (·.1)) x.1 (List.mem_map_of_mem hx)
  unfold topW at h2
  exact ⟨by omega, by omega⟩

end Go.Proofs.Ytombolmicfjjpaa

/- Parts of requests, for the law (pure). -/
namespace Go.Proofs.Ytombolmicfjjpaa
open Go.RowKit

theorem riseE_t {l : List (TopS × Value)} (hz : ((l.length : Int) == 0) = false) (hr : tRise (l.map (·.1)) = true) : riseE (l.map (·.1)) = 0 := by
  unfold riseE
  rw [if_neg (by intro h; rw [List.map_eq_nil_iff] at h; subst h; cases hz), hr]
  rfl
theorem riseE_f {l : List (TopS × Value)} (hz : ((l.length : Int) == 0) = false) (hr : tRise (l.map (·.1)) = false) : riseE (l.map (·.1)) = 13 := by
  unfold riseE
  rw [if_neg (by intro h; rw [List.map_eq_nil_iff] at h; subst h; cases hz), hr]
  rfl
theorem riseE_z {l : List (TopS × Value)} (hz : ((l.length : Int) == 0) = true) : riseE (l.map (·.1)) = 10 := by
  have h1 : (l.length : Int) = 0 := by simpa using hz
  have h2 : l = [] := List.length_eq_zero_iff.1 (by omega)
  subst h2
  rfl
theorem bool_one (c : UInt8) : ((c = 0 ∨ c = 1) ∧ ∃ y k, (⟨[c], 0, 0⟩ : InS).boolP = (y, k) ∧ k.err = 0 ∧ encO y = [c] ∧ (c.toNat : Int) < 2) ∨ (∃ k, (⟨[c], 0, 0⟩ : InS).boolP = (false, k) ∧ k.err = 11 ∧ ¬ (c.toNat : Int) < 2) := by
  by_cases h0 : c = 0
  · subst h0
    exact .inl ⟨.inl rfl, false, _, rfl, rfl, rfl, by decide⟩
  · by_cases h1 : c = 1
    · subst h1
      exact .inl ⟨.inr rfl, true, _, rfl, rfl, rfl, by decide⟩
    · right
      have hi : (⟨[c], 0, 0⟩ : InS).int 1 = (sInt [c], ⟨[c], 1, 0⟩) := ((rds_intN 1 (by decide) (by decide)).ok [c] 0 (sInt [c]) 1 (by simp) (by unfold getIntN; rfl)).2
      have hb := beBytes_sInt [c]
      have n0 : sInt [c] ≠ 0 := by
        intro h
        rw [h] at hb
        have hb : beBytes 0 1 = [c] := hb
        exact h0 (List.cons.inj (hb.symm.trans (show beBytes 0 1 = [0] by rfl))).1
      have n1 : sInt [c] ≠ 1 := by
        intro h
        rw [h] at hb
        have hb : beBytes 1 1 = [c] := hb
        exact h1 (List.cons.inj (hb.symm.trans (show beBytes 1 1 = [1] by rfl))).1
      refine ⟨(⟨[c], 1, 0⟩ : InS).fail 11, ?_, rfl, ?_⟩
      · unfold InS.boolP
        rw [hi]
        simp only
        rw [if_pos ⟨n0, n1⟩, beq_eq_false_iff_ne.2 n1]
      · intro h
        have h2 : c.toNat = 0 ∨ c.toNat = 1 := by omega
        rcases h2 with h2 | h2
        · exact h0 (UInt8.toNat_inj.1 h2)
        · exact h1 (UInt8.toNat_inj.1 h2)
theorem byte_of (p : Int) : ∃ c : UInt8, IntKind.u8.wrap p = (c.toNat : Int) := by
  rw [IntKind.wrap_u8]
  refine ⟨UInt8.ofNat (p % 256).toNat, ?_⟩
  rw [UInt8.toNat_ofNat']
  omega

end Go.Proofs.Ytombolmicfjjpaa

/- Ends of transactions as bytes (pure). -/
namespace Go.Proofs.Ytombolmicfjjpaa
open Go.RowKit

end Go.Proofs.Ytombolmicfjjpaa

/- Values, decoded (pure). -/
namespace Go.Proofs.Ytombolmicfjjpaa
open Go.RowKit

end Go.Proofs.Ytombolmicfjjpaa

/- Numbers and texts, read. -/
namespace Go.Proofs.Ytombolmicfjjpaa
open Go.RowKit

theorem s_intV (p : Nat) (i j : InS) (x : Int) (size : Int) (hx : i.int size = (x, j)) {W0 w : World} {K : Know} {L : List Res} (h : St W0 w K (.inp p i :: L)) :
    Calls Try.prog 72 #[inPtr p, .int .i64 size] w fun en w' => en = .returned (.int .i64 x) ∧ St W0 w' K (.inp p j :: L) := by
  have h2 := s_int p i size h
  rw [hx] at h2
  exact h2
theorem s_errV (p : Nat) (i : InS) (e : Int) (hx : i.err = e) {W0 w : World} {K : Know} {L : List Res} (h : St W0 w K (.inp p i :: L)) :
    Calls Try.prog 27 #[inPtr p] w fun en w' => en = .returned (.int .i64 e) ∧ St W0 w' K (.inp p i :: L) := by
  subst hx; exact s_err p i h
theorem blob_textV (p : Nat) (i j : InS) (s : Bs) (hx : i.text = (s, j)) {W0 w : World} {K : Know} {L : List Res} (h : St W0 w K (.inp p i :: L)) :
    Calls Try.prog 78 #[inPtr p] w fun en w' => en = .returned (.string (bb s)) ∧ St W0 w' K (.inp p j :: L) := by
  have h2 := blob_text p i h
  rw [hx] at h2
  exact h2
theorem tops_nil (K : Know) : K.has (K.and (Know.tops (.slice none 0 0) [])) := fun _ _ h => ⟨h, ⟨none, 0, rfl, fun h => absurd h (by simp)⟩, fun x hx => by cases hx⟩

end Go.Proofs.Ytombolmicfjjpaa

/- Topics, read. -/
namespace Go.Proofs.Ytombolmicfjjpaa
open Go.RowKit

end Go.Proofs.Ytombolmicfjjpaa

/- The bytes of control records (pure). -/
namespace Go.Proofs.Ytombolmicfjjpaa
open Go.RowKit

def way (n : Int) : Bool := n == 0 || n == 1
end Go.Proofs.Ytombolmicfjjpaa

/- Contracts of package control. -/
namespace Go.Proofs.Ytombolmicfjjpaa
open Go.RowKit

end Go.Proofs.Ytombolmicfjjpaa

/- Contracts of cursitorref08. -/
namespace Go.Proofs.Ytombolmicfjjpaa
open Go.RowKit

end Go.Proofs.Ytombolmicfjjpaa

/- Contracts: control records. -/
namespace Go.Proofs.Ytombolmicfjjpaa
open Go.RowKit

end Go.Proofs.Ytombolmicfjjpaa

/- Batches (pure): which may be. -/
namespace Go.Proofs.Ytombolmicfjjpaa
open Go.RowKit

structure BatS where
  base : Int
  leader : Int
  app : Bool
  txn : Bool
  ctl : Bool
  last : Int
  first : Int
  maxt : Int
  prod : Int
  epoch : Int
  seq : Int
  recs : List RecS
deriving DecidableEq
def BatS.zero : BatS := ⟨0, 0, false, false, false, 0, 0, 0, 0, 0, 0, []⟩
def Rn (n : Int) : Prop := -9223372036854775808 ≤ n ∧ n < 9223372036854775808
def BatS.R (b : BatS) : Prop := Rn b.base ∧ Rn b.leader ∧ Rn b.last ∧ Rn b.first ∧ Rn b.maxt ∧ Rn b.prod ∧ Rn b.epoch ∧ Rn b.seq
def BatS.signed (b : BatS) : Bool :=
  if b.prod = -1 then decide (b.epoch = -1 ∧ b.seq = -1 ∧ b.txn = false)
  else if b.prod < 0 ∨ ¬ (0 ≤ b.epoch ∧ b.epoch ≤ 32767) then false
  else if b.ctl then decide (b.seq = -1)
  else decide (0 ≤ b.seq ∧ b.seq ≤ 2147483647)
/-- The greatest time of records behind a first one, or why their places and times may not be. -/
def rowsC (first last : Int) : List RecS → Int → Int → Except Int Int
  | [], _, g => .ok g
  | r :: t, ah, g => if r.off ≤ ah ∨ last < r.off then .error 13 else if r.time < -first ∨ 9223372036854775807 - first < r.time then .error 11 else rowsC first last t r.off (max g (first + r.time))
def rowsE (app : Bool) (maxt : Int) (r : Except Int Int) : Int := match r with
  | .error e => e
  | .ok g => if app = false ∧ maxt ≠ g then 11 else 0
def BatS.rows (b : BatS) : Int := rowsE b.app b.maxt (rowsC b.first b.last b.recs (-1) b.first)
end Go.Proofs.Ytombolmicfjjpaa

/- Batches (pure): rows. -/
namespace Go.Proofs.Ytombolmicfjjpaa
open Go.RowKit

end Go.Proofs.Ytombolmicfjjpaa

/- Ends of transactions as batches (pure). -/
namespace Go.Proofs.Ytombolmicfjjpaa
open Go.RowKit

theorem rc_cell_only {P : Program} {fn : Func} {p : Tmp} {ty : TypeId} (h : fn.results = #[.cell p ty]) (tmps : Array Value) (w : World) (b : Nat) (cs : List Value) (d : TypeDesc)
    (hp : tmps.getD p undef = .pointer (some ⟨b, 0, none⟩)) (hc : w.rangeAt b 0 cs) (hu : P.underlying ty = some d) (hd : d.isRow = true) (hi : (P.info? ty).map (·.size) = some cs.length) :
    (results fn tmps).run P w = .ok (.agg cs.toArray) w := by
  have hp' : tmps[p]?.getD undef = .pointer (some ⟨b, 0, none⟩) := by simpa using hp
  simp [results, h, hp', asAddr, run_loadVar_mid w b 0 ty cs d hc hu hd hi]
theorem rc_range {W0 w : World} {K : Know} {L : List Res} {b : Nat} {c : List Value} {T : TypeId} (h : St W0 w K (.raw b c.toArray T :: L)) : w.rangeAt b 0 c := by
  intro j v hv
  rw [Nat.zero_add, h.rawCell j]
  simpa using hv
end Go.Proofs.Ytombolmicfjjpaa

/- The fields of a value, read. -/
namespace Go.Proofs.Ytombolmicfjjpaa
open Go.RowKit

end Go.Proofs.Ytombolmicfjjpaa

/- Values, decoded. -/
namespace Go.Proofs.Ytombolmicfjjpaa
open Go.RowKit

theorem s_failV (p : Nat) (i j : InS) (e : Int) (hx : i.fail e = j) {W0 w : World} {K : Know} {L : List Res} (h : St W0 w K (.inp p i :: L)) :
    Calls Try.prog 73 #[inPtr p, .int .i64 e] w fun en w' => en = .returned (.tuple #[]) ∧ St W0 w' K (.inp p j :: L) := by
  subst hx; exact s_fail p i e h
end Go.Proofs.Ytombolmicfjjpaa

/- Contracts of package key. -/
namespace Go.Proofs.Ytombolmicfjjpaa
open Go.RowKit

set_option maxHeartbeats 1000000 in
set_option maxRecDepth 100000 in
theorem key_right (s : Bs) (hs : s.length ≤ 140737488355328) {W0 w : World} {K : Know} {L : List Res} (h : St W0 w K L) :
    Calls Try.prog 89 #[.string (bb s)] w fun en w' => en = .returned (.bool (keyRight s)) ∧ St W0 w' K L := by
  have H := Lib.hid h
  clear h
  cases s with
  | nil =>
    go_enter Try.func89, Try.ntmps89
    go_wp2
    go_ret
    exact ⟨rfl, H.out⟩
  | cons c t =>
    have HS := Lib.hid hs
    clear hs
    go_enter Try.func89, Try.ntmps89
    go_wp2
    go_ret
    refine ⟨ret_bool ?_, H.out⟩
    unfold keyRight
    rw [Bool.eq_iff_iff]
    simp
    omega

end Go.Proofs.Ytombolmicfjjpaa

/- Layer 13, walked. -/
namespace Go.Proofs.Ytombolmicfjjpaa
open Go.RowKit

end Go.Proofs.Ytombolmicfjjpaa

/- Layer 13, walked: KeyEncodes. -/
namespace Go.Proofs.Ytombolmicfjjpaa
open Go.RowKit

theorem key_right' (s : Bs) (r : Bool) (hs : s.length ≤ 140737488355328) (hr : keyRight s = r) {W0 w : World} {K : Know} {L : List Res} (h : St W0 w K L) :
    Calls Try.prog 89 #[.string (bb s)] w fun en w' => en = .returned (.bool r) ∧ St W0 w' K L := hr ▸ key_right s hs h
end Go.Proofs.Ytombolmicfjjpaa

/- Parts of requests of transactions. -/
namespace Go.Proofs.Ytombolmicfjjpaa
open Go.RowKit

set_option maxHeartbeats 1000000 in
set_option maxRecDepth 100000 in
theorem txn_who (p e : Int) (r : Bool) (hr : who p e = r) {W0 w : World} {K : Know} {L : List Res} (h : St W0 w K L) :
    Calls Try.prog 46 #[.int .i64 p, .int .i64 e] w fun en w' => en = .returned (.bool r) ∧ St W0 w' K L := by
  have H := Lib.hid h
  clear h
  cases r with
  | true =>
    obtain ⟨h1, h2, h3⟩ := who_t hr
    clear hr

    go_enter Try.func46, Try.ntmps46
    go_wp2
    go_ret
    exact ⟨rfl, H.out⟩
  | false =>
    by_cases h1 : p < 0
    · have g1 : ¬ (0 ≤ p) := by omega
      clear hr

      go_enter Try.func46, Try.ntmps46
      go_wp2
      go_ret
      exact ⟨rfl, H.out⟩
    · have g1 : 0 ≤ p := by omega
      by_cases h2 : e < 0
      · have g2 : ¬ (0 ≤ e) := by omega
        clear hr

        go_enter Try.func46, Try.ntmps46
        go_wp2
        go_ret
        exact ⟨rfl, H.out⟩
      · have g2 : 0 ≤ e := by omega
        have g3 : ¬ (e ≤ 32767) := by rcases who_f hr with h | h | h <;> omega
        clear hr

        go_enter Try.func46, Try.ntmps46
        go_wp2
        go_ret
        exact ⟨rfl, H.out⟩

set_option maxHeartbeats 1000000 in
set_option maxRecDepth 100000 in
theorem txn_rise (l : List (TopS × Value)) (q : Option Addr) (cap : Nat) (E : Int) (hE : riseE (l.map (·.1)) = E) (hf : FewT l) {W0 w : World} {K : Know} {L : List Res} (hk : K.has (Know.tops (.slice q l.length cap) l)) (h : St W0 w K L) :
    Calls Try.prog 47 #[.slice q l.length cap] w fun en w' => en = .returned (.int .i64 E) ∧ St W0 w' K L := by
  have H := Lib.hid h
  have HE := Lib.hid ((riseE_eq _).trans hE)
  have HF := Lib.hid hf
  have HK := Lib.hid hk
  clear h hE hf hk
  go_enter Try.func47, Try.ntmps47
  go_wp2_with (go_at_call 17; (with_reducible refine (val_checkV 0 0 0 1 0 0 l _ _ _ HE.out HF.out HK.out H.out).mono ?_); rintro e_ wn ⟨rfl, h⟩; replace H := Lib.hid h; clear h)
  go_ret
  exact ⟨rfl, H.out⟩
set_option maxHeartbeats 1000000 in
set_option maxRecDepth 100000 in
theorem s_bool (b : Nat) (i j : InS) (c : Bool) (hx : i.boolP = (c, j)) {W0 w : World} {K : Know} {L : List Res} (h : St W0 w K (.inp b i :: L)) :
    Calls Try.prog 48 #[inPtr b] w fun en w' => en = .returned (.bool c) ∧ St W0 w' K (.inp b j :: L) := by
  have H := Lib.hid h
  clear h
  obtain ⟨⟨n, k⟩, hn⟩ : ∃ r, i.int 1 = r := ⟨_, rfl⟩
  have HN := Lib.hid hn
  unfold InS.boolP at hx
  rw [hn] at hx
  simp only [Prod.mk.injEq] at hx
  obtain ⟨hc, hj⟩ := hx
  clear hn
  by_cases h0 : n = 0
  · rw [if_neg (by omega)] at hj
    subst h0 hj hc
    go_enter Try.func48, Try.ntmps48
    go_wp2_with (go_at_call 72; (with_reducible refine (s_intV b _ _ _ 1 HN.out H.out).mono ?_); rintro e_ wn ⟨rfl, h⟩; replace H := Lib.hid h; clear h)
    go_ret
    exact ⟨rfl, H.out⟩
  · by_cases h1 : n = 1
    · rw [if_neg (by omega)] at hj
      subst h1 hj hc
      go_enter Try.func48, Try.ntmps48
      go_wp2_with (go_at_call 72; (with_reducible refine (s_intV b _ _ _ 1 HN.out H.out).mono ?_); rintro e_ wn ⟨rfl, h⟩; replace H := Lib.hid h; clear h)
      go_ret
      exact ⟨rfl, H.out⟩
    · rw [if_pos ⟨h0, h1⟩] at hj
      have g0 : (n == 0) = false := by rw [beq_eq_false_iff_ne]; exact h0
      have g00 : (n != 0) = true := by simp [bne, g0]
      have g1 : (n == 1) = false := by rw [beq_eq_false_iff_ne]; exact h1
      have g11 : (n != 1) = true := by simp [bne, g1]
      rw [g1] at hc
      subst hc
      have HJ := Lib.hid hj
      clear hj h0 h1
      go_enter Try.func48, Try.ntmps48
      go_wp2_with (first
    | (go_at_call 72; (with_reducible refine (s_intV b _ _ _ 1 HN.out H.out).mono ?_); rintro e_ wn ⟨rfl, h⟩; replace H := Lib.hid h; clear h)
    | (go_at_call 73; (with_reducible refine (s_failV b _ _ 11 HJ.out H.out).mono ?_); rintro e_ wn ⟨rfl, h⟩; replace H := Lib.hid h; clear h))
      go_ret
      exact ⟨rfl, H.out⟩
theorem so_byteV (b : Nat) (e e2 : Bs) (c : UInt8) (n : Int) (hn : n = c.toNat) (he : e ++ [c] = e2) (hl : e.length ≤ 100000000000000) {W0 w : World} {K : Know} {L : List Res} (h : St W0 w K (.out b ⟨e, 0⟩ :: L)) :
    Calls Try.prog 102 #[outPtr b, .int .u8 n] w fun en w' => en = .returned (.tuple #[]) ∧ St W0 w' K (.out b ⟨e2, 0⟩ :: L) := by
  subst he hn; exact so_byte b ⟨e, 0⟩ c h (by unfold OutS.ok; simp only; omega)
set_option maxHeartbeats 1000000 in
set_option maxRecDepth 100000 in
theorem txn_putBool (b : Nat) (e e2 : Bs) (c : Bool) (he : e ++ encO c = e2) (hl : e.length ≤ 100000000000000) {W0 w : World} {K : Know} {L : List Res} (h : St W0 w K (.out b ⟨e, 0⟩ :: L)) :
    Calls Try.prog 49 #[outPtr b, .bool c] w fun en w' => en = .returned (.tuple #[]) ∧ St W0 w' K (.out b ⟨e2, 0⟩ :: L) := by
  have H := Lib.hid h
  have HE := Lib.hid he
  have HL := Lib.hid hl
  clear h he hl
  cases c with
  | true =>
    have HE2 : Hid (e ++ [1] = e2) := Lib.hid HE.out
    have HN2 := Lib.hid (show (1 : Int) = ((1 : UInt8).toNat : Int) by decide)
    go_enter Try.func49, Try.ntmps49
    go_wp2_with (go_at_call 102; (with_reducible refine (so_byteV b e e2 1 1 HN2.out HE2.out HL.out H.out).mono ?_); rintro e_ wn ⟨rfl, h⟩; replace H := Lib.hid h; clear h)
    go_end0
    exact ⟨rfl, H.out⟩
  | false =>
    have HE2 : Hid (e ++ [0] = e2) := Lib.hid HE.out
    have HN2 := Lib.hid (show (0 : Int) = ((0 : UInt8).toNat : Int) by decide)
    go_enter Try.func49, Try.ntmps49
    go_wp2_with (go_at_call 102; (with_reducible refine (so_byteV b e e2 0 0 HN2.out HE2.out HL.out H.out).mono ?_); rintro e_ wn ⟨rfl, h⟩; replace H := Lib.hid h; clear h)
    go_end0
    exact ⟨rfl, H.out⟩
set_option maxHeartbeats 1000000 in
set_option maxRecDepth 100000 in
theorem txn_checkWriter (id : Bs) (p e : Int) (r : Int) (hr : chkW id p e = r) (hl : id.length ≤ 140737488355328) {W0 w : World} {K : Know} {L : List Res} (h : St W0 w K L) :
    Calls Try.prog 123 #[.string (bb id), .int .i64 p, .int .i64 e] w fun en w' => en = .returned (.int .i64 r) ∧ St W0 w' K L := by
  have H := Lib.hid h
  have HL := Lib.hid hl
  unfold chkW at hr
  obtain ⟨a, ha⟩ : ∃ a, keyRight id = a := ⟨_, rfl⟩
  obtain ⟨c, hc⟩ : ∃ c, who p e = c := ⟨_, rfl⟩
  have HA := Lib.hid ha
  have HC := Lib.hid hc
  rw [ha, hc] at hr
  clear h hl ha hc
  cases a with
  | false =>
    obtain rfl : (4 : Int) = r := hr
    go_enter Try.func123, Try.ntmps123
    go_wp2_with (go_at_call 89; (with_reducible refine (key_right' id _ HL.out HA.out H.out).mono ?_); rintro e_ wn ⟨rfl, h⟩; replace H := Lib.hid h; clear h)
    go_ret
    exact ⟨rfl, H.out⟩
  | true =>
    cases c with
    | false =>
      obtain rfl : (11 : Int) = r := hr
      go_enter Try.func123, Try.ntmps123
      go_wp2_with (first
    | (go_at_call 89; (with_reducible refine (key_right' id _ HL.out HA.out H.out).mono ?_); rintro e_ wn ⟨rfl, h⟩; replace H := Lib.hid h; clear h)
    | (go_at_call 46; (with_reducible refine (txn_who p e _ HC.out H.out).mono ?_); rintro e_ wn ⟨rfl, h⟩; replace H := Lib.hid h; clear h))
      go_ret
      exact ⟨rfl, H.out⟩
    | true =>
      obtain rfl : (0 : Int) = r := hr
      go_enter Try.func123, Try.ntmps123
      go_wp2_with (first
    | (go_at_call 89; (with_reducible refine (key_right' id _ HL.out HA.out H.out).mono ?_); rintro e_ wn ⟨rfl, h⟩; replace H := Lib.hid h; clear h)
    | (go_at_call 46; (with_reducible refine (txn_who p e _ HC.out H.out).mono ?_); rintro e_ wn ⟨rfl, h⟩; replace H := Lib.hid h; clear h))
      go_ret
      exact ⟨rfl, H.out⟩
set_option maxHeartbeats 1000000 in
set_option maxRecDepth 100000 in
theorem end_check (id : Bs) (p e : Int) (c : Bool) (r : Int) (hr : chkW id p e = r) (hl : id.length ≤ 140737488355328) {W0 w : World} {K : Know} {L : List Res} (h : St W0 w K L) :
    Calls Try.prog 96 #[.agg #[.string (bb id), .int .i64 p, .int .i64 e, .bool c]] w fun en w' => en = .returned (.int .i64 r) ∧ St W0 w' K L := by
  have h0 := h.allocRaw #[.string (bb id), .int .i64 p, .int .i64 e, .bool c] 136
  have H := Lib.hid h0
  have HR := Lib.hid hr
  have HL := Lib.hid hl
  clear h h0 hr hl
  go_enter Try.func96, Try.ntmps96
  go_wp2_with (go_at_call 123; (with_reducible refine (txn_checkWriter id p e _ HR.out HL.out H.out).mono ?_); rintro e_ wn ⟨rfl, h⟩; replace H := Lib.hid h; clear h)
  go_ret
  exact ⟨rfl, H.out.drop⟩

end Go.Proofs.Ytombolmicfjjpaa

/- Ends of transactions, written. -/
namespace Go.Proofs.Ytombolmicfjjpaa
open Go.RowKit

theorem so_failT (p : Nat) (o o2 : OutS) (e : Int) (hx : o.fail e = o2) {W0 w : World} {K : Know} {L : List Res} (h : St W0 w K (.out p o :: L)) :
    Calls Try.prog 103 #[outPtr p, .int .i64 e] w fun en w' => en = .returned (.tuple #[]) ∧ St W0 w' K (.out p o2 :: L) := by
  subst hx; exact so_fail p o e h
set_option maxHeartbeats 1000000 in
set_option maxRecDepth 100000 in
theorem may_end (b : Nat) (o o2 : OutS) (id : Bs) (p e : Int) (c : Bool) (r : Int) (t : Bool) (hr : chkW id p e = r) (ht : (r == 0) = t) (ho : (if r = 0 then o else o.fail r) = o2) (hl : id.length ≤ 140737488355328) {W0 w : World} {K : Know} {L : List Res} (h : St W0 w K (.out b o :: L)) :
    Calls Try.prog 116 #[outPtr b, .func (.func 96) #[.agg #[.string (bb id), .int .i64 p, .int .i64 e, .bool c]] #[]] w fun en w' => en = .returned (.bool t) ∧ St W0 w' K (.out b o2 :: L) := by
  have H := Lib.hid h
  have HR := Lib.hid hr
  have HL := Lib.hid hl
  clear h hr hl
  by_cases h0 : r = 0
  · rw [if_pos h0] at ho
    subst ho h0
    obtain rfl : true = t := ht
    go_enter Try.func116, Try.ntmps116
    go_wp2_with (go_at_call 96; go_loud ((with_reducible refine (end_check id p e c _ HR.out HL.out H.out).mono ?_)); rintro e_ wn ⟨rfl, h⟩; replace H := Lib.hid h; clear h)
    go_ret
    exact ⟨rfl, H.out⟩
  · rw [if_neg h0] at ho
    have HO := Lib.hid ho
    have g0 : (r == 0) = false := by rw [beq_eq_false_iff_ne]; exact h0
    have g00 : (r != 0) = true := by simp [bne, g0]
    rw [g0] at ht
    subst ht
    clear ho h0
    go_enter Try.func116, Try.ntmps116
    go_wp2_with (first
    | (go_at_call 96; (with_reducible refine (end_check id p e c _ HR.out HL.out H.out).mono ?_); rintro e_ wn ⟨rfl, h⟩; replace H := Lib.hid h; clear h)
    | (go_at_call 103; (with_reducible refine (so_failT b _ _ _ HO.out H.out).mono ?_); rintro e_ wn ⟨rfl, h⟩; replace H := Lib.hid h; clear h))
    go_ret
    exact ⟨rfl, H.out⟩

end Go.Proofs.Ytombolmicfjjpaa

/- Ends of transactions, written and read. -/
namespace Go.Proofs.Ytombolmicfjjpaa
open Go.RowKit

theorem chkW_ok {id : Bs} {p e : Int} (h : chkW id p e = 0) : keyRight id = true ∧ who p e = true := by
  unfold chkW at h
  by_cases h1 : keyRight id = false
  · rw [if_pos h1] at h; cases h
  · rw [if_neg h1] at h
    by_cases h2 : who p e = false
    · rw [if_pos h2] at h; cases h
    · exact ⟨by simpa using h1, by simpa using h2⟩
set_option maxHeartbeats 1000000 in
set_option maxRecDepth 100000 in
theorem txn_putWriter (b : Nat) (o o1 o2 : Bs) (p e : Int) (h1 : o ++ beBytes p (8 : Int).toNat = o1) (h2 : o1 ++ beBytes e (2 : Int).toNat = o2) (hf8 : fits p 8) (hf2 : fits e 2) (hl : o.length ≤ 100000000) {W0 w : World} {K : Know} {L : List Res} (h : St W0 w K (.out b ⟨o, 0⟩ :: L)) :
    Calls Try.prog 117 #[outPtr b, .int .i64 p, .int .i64 e] w fun en w' => en = .returned (.tuple #[]) ∧ St W0 w' K (.out b ⟨o2, 0⟩ :: L) := by
  have H := Lib.hid h
  have H1 := Lib.hid h1
  have H2 := Lib.hid h2
  have HF8 := Lib.hid hf8
  have HF2 := Lib.hid hf2
  have HL := Lib.hid (show o.length ≤ 100000000000000 by omega)
  have HL2 := Lib.hid (show o1.length ≤ 100000000000000 by rw [← h1, List.length_append, beBytes_length]; have : (8 : Int).toNat = 8 := rfl; omega)
  clear h h1 h2 hf8 hf2 hl
  go_enter Try.func117, Try.ntmps117
  go_wp2_with (first
    | (go_at_call 69; (with_reducible refine (so_intV b o o1 p 8 H1.out HF8.out HL.out H.out).mono ?_); rintro e_ wn ⟨rfl, h⟩; replace H := Lib.hid h; clear h)
    | (go_at_call 69; (with_reducible refine (so_intV b o1 o2 e 2 H2.out HF2.out HL2.out H.out).mono ?_); rintro e_ wn ⟨rfl, h⟩; replace H := Lib.hid h; clear h))
  go_end0
  exact ⟨rfl, H.out⟩
set_option maxHeartbeats 2000000 in
set_option maxRecDepth 100000 in
theorem end_write_ok (b : Nat) (o o1 o2 o3 o4 : Bs) (id : Bs) (p e : Int) (c : Bool) (h1 : o ++ encF 2 ⟨false, id⟩ = o1) (h2 : o1 ++ beBytes p (8 : Int).toNat = o2) (h3 : o2 ++ beBytes e (2 : Int).toNat = o3) (h4 : o3 ++ encO c = o4) (hk : chkW id p e = 0) (hil : id.length ≤ 32767) (hp : p < 9223372036854775808) (hl : o.length ≤ 1000000) {W0 w : World} {K : Know} {L : List Res} (h : St W0 w K (.out b ⟨o, 0⟩ :: L)) :
    Calls Try.prog 90 #[.agg #[.string (bb id), .int .i64 p, .int .i64 e, .bool c], outPtr b] w fun en w' => en = .returned (.tuple #[]) ∧ St W0 w' K (.out b ⟨o4, 0⟩ :: L) := by
  have hw := who_t (chkW_ok hk).2
  have h0 := h.allocRaw #[.string (bb id), .int .i64 p, .int .i64 e, .bool c] 136
  have H := Lib.hid h0
  have H1 := Lib.hid h1
  have H2 := Lib.hid h2
  have H3 := Lib.hid h3
  have H4 := Lib.hid h4
  have HK := Lib.hid hk
  have HIL := Lib.hid hil
  have HIL2 := Lib.hid (show id.length ≤ 140737488355328 by omega)
  have HF8 := Lib.hid (vfits8 p (by omega))
  have HF2 := Lib.hid (vfits2 e (by omega))
  have hl1 : o1.length = o.length + (id.length + 2) := by rw [← h1, List.length_append]; unfold encF; rw [List.length_append, beBytes_length]; simp only; omega
  have hl2 : o2.length = o1.length + 8 := by rw [← h2, List.length_append, beBytes_length]; rfl
  have hl3 : o3.length = o2.length + 2 := by rw [← h3, List.length_append, beBytes_length]; rfl
  have HL := Lib.hid (show o.length ≤ 100000000000000 by omega)
  have HL1 := Lib.hid (show o1.length ≤ 100000000 by omega)
  have HL3 := Lib.hid (show o3.length ≤ 100000000000000 by omega)
  have HT := Lib.hid (show ((0 : Int) == 0) = true by rfl)
  have HO := Lib.hid (show (if (0 : Int) = 0 then (⟨o, 0⟩ : OutS) else (⟨o, 0⟩ : OutS).fail 0) = ⟨o, 0⟩ by rfl)
  clear h h0 h1 h2 h3 h4 hk hil hp hl hl1 hl2 hl3 hw
  go_enter Try.func90, Try.ntmps90
  go_wp2_with (first
    | (go_at_call 116; (with_reducible refine (may_end b _ _ id p e c _ _ HK.out HT.out HO.out HIL2.out H.out.p1).mono ?_); rintro e_ wn ⟨rfl, h⟩; have d0 := h.p1.rawCell 0; have d1 := h.p1.rawCell 1; have d2 := h.p1.rawCell 2; have d3 := h.p1.rawCell 3; simp at d0 d1 d2 d3; replace H := Lib.hid h; clear h)
    | (go_at_call 86; (with_reducible refine (blob_putTextV b o o1 id H1.out HIL.out HL.out H.out).mono ?_); rintro e_ wn ⟨rfl, h⟩; have d0 := h.p1.rawCell 0; have d1 := h.p1.rawCell 1; have d2 := h.p1.rawCell 2; have d3 := h.p1.rawCell 3; simp at d0 d1 d2 d3; replace H := Lib.hid h; clear h)
    | (go_at_call 117; (with_reducible refine (txn_putWriter b o1 o2 o3 p e H2.out H3.out HF8.out HF2.out HL1.out H.out).mono ?_); rintro e_ wn ⟨rfl, h⟩; have d0 := h.p1.rawCell 0; have d1 := h.p1.rawCell 1; have d2 := h.p1.rawCell 2; have d3 := h.p1.rawCell 3; simp at d0 d1 d2 d3; replace H := Lib.hid h; clear h)
    | (go_at_call 49; (with_reducible refine (txn_putBool b o3 o4 c H4.out HL3.out H.out).mono ?_); rintro e_ wn ⟨rfl, h⟩; replace H := Lib.hid h; clear h))
  go_end0
  exact ⟨rfl, H.out.p1.drop⟩
set_option maxHeartbeats 1000000 in
set_option maxRecDepth 100000 in
theorem txn_readWriter (b : Nat) (i i1 i2 : InS) (p e : Int) (h1 : i.int 8 = (p, i1)) (h2 : i1.int 2 = (e, i2)) {W0 w : World} {K : Know} {L : List Res} (h : St W0 w K (.inp b i :: L)) :
    Calls Try.prog 118 #[inPtr b] w fun en w' => en = .returned (.tuple #[.int .i64 p, .int .i64 e]) ∧ St W0 w' K (.inp b i2 :: L) := by
  have H := Lib.hid h
  have H1 := Lib.hid h1
  have H2 := Lib.hid h2
  clear h h1 h2
  go_enter Try.func118, Try.ntmps118
  go_wp2_with (first
    | (go_at_call 72; (with_reducible refine (s_intV b _ _ _ 8 H1.out H.out).mono ?_); rintro e_ wn ⟨rfl, h⟩; replace H := Lib.hid h; clear h)
    | (go_at_call 72; (with_reducible refine (s_intV b _ _ _ 2 H2.out H.out).mono ?_); rintro e_ wn ⟨rfl, h⟩; replace H := Lib.hid h; clear h))
  go_ret2
  exact ⟨rfl, H.out⟩

end Go.Proofs.Ytombolmicfjjpaa

/- Ends of transactions, read. -/
namespace Go.Proofs.Ytombolmicfjjpaa
open Go.RowKit

set_option maxHeartbeats 1000000 in
set_option maxRecDepth 100000 in
theorem whole_end (b : Nat) (i : InS) (id : Bs) (p e : Int) (c : Bool) (hi : i.err = 0) (hr : chkW id p e = 0) (hl : id.length ≤ 140737488355328) {W0 w : World} {K : Know} {L : List Res} (h : St W0 w K (.inp b i :: L)) :
    Calls Try.prog 119 #[inPtr b, .iface 136 (.agg #[.string (bb id), .int .i64 p, .int .i64 e, .bool c])] w fun en w' => en = .returned (.bool true) ∧ St W0 w' K (.inp b i :: L) := by
  have H := Lib.hid h
  have HI := Lib.hid hi
  have HR := Lib.hid hr
  have HL := Lib.hid hl
  clear h hi hr hl
  go_enter Try.func119, Try.ntmps119
  go_wp2_with (first
    | (go_at_call 27; (with_reducible refine (s_errV b _ _ HI.out H.out).mono ?_); rintro e_ wn ⟨rfl, h⟩; replace H := Lib.hid h; clear h)
    | (go_at_call 96; (with_reducible refine (end_check id p e c _ HR.out HL.out H.out).mono ?_); rintro e_ wn ⟨rfl, h⟩; replace H := Lib.hid h; clear h))
  go_ret
  exact ⟨rfl, H.out⟩

set_option maxHeartbeats 2000000 in
set_option maxRecDepth 100000 in
theorem read_end_ok (b : Nat) (i i1 i2 i3 i4 : InS) (id : Bs) (p e : Int) (c : Bool) (h1 : i.text = (id, i1)) (h2 : i1.int 8 = (p, i2)) (h3 : i2.int 2 = (e, i3)) (h4 : i3.boolP = (c, i4)) (hi : i4.err = 0) (hr : chkW id p e = 0) (hl : id.length ≤ 140737488355328) {W0 w : World} {K : Know} {L : List Res} (h : St W0 w K (.inp b i :: L)) :
    Calls Try.prog 91 #[inPtr b] w fun en w' => en = .returned (.agg #[.string (bb id), .int .i64 p, .int .i64 e, .bool c]) ∧ St W0 w' K (.inp b i4 :: L) := by
  obtain ⟨rb, hrb⟩ : ∃ b, w.heap.size = b := ⟨_, rfl⟩
  obtain ⟨eb, heb⟩ : ∃ b, rb + 1 = b := ⟨_, rfl⟩
  have g1 := (h.allocRaw #[.string ⟨#[]⟩, .int .i64 0, .int .i64 0, .bool false] 136).allocRaw #[.string ⟨#[]⟩, .int .i64 0, .int .i64 0, .bool false] 136
  simp only [World.size_alloc, hrb, heb] at g1
  have H := Lib.hid g1.p2
  have H1 := Lib.hid h1
  have H2 := Lib.hid h2
  have H3 := Lib.hid h3
  have H4 := Lib.hid h4
  have HI := Lib.hid hi
  have HR := Lib.hid hr
  have HL := Lib.hid hl
  clear h g1 h1 h2 h3 h4 hi hr hl
  go_enter Try.func91, Try.ntmps91
  go_wp2_with (first
    | (go_at_call 78; (with_reducible refine (blob_textV b _ _ id H1.out H.out).mono ?_); rintro e_ wn ⟨rfl, h⟩; have f0 := h.p1.rawFree 0; have g0 := h.p1.rawCell 0; simp at g0; have h := (show St W0 (wn.setCell ⟨eb, 0, none⟩ (.string (bb id))) K (.inp b i1 :: .raw eb #[.string (bb id), .int .i64 0, .int .i64 0, .bool false] 136 :: .raw rb #[.string ⟨#[]⟩, .int .i64 0, .int .i64 0, .bool false] 136 :: L) from (h.p1.rawSet 0 (.string (bb id))).p1); replace H := Lib.hid h; clear h)
    | (go_at_call 118; (with_reducible refine (txn_readWriter b _ _ _ p e H2.out H3.out H.out).mono ?_); rintro e_ wn ⟨rfl, h⟩; have f1 := h.p1.rawFree 1; have g1 := h.p1.rawCell 1; simp at g1; have f2 := h.p1.rawFree 2; have g2 := h.p1.rawCell 2; simp at g2; have h := (show St W0 ((wn.setCell ⟨eb, 1, none⟩ (.int .i64 p)).setCell ⟨eb, 2, none⟩ (.int .i64 e)) K (.inp b i3 :: .raw eb #[.string (bb id), .int .i64 p, .int .i64 e, .bool false] 136 :: .raw rb #[.string ⟨#[]⟩, .int .i64 0, .int .i64 0, .bool false] 136 :: L) from ((h.p1.rawSet 1 (.int .i64 p)).rawSet 2 (.int .i64 e)).p1); replace H := Lib.hid h; clear h)
    | (go_at_call 48; (with_reducible refine (s_bool b _ _ c H4.out H.out).mono ?_); rintro e_ wn ⟨rfl, h⟩; have f3 := h.p1.rawFree 3; have g3 := h.p1.rawCell 3; simp at g3; have h := (show St W0 (wn.setCell ⟨eb, 3, none⟩ (.bool c)) K (.inp b i4 :: .raw eb #[.string (bb id), .int .i64 p, .int .i64 e, .bool c] 136 :: .raw rb #[.string ⟨#[]⟩, .int .i64 0, .int .i64 0, .bool false] 136 :: L) from (h.p1.rawSet 3 (.bool c)).p1); have c0 := h.p1.rawCell 0; have c1 := h.p1.rawCell 1; have c2 := h.p1.rawCell 2; have c3 := h.p1.rawCell 3; simp at c0 c1 c2 c3; replace H := Lib.hid h; clear h)
    | (go_at_call 119; (with_reducible refine (whole_end b i4 id p e c HI.out HR.out HL.out H.out).mono ?_); rintro e_ wn ⟨rfl, h⟩; have c0 := h.p1.rawCell 0; have d0 := h.p2.rawCell 0; have r0 := h.p2.rawFree 0; have c1 := h.p1.rawCell 1; have d1 := h.p2.rawCell 1; have r1 := h.p2.rawFree 1; have c2 := h.p1.rawCell 2; have d2 := h.p2.rawCell 2; have r2 := h.p2.rawFree 2; have c3 := h.p1.rawCell 3; have d3 := h.p2.rawCell 3; have r3 := h.p2.rawFree 3; simp at c0 c1 c2 c3 d0 d1 d2 d3; replace H := Lib.hid h; clear h))
  have hz : St W0 _ _ (.raw rb #[.string (bb id), .int .i64 p, .int .i64 e, .bool c] 136 :: .inp b i4 :: .raw eb #[.string (bb id), .int .i64 p, .int .i64 e, .bool c] 136 :: L) := ((((H.out.p2).rawSet 0 _).rawSet 1 _).rawSet 2 _).rawSet 3 _
  refine bodyPost_ret (rc_cell_only rfl _ _ rb [.string (bb id), .int .i64 p, .int .i64 e, .bool c] _ rfl (rc_range hz) Try.underlying136 rfl (by kernel_rfl)) rfl ?_
  exact ⟨rfl, hz.drop.p1.drop⟩

end Go.Proofs.Ytombolmicfjjpaa

/- One end. -/
namespace Go.Proofs.Ytombolmicfjjpaa
open Go.RowKit

theorem end_write_z (b : Nat) {W0 w : World} {K : Know} {L : List Res} (h : St W0 w K (.out b ⟨[], 0⟩ :: L)) :
    Calls Try.prog 90 #[.agg #[.string ⟨#[97]⟩, .int .i64 0, .int .i64 0, .bool true], outPtr b] w fun en w' => en = .returned (.tuple #[]) ∧ St W0 w' K (.out b ⟨z18, 0⟩ :: L) :=
  end_write_ok b [] [0, 1, 97] [0, 1, 97, 0, 0, 0, 0, 0, 0, 0, 0] [0, 1, 97, 0, 0, 0, 0, 0, 0, 0, 0, 0, 0] z18 [97] 0 0 true (by kernel_rfl) (by kernel_rfl) (by kernel_rfl) (by kernel_rfl) (by kernel_rfl) (by decide) (by decide) (by decide) h
theorem text_z (b : Nat) {W0 w : World} {K : Know} {L : List Res} (h : St W0 w K (.out b ⟨z18, 0⟩ :: L)) :
    Calls Try.prog 32 #[outPtr b] w fun en w' => en = .returned (.tuple #[.string ⟨#[0, 1, 97, 0, 0, 0, 0, 0, 0, 0, 0, 0, 0, 1]⟩, .int .i64 0]) ∧ St W0 w' K (.out b ⟨z18, 0⟩ :: L) := so_textV b z18 h
theorem new_z {W0 w : World} {K : Know} {L : List Res} (h : St W0 w K L) :
    Calls Try.prog 24 #[.string ⟨#[0, 1, 97, 0, 0, 0, 0, 0, 0, 0, 0, 0, 0, 1]⟩] w fun en w' => ∃ b, en = .returned (inPtr b) ∧ St W0 w' K (.inp b ⟨z18, 0, 0⟩ :: L) := s_new z18 (by decide) h
theorem read_end_z (b : Nat) {W0 w : World} {K : Know} {L : List Res} (h : St W0 w K (.inp b ⟨z18, 0, 0⟩ :: L)) :
    Calls Try.prog 91 #[inPtr b] w fun en w' => en = .returned (.agg #[.string ⟨#[97]⟩, .int .i64 0, .int .i64 0, .bool true]) ∧ St W0 w' K (.inp b ⟨z18, 14, 0⟩ :: L) :=
  read_end_ok b ⟨z18, 0, 0⟩ ⟨z18, 3, 0⟩ ⟨z18, 11, 0⟩ ⟨z18, 13, 0⟩ ⟨z18, 14, 0⟩ [97] 0 0 true (by kernel_rfl) (by kernel_rfl) (by kernel_rfl) (by kernel_rfl) (by kernel_rfl) (by kernel_rfl) (by decide) h
theorem rise_z {W0 w : World} {K : Know} {L : List Res} (h : St W0 w K L) :
    Calls Try.prog 47 #[.slice none 0 0] w fun en w' => en = .returned (.int .i64 10) ∧ St W0 w' K L := by
  have h2 : St W0 w (K.and (Know.tops (.slice none 0 0) [])) L := h.know (tops_nil K)
  refine (txn_rise [] none 0 10 (by kernel_rfl) few_nilT (Know.has_right (Know.has_refl _)) h2).mono ?_
  rintro e_ wn ⟨rfl, h3⟩
  exact ⟨rfl, h3.know (Know.has_left (Know.has_refl _))⟩
theorem who_z {W0 w : World} {K : Know} {L : List Res} (h : St W0 w K L) :
    Calls Try.prog 46 #[.int .i64 0, .int .i64 0] w fun en w' => en = .returned (.bool true) ∧ St W0 w' K L := txn_who 0 0 true (by kernel_rfl) h
set_option maxHeartbeats 1000000 in
set_option maxRecDepth 100000 in
theorem speaks18 {W0 w : World} {K : Know} {L : List Res} (h : St W0 w K L) :
    Calls Try.prog 37 #[] w fun en w' => en = .returned (.bool true) ∧ St W0 w' K L := by
  obtain ⟨po, hpo⟩ : ∃ b, w.heap.size = b := ⟨_, rfl⟩
  have h0 := h.allocOut
  rw [hpo] at h0
  have H := Lib.hid h0
  clear h h0
  go_enter Try.func37, Try.ntmps37
  go_wp2_with (first
    | (go_at_call 90; (with_reducible refine (end_write_z po H.out).mono ?_); rintro e_ wn ⟨rfl, h⟩; replace H := Lib.hid h; clear h)
    | (go_at_call 32; (with_reducible refine (text_z po H.out).mono ?_); rintro e_ wn ⟨rfl, h⟩; replace H := Lib.hid h; clear h)
    | (go_at_call 24; (with_reducible refine (new_z H.out).mono ?_); rintro e_ wn ⟨bi, rfl, h⟩; replace H := Lib.hid h; clear h)
    | (go_at_call 91; (with_reducible refine (read_end_z bi H.out).mono ?_); rintro e_ wn ⟨rfl, h⟩; replace H := Lib.hid h; clear h)
    | (go_at_call 47; (with_reducible refine (rise_z H.out).mono ?_); rintro e_ wn ⟨rfl, h⟩; replace H := Lib.hid h; clear h)
    | (go_at_call 46; (with_reducible refine (who_z H.out).mono ?_); rintro e_ wn ⟨rfl, h⟩; replace H := Lib.hid h; clear h))
  go_ret
  exact ⟨rfl, H.out.drop.drop⟩

end Go.Proofs.Ytombolmicfjjpaa

/- How many topics are looked at. -/
namespace Go.Proofs.Ytombolmicfjjpaa
open Go.RowKit

set_option maxHeartbeats 2000000 in
set_option maxRecDepth 100000 in
theorem law14_few (l : List (TopS × Value)) (q : Option Addr) (cap : Nat) (hnl : l.length ≤ 140737488351232) (hb : ∀ x ∈ l, x.1.name.length ≤ 140737488351232 ∧ x.1.parts.length ≤ 17592186043904) (r : Int) (hr : few (l.map (·.1)) = r) {W0 w : World} {K : Know} {L : List Res} (hk : K.has (Know.tops (.slice q l.length cap) l)) (h : St W0 w K L) :
    Calls Try.prog 14 #[.slice q l.length cap] w fun en w' => en = .returned (.int .i64 r) ∧ St W0 w' K L := by
  have H := Lib.hid h
  have HK := Lib.hid hk
  have HR := Lib.hid hr
  have HB := Lib.hid hb
  clear h hk hr hb
  go_enter Try.func14, Try.ntmps14
  go_wp2
  go_loopw [3, 8] (fun sv iv wr => ∃ (k m : Nat), k ≤ l.length ∧ iv = .int .i64 k ∧ sv = .int .i64 m ∧ topWs ((l.map (·.1)).take k) = m ∧ m ≤ 1000 ∧ St W0 wr K L) (fun _ iv _ => l.length - (intOf iv).toNat)
  case atStart => exact ⟨0, 0, Nat.zero_le _, rfl, rfl, by simp [topWs], by omega, H.out⟩
  case round =>
    obtain ⟨k, m, hkl, rfl, rfl, hm, hm0, hst⟩ := hrel
    clear H
    have H := Lib.hid hst
    clear hst
    by_cases hlt : k < l.length
    · as_aux_lemma =>
      obtain ⟨b, off, hqq⟩ := tops_at HK.out H.out (by omega)
      subst hqq
      obtain ⟨⟨⟨nm, ps⟩, vx⟩, hx⟩ : ∃ x, l[k] = x := ⟨_, rfl⟩
      obtain ⟨c0, c1⟩ : wr.cell? ⟨b, off + k * 2, none⟩ = some (.string (bb nm)) ∧ wr.cell? ⟨b, off + k * 2 + 1, none⟩ = some vx := tops_cell HK.out H.out k hlt _ hx
      have hmem : ((⟨nm, ps⟩ : TopS), vx) ∈ l := hx ▸ List.getElem_mem hlt
      have hxk : K.has (Know.flat RI vx 1 ps) := tops_parts HK.out hmem
      obtain ⟨qx, capx, hvx⟩ := flat_form hxk H.out
      subst hvx
      have HXK := Lib.hid hxk
      have hmk : k < (l.map (·.1)).length := by rw [List.length_map]; exact hlt
      have hmg : (l.map (·.1))[k] = ⟨nm, ps⟩ := by rw [List.getElem_map, hx]
      have hkn : (k : Int) < (l.length : Int) := by omega
      obtain ⟨hn1, hn2⟩ := HB.out _ hmem
      replace hn1 : nm.length ≤ 140737488351232 := hn1
      replace hn2 : ps.length ≤ 17592186043904 := hn2
      have hst1 := topWs_take (l.map (·.1)) k hmk _ hmg
      rw [hm] at hst1
      replace hst1 : topWs ((l.map (·.1)).take (k + 1)) = m + (nm.length + 4 * ps.length + 6) := hst1
      have hlk := topWs_le (l.map (·.1)) (k + 1)
      obtain ⟨M, hM⟩ : ∃ M : Nat, m + (nm.length + 4 * ps.length + 6) = M := ⟨_, rfl⟩
      have hMi : (m : Int) + ((nm.length : Int) + 4 * (ps.length : Int) + 6) = (M : Int) := by omega
      have hm1 : (m : Int) ≤ 1000 := by omega
      have hMb : M ≤ 1000000000000000 := by omega
      rw [hM] at hst1
      by_cases hMl : M ≤ 1000
      · have g1 : ¬ (1000 < (m : Int) + ((nm.length : Int) + 4 * (ps.length : Int) + 6)) := by omega
        have HST := Lib.hid hst1
        have HMI := Lib.hid hMi
        have HML := Lib.hid hMl
        clear hst1 hx hmem hxk hmk hmg hm hM hMl hlk hm0 hMi hMb
        go_wp2
        go_roundw
        case rel => exact ⟨k + 1, M, hlt, by go_num, by rw [HMI.out], HST.out, HML.out, H.out.alloc _⟩
        case measure => first | (simp [intOf]; done) | (simp [intOf]; omega)
      · have g1 : 1000 < (m : Int) + ((nm.length : Int) + 4 * (ps.length : Int) + 6) := by omega
        have hz : r = 0 := by
          rw [← HR.out]; unfold few
          rw [if_neg (by omega)]
        subst hz
        have HMI := Lib.hid hMi
        clear hst1 hx hmem hxk hmk hmg hm hM hMl hlk hm0 hMi hMb
        go_wp2
        go_ret
        exact ⟨rfl, H.out.alloc _⟩
    · obtain rfl : k = l.length := by omega
      have hz : r = 1 := by
        rw [← HR.out]; unfold few
        rw [List.take_of_length_le (by rw [List.length_map]; exact Nat.le_refl _)] at hm
        rw [if_pos (by omega)]
      subst hz
      go_wp2
      go_ret
      exact ⟨rfl, H.out⟩

end Go.Proofs.Ytombolmicfjjpaa

/- Lists of cells. -/
namespace Go.Proofs.Ytombolmicfjjpaa
open Go.RowKit

theorem cells_int : Try.prog.cellsOf 3 = 1 := by kernel_rfl
theorem cells_str : Try.prog.cellsOf 9 = 1 := by kernel_rfl
end Go.Proofs.Ytombolmicfjjpaa

/- What arguments are made of, with the reach of each part. -/
namespace Go.Proofs.Ytombolmicfjjpaa
open Go.RowKit
open Go.ChangeShapes Go.WideShapes Go.ChangeAt Go.Deep

/-- No part is beyond all reach. -/
def Light {H : Type} (t : TypeId) (d : DataW H) : Prop := ∀ k ∈ d.weights Try.prog t, k ≤ reachBytes
theorem reach_eq : reachBytes = 140737488351232 := rfl

section
variable {H : Type} {enc : TypeId × Value → H} {w : World} {spare : Nat → Bool} {held : Bool}

theorem light_arg {ts : List TypeId} {ds : List (DataW H)} (h : (DataW.weightsEach Try.prog ts ds).all (· ≤ reachBytes) = true) {j : Nat} {t : TypeId} {d : DataW H} (ht : ts[j]? = some t) (hd : ds[j]? = some d) : Light t d := by
  intro k hk
  have := List.all_eq_true.1 h k (DataW.weights_mem_each ht hd k hk)
  simpa using this

theorem opens_field {t : TypeId} {fs : Array Field} {n N : Nat} {cs : List Value} {y : DataW H × List MemPlace} (ht : Try.prog.underlying t = some (.struct fs)) (h : DataW.trod enc Try.prog w 0 spare held n t cs = some y) (hl : Light t y.1) (hN : ∀ x ∈ y.2, x.block < N) :
    cs.length = Try.prog.cellsOf t ∧ ∃ m, ∀ (i : Nat) (f : Field), fs[i]? = some f → ∃ z, DataW.trod enc Try.prog w 0 spare held m f.type ((cs.drop f.offset).take (Try.prog.cellsOf f.type)) = some z ∧ Light f.type z.1 ∧ ∀ x ∈ z.2, x.block < N := by
  obtain ⟨xs, m, _, rfl, hc, hxl, hg⟩ := DataW.trod_struct ht h
  refine ⟨hc, m, fun i f hf => ?_⟩
  have hi : i < fs.size := (Array.getElem?_eq_some_iff.1 hf).1
  have hx : xs[i]? = some (xs[i]'(by omega)) := List.getElem?_eq_getElem (by omega)
  refine ⟨_, (hg i f hf).trans hx, ?_, fun x hxx => hN x (List.mem_flatMap.2 ⟨_, List.getElem_mem _, hxx⟩)⟩
  intro k hk
  refine hl k ?_
  simp only [DataW.weights, ht]
  exact DataW.weights_mem_each (j := i) (by rw [List.getElem?_map, Array.getElem?_toList, hf]; rfl) (by rw [List.getElem?_map, hx]; rfl) k hk

theorem opens_str {t : TypeId} {n : Nat} {cs : List Value} {y : DataW H × List MemPlace} (ht : Try.prog.underlying t = some .string) (h : DataW.trod enc Try.prog w 0 spare held n t cs = some y) (hl : Light t y.1) : ∃ s : Bs, cs = [.string (bb s)] ∧ s.length ≤ 140737488351232 := by
  obtain ⟨s, e, e2, q⟩ := DataW.trod_string ht h
  refine ⟨s.data.toList, e, ?_⟩
  subst e2
  have := hl s.data.toList.length (by simp [DataW.weights])
  rw [reach_eq] at this
  exact this
theorem opens_i64 {t : TypeId} {n : Nat} {cs : List Value} {y : DataW H × List MemPlace} (ht : Try.prog.underlying t = some (.int .i64)) (h : DataW.trod enc Try.prog w 0 spare held n t cs = some y) : ∃ x : Int, cs = [.int .i64 x] ∧ -9223372036854775808 ≤ x ∧ x < 9223372036854775808 := by
  obtain ⟨x, e, _, q⟩ := DataW.trod_int ht h
  exact ⟨x, e, wf_i64 q⟩
theorem weightsAll_mem' {P : Program} {e : TypeId} : ∀ {l : List (DataW H)} {d : DataW H}, d ∈ l → ∀ k ∈ d.weights P e, k ∈ DataW.weightsAll P e l
  | a :: l, d, hd, k, hk => by
    simp only [DataW.weightsAll, List.mem_append]
    rcases List.mem_cons.1 hd with rfl | hd
    · exact .inl hk
    · exact .inr (weightsAll_mem' hd k hk)

theorem opens_rows {α : Type} {R : World → List Value → α → Prop} {t e : TypeId} {sz N : Nat} (ht : Try.prog.underlying t = some (.slice e)) (hC : Try.prog.cellsOf e = sz) (hsz : 0 < sz)
    (hR : ∀ n cs y, DataW.trod enc Try.prog w 0 spare held n e cs = some y → Light e y.1 → (∀ x ∈ y.2, x.block < N) → ∃ x, R w cs x)
    {fuel : Nat} {cs : List Value} {x : DataW H × List MemPlace} (h : DataW.trod enc Try.prog w 0 spare held fuel t cs = some x) (hl : Light t x.1) (hlt : ∀ y ∈ x.2, y.block < N) (hN : N ≤ w.heap.size) :
    ∃ v l, cs = [v] ∧ RowsOf R (· < N) w v sz l ∧ l.length * Try.prog.bytesOf e ≤ 140737488351232 ∧ l.length ≤ maxLen := by
  rcases open_slice ht h with ⟨rfl, rfl⟩ | ⟨a, len, cap, m, n, D, Pl, rfl, hb, hlc, hm, hmm, hx, hi⟩
  · exact ⟨_, [], rfl, ⟨none, 0, rfl, fun h => absurd h (by simp)⟩, by simp, by simp⟩
  · have hlm : len ≤ m := by rw [hmm]; split <;> omega
    have hp2 : x.2 = MemPlace.row a (m * Try.prog.cellsOf e) ++ (List.range m).flatMap Pl := by rw [hx]
    have hx1 : x.1 = .slice ((List.range len).map D) ((List.range (m - len)).map fun j => D (len + j)) := by rw [hx]
    have hsum : len * Try.prog.bytesOf e ≤ 140737488351232 := by
      have := hl (((List.range len).map D).length * Try.prog.bytesOf e + ((List.range (m - len)).map fun j => D (len + j)).length * Try.prog.bytesOf e) (by rw [hx1]; simp [DataW.weights, ht, Nat.add_mul])
      rw [reach_eq] at this
      simp only [List.length_map, List.length_range] at this
      omega
    have hle : ∀ i, i < len → Light e (D i) := by
      intro i hil k hk
      refine hl k ?_
      rw [hx1]
      simp only [DataW.weights, ht, List.mem_cons, List.mem_append]
      exact .inr (.inl (weightsAll_mem' (List.mem_map.2 ⟨i, List.mem_range.2 hil, rfl⟩) k hk))
    have key : ∀ i, i < len → ∃ y : α, ∃ cs', cs'.length = sz ∧ R w cs' y ∧ (∀ f u, cs'[f]? = some u → w.cell? ((a.add (i * sz)).add f) = some u) := by
      intro i hil
      obtain ⟨cs', hc, htr⟩ := hi i (by omega)
      obtain ⟨_, hcl, hat⟩ := World.cells?_some hc
      obtain ⟨y, hy⟩ := hR n cs' _ htr (hle i hil) (fun z hz => hlt z (by rw [hp2, List.mem_append]; exact .inr (List.mem_flatMap.2 ⟨i, by simp; omega, hz⟩)))
      rw [hC] at hcl hat
      refine ⟨y, cs', hcl, hy, fun f u hu => ?_⟩
      have hf : f < sz := by rw [← hcl]; exact (List.getElem?_eq_some_iff.1 hu).1
      rw [hat f hf, hu]
    obtain ⟨l, hll, hq⟩ := list_of len _ key
    refine ⟨_, l, rfl, ⟨some a, cap, by rw [hll], fun h0 => ?_⟩, by rw [hll]; exact hsum, by omega⟩
    obtain ⟨cs0, h1, h2, h3⟩ := hq 0 h0
    have hc0 : w.cell? a = some (cs0[0]'(by omega)) := by
      have := h3 0 _ (List.getElem?_eq_getElem (by omega))
      simpa [Addr.add] using this
    have hsp : a.spot = none := by
      cases hs : a.spot with
      | none => rfl
      | some s =>
        unfold World.cell? at hc0
        split at hc0 <;> simp_all
    obtain ⟨ab, ao, asp⟩ := a
    simp only at hsp
    subst hsp
    have hlt0 : ab < N := hlt (.cell ab ao) (by
      rw [hp2, List.mem_append]
      left
      simp only [MemPlace.row, List.mem_map, List.mem_range]
      exact ⟨0, by rw [hC]; exact Nat.mul_pos (by omega) hsz, by simp⟩)
    refine ⟨ab, ao, rfl, hlt0, Nat.lt_of_lt_of_le hlt0 hN, fun i hi => ?_⟩
    obtain ⟨cs', g1, g2, g3⟩ := hq i hi
    refine ⟨cs', g1, g2, fun f u hu => ?_⟩
    have := g3 f u hu
    have e1 : ∀ (o q : Nat), (⟨ab, o, none⟩ : Addr).add q = ⟨ab, o + q, none⟩ := by intro o q; unfold Addr.add; split <;> simp_all
    rw [e1, e1, Nat.add_assoc] at this
    exact this
end

/-- Of a row's things, what is said of each, apart. -/
theorem RowsOf.part {α : Type} {R : World → List Value → α → Prop} {Q : α → Prop} {D : Nat → Prop} {w : World} {v : Value} {sz : Nat} {l : List α} (h : RowsOf (fun w cs x => R w cs x ∧ Q x) D w v sz l) : RowsOf R D w v sz l ∧ ∀ x ∈ l, Q x := by
  refine ⟨h.mono (fun _ _ h => h) (fun _ _ h => h.1), fun x hx => ?_⟩
  obtain ⟨i, hi, rfl⟩ := List.mem_iff_getElem.1 hx
  obtain ⟨p, cap, rfl, h⟩ := h
  obtain ⟨b, off, rfl, _, _, hc⟩ := h (by omega)
  obtain ⟨cs, _, h2, _⟩ := hc i hi
  exact h2.2

end Go.Proofs.Ytombolmicfjjpaa

/- The elements of arguments, opened, with their reach: numbers, and Blobs. -/
namespace Go.Proofs.Ytombolmicfjjpaa
open Go.RowKit
open Go.ChangeShapes Go.WideShapes Go.ChangeAt Go.Deep

section
variable {H : Type} {enc : TypeId × Value → H} {w : World} {spare : Nat → Bool} {held : Bool}
theorem ri_opens {N : Nat} : ∀ n cs y, DataW.trod enc Try.prog w 0 spare held n 3 cs = some y → Light 3 y.1 → (∀ x ∈ y.2, x.block < N) → ∃ x : Int, RI cs x ∧ (-9223372036854775808 ≤ x ∧ x < 9223372036854775808) := fun n cs y h _ _ => opens_i64 Try.underlying3 h
end
end Go.Proofs.Ytombolmicfjjpaa

/- The elements of arguments, opened, with their reach: topics, and values. -/
namespace Go.Proofs.Ytombolmicfjjpaa
open Go.RowKit

open Go.ChangeShapes Go.WideShapes Go.ChangeAt Go.Deep

theorem cells_top : Try.prog.cellsOf 51 = 2 := by kernel_rfl
theorem cells_ints : Try.prog.cellsOf 49 = 1 := by kernel_rfl
theorem bytes_int : Try.prog.bytesOf 3 = 8 := by kernel_rfl
/-- What is known of a topic that came in. -/
def QTop (W : World) (x : TopS × Value) : Prop := RowsOf (fun _ cs x => RI cs x) (· < W.heap.size) W x.2 1 x.1.parts ∧ x.1.name.length ≤ 140737488351232 ∧ x.1.parts.length ≤ 17592186043904 ∧ ∀ n ∈ x.1.parts, -9223372036854775808 ≤ n ∧ n < 9223372036854775808
/-- Topics that came in. -/
def FewI (l : List (TopS × Value)) : Prop := l.length ≤ 140737488351232 ∧ ∀ x ∈ l, x.1.name.length ≤ 140737488351232 ∧ x.1.parts.length ≤ 17592186043904 ∧ ∀ n ∈ x.1.parts, -9223372036854775808 ≤ n ∧ n < 9223372036854775808
theorem bytes_top : Try.prog.bytesOf 51 = 40 := by kernel_rfl
theorem QTop.few {W : World} {l : List (TopS × Value)} (hn : l.length * Try.prog.bytesOf 51 ≤ 140737488351232) (h : ∀ x ∈ l, QTop W x) : FewI l := ⟨by rw [bytes_top] at hn; omega, fun x hx => (h x hx).2⟩
theorem QTop.start {W : World} {v : Value} {l : List (TopS × Value)} (hr : RowsOf (fun _ cs x => RTop cs x) (· < W.heap.size) W v 2 l) (h : ∀ x ∈ l, QTop W x) : St W W (Know.tops v l) [] := St.start ⟨hr, fun x hx => (h x hx).1⟩
section
variable {H : Type} {enc : TypeId × Value → H} {w : World} {spare : Nat → Bool} {held : Bool}
set_option maxHeartbeats 1000000 in
set_option maxRecDepth 100000 in
theorem rtop_opens : ∀ n cs y, DataW.trod enc Try.prog w 0 spare held n 51 cs = some y → Light 51 y.1 → (∀ x ∈ y.2, x.block < w.heap.size) → ∃ x : TopS × Value, RTop cs x ∧ QTop w x := by
  intro n cs y hf hl hN
  have hNw : w.heap.size ≤ w.heap.size := Nat.le_refl _
  obtain ⟨hc, m, hg⟩ := opens_field Try.underlying51 hf hl hN
  rw [cells_top] at hc
  match cs, hc with
  | [c0, c1], _ =>
    obtain ⟨z0, g0, l0, n0⟩ := hg 0 _ rfl
    have g0 : DataW.trod enc Try.prog w 0 spare held m 9 (List.take (Try.prog.cellsOf 9) (List.drop 0 [c0, c1])) = some z0 := g0
    rw [cells_str] at g0
    obtain ⟨z1, g1, l1, n1⟩ := hg 1 _ rfl
    have g1 : DataW.trod enc Try.prog w 0 spare held m 49 (List.take (Try.prog.cellsOf 49) (List.drop 1 [c0, c1])) = some z1 := g1
    rw [cells_ints] at g1
    obtain ⟨x0, e0, s0⟩ := opens_str Try.underlying9 g0 l0
    obtain ⟨v1, x1, e1, hr, hm, _⟩ := opens_rows (R := fun w cs x => (fun _ cs x => RI cs x) w cs x ∧ (fun x : Int => -9223372036854775808 ≤ x ∧ x < 9223372036854775808) x) (N := w.heap.size) Try.underlying49 cells_int (by decide) ri_opens g1 l1 n1 hNw
    obtain ⟨hr1, hq⟩ := hr.part
    simp at e0 e1
    subst e0 e1
    rw [bytes_int] at hm
    have hm2 : x1.length ≤ 17592186043904 := by omega
    exact ⟨(⟨x0, x1⟩, _), rfl, hr1, s0, hm2, hq⟩
end

end Go.Proofs.Ytombolmicfjjpaa

/- Parts of requests, for the law. -/
namespace Go.Proofs.Ytombolmicfjjpaa
open Go.RowKit

theorem conv_byte (c : UInt8) (n : Int) (hn : n = c.toNat) {W0 w : World} {K : Know} {L : List Res} {b : Nat} {T : TypeId} (h : St W0 w K (.raw b #[.int .u8 n] T :: L)) :
    (convert 52 9 (.slice (some ⟨b, 0, none⟩) 1 1)).run Try.prog w = .ok (.string (bb [c])) w := by
  subst hn
  refine run_convert_bytes_back (P := Try.prog) w 52 9 5 ⟨b, 0, none⟩ 1 [c] Try.underlying52 Try.underlying5 Try.underlying9 (fun j hj => ?_)
  have hj : j = 0 := by simp at hj; exact hj
  subst hj
  exact h.rawCell 0

end Go.Proofs.Ytombolmicfjjpaa
