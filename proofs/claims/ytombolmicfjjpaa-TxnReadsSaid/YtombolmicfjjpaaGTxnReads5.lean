/- The fields of a value, read. -/
import Derived.Test.YtombolmicfjjpaaGTxnReads4
import Derived.Test.YtombolmicfjjpaaSep
import Derived.Deep.MidRow
import Derived.RegionTactic
import Derived.Deep.DeepCutAuto
import Derived.Test.YtombolmicfjjpaaBlobP
import Derived.Test.YtombolmicfjjpaaKeyP
import Derived.Test.YtombolmicfjjpaaGTxnReads1
import Derived.Test.YtombolmicfjjpaaBlob2
import Derived.Test.YtombolmicfjjpaaBlob1
import Derived.Test.YtombolmicfjjpaaRec1
import Derived.Test.YtombolmicfjjpaaRecP
/- Values, read by definition (pure). -/
namespace Go.Proofs.Ytombolmicfjjpaa
open Go.RowKit

theorem int_shortM (k : Nat) (h1 : 1 ≤ k) (h8 : k ≤ 8) (s : Bs) (pos : Nat) (hp : pos ≤ s.length) (h : s.length < pos + k) : ∃ q, (⟨s, pos, 0⟩ : InS).int k = (0, ⟨s, q, 1⟩) := by
  obtain ⟨_, q, _, h3⟩ := (rds_intN k h1 h8).err s pos 1 hp (by unfold getIntN; rw [if_pos (by rw [List.length_drop]; omega)])
  exact ⟨q, h3⟩
theorem int_stuckM (k : Nat) (h1 : 1 ≤ k) (h8 : k ≤ 8) (i : InS) (h : i.err ≠ 0) : i.int k = (0, i) := (rds_intN k h1 h8).stuck i h
theorem close_stuckV (i : InS) (h : i.err ≠ 0) : i.close.err = i.err := by
  unfold InS.close InS.fail
  split
  · simp only [if_neg h]
  · rfl
theorem valDec_err {s : Bs} {i : InS} (hi : (decI s).valF.2 = i) (h : i.err ≠ 0) : valDec s = (ValS.z, i.err) := by
  have e : decE s = i.err := by unfold decE; rw [hi]; exact close_stuckV i h
  unfold valDec
  rw [e, if_pos h]
theorem valF_st {i : InS} (h : i.err ≠ 0) : i.valF.2 = i := by
  have a1 : i.int 8 = (0, i) := int_stuckM 8 (by decide) (by decide) i h
  have a2 : i.int 2 = (0, i) := int_stuckM 2 (by decide) (by decide) i h
  have a3 : i.int 4 = (0, i) := int_stuckM 4 (by decide) (by decide) i h
  have a4 : i.int 1 = (0, i) := int_stuckM 1 (by decide) (by decide) i h
  have a5 : i.tops = ([], i) := rds_tops.stuck i h
  unfold InS.valF
  simp only [a1, a2, a3, a4, a5]
theorem decI_ok {s : Bs} (h : 2 ≤ s.length) (h0 : sInt (s.take 2) = 0) : decI s = ⟨s, 2, 0⟩ := by
  have a : (⟨s, 0, 0⟩ : InS).int 2 = (sInt (s.take 2), ⟨s, 2, 0⟩) := int_okA 2 (by decide) (by decide) s 0 (by omega)
  unfold decI
  rw [a, if_pos h0]
theorem rdec_1 {s : Bs} (h : s.length < 2) : valDec s = (ValS.z, 1) := by
  obtain ⟨q, hq⟩ := int_shortM 2 (by decide) (by decide) s 0 (Nat.zero_le _) (by omega)
  have hq2 : (⟨s, 0, 0⟩ : InS).int 2 = (0, ⟨s, q, 1⟩) := hq
  have e : decI s = ⟨s, q, 1⟩ := by unfold decI; rw [hq2, if_pos rfl]
  exact valDec_err (i := ⟨s, q, 1⟩) (by rw [e]; exact valF_st (i := ⟨s, q, 1⟩) (show (1 : Int) ≠ 0 by decide)) (show (1 : Int) ≠ 0 by decide)
theorem rdec_2 {s : Bs} (h : 2 ≤ s.length) (h0 : sInt (s.take 2) ≠ 0) : valDec s = (ValS.z, 7) := by
  have a : (⟨s, 0, 0⟩ : InS).int 2 = (sInt (s.take 2), ⟨s, 2, 0⟩) := int_okA 2 (by decide) (by decide) s 0 (by omega)
  have e : decI s = ⟨s, 2, 7⟩ := by unfold decI; rw [a, if_neg h0]; rfl
  exact valDec_err (i := ⟨s, 2, 7⟩) (by rw [e]; exact valF_st (i := ⟨s, 2, 7⟩) (show (7 : Int) ≠ 0 by decide)) (show (7 : Int) ≠ 0 by decide)
theorem valF_1 {i i1 : InS} {p : Int} (h1 : i.int 8 = (p, i1)) (h : i1.err ≠ 0) : i.valF.2 = i1 := by
  have a1 : i1.int 8 = (0, i1) := int_stuckM 8 (by decide) (by decide) i1 h
  have a2 : i1.int 2 = (0, i1) := int_stuckM 2 (by decide) (by decide) i1 h
  have a3 : i1.int 4 = (0, i1) := int_stuckM 4 (by decide) (by decide) i1 h
  have a4 : i1.int 1 = (0, i1) := int_stuckM 1 (by decide) (by decide) i1 h
  have a5 : i1.tops = ([], i1) := rds_tops.stuck i1 h
  unfold InS.valF
  simp only [h1, a1, a2, a3, a4, a5]
theorem valF_2 {i i1 i2 : InS} {p e : Int} (h1 : i.int 8 = (p, i1)) (h2 : i1.int 2 = (e, i2)) (h : i2.err ≠ 0) : i.valF.2 = i2 := by
  have a1 : i2.int 8 = (0, i2) := int_stuckM 8 (by decide) (by decide) i2 h
  have a3 : i2.int 4 = (0, i2) := int_stuckM 4 (by decide) (by decide) i2 h
  have a4 : i2.int 1 = (0, i2) := int_stuckM 1 (by decide) (by decide) i2 h
  have a5 : i2.tops = ([], i2) := rds_tops.stuck i2 h
  unfold InS.valF
  simp only [h1, h2, a1, a3, a4, a5]
theorem valF_3 {i i1 i2 i3 : InS} {p e t : Int} (h1 : i.int 8 = (p, i1)) (h2 : i1.int 2 = (e, i2)) (h3 : i2.int 4 = (t, i3)) (h : i3.err ≠ 0) : i.valF.2 = i3 := by
  have a1 : i3.int 8 = (0, i3) := int_stuckM 8 (by decide) (by decide) i3 h
  have a4 : i3.int 1 = (0, i3) := int_stuckM 1 (by decide) (by decide) i3 h
  have a5 : i3.tops = ([], i3) := rds_tops.stuck i3 h
  unfold InS.valF
  simp only [h1, h2, h3, a1, a4, a5]
theorem valF_4 {i i1 i2 i3 i4 : InS} {p e t u : Int} (h1 : i.int 8 = (p, i1)) (h2 : i1.int 2 = (e, i2)) (h3 : i2.int 4 = (t, i3)) (h4 : i3.int 1 = (u, i4)) (h : i4.err ≠ 0) : i.valF.2 = i4 := by
  have a1 : i4.int 8 = (0, i4) := int_stuckM 8 (by decide) (by decide) i4 h
  have a5 : i4.tops = ([], i4) := rds_tops.stuck i4 h
  unfold InS.valF
  simp only [h1, h2, h3, h4, a1, a5]
theorem valF_5 {i i1 i2 i3 i4 i5 : InS} {p e t u : Int} {l : List TopS} (h1 : i.int 8 = (p, i1)) (h2 : i1.int 2 = (e, i2)) (h3 : i2.int 4 = (t, i3)) (h4 : i3.int 1 = (u, i4)) (h5 : i4.tops = (l, i5)) (h : i5.err ≠ 0) : i.valF.2 = i5 := by
  have a1 : i5.int 8 = (0, i5) := int_stuckM 8 (by decide) (by decide) i5 h
  unfold InS.valF
  simp only [h1, h2, h3, h4, h5, a1]
theorem valF_6 {i i1 i2 i3 i4 i5 i6 : InS} {p e t u v : Int} {l : List TopS} (h1 : i.int 8 = (p, i1)) (h2 : i1.int 2 = (e, i2)) (h3 : i2.int 4 = (t, i3)) (h4 : i3.int 1 = (u, i4)) (h5 : i4.tops = (l, i5)) (h6 : i5.int 8 = (v, i6)) (h : i6.err ≠ 0) : i.valF.2 = i6 := by
  have a1 : i6.int 8 = (0, i6) := int_stuckM 8 (by decide) (by decide) i6 h
  unfold InS.valF
  simp only [h1, h2, h3, h4, h5, h6, a1]
theorem one_neV : (1 : Int) ≠ 0 := by decide
theorem rdec_3 {s : Bs} (h : 2 ≤ s.length) (h0 : sInt (s.take 2) = 0) (hs : s.length < 17) : valDec s = (ValS.z, 1) := by
  have e := decI_ok h h0
  by_cases c1 : s.length < 10
  · obtain ⟨q, hq⟩ := int_shortM 8 (by decide) (by decide) s 2 h (by omega)
    exact valDec_err (i := ⟨s, q, 1⟩) (by rw [e]; exact valF_1 hq one_neV) one_neV
  have b1 := int_okA 8 (by decide) (by decide) s 2 (by omega)
  by_cases c2 : s.length < 12
  · obtain ⟨q, hq⟩ := int_shortM 2 (by decide) (by decide) s 10 (by omega) (by omega)
    exact valDec_err (i := ⟨s, q, 1⟩) (by rw [e]; exact valF_2 b1 hq one_neV) one_neV
  have b2 := int_okA 2 (by decide) (by decide) s 10 (by omega)
  by_cases c3 : s.length < 16
  · obtain ⟨q, hq⟩ := int_shortM 4 (by decide) (by decide) s 12 (by omega) (by omega)
    exact valDec_err (i := ⟨s, q, 1⟩) (by rw [e]; exact valF_3 b1 b2 hq one_neV) one_neV
  have b3 := int_okA 4 (by decide) (by decide) s 12 (by omega)
  obtain ⟨q, hq⟩ := int_shortM 1 (by decide) (by decide) s 16 (by omega) (by omega)
  exact valDec_err (i := ⟨s, q, 1⟩) (by rw [e]; exact valF_4 b1 b2 b3 hq one_neV) one_neV
theorem topsR_err {s : Bs} {l : List TopS} {m : Nat} {e : Int} (h : topsR s = (l, m, e)) (h0 : e ≠ 0) : topsP s = .error e := by
  unfold topsR at h
  cases h1 : topsP s with
  | error e2 => rw [h1] at h; cases h; rfl
  | ok x => rw [h1] at h; cases h; exact absurd rfl h0
theorem topsP_errz {s : Bs} {e : Int} (h : topsP s = .error e) : e ≠ 0 := (rds_tops.err s 0 e (Nat.zero_le _) (by rw [List.drop_zero]; exact h)).1
theorem topsR_ok {s : Bs} {l : List TopS} {m : Nat} (h : topsR s = (l, m, 0)) : topsP s = .ok (l, m) := by
  unfold topsR at h
  cases h1 : topsP s with
  | error e2 => rw [h1] at h; cases h; exact absurd rfl (topsP_errz h1)
  | ok x => rw [h1] at h; cases h; rfl
theorem topsR_le {s : Bs} {l : List TopS} {m : Nat} (h : topsR s = (l, m, 0)) : m ≤ s.length := by
  have := (rds_tops.ok s 0 l m (Nat.zero_le _) (by rw [List.drop_zero]; exact topsR_ok h)).1
  omega
theorem rdec_4 {s : Bs} {l : List TopS} {m : Nat} {e : Int} (h0 : sInt (s.take 2) = 0) (hs : 17 ≤ s.length) (hr : topsR (s.drop 17) = (l, m, e)) (he : e ≠ 0) : valDec s = (ValS.z, e) := by
  have e0 := decI_ok (by omega) h0
  have b1 := int_okA 8 (by decide) (by decide) s 2 (by omega)
  have b2 := int_okA 2 (by decide) (by decide) s 10 (by omega)
  have b3 := int_okA 4 (by decide) (by decide) s 12 (by omega)
  have b4 := int_okA 1 (by decide) (by decide) s 16 (by omega)
  obtain ⟨_, q, _, h5⟩ := rds_tops.err s 17 e hs (topsR_err hr he)
  exact valDec_err (i := ⟨s, q, e⟩) (by rw [e0]; exact valF_5 b1 b2 b3 b4 h5 he) he
theorem rdec_5 {s : Bs} {l : List TopS} {m : Nat} (h0 : sInt (s.take 2) = 0) (hs : 17 ≤ s.length) (hr : topsR (s.drop 17) = (l, m, 0)) (hm : s.length < 17 + m + 16) : valDec s = (ValS.z, 1) := by
  have e0 := decI_ok (by omega) h0
  have b1 := int_okA 8 (by decide) (by decide) s 2 (by omega)
  have b2 := int_okA 2 (by decide) (by decide) s 10 (by omega)
  have b3 := int_okA 4 (by decide) (by decide) s 12 (by omega)
  have b4 := int_okA 1 (by decide) (by decide) s 16 (by omega)
  obtain ⟨h6, h5⟩ := rds_tops.ok s 17 l m hs (topsR_ok hr)
  by_cases c1 : s.length < 17 + m + 8
  · obtain ⟨q, hq⟩ := int_shortM 8 (by decide) (by decide) s (17 + m) h6 c1
    exact valDec_err (i := ⟨s, q, 1⟩) (by rw [e0]; exact valF_6 b1 b2 b3 b4 h5 hq one_neV) one_neV
  have b6 := int_okA 8 (by decide) (by decide) s (17 + m) (by omega)
  obtain ⟨q, hq⟩ := int_shortM 8 (by decide) (by decide) s (17 + m + 8) (by omega) (by omega)
  exact valDec_err (i := ⟨s, q, 1⟩) (by rw [e0, valF_eq b1 b2 b3 b4 h5 b6 hq]) one_neV
theorem rdec_v {s : Bs} {l : List TopS} {m : Nat} (h0 : sInt (s.take 2) = 0) (hs : 17 ≤ s.length) (hr : topsR (s.drop 17) = (l, m, 0)) (hm : 17 + m + 16 ≤ s.length) : (decI s).valF = (⟨sInt ((s.drop 2).take 8), sInt ((s.drop 10).take 2), sInt ((s.drop 12).take 4), sInt ((s.drop 16).take 1), l, sInt ((s.drop (17 + m)).take 8), sInt ((s.drop (17 + m)).drop 8)⟩, ⟨s, 17 + m + 16, 0⟩) ∨ 17 + m + 16 < s.length ∧ (decI s).valF.2 = ⟨s, 17 + m + 16, 0⟩ := by
  have e0 := decI_ok (by omega) h0
  have b1 := int_okA 8 (by decide) (by decide) s 2 (by omega)
  have b2 := int_okA 2 (by decide) (by decide) s 10 (by omega)
  have b3 := int_okA 4 (by decide) (by decide) s 12 (by omega)
  have b4 := int_okA 1 (by decide) (by decide) s 16 (by omega)
  obtain ⟨h6, h5⟩ := rds_tops.ok s 17 l m hs (topsR_ok hr)
  have b6 := int_okA 8 (by decide) (by decide) s (17 + m) (by omega)
  have b7 := int_okA 8 (by decide) (by decide) s (17 + m + 8) (by omega)
  have hv := valF_eq b1 b2 b3 b4 h5 b6 b7
  by_cases hx : 17 + m + 16 < s.length
  · exact .inr ⟨hx, by rw [e0, hv]⟩
  · left
    rw [e0, hv]
    have e7 : (s.drop (17 + m + 8)).take 8 = (s.drop (17 + m)).drop 8 := by
      rw [List.drop_drop, List.take_of_length_le (by rw [List.length_drop]; omega)]
    rw [e7]
theorem rdec_6 {s : Bs} {l : List TopS} {m : Nat} (h0 : sInt (s.take 2) = 0) (hs : 17 ≤ s.length) (hr : topsR (s.drop 17) = (l, m, 0)) (hm : 17 + m + 16 < s.length) : valDec s = (ValS.z, 2) := by
  have e : decE s = 2 := by
    unfold decE
    rcases rdec_v h0 hs hr (by omega) with h | ⟨_, h⟩
    · rw [h]; unfold InS.close; rw [if_pos (show 0 < InS.left ⟨s, 17 + m + 16, 0⟩ by unfold InS.left; simp only; omega)]; rfl
    · rw [h]; unfold InS.close; rw [if_pos (show 0 < InS.left ⟨s, 17 + m + 16, 0⟩ by unfold InS.left; simp only; omega)]; rfl
  unfold valDec
  rw [e, if_pos (by decide)]
theorem rdec_7 {s : Bs} {l : List TopS} {m : Nat} (h0 : sInt (s.take 2) = 0) (hs : 17 ≤ s.length) (hr : topsR (s.drop 17) = (l, m, 0)) (hm : 17 + m + 16 = s.length) (v : ValS) (hv : v = ⟨sInt ((s.drop 2).take 8), sInt ((s.drop 10).take 2), sInt ((s.drop 12).take 4), sInt ((s.drop 16).take 1), l, sInt ((s.drop (17 + m)).take 8), sInt ((s.drop (17 + m)).drop 8)⟩) : valDec s = if v.err ≠ 0 then (ValS.z, v.err) else (v, 0) := by
  subst hv
  rcases rdec_v h0 hs hr (by omega) with h | ⟨h, _⟩
  · have e : decE s = 0 := by
      unfold decE
      rw [h]; unfold InS.close; rw [if_neg (show ¬ 0 < InS.left ⟨s, 17 + m + 16, 0⟩ by unfold InS.left; simp only; omega)]
    unfold valDec
    rw [e, h, if_neg (by decide)]
  · omega

end Go.Proofs.Ytombolmicfjjpaa

/- The table of requests, and what is found in it. -/
namespace Go.Proofs.Ytombolmicfjjpaa
open Go.RowKit

def reqCells : List Value := [.int .i64 0, .string ⟨#[112, 114, 111, 100, 117, 99, 101]⟩, .int .i64 3, .int .i64 4, .int .i64 22, .string ⟨#[98, 101, 103, 105, 110]⟩, .int .i64 0, .int .i64 1, .int .i64 24, .string ⟨#[97, 100, 100]⟩, .int .i64 0, .int .i64 0, .int .i64 26, .string ⟨#[101, 110, 100]⟩, .int .i64 0, .int .i64 0, .int .i64 27, .string ⟨#[109, 97, 114, 107]⟩, .int .i64 0, .int .i64 1]
theorem results_cell_tmp {P : Program} {fn : Func} {p t : Tmp} {ty : TypeId} (h : fn.results = #[.cell p ty, .tmp t]) (tmps : Array Value) (w : World) (b : Nat) (cs : List Value) (d : TypeDesc)
    (hp : tmps.getD p undef = .pointer (some ⟨b, 0, Option.none⟩)) (hc : w.rangeAt b 0 cs) (hu : P.underlying ty = some d) (hd : d.isRow = true) (hi : (P.info? ty).map (·.size) = some cs.length) :
    (results fn tmps).run P w = .ok (.tuple #[.agg cs.toArray, tmps.getD t undef]) w := by
  have hp' : tmps[p]?.getD undef = .pointer (some ⟨b, 0, Option.none⟩) := by simpa using hp
  simp [results, h, hp', asAddr, run_loadVar_mid w b 0 ty cs d hc hu hd hi]
theorem St.range {W0 w : World} {K : Know} {L : List Res} {b : Nat} {c : List Value} {T : TypeId} (h : St W0 w K (.raw b c.toArray T :: L)) : w.rangeAt b 0 c := by
  intro j v hv
  rw [Nat.zero_add, h.rawCell j]
  simpa using hv
/-- A request of the table: its number, its name, its versions, and that there is one. -/
def reqOf (kind : Int) : Int × Bs × Int × Int × Bool := if kind = 0 then (0, [112, 114, 111, 100, 117, 99, 101], 3, 4, true) else if kind = 22 then (22, [98, 101, 103, 105, 110], 0, 1, true) else if kind = 24 then (24, [97, 100, 100], 0, 0, true) else if kind = 26 then (26, [101, 110, 100], 0, 0, true) else if kind = 27 then (27, [109, 97, 114, 107], 0, 1, true) else (0, [], 0, 0, false)
def kindAt : List Int := [0, 22, 24, 26, 27]
theorem reqOf_none (kind : Int) (h : ∀ k ∈ kindAt, kind ≠ k) : reqOf kind = (0, [], 0, 0, false) := by
  unfold reqOf
  have h := fun k hk => h k hk
  simp only [kindAt, List.mem_cons, List.not_mem_nil, or_false, forall_eq_or_imp, forall_eq] at h
  obtain ⟨h0, h1, h2, h3, h4⟩ := h
  rw [if_neg h0, if_neg h1, if_neg h2, if_neg h3, if_neg h4]
end Go.Proofs.Ytombolmicfjjpaa

/- Requests, their versions and names. -/
namespace Go.Proofs.Ytombolmicfjjpaa
open Go.RowKit

/-- The error of a request and its version. -/
def verErr (kind v : Int) : Int := if (reqOf kind).2.2.2.2 then (if v < (reqOf kind).2.2.1 ∨ (reqOf kind).2.2.2.1 < v then 7 else 0) else 12
end Go.Proofs.Ytombolmicfjjpaa

/- Heads of requests (pure). -/
namespace Go.Proofs.Ytombolmicfjjpaa
open Go.RowKit

structure HeadS where
  kind : Int
  ver : Int
  num : Int
  cli : BlobS
deriving DecidableEq
def HeadS.z : HeadS := ⟨0, 0, 0, ⟨false, []⟩⟩
def HeadS.R (h : HeadS) : Prop := (-9223372036854775808 ≤ h.kind ∧ h.kind < 9223372036854775808) ∧ (-9223372036854775808 ≤ h.ver ∧ h.ver < 9223372036854775808) ∧ (-9223372036854775808 ≤ h.num ∧ h.num < 9223372036854775808)
/-- The error of a head. -/
def headErr (h : HeadS) : Int := if verErr h.kind h.ver ≠ 0 then verErr h.kind h.ver else if ¬ fits h.num 4 then 11 else if h.cli.right = false ∨ 32767 < h.cli.data.length then 4 else 0
def encHead (h : HeadS) : Bs := beBytes h.kind 2 ++ (beBytes h.ver 2 ++ (beBytes h.num 4 ++ encF 2 h.cli))
def OutS.head (o : OutS) (h : HeadS) : OutS := if headErr h ≠ 0 then o.fail (headErr h) else (((o.int h.kind 2).int h.ver 2).int h.num 4).putFixed h.cli 2
theorem verErr_small (k v : Int) (h : verErr k v = 0) : (0 ≤ k ∧ k ≤ 27) ∧ (0 ≤ v ∧ v ≤ 4) := by
  unfold verErr reqOf at h
  repeat' split at h
  all_goals first
    | (simp at h; done)
    | (simp at *; done)
    | (simp at *; omega)
theorem fits2_small (n : Int) (h : 0 ≤ n ∧ n ≤ 27) : fits n 2 := by
  have h2 : half 2 = 32768 := by decide
  refine ⟨by decide, by decide, ?_, ?_⟩ <;> simp [h2] <;> omega
theorem head_put (h : HeadS) (hh : headErr h = 0) : (⟨[], 0⟩ : OutS).head h = ⟨encHead h, 0⟩ ∧ verErr h.kind h.ver = 0 ∧ fits h.num 4 ∧ h.cli.right = true ∧ h.cli.data.length ≤ 32767 := by
  have e := hh
  unfold headErr at e
  by_cases h1 : verErr h.kind h.ver = 0
  · rw [if_neg (fun x => x h1)] at e
    by_cases h2 : fits h.num 4
    · rw [if_neg (fun x => x h2)] at e
      by_cases h3 : h.cli.right = false ∨ 32767 < h.cli.data.length
      · rw [if_pos h3] at e; cases e
      · have hr : h.cli.right = true := by cases hx : h.cli.right with
          | false => exact absurd (.inl hx) h3
          | true => rfl
        have hl : h.cli.data.length ≤ 32767 := by omega
        refine ⟨?_, h1, h2, hr, hl⟩
        obtain ⟨s1, s2⟩ := verErr_small _ _ h1
        have hb : fits h.cli.len 2 := by
          have h2 : half 2 = 32768 := by decide
          unfold BlobS.len
          refine ⟨by decide, by decide, ?_, ?_⟩ <;> simp [h2] <;> split <;> omega
        unfold OutS.head OutS.putFixed OutS.int OutS.putData
        rw [if_neg (fun x => x hh), if_pos (fits2_small _ s1), if_pos (fits2_small _ ⟨s2.1, by omega⟩), if_pos h2, if_pos hb, hr]
        simp [OutS.put, encHead, encF, List.append_assoc]
    · rw [if_pos h2] at e; cases e
  · rw [if_pos h1] at e; exact absurd e h1
theorem head_bad (h : HeadS) (hh : headErr h ≠ 0) : (⟨[], 0⟩ : OutS).head h = ⟨[], headErr h⟩ := by
  unfold OutS.head
  rw [if_pos hh]
  rfl
def headA (i : InS) : Int × InS := i.int 2
def headB (i : InS) : Int × InS := (headA i).2.int 2
def headE (i : InS) : Int := verErr (headA i).1 (headB i).1
def headC (i : InS) : InS := if headE i = 0 then (headB i).2 else (headB i).2.fail (headE i)
def headD (i : InS) : Int × InS := (headC i).int 4
def headF (i : InS) : BlobS × InS := (headD i).2.fixed 2
def InS.head (i : InS) : HeadS × InS := (if (headF i).2.err = 0 then ⟨(headA i).1, (headB i).1, (headD i).1, (headF i).1⟩ else HeadS.z, (headF i).2)
def reHead (s : Bs) : Except Int (HeadS × Nat) :=
  if s.length < 4 then .error 1
  else if verErr (sInt (s.take 2)) (sInt ((s.drop 2).take 2)) ≠ 0 then .error (verErr (sInt (s.take 2)) (sInt ((s.drop 2).take 2)))
  else if s.length < 8 then .error 1
  else match refixed 2 (s.drop 8) with
    | .error e => .error e
    | .ok x => .ok (⟨sInt (s.take 2), sInt ((s.drop 2).take 2), sInt ((s.drop 4).take 4), x.1⟩, 8 + x.2)
theorem fail_st {i : InS} (h : i.err ≠ 0) (e : Int) : i.fail e = i := if_neg h
theorem head_of (i : InS) (a b : Int) (iA iB iC : InS) (hA : i.int 2 = (a, iA)) (hB : iA.int 2 = (b, iB)) (hC : (if verErr a b = 0 then iB else iB.fail (verErr a b)) = iC) :
    InS.head i = (if ((iC.int 4).2.fixed 2).2.err = 0 then ⟨a, b, (iC.int 4).1, ((iC.int 4).2.fixed 2).1⟩ else HeadS.z, ((iC.int 4).2.fixed 2).2) := by
  have e1 : headA i = (a, iA) := hA
  have e2 : headB i = (b, iB) := by unfold headB; rw [e1]; exact hB
  have e3 : headE i = verErr a b := by unfold headE; rw [e1, e2]
  have e4 : headC i = iC := by unfold headC; rw [e2, e3]; exact hC
  unfold InS.head headF headD
  rw [e1, e2, e4]
theorem head_stuckC (i : InS) (a b : Int) (iA iB iC : InS) (hA : i.int 2 = (a, iA)) (hB : iA.int 2 = (b, iB)) (hC : (if verErr a b = 0 then iB else iB.fail (verErr a b)) = iC) (he : iC.err ≠ 0) : InS.head i = (HeadS.z, iC) := by
  have h4 : iC.int 4 = (0, iC) := (rds_intN 4 (by decide) (by decide)).stuck iC he
  have h5 : iC.fixed 2 = (⟨false, []⟩, iC) := (rds_fixed 2 (by decide) (by decide)).stuck iC he
  rw [head_of i a b iA iB iC hA hB hC, h4]
  simp only
  rw [h5, if_neg he]
theorem rds_head : Rds InS.head reHead HeadS.z := by
  have r2 := rds_intN 2 (by decide) (by decide)
  have r4 := rds_intN 4 (by decide) (by decide)
  have rf := rds_fixed 2 (by decide) (by decide)
  have g2 : ∀ (s : Bs) (pos : Nat), pos + 2 ≤ s.length → (⟨s, pos, 0⟩ : InS).int 2 = (sInt ((s.drop pos).take 2), ⟨s, pos + 2, 0⟩) := by
    intro s pos hp
    exact (r2.ok s pos _ 2 (by omega) (if_neg (by rw [List.length_drop]; omega))).2
  have g4 : ∀ (s : Bs) (pos : Nat), pos + 4 ≤ s.length → (⟨s, pos, 0⟩ : InS).int 4 = (sInt ((s.drop pos).take 4), ⟨s, pos + 4, 0⟩) := by
    intro s pos hp
    exact (r4.ok s pos _ 4 (by omega) (if_neg (by rw [List.length_drop]; omega))).2
  have g2e : ∀ (s : Bs) (pos : Nat), pos ≤ s.length → s.length < pos + 2 → ∃ q, q ≤ s.length ∧ (⟨s, pos, 0⟩ : InS).int 2 = (0, ⟨s, q, 1⟩) := by
    intro s pos hp hl
    exact (r2.err s pos 1 hp (if_pos (by rw [List.length_drop]; omega))).2
  have g4e : ∀ (s : Bs) (pos : Nat), pos ≤ s.length → s.length < pos + 4 → ∃ q, q ≤ s.length ∧ (⟨s, pos, 0⟩ : InS).int 4 = (0, ⟨s, q, 1⟩) := by
    intro s pos hp hl
    exact (r4.err s pos 1 hp (if_pos (by rw [List.length_drop]; omega))).2
  refine ⟨?_, ?_, ?_⟩
  · intro s pos a k hp h
    unfold reHead at h
    rw [List.length_drop, List.drop_drop, List.drop_drop, List.drop_drop] at h
    by_cases h1 : s.length - pos < 4
    · rw [if_pos h1] at h; cases h
    rw [if_neg h1] at h
    by_cases h2 : verErr (sInt ((s.drop pos).take 2)) (sInt ((s.drop (pos + 2)).take 2)) = 0
    · rw [if_neg (fun x => x h2)] at h
      by_cases h3 : s.length - pos < 8
      · rw [if_pos h3] at h; cases h
      rw [if_neg h3] at h
      cases hx : refixed 2 (s.drop (pos + 8)) with
      | error e => rw [hx] at h; cases h
      | ok x =>
        obtain ⟨b, m⟩ := x
        rw [hx] at h
        simp only [Except.ok.injEq, Prod.mk.injEq] at h
        obtain ⟨rfl, rfl⟩ := h
        obtain ⟨q1, q2⟩ := rf.ok s (pos + 8) b m (by omega) hx
        refine ⟨by omega, ?_⟩
        rw [head_of _ _ _ _ _ _ (g2 s pos (by omega)) (g2 s (pos + 2) (by omega)) (if_pos h2), g4 s (pos + 2 + 2) (by omega)]
        have q3 : (⟨s, pos + 2 + 2 + 4, 0⟩ : InS).fixed 2 = (b, ⟨s, pos + 8 + m, 0⟩) := q2
        simp only
        rw [q3]
        simp only [if_true, Nat.add_assoc]
    · rw [if_pos h2] at h; cases h
  · intro s pos e hp h
    unfold reHead at h
    rw [List.length_drop, List.drop_drop, List.drop_drop, List.drop_drop] at h
    by_cases h1 : s.length - pos < 4
    · rw [if_pos h1] at h
      obtain rfl : (1 : Int) = e := by simpa using h
      refine ⟨by decide, ?_⟩
      by_cases h0 : s.length - pos < 2
      · obtain ⟨q, hq, e1⟩ := g2e s pos hp (by omega)
        have e2 : (⟨s, q, 1⟩ : InS).int 2 = (0, ⟨s, q, 1⟩) := r2.stuck _ (by show (1 : Int) ≠ 0; decide)
        have e3 : (if verErr 0 0 = 0 then (⟨s, q, 1⟩ : InS) else (⟨s, q, 1⟩ : InS).fail (verErr 0 0)) = ⟨s, q, 1⟩ := by
          split
          · rfl
          · exact fail_st (by show (1 : Int) ≠ 0; decide) _
        exact ⟨q, hq, head_stuckC _ _ _ _ _ _ e1 e2 e3 (by show (1 : Int) ≠ 0; decide)⟩
      · obtain ⟨q, hq, e2⟩ := g2e s (pos + 2) (by omega) (by omega)
        have e3 : ∀ x : Int, (if verErr x 0 = 0 then (⟨s, q, 1⟩ : InS) else (⟨s, q, 1⟩ : InS).fail (verErr x 0)) = ⟨s, q, 1⟩ := by
          intro x
          split
          · rfl
          · exact fail_st (by show (1 : Int) ≠ 0; decide) _
        exact ⟨q, hq, head_stuckC _ _ _ _ _ _ (g2 s pos (by omega)) e2 (e3 _) (by show (1 : Int) ≠ 0; decide)⟩
    rw [if_neg h1] at h
    by_cases h2 : verErr (sInt ((s.drop pos).take 2)) (sInt ((s.drop (pos + 2)).take 2)) = 0
    · rw [if_neg (fun x => x h2)] at h
      by_cases h3 : s.length - pos < 8
      · rw [if_pos h3] at h
        obtain rfl : (1 : Int) = e := by simpa using h
        refine ⟨by decide, ?_⟩
        obtain ⟨q, hq, e4⟩ := g4e s (pos + 2 + 2) (by omega) (by omega)
        refine ⟨q, hq, ?_⟩
        rw [head_of _ _ _ _ _ _ (g2 s pos (by omega)) (g2 s (pos + 2) (by omega)) (if_pos h2), e4]
        have e5 : (⟨s, q, 1⟩ : InS).fixed 2 = (⟨false, []⟩, ⟨s, q, 1⟩) := rf.stuck _ (by show (1 : Int) ≠ 0; decide)
        simp only
        rw [e5]
        rfl
      rw [if_neg h3] at h
      cases hx : refixed 2 (s.drop (pos + 8)) with
      | ok x => rw [hx] at h; cases h
      | error e' =>
        rw [hx] at h
        obtain rfl : e' = e := by simpa using h
        obtain ⟨he, q, hq, q2⟩ := rf.err s (pos + 8) e' (by omega) hx
        refine ⟨he, q, hq, ?_⟩
        rw [head_of _ _ _ _ _ _ (g2 s pos (by omega)) (g2 s (pos + 2) (by omega)) (if_pos h2), g4 s (pos + 2 + 2) (by omega)]
        have q3 : (⟨s, pos + 2 + 2 + 4, 0⟩ : InS).fixed 2 = (⟨false, []⟩, ⟨s, q, e'⟩) := q2
        simp only
        rw [q3]
        simp only
        rw [if_neg he]
    · rw [if_pos h2] at h
      obtain rfl : verErr (sInt ((s.drop pos).take 2)) (sInt ((s.drop (pos + 2)).take 2)) = e := by simpa using h
      refine ⟨h2, pos + 2 + 2, by omega, ?_⟩
      exact head_stuckC _ _ _ _ _ _ (g2 s pos (by omega)) (g2 s (pos + 2) (by omega)) ((if_neg h2).trans rfl) h2
  · intro i hi
    have e1 : i.int 2 = (0, i) := r2.stuck i hi
    have e3 : (if verErr 0 0 = 0 then i else i.fail (verErr 0 0)) = i := by
      split
      · rfl
      · exact fail_st hi _
    exact head_stuckC _ _ _ _ _ _ e1 e1 e3 hi
theorem refixed_one (t : Bs) (b : BlobS) (m : Nat) (h : refixed 2 t = .ok (b, m)) : encF 2 b = t.take m ∧ m ≤ t.length ∧ b.right = true ∧ b.data.length + 2 ≤ t.length := by
  unfold refixed at h
  by_cases h1 : t.length < 2
  · rw [if_pos h1] at h; cases h
  rw [if_neg h1] at h
  have hb : beBytes (sInt (t.take 2)) 2 = t.take 2 := by
    have := beBytes_sInt (t.take 2)
    rwa [List.length_take, Nat.min_eq_left (by omega)] at this
  unfold gotS at h
  by_cases h2 : sInt (t.take 2) = -1
  · rw [if_pos h2] at h
    simp only [Except.ok.injEq, Prod.mk.injEq] at h
    obtain ⟨rfl, rfl⟩ := h
    rw [h2] at hb
    refine ⟨?_, by omega, rfl, by simp [BlobS.none]; omega⟩
    show beBytes (-1) 2 ++ [] = _
    rw [List.append_nil, hb]
  rw [if_neg h2] at h
  by_cases h3 : sInt (t.take 2) < 0
  · rw [if_pos h3] at h; cases h
  rw [if_neg h3] at h
  by_cases h4 : (t.length : Int) - (2 : Nat) < sInt (t.take 2)
  · rw [if_pos h4] at h; cases h
  rw [if_neg h4] at h
  simp only [Except.ok.injEq, Prod.mk.injEq] at h
  obtain ⟨rfl, rfl⟩ := h
  obtain ⟨n, hn⟩ : ∃ n : Nat, sInt (t.take 2) = n := ⟨(sInt (t.take 2)).toNat, by omega⟩
  rw [hn] at hb h4 ⊢
  have hl : ((t.drop 2).take n).length = n := by rw [List.length_take, List.length_drop]; omega
  refine ⟨?_, ?_, rfl, ?_⟩
  · show beBytes ((((t.drop 2).take n).length : Nat) : Int) 2 ++ (t.drop 2).take n = _
    rw [hl, hb]
    rw [show ((n : Nat) : Int).toNat = n from rfl, List.take_add]
  · simp; omega
  · show ((t.drop 2).take n).length + 2 ≤ _
    rw [hl]; omega
theorem reHead_one (s : Bs) (h : HeadS) (m : Nat) (hx : reHead s = .ok (h, m)) : encHead h = s.take m ∧ m ≤ s.length ∧ h.cli.data.length ≤ s.length := by
  unfold reHead at hx
  by_cases h1 : s.length < 4
  · rw [if_pos h1] at hx; cases hx
  rw [if_neg h1] at hx
  by_cases h2 : verErr (sInt (s.take 2)) (sInt ((s.drop 2).take 2)) = 0
  · rw [if_neg (fun x => x h2)] at hx
    by_cases h3 : s.length < 8
    · rw [if_pos h3] at hx; cases hx
    rw [if_neg h3] at hx
    cases hf : refixed 2 (s.drop 8) with
    | error e => rw [hf] at hx; cases hx
    | ok x =>
      obtain ⟨b, k⟩ := x
      rw [hf] at hx
      simp only [Except.ok.injEq, Prod.mk.injEq] at hx
      obtain ⟨rfl, rfl⟩ := hx
      obtain ⟨e1, e2, _, e4⟩ := refixed_one _ _ _ hf
      rw [List.length_drop] at e2 e4
      refine ⟨?_, by omega, by simp only; omega⟩
      have b1 : beBytes (sInt (s.take 2)) 2 = s.take 2 := by
        have := beBytes_sInt (s.take 2)
        rwa [List.length_take, Nat.min_eq_left (by omega)] at this
      have b2 : beBytes (sInt ((s.drop 2).take 2)) 2 = (s.drop 2).take 2 := by
        have := beBytes_sInt ((s.drop 2).take 2)
        rwa [List.length_take, List.length_drop, Nat.min_eq_left (by omega)] at this
      have b3 : beBytes (sInt ((s.drop 4).take 4)) 4 = (s.drop 4).take 4 := by
        have := beBytes_sInt ((s.drop 4).take 4)
        rwa [List.length_take, List.length_drop, Nat.min_eq_left (by omega)] at this
      show beBytes _ 2 ++ (beBytes _ 2 ++ (beBytes _ 4 ++ encF 2 b)) = _
      rw [b1, b2, b3, e1]
      rw [show 8 + k = 2 + (2 + (4 + k)) by omega, List.take_add, List.take_add, List.drop_drop, List.take_add, List.drop_drop]
  · rw [if_pos h2] at hx; cases hx
theorem reHead_back (h : HeadS) (hh : headErr h = 0) (r : Bs) : reHead (encHead h ++ r) = .ok (h, (encHead h).length) := by
  obtain ⟨_, h1, h2, h3, h4⟩ := head_put h hh
  obtain ⟨s1, s2⟩ := verErr_small _ _ h1
  have f2 : ∀ n : Int, fits n 2 → sInt (beBytes n 2) = n := fun n hf => by
    have hfit := hf.2.2
    exact (sInt_beBytes_iff n 2 (by decide)).2 hfit
  have f4 : ∀ n : Int, fits n 4 → sInt (beBytes n 4) = n := fun n hf => by
    have hfit := hf.2.2
    exact (sInt_beBytes_iff n 4 (by decide)).2 hfit
  have e1 := f2 _ (fits2_small _ s1)
  have e2 := f2 h.ver (fits2_small _ ⟨s2.1, by omega⟩)
  have e3 := f4 _ h2
  have hb : fits h.cli.len 2 := by
    have h2 : half 2 = 32768 := by decide
    unfold BlobS.len
    refine ⟨by decide, by decide, ?_, ?_⟩ <;> simp [h2] <;> split <;> omega
  have e4 := refixed_back 2 h.cli h3 hb r
  have l2 : ∀ n : Int, (beBytes n 2).length = 2 := fun n => beBytes_length n 2
  have l4 : ∀ n : Int, (beBytes n 4).length = 4 := fun n => beBytes_length n 4
  obtain ⟨kind, ver, num, cli⟩ := h
  simp only at e1 e2 e3 e4 h1
  unfold reHead encHead
  simp only
  generalize hA : beBytes kind 2 = A at e1 ⊢
  generalize hB : beBytes ver 2 = B at e2 ⊢
  generalize hC : beBytes num 4 = C at e3 ⊢
  generalize encF 2 cli = D at e4 ⊢
  have la : A.length = 2 := by rw [← hA]; exact l2 _
  have lb : B.length = 2 := by rw [← hB]; exact l2 _
  have lc : C.length = 4 := by rw [← hC]; exact l4 _
  have t1 : (A ++ (B ++ (C ++ D)) ++ r).take 2 = A := by
    rw [List.append_assoc, List.take_append_of_le_length (by omega), List.take_of_length_le (by omega)]
  have t2 : (A ++ (B ++ (C ++ D)) ++ r).drop 2 = B ++ (C ++ (D ++ r)) := by
    rw [List.append_assoc, List.drop_append_of_le_length (by omega), List.drop_of_length_le (by omega)]
    simp
  have t3 : (A ++ (B ++ (C ++ D)) ++ r).drop 4 = C ++ (D ++ r) := by
    rw [show 4 = 2 + 2 from rfl, ← List.drop_drop, t2, List.drop_append_of_le_length (by omega), List.drop_of_length_le (by omega)]
    simp
  have t4 : (A ++ (B ++ (C ++ D)) ++ r).drop 8 = D ++ r := by
    rw [show 8 = 4 + 4 from rfl, ← List.drop_drop, t3, List.drop_append_of_le_length (by omega), List.drop_of_length_le (by omega)]
    simp
  have t5 : (B ++ (C ++ (D ++ r))).take 2 = B := by rw [List.take_append_of_le_length (by omega), List.take_of_length_le (by omega)]
  have t6 : (C ++ (D ++ r)).take 4 = C := by rw [List.take_append_of_le_length (by omega), List.take_of_length_le (by omega)]
  have hlen : 8 ≤ (A ++ (B ++ (C ++ D)) ++ r).length := by simp; omega
  rw [if_neg (by omega), t1, t2, t3, t4, t5, t6, e1, e2, e3, if_neg (fun x => x h1), if_neg (by omega), e4]
  simp
  omega

end Go.Proofs.Ytombolmicfjjpaa

/- Requests of transactions, one spelling (pure). -/
namespace Go.Proofs.Ytombolmicfjjpaa
open Go.RowKit

theorem take_addQ (s : Bs) (a b : Nat) : s.take (a + b) = s.take a ++ (s.drop a).take b := List.take_add
theorem fix_errQ {s : Bs} {ef : Int} (h : refixed 2 s = .error ef) : ∃ i1, (⟨s, 0, 0⟩ : InS).fixed 2 = (⟨false, []⟩, i1) ∧ i1.err = ef ∧ ef ≠ 0 := by
  obtain ⟨h0, q, _, h1⟩ := (rds_fixed 2 (by decide) (by decide)).err s 0 ef (Nat.zero_le _) (by rw [List.drop_zero]; exact h)
  exact ⟨_, h1, rfl, h0⟩
theorem fix_okQ {s : Bs} {b : BlobS} {kk : Nat} (h : refixed 2 s = .ok (b, kk)) : kk ≤ s.length ∧ (⟨s, 0, 0⟩ : InS).fixed 2 = (b, ⟨s, kk, 0⟩) := by
  have h1 := (rds_fixed 2 (by decide) (by decide)).ok s 0 b kk (Nat.zero_le _) (by rw [List.drop_zero]; exact h)
  rw [Nat.zero_add] at h1
  exact h1
theorem text_errQ {s : Bs} {ef : Int} (h : textP s = .error ef) : ∃ i1, (⟨s, 0, 0⟩ : InS).text = ([], i1) ∧ i1.err = ef ∧ ef ≠ 0 := by
  obtain ⟨h0, q, _, h1⟩ := rds_text.err s 0 ef (Nat.zero_le _) (by rw [List.drop_zero]; exact h)
  exact ⟨_, h1, rfl, h0⟩
theorem text_okQ {s : Bs} {d : Bs} {kk : Nat} (h : textP s = .ok (d, kk)) : kk ≤ s.length ∧ (⟨s, 0, 0⟩ : InS).text = (d, ⟨s, kk, 0⟩) := by
  have h1 := rds_text.ok s 0 d kk (Nat.zero_le _) (by rw [List.drop_zero]; exact h)
  rw [Nat.zero_add] at h1
  exact h1
theorem textP_errQ {s : Bs} {ef : Int} (h : refixed 2 s = .error ef) : textP s = .error ef := by unfold textP; rw [h]
theorem textP_nullQ {s : Bs} {d : Bs} {kk : Nat} (h : refixed 2 s = .ok (⟨true, d⟩, kk)) : textP s = .error 4 := by unfold textP; rw [h]; rfl
theorem textP_okQ {s : Bs} {d : Bs} {kk : Nat} (h : refixed 2 s = .ok (⟨false, d⟩, kk)) : textP s = .ok (d, kk) := by unfold textP; rw [h]; rfl
theorem two_short (s : Bs) (pos : Nat) (hp : pos ≤ s.length) (h : s.length < pos + 10) : ∃ p e i3 i4, (⟨s, pos, 0⟩ : InS).int 8 = (p, i3) ∧ i3.int 2 = (e, i4) ∧ i4.err = 1 := by
  by_cases c : s.length < pos + 8
  · obtain ⟨q, hq⟩ := int_shortM 8 (by decide) (by decide) s pos hp c
    have h2 : (⟨s, q, 1⟩ : InS).int 2 = (0, ⟨s, q, 1⟩) := int_stuckM 2 (by decide) (by decide) ⟨s, q, 1⟩ (show (1 : Int) ≠ 0 by decide)
    exact ⟨_, _, _, _, hq, h2, rfl⟩
  · have h1 := int_okA 8 (by decide) (by decide) s pos (by omega)
    obtain ⟨q, hq⟩ := int_shortM 2 (by decide) (by decide) s (pos + 8) (by omega) (by omega)
    exact ⟨_, _, _, _, h1, hq, rfl⟩
theorem two_stuck (i : InS) (h : i.err ≠ 0) : i.int 8 = (0, i) ∧ i.int 2 = (0, i) := ⟨int_stuckM 8 (by decide) (by decide) i h, int_stuckM 2 (by decide) (by decide) i h⟩
theorem two_okQ (s : Bs) (pos : Nat) (h : pos + 10 ≤ s.length) : (⟨s, pos, 0⟩ : InS).int 8 = (sInt ((s.drop pos).take 8), ⟨s, pos + 8, 0⟩) ∧ (⟨s, pos + 8, 0⟩ : InS).int 2 = (sInt ((s.drop (pos + 8)).take 2), ⟨s, pos + 10, 0⟩) :=
  ⟨int_okA 8 (by decide) (by decide) s pos (by omega), int_okA 2 (by decide) (by decide) s (pos + 8) (by omega)⟩
theorem bool_stuckQ (i : InS) (h : i.err ≠ 0) : i.boolP.2.err = i.err := by
  have h1 : i.int 1 = (0, i) := int_stuckM 1 (by decide) (by decide) i h
  unfold InS.boolP
  rw [h1]
  simp
theorem bool_shortQ (s : Bs) (pos : Nat) (hp : pos ≤ s.length) (h : s.length < pos + 1) : (⟨s, pos, 0⟩ : InS).boolP.2.err = 1 := by
  obtain ⟨q, hq⟩ := int_shortM 1 (by decide) (by decide) s pos hp h
  have hq2 : (⟨s, pos, 0⟩ : InS).int 1 = (0, ⟨s, q, 1⟩) := hq
  unfold InS.boolP
  rw [hq2]
  simp
theorem take_oneQ {s : Bs} {pos : Nat} {y : UInt8} (h : s[pos]? = some y) : (s.drop pos).take 1 = [y] := by
  obtain ⟨h1, h2⟩ := List.getElem?_eq_some_iff.1 h
  rw [List.drop_eq_getElem_cons h1, h2]
  rfl
theorem sInt_01 (y : UInt8) : (sInt [y] = 0 ↔ y = 0) ∧ (sInt [y] = 1 ↔ y = 1) := by
  have hb := beBytes_sInt [y]
  constructor
  · constructor
    · intro h
      rw [h] at hb
      have hb : beBytes 0 1 = [y] := hb
      exact (List.cons.inj (hb.symm.trans (show beBytes 0 1 = [0] by rfl))).1
    · rintro rfl; rfl
  · constructor
    · intro h
      rw [h] at hb
      have hb : beBytes 1 1 = [y] := hb
      exact (List.cons.inj (hb.symm.trans (show beBytes 1 1 = [1] by rfl))).1
    · rintro rfl; rfl
theorem byte_01 (y : UInt8) : ((y.toNat : Int) = 0 ↔ y = 0) ∧ ((y.toNat : Int) = 1 ↔ y = 1) := by
  constructor
  · constructor
    · intro h; exact UInt8.toNat_inj.1 (show y.toNat = (0 : UInt8).toNat by have : (0 : UInt8).toNat = 0 := rfl; omega)
    · rintro rfl; rfl
  · constructor
    · intro h; exact UInt8.toNat_inj.1 (show y.toNat = (1 : UInt8).toNat by have : (1 : UInt8).toNat = 1 := rfl; omega)
    · rintro rfl; rfl
theorem bool_badQ (s : Bs) (pos : Nat) (y : UInt8) (hy : s[pos]? = some y) (hb : 1 < (y.toNat : Int)) : (⟨s, pos, 0⟩ : InS).boolP.2.err = 11 := by
  obtain ⟨h1, h2⟩ := List.getElem?_eq_some_iff.1 hy
  have h3 := int_okA 1 (by decide) (by decide) s pos (by omega)
  rw [take_oneQ hy] at h3
  have h4 : (⟨s, pos, 0⟩ : InS).int 1 = (sInt [y], ⟨s, pos + 1, 0⟩) := h3
  unfold InS.boolP
  rw [h4]
  simp only
  rw [if_pos ⟨fun h => by have := (byte_01 y).1.2 ((sInt_01 y).1.1 h); omega, fun h => by have := (byte_01 y).2.2 ((sInt_01 y).2.1 h); omega⟩]
  rfl
theorem bool_okQ (s : Bs) (pos : Nat) (y : UInt8) (hy : s[pos]? = some y) (hb : ¬ 1 < (y.toNat : Int)) : (⟨s, pos, 0⟩ : InS).boolP = (((y.toNat : Int) == 1), ⟨s, pos + 1, 0⟩) ∧ encO ((y.toNat : Int) == 1) = [y] := by
  obtain ⟨h1, h2⟩ := List.getElem?_eq_some_iff.1 hy
  have h3 := int_okA 1 (by decide) (by decide) s pos (by omega)
  rw [take_oneQ hy] at h3
  have h4 : (⟨s, pos, 0⟩ : InS).int 1 = (sInt [y], ⟨s, pos + 1, 0⟩) := h3
  have h5 : y = 0 ∨ y = 1 := by
    rcases (by omega : (y.toNat : Int) = 0 ∨ (y.toNat : Int) = 1) with h | h
    · exact .inl ((byte_01 y).1.1 h)
    · exact .inr ((byte_01 y).2.1 h)
  unfold InS.boolP
  rw [h4]
  rcases h5 with rfl | rfl
  · exact ⟨rfl, rfl⟩
  · exact ⟨rfl, rfl⟩
theorem fail_errQ (s : Bs) (pos : Nat) (r : Int) : ((⟨s, pos, 0⟩ : InS).fail r).err = r := rfl
theorem enc_22 (s : Bs) (v : Int) (nl : Bool) (d : Bs) (kk : Nat) (l : List TopS) (c : Bool) (hv : refixed 2 s = .ok (⟨nl, d⟩, kk)) (h4 : kk + 4 ≤ s.length) (h01 : v ≠ 1) (p e : Int) :
    encReq 22 v nl d (sInt ((s.drop kk).take 4)) p e l c = s.take (kk + 4) := by
  obtain ⟨h1, _⟩ := refixed_one s _ kk hv
  unfold encReq
  rw [if_pos rfl, if_neg h01, List.append_nil, h1, take_addQ, sInt_of_take (s.drop kk) 4 (by rw [List.length_drop]; omega)]
theorem enc_W (s : Bs) (pos : Nat) (h : pos + 10 ≤ s.length) : s.take pos ++ encW (sInt ((s.drop pos).take 8)) (sInt ((s.drop (pos + 8)).take 2)) = s.take (pos + 10) := by
  unfold encW
  rw [sInt_of_take (s.drop pos) 8 (by rw [List.length_drop]; omega), sInt_of_take (s.drop (pos + 8)) 2 (by rw [List.length_drop]; omega), ← List.append_assoc, ← take_addQ, ← take_addQ]
theorem enc_221 (s : Bs) (nl : Bool) (d : Bs) (kk : Nat) (l : List TopS) (c : Bool) (hv : refixed 2 s = .ok (⟨nl, d⟩, kk)) (h4 : kk + 4 + 10 ≤ s.length) :
    encReq 22 1 nl d (sInt ((s.drop kk).take 4)) (sInt ((s.drop (kk + 4)).take 8)) (sInt ((s.drop (kk + 4 + 8)).take 2)) l c = s.take (kk + 4 + 10) := by
  obtain ⟨h1, _⟩ := refixed_one s _ kk hv
  unfold encReq
  rw [if_pos rfl, if_pos rfl, h1, sInt_of_take (s.drop kk) 4 (by rw [List.length_drop]; omega), ← List.append_assoc, ← take_addQ, enc_W s (kk + 4) h4]
theorem enc_24 (s : Bs) (v : Int) (d : Bs) (kk mm : Nat) (l : List TopS) (tm : Int) (c : Bool) (hv : refixed 2 s = .ok (⟨false, d⟩, kk)) (h4 : kk + 10 ≤ s.length) (hr : topsR (s.drop (kk + 10)) = (l, mm, 0)) :
    encReq 24 v false d tm (sInt ((s.drop kk).take 8)) (sInt ((s.drop (kk + 8)).take 2)) l c = s.take (kk + 10 + mm) := by
  obtain ⟨h1, _⟩ := refixed_one s _ kk hv
  obtain ⟨_, h2⟩ := topsP_one (topsR_ok hr)
  unfold encReq
  rw [if_neg (by decide), if_pos rfl, h1, ← List.append_assoc, enc_W s kk h4, take_addQ s (kk + 10) mm, h2]
theorem enc_26 (s : Bs) (v : Int) (d : Bs) (kk : Nat) (l : List TopS) (tm : Int) (y : UInt8) (hv : refixed 2 s = .ok (⟨false, d⟩, kk)) (h4 : kk + 10 + 1 ≤ s.length) (hy : s[kk + 10]? = some y) (hb : ¬ 1 < (y.toNat : Int)) :
    encReq 26 v false d tm (sInt ((s.drop kk).take 8)) (sInt ((s.drop (kk + 8)).take 2)) l ((y.toNat : Int) == 1) = s.take (kk + 10 + 1) := by
  obtain ⟨h1, _⟩ := refixed_one s _ kk hv
  unfold encReq
  rw [if_neg (by decide), if_neg (by decide), h1, ← List.append_assoc, enc_W s kk (by omega), (bool_okQ s _ y hy hb).2, take_addQ s (kk + 10) 1, take_oneQ hy]

end Go.Proofs.Ytombolmicfjjpaa

/- Values, decoded (pure). -/
namespace Go.Proofs.Ytombolmicfjjpaa
open Go.RowKit

theorem close_st {i : InS} (h : i.err ≠ 0) : i.close.err = i.err := by
  unfold InS.close
  split
  · unfold InS.fail; rw [if_neg h]
  · rfl
theorem valF_stuck {i : InS} (h : i.err ≠ 0) : i.valF = (ValS.z, i) := by
  have r8 : i.int 8 = (0, i) := (rds_intN 8 (by decide) (by decide)).stuck i h
  have r2 : i.int 2 = (0, i) := (rds_intN 2 (by decide) (by decide)).stuck i h
  have r4 : i.int 4 = (0, i) := (rds_intN 4 (by decide) (by decide)).stuck i h
  have r1 : i.int 1 = (0, i) := (rds_intN 1 (by decide) (by decide)).stuck i h
  have rt : i.tops = ([], i) := rds_tops.stuck i h
  exact valF_eq r8 r2 r4 r1 rt r8 r8
theorem decE_zero {s : Bs} (h : decE s = 0) : ((⟨s, 0, 0⟩ : InS).int 2).1 = 0 := by
  by_cases ha : ((⟨s, 0, 0⟩ : InS).int 2).1 = 0
  · exact ha
  · exfalso
    have hj : (decI s).err ≠ 0 := by
      unfold decI
      rw [if_neg ha]
      unfold InS.fail
      split
      · show (7 : Int) ≠ 0; decide
      · assumption
    unfold decE at h
    rw [valF_stuck hj, close_st hj] at h
    exact hj h
theorem valDec_ok {s : Bs} {v : ValS} (h : valDec s = (v, 0)) (hz : v ≠ ValS.z ∨ True) : decE s = 0 ∧ (decI s).valF.1 = v ∧ v.err = 0 := by
  unfold valDec at h
  by_cases h1 : decE s ≠ 0
  · rw [if_pos h1] at h
    simp only [Prod.mk.injEq] at h
    exact absurd h.2 h1
  · rw [if_neg h1] at h
    by_cases h2 : (decI s).valF.1.err ≠ 0
    · rw [if_pos h2] at h
      simp only [Prod.mk.injEq] at h
      exact absurd h.2 h2
    · rw [if_neg h2] at h
      simp only [Prod.mk.injEq] at h
      refine ⟨Classical.not_not.1 h1, h.1, ?_⟩
      rw [← h.1]
      exact Classical.not_not.1 h2
theorem valDec_bad {s : Bs} {v : ValS} {E : Int} (h : valDec s = (v, E)) (h0 : E ≠ 0) : (decE s = E) ∨ (decE s = 0 ∧ (decI s).valF.1.err = E) := by
  unfold valDec at h
  by_cases h1 : decE s ≠ 0
  · rw [if_pos h1] at h
    simp only [Prod.mk.injEq] at h
    exact .inl h.2
  · rw [if_neg h1] at h
    have h1 := Classical.not_not.1 h1
    by_cases h2 : (decI s).valF.1.err ≠ 0
    · rw [if_pos h2] at h
      simp only [Prod.mk.injEq] at h
      exact .inr ⟨h1, h.2⟩
    · rw [if_neg h2] at h
      simp only [Prod.mk.injEq] at h
      exact absurd h.2.symm h0

end Go.Proofs.Ytombolmicfjjpaa

/- Numbers and texts, read. -/
namespace Go.Proofs.Ytombolmicfjjpaa
open Go.RowKit

theorem cnt_nat (i : InS) (each : Nat) : (i.count 4 each).1 = ((i.cnt each).1 : Int) ∧ (i.cnt each).1 ≤ 2147483647 := by
  have hr : -2147483648 ≤ (i.int 4).1 ∧ (i.int 4).1 < 2147483648 := by
    have e4 : half (4 : Int).toNat = 2147483648 := by decide
    by_cases hi : i.err = 0
    · obtain ⟨s, pos, er⟩ := i
      simp only at hi
      subst hi
      unfold InS.int
      rw [if_neg (by decide)]
      simp only
      unfold InS.take
      split
      · show -2147483648 ≤ sInt [] ∧ sInt [] < 2147483648; decide
      · split
        · show -2147483648 ≤ sInt [] ∧ sInt [] < 2147483648; decide
        · split
          · show -2147483648 ≤ sInt [] ∧ sInt [] < 2147483648; decide
          · rename_i h1 h2 h3
            have hl : (((s.drop pos)).take (4 : Int).toNat).length = 4 := by
              rw [List.length_take, List.length_drop]
              simp only [InS.left] at h3
              have : (4 : Int).toNat = 4 := rfl
              omega
            have h6 := sInt_fits _ 4 (by decide) (by decide) hl
            have h7 := h6.2.2
            have e5 : half ((4 : Nat) : Int).toNat = 2147483648 := by decide
            rw [e5] at h7
            exact h7
    · rw [int_stuck i hi]; show (-2147483648 : Int) ≤ 0 ∧ (0 : Int) < 2147483648; decide
  have h0 : 0 ≤ (i.count 4 each).1 ∧ (i.count 4 each).1 < 2147483648 := by
    unfold InS.count
    simp only
    split
    · simp
    · split
      · simp
      · omega
  unfold InS.cnt
  simp only
  omega
theorem s_cntV (p : Nat) (i j : InS) (each n : Nat) (ei : Int) (he : ei = each) (hx : i.cnt each = (n, j)) {W0 w : World} {K : Know} {L : List Res} (h : St W0 w K (.inp p i :: L)) :
    Calls Try.prog 77 #[inPtr p, .int .i64 4, .int .i64 ei] w fun en w' => en = .returned (.int .i64 n) ∧ St W0 w' K (.inp p j :: L) := by
  subst he
  have h2 := s_count p i 4 each h
  have h3 := (cnt_nat i each).1
  rw [hx] at h3
  have h4 : (i.count 4 each).2 = j := by have := congrArg Prod.snd hx; exact this
  rw [h3, h4] at h2
  exact h2
theorem s_intV (p : Nat) (i j : InS) (x : Int) (size : Int) (hx : i.int size = (x, j)) {W0 w : World} {K : Know} {L : List Res} (h : St W0 w K (.inp p i :: L)) :
    Calls Try.prog 72 #[inPtr p, .int .i64 size] w fun en w' => en = .returned (.int .i64 x) ∧ St W0 w' K (.inp p j :: L) := by
  have h2 := s_int p i size h
  rw [hx] at h2
  exact h2
theorem s_errV (p : Nat) (i : InS) (e : Int) (hx : i.err = e) {W0 w : World} {K : Know} {L : List Res} (h : St W0 w K (.inp p i :: L)) :
    Calls Try.prog 27 #[inPtr p] w fun en w' => en = .returned (.int .i64 e) ∧ St W0 w' K (.inp p i :: L) := by
  subst hx; exact s_err p i h
theorem blob_textV (p : Nat) (i j : InS) (s : Bs) (hx : i.text = (s, j)) {W0 w : World} {K : Know} {L : List Res} (h : St W0 w K (.inp p i :: L)) :
    Calls Try.prog 78 #[inPtr p] w fun en w' => en = .returned (.string (bb s)) ∧ St W0 w' K (.inp p j :: L) := by
  have h2 := blob_text p i h
  rw [hx] at h2
  exact h2
theorem elem_int : ElemT Try.prog 3 (.int .i64 0) 1 8 := elemT_of (by kernel_rfl) rfl (by decide)
theorem elem_top : ElemT Try.prog 51 (.agg #[.string ⟨#[]⟩, .slice none 0 0]) 2 40 := elemT_of (by kernel_rfl) rfl (by decide)
theorem tops_nil (K : Know) : K.has (K.and (Know.tops (.slice none 0 0) [])) := fun _ _ h => ⟨h, ⟨none, 0, rfl, fun h => absurd h (by simp)⟩, fun x hx => by cases hx⟩

end Go.Proofs.Ytombolmicfjjpaa

/- Topics, read. -/
namespace Go.Proofs.Ytombolmicfjjpaa
open Go.RowKit

set_option maxHeartbeats 1000000 in
set_option maxRecDepth 100000 in
theorem val_parts (p : Nat) (i j : InS) (l : List Int) (hx : i.parts = (l, j)) {W0 w : World} {K : Know} {L : List Res} (h : St W0 w K (.inp p i :: L)) :
    Calls Try.prog 79 #[inPtr p] w fun en w' => ∃ v, en = .returned v ∧ St W0 w' (K.and (Know.flat RI v 1 l)) (.inp p j :: L) := by
  obtain ⟨⟨n, c⟩, hc⟩ : ∃ r, i.cnt 4 = r := ⟨_, rfl⟩
  have hnl := (cnt_nat i 4).2
  rw [hc] at hnl
  have hx2 : InS.partsN n [] c = (l, j) := by rw [← hx]; unfold InS.parts; rw [hc]
  have HC := Lib.hid hc
  have HX := Lib.hid hx2
  have HNL := Lib.hid hnl
  have H := Lib.hid h
  have hni : (n : Int) ≤ 2147483647 := by simp only at hnl; omega
  clear h hx hc hx2 hnl
  go_enter Try.func79, Try.ntmps79
  go_wp2_with (go_at_call 77; (with_reducible refine (s_cntV p i c 4 n 4 rfl HC.out H.out).mono ?_); rintro e_ wn ⟨rfl, h⟩; replace H := Lib.hid h; clear h)
  go_loopw [3, 6] (fun lv iv wr => ∃ (k : Nat) (i2 : InS) (acc : List Int), k ≤ n ∧ iv = .int .i64 k ∧ Hid (acc.length = k) ∧ Hid (InS.partsN (n - k) acc i2 = (l, j)) ∧ St W0 wr K (.row lv 3 1 acc.length (acc.flatMap fun x => [.int .i64 x]) :: .inp p i2 :: L)) (fun _ iv _ => n - (intOf iv).toNat)
  case atStart => exact ⟨0, c, [], Nat.zero_le _, rfl, Lib.hid rfl, Lib.hid HX.out, H.out.nilRow 3 1⟩
  case round =>
    obtain ⟨k, i2, acc, hk, rfl, HAL, HP, hst⟩ := hrel
    clear H
    have H := Lib.hid hst
    clear hst
    by_cases hlt : k < n
    · obtain ⟨⟨x, i3⟩, hi3⟩ : ∃ r, i2.int 4 = r := ⟨_, rfl⟩
      have HI := Lib.hid hi3
      have HP2 := Lib.hid (show InS.partsN (n - (k + 1)) (acc ++ [x]) i3 = (l, j) by
        have h1 := HP.out
        rw [show n - k = (n - (k + 1)) + 1 by omega] at h1
        have h2 : InS.partsN (n - (k + 1)) (acc ++ [(i2.int 4).1]) (i2.int 4).2 = (l, j) := h1
        rw [hi3] at h2
        exact h2)
      have HAB := Lib.hid (show acc.length ≤ 2147483647 by have := HAL.out; have := HNL.out; omega)
      have hkn : (k : Int) < (n : Int) := by omega
      clear hi3
      go_wp2_with (first
    | (go_at_call 72; (with_reducible refine (s_intV p i2 i3 x 4 HI.out H.out.p1).mono ?_); rintro e_ wn ⟨rfl, h⟩; have h := h.p1; replace H := Lib.hid h; clear h)
    | (at_builtin; refine wpl_app1_st rfl _ _ 49 rfl 3 Try.underlying49 elem_int _ _ _ rfl H.out [.int .i64 x] 3 rfl rfl (by simp [Value.oneCell']) (by have := HAB.out; unfold maxLen; omega) (by have := HAB.out; omega) ?_; intro v' w' h; replace H := Lib.hid h; clear h))
      go_roundw
      case rel => exact ⟨k + 1, i3, acc ++ [x], hlt, by go_num, Lib.hid (by rw [List.length_append, HAL.out]; rfl), HP2, by rw [List.length_append, List.flatMap_append]; exact H.out⟩
      case measure => first | (simp [intOf]; done) | (simp [intOf]; omega)
    · obtain rfl : k = n := by omega
      have hp := HP.out
      rw [Nat.sub_self] at hp
      have hp : (acc, i2) = (l, j) := hp
      simp only [Prod.mk.injEq] at hp
      obtain ⟨rfl, rfl⟩ := hp
      go_wp2
      go_ret
      exact ⟨_, rfl, H.out.freezeRow (R := RI) (fun x _ => ⟨rfl, rfl⟩)⟩

set_option maxHeartbeats 2000000 in
set_option maxRecDepth 100000 in
theorem val_topics (p : Nat) (i j : InS) (l : List TopS) (hx : i.tops = (l, j)) {W0 w : World} {K : Know} {L : List Res} (h : St W0 w K (.inp p i :: L)) :
    Calls Try.prog 25 #[inPtr p] w fun en w' => ∃ (v : Value) (lr : List (TopS × Value)), en = .returned v ∧ lr.map (·.1) = l ∧ St W0 w' (K.and (Know.tops v lr)) (.inp p j :: L) := by
  obtain ⟨⟨n, c⟩, hc⟩ : ∃ r, i.cnt 6 = r := ⟨_, rfl⟩
  have hnl := (cnt_nat i 6).2
  rw [hc] at hnl
  have hx2 : InS.topsN n [] c = (l, j) := by rw [← hx]; unfold InS.tops; rw [hc]
  have HC := Lib.hid hc
  have HX := Lib.hid hx2
  have HNL := Lib.hid hnl
  have H := Lib.hid h
  have hni : (n : Int) ≤ 2147483647 := by simp only at hnl; omega
  clear h hx hc hx2 hnl
  go_enter Try.func25, Try.ntmps25
  go_wp2_with (go_at_call 77; (with_reducible refine (s_cntV p i c 6 n 6 rfl HC.out H.out).mono ?_); rintro e_ wn ⟨rfl, h⟩; replace H := Lib.hid h; clear h)
  go_loopw [3, 4, 7] (fun lv _ iv wr => ∃ (k : Nat) (i2 : InS) (acc : List (TopS × Value)) (K2 : Know), k ≤ n ∧ iv = .int .i64 k ∧ Hid (acc.length = k) ∧ Hid (InS.topsN (n - k) (acc.map (·.1)) i2 = (l, j)) ∧ Hid (K2.has K) ∧ Hid (∀ x ∈ acc, K2.has (Know.flat RI x.2 1 x.1.parts)) ∧ St W0 wr K2 (.row lv 51 2 acc.length (acc.flatMap tcells) :: .inp p i2 :: L)) (fun _ _ iv _ => n - (intOf iv).toNat)
  case atStart => exact ⟨0, c, [], K, Nat.zero_le _, rfl, Lib.hid rfl, Lib.hid HX.out, Lib.hid (Know.has_refl _), Lib.hid (fun x hx => by cases hx), H.out.nilRow 51 2⟩
  case round =>
    obtain ⟨k, i2, acc, K2, hk, rfl, HAL, HP, HKK, HALL, hst⟩ := hrel
    clear H
    have H := Lib.hid hst
    clear hst
    by_cases hlt : k < n
    · obtain ⟨⟨nm, i3⟩, hi3⟩ : ∃ r, i2.text = r := ⟨_, rfl⟩
      obtain ⟨⟨ps, i4⟩, hi4⟩ : ∃ r, i3.parts = r := ⟨_, rfl⟩
      obtain ⟨er, her⟩ : ∃ er, i4.err = er := ⟨_, rfl⟩
      have HT := Lib.hid hi3
      have HPS := Lib.hid hi4
      have HER := Lib.hid her
      have hstep : (if er = 0 then InS.topsN (n - (k + 1)) (acc.map (·.1) ++ [⟨nm, ps⟩]) i4 else ([], i4)) = (l, j) := by
        have h1 := HP.out
        rw [show n - k = (n - (k + 1)) + 1 by omega] at h1
        have h2 : (if i2.text.2.parts.2.err = 0 then InS.topsN (n - (k + 1)) (acc.map (·.1) ++ [⟨i2.text.1, i2.text.2.parts.1⟩]) i2.text.2.parts.2 else ([], i2.text.2.parts.2)) = (l, j) := h1
        rw [hi3] at h2
        simp only at h2
        rw [hi4] at h2
        simp only at h2
        rw [her] at h2
        exact h2
      have HAB := Lib.hid (show acc.length ≤ 2147483647 by have := HAL.out; have := HNL.out; omega)
      have hkn : (k : Int) < (n : Int) := by omega
      clear hi3 hi4 her
      by_cases he0 : er = 0
      · as_aux_lemma =>
        rw [if_pos he0] at hstep
        have HP2 := Lib.hid hstep
        subst he0
        clear hstep
        go_wp2_with (first
    | (go_at_call 78; (with_reducible refine (blob_textV p i2 i3 nm HT.out H.out.p1).mono ?_); rintro e_ wn ⟨rfl, h⟩; replace H := Lib.hid h; clear h)
    | (go_at_call 79; (with_reducible refine (val_parts p i3 i4 ps HPS.out H.out).mono ?_); rintro e_ wn ⟨pv, rfl, h⟩; obtain ⟨qx, capx, hpv⟩ := flat_form (Know.has_right (Know.has_refl _)) h; subst hpv; have h := h.p1; replace H := Lib.hid h; clear h)
    | (at_builtin; refine wpl_app1_st rfl _ _ 22 rfl 51 Try.underlying22 elem_top _ _ _ rfl H.out [.string (bb nm), .slice qx ps.length capx] 51 rfl rfl (by simp [Value.oneCell']) (by have := HAB.out; unfold maxLen; omega) (by have := HAB.out; omega) ?_; intro v' w' h; have h := h.p1; replace H := Lib.hid h; clear h)
    | (go_at_call 27; (with_reducible refine (s_errV p i4 0 HER.out H.out).mono ?_); rintro e_ wn ⟨rfl, h⟩; have h := h.p1; replace H := Lib.hid h; clear h))
        go_roundw
        case rel => exact ⟨k + 1, i4, acc ++ [((⟨nm, ps⟩ : TopS), .slice qx ps.length capx)], K2.and (Know.flat RI (.slice qx ps.length capx) 1 ps), hlt, by go_num, Lib.hid (by rw [List.length_append, HAL.out]; rfl), Lib.hid (by rw [List.map_append]; exact HP2.out), Lib.hid (Know.has_trans (Know.has_left (Know.has_refl _)) HKK.out), Lib.hid (fun x hx => by
          rcases List.mem_append.1 hx with hx | hx
          · exact Know.has_left (HALL.out x hx)
          · rw [List.mem_singleton.1 hx]; exact Know.has_right (Know.has_refl _)), by rw [List.length_append, List.flatMap_append]; exact H.out⟩
        case measure => first | (simp [intOf]; done) | (simp [intOf]; omega)
      · as_aux_lemma =>
        rw [if_neg he0] at hstep
        simp only [Prod.mk.injEq] at hstep
        obtain ⟨rfl, rfl⟩ := hstep
        have gz : (er == 0) = false := by rw [beq_eq_false_iff_ne]; exact he0
        have gz3 : (er != 0) = true := by simp [bne, gz]
        clear he0
        go_wp2_with (first
    | (go_at_call 78; (with_reducible refine (blob_textV p i2 i3 nm HT.out H.out.p1).mono ?_); rintro e_ wn ⟨rfl, h⟩; replace H := Lib.hid h; clear h)
    | (go_at_call 79; (with_reducible refine (val_parts p i3 _ ps HPS.out H.out).mono ?_); rintro e_ wn ⟨pv, rfl, h⟩; obtain ⟨qx, capx, hpv⟩ := flat_form (Know.has_right (Know.has_refl _)) h; subst hpv; have h := h.p1; replace H := Lib.hid h; clear h)
    | (at_builtin; refine wpl_app1_st rfl _ _ 22 rfl 51 Try.underlying22 elem_top _ _ _ rfl H.out [.string (bb nm), .slice qx ps.length capx] 51 rfl rfl (by simp [Value.oneCell']) (by have := HAB.out; unfold maxLen; omega) (by have := HAB.out; omega) ?_; intro v' w' h; have h := h.p1; replace H := Lib.hid h; clear h)
    | (go_at_call 27; (with_reducible refine (s_errV p _ er HER.out H.out).mono ?_); rintro e_ wn ⟨rfl, h⟩; replace H := Lib.hid h; clear h))
        go_ret
        exact ⟨_, [], rfl, rfl, (H.out.p1.drop).know (Know.has_trans (Know.has_left HKK.out) (tops_nil K))⟩
    · obtain rfl : k = n := by omega
      have hp := HP.out
      rw [Nat.sub_self] at hp
      have hp : (acc.map (·.1), i2) = (l, j) := hp
      simp only [Prod.mk.injEq] at hp
      obtain ⟨rfl, rfl⟩ := hp
      go_wp2
      go_ret
      have hf := H.out.freezeRow (R := RTop) (fun x _ => ⟨rfl, rfl⟩)
      have hf2 := hf.know (K' := K.and (Know.tops _ acc)) (fun w F hh => ⟨HKK.out _ _ hh.1, hh.2, fun y hy => HALL.out y hy _ _ hh.1⟩)
      first | exact ⟨_, acc, rfl, rfl, hf2⟩ | exact ⟨_, rfl, acc, rfl, hf2⟩

end Go.Proofs.Ytombolmicfjjpaa

/- The bytes of control records (pure). -/
namespace Go.Proofs.Ytombolmicfjjpaa
open Go.RowKit

/-- A number of so many bytes, behind the version. -/
def verB (n : Int) (k : Nat) : Bs := beBytes 0 2 ++ beBytes n k
def ctlKey (k : Int) : Bs × Int := if k = 0 ∨ k = 1 then (verB k 2, 0) else ([], 12)
def ctlVal (n : Int) : Bs × Int := if 0 ≤ n ∧ n < 2147483648 then (verB n 4, 0) else ([], 11)
/-- Of bytes the number behind the version. -/
def verRd (k : Nat) (ok : Int → Bool) (e : Int) (s : Bs) : Int × Int :=
  if s.length < 2 then (0, 1) else if sInt (s.take 2) ≠ 0 then (0, 7) else if s.length < 2 + k then (0, 1)
  else if ok (sInt ((s.drop 2).take k)) = false then (0, e) else if 2 + k < s.length then (0, 2) else (sInt ((s.drop 2).take k), 0)
def verA (s : Bs) : Int × InS := (⟨s, 0, 0⟩ : InS).int 2
def verI (s : Bs) : InS := if (verA s).1 = 0 then (verA s).2 else (verA s).2.fail 7
def verJ (k : Nat) (ok : Int → Bool) (e : Int) (s : Bs) : InS := if ok ((verI s).int k).1 = true then ((verI s).int k).2 else ((verI s).int k).2.fail e
def verD (k : Nat) (ok : Int → Bool) (e : Int) (s : Bs) : Int × Int := if (verJ k ok e s).close.err = 0 then (((verI s).int k).1, 0) else (0, (verJ k ok e s).close.err)
theorem close_stuckC {i : InS} (h : i.err ≠ 0) : i.close = i := by
  unfold InS.close
  split
  · exact if_neg h
  · rfl
theorem verD_bad {k : Nat} {ok : Int → Bool} {e x : Int} {s : Bs} (hx : x ≠ 0) (h : (verJ k ok e s).err = x) : verD k ok e s = (0, x) := by
  subst h
  unfold verD
  rw [close_stuckC hx, if_neg hx]
theorem verJ_stuck {k : Nat} {ok : Int → Bool} {e x : Int} {s : Bs} (h1 : 1 ≤ k) (h8 : k ≤ 8) (hx : x ≠ 0) (h : (verI s).err = x) : (verJ k ok e s).err = x := by
  subst h
  have h2 : (verI s).int k = (0, verI s) := (rds_intN k h1 h8).stuck (verI s) hx
  unfold verJ
  rw [h2]
  split
  · rfl
  · rw [show (verI s).fail e = verI s from if_neg hx]
theorem verD_eq (k : Nat) (ok : Int → Bool) (e : Int) (h1 : 1 ≤ k) (h8 : k ≤ 8) (he : e ≠ 0) (s : Bs) : verD k ok e s = verRd k ok e s := by
  have hi := rds_intN 2 (by decide) (by decide)
  have hk := rds_intN k h1 h8
  unfold verRd
  by_cases c1 : s.length < 2
  · rw [if_pos c1]
    obtain ⟨_, q, _, h3⟩ := hi.err s 0 1 (Nat.zero_le _) (by simp [getIntN, c1])
    have h4 : verA s = (0, ⟨s, q, 1⟩) := h3
    refine verD_bad (by decide) (verJ_stuck h1 h8 (by decide) ?_)
    unfold verI
    rw [h4]
    rfl
  rw [if_neg c1]
  obtain ⟨_, h3⟩ := hi.ok s 0 (sInt (s.take 2)) 2 (Nat.zero_le _) (by simp [getIntN, c1])
  have h4 : verA s = (sInt (s.take 2), ⟨s, 2, 0⟩) := h3
  by_cases c2 : sInt (s.take 2) ≠ 0
  · rw [if_pos c2]
    refine verD_bad (by decide) (verJ_stuck h1 h8 (by decide) ?_)
    unfold verI
    rw [h4, if_neg c2]
    rfl
  rw [if_neg c2]
  have hI : verI s = ⟨s, 2, 0⟩ := by unfold verI; rw [h4, if_pos (by simpa using c2)]
  by_cases c3 : s.length < 2 + k
  · rw [if_pos c3]
    obtain ⟨_, q, _, h7⟩ := hk.err s 2 1 (by omega) (by unfold getIntN; rw [if_pos (by rw [List.length_drop]; omega)])
    have h7 : (verI s).int k = (0, ⟨s, q, 1⟩) := by rw [hI]; exact h7
    refine verD_bad (by decide) ?_
    unfold verJ
    rw [h7]
    split
    · rfl
    · rfl
  rw [if_neg c3]
  obtain ⟨_, h7⟩ := hk.ok s 2 (sInt ((s.drop 2).take k)) k (by omega) (by unfold getIntN; rw [if_neg (by rw [List.length_drop]; omega)])
  have h7 : (verI s).int k = (sInt ((s.drop 2).take k), ⟨s, 2 + k, 0⟩) := by rw [hI]; exact h7
  by_cases c4 : ok (sInt ((s.drop 2).take k)) = false
  · rw [if_pos c4]
    refine verD_bad he ?_
    unfold verJ
    rw [h7]
    rw [if_neg (by rw [c4]; decide)]
    rfl
  rw [if_neg c4]
  have hJ : verJ k ok e s = ⟨s, 2 + k, 0⟩ := by unfold verJ; rw [h7, if_pos (by simpa using c4)]
  by_cases c5 : 2 + k < s.length
  · have hc : (⟨s, 2 + k, 0⟩ : InS).close = ⟨s, 2 + k, 2⟩ := by
      unfold InS.close
      rw [if_pos (show 0 < (⟨s, 2 + k, 0⟩ : InS).left by simp only [InS.left]; omega)]
      rfl
    unfold verD
    rw [if_pos c5, hJ, hc, if_neg (by simp only; decide)]
  · have hc : (⟨s, 2 + k, 0⟩ : InS).close = ⟨s, 2 + k, 0⟩ := by
      unfold InS.close
      rw [if_neg (show ¬ 0 < (⟨s, 2 + k, 0⟩ : InS).left by simp only [InS.left]; omega)]
    unfold verD
    rw [if_neg c5, hJ, hc, if_pos rfl, h7]
def way (n : Int) : Bool := n == 0 || n == 1
def time0 (n : Int) : Bool := decide (0 ≤ n)
theorem verB_len (n : Int) (k : Nat) : (verB n k).length = 2 + k := by unfold verB; simp [beBytes_length]
theorem verB_take (n : Int) (k : Nat) : (verB n k).take 2 = beBytes 0 2 := by unfold verB; rw [List.take_left' (by simp [beBytes_length])]
theorem verB_drop (n : Int) (k : Nat) : (verB n k).drop 2 = beBytes n k := by unfold verB; rw [List.drop_left' (by simp [beBytes_length])]
theorem verRd_back (n : Int) (k : Nat) (ok : Int → Bool) (e : Int) (h1 : 1 ≤ k) (h8 : k ≤ 8) (hf : fits n k) (ho : ok n = true) : verRd k ok e (verB n k) = (n, 0) := by
  have h2 : sInt (beBytes n k) = n := (sInt_beBytes_iff n k h1).2 ⟨hf.2.2.1, hf.2.2.2⟩
  have h3 : (verB n k).length = 2 + k := verB_len n k
  have h4 : ((verB n k).drop 2).take k = beBytes n k := by rw [verB_drop, List.take_of_length_le (by simp [beBytes_length])]
  unfold verRd
  rw [if_neg (by omega), verB_take, if_neg (by decide), if_neg (by omega), h4, h2, if_neg (by rw [ho]; decide), if_neg (by omega)]
theorem ver_text (n : Int) (k : Nat) (h : fits n k) : ((⟨beBytes 0 2, 0⟩ : OutS).int n k).text = (verB n k, 0) := by
  unfold OutS.int
  rw [if_pos h]
  rfl
theorem ver_textN (n : Int) (k : Nat) (h : ¬ fits n k) : ((⟨beBytes 0 2, 0⟩ : OutS).int n k).text = ([], 11) := by
  unfold OutS.int
  rw [if_neg h]
  rfl
theorem half2 : half 2 = 32768 := by decide
theorem half4 : half 4 = 2147483648 := by decide
theorem fits2 (n : Int) (h : -32768 ≤ n ∧ n < 32768) : fits n 2 := ⟨by decide, by decide, by have := half2; show -half 2 ≤ n; omega, by have := half2; show n < half 2; omega⟩
theorem fits4 (n : Int) : fits n 4 ↔ (-2147483648 ≤ n ∧ n < 2147483648) := by
  have := half4
  constructor
  · intro h
    have h3 : -half 4 ≤ n := h.2.2.1
    have h4 : n < half 4 := h.2.2.2
    omega
  · intro h
    exact ⟨by decide, by decide, by show -half 4 ≤ n; omega, by show n < half 4; omega⟩

end Go.Proofs.Ytombolmicfjjpaa

/- Contracts of package control. -/
namespace Go.Proofs.Ytombolmicfjjpaa
open Go.RowKit

end Go.Proofs.Ytombolmicfjjpaa

/- Contracts of cursitorref08. -/
namespace Go.Proofs.Ytombolmicfjjpaa
open Go.RowKit

theorem sr_bytes2 (n : Int) (hn : -9223372036854775808 ≤ n ∧ n < 9223372036854775808) {W0 w : World} {K : Know} {L : List Res} (h : St W0 w K L) :
    Calls Try.prog 75 #[.int .i64 n, .int .i64 2] w fun en w' => en = .returned (.string (bb (beBytes n 2))) ∧ St W0 w' K L := sr_bytes n 2 (by decide) hn h
theorem sr_bytes4 (n : Int) (hn : -9223372036854775808 ≤ n ∧ n < 9223372036854775808) {W0 w : World} {K : Know} {L : List Res} (h : St W0 w K L) :
    Calls Try.prog 75 #[.int .i64 n, .int .i64 4] w fun en w' => en = .returned (.string (bb (beBytes n 4))) ∧ St W0 w' K L := sr_bytes n 4 (by decide) hn h
end Go.Proofs.Ytombolmicfjjpaa

/- Contracts: control records. -/
namespace Go.Proofs.Ytombolmicfjjpaa
open Go.RowKit

theorem know_nil0 {α : Type} (R : List Value → α → Prop) (sz : Nat) (K : Know) : K.has (Know.flat R (.slice none 0 0) sz []) := fun _ _ _ => ⟨none, 0, rfl, fun h => absurd h (by simp)⟩

def ctlRead (n1 n2 : Bool) (d1 d2 : Bs) (many o : Int) : Int × Int × Int :=
  if n1 = true ∨ n2 = true ∨ many ≠ 0 ∨ o ≠ 0 then (0, 0, 12)
  else if (verRd 2 way 12 d1).2 ≠ 0 then (0, 0, (verRd 2 way 12 d1).2)
  else if (verRd 4 time0 11 d2).2 ≠ 0 then (0, 0, (verRd 4 time0 11 d2).2)
  else ((verRd 2 way 12 d1).1, (verRd 4 time0 11 d2).1, 0)

end Go.Proofs.Ytombolmicfjjpaa

/- Batches (pure): which may be. -/
namespace Go.Proofs.Ytombolmicfjjpaa
open Go.RowKit

structure BatS where
  base : Int
  leader : Int
  app : Bool
  txn : Bool
  ctl : Bool
  last : Int
  first : Int
  maxt : Int
  prod : Int
  epoch : Int
  seq : Int
  recs : List RecS
deriving DecidableEq
def BatS.zero : BatS := ⟨0, 0, false, false, false, 0, 0, 0, 0, 0, 0, []⟩
def Rn (n : Int) : Prop := -9223372036854775808 ≤ n ∧ n < 9223372036854775808
def BatS.R (b : BatS) : Prop := Rn b.base ∧ Rn b.leader ∧ Rn b.last ∧ Rn b.first ∧ Rn b.maxt ∧ Rn b.prod ∧ Rn b.epoch ∧ Rn b.seq
def BatS.placed (b : BatS) : Bool := decide (0 ≤ b.base ∧ (-1 ≤ b.leader ∧ b.leader ≤ 2147483647) ∧ (0 ≤ b.last ∧ b.last ≤ 2147483647) ∧ b.base ≤ 9223372036854775807 - b.last ∧ 0 ≤ b.first ∧ 0 ≤ b.maxt)
def BatS.signed (b : BatS) : Bool :=
  if b.prod = -1 then decide (b.epoch = -1 ∧ b.seq = -1 ∧ b.txn = false)
  else if b.prod < 0 ∨ ¬ (0 ≤ b.epoch ∧ b.epoch ≤ 32767) then false
  else if b.ctl then decide (b.seq = -1)
  else decide (0 ≤ b.seq ∧ b.seq ≤ 2147483647)
/-- The greatest time of records behind a first one, or why their places and times may not be. -/
def rowsC (first last : Int) : List RecS → Int → Int → Except Int Int
  | [], _, g => .ok g
  | r :: t, ah, g => if r.off ≤ ah ∨ last < r.off then .error 13 else if r.time < -first ∨ 9223372036854775807 - first < r.time then .error 11 else rowsC first last t r.off (max g (first + r.time))
def rowsE (app : Bool) (maxt : Int) (r : Except Int Int) : Int := match r with
  | .error e => e
  | .ok g => if app = false ∧ maxt ≠ g then 11 else 0
def BatS.rows (b : BatS) : Int := rowsE b.app b.maxt (rowsC b.first b.last b.recs (-1) b.first)
def recsC : List RecS → Int
  | [] => 0
  | r :: t => if recOk r = 0 then recsC t else recOk r
def ctlOf (r : RecS) : Int × Int × Int := ctlRead r.key.null r.val.null r.key.data r.val.data r.hdrs.length r.off
def BatS.ends (b : BatS) : Int := match b.recs with | [] => 0 | r :: _ => (ctlOf r).2.2
def batErr (b : BatS) : Int :=
  if b.placed = false then 11
  else if b.ctl = true ∧ b.txn = false then 8
  else if b.signed = false then 11
  else if b.ctl = true ∧ b.recs.length ≠ 1 then 10
  else if recsC b.recs ≠ 0 then recsC b.recs
  else if b.ctl = true ∧ b.ends ≠ 0 then b.ends
  else b.rows

end Go.Proofs.Ytombolmicfjjpaa

/- Batches (pure): rows. -/
namespace Go.Proofs.Ytombolmicfjjpaa
open Go.RowKit

def FitB (l : List (RecS × Value)) : Prop := ∀ x ∈ l, x.1.R ∧ HFit x.1.hdrs ∧ x.1.sum ≤ 1000000
theorem sum_hdrs {x : RecS} (h : x.sum ≤ 1000000) : x.hdrs.length ≤ 1000000 := by have := hsum_le x.hdrs; unfold RecS.sum at h; omega
theorem sum_data {x : RecS} (h : x.sum ≤ 1000000) : x.key.data.length ≤ 140737488355328 ∧ x.val.data.length ≤ 140737488355328 := by unfold RecS.sum at h; omega
theorem drop_recs (l : List (RecS × Value)) (k : Nat) (h : k < l.length) (x : RecS) (hx : l[k].1 = x) : (l.map (·.1)).drop k = x :: (l.map (·.1)).drop (k + 1) := by
  subst hx
  rw [List.drop_eq_getElem_cons (by simpa using h), List.getElem_map]
def GOf (r : Except Int Int) : Int := match r with | .ok g => g | .error _ => 0
theorem rowsC_cons (first last : Int) (r : RecS) (t : List RecS) (ah g : Int) : rowsC first last (r :: t) ah g = if r.off ≤ ah ∨ last < r.off then .error 13 else if r.time < -first ∨ 9223372036854775807 - first < r.time then .error 11 else rowsC first last t r.off (max g (first + r.time)) := rfl

end Go.Proofs.Ytombolmicfjjpaa

/- Ends of transactions as batches (pure). -/
namespace Go.Proofs.Ytombolmicfjjpaa
open Go.RowKit

theorem rc_cell_tmp {P : Program} {fn : Func} {p t : Tmp} {ty : TypeId} (h : fn.results = #[.cell p ty, .tmp t]) (tmps : Array Value) (w : World) (b : Nat) (cs : List Value) (d : TypeDesc)
    (hp : tmps.getD p undef = .pointer (some ⟨b, 0, none⟩)) (hc : w.rangeAt b 0 cs) (hu : P.underlying ty = some d) (hd : d.isRow = true) (hi : (P.info? ty).map (·.size) = some cs.length) :
    (results fn tmps).run P w = .ok (.tuple #[.agg cs.toArray, tmps.getD t undef]) w := by
  have hp' : tmps[p]?.getD undef = .pointer (some ⟨b, 0, none⟩) := by simpa using hp
  simp [results, h, hp', asAddr, run_loadVar_mid w b 0 ty cs d hc hu hd hi]
theorem rc_cell_only {P : Program} {fn : Func} {p : Tmp} {ty : TypeId} (h : fn.results = #[.cell p ty]) (tmps : Array Value) (w : World) (b : Nat) (cs : List Value) (d : TypeDesc)
    (hp : tmps.getD p undef = .pointer (some ⟨b, 0, none⟩)) (hc : w.rangeAt b 0 cs) (hu : P.underlying ty = some d) (hd : d.isRow = true) (hi : (P.info? ty).map (·.size) = some cs.length) :
    (results fn tmps).run P w = .ok (.agg cs.toArray) w := by
  have hp' : tmps[p]?.getD undef = .pointer (some ⟨b, 0, none⟩) := by simpa using hp
  simp [results, h, hp', asAddr, run_loadVar_mid w b 0 ty cs d hc hu hd hi]
theorem rc_range {W0 w : World} {K : Know} {L : List Res} {b : Nat} {c : List Value} {T : TypeId} (h : St W0 w K (.raw b c.toArray T :: L)) : w.rangeAt b 0 c := by
  intro j v hv
  rw [Nat.zero_add, h.rawCell j]
  simpa using hv
theorem raw5e {W0 w : World} {K : Know} {L : List Res} {b : Nat} {a0 a1 a2 a3 a4 : Value} {T : TypeId} (h : St W0 w K (.raw b #[a0, a1, a2, a3, a4] T :: L)) :
    (w.cell? ⟨b, 0, none⟩ = some a0 ∧ w.cell? ⟨b, 1, none⟩ = some a1 ∧ w.cell? ⟨b, 2, none⟩ = some a2 ∧ w.cell? ⟨b, 3, none⟩ = some a3 ∧ w.cell? ⟨b, 4, none⟩ = some a4) ∧
    (w.frozen? ⟨b, 0, none⟩ = false ∧ w.frozen? ⟨b, 1, none⟩ = false ∧ w.frozen? ⟨b, 2, none⟩ = false ∧ w.frozen? ⟨b, 3, none⟩ = false ∧ w.frozen? ⟨b, 4, none⟩ = false) :=
  ⟨⟨(h.rawCell 0).trans rfl, (h.rawCell 1).trans rfl, (h.rawCell 2).trans rfl, (h.rawCell 3).trans rfl, (h.rawCell 4).trans rfl⟩, h.rawFree 0, h.rawFree 1, h.rawFree 2, h.rawFree 3, h.rawFree 4⟩
theorem St.sets12 {W0 w : World} {K : Know} {L : List Res} {b : Nat} {T : TypeId} {a0 a1 a2 a3 a4 a5 a6 a7 a8 a9 a10 a11 : Value} (v0 v1 v2 v3 v4 v5 v6 v7 v8 v9 v10 v11 : Value) (h : St W0 w K (.raw b #[a0, a1, a2, a3, a4, a5, a6, a7, a8, a9, a10, a11] T :: L)) : St W0 ((((((((((((w.setCell ⟨b, 0, none⟩ v0).setCell ⟨b, 1, none⟩ v1).setCell ⟨b, 2, none⟩ v2).setCell ⟨b, 3, none⟩ v3).setCell ⟨b, 4, none⟩ v4).setCell ⟨b, 5, none⟩ v5).setCell ⟨b, 6, none⟩ v6).setCell ⟨b, 7, none⟩ v7).setCell ⟨b, 8, none⟩ v8).setCell ⟨b, 9, none⟩ v9).setCell ⟨b, 10, none⟩ v10).setCell ⟨b, 11, none⟩ v11) K (.raw b #[v0, v1, v2, v3, v4, v5, v6, v7, v8, v9, v10, v11] T :: L) := by
  have h : St W0 _ K (.raw b #[v0, a1, a2, a3, a4, a5, a6, a7, a8, a9, a10, a11] T :: L) := h.rawSet 0 v0
  have h : St W0 _ K (.raw b #[v0, v1, a2, a3, a4, a5, a6, a7, a8, a9, a10, a11] T :: L) := h.rawSet 1 v1
  have h : St W0 _ K (.raw b #[v0, v1, v2, a3, a4, a5, a6, a7, a8, a9, a10, a11] T :: L) := h.rawSet 2 v2
  have h : St W0 _ K (.raw b #[v0, v1, v2, v3, a4, a5, a6, a7, a8, a9, a10, a11] T :: L) := h.rawSet 3 v3
  have h : St W0 _ K (.raw b #[v0, v1, v2, v3, v4, a5, a6, a7, a8, a9, a10, a11] T :: L) := h.rawSet 4 v4
  have h : St W0 _ K (.raw b #[v0, v1, v2, v3, v4, v5, a6, a7, a8, a9, a10, a11] T :: L) := h.rawSet 5 v5
  have h : St W0 _ K (.raw b #[v0, v1, v2, v3, v4, v5, v6, a7, a8, a9, a10, a11] T :: L) := h.rawSet 6 v6
  have h : St W0 _ K (.raw b #[v0, v1, v2, v3, v4, v5, v6, v7, a8, a9, a10, a11] T :: L) := h.rawSet 7 v7
  have h : St W0 _ K (.raw b #[v0, v1, v2, v3, v4, v5, v6, v7, v8, a9, a10, a11] T :: L) := h.rawSet 8 v8
  have h : St W0 _ K (.raw b #[v0, v1, v2, v3, v4, v5, v6, v7, v8, v9, a10, a11] T :: L) := h.rawSet 9 v9
  have h : St W0 _ K (.raw b #[v0, v1, v2, v3, v4, v5, v6, v7, v8, v9, v10, a11] T :: L) := h.rawSet 10 v10
  have h : St W0 _ K (.raw b #[v0, v1, v2, v3, v4, v5, v6, v7, v8, v9, v10, v11] T :: L) := h.rawSet 11 v11
  exact h
/-- How a batch ends a transaction: whose, of which epoch, how, when, by whom, and that it does. -/
def endOf (b : BatS) : Int × Int × Int × Int × Int × Bool :=
  if b.ctl = true ∧ batErr b = 0 then match b.recs with
    | x :: _ => (b.prod, b.epoch, (ctlOf x).1, b.first + x.time, (ctlOf x).2.1, true)
    | [] => (0, 0, 0, 0, 0, false)
  else (0, 0, 0, 0, 0, false)
theorem rowsC_time {first last : Int} {x : RecS} {t : List RecS} {ah g g2 : Int} (h : rowsC first last (x :: t) ah g = .ok g2) : -first ≤ x.time ∧ x.time ≤ 9223372036854775807 - first := by
  rw [rowsC_cons] at h
  by_cases c1 : x.off ≤ ah ∨ last < x.off
  · rw [if_pos c1] at h; cases h
  rw [if_neg c1] at h
  by_cases c2 : x.time < -first ∨ 9223372036854775807 - first < x.time
  · rw [if_pos c2] at h; cases h
  omega
theorem batErr_ctl (b : BatS) (h : batErr b = 0) (hc : b.ctl = true) : ∃ x, b.recs = [x] ∧ (ctlOf x).2.2 = 0 ∧ (-b.first ≤ x.time ∧ x.time ≤ 9223372036854775807 - b.first) ∧ 0 ≤ b.first := by
  unfold batErr at h
  by_cases p1 : b.placed = false
  · rw [if_pos p1] at h; cases h
  rw [if_neg p1] at h
  by_cases p2 : b.ctl = true ∧ b.txn = false
  · rw [if_pos p2] at h; cases h
  rw [if_neg p2] at h
  by_cases p3 : b.signed = false
  · rw [if_pos p3] at h; cases h
  rw [if_neg p3] at h
  by_cases p4 : b.ctl = true ∧ b.recs.length ≠ 1
  · rw [if_pos p4] at h; cases h
  rw [if_neg p4] at h
  by_cases p5 : recsC b.recs ≠ 0
  · rw [if_pos p5] at h; exact absurd h p5
  rw [if_neg p5] at h
  by_cases p6 : b.ctl = true ∧ b.ends ≠ 0
  · rw [if_pos p6] at h; exact absurd h p6.2
  rw [if_neg p6] at h
  have hl : b.recs.length = 1 := by
    by_cases hh : b.recs.length = 1
    · exact hh
    · exact absurd ⟨hc, hh⟩ p4
  obtain ⟨x, hx⟩ := List.length_eq_one_iff.1 hl
  have hp : b.placed = true := by cases hh : b.placed with
    | false => exact absurd hh p1
    | true => rfl
  have hp2 := (of_decide_eq_true hp).2.2.2.2.1
  have he : b.ends = 0 := by
    by_cases hh : b.ends = 0
    · exact hh
    · exact absurd ⟨hc, hh⟩ p6
  unfold BatS.ends at he
  rw [hx] at he
  refine ⟨x, hx, he, ?_, hp2⟩
  unfold BatS.rows at h
  rw [hx] at h
  cases hr : rowsC b.first b.last [x] (-1) b.first with
  | error e =>
    rw [hr] at h
    have h : e = 0 := h
    subst h
    rw [rowsC_cons] at hr
    by_cases c1 : x.off ≤ -1 ∨ b.last < x.off
    · rw [if_pos c1] at hr; cases hr
    rw [if_neg c1] at hr
    by_cases c2 : x.time < -b.first ∨ 9223372036854775807 - b.first < x.time
    · rw [if_pos c2] at hr; cases hr
    rw [if_neg c2] at hr
    cases hr
  | ok g => exact rowsC_time hr

end Go.Proofs.Ytombolmicfjjpaa

/- The fields of a value, read. -/
namespace Go.Proofs.Ytombolmicfjjpaa
open Go.RowKit

set_option maxHeartbeats 2000000 in
set_option maxRecDepth 100000 in
theorem val_fields (b : Nat) (i i1 i2 i3 i4 i5 i6 i7 : InS) (p e t s u st : Int) (l : List TopS) (h1 : i.int 8 = (p, i1)) (h2 : i1.int 2 = (e, i2)) (h3 : i2.int 4 = (t, i3)) (h4 : i3.int 1 = (s, i4)) (h5 : i4.tops = (l, i5)) (h6 : i5.int 8 = (u, i6)) (h7 : i6.int 8 = (st, i7)) {W0 w : World} {K : Know} {L : List Res} (h : St W0 w K (.inp b i :: L)) :
    Calls Try.prog 74 #[inPtr b] w fun en w' => ∃ (qt : Option Addr) (capt : Nat) (lr : List (TopS × Value)), en = .returned (.agg #[.int .i64 p, .int .i64 e, .int .i64 t, .int .i64 s, .slice qt lr.length capt, .int .i64 u, .int .i64 st]) ∧ lr.map (·.1) = l ∧ St W0 w' (K.and (Know.tops (.slice qt lr.length capt) lr)) (.inp b i7 :: L) := by
  obtain ⟨rb, hrb⟩ : ∃ b, w.heap.size = b := ⟨_, rfl⟩
  obtain ⟨vb, hvb⟩ : ∃ b, rb + 1 = b := ⟨_, rfl⟩
  have g1 := (h.allocRaw #[.int .i64 0, .int .i64 0, .int .i64 0, .int .i64 0, .slice none 0 0, .int .i64 0, .int .i64 0] 24).allocRaw #[.int .i64 0, .int .i64 0, .int .i64 0, .int .i64 0, .slice none 0 0, .int .i64 0, .int .i64 0] 24
  simp only [World.size_alloc, hrb, hvb] at g1
  obtain ⟨i0, hi0⟩ : ∃ i0, i = i0 := ⟨_, rfl⟩
  subst hi0
  have H := Lib.hid g1.p2
  have H1 := Lib.hid h1
  have H2 := Lib.hid h2
  have H3 := Lib.hid h3
  have H4 := Lib.hid h4
  have H5 := Lib.hid h5
  have H6 := Lib.hid h6
  have H7 := Lib.hid h7
  clear h g1 h1 h2 h3 h4 h5 h6 h7
  go_enter Try.func74, Try.ntmps74
  go_wp2_with (first
    | (go_at_call 72; (with_reducible refine (s_intV b i i1 p 8 H1.out H.out).mono ?_); rintro e_ wn ⟨rfl, h⟩; have f0 := h.p1.rawFree 0; have g0 := h.p1.rawCell 0; simp at g0; have h := (show St W0 (wn.setCell ⟨vb, 0, none⟩ (.int .i64 p)) K (.inp b i1 :: .raw vb #[.int .i64 p, .int .i64 0, .int .i64 0, .int .i64 0, .slice none 0 0, .int .i64 0, .int .i64 0] 24 :: .raw rb #[.int .i64 0, .int .i64 0, .int .i64 0, .int .i64 0, .slice none 0 0, .int .i64 0, .int .i64 0] 24 :: L) from (h.p1.rawSet 0 (.int .i64 p)).p1); replace H := Lib.hid h; clear h)
    | (go_at_call 72; (with_reducible refine (s_intV b i1 i2 e 2 H2.out H.out).mono ?_); rintro e_ wn ⟨rfl, h⟩; have f1 := h.p1.rawFree 1; have g1 := h.p1.rawCell 1; simp at g1; have h := (show St W0 (wn.setCell ⟨vb, 1, none⟩ (.int .i64 e)) K (.inp b i2 :: .raw vb #[.int .i64 p, .int .i64 e, .int .i64 0, .int .i64 0, .slice none 0 0, .int .i64 0, .int .i64 0] 24 :: .raw rb #[.int .i64 0, .int .i64 0, .int .i64 0, .int .i64 0, .slice none 0 0, .int .i64 0, .int .i64 0] 24 :: L) from (h.p1.rawSet 1 (.int .i64 e)).p1); replace H := Lib.hid h; clear h)
    | (go_at_call 72; (with_reducible refine (s_intV b i2 i3 t 4 H3.out H.out).mono ?_); rintro e_ wn ⟨rfl, h⟩; have f2 := h.p1.rawFree 2; have g2 := h.p1.rawCell 2; simp at g2; have h := (show St W0 (wn.setCell ⟨vb, 2, none⟩ (.int .i64 t)) K (.inp b i3 :: .raw vb #[.int .i64 p, .int .i64 e, .int .i64 t, .int .i64 0, .slice none 0 0, .int .i64 0, .int .i64 0] 24 :: .raw rb #[.int .i64 0, .int .i64 0, .int .i64 0, .int .i64 0, .slice none 0 0, .int .i64 0, .int .i64 0] 24 :: L) from (h.p1.rawSet 2 (.int .i64 t)).p1); replace H := Lib.hid h; clear h)
    | (go_at_call 72; (with_reducible refine (s_intV b i3 i4 s 1 H4.out H.out).mono ?_); rintro e_ wn ⟨rfl, h⟩; have f3 := h.p1.rawFree 3; have g3 := h.p1.rawCell 3; simp at g3; have h := (show St W0 (wn.setCell ⟨vb, 3, none⟩ (.int .i64 s)) K (.inp b i4 :: .raw vb #[.int .i64 p, .int .i64 e, .int .i64 t, .int .i64 s, .slice none 0 0, .int .i64 0, .int .i64 0] 24 :: .raw rb #[.int .i64 0, .int .i64 0, .int .i64 0, .int .i64 0, .slice none 0 0, .int .i64 0, .int .i64 0] 24 :: L) from (h.p1.rawSet 3 (.int .i64 s)).p1); replace H := Lib.hid h; clear h)
    | (go_at_call 25; (with_reducible refine (val_topics b i4 i5 l H5.out H.out).mono ?_); rintro e_ wn ⟨tv, lr, rfl, hlr, h⟩; obtain ⟨qt, capt, htv⟩ := tops_form (Know.has_right (Know.has_refl _)) h; subst htv; have HLR := Lib.hid hlr; clear hlr; have f4 := h.p1.rawFree 4; have g4 := h.p1.rawCell 4; simp at g4; have h := (show St W0 (wn.setCell ⟨vb, 4, none⟩ (.slice qt lr.length capt)) (K.and (Know.tops (.slice qt lr.length capt) lr)) (.inp b i5 :: .raw vb #[.int .i64 p, .int .i64 e, .int .i64 t, .int .i64 s, .slice qt lr.length capt, .int .i64 0, .int .i64 0] 24 :: .raw rb #[.int .i64 0, .int .i64 0, .int .i64 0, .int .i64 0, .slice none 0 0, .int .i64 0, .int .i64 0] 24 :: L) from (h.p1.rawSet 4 (.slice qt lr.length capt)).p1); replace H := Lib.hid h; clear h)
    | (go_at_call 72; (with_reducible refine (s_intV b i5 i6 u 8 H6.out H.out).mono ?_); rintro e_ wn ⟨rfl, h⟩; have f5 := h.p1.rawFree 5; have g5 := h.p1.rawCell 5; simp at g5; have h := (show St W0 (wn.setCell ⟨vb, 5, none⟩ (.int .i64 u)) (K.and (Know.tops (.slice qt lr.length capt) lr)) (.inp b i6 :: .raw vb #[.int .i64 p, .int .i64 e, .int .i64 t, .int .i64 s, .slice qt lr.length capt, .int .i64 u, .int .i64 0] 24 :: .raw rb #[.int .i64 0, .int .i64 0, .int .i64 0, .int .i64 0, .slice none 0 0, .int .i64 0, .int .i64 0] 24 :: L) from (h.p1.rawSet 5 (.int .i64 u)).p1); replace H := Lib.hid h; clear h)
    | (go_at_call 72; (with_reducible refine (s_intV b i6 i7 st 8 H7.out H.out).mono ?_); rintro e_ wn ⟨rfl, h⟩; have f6 := h.p1.rawFree 6; have g6 := h.p1.rawCell 6; simp at g6; have h := (show St W0 (wn.setCell ⟨vb, 6, none⟩ (.int .i64 st)) (K.and (Know.tops (.slice qt lr.length capt) lr)) (.inp b i7 :: .raw vb #[.int .i64 p, .int .i64 e, .int .i64 t, .int .i64 s, .slice qt lr.length capt, .int .i64 u, .int .i64 st] 24 :: .raw rb #[.int .i64 0, .int .i64 0, .int .i64 0, .int .i64 0, .slice none 0 0, .int .i64 0, .int .i64 0] 24 :: L) from (h.p1.rawSet 6 (.int .i64 st)).p1); have c0 := h.p1.rawCell 0; have c1 := h.p1.rawCell 1; have c2 := h.p1.rawCell 2; have c3 := h.p1.rawCell 3; have c4 := h.p1.rawCell 4; have c5 := h.p1.rawCell 5; have c6 := h.p1.rawCell 6; have d0 := h.p2.rawCell 0; have r0 := h.p2.rawFree 0; have d1 := h.p2.rawCell 1; have r1 := h.p2.rawFree 1; have d2 := h.p2.rawCell 2; have r2 := h.p2.rawFree 2; have d3 := h.p2.rawCell 3; have r3 := h.p2.rawFree 3; have d4 := h.p2.rawCell 4; have r4 := h.p2.rawFree 4; have d5 := h.p2.rawCell 5; have r5 := h.p2.rawFree 5; have d6 := h.p2.rawCell 6; have r6 := h.p2.rawFree 6; simp at c0 c1 c2 c3 c4 c5 c6 d0 d1 d2 d3 d4 d5 d6; replace H := Lib.hid h; clear h))
  have hz : St W0 _ _ (.raw rb #[.int .i64 p, .int .i64 e, .int .i64 t, .int .i64 s, .slice qt lr.length capt, .int .i64 u, .int .i64 st] 24 :: .inp b i7 :: .raw vb #[.int .i64 p, .int .i64 e, .int .i64 t, .int .i64 s, .slice qt lr.length capt, .int .i64 u, .int .i64 st] 24 :: L) := (((((((H.out.p2).rawSet 0 _).rawSet 1 _).rawSet 2 _).rawSet 3 _).rawSet 4 _).rawSet 5 _).rawSet 6 _
  refine bodyPost_ret (rc_cell_only rfl _ _ rb [.int .i64 p, .int .i64 e, .int .i64 t, .int .i64 s, .slice qt lr.length capt, .int .i64 u, .int .i64 st] _ rfl (rc_range hz) Try.underlying24 rfl (by kernel_rfl)) rfl ?_
  exact ⟨qt, capt, lr, rfl, HLR.out, hz.drop.p1.drop⟩

end Go.Proofs.Ytombolmicfjjpaa
