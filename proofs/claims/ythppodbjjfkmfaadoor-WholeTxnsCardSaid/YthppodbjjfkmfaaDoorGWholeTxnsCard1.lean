/- Heads of requests: the reference: which may be. -/
import Derived.Test.YthppodbjjfkmfaaDoorFldP
import Derived.Test.YthppodbjjfkmfaaDoorHdr1
import Derived.Test.YthppodbjjfkmfaaDoorSel
import Derived.Test.YthppodbjjfkmfaaDoorBlob1
import Derived.Test.YthppodbjjfkmfaaDoorBlob2
import Derived.Test.YthppodbjjfkmfaaDoorRecs
import Derived.Test.YthppodbjjfkmfaaDoorGrow
import Derived.RegionTactic
import Derived.Test.YthppodbjjfkmfaaDoorBlobP
import Derived.Test.YthppodbjjfkmfaaDoorOut
import Derived.Deep.RegionHeld3
import Derived.Deep.DeepCutAuto
import Derived.Test.YthppodbjjfkmfaaDoorRef04
import Derived.Test.YthppodbjjfkmfaaDoorKeyP
import Derived.Test.YthppodbjjfkmfaaDoorReqP
import Derived.Test.YthppodbjjfkmfaaDoorVer2
import Derived.Test.YthppodbjjfkmfaaDoorS1
/- Fields, one behind the other, read: what it stands on. -/
namespace Go.Proofs.YthppodbjjfkmfaaDoor
open Go.RowKit

def RI (cs : List Value) (x : Int) : Prop := cs = [.int .i64 x]
def RB (cs : List Value) (x : BlobS) : Prop := cs = [.bool x.null, .string (bb x.data)]
theorem flat_at {α : Type} {R : List Value → α → Prop} {sz n cap : Nat} {q : Option Addr} {l : List α} {W0 w : World} {K : Know} {L : List Res} (hk : K.has (Know.flat R (.slice q n cap) sz l)) (h : St W0 w K L) (h0 : 0 < l.length) : ∃ b off, q = some ⟨b, off, none⟩ := by
  obtain ⟨F, hF, _⟩ := h.get
  obtain ⟨q2, cap2, hv, hr⟩ := (hk _ _ hF).at
  obtain ⟨b, off, hq, _⟩ := hr h0
  simp at hv
  exact ⟨b, off, hv.1.trans hq⟩
theorem flat_cell {α : Type} {R : List Value → α → Prop} {sz n cap b off : Nat} {l : List α} {W0 w : World} {K : Know} {L : List Res} (hk : K.has (Know.flat R (.slice (some ⟨b, off, none⟩) n cap) sz l)) (h : St W0 w K L) (i : Nat) (hi : i < l.length) : ∃ cs, R cs l[i] ∧ ∀ f u, cs[f]? = some u → w.cell? ⟨b, off + (i * sz + f), none⟩ = some u := by
  obtain ⟨F, hF, _⟩ := h.get
  obtain ⟨q2, cap2, hv, hr⟩ := (hk _ _ hF).at
  obtain ⟨b2, off2, hq, hc⟩ := hr (by omega)
  rw [hq] at hv
  simp at hv
  obtain ⟨⟨rfl, rfl⟩, _, _⟩ := hv
  obtain ⟨cs, _, h1, h2⟩ := hc i hi
  exact ⟨cs, h1, h2⟩
theorem blob_fixed2Q (p : Nat) (i : InS) (n : Bool) (d : Bs) (j : InS) (hx : i.fixed 2 = (⟨n, d⟩, j)) {W0 w : World} {K : Know} {L : List Res} (h : St W0 w K (.inp p i :: L)) :
    Calls Tryd.prog 34 #[inPtr p, .int .i64 2] w fun en w' => en = .returned (.agg #[.bool n, .string (bb d)]) ∧ St W0 w' K (.inp p j :: L) := by
  have := blob_fixed p i 2 h; rw [hx] at this; exact this
end Go.Proofs.YthppodbjjfkmfaaDoor

/- Topics (pure). -/
namespace Go.Proofs.YthppodbjjfkmfaaDoor
open Go.RowKit

/-- A topic. -/
structure TopS where
  name : Bs
  parts : List Int
deriving DecidableEq
def RTop (cs : List Value) (x : TopS × Value) : Prop := cs = [.string (bb x.1.name), x.2]
def tcells (x : TopS × Value) : List Value := [.string (bb x.1.name), x.2]
def RSt (cs : List Value) (x : Bs) : Prop := cs = [.string (bb x)]
/-- Rows of topics, and their partitions. -/
def Know.tops (v : Value) (l : List (TopS × Value)) : Know := (Know.flat RTop v 2 l).and (Know.all l fun x => Know.flat RI x.2 1 x.1.parts)
theorem tops_flat {K : Know} {v : Value} {l : List (TopS × Value)} (h : K.has (Know.tops v l)) : K.has (Know.flat RTop v 2 l) := fun w F x => (h w F x).1
theorem tops_parts {K : Know} {v : Value} {l : List (TopS × Value)} (h : K.has (Know.tops v l)) {x : TopS × Value} (hx : x ∈ l) : K.has (Know.flat RI x.2 1 x.1.parts) := fun w F y => (h w F y).2 x hx
theorem tops_form {W0 w : World} {K : Know} {L : List Res} {v : Value} {l : List (TopS × Value)} (hk : K.has (Know.tops v l)) (h : St W0 w K L) : ∃ q cap, v = .slice q l.length cap := by
  obtain ⟨F, hF, _⟩ := h.get
  obtain ⟨q, cap, hv, _⟩ := (tops_flat hk _ _ hF).at
  exact ⟨q, cap, hv⟩
theorem tops_at {W0 w : World} {K : Know} {L : List Res} {q : Option Addr} {n cap : Nat} {l : List (TopS × Value)} (hk : K.has (Know.tops (.slice q n cap) l)) (h : St W0 w K L) (h0 : 0 < l.length) : ∃ b off, q = some ⟨b, off, none⟩ := by
  obtain ⟨F, hF, _⟩ := h.get
  obtain ⟨q2, cap2, hv, hr⟩ := (tops_flat hk _ _ hF).at
  obtain ⟨b, off, hq, _⟩ := hr h0
  simp at hv
  exact ⟨b, off, hv.1.trans hq⟩
theorem tops_cell {W0 w : World} {K : Know} {L : List Res} {b off n cap : Nat} {l : List (TopS × Value)} (hk : K.has (Know.tops (.slice (some ⟨b, off, none⟩) n cap) l)) (h : St W0 w K L) (i : Nat) (hi : i < l.length) (x : TopS × Value) (hx : l[i] = x) :
    w.cell? ⟨b, off + i * 2, none⟩ = some (.string (bb x.1.name)) ∧ w.cell? ⟨b, off + i * 2 + 1, none⟩ = some x.2 := by
  subst hx
  obtain ⟨F, hF, _⟩ := h.get
  obtain ⟨q2, cap2, hv, hr⟩ := (tops_flat hk _ _ hF).at
  obtain ⟨b2, off2, hq, hc⟩ := hr (by omega)
  rw [hq] at hv
  simp at hv
  obtain ⟨⟨rfl, rfl⟩, _, _⟩ := hv
  obtain ⟨cs, _, hR, hcs⟩ := hc i hi
  unfold RTop at hR
  subst hR
  exact ⟨hcs 0 _ rfl, by rw [Nat.add_assoc]; exact hcs 1 _ rfl⟩
/-- The cell of a row of numbers. -/
theorem int_cell {W0 w : World} {K : Know} {L : List Res} {b off n cap : Nat} {l : List Int} (hk : K.has (Know.flat RI (.slice (some ⟨b, off, none⟩) n cap) 1 l)) (h : St W0 w K L) (i : Nat) (hi : i < l.length) : w.cell? ⟨b, off + i, none⟩ = some (.int .i64 (l.getD i 0)) := by
  obtain ⟨cs, hR, hc⟩ := flat_cell hk h i hi
  unfold RI at hR
  subst hR
  have c0 := hc 0 _ rfl
  rw [Nat.mul_one, Nat.add_zero] at c0
  rw [c0, List.getD_eq_getElem?_getD, List.getElem?_eq_getElem hi]
  rfl
theorem str_cell {W0 w : World} {K : Know} {L : List Res} {b off n cap : Nat} {l : List Bs} (hk : K.has (Know.flat RSt (.slice (some ⟨b, off, none⟩) n cap) 1 l)) (h : St W0 w K L) (i : Nat) (hi : i < l.length) : w.cell? ⟨b, off + i, none⟩ = some (.string (bb (l.getD i []))) := by
  obtain ⟨cs, hR, hc⟩ := flat_cell hk h i hi
  unfold RSt at hR
  subst hR
  have c0 := hc 0 _ rfl
  rw [Nat.mul_one, Nat.add_zero] at c0
  rw [c0, List.getD_eq_getElem?_getD, List.getElem?_eq_getElem hi]
  rfl
/-- Of all numbers below one. -/
def allN (n : Nat) (p : Nat → Bool) : Bool := (List.range n).all p
theorem allN_true {n : Nat} {p : Nat → Bool} (h : ∀ k, k < n → p k = true) : allN n p = true := by
  unfold allN; rw [List.all_eq_true]; intro x hx; exact h x (List.mem_range.1 hx)
theorem allN_at {n : Nat} {p : Nat → Bool} (h : allN n p = true) (k : Nat) (hk : k < n) : p k = true := List.all_eq_true.1 h k (List.mem_range.2 hk)
theorem allN_false {n : Nat} {p : Nat → Bool} (k : Nat) (hk : k < n) (h : p k = false) : allN n p = false := by
  cases hh : allN n p with
  | false => rfl
  | true => have := allN_at hh k hk; rw [h] at this; cases this
theorem allN_ext {n : Nat} {p q : Nat → Bool} (h : ∀ k, k < n → p k = q k) : allN n p = allN n q := by
  cases hh : allN n q with
  | true => exact allN_true fun k hk => (h k hk).trans (allN_at hh k hk)
  | false =>
    cases h2 : allN n p with
    | false => rfl
    | true => rw [allN_true fun k hk => (h k hk).symm.trans (allN_at h2 k hk)] at hh; cases hh
def upI (l : List Int) (k : Nat) : Bool := k == 0 || decide (l.getD (k - 1) 0 < l.getD k 0)
def upS (l : List Bs) (k : Nat) : Bool := k == 0 || Op.bytesLess (l.getD (k - 1) []) (l.getD k [])
def riseI (l : List Int) : Bool := allN l.length (upI l)
def riseS (l : List Bs) : Bool := allN l.length (upS l)
theorem lex_leq : ∀ x y : Bs, (Op.bytesLess x y || x == y) = !Op.bytesLess y x
  | [], [] => rfl
  | [], _ :: _ => rfl
  | _ :: _, [] => rfl
  | a :: x, b :: y => by
    have ih := lex_leq x y
    show ((decide (a < b) || (a == b && Op.bytesLess x y)) || (a == b && x == y)) = !(decide (b < a) || (b == a && Op.bytesLess y x))
    by_cases h1 : a = b
    · subst h1
      have h2 : ¬ a < a := by rw [UInt8.lt_iff_toNat_lt]; omega
      simp only [h2, decide_false, Bool.false_or, beq_self_eq_true, Bool.true_and]
      exact ih
    · have e1 : (a == b) = false := by simpa using h1
      have e2 : (b == a) = false := by simpa using fun h => h1 h.symm
      rw [e1, e2]
      simp only [Bool.false_and, Bool.or_false]
      have h3 : a.toNat ≠ b.toNat := fun h => h1 (UInt8.toNat_inj.1 h)
      by_cases h4 : a < b
      · have h5 : ¬ b < a := by rw [UInt8.lt_iff_toNat_lt] at h4 ⊢; omega
        simp [h4, h5]
      · have h5 : b < a := by rw [UInt8.lt_iff_toNat_lt] at h4 ⊢; omega
        simp [h4, h5]
theorem str_leq (T : TypeId) (x y : Bs) (c : Bool) (h : (!Op.bytesLess y x) = c) (w : World) : (binOp .leq T (.string (bb x)) (.string (bb y))).run Tryd.prog w = .ok (.bool c) w := by
  rw [← h, ← lex_leq x y]
  show (Op.stringOp .leq (bb x) (bb y)).run Tryd.prog w = _
  simp [Op.stringOp, bb, ByteArray.toList_eq]

end Go.Proofs.YthppodbjjfkmfaaDoor

/- Rows that rise. -/
namespace Go.Proofs.YthppodbjjfkmfaaDoor
open Go.RowKit

theorem upI_zero (l : List Int) (j : Nat) (hj : j < 1) : upI l j = true := by
  obtain rfl : j = 0 := by omega
  rfl
theorem upS_zero (l : List Bs) (j : Nat) (hj : j < 1) : upS l j = true := by
  obtain rfl : j = 0 := by omega
  rfl

end Go.Proofs.YthppodbjjfkmfaaDoor

/- Topics that rise; values (pure). -/
namespace Go.Proofs.YthppodbjjfkmfaaDoor
open Go.RowKit

def pRise (l : List Int) : Bool := !l.isEmpty && allN l.length (fun k => decide (0 ≤ l.getD k 0 ∧ l.getD k 0 ≤ 2147483647) && upI l k)
def tOk (t : TopS) : Bool := !t.name.isEmpty && decide (t.name.length ≤ 32767) && pRise t.parts
def tRise (l : List TopS) : Bool := l.all tOk && riseS (l.map (·.name))
theorem riseI_mono (l : List Int) (h : riseI l = true) (i : Nat) : ∀ j, i ≤ j → j < l.length → l.getD i 0 ≤ l.getD j 0
  | 0, h1, _ => by
    obtain rfl : i = 0 := by omega
    exact Int.le_refl _
  | j + 1, h1, h2 => by
    by_cases hij : i = j + 1
    · subst hij; exact Int.le_refl _
    · have ih := riseI_mono l h i j (by omega) (by omega)
      have hu := allN_at h (j + 1) h2
      unfold upI at hu
      have e : (j + 1 == 0) = false := by rw [beq_eq_false_iff_ne]; omega
      rw [e, Bool.false_or, Nat.add_sub_cancel] at hu
      have := of_decide_eq_true hu
      omega
theorem pRise_nil : pRise [] = false := rfl
theorem pRise_eq (l : List Int) (h : l ≠ []) : pRise l = (decide (0 ≤ l.getD 0 0) && (decide (l.getD (l.length - 1) 0 ≤ 2147483647) && riseI l)) := by
  have h0 : 0 < l.length := List.length_pos_iff.2 h
  have he : l.isEmpty = false := by cases l with
    | nil => exact absurd rfl h
    | cons _ _ => rfl
  unfold pRise
  rw [he, Bool.not_false, Bool.true_and]
  cases hr : riseI l with
  | false =>
    rw [Bool.and_false, Bool.and_false]
    cases ha : allN l.length (fun k => decide (0 ≤ l.getD k 0 ∧ l.getD k 0 ≤ 2147483647) && upI l k) with
    | false => rfl
    | true =>
      have : riseI l = true := allN_true fun k hk => by
        have := allN_at ha k hk
        rw [Bool.and_eq_true] at this
        exact this.2
      rw [hr] at this; cases this
  | true =>
    rw [Bool.and_true]
    by_cases h1 : 0 ≤ l.getD 0 0
    · by_cases h2 : l.getD (l.length - 1) 0 ≤ 2147483647
      · rw [decide_eq_true h1, decide_eq_true h2]
        refine allN_true fun k hk => ?_
        rw [Bool.and_eq_true]
        have m1 := riseI_mono l hr 0 k (Nat.zero_le _) hk
        have m2 := riseI_mono l hr k (l.length - 1) (by omega) (by omega)
        exact ⟨decide_eq_true ⟨by omega, by omega⟩, allN_at hr k hk⟩
      · rw [decide_eq_false h2, Bool.and_false]
        refine allN_false (l.length - 1) (by omega) ?_
        rw [decide_eq_false (fun h => h2 h.2), Bool.false_and]
    · rw [decide_eq_false h1, Bool.false_and]
      refine allN_false 0 h0 ?_
      rw [decide_eq_false (fun h => h1 h.1), Bool.false_and]
/-- A value. -/
structure ValS where
  prod : Int
  epoch : Int
  timeout : Int
  state : Int
  tops : List TopS
  upd : Int
  started : Int
deriving DecidableEq
def ValS.ranged (v : ValS) : Bool := decide (0 ≤ v.prod) && (decide (0 ≤ v.epoch) && (decide (v.epoch ≤ 32767) && (decide (0 ≤ v.timeout) && (decide (v.timeout ≤ 2147483647) && (decide (0 ≤ v.upd) && decide (-1 ≤ v.started))))))
def idle (s : Int) : Bool := !(s == 1) && (!(s == 2) && !(s == 3))
def ValS.err (v : ValS) : Int :=
  if v.ranged = false then 11
  else if v.state < 0 ∨ 7 ≤ v.state then 12
  else if (idle v.state != v.tops.isEmpty) = true ∨ ((v.state == 0) != (v.started == -1)) = true then 10
  else if tRise v.tops = false then 13 else 0
theorem elem_str : ElemT Tryd.prog 9 (.string ⟨#[]⟩) 1 16 := elemT_of (by kernel_rfl) rfl (by decide)
/-- No topic is longer than can be. -/
def FewT (l : List (TopS × Value)) : Prop := l.length ≤ 1000000 ∧ ∀ x ∈ l, x.1.name.length ≤ 140737488355328 ∧ x.1.parts.length ≤ 1000000

end Go.Proofs.YthppodbjjfkmfaaDoor

/- Partitions that rise. -/
namespace Go.Proofs.YthppodbjjfkmfaaDoor
open Go.RowKit

end Go.Proofs.YthppodbjjfkmfaaDoor

/- Topics that rise. -/
namespace Go.Proofs.YthppodbjjfkmfaaDoor
open Go.RowKit

theorem tRise_bad (l : List TopS) (k : Nat) (hk : k < l.length) (h : tOk l[k] = false) : tRise l = false := by
  unfold tRise
  cases ha : l.all tOk with
  | false => rfl
  | true => have := List.all_eq_true.1 ha _ (List.getElem_mem hk); rw [h] at this; cases this
theorem tRise_ok (l : List TopS) (h : l.all tOk = true) : tRise l = riseS (l.map (·.name)) := by unfold tRise; rw [h, Bool.true_and]
end Go.Proofs.YthppodbjjfkmfaaDoor

/- Texts in order (pure). -/
namespace Go.Proofs.YthppodbjjfkmfaaDoor
open Go.RowKit

theorem less_step : ∀ (i : Nat) (a b : Bs) (hi : i < a.length) (hj : i < b.length), a.take i = b.take i → a[i] ≠ b[i] → Op.bytesLess a b = decide (a[i] < b[i])
  | 0, x :: a, y :: b, _, _, _, hne => by
    show (decide (x < y) || (x == y && Op.bytesLess a b)) = decide (x < y)
    have e : (x == y) = false := by simpa using hne
    rw [e, Bool.false_and, Bool.or_false]
  | i + 1, x :: a, y :: b, hi, hj, ht, hne => by
    rw [List.take_succ_cons, List.take_succ_cons] at ht
    injection ht with h1 h2
    subst h1
    have ih := less_step i a b (by simpa using hi) (by simpa using hj) h2 hne
    show (decide (x < x) || (x == x && Op.bytesLess a b)) = _
    have h3 : ¬ x < x := by rw [UInt8.lt_iff_toNat_lt]; omega
    rw [decide_eq_false h3, beq_self_eq_true, Bool.true_and, Bool.false_or, ih]
    rfl
theorem less_end : ∀ (i : Nat) (a b : Bs), i ≤ a.length → i ≤ b.length → a.take i = b.take i → (i = a.length ∨ i = b.length) → Op.bytesLess a b = decide (a.length < b.length)
  | 0, [], [], _, _, _, _ => rfl
  | 0, [], y :: b, _, _, _, _ => by show true = _; simp
  | 0, x :: a, [], _, _, _, _ => by show false = _; simp
  | 0, x :: a, y :: b, _, _, _, h => by rcases h with h | h <;> simp at h
  | i + 1, [], _, h, _, _, _ => by simp at h
  | i + 1, x :: a, [], _, h, _, _ => by simp at h
  | i + 1, x :: a, y :: b, hi, hj, ht, h => by
    rw [List.take_succ_cons, List.take_succ_cons] at ht
    injection ht with h1 h2
    subst h1
    have ih := less_end i a b (by simpa using hi) (by simpa using hj) h2 (by simpa using h)
    show (decide (x < x) || (x == x && Op.bytesLess a b)) = _
    have h3 : ¬ x < x := by rw [UInt8.lt_iff_toNat_lt]; omega
    rw [decide_eq_false h3, beq_self_eq_true, Bool.true_and, Bool.false_or, ih]
    simp
theorem take_step (i : Nat) (a b : Bs) (hi : i < a.length) (hj : i < b.length) (h : a.take i = b.take i) (he : a[i] = b[i]) : a.take (i + 1) = b.take (i + 1) := by
  rw [List.take_succ_eq_append_getElem hi, List.take_succ_eq_append_getElem hj, h, he]

end Go.Proofs.YthppodbjjfkmfaaDoor

/- Texts in order. -/
namespace Go.Proofs.YthppodbjjfkmfaaDoor
open Go.RowKit

end Go.Proofs.YthppodbjjfkmfaaDoor

/- Topics that rise, one by one (pure). -/
namespace Go.Proofs.YthppodbjjfkmfaaDoor
open Go.RowKit

def tRef (l : List TopS) (i : Nat) : Bool := tOk (l.getD i ⟨[], []⟩) && upS (l.map (·.name)) i
theorem tRise_allN (l : List TopS) : tRise l = allN l.length (tRef l) := by
  have hg : ∀ i (h : i < l.length), l.getD i ⟨[], []⟩ = l[i] := fun i h => by rw [List.getD_eq_getElem?_getD, List.getElem?_eq_getElem h]; rfl
  unfold tRise
  cases ha : l.all tOk with
  | false =>
    rw [Bool.false_and]
    obtain ⟨x, hx, hx2⟩ := List.all_eq_false.1 ha
    obtain ⟨i, hi, rfl⟩ := List.mem_iff_getElem.1 hx
    refine (allN_false i hi ?_).symm
    unfold tRef
    rw [hg i hi]
    have : tOk l[i] = false := by simpa using hx2
    rw [this, Bool.false_and]
  | true =>
    rw [Bool.true_and]
    unfold riseS
    rw [List.length_map]
    refine allN_ext fun k hk => ?_
    unfold tRef
    rw [hg k hk, List.all_eq_true.1 ha _ (List.getElem_mem hk), Bool.true_and]
def pk (l : List Int) (k : Nat) : Bool := decide (0 ≤ l.getD k 0 ∧ l.getD k 0 ≤ 2147483647) && upI l k
theorem pRise_pk (l : List Int) (h : l ≠ []) : pRise l = allN l.length (pk l) := by
  unfold pRise
  cases l with
  | nil => exact absurd rfl h
  | cons _ _ => rfl

end Go.Proofs.YthppodbjjfkmfaaDoor

/- Values as bytes (pure). -/
namespace Go.Proofs.YthppodbjjfkmfaaDoor
open Go.RowKit

def be4s (l : List Int) : Bs := l.flatMap fun n => beBytes n 4
def encT (t : TopS) : Bs := encF 2 ⟨false, t.name⟩ ++ (beBytes t.parts.length 4 ++ be4s t.parts)
def preT (l : List TopS) (k : Nat) : Bs := beBytes l.length 4 ++ (l.take k).flatMap encT
def encTs (l : List TopS) : Bs := beBytes l.length 4 ++ l.flatMap encT
def ValS.enc (v : ValS) : Bs := beBytes 0 2 ++ beBytes v.prod 8 ++ beBytes v.epoch 2 ++ beBytes v.timeout 4 ++ beBytes v.state 1 ++ encTs v.tops ++ beBytes v.upd 8 ++ beBytes v.started 8
def TopS.Fit (t : TopS) : Prop := t.name.length ≤ 32767 ∧ t.parts.length ≤ 1000000 ∧ ∀ n ∈ t.parts, -2147483648 ≤ n ∧ n < 2147483648
def FitTs (l : List TopS) : Prop := l.length ≤ 1000000 ∧ ∀ t ∈ l, t.Fit
theorem be4s_len (l : List Int) : (be4s l).length = 4 * l.length := by
  unfold be4s
  induction l with
  | nil => rfl
  | cons x t ih => rw [List.flatMap_cons, List.length_append, beBytes_length, ih, List.length_cons]; omega
theorem encT_len (t : TopS) : (encT t).length = 6 + t.name.length + 4 * t.parts.length := by
  unfold encT encF
  simp only [List.length_append, beBytes_length, be4s_len]
  omega
theorem preT_le (l : List TopS) (h : FitTs l) (k : Nat) (hk : k ≤ l.length) : (preT l k).length ≤ 4 + 4100000 * k := by
  unfold preT
  rw [List.length_append, beBytes_length]
  have : ∀ (m : List TopS), (∀ t ∈ m, t.Fit) → (m.flatMap encT).length ≤ 4100000 * m.length := by
    intro m
    induction m with
    | nil => intro _; simp
    | cons x t ih =>
      intro hm
      have h1 := ih (fun y hy => hm y (by simp [hy]))
      have h2 := hm x (by simp)
      have h3 := encT_len x
      unfold TopS.Fit at h2
      rw [List.flatMap_cons, List.length_append, List.length_cons]
      omega
  have h1 := this (l.take k) (fun t ht => h.2 t (List.mem_of_mem_take ht))
  rw [List.length_take] at h1
  have e : min k l.length = k := by omega
  rw [e] at h1
  omega
theorem preT_step (l : List TopS) (k : Nat) (hk : k < l.length) (t : TopS) (ht : l[k] = t) : preT l (k + 1) = preT l k ++ (encF 2 ⟨false, t.name⟩ ++ (beBytes t.parts.length 4 ++ be4s t.parts)) := by
  unfold preT
  rw [List.take_succ_eq_append_getElem hk, List.flatMap_append, ht, List.flatMap_cons, List.flatMap_nil, List.append_nil, List.append_assoc]
  rfl
theorem preT_all (l : List TopS) : preT l l.length = encTs l := by unfold preT encTs; rw [List.take_length]
theorem preT_zero (l : List TopS) : preT l 0 = beBytes l.length 4 := by unfold preT; rw [List.take_zero, List.flatMap_nil, List.append_nil]
theorem be4s_step (l : List Int) (k : Nat) (hk : k < l.length) (n : Int) (hn : l.getD k 0 = n) : be4s (l.take (k + 1)) = be4s (l.take k) ++ beBytes n 4 := by
  have e : l[k] = n := by rw [← hn, List.getD_eq_getElem?_getD, List.getElem?_eq_getElem hk]; rfl
  unfold be4s
  rw [List.take_succ_eq_append_getElem hk, List.flatMap_append, e, List.flatMap_cons, List.flatMap_nil, List.append_nil]
theorem vfits4 (n : Int) (h : -2147483648 ≤ n ∧ n < 2147483648) : fits n 4 := by
  unfold fits half
  refine ⟨by decide, by decide, ?_, ?_⟩
  · show -(128 * 256 ^ 3) ≤ n; omega
  · show n < 128 * 256 ^ 3; omega
theorem vfits8 (n : Int) (h : -9223372036854775808 ≤ n ∧ n < 9223372036854775808) : fits n 8 := by
  unfold fits half
  refine ⟨by decide, by decide, ?_, ?_⟩
  · show -(128 * 256 ^ 7) ≤ n; omega
  · show n < 128 * 256 ^ 7; omega
theorem vfits2 (n : Int) (h : -32768 ≤ n ∧ n < 32768) : fits n 2 := by
  unfold fits half
  refine ⟨by decide, by decide, ?_, ?_⟩
  · show -(128 * 256 ^ 1) ≤ n; omega
  · show n < 128 * 256 ^ 1; omega
theorem vfits1 (n : Int) (h : -128 ≤ n ∧ n < 128) : fits n 1 := by
  unfold fits half
  refine ⟨by decide, by decide, ?_, ?_⟩
  · show -(128 * 256 ^ 0) ≤ n; omega
  · show n < 128 * 256 ^ 0; omega
theorem getD_mem (l : List Int) (k : Nat) (hk : k < l.length) : l.getD k 0 ∈ l := by
  rw [List.getD_eq_getElem?_getD, List.getElem?_eq_getElem hk]
  exact List.getElem_mem hk

end Go.Proofs.YthppodbjjfkmfaaDoor

/- Topics, read (pure). -/
namespace Go.Proofs.YthppodbjjfkmfaaDoor
open Go.RowKit

/-- How many there are, of so many bytes each. -/
def InS.cnt (i : InS) (each : Nat) : Nat × InS := ((i.count 4 each).1.toNat, (i.count 4 each).2)
def cntP (each : Nat) (s : Bs) : Except Int (Nat × Nat) :=
  if s.length < 4 then .error 1 else if sInt (s.take 4) < 0 then .error 4 else if ((s.length : Int) - 4) / each < sInt (s.take 4) then .error 1 else .ok ((sInt (s.take 4)).toNat, 4)
theorem int4_ok (s : Bs) (pos : Nat) (hp : pos ≤ s.length) (h : 4 ≤ (s.drop pos).length) : pos + 4 ≤ s.length ∧ (⟨s, pos, 0⟩ : InS).int 4 = (sInt ((s.drop pos).take 4), ⟨s, pos + 4, 0⟩) :=
  (rds_intN 4 (by decide) (by decide)).ok s pos _ 4 hp (by unfold getIntN; rw [if_neg (by omega)])
theorem int4_short (s : Bs) (pos : Nat) (hp : pos ≤ s.length) (h : (s.drop pos).length < 4) : ∃ q, q ≤ s.length ∧ (⟨s, pos, 0⟩ : InS).int 4 = (0, ⟨s, q, 1⟩) :=
  ((rds_intN 4 (by decide) (by decide)).err s pos 1 hp (by unfold getIntN; rw [if_pos h])).2
theorem int_stuck (i : InS) (hi : i.err ≠ 0) : i.int 4 = (0, i) := (rds_intN 4 (by decide) (by decide)).stuck i hi
theorem rds_cnt (each : Nat) (he : 0 < each) : Rds (fun i => i.cnt each) (cntP each) 0 := by
  refine ⟨?_, ?_, ?_⟩
  · intro s pos a k hp h
    unfold cntP at h
    by_cases h1 : (s.drop pos).length < 4
    · rw [if_pos h1] at h; cases h
    rw [if_neg h1] at h
    obtain ⟨g1, g2⟩ := int4_ok s pos hp (by omega)
    by_cases h2 : sInt ((s.drop pos).take 4) < 0
    · rw [if_pos h2] at h; cases h
    rw [if_neg h2] at h
    by_cases h3 : (((s.drop pos).length : Int) - 4) / each < sInt ((s.drop pos).take 4)
    · rw [if_pos h3] at h; cases h
    rw [if_neg h3] at h
    cases h
    refine ⟨g1, ?_⟩
    show (((⟨s, pos, 0⟩ : InS).count 4 each).1.toNat, ((⟨s, pos, 0⟩ : InS).count 4 each).2) = _
    unfold InS.count
    simp only [g2]
    rw [if_neg h2, if_neg (fun hh => h3 (by
      have e : ((⟨s, pos + 4, 0⟩ : InS).left : Int) = ((s.drop pos).length : Int) - 4 := by simp only [InS.left]; rw [List.length_drop]; rw [List.length_drop] at h1; omega
      rw [e] at hh
      exact hh.2))]
  · intro s pos e hp h
    unfold cntP at h
    show e ≠ 0 ∧ ∃ q, q ≤ s.length ∧ (((⟨s, pos, 0⟩ : InS).count 4 each).1.toNat, ((⟨s, pos, 0⟩ : InS).count 4 each).2) = _
    unfold InS.count
    by_cases h1 : (s.drop pos).length < 4
    · rw [if_pos h1] at h
      cases h
      obtain ⟨q, g1, g2⟩ := int4_short s pos hp h1
      refine ⟨by decide, q, g1, ?_⟩
      simp only [g2]
      rw [if_neg (by decide), if_neg (fun hh => by
        have h2 := hh.2
        have : (0 : Int) ≤ ((⟨s, q, 1⟩ : InS).left : Int) / (each : Int) := Int.ediv_nonneg (by omega) (by omega)
        omega)]
      rfl
    rw [if_neg h1] at h
    obtain ⟨g1, g2⟩ := int4_ok s pos hp (by omega)
    simp only [g2]
    by_cases h2 : sInt ((s.drop pos).take 4) < 0
    · rw [if_pos h2] at h
      cases h
      rw [if_pos h2]
      exact ⟨by decide, pos + 4, g1, rfl⟩
    rw [if_neg h2] at h ⊢
    have e4 : ((⟨s, pos + 4, 0⟩ : InS).left : Int) = ((s.drop pos).length : Int) - 4 := by simp only [InS.left]; rw [List.length_drop]; rw [List.length_drop] at h1; omega
    rw [e4]
    by_cases h3 : (((s.drop pos).length : Int) - 4) / each < sInt ((s.drop pos).take 4)
    · rw [if_pos h3] at h
      cases h
      rw [if_pos ⟨by omega, h3⟩]
      exact ⟨by decide, pos + 4, g1, rfl⟩
    rw [if_neg h3] at h
    cases h
  · intro i hi
    show (((i.count 4 each).1).toNat, (i.count 4 each).2) = _
    unfold InS.count
    rw [int_stuck i hi]
    simp only
    rw [if_neg (by decide), if_neg (fun hh => by
      have h2 := hh.2
      have : (0 : Int) ≤ (i.left : Int) / (each : Int) := Int.ediv_nonneg (by omega) (by omega)
      omega)]
    rfl
/-- Numbers of four bytes each. -/
def intsB : Nat → Bs → List Int
  | 0, _ => []
  | n + 1, s => sInt (s.take 4) :: intsB n (s.drop 4)
def InS.partsN : Nat → List Int → InS → List Int × InS
  | 0, acc, i => (acc, i)
  | n + 1, acc, i => InS.partsN n (acc ++ [(i.int 4).1]) (i.int 4).2
def InS.parts (i : InS) : List Int × InS := InS.partsN (i.cnt 4).1 [] (i.cnt 4).2
def partsP (s : Bs) : Except Int (List Int × Nat) := match cntP 4 s with
  | .error e => .error e
  | .ok x => .ok (intsB x.1 (s.drop 4), 4 + 4 * x.1)
theorem partsN_at : ∀ (n : Nat) (acc : List Int) (s : Bs) (pos : Nat), pos + 4 * n ≤ s.length → InS.partsN n acc ⟨s, pos, 0⟩ = (acc ++ intsB n (s.drop pos), ⟨s, pos + 4 * n, 0⟩)
  | 0, acc, s, pos, _ => by simp [InS.partsN, intsB]
  | n + 1, acc, s, pos, h => by
    have g := (int4_ok s pos (by omega) (by rw [List.length_drop]; omega)).2
    have ih := partsN_at n (acc ++ [sInt ((s.drop pos).take 4)]) s (pos + 4) (by omega)
    unfold InS.partsN
    rw [g]
    simp only
    rw [ih, List.append_assoc]
    show (acc ++ (sInt ((s.drop pos).take 4) :: intsB n (s.drop (pos + 4))), _) = (acc ++ (sInt ((s.drop pos).take 4) :: intsB n ((s.drop pos).drop 4)), _)
    rw [List.drop_drop]
    congr 2
    omega
theorem cntP_ok {each : Nat} {s : Bs} {n k : Nat} (he : 0 < each) (h : cntP each s = .ok (n, k)) : k = 4 ∧ 4 + each * n ≤ s.length ∧ (n : Int) = sInt (s.take 4) ∧ n < 2147483648 := by
  unfold cntP at h
  by_cases h1 : s.length < 4
  · rw [if_pos h1] at h; cases h
  rw [if_neg h1] at h
  by_cases h2 : sInt (s.take 4) < 0
  · rw [if_pos h2] at h; cases h
  rw [if_neg h2] at h
  by_cases h3 : ((s.length : Int) - 4) / each < sInt (s.take 4)
  · rw [if_pos h3] at h; cases h
  rw [if_neg h3] at h
  cases h
  have hn : ((sInt (s.take 4)).toNat : Int) = sInt (s.take 4) := Int.toNat_of_nonneg (by omega)
  refine ⟨rfl, ?_, hn, ?_⟩
  · have h4 : sInt (s.take 4) * each ≤ (s.length : Int) - 4 := (Int.le_ediv_iff_mul_le (by omega)).1 (by omega)
    rw [← hn] at h4
    have h5 : ((sInt (s.take 4)).toNat : Int) * (each : Int) = ((each * (sInt (s.take 4)).toNat : Nat) : Int) := by rw [Nat.mul_comm]; exact (Int.natCast_mul _ _).symm
    rw [h5] at h4
    omega
  · have h6 : fits (sInt (s.take 4)) 4 := by
      exact sInt_fits (s.take 4) 4 (by decide) (by decide) (by rw [List.length_take]; omega)
    have h7 := h6.2.2.2
    have e4 : half (4 : Int).toNat = 2147483648 := by decide
    rw [e4] at h7
    omega
theorem rds_parts : Rds InS.parts partsP [] := by
  refine ⟨?_, ?_, ?_⟩
  · intro s pos a k hp h
    unfold partsP at h
    cases h1 : cntP 4 (s.drop pos) with
    | error e => rw [h1] at h; cases h
    | ok x =>
      rw [h1] at h
      cases h
      obtain ⟨g1, g2⟩ := (rds_cnt 4 (by decide)).ok s pos x.1 x.2 hp h1
      obtain ⟨c1, c2, _, _⟩ := cntP_ok (by decide) h1
      rw [List.length_drop] at c2
      (try simp only at g2)
      refine ⟨by omega, ?_⟩
      unfold InS.parts
      rw [g2]
      simp only
      rw [c1, partsN_at x.1 [] s (pos + 4) (by omega), List.nil_append, List.drop_drop, Nat.add_assoc]
  · intro s pos e hp h
    unfold partsP at h
    cases h1 : cntP 4 (s.drop pos) with
    | error e1 =>
      rw [h1] at h
      cases h
      obtain ⟨g1, q, g2, g3⟩ := (rds_cnt 4 (by decide)).err s pos e hp h1
      refine ⟨g1, q, g2, ?_⟩
      (try simp only at g3)
      unfold InS.parts
      rw [g3]
      rfl
    | ok x => rw [h1] at h; cases h
  · intro i hi
    have g := (rds_cnt 4 (by decide)).stuck i hi
    (try simp only at g)
    unfold InS.parts
    rw [g]
    rfl
def textP (s : Bs) : Except Int (Bs × Nat) := match refixed 2 s with
  | .error e => .error e
  | .ok x => if x.1.null then .error 4 else .ok (x.1.data, x.2)
theorem refixed_null {s : Bs} {x : BlobS × Nat} (h : refixed 2 s = .ok x) (hn : x.1.null = true) : x.1.data = [] := by
  unfold refixed at h
  split at h
  · cases h
  · unfold gotS at h
    split at h
    · cases h; rfl
    · split at h
      · cases h
      · split at h
        · cases h
        · cases h; cases hn
theorem rds_text : Rds InS.text textP [] := by
  refine ⟨?_, ?_, ?_⟩
  · intro s pos a k hp h
    unfold textP at h
    cases h1 : refixed 2 (s.drop pos) with
    | error e => rw [h1] at h; cases h
    | ok x =>
      rw [h1] at h
      obtain ⟨g1, g2⟩ := (rds_fixed 2 (by decide) (by decide)).ok s pos x.1 x.2 hp h1
      cases hn : x.1.null with
      | true => simp [hn] at h
      | false =>
        simp only [hn] at h
        cases h
        refine ⟨g1, ?_⟩
        unfold InS.text InS.bytes
        have g2 : (⟨s, pos, 0⟩ : InS).fixed 2 = (x.1, ⟨s, pos + x.2, 0⟩) := g2
        rw [g2]
        simp only [hn]
        rfl
  · intro s pos e hp h
    unfold textP at h
    cases h1 : refixed 2 (s.drop pos) with
    | error e1 =>
      rw [h1] at h
      cases h
      obtain ⟨g1, q, g2, g3⟩ := (rds_fixed 2 (by decide) (by decide)).err s pos e hp h1
      refine ⟨g1, q, g2, ?_⟩
      have g3 : (⟨s, pos, 0⟩ : InS).fixed 2 = (⟨false, []⟩, ⟨s, q, e⟩) := g3
      unfold InS.text InS.bytes
      rw [g3]
      rfl
    | ok x =>
      rw [h1] at h
      obtain ⟨g1, g2⟩ := (rds_fixed 2 (by decide) (by decide)).ok s pos x.1 x.2 hp h1
      have g2 : (⟨s, pos, 0⟩ : InS).fixed 2 = (x.1, ⟨s, pos + x.2, 0⟩) := g2
      cases hn : x.1.null with
      | false => simp [hn] at h
      | true =>
        simp [hn] at h
        subst h
        refine ⟨by decide, pos + x.2, g1, ?_⟩
        unfold InS.text InS.bytes
        rw [g2]
        simp only [hn]
        have hd := refixed_null h1 hn
        rw [hd]
        rfl
  · intro i hi
    have g : i.fixed 2 = (⟨false, []⟩, i) := (rds_fixed 2 (by decide) (by decide)).stuck i hi
    unfold InS.text InS.bytes
    rw [g]
    rfl
/-- Topics with which bytes begin. -/
def topP (s : Bs) : Except Int (TopS × Nat) := match textP s with
  | .error e => .error e
  | .ok x => match partsP (s.drop x.2) with
    | .error e => .error e
    | .ok y => .ok (⟨x.1, y.1⟩, x.2 + y.2)
def topN : Nat → Bs → Except Int (List TopS × Nat)
  | 0, _ => .ok ([], 0)
  | n + 1, s => match topP s with
    | .error e => .error e
    | .ok x => match topN n (s.drop x.2) with
      | .error e => .error e
      | .ok y => .ok (x.1 :: y.1, x.2 + y.2)
def topsP (s : Bs) : Except Int (List TopS × Nat) := match cntP 6 s with
  | .error e => .error e
  | .ok x => match topN x.1 (s.drop 4) with
    | .error e => .error e
    | .ok y => .ok (y.1, 4 + y.2)
def InS.topsN : Nat → List TopS → InS → List TopS × InS
  | 0, acc, i => (acc, i)
  | n + 1, acc, i => if i.text.2.parts.2.err = 0 then InS.topsN n (acc ++ [⟨i.text.1, i.text.2.parts.1⟩]) i.text.2.parts.2 else ([], i.text.2.parts.2)
def InS.tops (i : InS) : List TopS × InS := InS.topsN (i.cnt 6).1 [] (i.cnt 6).2
theorem topP_ok {s : Bs} {pos : Nat} {t : TopS} {m : Nat} (hp : pos ≤ s.length) (e : topP (s.drop pos) = .ok (t, m)) : pos + m ≤ s.length ∧ (⟨s, pos, 0⟩ : InS).text.1 = t.name ∧ (⟨s, pos, 0⟩ : InS).text.2.parts = (t.parts, ⟨s, pos + m, 0⟩) := by
  unfold topP at e
  cases h1 : textP (s.drop pos) with
  | error e1 => rw [h1] at e; cases e
  | ok x =>
    rw [h1] at e
    obtain ⟨g1, g2⟩ := rds_text.ok s pos x.1 x.2 hp h1
    simp only at e
    cases h2 : partsP ((s.drop pos).drop x.2) with
    | error e2 => rw [h2] at e; cases e
    | ok y =>
      rw [h2] at e
      cases e
      rw [List.drop_drop] at h2
      obtain ⟨g3, g4⟩ := rds_parts.ok s (pos + x.2) y.1 y.2 g1 h2
      rw [g2]
      rw [Nat.add_assoc] at g3 g4
      exact ⟨g3, rfl, g4⟩
theorem topP_err {s : Bs} {pos : Nat} {e : Int} (hp : pos ≤ s.length) (h : topP (s.drop pos) = .error e) : e ≠ 0 ∧ ∃ q, q ≤ s.length ∧ (⟨s, pos, 0⟩ : InS).text.2.parts.2 = ⟨s, q, e⟩ := by
  unfold topP at h
  cases h1 : textP (s.drop pos) with
  | error e1 =>
    rw [h1] at h
    cases h
    obtain ⟨g1, q, g2, g3⟩ := rds_text.err s pos e hp h1
    refine ⟨g1, q, g2, ?_⟩
    rw [g3]
    show (InS.parts ⟨s, q, e⟩).2 = _
    rw [rds_parts.stuck ⟨s, q, e⟩ g1]
  | ok x =>
    rw [h1] at h
    obtain ⟨g1, g2⟩ := rds_text.ok s pos x.1 x.2 hp h1
    simp only at h
    rw [g2]
    cases h2 : partsP ((s.drop pos).drop x.2) with
    | error e2 =>
      rw [h2] at h
      cases h
      rw [List.drop_drop] at h2
      obtain ⟨g3, q, g4, g5⟩ := rds_parts.err s (pos + x.2) e g1 h2
      refine ⟨g3, q, g4, ?_⟩
      show (InS.parts ⟨s, pos + x.2, 0⟩).2 = _
      rw [g5]
    | ok y => rw [h2] at h; cases h
theorem topsN_at : ∀ (n : Nat) (acc : List TopS) (s : Bs) (pos : Nat), pos ≤ s.length →
    (∀ t k, topN n (s.drop pos) = .ok (t, k) → pos + k ≤ s.length ∧ InS.topsN n acc ⟨s, pos, 0⟩ = (acc ++ t, ⟨s, pos + k, 0⟩)) ∧
    (∀ e, topN n (s.drop pos) = .error e → e ≠ 0 ∧ ∃ q, q ≤ s.length ∧ InS.topsN n acc ⟨s, pos, 0⟩ = ([], ⟨s, q, e⟩))
  | 0, acc, s, pos, hp => ⟨fun t k h => (by cases h; simp [InS.topsN]; exact hp), fun e h => (by cases h)⟩
  | n + 1, acc, s, pos, hp => by
    unfold topN InS.topsN
    cases h1 : topP (s.drop pos) with
    | error e1 =>
      refine ⟨fun t k h => (by cases h), fun e h => ?_⟩
      cases h
      obtain ⟨g1, q, g2, g3⟩ := topP_err hp h1
      refine ⟨g1, q, g2, ?_⟩
      rw [g3, if_neg g1]
    | ok x =>
      obtain ⟨g1, g2, g3⟩ := topP_ok hp h1
      have ih := topsN_at n (acc ++ [x.1]) s (pos + x.2) g1
      rw [g2, g3]
      simp only [if_true]
      rw [List.drop_drop]
      refine ⟨fun t k h => ?_, fun e h => ?_⟩
      · cases h2 : topN n (s.drop (pos + x.2)) with
        | error e2 => rw [h2] at h; cases h
        | ok y =>
          rw [h2] at h
          cases h
          obtain ⟨a, b⟩ := ih.1 y.1 y.2 h2
          refine ⟨by omega, ?_⟩
          rw [b, List.append_assoc, Nat.add_assoc]
          rfl
      · cases h2 : topN n (s.drop (pos + x.2)) with
        | error e2 =>
          rw [h2] at h
          cases h
          exact ih.2 e h2
        | ok y => rw [h2] at h; cases h
theorem rds_tops : Rds InS.tops topsP [] := by
  refine ⟨?_, ?_, ?_⟩
  · intro s pos a k hp h
    unfold topsP at h
    cases h1 : cntP 6 (s.drop pos) with
    | error e1 => rw [h1] at h; cases h
    | ok x =>
      rw [h1] at h
      obtain ⟨g1, g2⟩ := (rds_cnt 6 (by decide)).ok s pos x.1 x.2 hp h1
      obtain ⟨c1, _, _, _⟩ := cntP_ok (by decide) h1
      simp only at h g2
      rw [List.drop_drop] at h
      rw [c1] at g1 g2
      cases h2 : topN x.1 (s.drop (pos + 4)) with
      | error e2 => rw [h2] at h; cases h
      | ok y =>
        rw [h2] at h
        cases h
        obtain ⟨a1, b1⟩ := (topsN_at x.1 [] s (pos + 4) g1).1 y.1 y.2 h2
        refine ⟨by omega, ?_⟩
        unfold InS.tops
        rw [g2]
        simp only
        rw [b1, List.nil_append, Nat.add_assoc]
  · intro s pos e hp h
    unfold topsP at h
    cases h1 : cntP 6 (s.drop pos) with
    | error e1 =>
      rw [h1] at h
      cases h
      obtain ⟨g1, q, g2, g3⟩ := (rds_cnt 6 (by decide)).err s pos e hp h1
      refine ⟨g1, q, g2, ?_⟩
      (try simp only at g3)
      unfold InS.tops
      rw [g3]
      rfl
    | ok x =>
      rw [h1] at h
      obtain ⟨g1, g2⟩ := (rds_cnt 6 (by decide)).ok s pos x.1 x.2 hp h1
      obtain ⟨c1, _, _, _⟩ := cntP_ok (by decide) h1
      simp only at h g2
      rw [List.drop_drop] at h
      rw [c1] at g1 g2
      unfold InS.tops
      rw [g2]
      simp only
      cases h2 : topN x.1 (s.drop (pos + 4)) with
      | error e2 =>
        rw [h2] at h
        cases h
        exact (topsN_at x.1 [] s (pos + 4) g1).2 e h2
      | ok y => rw [h2] at h; cases h
  · intro i hi
    have g := (rds_cnt 6 (by decide)).stuck i hi
    (try simp only at g)
    unfold InS.tops
    rw [g]
    rfl

end Go.Proofs.YthppodbjjfkmfaaDoor

/- Topics that rise, by definition. -/
namespace Go.Proofs.YthppodbjjfkmfaaDoor
open Go.RowKit

end Go.Proofs.YthppodbjjfkmfaaDoor

/- What a value has. -/
namespace Go.Proofs.YthppodbjjfkmfaaDoor
open Go.RowKit

end Go.Proofs.YthppodbjjfkmfaaDoor

/- Values, checked: the ways. -/
namespace Go.Proofs.YthppodbjjfkmfaaDoor
open Go.RowKit

end Go.Proofs.YthppodbjjfkmfaaDoor

/- Values, checked: more ways. -/
namespace Go.Proofs.YthppodbjjfkmfaaDoor
open Go.RowKit

end Go.Proofs.YthppodbjjfkmfaaDoor

/- Values, checked. -/
namespace Go.Proofs.YthppodbjjfkmfaaDoor
open Go.RowKit

theorem tRise_nil : tRise [] = true := rfl
theorem idle_0 : idle 0 = true := rfl
end Go.Proofs.YthppodbjjfkmfaaDoor

/- Numbers and texts, written. -/
namespace Go.Proofs.YthppodbjjfkmfaaDoor
open Go.RowKit

theorem fits_rng (n size : Int) (h : fits n size) : -9223372036854775808 ≤ n ∧ n < 9223372036854775808 := by
  obtain ⟨h1, h2, h3, h4⟩ := h
  unfold half at h3 h4
  rcases (by omega : size.toNat - 1 = 0 ∨ size.toNat - 1 = 1 ∨ size.toNat - 1 = 2 ∨ size.toNat - 1 = 3 ∨ size.toNat - 1 = 4 ∨ size.toNat - 1 = 5 ∨ size.toNat - 1 = 6 ∨ size.toNat - 1 = 7) with h | h | h | h | h | h | h | h <;> rw [h] at h3 h4 <;> omega
theorem so_intV (p : Nat) (e e2 : Bs) (n size : Int) (he : e ++ beBytes n size.toNat = e2) (hf : fits n size) (hl : e.length ≤ 100000000000000) {W0 w : World} {K : Know} {L : List Res} (h : St W0 w K (.out p ⟨e, 0⟩ :: L)) :
    Calls Tryd.prog 22 #[outPtr p, .int .i64 n, .int .i64 size] w fun en w' => en = .returned (.tuple #[]) ∧ St W0 w' K (.out p ⟨e2, 0⟩ :: L) := by
  have h2 := so_int p ⟨e, 0⟩ n size (fits_rng n size hf) h (by unfold OutS.ok; simp only; omega)
  have e3 : (⟨e, 0⟩ : OutS).int n size = ⟨e2, 0⟩ := by unfold OutS.int; rw [if_pos hf, ← he]; rfl
  rw [e3] at h2
  exact h2
theorem blob_putTextV (p : Nat) (e e2 s : Bs) (he : e ++ encF 2 ⟨false, s⟩ = e2) (hs : s.length ≤ 32767) (hl : e.length ≤ 100000000000000) {W0 w : World} {K : Know} {L : List Res} (h : St W0 w K (.out p ⟨e, 0⟩ :: L)) :
    Calls Tryd.prog 30 #[outPtr p, .string (bb s)] w fun en w' => en = .returned (.tuple #[]) ∧ St W0 w' K (.out p ⟨e2, 0⟩ :: L) := by
  have h2 := blob_putText p ⟨e, 0⟩ s h (by unfold OutS.ok; simp only; omega)
  have hf : fits (⟨false, s⟩ : BlobS).len 2 := vfits2 _ (by show -32768 ≤ (s.length : Int) ∧ (s.length : Int) < 32768; omega)
  have e3 : (⟨e, 0⟩ : OutS).putText s = ⟨e2, 0⟩ := by
    show ((⟨e, 0⟩ : OutS).int (⟨false, s⟩ : BlobS).len 2).putData ⟨false, s⟩ = _
    unfold OutS.int
    rw [if_pos hf, ← he]
    show (⟨(e ++ beBytes (⟨false, s⟩ : BlobS).len 2) ++ s, 0⟩ : OutS) = _
    rw [List.append_assoc]
    rfl
  rw [e3] at h2
  exact h2
end Go.Proofs.YthppodbjjfkmfaaDoor

/- Topics, written. -/
namespace Go.Proofs.YthppodbjjfkmfaaDoor
open Go.RowKit

end Go.Proofs.YthppodbjjfkmfaaDoor

/- Values that may be (pure). -/
namespace Go.Proofs.YthppodbjjfkmfaaDoor
open Go.RowKit

theorem ValS.ok_parts (v : ValS) (h : v.err = 0) : v.ranged = true ∧ (0 ≤ v.state ∧ v.state < 7) ∧ idle v.state = v.tops.isEmpty ∧ (v.state == 0) = (v.started == -1) ∧ tRise v.tops = true := by
  unfold ValS.err at h
  by_cases h1 : v.ranged = false
  · rw [if_pos h1] at h; cases h
  · rw [if_neg h1] at h
    by_cases h2 : v.state < 0 ∨ 7 ≤ v.state
    · rw [if_pos h2] at h; cases h
    · rw [if_neg h2] at h
      by_cases h3 : (idle v.state != v.tops.isEmpty) = true ∨ ((v.state == 0) != (v.started == -1)) = true
      · rw [if_pos h3] at h; cases h
      · rw [if_neg h3] at h
        by_cases h4 : tRise v.tops = false
        · rw [if_pos h4] at h; cases h
        · refine ⟨by cases hh : v.ranged with
            | true => rfl
            | false => exact absurd hh h1, by omega, ?_, ?_, by cases hh : tRise v.tops with
            | true => rfl
            | false => exact absurd hh h4⟩
          · have := fun h => h3 (.inl h)
            simpa using this
          · have := fun h => h3 (.inr h)
            simpa using this
theorem ranged_parts (v : ValS) (h : v.ranged = true) : 0 ≤ v.prod ∧ (0 ≤ v.epoch ∧ v.epoch ≤ 32767) ∧ (0 ≤ v.timeout ∧ v.timeout ≤ 2147483647) ∧ 0 ≤ v.upd ∧ -1 ≤ v.started := by
  unfold ValS.ranged at h
  simp only [Bool.and_eq_true, decide_eq_true_eq] at h
  omega
theorem pRise_rng (l : List Int) (h : pRise l = true) : ∀ n ∈ l, 0 ≤ n ∧ n ≤ 2147483647 := by
  intro n hn
  obtain ⟨i, hi, rfl⟩ := List.mem_iff_getElem.1 hn
  have hne : l ≠ [] := by rintro rfl; simp at hi
  rw [pRise_pk l hne] at h
  have h2 := allN_at h i hi
  unfold pk at h2
  rw [Bool.and_eq_true] at h2
  have h3 := of_decide_eq_true h2.1
  rw [List.getD_eq_getElem?_getD, List.getElem?_eq_getElem hi] at h3
  exact h3
theorem fit_of_rise (l : List (TopS × Value)) (hf : FewT l) (h : tRise (l.map (·.1)) = true) : FitTs (l.map (·.1)) := by
  unfold tRise at h
  rw [Bool.and_eq_true] at h
  refine ⟨by rw [List.length_map]; exact hf.1, fun t ht => ?_⟩
  have h2 := List.all_eq_true.1 h.1 t ht
  unfold tOk at h2
  simp only [Bool.and_eq_true, decide_eq_true_eq] at h2
  obtain ⟨x, hx, rfl⟩ := List.mem_map.1 ht
  have h3 := pRise_rng _ h2.2
  exact ⟨h2.1.2, (hf.2 x hx).2, fun n hn => by have := h3 n hn; omega⟩
/-- The numbers of a value are such as there can be. -/
def ValS.R (v : ValS) : Prop := (-9223372036854775808 ≤ v.prod ∧ v.prod < 9223372036854775808) ∧ (-9223372036854775808 ≤ v.epoch ∧ v.epoch < 9223372036854775808) ∧ (-9223372036854775808 ≤ v.timeout ∧ v.timeout < 9223372036854775808) ∧ (-9223372036854775808 ≤ v.state ∧ v.state < 9223372036854775808) ∧ (-9223372036854775808 ≤ v.upd ∧ v.upd < 9223372036854775808) ∧ (-9223372036854775808 ≤ v.started ∧ v.started < 9223372036854775808)
theorem so_textV (p : Nat) (e : Bs) {W0 w : World} {K : Know} {L : List Res} (h : St W0 w K (.out p ⟨e, 0⟩ :: L)) :
    Calls Tryd.prog 11 #[outPtr p] w fun en w' => en = .returned (.tuple #[.string (bb e), .int .i64 0]) ∧ St W0 w' K (.out p ⟨e, 0⟩ :: L) := so_text p ⟨e, 0⟩ h
end Go.Proofs.YthppodbjjfkmfaaDoor

/- Values, read (pure). -/
namespace Go.Proofs.YthppodbjjfkmfaaDoor
open Go.RowKit

def ValS.z : ValS := ⟨0, 0, 0, 0, [], 0, 0⟩
def InS.valF (i : InS) : ValS × InS :=
  let a := i.int 8
  let b := a.2.int 2
  let c := b.2.int 4
  let d := c.2.int 1
  let e := d.2.tops
  let f := e.2.int 8
  let g := f.2.int 8
  (⟨a.1, b.1, c.1, d.1, e.1, f.1, g.1⟩, g.2)
theorem valF_eq {i i1 i2 i3 i4 i5 i6 i7 : InS} {p e t s u st : Int} {l : List TopS} (h1 : i.int 8 = (p, i1)) (h2 : i1.int 2 = (e, i2)) (h3 : i2.int 4 = (t, i3)) (h4 : i3.int 1 = (s, i4)) (h5 : i4.tops = (l, i5)) (h6 : i5.int 8 = (u, i6)) (h7 : i6.int 8 = (st, i7)) : i.valF = (⟨p, e, t, s, l, u, st⟩, i7) := by
  unfold InS.valF
  simp only [h1, h2, h3, h4, h5, h6, h7]
def decI (s : Bs) : InS := if ((⟨s, 0, 0⟩ : InS).int 2).1 = 0 then ((⟨s, 0, 0⟩ : InS).int 2).2 else ((⟨s, 0, 0⟩ : InS).int 2).2.fail 7
def decE (s : Bs) : Int := (decI s).valF.2.close.err
def valDec (s : Bs) : ValS × Int := if decE s ≠ 0 then (ValS.z, decE s) else if (decI s).valF.1.err ≠ 0 then (ValS.z, (decI s).valF.1.err) else ((decI s).valF.1, 0)
/-- Within its bytes. -/
def InS.At (s : Bs) (i : InS) : Prop := i.s = s ∧ i.pos ≤ s.length
theorem At.int {s : Bs} {i : InS} (h : i.At s) (k : Int) : (i.int k).2.At s := by
  obtain ⟨rfl, h⟩ := h
  unfold InS.int
  split
  · unfold InS.fail; split
    · exact ⟨rfl, h⟩
    · exact ⟨rfl, h⟩
  · unfold InS.take
    split
    · exact ⟨rfl, h⟩
    · split
      · exact ⟨rfl, h⟩
      · split
        · exact ⟨rfl, h⟩
        · rename_i h1 h2 h3
          refine ⟨rfl, ?_⟩
          simp only [InS.left] at h3
          show i.pos + k.toNat ≤ i.s.length
          omega
theorem At.fail {s : Bs} {i : InS} (h : i.At s) (e : Int) : (i.fail e).At s := by
  unfold InS.fail
  split
  · exact ⟨h.1, h.2⟩
  · exact h
theorem intsB_len : ∀ (n : Nat) (s : Bs), (intsB n s).length = n
  | 0, _ => rfl
  | n + 1, s => by show (intsB n (s.drop 4)).length + 1 = _; rw [intsB_len n]
def FewL (l : List TopS) : Prop := l.length ≤ 1000000 ∧ ∀ t ∈ l, t.name.length ≤ 140737488355328 ∧ t.parts.length ≤ 1000000
theorem partsP_few {s : Bs} {l : List Int} {n : Nat} (h : partsP s = .ok (l, n)) (hs : s.length ≤ 1000000) : l.length ≤ 1000000 := by
  unfold partsP at h
  cases h1 : cntP 4 s with
  | error e => rw [h1] at h; cases h
  | ok x =>
    rw [h1] at h
    cases h
    have h2 := (cntP_ok (n := x.1) (k := x.2) (by decide) h1).2.1
    rw [intsB_len]
    omega
theorem textP_few {s : Bs} {d : Bs} {n : Nat} (h : textP s = .ok (d, n)) : d.length ≤ s.length := by
  unfold textP at h
  cases h1 : refixed 2 s with
  | error e => rw [h1] at h; cases h
  | ok x =>
    rw [h1] at h
    simp only at h
    split at h
    · cases h
    · cases h
      unfold refixed gotS at h1
      split at h1
      · cases h1
      · split at h1
        · cases h1; simp [BlobS.none]
        · split at h1
          · cases h1
          · split at h1
            · cases h1
            · cases h1
              simp only [List.length_take, List.length_drop]
              omega
theorem topN_few : ∀ (n : Nat) (s : Bs) (l : List TopS) (k : Nat), topN n s = .ok (l, k) → s.length ≤ 1000000 → l.length = n ∧ ∀ t ∈ l, t.name.length ≤ 140737488355328 ∧ t.parts.length ≤ 1000000
  | 0, s, l, k, h, _ => by cases h; exact ⟨rfl, fun t ht => by cases ht⟩
  | n + 1, s, l, k, h, hs => by
    unfold topN at h
    cases h1 : topP s with
    | error e => rw [h1] at h; cases h
    | ok x =>
      rw [h1] at h
      simp only at h
      cases h2 : topN n (s.drop x.2) with
      | error e => rw [h2] at h; cases h
      | ok y =>
        rw [h2] at h
        cases h
        have ih := topN_few n (s.drop x.2) y.1 y.2 h2 (by rw [List.length_drop]; omega)
        refine ⟨by rw [List.length_cons, ih.1], fun t ht => ?_⟩
        rcases List.mem_cons.1 ht with rfl | ht
        · unfold topP at h1
          cases h3 : textP s with
          | error e => rw [h3] at h1; cases h1
          | ok a =>
            rw [h3] at h1
            simp only at h1
            cases h4 : partsP (s.drop a.2) with
            | error e => rw [h4] at h1; cases h1
            | ok b =>
              rw [h4] at h1
              cases h1
              have h5 := textP_few (d := a.1) (n := a.2) h3
              have h6 := partsP_few (l := b.1) (n := b.2) h4 (by rw [List.length_drop]; omega)
              exact ⟨by simp only; omega, h6⟩
        · exact ih.2 t ht
theorem topsP_few {s : Bs} {l : List TopS} {n : Nat} (h : topsP s = .ok (l, n)) (hs : s.length ≤ 1000000) : FewL l := by
  unfold topsP at h
  cases h1 : cntP 6 s with
  | error e => rw [h1] at h; cases h
  | ok x =>
    rw [h1] at h
    simp only at h
    cases h2 : topN x.1 (s.drop 4) with
    | error e => rw [h2] at h; cases h
    | ok y =>
      rw [h2] at h
      cases h
      have h3 := (cntP_ok (n := x.1) (k := x.2) (by decide) h1).2.1
      have h4 := topN_few x.1 (s.drop 4) y.1 y.2 h2 (by rw [List.length_drop]; omega)
      exact ⟨by rw [h4.1]; omega, h4.2⟩
theorem tops_few {s : Bs} {i : InS} (ha : i.At s) (hs : s.length ≤ 1000000) : FewL i.tops.1 := by
  have hn : FewL [] := ⟨by decide, fun t ht => by cases ht⟩
  obtain ⟨s', pos, er⟩ := i
  obtain ⟨h1, h2⟩ := ha
  simp only at h1 h2
  subst h1
  by_cases he : er = 0
  · subst he
    cases h3 : topsP (s'.drop pos) with
    | error e =>
      obtain ⟨_, q, _, h4⟩ := rds_tops.err s' pos e h2 h3
      rw [h4]; exact hn
    | ok x =>
      obtain ⟨_, h4⟩ := rds_tops.ok s' pos x.1 x.2 h2 h3
      rw [h4]
      exact topsP_few (l := x.1) (n := x.2) h3 (by rw [List.length_drop]; omega)
  · rw [rds_tops.stuck ⟨s', pos, er⟩ he]; exact hn
theorem decI_at (s : Bs) : (decI s).At s := by
  have h0 : (⟨s, 0, 0⟩ : InS).At s := ⟨rfl, Nat.zero_le _⟩
  unfold decI
  split
  · exact At.int h0 2
  · exact At.fail (At.int h0 2) 7
theorem valF_few {s : Bs} {i : InS} (h : i.At s) (hs : s.length ≤ 1000000) : FewL i.valF.1.tops := tops_few (At.int (At.int (At.int (At.int h 8) 2) 4) 1) hs
theorem fewT_of {lr : List (TopS × Value)} (h : FewL (lr.map (·.1))) : FewT lr := ⟨by have := h.1; rw [List.length_map] at this; exact this, fun x hx => h.2 x.1 (List.mem_map_of_mem hx)⟩

end Go.Proofs.YthppodbjjfkmfaaDoor

/- Parts of requests of transactions (pure). -/
namespace Go.Proofs.YthppodbjjfkmfaaDoor
open Go.RowKit

/-- Can it be somebody who writes? -/
def who (p e : Int) : Bool := decide (0 ≤ p) && (decide (0 ≤ e) && decide (e ≤ 32767))
theorem who_t {p e : Int} (h : who p e = true) : 0 ≤ p ∧ 0 ≤ e ∧ e ≤ 32767 := by
  unfold who at h; simpa only [Bool.and_eq_true, decide_eq_true_eq] using h
theorem who_f {p e : Int} (h : who p e = false) : p < 0 ∨ e < 0 ∨ 32767 < e := by
  unfold who at h
  by_cases h1 : p < 0
  · exact .inl h1
  · by_cases h2 : e < 0
    · exact .inr (.inl h2)
    · by_cases h3 : 32767 < e
      · exact .inr (.inr h3)
      · rw [decide_eq_true (show 0 ≤ p by omega), decide_eq_true (show 0 ≤ e by omega), decide_eq_true (show e ≤ 32767 by omega)] at h
        cases h
def chkW (id : Bs) (p e : Int) : Int := if keyRight id = false then 4 else if who p e = false then 11 else 0
def InS.boolP (i : InS) : Bool × InS := ((i.int 1).1 == 1, if (i.int 1).1 ≠ 0 ∧ (i.int 1).1 ≠ 1 then (i.int 1).2.fail 11 else (i.int 1).2)
def encO (c : Bool) : Bs := [if c then 1 else 0]
def riseE (l : List TopS) : Int := if l = [] then 10 else if tRise l = false then 13 else 0
theorem riseE_eq (l : List TopS) : ValS.err ⟨0, 0, 0, 1, l, 0, 0⟩ = riseE l := by
  have h1 : ValS.ranged ⟨0, 0, 0, 1, l, 0, 0⟩ = true := by rfl
  unfold ValS.err riseE
  rw [h1]
  cases l with
  | nil => rfl
  | cons a t =>
    have e0 : ¬ (true = false) := by decide
    have e1 : ¬ ((1 : Int) < 0 ∨ 7 ≤ (1 : Int)) := by decide
    have e2 : ¬ ((idle 1 != false) = true ∨ (((1 : Int) == 0) != ((0 : Int) == -1)) = true) := by decide
    exact (if_neg e0).trans ((if_neg e1).trans ((if_neg e2).trans (if_neg (List.cons_ne_nil a t)).symm))

end Go.Proofs.YthppodbjjfkmfaaDoor

/- Ends of transactions as bytes (pure). -/
namespace Go.Proofs.YthppodbjjfkmfaaDoor
open Go.RowKit

def encW (p e : Int) : Bs := beBytes p 8 ++ beBytes e 2
def encEnd (id : Bs) (p e : Int) (c : Bool) : Bs := encF 2 ⟨false, id⟩ ++ (encW p e ++ encO c)

end Go.Proofs.YthppodbjjfkmfaaDoor

/- Contracts of package key. -/
namespace Go.Proofs.YthppodbjjfkmfaaDoor
open Go.RowKit

set_option maxHeartbeats 1000000 in
set_option maxRecDepth 100000 in
theorem key_right (s : Bs) (hs : s.length ≤ 140737488355328) {W0 w : World} {K : Know} {L : List Res} (h : St W0 w K L) :
    Calls Tryd.prog 28 #[.string (bb s)] w fun en w' => en = .returned (.bool (keyRight s)) ∧ St W0 w' K L := by
  have H := Lib.hid h
  clear h
  cases s with
  | nil =>
    go_enter Tryd.func28, Tryd.ntmps28
    go_wp2
    go_ret
    exact ⟨rfl, H.out⟩
  | cons c t =>
    have HS := Lib.hid hs
    clear hs
    go_enter Tryd.func28, Tryd.ntmps28
    go_wp2
    go_ret
    refine ⟨ret_bool ?_, H.out⟩
    unfold keyRight
    rw [Bool.eq_iff_iff]
    simp
    omega

theorem keyDec_tuple (s : Bs) : Value.tuple #[.string (bb (keyDec s).1), .int .i64 (keyDec s).2] = if (keyJ s).close.err = 0 then .tuple #[.string (bb (keyI s).text.1), .int .i64 0] else .tuple #[.string (bb []), .int .i64 (keyJ s).close.err] := by
  unfold keyDec; split <;> rfl
end Go.Proofs.YthppodbjjfkmfaaDoor

/- Layer 13, walked. -/
namespace Go.Proofs.YthppodbjjfkmfaaDoor
open Go.RowKit

theorem kr1 {s : Bs} (h : s.length < 2) : keyRd s = ([], 1) := if_pos h
theorem kr2 {s : Bs} (h : 2 ≤ s.length) (h2 : (!List.take 2 s == [0, 0]) = true) : keyRd s = ([], 7) := by
  have h2' : s.take 2 ≠ [0, 0] := by simpa using h2
  exact (if_neg (by omega)).trans (if_pos h2')
theorem kr3 {s : Bs} (h : 2 ≤ s.length) (h2 : (!List.take 2 s == [0, 0]) = false) (h3 : s.length < 4) : keyRd s = ([], 1) := by
  have h2' : ¬ s.take 2 ≠ [0, 0] := by simpa using h2
  exact (if_neg (by omega)).trans ((if_neg h2').trans (if_pos h3))
theorem kr4 {s : Bs} (h : 4 ≤ s.length) (h2 : (!List.take 2 s == [0, 0]) = false) (h3 : sInt ((s.drop 2).take 2) ≤ 0) : keyRd s = ([], 4) := by
  have h2' : ¬ s.take 2 ≠ [0, 0] := by simpa using h2
  exact (if_neg (by omega)).trans ((if_neg h2').trans ((if_neg (by omega)).trans (if_pos h3)))
theorem kr5 {s : Bs} (h : 4 ≤ s.length) (h2 : (!List.take 2 s == [0, 0]) = false) (h3 : ¬ sInt ((s.drop 2).take 2) ≤ 0) (h4 : (s.length : Int) - 4 < sInt ((s.drop 2).take 2)) : keyRd s = ([], 1) := by
  have h2' : ¬ s.take 2 ≠ [0, 0] := by simpa using h2
  exact (if_neg (by omega)).trans ((if_neg h2').trans ((if_neg (by omega)).trans ((if_neg h3).trans (if_pos h4))))
theorem kr6 {s : Bs} (h : 4 ≤ s.length) (h2 : (!List.take 2 s == [0, 0]) = false) (h3 : ¬ sInt ((s.drop 2).take 2) ≤ 0) (h4 : sInt ((s.drop 2).take 2) < (s.length : Int) - 4) : keyRd s = ([], 2) := by
  have h2' : ¬ s.take 2 ≠ [0, 0] := by simpa using h2
  exact (if_neg (by omega)).trans ((if_neg h2').trans ((if_neg (by omega)).trans ((if_neg h3).trans ((if_neg (by omega)).trans (if_pos h4)))))
theorem kr7 {s : Bs} (_ : 4 ≤ s.length) (h2 : (!List.take 2 s == [0, 0]) = false) (h3 : ¬ sInt ((s.drop 2).take 2) ≤ 0) (h4 : sInt ((s.drop 2).take 2) = (s.length : Int) - 4) : keyRd s = ((s.drop 4).take (s.length - 4), 0) := by
  rw [List.take_of_length_le (by rw [List.length_drop]; omega)]
  have h2' : ¬ s.take 2 ≠ [0, 0] := by simpa using h2
  exact (if_neg (by omega)).trans ((if_neg h2').trans ((if_neg (by omega)).trans ((if_neg h3).trans ((if_neg (by omega)).trans (if_neg (by omega))))))

theorem keyRd_len (s : Bs) : (keyRd s).1.length ≤ s.length := by
  unfold keyRd
  repeat' split
  all_goals simp
end Go.Proofs.YthppodbjjfkmfaaDoor

/- Layer 13, walked: KeyEncodes. -/
namespace Go.Proofs.YthppodbjjfkmfaaDoor
open Go.RowKit

theorem key_right' (s : Bs) (r : Bool) (hs : s.length ≤ 140737488355328) (hr : keyRight s = r) {W0 w : World} {K : Know} {L : List Res} (h : St W0 w K L) :
    Calls Tryd.prog 28 #[.string (bb s)] w fun en w' => en = .returned (.bool r) ∧ St W0 w' K L := hr ▸ key_right s hs h
theorem keyRight_iff (s : Bs) : keyRight s = true ↔ 1 ≤ s.length ∧ s.length ≤ 32767 := by
  unfold keyRight
  cases s <;> simp
end Go.Proofs.YthppodbjjfkmfaaDoor

/- Requests of transactions (pure). -/
namespace Go.Proofs.YthppodbjjfkmfaaDoor
open Go.RowKit

def idOk (nl : Bool) (d : Bs) : Bool := if nl then d.isEmpty else keyRight d
def was (v p e : Int) : Bool := (p == -1 && e == -1) || (v == 1 && who p e)
def begE (v : Int) (nl : Bool) (d : Bs) (tm p e : Int) : Int := if idOk nl d = false then 4 else if tm < 0 ∨ 2147483647 < tm then 11 else if was v p e = false then 11 else 0
def addE (d : Bs) (p e : Int) (l : List TopS) : Int := if chkW d p e ≠ 0 then chkW d p e else riseE l
/-- What is wrong with a request of a kind: 22, 24, 26. -/
def reqE (k v : Int) (nl : Bool) (d : Bs) (tm p e : Int) (l : List TopS) : Int :=
  if k = 22 then begE v nl d tm p e else if nl = true then 4 else if k = 24 then addE d p e l else chkW d p e
theorem keyRight_t {d : Bs} (h : keyRight d = true) : (1 : Int) ≤ d.length ∧ (d.length : Int) ≤ 32767 := by
  obtain ⟨h1, h2⟩ := (keyRight_iff d).1 h
  omega
theorem keyRight_f {d : Bs} (h : keyRight d = false) : (d.length : Int) < 1 ∨ 32767 < (d.length : Int) := by
  have : ¬ (1 ≤ d.length ∧ d.length ≤ 32767) := fun h2 => by rw [(keyRight_iff d).2 h2] at h; cases h
  omega

end Go.Proofs.YthppodbjjfkmfaaDoor

/- Requests of transactions as bytes (pure). -/
namespace Go.Proofs.YthppodbjjfkmfaaDoor
open Go.RowKit

def encReq (k v : Int) (nl : Bool) (d : Bs) (tm p e : Int) (l : List TopS) (c : Bool) : Bs :=
  encF 2 ⟨nl, d⟩ ++ (if k = 22 then beBytes tm 4 ++ (if v = 1 then encW p e else []) else encW p e ++ (if k = 24 then encTs l else encO c))
theorem begE_ok {v : Int} {nl : Bool} {d : Bs} {tm p e : Int} (h : begE v nl d tm p e = 0) : idOk nl d = true ∧ (0 ≤ tm ∧ tm ≤ 2147483647) ∧ was v p e = true := by
  unfold begE at h
  by_cases h1 : idOk nl d = false
  · rw [if_pos h1] at h; cases h
  · rw [if_neg h1] at h
    by_cases h2 : tm < 0 ∨ 2147483647 < tm
    · rw [if_pos h2] at h; cases h
    · rw [if_neg h2] at h
      by_cases h3 : was v p e = false
      · rw [if_pos h3] at h; cases h
      · exact ⟨by simpa using h1, by omega, by simpa using h3⟩
theorem idOk_len {nl : Bool} {d : Bs} (h : idOk nl d = true) : d.length ≤ 32767 ∧ (⟨nl, d⟩ : BlobS).right = true ∧ fits (⟨nl, d⟩ : BlobS).len 2 := by
  unfold idOk at h
  cases nl with
  | true =>
    have h2 : d = [] := by simpa using h
    subst h2
    exact ⟨by decide, rfl, vfits2 _ (by decide)⟩
  | false =>
    obtain ⟨h1, h2⟩ := (keyRight_iff d).1 h
    exact ⟨h2, rfl, vfits2 _ (by show -32768 ≤ (d.length : Int) ∧ (d.length : Int) < 32768; omega)⟩
theorem was_rng {v p e : Int} (h : was v p e = true) : -1 ≤ p ∧ -1 ≤ e ∧ e ≤ 32767 := by
  unfold was at h
  rw [Bool.or_eq_true, Bool.and_eq_true, Bool.and_eq_true, beq_iff_eq, beq_iff_eq] at h
  rcases h with ⟨h1, h2⟩ | ⟨_, h2⟩
  · omega
  · have := who_t h2; omega
theorem addE_ok {d : Bs} {p e : Int} {l : List TopS} (h : addE d p e l = 0) : chkW d p e = 0 ∧ riseE l = 0 := by
  unfold addE at h
  by_cases h1 : chkW d p e ≠ 0
  · rw [if_pos h1] at h; exact absurd h h1
  · rw [if_neg h1] at h
    exact ⟨by simpa using h1, h⟩
theorem riseE_ok {l : List TopS} (h : riseE l = 0) : tRise l = true := by
  unfold riseE at h
  by_cases h1 : l = []
  · rw [if_pos h1] at h; cases h
  · rw [if_neg h1] at h
    by_cases h2 : tRise l = false
    · rw [if_pos h2] at h; cases h
    · simpa using h2

end Go.Proofs.YthppodbjjfkmfaaDoor

/- Values, there and back (pure). -/
namespace Go.Proofs.YthppodbjjfkmfaaDoor
open Go.RowKit

theorem sInt_back (n : Int) (k : Nat) (h1 : 1 ≤ k) (hf : fits n k) (R : Bs) : getIntN k (beBytes n k ++ R) = .ok (n, k) := by
  unfold getIntN
  have h4 := beBytes_length n k
  have hfit := hf.2.2
  rw [Int.toNat_natCast] at hfit
  have h5 := (sInt_beBytes_iff n k h1).2 hfit
  rw [if_neg (by rw [List.length_append]; omega), List.take_append_of_le_length (by omega), List.take_of_length_le (by omega), h5]
theorem cntP_back (each n : Nat) (X : Bs) (he : 0 < each) (hn : n < 2147483648) (hl : each * n ≤ X.length) : cntP each (beBytes n 4 ++ X) = .ok (n, 4) := by
  have h4 := beBytes_length (n : Int) 4
  have h5 : sInt (beBytes (n : Int) 4) = n := (sInt_beBytes_iff n 4 (by decide)).2 (vfits4 n (by omega)).2.2
  have h6 : (beBytes (n : Int) 4 ++ X).take 4 = beBytes (n : Int) 4 := by rw [List.take_append_of_le_length (by omega), List.take_of_length_le (by omega)]
  unfold cntP
  rw [h6, h5, if_neg (by rw [List.length_append]; omega), if_neg (by omega), if_neg (by
    rw [List.length_append, h4]
    have e : ((4 + X.length : Nat) : Int) - 4 = (X.length : Int) := by omega
    rw [e]
    have h7 : (n : Int) ≤ (X.length : Int) / (each : Int) := by
      rw [Int.le_ediv_iff_mul_le (by omega)]
      have h8 : (n : Int) * (each : Int) = ((each * n : Nat) : Int) := by rw [Nat.mul_comm]; exact (Int.natCast_mul _ _).symm
      omega
    omega)]
  simp
theorem intsB_back : ∀ (l : List Int) (R : Bs), (∀ n ∈ l, -2147483648 ≤ n ∧ n < 2147483648) → intsB l.length (be4s l ++ R) = l
  | [], R, _ => rfl
  | n :: l, R, h => by
    have h4 := beBytes_length n 4
    have h5 : sInt (beBytes n 4) = n := (sInt_beBytes_iff n 4 (by decide)).2 (vfits4 n (h n (by simp))).2.2
    have e : be4s (n :: l) ++ R = beBytes n 4 ++ (be4s l ++ R) := by
      show (List.flatMap _ (n :: l)) ++ R = _
      rw [List.flatMap_cons, List.append_assoc]
      rfl
    show sInt ((be4s (n :: l) ++ R).take 4) :: intsB l.length ((be4s (n :: l) ++ R).drop 4) = n :: l
    rw [e, List.take_append_of_le_length (by omega), List.take_of_length_le (by omega), h5, List.drop_append_of_le_length (by omega), List.drop_of_length_le (by omega), List.nil_append, intsB_back l R (fun m hm => h m (by simp [hm]))]
theorem partsP_back (l : List Int) (hn : l.length ≤ 1000000) (h : ∀ n ∈ l, -2147483648 ≤ n ∧ n < 2147483648) (R : Bs) : partsP (beBytes l.length 4 ++ be4s l ++ R) = .ok (l, (beBytes l.length 4 ++ be4s l).length) := by
  unfold partsP
  rw [List.append_assoc, cntP_back 4 l.length _ (by decide) (by omega) (by rw [List.length_append, be4s_len]; omega)]
  simp only
  have h4 := beBytes_length (l.length : Int) 4
  rw [List.drop_append_of_le_length (by omega), List.drop_of_length_le (by omega), List.nil_append, intsB_back l R h, List.length_append, h4, be4s_len]
theorem textP_back (d : Bs) (hd : d.length ≤ 32767) (R : Bs) : textP (encF 2 ⟨false, d⟩ ++ R) = .ok (d, (encF 2 ⟨false, d⟩).length) := by
  unfold textP
  rw [refixed_back 2 ⟨false, d⟩ (by simp [BlobS.right]) (vfits2 _ (by simp [BlobS.len]; omega)) R]
  simp
theorem topP_back (t : TopS) (h : t.Fit) (R : Bs) : topP (encT t ++ R) = .ok (t, (encT t).length) := by
  obtain ⟨nm, ps⟩ := t
  obtain ⟨h1, h2, h3⟩ := h
  unfold topP encT
  simp only
  rw [List.append_assoc, textP_back nm h1]
  simp only
  rw [List.drop_append_of_le_length (by omega), List.drop_of_length_le (by omega), List.nil_append, partsP_back ps h2 h3]
  simp only [List.length_append]
theorem topN_back : ∀ (l : List TopS) (R : Bs), (∀ t ∈ l, t.Fit) → topN l.length (l.flatMap encT ++ R) = .ok (l, (l.flatMap encT).length)
  | [], R, _ => rfl
  | t :: l, R, h => by
    have e : (t :: l).flatMap encT ++ R = encT t ++ (l.flatMap encT ++ R) := by rw [List.flatMap_cons, List.append_assoc]
    rw [e]
    show topN (l.length + 1) (encT t ++ (l.flatMap encT ++ R)) = _
    unfold topN
    rw [topP_back t (h t (by simp))]
    simp only
    rw [List.drop_append_of_le_length (by omega), List.drop_of_length_le (by omega), List.nil_append, topN_back l R (fun m hm => h m (by simp [hm]))]
    simp only [List.flatMap_cons, List.length_append]
theorem flat_least (l : List TopS) : 6 * l.length ≤ (l.flatMap encT).length := by
  induction l with
  | nil => simp
  | cons x m ih => rw [List.flatMap_cons, List.length_append, List.length_cons, encT_len]; omega
theorem topsP_back (l : List TopS) (h : FitTs l) (R : Bs) : topsP (encTs l ++ R) = .ok (l, (encTs l).length) := by
  have h4 := beBytes_length (l.length : Int) 4
  have hn := h.1
  have hl := flat_least l
  unfold topsP encTs
  rw [List.append_assoc, cntP_back 6 l.length _ (by decide) (by omega) (by rw [List.length_append]; omega)]
  simp only
  rw [List.drop_append_of_le_length (by omega), List.drop_of_length_le (by omega), List.nil_append, topN_back l R h.2]
  simp only [List.length_append, h4]
theorem step_back {α : Type} {f : InS → α × InS} {p : Bs → Except Int (α × Nat)} {d : α} (h : Rds f p d) (S A X R : Bs) (hS : S = A ++ X ++ R) (a : α) (k : Nat) (hk : X.length = k) (hp : p (X ++ R) = .ok (a, k)) : f ⟨S, A.length, 0⟩ = (a, ⟨S, (A ++ X).length, 0⟩) := by
  subst hS
  have h2 := (h.ok (A ++ X ++ R) A.length a k (by simp) (by rw [List.append_assoc, List.drop_append_of_le_length (by omega), List.drop_of_length_le (by omega), List.nil_append]; exact hp)).2
  rw [h2, List.length_append, hk]
theorem int_stepV (S A R : Bs) (n : Int) (k : Nat) (h1 : 1 ≤ k) (h8 : k ≤ 8) (hf : fits n k) (hS : S = A ++ beBytes n k ++ R) : (⟨S, A.length, 0⟩ : InS).int k = (n, ⟨S, (A ++ beBytes n k).length, 0⟩) :=
  step_back (rds_intN k h1 h8) S A _ R hS n k (beBytes_length n k) (sInt_back n k h1 hf R)
theorem valDec_back (v : ValS) (he : v.err = 0) (hR : v.R) (hf : FitTs v.tops) : valDec v.enc = (v, 0) := by
  obtain ⟨hp, ⟨hs1, hs2⟩, _⟩ := v.ok_parts he
  obtain ⟨q1, ⟨q2, q3⟩, ⟨q4, q5⟩, q6, q7⟩ := ranged_parts v hp
  obtain ⟨r1, r2, r3, r4, r5, r6⟩ := hR
  obtain ⟨S, hS⟩ : ∃ S, v.enc = S := ⟨_, rfl⟩
  obtain ⟨X0, hX0⟩ : ∃ X, beBytes 0 2 = X := ⟨_, rfl⟩
  obtain ⟨X1, hX1⟩ : ∃ X, beBytes v.prod 8 = X := ⟨_, rfl⟩
  obtain ⟨X2, hX2⟩ : ∃ X, beBytes v.epoch 2 = X := ⟨_, rfl⟩
  obtain ⟨X3, hX3⟩ : ∃ X, beBytes v.timeout 4 = X := ⟨_, rfl⟩
  obtain ⟨X4, hX4⟩ : ∃ X, beBytes v.state 1 = X := ⟨_, rfl⟩
  obtain ⟨X5, hX5⟩ : ∃ X, encTs v.tops = X := ⟨_, rfl⟩
  obtain ⟨X6, hX6⟩ : ∃ X, beBytes v.upd 8 = X := ⟨_, rfl⟩
  obtain ⟨X7, hX7⟩ : ∃ X, beBytes v.started 8 = X := ⟨_, rfl⟩
  obtain ⟨A2, hA2⟩ : ∃ A, X0 ++ X1 = A := ⟨_, rfl⟩
  obtain ⟨A3, hA3⟩ : ∃ A, A2 ++ X2 = A := ⟨_, rfl⟩
  obtain ⟨A4, hA4⟩ : ∃ A, A3 ++ X3 = A := ⟨_, rfl⟩
  obtain ⟨A5, hA5⟩ : ∃ A, A4 ++ X4 = A := ⟨_, rfl⟩
  obtain ⟨A6, hA6⟩ : ∃ A, A5 ++ X5 = A := ⟨_, rfl⟩
  obtain ⟨A7, hA7⟩ : ∃ A, A6 ++ X6 = A := ⟨_, rfl⟩
  obtain ⟨A8, hA8⟩ : ∃ A, A7 ++ X7 = A := ⟨_, rfl⟩
  have hSA : S = A8 := by rw [← hS, ← hA8, ← hA7, ← hA6, ← hA5, ← hA4, ← hA3, ← hA2, ← hX0, ← hX1, ← hX2, ← hX3, ← hX4, ← hX5, ← hX6, ← hX7]; rfl
  have e0 : S = ([] : Bs) ++ X0 ++ (X1 ++ (X2 ++ (X3 ++ (X4 ++ (X5 ++ (X6 ++ (X7))))))) := by rw [hSA, ← hA8, ← hA7, ← hA6, ← hA5, ← hA4, ← hA3, ← hA2]; all_goals simp only [List.append_assoc, List.append_nil, List.nil_append]
  have s0 : (⟨S, ([] : Bs).length, 0⟩ : InS).int 2 = (0, ⟨S, (([] : Bs) ++ X0).length, 0⟩) := by
    rw [← hX0] at e0 ⊢
    exact int_stepV S _ _ _ 2 (by decide) (by decide) (vfits2 _ (by omega)) e0
  have e1 : S = X0 ++ X1 ++ (X2 ++ (X3 ++ (X4 ++ (X5 ++ (X6 ++ (X7)))))) := by rw [hSA, ← hA8, ← hA7, ← hA6, ← hA5, ← hA4, ← hA3, ← hA2]; all_goals simp only [List.append_assoc, List.append_nil, List.nil_append]
  have s1 : (⟨S, X0.length, 0⟩ : InS).int 8 = (v.prod, ⟨S, (X0 ++ X1).length, 0⟩) := by
    rw [← hX1] at e1 ⊢
    exact int_stepV S _ _ _ 8 (by decide) (by decide) (vfits8 _ (by omega)) e1
  rw [hA2] at s1
  have e2 : S = A2 ++ X2 ++ (X3 ++ (X4 ++ (X5 ++ (X6 ++ (X7))))) := by rw [hSA, ← hA8, ← hA7, ← hA6, ← hA5, ← hA4, ← hA3, ← hA2]; all_goals simp only [List.append_assoc, List.append_nil, List.nil_append]
  have s2 : (⟨S, A2.length, 0⟩ : InS).int 2 = (v.epoch, ⟨S, (A2 ++ X2).length, 0⟩) := by
    rw [← hX2] at e2 ⊢
    exact int_stepV S _ _ _ 2 (by decide) (by decide) (vfits2 _ (by omega)) e2
  rw [hA3] at s2
  have e3 : S = A3 ++ X3 ++ (X4 ++ (X5 ++ (X6 ++ (X7)))) := by rw [hSA, ← hA8, ← hA7, ← hA6, ← hA5, ← hA4, ← hA3, ← hA2]; all_goals simp only [List.append_assoc, List.append_nil, List.nil_append]
  have s3 : (⟨S, A3.length, 0⟩ : InS).int 4 = (v.timeout, ⟨S, (A3 ++ X3).length, 0⟩) := by
    rw [← hX3] at e3 ⊢
    exact int_stepV S _ _ _ 4 (by decide) (by decide) (vfits4 _ (by omega)) e3
  rw [hA4] at s3
  have e4 : S = A4 ++ X4 ++ (X5 ++ (X6 ++ (X7))) := by rw [hSA, ← hA8, ← hA7, ← hA6, ← hA5, ← hA4, ← hA3, ← hA2]; all_goals simp only [List.append_assoc, List.append_nil, List.nil_append]
  have s4 : (⟨S, A4.length, 0⟩ : InS).int 1 = (v.state, ⟨S, (A4 ++ X4).length, 0⟩) := by
    rw [← hX4] at e4 ⊢
    exact int_stepV S _ _ _ 1 (by decide) (by decide) (vfits1 _ (by omega)) e4
  rw [hA5] at s4
  have e5 : S = A5 ++ X5 ++ (X6 ++ (X7)) := by rw [hSA, ← hA8, ← hA7, ← hA6, ← hA5, ← hA4, ← hA3, ← hA2]; all_goals simp only [List.append_assoc, List.append_nil, List.nil_append]
  have s5 : (⟨S, A5.length, 0⟩ : InS).tops = (v.tops, ⟨S, (A5 ++ X5).length, 0⟩) := by
    rw [← hX5] at e5 ⊢
    exact step_back rds_tops S _ _ _ e5 _ _ rfl (topsP_back _ hf _)
  rw [hA6] at s5
  have e6 : S = A6 ++ X6 ++ (X7) := by rw [hSA, ← hA8, ← hA7, ← hA6, ← hA5, ← hA4, ← hA3, ← hA2]; all_goals simp only [List.append_assoc, List.append_nil, List.nil_append]
  have s6 : (⟨S, A6.length, 0⟩ : InS).int 8 = (v.upd, ⟨S, (A6 ++ X6).length, 0⟩) := by
    rw [← hX6] at e6 ⊢
    exact int_stepV S _ _ _ 8 (by decide) (by decide) (vfits8 _ (by omega)) e6
  rw [hA7] at s6
  have e7 : S = A7 ++ X7 ++ ([]) := by rw [hSA, ← hA8, ← hA7, ← hA6, ← hA5, ← hA4, ← hA3, ← hA2]; all_goals simp only [List.append_assoc, List.append_nil, List.nil_append]
  have s7 : (⟨S, A7.length, 0⟩ : InS).int 8 = (v.started, ⟨S, (A7 ++ X7).length, 0⟩) := by
    rw [← hX7] at e7 ⊢
    exact int_stepV S _ _ _ 8 (by decide) (by decide) (vfits8 _ (by omega)) e7
  rw [hA8] at s7
  rw [List.nil_append] at s0
  have s0 : (⟨S, 0, 0⟩ : InS).int 2 = (0, ⟨S, X0.length, 0⟩) := s0
  have hI : decI S = ⟨S, X0.length, 0⟩ := by unfold decI; rw [s0]; rfl
  have hV := valF_eq s1 s2 s3 s4 s5 s6 s7
  have hL : (⟨S, A8.length, 0⟩ : InS).left = 0 := by
    subst hSA
    exact Nat.sub_self _
  have hC : (⟨S, A8.length, 0⟩ : InS).close = ⟨S, A8.length, 0⟩ := by unfold InS.close; rw [hL]; rfl
  have hE : decE S = 0 := by unfold decE; rw [hI, hV, hC]
  rw [hS]
  unfold valDec
  rw [hE, hI, hV]
  show (if (v.err ≠ 0) then _ else _) = _
  rw [he]
  rfl

end Go.Proofs.YthppodbjjfkmfaaDoor

/- Heads and bodies (pure). -/
namespace Go.Proofs.YthppodbjjfkmfaaDoor
open Go.RowKit

theorem ver22 {v : Int} (h : verErr 22 v = 0) : v = 0 ∨ v = 1 := by
  have e : verErr 22 v = if (v < 0 ∨ 1 < v) then 7 else 0 := rfl
  rw [e] at h
  by_cases hc : v < 0 ∨ 1 < v
  · rw [if_pos hc] at h; cases h
  · omega
theorem fixed_stepW (S A R : Bs) (nl : Bool) (d : Bs) (h : idOk nl d = true) (hS : S = A ++ encF 2 ⟨nl, d⟩ ++ R) : (⟨S, A.length, 0⟩ : InS).fixed 2 = (⟨nl, d⟩, ⟨S, (A ++ encF 2 ⟨nl, d⟩).length, 0⟩) := by
  obtain ⟨_, h2, h3⟩ := idOk_len h
  exact step_back (rds_fixed 2 (by decide) (by decide)) S A _ R hS ⟨nl, d⟩ _ rfl (refixed_back 2 ⟨nl, d⟩ h2 h3 R)
theorem text_stepW (S A R : Bs) (d : Bs) (h : d.length ≤ 32767) (hS : S = A ++ encF 2 ⟨false, d⟩ ++ R) : (⟨S, A.length, 0⟩ : InS).text = (d, ⟨S, (A ++ encF 2 ⟨false, d⟩).length, 0⟩) :=
  step_back rds_text S A _ R hS d _ rfl (textP_back d h R)
theorem bool_stepW (S A R : Bs) (c : Bool) (hS : S = A ++ encO c ++ R) : (⟨S, A.length, 0⟩ : InS).boolP = (c, ⟨S, (A ++ encO c).length, 0⟩) := by
  have e0 : encO c = beBytes (if c then 1 else 0) 1 := by cases c <;> rfl
  have h := int_stepV S A R (if c then 1 else 0) 1 (by decide) (by decide) (vfits1 _ (by cases c <;> decide)) (by rw [← e0]; exact hS)
  have h2 : (⟨S, A.length, 0⟩ : InS).int 1 = (if c then 1 else 0, ⟨S, (A ++ encO c).length, 0⟩) := by rw [e0]; exact h
  unfold InS.boolP
  rw [h2]
  cases c <;> rfl
theorem was_0W {p e : Int} (h : was 0 p e = true) : p = -1 ∧ e = -1 := by
  unfold was at h
  rw [Bool.or_eq_true, Bool.and_eq_true, Bool.and_eq_true, beq_iff_eq, beq_iff_eq] at h
  rcases h with h | ⟨h1, _⟩
  · exact h
  · simp at h1
theorem close_endW (s : Bs) : (⟨s, s.length, 0⟩ : InS).close.err = 0 := by
  unfold InS.close
  rw [if_neg (show ¬ 0 < InS.left ⟨s, s.length, 0⟩ by unfold InS.left; simp only; omega)]
theorem err_endW (s : Bs) : (⟨s, s.length, 0⟩ : InS).err = 0 := rfl
theorem head_lenW (h : HeadS) (hl : h.cli.data.length ≤ 1000) : (encHead h).length ≤ 2000 := by
  simp only [encHead, encF, List.length_append, beBytes_length]
  omega
theorem head_backW (h : HeadS) (hh : headErr h = 0) (r : Bs) : (⟨encHead h ++ r, 0, 0⟩ : InS).head = (h, ⟨encHead h ++ r, (encHead h).length, 0⟩) := by
  have h1 := rds_head.ok (encHead h ++ r) 0 h (encHead h).length (Nat.zero_le _) (by rw [List.drop_zero]; exact reHead_back h hh r)
  have h2 := h1.2
  rw [Nat.zero_add] at h2
  exact h2

end Go.Proofs.YthppodbjjfkmfaaDoor

/- Heads of requests: which may be, and how they are written. -/
namespace Go.Proofs.YthppodbjjfkmfaaDoor
open Go.RowKit

theorem raw5 {W0 w : World} {K : Know} {L : List Res} {b : Nat} {a0 a1 a2 a3 a4 : Value} {T : TypeId} (h : St W0 w K (.raw b #[a0, a1, a2, a3, a4] T :: L)) :
    w.cell? ⟨b, 0, none⟩ = some a0 ∧ w.cell? ⟨b, 1, none⟩ = some a1 ∧ w.cell? ⟨b, 2, none⟩ = some a2 ∧ w.cell? ⟨b, 3, none⟩ = some a3 ∧ w.cell? ⟨b, 4, none⟩ = some a4 ∧ w.frozen? ⟨b, 0, none⟩ = false ∧ w.frozen? ⟨b, 1, none⟩ = false ∧ w.frozen? ⟨b, 2, none⟩ = false ∧ w.frozen? ⟨b, 3, none⟩ = false ∧ w.frozen? ⟨b, 4, none⟩ = false :=
  ⟨(h.rawCell 0).trans rfl, (h.rawCell 1).trans rfl, (h.rawCell 2).trans rfl, (h.rawCell 3).trans rfl, (h.rawCell 4).trans rfl, h.rawFree 0, h.rawFree 1, h.rawFree 2, h.rawFree 3, h.rawFree 4⟩
/-- Which way a head's check goes. -/
inductive HeadWay (a v n : Int) (u : Bool) (d : Bs) : Int → Prop where
  | vers : verErr a v ≠ 0 → HeadWay a v n u d (verErr a v)
  | range : verErr a v = 0 → ¬ fits n 4 → HeadWay a v n u d 11
  | wrong : verErr a v = 0 → fits n 4 → u = true → d ≠ [] → HeadWay a v n u d 4
  | long : verErr a v = 0 → fits n 4 → u = false → 32767 < d.length → HeadWay a v n u d 4
  | right : verErr a v = 0 → fits n 4 → (u = true → d = []) → d.length ≤ 32767 → HeadWay a v n u d 0
theorem headWay (a v n : Int) (u : Bool) (d : Bs) : HeadWay a v n u d (headErr ⟨a, v, n, ⟨u, d⟩⟩) := by
  unfold headErr BlobS.right
  simp only
  by_cases h1 : verErr a v = 0
  · rw [if_neg (fun x => x h1)]
    by_cases h2 : fits n 4
    · rw [if_neg (fun x => x h2)]
      cases u with
      | true =>
        cases d with
        | nil => exact .right h1 h2 (fun _ => rfl) (by simp)
        | cons c t => exact .wrong h1 h2 rfl (by simp)
      | false =>
        by_cases h3 : 32767 < d.length
        · rw [if_pos (.inr h3)]; exact .long h1 h2 rfl h3
        · rw [if_neg (by simp; omega)]; exact .right h1 h2 (fun h => by cases h) (by omega)
    · rw [if_pos h2]; exact .range h1 h2
  · rw [if_pos h1]; exact .vers h1
theorem blob_rightQ (u : Bool) (d : Bs) (r : Bool) (hr : (⟨u, d⟩ : BlobS).right = r) {W0 w : World} {K : Know} {L : List Res} (h : St W0 w K L) :
    Calls Tryd.prog 20 #[.agg #[.bool u, .string (bb d)]] w fun en w' => en = .returned (.bool r) ∧ St W0 w' K L := by
  subst hr; exact blob_right ⟨u, d⟩ h
theorem fits_Q (n : Int) (r : Bool) (hr : decide (fits n 4) = r) (hn : -9223372036854775808 ≤ n ∧ n < 9223372036854775808) {W0 w : World} {K : Know} {L : List Res} (h : St W0 w K L) :
    Calls Tryd.prog 19 #[.int .i64 n, .int .i64 4] w fun en w' => en = .returned (.bool r) ∧ St W0 w' K L := by
  subst hr; exact so_fits n 4 hn h

set_option maxHeartbeats 1000000 in
set_option maxRecDepth 100000 in
theorem req_check (a v n : Int) (u : Bool) (d : Bs) (q : Int) (hq : headErr ⟨a, v, n, ⟨u, d⟩⟩ = q) (hn : -9223372036854775808 ≤ n ∧ n < 9223372036854775808) {W0 w : World} {K : Know} {L : List Res} (hk : K.has Know.reqs) (h : St W0 w K L) :
    Calls Tryd.prog 4 #[.agg #[.int .i64 a, .int .i64 v, .int .i64 n, .bool u, .string (bb d)]] w fun en w' => en = .returned (.int .i64 q) ∧ St W0 w' K L := by
  have h1 := h.allocRaw #[.int .i64 a, .int .i64 v, .int .i64 n, .bool u, .string (bb d)] 25
  obtain ⟨hb, hhb⟩ : ∃ b, w.heap.size = b := ⟨_, rfl⟩
  rw [hhb] at h1
  have HN := Lib.hid hn
  have HK := Lib.hid hk
  obtain ⟨x0, x1, x2, x3, x4, y0, y1, y2, y3, y4⟩ := raw5 (b := hb) (h1)
  have H := Lib.hid h1
  clear h h1 hk hn
  have hw := headWay a v n u d
  rw [hq] at hw
  clear hq
  cases hw with
  | vers g =>
    obtain ⟨q, hq⟩ : ∃ q, verErr a v = q := ⟨_, rfl⟩
    rw [hq] at g ⊢
    have HQ := Lib.hid hq
    have gz : (q == 0) = false := by rw [beq_eq_false_iff_ne]; exact g
    clear hq
    go_enter Tryd.func4, Tryd.ntmps4
    go_wp2_with (first
      | (go_at_call 18; (with_reducible refine (ver_check a v _ HQ.out HK.out H.out).mono ?_); rintro e wn ⟨rfl, h⟩; replace H := Lib.hid h; clear h; obtain ⟨x0, x1, x2, x3, x4, y0, y1, y2, y3, y4⟩ := raw5 (b := hb) (H.out)))
    go_ret
    exact ⟨rfl, H.out.drop⟩
  | range g1 g2 =>
    have HQ := Lib.hid g1
    have HF := Lib.hid (show decide (fits n 4) = false from decide_eq_false g2)
    clear g1 g2
    go_enter Tryd.func4, Tryd.ntmps4
    go_wp2_with (first
      | (go_at_call 18; (with_reducible refine (ver_check a v _ HQ.out HK.out H.out).mono ?_); rintro e wn ⟨rfl, h⟩; replace H := Lib.hid h; clear h; obtain ⟨x0, x1, x2, x3, x4, y0, y1, y2, y3, y4⟩ := raw5 (b := hb) (H.out))
      | (go_at_call 19; (with_reducible refine (fits_Q n false HF.out HN.out H.out).mono ?_); rintro e wn ⟨rfl, h⟩; replace H := Lib.hid h; clear h; obtain ⟨x0, x1, x2, x3, x4, y0, y1, y2, y3, y4⟩ := raw5 (b := hb) (H.out)))
    go_ret
    exact ⟨rfl, H.out.drop⟩
  | wrong g1 g2 g3 g4 =>
    have HQ := Lib.hid g1
    have HF := Lib.hid (show decide (fits n 4) = true from decide_eq_true g2)
    have HR := Lib.hid (show (⟨u, d⟩ : BlobS).right = false by unfold BlobS.right; rw [g3]; cases d with
      | nil => exact absurd rfl g4
      | cons c t => rfl)
    clear g1 g2 g3 g4
    go_enter Tryd.func4, Tryd.ntmps4
    go_wp2_with (first
      | (go_at_call 18; (with_reducible refine (ver_check a v _ HQ.out HK.out H.out).mono ?_); rintro e wn ⟨rfl, h⟩; replace H := Lib.hid h; clear h; obtain ⟨x0, x1, x2, x3, x4, y0, y1, y2, y3, y4⟩ := raw5 (b := hb) (H.out))
      | (go_at_call 19; (with_reducible refine (fits_Q n true HF.out HN.out H.out).mono ?_); rintro e wn ⟨rfl, h⟩; replace H := Lib.hid h; clear h; obtain ⟨x0, x1, x2, x3, x4, y0, y1, y2, y3, y4⟩ := raw5 (b := hb) (H.out))
      | (go_at_call 20; (with_reducible refine (blob_rightQ u d _ HR.out H.out).mono ?_); rintro e wn ⟨rfl, h⟩; replace H := Lib.hid h; clear h; obtain ⟨x0, x1, x2, x3, x4, y0, y1, y2, y3, y4⟩ := raw5 (b := hb) (H.out)))
    go_ret
    exact ⟨rfl, H.out.drop⟩
  | long g1 g2 g3 g4 =>
    have HQ := Lib.hid g1
    have HF := Lib.hid (show decide (fits n 4) = true from decide_eq_true g2)
    have HR := Lib.hid (show (⟨u, d⟩ : BlobS).right = true by unfold BlobS.right; rw [g3]; rfl)
    have dl : decide ((32767 : Int) < (d.length : Int)) = true := decide_eq_true (by omega)
    clear g1 g2 g3 g4
    go_enter Tryd.func4, Tryd.ntmps4
    go_wp2_with (first
      | (go_at_call 18; (with_reducible refine (ver_check a v _ HQ.out HK.out H.out).mono ?_); rintro e wn ⟨rfl, h⟩; replace H := Lib.hid h; clear h; obtain ⟨x0, x1, x2, x3, x4, y0, y1, y2, y3, y4⟩ := raw5 (b := hb) (H.out))
      | (go_at_call 19; (with_reducible refine (fits_Q n true HF.out HN.out H.out).mono ?_); rintro e wn ⟨rfl, h⟩; replace H := Lib.hid h; clear h; obtain ⟨x0, x1, x2, x3, x4, y0, y1, y2, y3, y4⟩ := raw5 (b := hb) (H.out))
      | (go_at_call 20; (with_reducible refine (blob_rightQ u d _ HR.out H.out).mono ?_); rintro e wn ⟨rfl, h⟩; replace H := Lib.hid h; clear h; obtain ⟨x0, x1, x2, x3, x4, y0, y1, y2, y3, y4⟩ := raw5 (b := hb) (H.out)))
    go_ret
    exact ⟨rfl, H.out.drop⟩
  | right g1 g2 g3 g4 =>
    have HQ := Lib.hid g1
    have HF := Lib.hid (show decide (fits n 4) = true from decide_eq_true g2)
    have HR := Lib.hid (show (⟨u, d⟩ : BlobS).right = true by unfold BlobS.right; cases u with
      | false => rfl
      | true => rw [g3 rfl]; rfl)
    have dl : decide ((32767 : Int) < (d.length : Int)) = false := decide_eq_false (by omega)
    clear g1 g2 g3 g4
    go_enter Tryd.func4, Tryd.ntmps4
    go_wp2_with (first
      | (go_at_call 18; (with_reducible refine (ver_check a v _ HQ.out HK.out H.out).mono ?_); rintro e wn ⟨rfl, h⟩; replace H := Lib.hid h; clear h; obtain ⟨x0, x1, x2, x3, x4, y0, y1, y2, y3, y4⟩ := raw5 (b := hb) (H.out))
      | (go_at_call 19; (with_reducible refine (fits_Q n true HF.out HN.out H.out).mono ?_); rintro e wn ⟨rfl, h⟩; replace H := Lib.hid h; clear h; obtain ⟨x0, x1, x2, x3, x4, y0, y1, y2, y3, y4⟩ := raw5 (b := hb) (H.out))
      | (go_at_call 20; (with_reducible refine (blob_rightQ u d _ HR.out H.out).mono ?_); rintro e wn ⟨rfl, h⟩; replace H := Lib.hid h; clear h; obtain ⟨x0, x1, x2, x3, x4, y0, y1, y2, y3, y4⟩ := raw5 (b := hb) (H.out)))
    go_ret
    exact ⟨rfl, H.out.drop⟩

theorem so_intQ (p : Nat) (o o2 : OutS) (n size : Int) (hx : o.int n size = o2) (hn : -9223372036854775808 ≤ n ∧ n < 9223372036854775808) (hr : o.ok 8) {W0 w : World} {K : Know} {L : List Res} (h : St W0 w K (.out p o :: L)) :
    Calls Tryd.prog 22 #[outPtr p, .int .i64 n, .int .i64 size] w fun en w' => en = .returned (.tuple #[]) ∧ St W0 w' K (.out p o2 :: L) := by
  subst hx; exact so_int p o n size hn h hr
theorem so_failQ (p : Nat) (o o2 : OutS) (e : Int) (hx : o.fail e = o2) {W0 w : World} {K : Know} {L : List Res} (h : St W0 w K (.out p o :: L)) :
    Calls Tryd.prog 21 #[outPtr p, .int .i64 e] w fun en w' => en = .returned (.tuple #[]) ∧ St W0 w' K (.out p o2 :: L) := by
  subst hx; exact so_fail p o e h
theorem blob_putFixedQ (p : Nat) (o o2 : OutS) (u : Bool) (d : Bs) (hx : o.putFixed ⟨u, d⟩ 2 = o2) (hr : o.ok (d.length + 8)) {W0 w : World} {K : Know} {L : List Res} (h : St W0 w K (.out p o :: L)) :
    Calls Tryd.prog 23 #[outPtr p, .agg #[.bool u, .string (bb d)], .int .i64 2] w fun en w' => en = .returned (.tuple #[]) ∧ St W0 w' K (.out p o2 :: L) := by
  subst hx; exact blob_putFixed p o ⟨u, d⟩ 2 h hr
set_option maxHeartbeats 1000000 in
set_option maxRecDepth 100000 in
theorem req_write_bad (p : Nat) (o o2 : OutS) (a v n : Int) (u : Bool) (d : Bs) (q : Int) (hq : headErr ⟨a, v, n, ⟨u, d⟩⟩ = q) (g : q ≠ 0) (hx : o.fail q = o2) (hn : -9223372036854775808 ≤ n ∧ n < 9223372036854775808) {W0 w : World} {K : Know} {L : List Res} (hk : K.has Know.reqs) (h : St W0 w K (.out p o :: L)) :
    Calls Tryd.prog 5 #[outPtr p, .agg #[.int .i64 a, .int .i64 v, .int .i64 n, .bool u, .string (bb d)]] w fun en w' => en = .returned (.tuple #[]) ∧ St W0 w' K (.out p o2 :: L) := by
  have h1 := h.allocRaw #[.int .i64 a, .int .i64 v, .int .i64 n, .bool u, .string (bb d)] 25
  obtain ⟨hb, hhb⟩ : ∃ b, w.heap.size = b := ⟨_, rfl⟩
  rw [hhb] at h1
  have HN := Lib.hid hn
  have HK := Lib.hid hk
  have HQ := Lib.hid hq
  have HX := Lib.hid hx
  obtain ⟨x0, x1, x2, x3, x4, y0, y1, y2, y3, y4⟩ := raw5 (b := hb) (h1)
  have H := Lib.hid h1
  have gz : (q == 0) = false := by rw [beq_eq_false_iff_ne]; exact g
  clear h h1 hk hn hq hx
  go_enter Tryd.func5, Tryd.ntmps5
  go_wp2_with (first
    | (go_at_call 4; (with_reducible refine (req_check a v n u d q HQ.out HN.out HK.out H.out).mono ?_); rintro e wn ⟨rfl, h⟩; replace H := Lib.hid h; clear h; obtain ⟨x0, x1, x2, x3, x4, y0, y1, y2, y3, y4⟩ := raw5 (b := hb) (H.out))
    | (go_at_call 21; (with_reducible refine (so_failQ p o o2 q HX.out H.out.p1).mono ?_); rintro e wn ⟨rfl, h⟩; replace H := Lib.hid h; clear h))
  refine bodyPost_ret (results_none rfl _ _ _) rfl ⟨rfl, H.out.p1.drop⟩
set_option maxHeartbeats 1000000 in
set_option maxRecDepth 100000 in
theorem req_write_ok (p : Nat) (o1 o2 o3 o4 o5 : OutS) (a v n : Int) (u : Bool) (d : Bs) (hq : headErr ⟨a, v, n, ⟨u, d⟩⟩ = 0) (e1 : o1.int a 2 = o2) (e2 : o2.int v 2 = o3) (e3 : o3.int n 4 = o4) (e4 : o4.putFixed ⟨u, d⟩ 2 = o5)
    (ra : -9223372036854775808 ≤ a ∧ a < 9223372036854775808) (rv : -9223372036854775808 ≤ v ∧ v < 9223372036854775808) (hn : -9223372036854775808 ≤ n ∧ n < 9223372036854775808) (k1 : o1.ok 8) (k2 : o2.ok 8) (k3 : o3.ok 8) (k4 : o4.ok (d.length + 8)) {W0 w : World} {K : Know} {L : List Res} (hk : K.has Know.reqs) (h : St W0 w K (.out p o1 :: L)) :
    Calls Tryd.prog 5 #[outPtr p, .agg #[.int .i64 a, .int .i64 v, .int .i64 n, .bool u, .string (bb d)]] w fun en w' => en = .returned (.tuple #[]) ∧ St W0 w' K (.out p o5 :: L) := by
  have h1 := h.allocRaw #[.int .i64 a, .int .i64 v, .int .i64 n, .bool u, .string (bb d)] 25
  obtain ⟨hb, hhb⟩ : ∃ b, w.heap.size = b := ⟨_, rfl⟩
  rw [hhb] at h1
  have HN := Lib.hid hn
  have HK := Lib.hid hk
  obtain ⟨q, hq0⟩ : ∃ q, (0 : Int) = q := ⟨_, rfl⟩
  have HQ := Lib.hid hq
  have E1 := Lib.hid e1
  have E2 := Lib.hid e2
  have E3 := Lib.hid e3
  have E4 := Lib.hid e4
  have RA := Lib.hid ra
  have RV := Lib.hid rv
  have K1 := Lib.hid k1
  have K2 := Lib.hid k2
  have K3 := Lib.hid k3
  have K4 := Lib.hid k4
  obtain ⟨x0, x1, x2, x3, x4, y0, y1, y2, y3, y4⟩ := raw5 (b := hb) (h1)
  have H := Lib.hid h1
  clear h h1 hk hn hq e1 e2 e3 e4 ra rv k1 k2 k3 k4 hq0 q
  have t1 : True := trivial
  go_enter Tryd.func5, Tryd.ntmps5
  go_wp2_with (first
    | (go_at_call 4; (with_reducible refine (req_check a v n u d _ HQ.out HN.out HK.out H.out).mono ?_); rintro e wn ⟨rfl, h⟩; replace H := Lib.hid h; clear h; obtain ⟨x0, x1, x2, x3, x4, y0, y1, y2, y3, y4⟩ := raw5 (b := hb) (H.out))
    | (go_at_call 22; have _t := t1; clear _t; (with_reducible refine (so_intQ p o1 o2 a 2 E1.out RA.out K1.out H.out.p1).mono ?_); rintro e wn ⟨rfl, h⟩; replace H := Lib.hid h; clear h; replace H := Lib.hid H.out.p1; obtain ⟨x0, x1, x2, x3, x4, y0, y1, y2, y3, y4⟩ := raw5 (b := hb) (H.out); have t2 : True := trivial; clear t1)
    | (go_at_call 22; have _t := t2; clear _t; (with_reducible refine (so_intQ p o2 o3 v 2 E2.out RV.out K2.out H.out.p1).mono ?_); rintro e wn ⟨rfl, h⟩; replace H := Lib.hid h; clear h; replace H := Lib.hid H.out.p1; obtain ⟨x0, x1, x2, x3, x4, y0, y1, y2, y3, y4⟩ := raw5 (b := hb) (H.out); have t3 : True := trivial; clear t2)
    | (go_at_call 22; have _t := t3; clear _t; (with_reducible refine (so_intQ p o3 o4 n 4 E3.out HN.out K3.out H.out.p1).mono ?_); rintro e wn ⟨rfl, h⟩; replace H := Lib.hid h; clear h; replace H := Lib.hid H.out.p1; obtain ⟨x0, x1, x2, x3, x4, y0, y1, y2, y3, y4⟩ := raw5 (b := hb) (H.out); clear t3)
    | (go_at_call 23; (with_reducible refine (blob_putFixedQ p o4 o5 u d E4.out K4.out H.out.p1).mono ?_); rintro e wn ⟨rfl, h⟩; replace H := Lib.hid h; clear h))
  refine bodyPost_end (results_none rfl _ _ _) rfl ⟨rfl, H.out.p1.drop⟩

end Go.Proofs.YthppodbjjfkmfaaDoor

/- Heads of requests: the reference: which may be. -/
namespace Go.Proofs.YthppodbjjfkmfaaDoor
open Go.RowKit

end Go.Proofs.YthppodbjjfkmfaaDoor
