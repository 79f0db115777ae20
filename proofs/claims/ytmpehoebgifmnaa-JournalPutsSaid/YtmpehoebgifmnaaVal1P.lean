/- A text. -/
import Derived.Test.YtmpehoebgifmnaaRecs
import Derived.Test.YtmpehoebgifmnaaFld1
import Derived.Test.YtmpehoebgifmnaaGrow
namespace Go.Proofs.Ytmpehoebgifmnaa
open Go.RowKit

structure TopS where
  name : Bs
  parts : List Int
deriving DecidableEq
def RTop (cs : List Value) (x : TopS × Value) : Prop := cs = [.string (bb x.1.name), x.2]
def tcells (x : TopS × Value) : List Value := [.string (bb x.1.name), x.2]
def RSt (cs : List Value) (x : Bs) : Prop := cs = [.string (bb x)]
def Know.tops (v : Value) (l : List (TopS × Value)) : Know := (Know.flat RTop v 2 l).and (Know.all l fun x => Know.flat RI x.2 1 x.1.parts)
theorem tops_flat {K : Know} {v : Value} {l : List (TopS × Value)} (h : K.has (Know.tops v l)) : K.has (Know.flat RTop v 2 l) := fun w F x => (h w F x).1
theorem tops_parts {K : Know} {v : Value} {l : List (TopS × Value)} (h : K.has (Know.tops v l)) {x : TopS × Value} (hx : x ∈ l) : K.has (Know.flat RI x.2 1 x.1.parts) := fun w F y => (h w F y).2 x hx
theorem tops_form {W0 w : World} {K : Know} {L : List Res} {v : Value} {l : List (TopS × Value)} (hk : K.has (Know.tops v l)) (h : St W0 w K L) : ∃ q cap, v = .slice q l.length cap := by
 obtain ⟨F, hF, _⟩ := h.get; obtain ⟨q, cap, hv, _⟩ := (tops_flat hk _ _ hF).at; exact ⟨q, cap, hv⟩
theorem tops_at {W0 w : World} {K : Know} {L : List Res} {q : Option Addr} {n cap : Nat} {l : List (TopS × Value)} (hk : K.has (Know.tops (.slice q n cap) l)) (h : St W0 w K L) (h0 : 0 < l.length) : ∃ b off, q = some ⟨b, off, none⟩ := by
 obtain ⟨F, hF, _⟩ := h.get; obtain ⟨q2, cap2, hv, hr⟩ := (tops_flat hk _ _ hF).at; obtain ⟨b, off, hq, _⟩ := hr h0; simp at hv; exact ⟨b, off, hv.1.trans hq⟩
theorem tops_cell {W0 w : World} {K : Know} {L : List Res} {b off n cap : Nat} {l : List (TopS × Value)} (hk : K.has (Know.tops (.slice (some ⟨b, off, none⟩) n cap) l)) (h : St W0 w K L) (i : Nat) (hi : i < l.length) (x : TopS × Value) (hx : l[i] = x) :
  w.cell? ⟨b, off + i * 2, none⟩ = some (.string (bb x.1.name)) ∧ w.cell? ⟨b, off + i * 2 + 1, none⟩ = some x.2 := by
 subst hx; obtain ⟨F, hF, _⟩ := h.get; obtain ⟨q2, cap2, hv, hr⟩ := (tops_flat hk _ _ hF).at; obtain ⟨b2, off2, hq, hc⟩ := hr (by omega); rw [hq] at hv; simp at hv; obtain ⟨⟨rfl, rfl⟩, _, _⟩ := hv; obtain ⟨cs, _, hR, hcs⟩ := hc i hi; unfold RTop at hR; subst hR; exact ⟨hcs 0 _ rfl, by rw [Nat.add_assoc]; exact hcs 1 _ rfl⟩
theorem int_cell {W0 w : World} {K : Know} {L : List Res} {b off n cap : Nat} {l : List Int} (hk : K.has (Know.flat RI (.slice (some ⟨b, off, none⟩) n cap) 1 l)) (h : St W0 w K L) (i : Nat) (hi : i < l.length) : w.cell? ⟨b, off + i, none⟩ = some (.int .i64 (l.getD i 0)) := by
 obtain ⟨cs, hR, hc⟩ := flat_cell hk h i hi; unfold RI at hR; subst hR; have c0 := hc 0 _ rfl; rw [Nat.mul_one, Nat.add_zero] at c0; rw [c0, List.getD_eq_getElem?_getD, List.getElem?_eq_getElem hi]
 rfl
theorem str_cell {W0 w : World} {K : Know} {L : List Res} {b off n cap : Nat} {l : List Bs} (hk : K.has (Know.flat RSt (.slice (some ⟨b, off, none⟩) n cap) 1 l)) (h : St W0 w K L) (i : Nat) (hi : i < l.length) : w.cell? ⟨b, off + i, none⟩ = some (.string (bb (l.getD i []))) := by
 obtain ⟨cs, hR, hc⟩ := flat_cell hk h i hi; unfold RSt at hR; subst hR; have c0 := hc 0 _ rfl; rw [Nat.mul_one, Nat.add_zero] at c0; rw [c0, List.getD_eq_getElem?_getD, List.getElem?_eq_getElem hi]
 rfl
def allN (n : Nat) (p : Nat → Bool) : Bool := (List.range n).all p
theorem allN_true {n : Nat} {p : Nat → Bool} (h : ∀ k, k < n → p k = true) : allN n p = true := by
 unfold allN; rw [List.all_eq_true]; intro x hx; exact h x (List.mem_range.1 hx)
theorem allN_at {n : Nat} {p : Nat → Bool} (h : allN n p = true) (k : Nat) (hk : k < n) : p k = true := List.all_eq_true.1 h k (List.mem_range.2 hk)
theorem allN_false {n : Nat} {p : Nat → Bool} (k : Nat) (hk : k < n) (h : p k = false) : allN n p = false := by
 cases hh : allN n p with
 | false => rfl
 | true => have := allN_at hh k hk; rw [h] at this; cases this
theorem allN_ext {n : Nat} {p q : Nat → Bool} (h : ∀ k, k < n → p k = q k) : allN n p = allN n q := by
 cases hh : allN n q with
 | true => exact allN_true fun k hk => (h k hk).trans (allN_at hh k hk)
 | false =>
  cases h2 : allN n p with
  | false => rfl
  | true => rw [allN_true fun k hk => (h k hk).symm.trans (allN_at h2 k hk)] at hh; cases hh
def upI (l : List Int) (k : Nat) : Bool := k == 0 || decide (l.getD (k - 1) 0 < l.getD k 0)
def upS (l : List Bs) (k : Nat) : Bool := k == 0 || Op.bytesLess (l.getD (k - 1) []) (l.getD k [])
def riseI (l : List Int) : Bool := allN l.length (upI l)
def riseS (l : List Bs) : Bool := allN l.length (upS l)
theorem lex_leq : ∀ x y : Bs, (Op.bytesLess x y || x == y) = !Op.bytesLess y x
  | [], [] => rfl
  | [], _ :: _ => rfl
  | _ :: _, [] => rfl
  | a :: x, b :: y => by
    have ih := lex_leq x y
    show ((decide (a < b) || (a == b && Op.bytesLess x y)) || (a == b && x == y)) = !(decide (b < a) || (b == a && Op.bytesLess y x))
    by_cases h1 : a = b
    · subst h1; have h2 : ¬ a < a := by rw [UInt8.lt_iff_toNat_lt]; omega
      simp only [h2, decide_false, Bool.false_or, beq_self_eq_true, Bool.true_and]; exact ih
    · have e1 : (a == b) = false := by simpa using h1
      have e2 : (b == a) = false := by simpa using fun h => h1 h.symm
      rw [e1, e2]; simp only [Bool.false_and, Bool.or_false]; have h3 : a.toNat ≠ b.toNat := fun h => h1 (UInt8.toNat_inj.1 h)
      by_cases h4 : a < b
      · have h5 : ¬ b < a := by rw [UInt8.lt_iff_toNat_lt] at h4 ⊢; omega
        simp [h4, h5]
      · have h5 : b < a := by rw [UInt8.lt_iff_toNat_lt] at h4 ⊢; omega
        simp [h4, h5]
end Go.Proofs.Ytmpehoebgifmnaa
