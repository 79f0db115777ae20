/- Numbers of as many bytes as they need: contracts of package varint that read. -/
import Derived.Test.YtenojajfacacoaaDoorVar
namespace Go.Proofs.YtenojajfacacoaaDoor
open Go.RowKit

/-- Digits read: so many more may come, so many came, which number they are. -/
def digs (top : Nat) : Nat → Nat → Nat → InS → Nat × InS
  | 0, _, _, i => match (i.take 1).1 with
    | [] => (0, (i.take 1).2)
    | _ :: _ => (0, (i.take 1).2.fail 3)
  | f + 1, read, n, i => match (i.take 1).1 with
    | [] => (0, (i.take 1).2)
    | c :: _ =>
      if (f = 0 ∧ top < c.toNat % 128) ∨ (0 < read ∧ c.toNat % 128 = 0 ∧ c.toNat < 128) then (0, (i.take 1).2.fail 3)
      else if 128 ≤ c.toNat then digs top f (read + 1) (n + c.toNat % 128 * 128 ^ read) (i.take 1).2
      else (n + c.toNat % 128 * 128 ^ read, (i.take 1).2)

theorem digs_none {top f read n : Nat} {i i1 : InS} (h : i.take 1 = ([], i1)) : digs top f read n i = (0, i1) := by
  cases f <;> simp [digs, h]
theorem digs_bad0 {top read n : Nat} {i i1 : InS} {c : UInt8} (h : i.take 1 = ([c], i1)) : digs top 0 read n i = (0, i1.fail 3) := by
  simp [digs, h]
theorem digs_bad {top f read n : Nat} {i i1 : InS} {c : UInt8} (h : i.take 1 = ([c], i1)) (hb : (f = 0 ∧ top < c.toNat % 128) ∨ (0 < read ∧ c.toNat % 128 = 0 ∧ c.toNat < 128)) : digs top (f + 1) read n i = (0, i1.fail 3) := by
  simp only [digs, h]; rw [if_pos hb]
theorem digs_more {top f read n : Nat} {i i1 : InS} {c : UInt8} (h : i.take 1 = ([c], i1)) (hb : ¬ ((f = 0 ∧ top < c.toNat % 128) ∨ (0 < read ∧ c.toNat % 128 = 0 ∧ c.toNat < 128))) (hm : 128 ≤ c.toNat) :
    digs top (f + 1) read n i = digs top f (read + 1) (n + c.toNat % 128 * 128 ^ read) i1 := by
  simp only [digs, h]; rw [if_neg hb, if_pos hm]
theorem digs_last {top f read n : Nat} {i i1 : InS} {c : UInt8} (h : i.take 1 = ([c], i1)) (hb : ¬ ((f = 0 ∧ top < c.toNat % 128) ∨ (0 < read ∧ c.toNat % 128 = 0 ∧ c.toNat < 128))) (hm : ¬ 128 ≤ c.toNat) :
    digs top (f + 1) read n i = (n + c.toNat % 128 * 128 ^ read, i1) := by
  simp only [digs, h]; rw [if_neg hb, if_neg hm]

theorem take1 (i : InS) : (∃ i1, i.take 1 = ([], i1)) ∨ ∃ c i1, i.take 1 = ([c], i1) := by
  have h := i.take_len 1
  generalize i.take 1 = y at h ⊢
  obtain ⟨x, i1⟩ := y
  simp only at h
  match x, h with
  | [], _ => exact .inl ⟨i1, rfl⟩
  | [c], _ => exact .inr ⟨c, i1, rfl⟩
  | _ :: _ :: _, h => simp at h

set_option maxRecDepth 100000 in
theorem or_digit (n d r : Nat) (hn : n < 128 ^ r) (hr : r < 10) (hd : d < 128) (h9 : r = 9 → d ≤ 1) :
    bits .or .u64 (n : Int) (IntKind.u64.wrap ((d : Int) * 2 ^ (7 * r))) = ((n + d * 128 ^ r : Nat) : Int) := by
  have hp : (2 : Nat) ^ (7 * r) = 128 ^ r := by rw [Nat.pow_mul]
  have hpos : 0 < (128 : Nat) ^ r := Nat.pow_pos (by decide)
  have hle : (128 : Nat) ^ r ≤ 128 ^ 9 := Nat.pow_le_pow_right (by decide) (by omega)
  have p9 : (128 : Nat) ^ 9 = 9223372036854775808 := by decide
  have p8 : (128 : Nat) ^ 8 = 72057594037927936 := by decide
  rw [p9] at hle
  have hb : d * 128 ^ r + 128 ^ r ≤ 18446744073709551616 := by
    by_cases h : r = 9
    · subst h
      have := h9 rfl
      have : d * 128 ^ 9 ≤ 1 * 128 ^ 9 := Nat.mul_le_mul_right _ this
      exact Nat.le_trans (Nat.add_le_add_right this _) (by decide)
    · have h8 : (128 : Nat) ^ r ≤ 128 ^ 8 := Nat.pow_le_pow_right (by decide) (by omega)
      have : (d + 1) * 128 ^ r ≤ 128 * 128 ^ 8 := Nat.mul_le_mul (by omega) h8
      rw [Nat.add_mul, Nat.one_mul, p8] at this
      rw [p8] at h8
      omega
  have e1 : ((d : Int) * 2 ^ (7 * r)) = ((d * 128 ^ r : Nat) : Int) := by rw [← hp]; push_cast; rfl
  have e3 : IntKind.u64.wrap ((d * 128 ^ r : Nat) : Int) = ((d * 128 ^ r : Nat) : Int) := by
    rw [IntKind.wrap_u64]; omega
  have e4 : ((n : Int) % 18446744073709551616).toNat = n := by omega
  have e5 : (((d * 128 ^ r : Nat) : Int) % 18446744073709551616).toNat = d * 128 ^ r := by omega
  rw [e1, e3, bits_or_u64, e4, e5, Nat.or_comm, Nat.mul_comm d, ← hp, ← Nat.two_pow_add_eq_or_of_lt (by rw [hp]; exact hn), IntKind.wrap_u64, hp, Nat.mul_comm _ d]
  omega

theorem digit_lt {n d r : Nat} (h : n < 128 ^ r) (hd : d < 128) : n + d * 128 ^ r < 128 ^ (r + 1) := by
  rw [Nat.pow_succ]
  generalize 128 ^ r = p at *
  have : d * p ≤ 127 * p := Nat.mul_le_mul_right _ (by omega)
  omega
@[simp high] theorem bb_one (c : UInt8) (h : 0 < (bb [c]).size) : (bb [c])[0] = c := rfl

theorem scope_jumps_one {P : Program} {c rest : Code} {Q : Exit → Act → World → Prop} {a : Act} {w : World} (a1 : Act) (w1 : World) (l : Nat) (J : Act → World → Prop) (μ : Act → World → Nat) (hf : findLabel c l = some (Code.skip.seq rest)) (hJ : J a1 w1)
    (first : ∀ Q, rest.wp P Q a1 w1 → c.wp P Q a w)
    (pass : ∀ a w, J a w → rest.wp P (Exit.jump l (fun a' w' => J a' w' ∧ μ a' w' < μ a w) Q) a w) : (Code.scope c).wp P Q a w := by
  have skip : ∀ (Q : Exit → Act → World → Prop) a w, rest.wp P Q a w → (Code.skip.seq rest).wp P Q a w := fun Q a w h => wp_seq_k fun K hK => wp_skip (hK _ _ h)
  refine wp_scope_jumps l J μ hf (first _ (Code.wp_mono ?_ (pass a1 w1 hJ))) (fun a w h => skip _ _ _ (pass a w h))
  intro e a' w' h
  cases e with
  | goto l' => exact ⟨h.1, h.2.1⟩
  | _ => exact h

/-- Where a digit is read anew. -/
def DigInv (b most top : Nat) (i : InS) (w : World) (a' : Act) (w' : World) : Prop :=
  ∃ (f read n : Nat) (i' : InS) (u9 u10 u11 u12 u13 u14 u15 u16 u17 u18 u19 u20 u21 u22 u23 u24 u25 u26 u27 u28 u29 u30 u31 u32 u33 u34 u35 u36 u37 u38 u39 u40 u41 u42 u43 u44 u45 u46 u47 u48 u49 u50 u51 u52 u53 u54 u55 u56 u57 u58 u59 u60 u61 u62 u63 u64 : Value), a' = { tmps := #[inPtr b, .int .i64 most, .int .u64 top, undef, undef, undef, .int .u64 0, .int .u64 n, .int .i64 read, u9, u10, u11, u12, u13, u14, u15, u16, u17, u18, u19, u20, u21, u22, u23, u24, u25, u26, u27, u28, u29, u30, u31, u32, u33, u34, u35, u36, u37, u38, u39, u40, u41, u42, u43, u44, u45, u46, u47, u48, u49, u50, u51, u52, u53, u54, u55, u56, u57, u58, u59, u60, u61, u62, u63, u64], defers := [] } ∧ read + f = most ∧ n < 128 ^ read ∧ digs top f read n i' = digs top most 0 0 i ∧ IsIn w' b i' ∧ Keeps (· = b) w w'

end Go.Proofs.YtenojajfacacoaaDoor
