/- A text. -/
import Derived.Test.YtmpehoebgifmnaaBlobP
namespace Go.Proofs.Ytmpehoebgifmnaa
open Go.RowKit

structure Ext {α : Type} (p : Bs → Except Int (α × Nat)) : Prop where
  ok : ∀ (t r : Bs) (x : α × Nat), p t = .ok x → p (t ++ r) = .ok x
  err : ∀ (t r : Bs) (e : Int), p t = .error e → e ≠ 1 → p (t ++ r) = .error e
  le : ∀ (t : Bs) (x : α) (k : Nat), p t = .ok (x, k) → k ≤ t.length
theorem Ext.short {α : Type} {p : Bs → Except Int (α × Nat)} (h : Ext p) {e : Bs} {x : α} (hb : p e = .ok (x, e.length)) (j : Nat) (hj : j < e.length) : p (e.take j) = .error 1 := by
 have hs : e.take j ++ e.drop j = e := List.take_append_drop _ _
 cases hp : p (e.take j) with
 | ok y =>
  obtain ⟨y, k⟩ := y; have h1 := h.ok _ (e.drop j) _ hp; rw [hs, hb] at h1
  cases h1
  have h2 := h.le _ _ _ hp; rw [List.length_take] at h2
  omega
 | error f =>
  by_cases hf : f = 1
  · rw [hf]
  · have h1 := h.err _ (e.drop j) _ hp hf; rw [hs, hb] at h1
    cases h1
theorem ext_vgetF (top : Nat) : ∀ (t : Bs) (f r n : Nat) (rest : Bs), (∀ x, vgetF top f r n t = .ok x → vgetF top f r n (t ++ rest) = .ok x) ∧ (∀ e, vgetF top f r n t = .error e → e ≠ 1 → vgetF top f r n (t ++ rest) = .error e)
  | [], f, r, n, rest => ⟨fun x h => (by rw [vg_none] at h; cases h), fun e h h1 => (by rw [vg_none] at h; cases h; exact absurd rfl h1)⟩
  | c :: t, 0, r, n, rest => ⟨fun x h => (by cases h), fun e h h1 => (by cases h; rfl)⟩
  | c :: t, f + 1, r, n, rest => by
    have ih := ext_vgetF top t f (r + 1) (n + c.toNat % 128 * 128 ^ r) rest
    constructor
    · intro x h; simp only [vgetF, List.cons_append] at h ⊢
      split at h
      · cases h
      · rename_i h1
        rw [if_neg h1]
        split at h
        · rename_i h2
          rw [if_pos h2]; exact ih.1 x h
        · rename_i h2
          rw [if_neg h2]; exact h
    · intro e h he; simp only [vgetF, List.cons_append] at h ⊢
      split at h
      · rename_i h1
        rw [if_pos h1]; exact h
      · rename_i h1
        rw [if_neg h1]
        split at h
        · rename_i h2
          rw [if_pos h2]; exact ih.2 e h he
        · cases h
theorem ext_vgetL : Ext vgetL := by
 refine ⟨fun t r x h => ?_, fun t r e h he => ?_, fun t x k h => (vgetL_one h).2.2.1⟩
 · unfold vgetL at h ⊢
   cases hv : vgetF 1 10 0 0 t with
   | error e => rw [hv] at h; cases h
   | ok y => rw [hv] at h; rw [(ext_vgetF 1 t 10 0 0 r).1 _ hv]; exact h
 · unfold vgetL at h ⊢
   cases hv : vgetF 1 10 0 0 t with
   | error e2 => rw [hv] at h; cases h; rw [(ext_vgetF 1 t 10 0 0 r).2 _ hv he]
   | ok y => rw [hv] at h; cases h
theorem ext_vgetI : Ext vgetI := by
 refine ⟨fun t r x h => ?_, fun t r e h he => ?_, fun t x k h => (vgetI_one h).2.2.1⟩
 · unfold vgetI at h ⊢
   cases hv : vgetF 15 5 0 0 t with
   | error e => rw [hv] at h; cases h
   | ok y => rw [hv] at h; rw [(ext_vgetF 15 t 5 0 0 r).1 _ hv]; exact h
 · unfold vgetI at h ⊢
   cases hv : vgetF 15 5 0 0 t with
   | error e2 => rw [hv] at h; cases h; rw [(ext_vgetF 15 t 5 0 0 r).2 _ hv he]
   | ok y => rw [hv] at h; cases h
theorem zq9 {p : Prop} (h : p := by rw [List.length_append]; omega) : p := h
theorem gotS_ok {t : Bs} {k : Nat} {n : Int} {x : BlobS × Nat} (hk : k ≤ t.length) (h : gotS t k n = .ok x) (r : Bs) : gotS (t ++ r) k n = .ok x ∧ x.2 ≤ t.length := by
 unfold gotS at h ⊢
 by_cases h1 : n = -1
 · rw [if_pos h1] at h ⊢; cases h; exact ⟨rfl, hk⟩
 rw [if_neg h1] at h ⊢
 by_cases h2 : n < 0
 · rw [if_pos h2] at h; cases h
 rw [if_neg h2] at h ⊢
 by_cases h3 : (t.length : Int) - k < n
 · rw [if_pos h3] at h; cases h
 rw [if_neg h3] at h
 cases h
 rw [if_neg zq9]; refine ⟨?_, by simp only; omega⟩; rw [List.drop_append_of_le_length hk, List.take_append_of_le_length (by rw [List.length_drop]; omega)]
theorem gotS_er {t : Bs} {k : Nat} {n : Int} {e : Int} (h : gotS t k n = .error e) (he : e ≠ 1) (r : Bs) : gotS (t ++ r) k n = .error e := by
 unfold gotS at h ⊢
 by_cases h1 : n = -1
 · rw [if_pos h1] at h; cases h
 rw [if_neg h1] at h ⊢
 by_cases h2 : n < 0
 · rw [if_pos h2] at h ⊢; exact h
 rw [if_neg h2] at h
 by_cases h3 : (t.length : Int) - k < n
 · rw [if_pos h3] at h; cases h; exact absurd rfl he
 · rw [if_neg h3] at h; cases h
theorem ext_varied : Ext revaried := by
 refine ⟨fun t r x h => ?_, fun t r e h he => ?_, fun t x k h => ?_⟩
 · unfold revaried at h ⊢
   cases hv : vgetI t with
   | error e => rw [hv] at h; cases h
   | ok y => rw [hv] at h; rw [ext_vgetI.ok _ r _ hv]; exact (gotS_ok (ext_vgetI.le _ _ _ hv) h r).1
 · unfold revaried at h ⊢
   cases hv : vgetI t with
   | error e2 => rw [hv] at h; cases h; rw [ext_vgetI.err _ r _ hv he]
   | ok y => rw [hv] at h; rw [ext_vgetI.ok _ r _ hv]; exact gotS_er h he r
 · unfold revaried at h
   cases hv : vgetI t with
   | error e => rw [hv] at h; cases h
   | ok y => rw [hv] at h; exact (gotS_ok (ext_vgetI.le _ _ _ hv) h []).2
theorem ext_fixed (size : Nat) : Ext (refixed size) := by
 refine ⟨fun t r x h => ?_, fun t r e h he => ?_, fun t x k h => ?_⟩
 · unfold refixed at h ⊢
   by_cases h1 : t.length < size
   · rw [if_pos h1] at h; cases h
   · rw [if_neg h1] at h; rw [if_neg zq9, List.take_append_of_le_length (by omega)]; exact (gotS_ok (by omega) h r).1
 · unfold refixed at h ⊢
   by_cases h1 : t.length < size
   · rw [if_pos h1] at h; cases h; exact absurd rfl he
   · rw [if_neg h1] at h; rw [if_neg zq9, List.take_append_of_le_length (by omega)]; exact gotS_er h he r
 · unfold refixed at h
   by_cases h1 : t.length < size
   · rw [if_pos h1] at h; cases h
   · rw [if_neg h1] at h; exact (gotS_ok (by omega) h []).2

def rdL (z : Bool × InS) (n : Int) : Bool × InS := (decide (z.2.vlong.1 = n) && z.1, z.2.vlong.2)
def rdV (z : Bool × InS) (b : BlobS) : Bool × InS := (decide (z.2.varied.1 = b) && z.1, z.2.varied.2)
def rdF (z : Bool × InS) (b : BlobS) : Bool × InS := (decide ((z.2.fixed 2).1 = b) && z.1, (z.2.fixed 2).2)
def rdB (z : Bool × InS) (b : BlobS) : Bool × InS := rdF (rdV z b) b
def encN (n : Int) : Bs := putU (foldN n)
def encBl (b : BlobS) : Bs := encV b ++ encF 2 b
def At (s : Bs) (c : Nat) (z : Bool × InS) (a : Nat) : Prop := (a ≤ c ∧ z.2 = ⟨s.take c, a, 0⟩ ∧ (z.1 = true)) ∨ (c < a ∧ z.2.err = 1)
theorem At.read {α : Type} [DecidableEq α] {f : InS → α × InS} {p : Bs → Except Int (α × Nat)} {d : α} (hr : Rds f p d) (he : Ext p) {s r : Bs} {c a : Nat} {z : Bool × InS} (hc : c ≤ s.length) (h : At s c z a) {e : Bs} {x : α} (hp : p e = .ok (x, e.length)) (hs : s.drop a = e ++ r) :
   At s c (decide ((f z.2).1 = x) && z.1, (f z.2).2) (a + e.length) := by
 have hl : (s.take c).length = c := by rw [List.length_take]; omega
 rcases h with ⟨h1, h2, h3⟩ | ⟨h1, h2⟩
 · rw [h2, h3]; have hd : (s.take c).drop a = (e ++ r).take (c - a) := by rw [← hs, List.drop_take]
   by_cases hlt : a + e.length ≤ c
   · have h4 : p ((s.take c).drop a) = .ok (x, e.length) := by
      rw [hd, List.take_append, List.take_of_length_le (by omega)]; exact he.ok _ _ _ hp
     have h5 := (hr.ok (s.take c) a x e.length (by omega) h4).2; rw [h5]; exact .inl ⟨hlt, rfl, by simp⟩
   · have h4 : p ((s.take c).drop a) = .error 1 := by
      rw [hd, List.take_append_of_le_length (by omega)]; exact he.short hp _ (by omega)
     obtain ⟨_, q, _, h5⟩ := hr.err (s.take c) a 1 (by omega) h4; rw [h5]; exact .inr ⟨by omega, rfl⟩
 · have h4 := hr.stuck z.2 (by rw [h2]; decide); rw [h4]; exact .inr ⟨by omega, h2⟩
theorem At.long {s r : Bs} {c a : Nat} {z : Bool × InS} (hc : c ≤ s.length) (h : At s c z a) (n : Int) (h0 : -9223372036854775808 ≤ n) (h1 : n < 9223372036854775808) (hs : s.drop a = encN n ++ r) : At s c (rdL z n) (a + (encN n).length) := by
 have hp : vgetL (encN n) = .ok (n, (encN n).length) := by
  have := vgetL_put n h0 h1 []
  rwa [List.append_nil] at this
 exact At.read rds_long ext_vgetL hc h hp hs
theorem At.varied {s r : Bs} {c a : Nat} {z : Bool × InS} (hc : c ≤ s.length) (h : At s c z a) (b : BlobS) (hb : b.right = true) (hl : b.data.length ≤ 2147483647) (hs : s.drop a = encV b ++ r) : At s c (rdV z b) (a + (encV b).length) := by
 have hp : revaried (encV b) = .ok (b, (encV b).length) := by
  have := revaried_back b hb hl []
  rwa [List.append_nil] at this
 exact At.read rds_varied ext_varied hc h hp hs
theorem At.fixed {s r : Bs} {c a : Nat} {z : Bool × InS} (hc : c ≤ s.length) (h : At s c z a) (b : BlobS) (hb : b.right = true) (hf : fits b.len 2) (hs : s.drop a = encF 2 b ++ r) : At s c (rdF z b) (a + (encF 2 b).length) := by
 have hp : refixed 2 (encF 2 b) = .ok (b, (encF 2 b).length) := by
  have := refixed_back 2 b hb hf []
  rwa [List.append_nil] at this
 exact At.read (rds_fixed 2 (by decide) (by decide)) (ext_fixed 2) hc h hp hs
def BOk (b : BlobS) : Prop := b.right = true ∧ b.data.length ≤ 200
theorem BOk.fits {b : BlobS} (h : BOk b) : fits b.len 2 := by
 have h128 : half 2 = 32768 := by decide
 have hl := h.2; refine ⟨by decide, by decide, ?_, ?_⟩ <;> unfold BlobS.len <;> split <;> simp [h128] <;> omega
theorem At.blob {s r : Bs} {c a : Nat} {z : Bool × InS} (hc : c ≤ s.length) (h : At s c z a) (b : BlobS) (hb : BOk b) (hs : s.drop a = encBl b ++ r) : At s c (rdB z b) (a + (encBl b).length) := by
 unfold encBl at hs ⊢; rw [List.append_assoc] at hs; have h1 := h.varied hc b hb.1 (by have := hb.2; omega) hs; have h2 : s.drop (a + (encV b).length) = encF 2 b ++ r := by rw [← List.drop_drop, hs, List.drop_left]
 have h3 := h1.fixed hc b hb.1 hb.fits h2; rw [List.length_append, ← Nat.add_assoc]; exact h3
end Go.Proofs.Ytmpehoebgifmnaa
