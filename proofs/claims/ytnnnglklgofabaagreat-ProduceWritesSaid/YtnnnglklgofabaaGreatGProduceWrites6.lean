/- A text. -/
import Derived.Test.YtnnnglklgofabaaGreatBlobP
import Derived.Test.YtnnnglklgofabaaGreatHdr1
import Derived.Test.YtnnnglklgofabaaGreatGProduceWrites1
import Derived.Test.YtnnnglklgofabaaGreatBlob1
import Derived.Test.YtnnnglklgofabaaGreatBlob2
import Derived.Test.YtnnnglklgofabaaGreatGrow
import Derived.RegionTactic
import Derived.Test.YtnnnglklgofabaaGreatOut
import Derived.Test.YtnnnglklgofabaaGreatGProduceWrites5
import Derived.Test.YtnnnglklgofabaaGreatGProduceWrites3
import Derived.Test.YtnnnglklgofabaaGreatHdrP
import Derived.Deep.RegionHeld3
import Derived.Deep.DeepCutAuto
import Derived.WalkMore
import Derived.Test.YtnnnglklgofabaaGreatGProduceWrites2
/- A text. -/
namespace Go.Proofs.YtnnnglklgofabaaGreat
open Go.RowKit

structure Ext {α : Type} (p : Bs → Except Int (α × Nat)) : Prop where
  ok : ∀ (t r : Bs) (x : α × Nat), p t = .ok x → p (t ++ r) = .ok x
  err : ∀ (t r : Bs) (e : Int), p t = .error e → e ≠ 1 → p (t ++ r) = .error e
  le : ∀ (t : Bs) (x : α) (k : Nat), p t = .ok (x, k) → k ≤ t.length
theorem Ext.short {α : Type} {p : Bs → Except Int (α × Nat)} (h : Ext p) {e : Bs} {x : α} (hb : p e = .ok (x, e.length)) (j : Nat) (hj : j < e.length) : p (e.take j) = .error 1 := by
 have hs : e.take j ++ e.drop j = e := List.take_append_drop _ _
 cases hp : p (e.take j) with
 | ok y =>
  obtain ⟨y, k⟩ := y; have h1 := h.ok _ (e.drop j) _ hp; rw [hs, hb] at h1
  cases h1
  have h2 := h.le _ _ _ hp; rw [List.length_take] at h2
  omega
 | error f =>
  by_cases hf : f = 1
  · rw [hf]
  · have h1 := h.err _ (e.drop j) _ hp hf; rw [hs, hb] at h1
    cases h1
theorem ext_vgetF (top : Nat) : ∀ (t : Bs) (f r n : Nat) (rest : Bs), (∀ x, vgetF top f r n t = .ok x → vgetF top f r n (t ++ rest) = .ok x) ∧ (∀ e, vgetF top f r n t = .error e → e ≠ 1 → vgetF top f r n (t ++ rest) = .error e)
  | [], f, r, n, rest => ⟨fun x h => (by rw [vg_none] at h; cases h), fun e h h1 => (by rw [vg_none] at h; cases h; exact absurd rfl h1)⟩
  | c :: t, 0, r, n, rest => ⟨fun x h => (by cases h), fun e h h1 => (by cases h; rfl)⟩
  | c :: t, f + 1, r, n, rest => by
    have ih := ext_vgetF top t f (r + 1) (n + c.toNat % 128 * 128 ^ r) rest
    constructor
    · intro x h; simp only [vgetF, List.cons_append] at h ⊢
      split at h
      · cases h
      · rename_i h1
        rw [if_neg h1]
        split at h
        · rename_i h2
          rw [if_pos h2]; exact ih.1 x h
        · rename_i h2
          rw [if_neg h2]; exact h
    · intro e h he; simp only [vgetF, List.cons_append] at h ⊢
      split at h
      · rename_i h1
        rw [if_pos h1]; exact h
      · rename_i h1
        rw [if_neg h1]
        split at h
        · rename_i h2
          rw [if_pos h2]; exact ih.2 e h he
        · cases h
theorem ext_vgetL : Ext vgetL := by
 refine ⟨fun t r x h => ?_, fun t r e h he => ?_, fun t x k h => (vgetL_one h).2.2.1⟩
 · unfold vgetL at h ⊢
   cases hv : vgetF 1 10 0 0 t with
   | error e => rw [hv] at h; cases h
   | ok y => rw [hv] at h; rw [(ext_vgetF 1 t 10 0 0 r).1 _ hv]; exact h
 · unfold vgetL at h ⊢
   cases hv : vgetF 1 10 0 0 t with
   | error e2 => rw [hv] at h; cases h; rw [(ext_vgetF 1 t 10 0 0 r).2 _ hv he]
   | ok y => rw [hv] at h; cases h
theorem ext_vgetI : Ext vgetI := by
 refine ⟨fun t r x h => ?_, fun t r e h he => ?_, fun t x k h => (vgetI_one h).2.2.1⟩
 · unfold vgetI at h ⊢
   cases hv : vgetF 15 5 0 0 t with
   | error e => rw [hv] at h; cases h
   | ok y => rw [hv] at h; rw [(ext_vgetF 15 t 5 0 0 r).1 _ hv]; exact h
 · unfold vgetI at h ⊢
   cases hv : vgetF 15 5 0 0 t with
   | error e2 => rw [hv] at h; cases h; rw [(ext_vgetF 15 t 5 0 0 r).2 _ hv he]
   | ok y => rw [hv] at h; cases h
theorem gotS_ok {t : Bs} {k : Nat} {n : Int} {x : BlobS × Nat} (hk : k ≤ t.length) (h : gotS t k n = .ok x) (r : Bs) : gotS (t ++ r) k n = .ok x ∧ x.2 ≤ t.length := by
 unfold gotS at h ⊢
 by_cases h1 : n = -1
 · rw [if_pos h1] at h ⊢; cases h; exact ⟨rfl, hk⟩
 rw [if_neg h1] at h ⊢
 by_cases h2 : n < 0
 · rw [if_pos h2] at h; cases h
 rw [if_neg h2] at h ⊢
 by_cases h3 : (t.length : Int) - k < n
 · rw [if_pos h3] at h; cases h
 rw [if_neg h3] at h
 cases h
 rw [if_neg (by rw [List.length_append]; omega)]; refine ⟨?_, by simp only; omega⟩; rw [List.drop_append_of_le_length hk, List.take_append_of_le_length (by rw [List.length_drop]; omega)]
theorem gotS_er {t : Bs} {k : Nat} {n : Int} {e : Int} (h : gotS t k n = .error e) (he : e ≠ 1) (r : Bs) : gotS (t ++ r) k n = .error e := by
 unfold gotS at h ⊢
 by_cases h1 : n = -1
 · rw [if_pos h1] at h; cases h
 rw [if_neg h1] at h ⊢
 by_cases h2 : n < 0
 · rw [if_pos h2] at h ⊢; exact h
 rw [if_neg h2] at h
 by_cases h3 : (t.length : Int) - k < n
 · rw [if_pos h3] at h; cases h; exact absurd rfl he
 · rw [if_neg h3] at h; cases h
theorem ext_varied : Ext revaried := by
 refine ⟨fun t r x h => ?_, fun t r e h he => ?_, fun t x k h => ?_⟩
 · unfold revaried at h ⊢
   cases hv : vgetI t with
   | error e => rw [hv] at h; cases h
   | ok y => rw [hv] at h; rw [ext_vgetI.ok _ r _ hv]; exact (gotS_ok (ext_vgetI.le _ _ _ hv) h r).1
 · unfold revaried at h ⊢
   cases hv : vgetI t with
   | error e2 => rw [hv] at h; cases h; rw [ext_vgetI.err _ r _ hv he]
   | ok y => rw [hv] at h; rw [ext_vgetI.ok _ r _ hv]; exact gotS_er h he r
 · unfold revaried at h
   cases hv : vgetI t with
   | error e => rw [hv] at h; cases h
   | ok y => rw [hv] at h; exact (gotS_ok (ext_vgetI.le _ _ _ hv) h []).2
theorem ext_fixed (size : Nat) : Ext (refixed size) := by
 refine ⟨fun t r x h => ?_, fun t r e h he => ?_, fun t x k h => ?_⟩
 · unfold refixed at h ⊢
   by_cases h1 : t.length < size
   · rw [if_pos h1] at h; cases h
   · rw [if_neg h1] at h; rw [if_neg (by rw [List.length_append]; omega), List.take_append_of_le_length (by omega)]; exact (gotS_ok (by omega) h r).1
 · unfold refixed at h ⊢
   by_cases h1 : t.length < size
   · rw [if_pos h1] at h; cases h; exact absurd rfl he
   · rw [if_neg h1] at h; rw [if_neg (by rw [List.length_append]; omega), List.take_append_of_le_length (by omega)]; exact gotS_er h he r
 · unfold refixed at h
   by_cases h1 : t.length < size
   · rw [if_pos h1] at h; cases h
   · rw [if_neg h1] at h; exact (gotS_ok (by omega) h []).2

def rdL (z : Bool × InS) (n : Int) : Bool × InS := (decide (z.2.vlong.1 = n) && z.1, z.2.vlong.2)
def rdV (z : Bool × InS) (b : BlobS) : Bool × InS := (decide (z.2.varied.1 = b) && z.1, z.2.varied.2)
def rdF (z : Bool × InS) (b : BlobS) : Bool × InS := (decide ((z.2.fixed 2).1 = b) && z.1, (z.2.fixed 2).2)
def rdB (z : Bool × InS) (b : BlobS) : Bool × InS := rdF (rdV z b) b
def encN (n : Int) : Bs := putU (foldN n)
def encBl (b : BlobS) : Bs := encV b ++ encF 2 b
def At (s : Bs) (c : Nat) (z : Bool × InS) (a : Nat) : Prop := (a ≤ c ∧ z.2 = ⟨s.take c, a, 0⟩ ∧ (z.1 = true)) ∨ (c < a ∧ z.2.err = 1)
theorem At.read {α : Type} [DecidableEq α] {f : InS → α × InS} {p : Bs → Except Int (α × Nat)} {d : α} (hr : Rds f p d) (he : Ext p) {s r : Bs} {c a : Nat} {z : Bool × InS} (hc : c ≤ s.length) (h : At s c z a) {e : Bs} {x : α} (hp : p e = .ok (x, e.length)) (hs : s.drop a = e ++ r) :
   At s c (decide ((f z.2).1 = x) && z.1, (f z.2).2) (a + e.length) := by
 have hl : (s.take c).length = c := by rw [List.length_take]; omega
 rcases h with ⟨h1, h2, h3⟩ | ⟨h1, h2⟩
 · rw [h2, h3]; have hd : (s.take c).drop a = (e ++ r).take (c - a) := by rw [← hs, List.drop_take]
   by_cases hlt : a + e.length ≤ c
   · have h4 : p ((s.take c).drop a) = .ok (x, e.length) := by
      rw [hd, List.take_append, List.take_of_length_le (by omega)]; exact he.ok _ _ _ hp
     have h5 := (hr.ok (s.take c) a x e.length (by omega) h4).2; rw [h5]; exact .inl ⟨hlt, rfl, by simp⟩
   · have h4 : p ((s.take c).drop a) = .error 1 := by
      rw [hd, List.take_append_of_le_length (by omega)]; exact he.short hp _ (by omega)
     obtain ⟨_, q, _, h5⟩ := hr.err (s.take c) a 1 (by omega) h4; rw [h5]; exact .inr ⟨by omega, rfl⟩
 · have h4 := hr.stuck z.2 (by rw [h2]; decide); rw [h4]; exact .inr ⟨by omega, h2⟩
theorem At.long {s r : Bs} {c a : Nat} {z : Bool × InS} (hc : c ≤ s.length) (h : At s c z a) (n : Int) (h0 : -9223372036854775808 ≤ n) (h1 : n < 9223372036854775808) (hs : s.drop a = encN n ++ r) : At s c (rdL z n) (a + (encN n).length) := by
 have hp : vgetL (encN n) = .ok (n, (encN n).length) := by
  have := vgetL_put n h0 h1 []
  rwa [List.append_nil] at this
 exact At.read rds_long ext_vgetL hc h hp hs
theorem At.varied {s r : Bs} {c a : Nat} {z : Bool × InS} (hc : c ≤ s.length) (h : At s c z a) (b : BlobS) (hb : b.right = true) (hl : b.data.length ≤ 2147483647) (hs : s.drop a = encV b ++ r) : At s c (rdV z b) (a + (encV b).length) := by
 have hp : revaried (encV b) = .ok (b, (encV b).length) := by
  have := revaried_back b hb hl []
  rwa [List.append_nil] at this
 exact At.read rds_varied ext_varied hc h hp hs
theorem At.fixed {s r : Bs} {c a : Nat} {z : Bool × InS} (hc : c ≤ s.length) (h : At s c z a) (b : BlobS) (hb : b.right = true) (hf : fits b.len 2) (hs : s.drop a = encF 2 b ++ r) : At s c (rdF z b) (a + (encF 2 b).length) := by
 have hp : refixed 2 (encF 2 b) = .ok (b, (encF 2 b).length) := by
  have := refixed_back 2 b hb hf []
  rwa [List.append_nil] at this
 exact At.read (rds_fixed 2 (by decide) (by decide)) (ext_fixed 2) hc h hp hs
def BOk (b : BlobS) : Prop := b.right = true ∧ b.data.length ≤ 200
theorem BOk.fits {b : BlobS} (h : BOk b) : fits b.len 2 := by
 have h128 : half 2 = 32768 := by decide
 have hl := h.2; refine ⟨by decide, by decide, ?_, ?_⟩ <;> unfold BlobS.len <;> split <;> simp [h128] <;> omega
theorem At.blob {s r : Bs} {c a : Nat} {z : Bool × InS} (hc : c ≤ s.length) (h : At s c z a) (b : BlobS) (hb : BOk b) (hs : s.drop a = encBl b ++ r) : At s c (rdB z b) (a + (encBl b).length) := by
 unfold encBl at hs ⊢; rw [List.append_assoc] at hs; have h1 := h.varied hc b hb.1 (by have := hb.2; omega) hs; have h2 : s.drop (a + (encV b).length) = encF 2 b ++ r := by rw [← List.drop_drop, hs, List.drop_left]
 have h3 := h1.fixed hc b hb.1 hb.fits h2; rw [List.length_append, ← Nat.add_assoc]; exact h3
def RI (cs : List Value) (x : Int) : Prop := cs = [.int .i64 x]
theorem flat_at {α : Type} {R : List Value → α → Prop} {sz n cap : Nat} {q : Option Addr} {l : List α} {W0 w : World} {K : Know} {L : List Res} (hk : K.has (Know.flat R (.slice q n cap) sz l)) (h : St W0 w K L) (h0 : 0 < l.length) : ∃ b off, q = some ⟨b, off, none⟩ := by
 obtain ⟨F, hF, _⟩ := h.get; obtain ⟨q2, cap2, hv, hr⟩ := (hk _ _ hF).at; obtain ⟨b, off, hq, _⟩ := hr h0; simp at hv; exact ⟨b, off, hv.1.trans hq⟩
theorem flat_cell {α : Type} {R : List Value → α → Prop} {sz n cap b off : Nat} {l : List α} {W0 w : World} {K : Know} {L : List Res} (hk : K.has (Know.flat R (.slice (some ⟨b, off, none⟩) n cap) sz l)) (h : St W0 w K L) (i : Nat) (hi : i < l.length) : ∃ cs, R cs l[i] ∧ ∀ f u, cs[f]? = some u → w.cell? ⟨b, off + (i * sz + f), none⟩ = some u := by
 obtain ⟨F, hF, _⟩ := h.get; obtain ⟨q2, cap2, hv, hr⟩ := (hk _ _ hF).at; obtain ⟨b2, off2, hq, hc⟩ := hr (by omega); rw [hq] at hv; simp at hv; obtain ⟨⟨rfl, rfl⟩, _, _⟩ := hv; obtain ⟨cs, _, h1, h2⟩ := hc i hi; exact ⟨cs, h1, h2⟩
structure TopS where
  name : Bs
  parts : List Int
deriving DecidableEq
def RTop (cs : List Value) (x : TopS × Value) : Prop := cs = [.string (bb x.1.name), x.2]
def tcells (x : TopS × Value) : List Value := [.string (bb x.1.name), x.2]
def Know.tops (v : Value) (l : List (TopS × Value)) : Know := (Know.flat RTop v 2 l).and (Know.all l fun x => Know.flat RI x.2 1 x.1.parts)
theorem tops_flat {K : Know} {v : Value} {l : List (TopS × Value)} (h : K.has (Know.tops v l)) : K.has (Know.flat RTop v 2 l) := fun w F x => (h w F x).1
theorem tops_parts {K : Know} {v : Value} {l : List (TopS × Value)} (h : K.has (Know.tops v l)) {x : TopS × Value} (hx : x ∈ l) : K.has (Know.flat RI x.2 1 x.1.parts) := fun w F y => (h w F y).2 x hx
theorem tops_at {W0 w : World} {K : Know} {L : List Res} {q : Option Addr} {n cap : Nat} {l : List (TopS × Value)} (hk : K.has (Know.tops (.slice q n cap) l)) (h : St W0 w K L) (h0 : 0 < l.length) : ∃ b off, q = some ⟨b, off, none⟩ := by
 obtain ⟨F, hF, _⟩ := h.get; obtain ⟨q2, cap2, hv, hr⟩ := (tops_flat hk _ _ hF).at; obtain ⟨b, off, hq, _⟩ := hr h0; simp at hv; exact ⟨b, off, hv.1.trans hq⟩
theorem tops_cell {W0 w : World} {K : Know} {L : List Res} {b off n cap : Nat} {l : List (TopS × Value)} (hk : K.has (Know.tops (.slice (some ⟨b, off, none⟩) n cap) l)) (h : St W0 w K L) (i : Nat) (hi : i < l.length) (x : TopS × Value) (hx : l[i] = x) :
  w.cell? ⟨b, off + i * 2, none⟩ = some (.string (bb x.1.name)) ∧ w.cell? ⟨b, off + i * 2 + 1, none⟩ = some x.2 := by
 subst hx; obtain ⟨F, hF, _⟩ := h.get; obtain ⟨q2, cap2, hv, hr⟩ := (tops_flat hk _ _ hF).at; obtain ⟨b2, off2, hq, hc⟩ := hr (by omega); rw [hq] at hv; simp at hv; obtain ⟨⟨rfl, rfl⟩, _, _⟩ := hv; obtain ⟨cs, _, hR, hcs⟩ := hc i hi; unfold RTop at hR; subst hR; exact ⟨hcs 0 _ rfl, by rw [Nat.add_assoc]; exact hcs 1 _ rfl⟩
theorem int_cell {W0 w : World} {K : Know} {L : List Res} {b off n cap : Nat} {l : List Int} (hk : K.has (Know.flat RI (.slice (some ⟨b, off, none⟩) n cap) 1 l)) (h : St W0 w K L) (i : Nat) (hi : i < l.length) : w.cell? ⟨b, off + i, none⟩ = some (.int .i64 (l.getD i 0)) := by
 obtain ⟨cs, hR, hc⟩ := flat_cell hk h i hi; unfold RI at hR; subst hR; have c0 := hc 0 _ rfl; rw [Nat.mul_one, Nat.add_zero] at c0; rw [c0, List.getD_eq_getElem?_getD, List.getElem?_eq_getElem hi]
 rfl
def allN (n : Nat) (p : Nat → Bool) : Bool := (List.range n).all p
theorem allN_true {n : Nat} {p : Nat → Bool} (h : ∀ k, k < n → p k = true) : allN n p = true := by
 unfold allN; rw [List.all_eq_true]; intro x hx; exact h x (List.mem_range.1 hx)
theorem allN_at {n : Nat} {p : Nat → Bool} (h : allN n p = true) (k : Nat) (hk : k < n) : p k = true := List.all_eq_true.1 h k (List.mem_range.2 hk)
theorem allN_false {n : Nat} {p : Nat → Bool} (k : Nat) (hk : k < n) (h : p k = false) : allN n p = false := by
 cases hh : allN n p with
 | false => rfl
 | true => have := allN_at hh k hk; rw [h] at this; cases this
theorem allN_ext {n : Nat} {p q : Nat → Bool} (h : ∀ k, k < n → p k = q k) : allN n p = allN n q := by
 cases hh : allN n q with
 | true => exact allN_true fun k hk => (h k hk).trans (allN_at hh k hk)
 | false =>
  cases h2 : allN n p with
  | false => rfl
  | true => rw [allN_true fun k hk => (h k hk).symm.trans (allN_at h2 k hk)] at hh; cases hh
def upI (l : List Int) (k : Nat) : Bool := k == 0 || decide (l.getD (k - 1) 0 < l.getD k 0)
def upS (l : List Bs) (k : Nat) : Bool := k == 0 || Op.bytesLess (l.getD (k - 1) []) (l.getD k [])
def riseS (l : List Bs) : Bool := allN l.length (upS l)
def pRise (l : List Int) : Bool := !l.isEmpty && allN l.length (fun k => decide (0 ≤ l.getD k 0 ∧ l.getD k 0 ≤ 2147483647) && upI l k)
def tOk (t : TopS) : Bool := !t.name.isEmpty && decide (t.name.length ≤ 32767) && pRise t.parts
def tRise (l : List TopS) : Bool := l.all tOk && riseS (l.map (·.name))
theorem pRise_nil : pRise [] = false := rfl
structure ValS where
  prod : Int
  epoch : Int
  timeout : Int
  state : Int
  tops : List TopS
  upd : Int
  started : Int
deriving DecidableEq
def ValS.ranged (v : ValS) : Bool := decide (0 ≤ v.prod) && (decide (0 ≤ v.epoch) && (decide (v.epoch ≤ 32767) && (decide (0 ≤ v.timeout) && (decide (v.timeout ≤ 2147483647) && (decide (0 ≤ v.upd) && decide (-1 ≤ v.started))))))
def idle (s : Int) : Bool := !(s == 1) && (!(s == 2) && !(s == 3))
def ValS.err (v : ValS) : Int :=
  if v.ranged = false then 11
  else if v.state < 0 ∨ 7 ≤ v.state then 12
  else if (idle v.state != v.tops.isEmpty) = true ∨ ((v.state == 0) != (v.started == -1)) = true then 10
  else if tRise v.tops = false then 13 else 0
def FewT (l : List (TopS × Value)) : Prop := l.length ≤ 1000000 ∧ ∀ x ∈ l, x.1.name.length ≤ 140737488355328 ∧ x.1.parts.length ≤ 1000000
theorem less_step : ∀ (i : Nat) (a b : Bs) (hi : i < a.length) (hj : i < b.length), a.take i = b.take i → a[i] ≠ b[i] → Op.bytesLess a b = decide (a[i] < b[i])
  | 0, x :: a, y :: b, _, _, _, hne => by
    show (decide (x < y) || (x == y && Op.bytesLess a b)) = decide (x < y)
    have e : (x == y) = false := by simpa using hne
    rw [e, Bool.false_and, Bool.or_false]
  | i + 1, x :: a, y :: b, hi, hj, ht, hne => by
    rw [List.take_succ_cons, List.take_succ_cons] at ht; injection ht with h1 h2; subst h1; have ih := less_step i a b (by simpa using hi) (by simpa using hj) h2 hne
    show (decide (x < x) || (x == x && Op.bytesLess a b)) = _
    have h3 : ¬ x < x := by rw [UInt8.lt_iff_toNat_lt]; omega
    rw [decide_eq_false h3, beq_self_eq_true, Bool.true_and, Bool.false_or, ih]
    rfl
theorem less_end : ∀ (i : Nat) (a b : Bs), i ≤ a.length → i ≤ b.length → a.take i = b.take i → (i = a.length ∨ i = b.length) → Op.bytesLess a b = decide (a.length < b.length)
  | 0, [], [], _, _, _, _ => rfl
  | 0, [], y :: b, _, _, _, _ => by show true = _; simp
  | 0, x :: a, [], _, _, _, _ => by show false = _; simp
  | 0, x :: a, y :: b, _, _, _, h => by rcases h with h | h <;> simp at h
  | i + 1, [], _, h, _, _, _ => by simp at h
  | i + 1, x :: a, [], _, h, _, _ => by simp at h
  | i + 1, x :: a, y :: b, hi, hj, ht, h => by
    rw [List.take_succ_cons, List.take_succ_cons] at ht; injection ht with h1 h2; subst h1; have ih := less_end i a b (by simpa using hi) (by simpa using hj) h2 (by simpa using h)
    show (decide (x < x) || (x == x && Op.bytesLess a b)) = _
    have h3 : ¬ x < x := by rw [UInt8.lt_iff_toNat_lt]; omega
    rw [decide_eq_false h3, beq_self_eq_true, Bool.true_and, Bool.false_or, ih]
    simp
theorem take_step (i : Nat) (a b : Bs) (hi : i < a.length) (hj : i < b.length) (h : a.take i = b.take i) (he : a[i] = b[i]) : a.take (i + 1) = b.take (i + 1) := by
 rw [List.take_succ_eq_append_getElem hi, List.take_succ_eq_append_getElem hj, h, he]
set_option maxHeartbeats 1000000 in
set_option maxRecDepth 100000 in
theorem ref14_less (a b : Bs) (r : Bool) (hr : Op.bytesLess a b = r) (ha : a.length ≤ 140737488355328) (hb : b.length ≤ 140737488355328) {W0 w : World} {K : Know} {L : List Res} (h : St W0 w K L) :
  Calls Tryz.prog 99 #[.string (bb a), .string (bb b)] w fun en w' => en = .returned (.bool r) ∧ St W0 w' K L := by
 have H := Lib.hid h; have HR := Lib.hid hr; have hai : (a.length : Int) ≤ 140737488355328 := by omega
 have hbi : (b.length : Int) ≤ 140737488355328 := by omega
 clear h hr ha hb; go_enter Tryz.func99, Tryz.ntmps99; go_wp2; go_loopw [5] (fun iv wr => ∃ i : Nat, i ≤ a.length ∧ i ≤ b.length ∧ iv = .int .i64 i ∧ Hid (a.take i = b.take i) ∧ St W0 wr K L) (fun iv _ => a.length - (intOf iv).toNat)
 case atStart => exact ⟨0, Nat.zero_le _, Nat.zero_le _, rfl, Lib.hid rfl, H.out⟩
 case round =>
  obtain ⟨i, hia, hib, rfl, HT, hst⟩ := hrel; clear H; have H := Lib.hid hst; clear hst
  by_cases h1 : i < a.length
  · by_cases h2 : i < b.length
    · have hi1 : (i : Int) < (a.length : Int) := by omega
      have hi2 : (i : Int) < (b.length : Int) := by omega
      have hi0 : (0 : Int) ≤ (i : Int) := by omega
      by_cases hxy : a[i] = b[i]
      · have HT2 := Lib.hid (take_step i a b h1 h2 HT.out hxy); have e1 : (((a[i]).toNat : Int) != ((b[i]).toNat : Int)) = false := by rw [hxy]; simp
        have e2 : (((a[i]).toNat : Int) == ((b[i]).toNat : Int)) = true := by rw [hxy]; simp
        clear hxy; go_wp2; have hs := H.out.drew
        go_region
        go_wp2; go_roundw
        case rel => exact ⟨i + 1, h1, h2, by go_num, HT2, hs⟩
        case measure => first | (simp [intOf]; done) | (simp [intOf]; omega)
      · have hl := less_step i a b h1 h2 HT.out hxy; rw [HR.out] at hl; have hne : ((a[i]).toNat : Int) ≠ ((b[i]).toNat : Int) := fun h => hxy (UInt8.toNat_inj.1 (by omega))
        have e1 : (((a[i]).toNat : Int) != ((b[i]).toNat : Int)) = true := by simpa using hne
        have e2 : (((a[i]).toNat : Int) == ((b[i]).toNat : Int)) = false := by simpa using hne
        have hl2 : r = decide ((a[i]).toNat < (b[i]).toNat) := by
         rw [hl]
         congr 1
        clear hl hxy hne; subst hl2; go_wp2; have hs := H.out.drew
        go_region
        go_wp2; have hs := hs.drew
        go_region
        go_wp2; go_ret; exact ⟨rfl, hs⟩
    · have hl := less_end i a b hia hib HT.out (by omega); rw [HR.out] at hl
      have hl2 : r = decide ((a.length : Int) < (b.length : Int)) := by
        rw [hl]; congr 1; exact propext ⟨fun h => by omega, fun h => by omega⟩
      clear hl; subst hl2; have hi1 : (i : Int) < (a.length : Int) := by omega
      have hi2 : ¬ (i : Int) < (b.length : Int) := by omega
      go_wp2; go_ret; exact ⟨by simp, H.out⟩
  · have hl := less_end i a b hia hib HT.out (by omega); rw [HR.out] at hl
    have hl2 : r = decide ((a.length : Int) < (b.length : Int)) := by
      rw [hl]; congr 1; exact propext ⟨fun h => by omega, fun h => by omega⟩
    clear hl; subst hl2; have hi1 : ¬ (i : Int) < (a.length : Int) := by omega
    go_wp2; go_ret; exact ⟨by simp, H.out⟩
def tRef (l : List TopS) (i : Nat) : Bool := tOk (l.getD i ⟨[], []⟩) && upS (l.map (·.name)) i
theorem tRise_allN (l : List TopS) : tRise l = allN l.length (tRef l) := by
 have hg : ∀ i (h : i < l.length), l.getD i ⟨[], []⟩ = l[i] := fun i h => by rw [List.getD_eq_getElem?_getD, List.getElem?_eq_getElem h]; rfl
 unfold tRise
 cases ha : l.all tOk with
 | false =>
  rw [Bool.false_and]; obtain ⟨x, hx, hx2⟩ := List.all_eq_false.1 ha; obtain ⟨i, hi, rfl⟩ := List.mem_iff_getElem.1 hx; refine (allN_false i hi ?_).symm; unfold tRef; rw [hg i hi]; have : tOk l[i] = false := by simpa using hx2
  rw [this, Bool.false_and]
 | true =>
  rw [Bool.true_and]; unfold riseS; rw [List.length_map]; refine allN_ext fun k hk => ?_
  unfold tRef; rw [hg k hk, List.all_eq_true.1 ha _ (List.getElem_mem hk), Bool.true_and]
def pk (l : List Int) (k : Nat) : Bool := decide (0 ≤ l.getD k 0 ∧ l.getD k 0 ≤ 2147483647) && upI l k
theorem pRise_pk (l : List Int) (h : l ≠ []) : pRise l = allN l.length (pk l) := by
 unfold pRise
 cases l with
 | nil => exact absurd rfl h
 | cons _ _ => rfl
def be4s (l : List Int) : Bs := l.flatMap fun n => beBytes n 4
def encT (t : TopS) : Bs := encF 2 ⟨false, t.name⟩ ++ (beBytes t.parts.length 4 ++ be4s t.parts)
def encTs (l : List TopS) : Bs := beBytes l.length 4 ++ l.flatMap encT
def ValS.enc (v : ValS) : Bs := beBytes 0 2 ++ beBytes v.prod 8 ++ beBytes v.epoch 2 ++ beBytes v.timeout 4 ++ beBytes v.state 1 ++ encTs v.tops ++ beBytes v.upd 8 ++ beBytes v.started 8
def TopS.Fit (t : TopS) : Prop := t.name.length ≤ 32767 ∧ t.parts.length ≤ 1000000 ∧ ∀ n ∈ t.parts, -2147483648 ≤ n ∧ n < 2147483648
theorem vfits4 (n : Int) (h : -2147483648 ≤ n ∧ n < 2147483648) : fits n 4 := by
 unfold fits half; refine ⟨by decide, by decide, ?_, ?_⟩
 · show -(128 * 256 ^ 3) ≤ n; omega
 · show n < 128 * 256 ^ 3; omega
theorem vfits2 (n : Int) (h : -32768 ≤ n ∧ n < 32768) : fits n 2 := by
 unfold fits half; refine ⟨by decide, by decide, ?_, ?_⟩
 · show -(128 * 256 ^ 1) ≤ n; omega
 · show n < 128 * 256 ^ 1; omega
def InS.cnt (i : InS) (each : Nat) : Nat × InS := ((i.count 4 each).1.toNat, (i.count 4 each).2)
def cntP (each : Nat) (s : Bs) : Except Int (Nat × Nat) :=
  if s.length < 4 then .error 1 else if sInt (s.take 4) < 0 then .error 4 else if ((s.length : Int) - 4) / each < sInt (s.take 4) then .error 1 else .ok ((sInt (s.take 4)).toNat, 4)
theorem int4_ok (s : Bs) (pos : Nat) (hp : pos ≤ s.length) (h : 4 ≤ (s.drop pos).length) : pos + 4 ≤ s.length ∧ (⟨s, pos, 0⟩ : InS).int 4 = (sInt ((s.drop pos).take 4), ⟨s, pos + 4, 0⟩) :=
 (rds_intN 4 (by decide) (by decide)).ok s pos _ 4 hp (by unfold getIntN; rw [if_neg (by omega)])
theorem int4_short (s : Bs) (pos : Nat) (hp : pos ≤ s.length) (h : (s.drop pos).length < 4) : ∃ q, q ≤ s.length ∧ (⟨s, pos, 0⟩ : InS).int 4 = (0, ⟨s, q, 1⟩) :=
 ((rds_intN 4 (by decide) (by decide)).err s pos 1 hp (by unfold getIntN; rw [if_pos h])).2
theorem int_stuck (i : InS) (hi : i.err ≠ 0) : i.int 4 = (0, i) := (rds_intN 4 (by decide) (by decide)).stuck i hi
theorem rds_cnt (each : Nat) (he : 0 < each) : Rds (fun i => i.cnt each) (cntP each) 0 := by
 refine ⟨?_, ?_, ?_⟩
 · intro s pos a k hp h; unfold cntP at h
   by_cases h1 : (s.drop pos).length < 4
   · rw [if_pos h1] at h; cases h
   rw [if_neg h1] at h; obtain ⟨g1, g2⟩ := int4_ok s pos hp (by omega)
   by_cases h2 : sInt ((s.drop pos).take 4) < 0
   · rw [if_pos h2] at h; cases h
   rw [if_neg h2] at h
   by_cases h3 : (((s.drop pos).length : Int) - 4) / each < sInt ((s.drop pos).take 4)
   · rw [if_pos h3] at h; cases h
   rw [if_neg h3] at h
   cases h
   refine ⟨g1, ?_⟩
   show (((⟨s, pos, 0⟩ : InS).count 4 each).1.toNat, ((⟨s, pos, 0⟩ : InS).count 4 each).2) = _
   unfold InS.count; simp only [g2]
   rw [if_neg h2, if_neg (fun hh => h3 (by
     have e : ((⟨s, pos + 4, 0⟩ : InS).left : Int) = ((s.drop pos).length : Int) - 4 := by simp only [InS.left]; rw [List.length_drop]; rw [List.length_drop] at h1; omega
     rw [e] at hh
     exact hh.2))]
 · intro s pos e hp h; unfold cntP at h
   show e ≠ 0 ∧ ∃ q, q ≤ s.length ∧ (((⟨s, pos, 0⟩ : InS).count 4 each).1.toNat, ((⟨s, pos, 0⟩ : InS).count 4 each).2) = _
   unfold InS.count
   by_cases h1 : (s.drop pos).length < 4
   · rw [if_pos h1] at h
     cases h
     obtain ⟨q, g1, g2⟩ := int4_short s pos hp h1; refine ⟨by decide, q, g1, ?_⟩; simp only [g2]
     rw [if_neg (by decide), if_neg (fun hh => by
      have h2 := hh.2; have : (0 : Int) ≤ ((⟨s, q, 1⟩ : InS).left : Int) / (each : Int) := Int.ediv_nonneg (by omega) (by omega)
      omega)]
     rfl
   rw [if_neg h1] at h; obtain ⟨g1, g2⟩ := int4_ok s pos hp (by omega); simp only [g2]
   by_cases h2 : sInt ((s.drop pos).take 4) < 0
   · rw [if_pos h2] at h
     cases h
     rw [if_pos h2]; exact ⟨by decide, pos + 4, g1, rfl⟩
   rw [if_neg h2] at h ⊢; have e4 : ((⟨s, pos + 4, 0⟩ : InS).left : Int) = ((s.drop pos).length : Int) - 4 := by simp only [InS.left]; rw [List.length_drop]; rw [List.length_drop] at h1; omega
   rw [e4]
   by_cases h3 : (((s.drop pos).length : Int) - 4) / each < sInt ((s.drop pos).take 4)
   · rw [if_pos h3] at h
     cases h
     rw [if_pos ⟨by omega, h3⟩]; exact ⟨by decide, pos + 4, g1, rfl⟩
   rw [if_neg h3] at h
   cases h
 · intro i hi
   show (((i.count 4 each).1).toNat, (i.count 4 each).2) = _
   unfold InS.count; rw [int_stuck i hi]; simp only
   rw [if_neg (by decide), if_neg (fun hh => by
     have h2 := hh.2; have : (0 : Int) ≤ (i.left : Int) / (each : Int) := Int.ediv_nonneg (by omega) (by omega)
     omega)]
   rfl
def InS.partsN : Nat → List Int → InS → List Int × InS
  | 0, acc, i => (acc, i)
  | n + 1, acc, i => InS.partsN n (acc ++ [(i.int 4).1]) (i.int 4).2
def InS.parts (i : InS) : List Int × InS := InS.partsN (i.cnt 4).1 [] (i.cnt 4).2
theorem cntP_ok {each : Nat} {s : Bs} {n k : Nat} (he : 0 < each) (h : cntP each s = .ok (n, k)) : k = 4 ∧ 4 + each * n ≤ s.length ∧ (n : Int) = sInt (s.take 4) ∧ n < 2147483648 := by
 unfold cntP at h
 by_cases h1 : s.length < 4
 · rw [if_pos h1] at h; cases h
 rw [if_neg h1] at h
 by_cases h2 : sInt (s.take 4) < 0
 · rw [if_pos h2] at h; cases h
 rw [if_neg h2] at h
 by_cases h3 : ((s.length : Int) - 4) / each < sInt (s.take 4)
 · rw [if_pos h3] at h; cases h
 rw [if_neg h3] at h
 cases h
 have hn : ((sInt (s.take 4)).toNat : Int) = sInt (s.take 4) := Int.toNat_of_nonneg (by omega); refine ⟨rfl, ?_, hn, ?_⟩
 · have h4 : sInt (s.take 4) * each ≤ (s.length : Int) - 4 := (Int.le_ediv_iff_mul_le (by omega)).1 (by omega); rw [← hn] at h4; have h5 : ((sInt (s.take 4)).toNat : Int) * (each : Int) = ((each * (sInt (s.take 4)).toNat : Nat) : Int) := by rw [Nat.mul_comm]; exact (Int.natCast_mul _ _).symm
   rw [h5] at h4
   omega
 · have h6 : fits (sInt (s.take 4)) 4 := by
    exact sInt_fits (s.take 4) 4 (by decide) (by decide) (by rw [List.length_take]; omega)
   have h7 := h6.2.2.2; have e4 : half (4 : Int).toNat = 2147483648 := by decide
   rw [e4] at h7
   omega
def textP (s : Bs) : Except Int (Bs × Nat) := match refixed 2 s with
  | .error e => .error e
  | .ok x => if x.1.null then .error 4 else .ok (x.1.data, x.2)
theorem zq31 {p : Prop} (h : p := by
  unfold refixed at h
  split at h
  · cases h
  · unfold gotS at h
    split at h
    · cases h; rfl
    · split at h
      · cases h
      · split at h
        · cases h
        · cases h; cases hn) : p := h
theorem refixed_null {s : Bs} {x : BlobS × Nat} (h : refixed 2 s = .ok x) (hn : x.1.null = true) : x.1.data = [] := by
 exact zq31
theorem rds_text : Rds InS.text textP [] := by
 refine ⟨?_, ?_, ?_⟩
 · intro s pos a k hp h; unfold textP at h
   cases h1 : refixed 2 (s.drop pos) with
   | error e => rw [h1] at h; cases h
   | ok x =>
    rw [h1] at h; obtain ⟨g1, g2⟩ := (rds_fixed 2 (by decide) (by decide)).ok s pos x.1 x.2 hp h1
    cases hn : x.1.null with
    | true => simp [hn] at h
    | false =>
     simp only [hn] at h
     cases h
     refine ⟨g1, ?_⟩; unfold InS.text InS.bytes; have g2 : (⟨s, pos, 0⟩ : InS).fixed 2 = (x.1, ⟨s, pos + x.2, 0⟩) := g2; rw [g2]; simp only [hn]
     rfl
 · intro s pos e hp h; unfold textP at h
   cases h1 : refixed 2 (s.drop pos) with
   | error e1 =>
    rw [h1] at h
    cases h
    obtain ⟨g1, q, g2, g3⟩ := (rds_fixed 2 (by decide) (by decide)).err s pos e hp h1; refine ⟨g1, q, g2, ?_⟩; have g3 : (⟨s, pos, 0⟩ : InS).fixed 2 = (⟨false, []⟩, ⟨s, q, e⟩) := g3; unfold InS.text InS.bytes; rw [g3]
    rfl
   | ok x =>
    rw [h1] at h; obtain ⟨g1, g2⟩ := (rds_fixed 2 (by decide) (by decide)).ok s pos x.1 x.2 hp h1; have g2 : (⟨s, pos, 0⟩ : InS).fixed 2 = (x.1, ⟨s, pos + x.2, 0⟩) := g2
    cases hn : x.1.null with
    | false => simp [hn] at h
    | true =>
     simp [hn] at h; subst h; refine ⟨by decide, pos + x.2, g1, ?_⟩; unfold InS.text InS.bytes; rw [g2]; simp only [hn]; have hd := refixed_null h1 hn; rw [hd]
     rfl
 · intro i hi; have g : i.fixed 2 = (⟨false, []⟩, i) := (rds_fixed 2 (by decide) (by decide)).stuck i hi; unfold InS.text InS.bytes; rw [g]
   rfl
def InS.topsN : Nat → List TopS → InS → List TopS × InS
  | 0, acc, i => (acc, i)
  | n + 1, acc, i => if i.text.2.parts.2.err = 0 then InS.topsN n (acc ++ [⟨i.text.1, i.text.2.parts.1⟩]) i.text.2.parts.2 else ([], i.text.2.parts.2)
def InS.tops (i : InS) : List TopS × InS := InS.topsN (i.cnt 6).1 [] (i.cnt 6).2
theorem cnt_nat12 (i : InS) (each : Nat) : (i.count 4 each).1 = ((i.cnt each).1 : Int) ∧ (i.cnt each).1 ≤ 2147483647 := by
 have hr : -2147483648 ≤ (i.int 4).1 ∧ (i.int 4).1 < 2147483648 := by
  have e4 : half (4 : Int).toNat = 2147483648 := by decide
  by_cases hi : i.err = 0
  · obtain ⟨s, pos, er⟩ := i; simp only at hi; subst hi; unfold InS.int; rw [if_neg (by decide)]; simp only; unfold InS.take
    split
    · show -2147483648 ≤ sInt [] ∧ sInt [] < 2147483648; decide
    · split
      · show -2147483648 ≤ sInt [] ∧ sInt [] < 2147483648; decide
      · split
        · show -2147483648 ≤ sInt [] ∧ sInt [] < 2147483648; decide
        · rename_i h1 h2 h3
          have hl : (((s.drop pos)).take (4 : Int).toNat).length = 4 := by
           rw [List.length_take, List.length_drop]; simp only [InS.left] at h3; have : (4 : Int).toNat = 4 := rfl
           omega
          have h6 := sInt_fits _ 4 (by decide) (by decide) hl; have h7 := h6.2.2; have e5 : half ((4 : Nat) : Int).toNat = 2147483648 := by decide
          rw [e5] at h7; exact h7
  · rw [int_stuck i hi]; show (-2147483648 : Int) ≤ 0 ∧ (0 : Int) < 2147483648; decide
 have h0 : 0 ≤ (i.count 4 each).1 ∧ (i.count 4 each).1 < 2147483648 := by
  unfold InS.count; simp only
  split
  · simp
  · split
    · simp
    · omega
 unfold InS.cnt; simp only
 omega

theorem take_s12 (i : InS) (n : Int) : (i.take n).2.s = i.s ∧ (i.take n).1.length ≤ i.s.length := by
 unfold InS.take
 split
 · exact ⟨rfl, Nat.zero_le _⟩
 · split
   · exact ⟨rfl, Nat.zero_le _⟩
   · split
     · exact ⟨rfl, Nat.zero_le _⟩
     · refine ⟨rfl, ?_⟩; rw [List.length_take, List.length_drop]
       omega
theorem fail_s12 (i : InS) (e : Int) : (i.fail e).s = i.s := by unfold InS.fail; split <;> rfl
theorem int_s12 (i : InS) (k : Int) : (i.int k).2.s = i.s := by
 unfold InS.int
 split
 · exact fail_s12 _ _
 · exact (take_s12 _ _).1
theorem tk_s12 (i : InS) (n : Int) : (i.tk n).2.s = i.s ∧ (i.tk n).1.data.length ≤ i.s.length := by
 unfold InS.tk
 split
 · exact ⟨rfl, Nat.zero_le _⟩
 · exact take_s12 _ _
theorem fixed_s12 (i : InS) (k : Int) : (i.fixed k).2.s = i.s ∧ (i.fixed k).1.data.length ≤ i.s.length := by
 unfold InS.fixed; have h := tk_s12 (i.int k).2 (i.int k).1; rw [int_s12] at h; exact h
theorem text_s12 (i : InS) : i.text.2.s = i.s := by
 unfold InS.text InS.bytes; simp only
 split
 · rw [fail_s12]; exact (fixed_s12 i 2).1
 · exact (fixed_s12 i 2).1
theorem cnt_s12 (i : InS) (each : Nat) : (i.cnt each).2.s = i.s := by
 unfold InS.cnt InS.count; simp only
 split
 · rw [fail_s12]; exact int_s12 i 4
 · split
   · rw [fail_s12]; exact int_s12 i 4
   · exact int_s12 i 4
theorem part_len12 (i : InS) : (((i.int 4).2.fixed 4).1.data).length ≤ i.s.length := by
 have h := (fixed_s12 (i.int 4).2 4).2; rw [int_s12] at h; exact h
theorem ppart_s12 (i : InS) : i.ppart.2.s = i.s := by
 have h1 : ((i.int 4).2.fixed 4).2.s = i.s := by rw [(fixed_s12 _ 4).1, int_s12]
 have h2 : (if ((i.int 4).2.fixed 4).1.null = true then ((i.int 4).2.fixed 4).2.fail 4 else ((i.int 4).2.fixed 4).2).s = i.s := by
  split
  · rw [fail_s12]; exact h1
  · exact h1
 unfold InS.ppart; simp only
 split
 · exact h2
 · rw [fail_s12]; exact h2
def PartR.pb (x : PartR) : Int × List BatS := (x.idx, x.l.map BatR.b)
def InS.ppartsN : Nat → List (Int × List BatS) → InS → List (Int × List BatS) × InS
  | 0, acc, i => (acc, i)
  | n + 1, acc, i => if i.ppart.2.err = 0 then InS.ppartsN n (acc ++ [i.ppart.1]) i.ppart.2 else ([], i.ppart.2)
def InS.ptop (i : InS) : (Bs × List (Int × List BatS)) × InS :=
  ((i.text.1, (InS.ppartsN (i.text.2.cnt 8).1 [] (i.text.2.cnt 8).2).1), (InS.ppartsN (i.text.2.cnt 8).1 [] (i.text.2.cnt 8).2).2)
theorem ppartsN_s12 : ∀ (n : Nat) (acc : List (Int × List BatS)) (i : InS), (InS.ppartsN n acc i).2.s = i.s
  | 0, _, _ => rfl
  | n + 1, acc, i => by
    show (if i.ppart.2.err = 0 then InS.ppartsN n (acc ++ [i.ppart.1]) i.ppart.2 else ([], i.ppart.2)).2.s = i.s
    split
    · rw [ppartsN_s12 n]; exact ppart_s12 i
    · exact ppart_s12 i
theorem ptop_s12 (i : InS) : i.ptop.2.s = i.s := by
 unfold InS.ptop; simp only; rw [ppartsN_s12, cnt_s12, text_s12]
theorem p_cnt (p : Nat) (i j : InS) (each n : Nat) (ei : Int) (he : ei = each) (hx : i.cnt each = (n, j)) {W0 w : World} {K : Know} {L : List Res} (h : St W0 w K (.inp p i :: L)) :
  Calls Tryz.prog 45 #[inPtr p, .int .i64 4, .int .i64 ei] w fun en w' => en = .returned (.int .i64 n) ∧ St W0 w' K (.inp p j :: L) := by
 subst he; have h2 := s_count p i 4 each h; have hm := (cnt_nat12 i each).1; rw [hx] at hm; have h4 : (i.count 4 each).2 = j := by have := congrArg Prod.snd hx; exact this
 rw [hm, h4] at h2; exact h2
theorem p_text (p : Nat) (i j : InS) (s : Bs) (hx : i.text = (s, j)) {W0 w : World} {K : Know} {L : List Res} (h : St W0 w K (.inp p i :: L)) :
  Calls Tryz.prog 78 #[inPtr p] w fun en w' => en = .returned (.string (bb s)) ∧ St W0 w' K (.inp p j :: L) := by
 have h2 := blob_text p i h; rw [hx] at h2; exact h2
theorem elem_partP : ElemT Tryz.prog 68 (.agg #[.int .i64 0, .slice none 0 0]) 2 32 := elemT_of (by kernel_rfl) rfl (by decide)
theorem St.freezeParts {W0 w : World} {K : Know} {L : List Res} {v : Value} {T : TypeId} {l : List PartR} (h : St W0 w K (.row v T 2 l.length (l.flatMap pcells) :: L)) (ht : ∀ x ∈ l, K.has (Know.bats (.slice x.q x.l.length x.cap) x.l)) : St W0 w (K.and (Know.pparts v l)) L := by
 have hf := h.freezeRow (R := RPart) (fun x _ => ⟨rfl, rfl⟩); exact hf.know (K' := K.and (Know.pparts v l)) (fun w F hh => ⟨hh.1, hh.2, fun x hx => ht x hx _ _ hh.1⟩)
theorem reBat_ck {s : Bs} {b : BatS} {n : Nat} (h : reBat s = .ok (b, n)) (hs : s.length ≤ 1000000) (x : BatR) (hb : x.b = b) (hl : x.l.map (·.1) = x.b.recs) : CkR x := by
 obtain ⟨y, hy, _, hn, ha⟩ := reBat_ok h; obtain ⟨_, _, _, _, _, r6⟩ := pre_ranges hy; obtain ⟨_, _, rs, hu, _, hbb⟩ := asmB_ok ha; have hr : b.recs = rs := by rw [hbb]
 have hf : b.first = y.first := by rw [hbb]
 have hrl : (((s.drop 61).take (y.len - 49).toNat)).length ≤ 1000000 := by rw [List.length_take, List.length_drop]; omega
 obtain ⟨f1, f2⟩ := unp_fitB (l := x.l) hu (by rw [hl, hb, hr]) hrl; exact ⟨hl, by rw [hb, hf]; exact r6, f1, f2⟩
def BsOk (M : Nat) (l : List BatS) : Prop := l.length ≤ M ∧ ∀ b ∈ l, ∃ t n, reBat t = .ok (b, n) ∧ t.length ≤ M
def PpOk (M : Nat) (x : Int × List BatS) : Prop := BsOk M x.2
def PtOk (M : Nat) (x : Bs × List (Int × List BatS)) : Prop := x.1.length ≤ M ∧ x.2.length ≤ M ∧ ∀ y ∈ x.2, PpOk M y
theorem batsE_of {M : Nat} : ∀ (f : Nat) (s : Bs) (l : List BatS), batsE f s = .ok l → s.length ≤ M → 61 * l.length ≤ s.length ∧ ∀ b ∈ l, ∃ t n, reBat t = .ok (b, n) ∧ t.length ≤ M
  | 0, s, l, h, _ => by
    have h : Except.ok [] = Except.ok l := h; injection h with h; subst h; exact ⟨Nat.zero_le _, fun b hb => by cases hb⟩
  | f + 1, s, l, h, hs => by
    have h : (if s = [] then Except.ok [] else match reBat s with
      | .error e => Except.error e
      | .ok y => consB y.1 (batsE f (s.drop y.2))) = .ok l := h
    by_cases c : s = []
    · rw [if_pos c] at h; injection h with h; subst h; exact ⟨Nat.zero_le _, fun b hb => by cases hb⟩
    · rw [if_neg c] at h
      cases hr : reBat s with
      | error e => rw [hr] at h; cases h
      | ok y =>
        obtain ⟨b, n⟩ := y; rw [hr] at h; have h : consB b (batsE f (s.drop n)) = .ok l := h; obtain ⟨x, _, hn, hl, _⟩ := reBat_ok hr
        cases ht : batsE f (s.drop n) with
        | error e => rw [ht] at h; cases h
        | ok t =>
          rw [ht] at h; have h : Except.ok (b :: t) = Except.ok l := h; injection h with h; subst h; obtain ⟨g1, g2⟩ := batsE_of (M := M) f (s.drop n) t ht (by rw [List.length_drop]; omega); rw [List.length_drop] at g1; refine ⟨by rw [List.length_cons]; omega, fun z hz => ?_⟩
          rcases List.mem_cons.1 hz with hz | hz
          · subst hz; exact ⟨s, n, hr, hs⟩
          · exact g2 z hz
theorem ppart_ok {M : Nat} (i : InS) (hd : i.s.length ≤ M) : PpOk M i.ppart.1 := by
 have h1 := part_len12 i; unfold InS.ppart; simp only
 split
 · rename_i l hl
   obtain ⟨g1, g2⟩ := batsE_of (M := M) _ _ l hl (by omega); exact ⟨by show l.length ≤ M; omega, g2⟩
 · exact ⟨Nat.zero_le _, fun b hb => by cases hb⟩
theorem ppartsN_ok {M : Nat} : ∀ (n : Nat) (acc : List (Int × List BatS)) (i : InS), i.s.length ≤ M → (∀ x ∈ acc, PpOk M x) → (InS.ppartsN n acc i).1.length ≤ acc.length + n ∧ ∀ x ∈ (InS.ppartsN n acc i).1, PpOk M x
  | 0, acc, i, _, ha => ⟨Nat.le_refl _, ha⟩
  | n + 1, acc, i, hd, ha => by
    show (if i.ppart.2.err = 0 then InS.ppartsN n (acc ++ [i.ppart.1]) i.ppart.2 else ([], i.ppart.2)).1.length ≤ acc.length + (n + 1) ∧ ∀ x ∈ (if i.ppart.2.err = 0 then InS.ppartsN n (acc ++ [i.ppart.1]) i.ppart.2 else ([], i.ppart.2)).1, PpOk M x
    split
    · obtain ⟨g1, g2⟩ := ppartsN_ok n (acc ++ [i.ppart.1]) i.ppart.2 (by rw [ppart_s12]; exact hd) (fun x hx => by
        rcases List.mem_append.1 hx with hx | hx
        · exact ha x hx
        · rw [List.mem_singleton.1 hx]; exact ppart_ok i hd)
      rw [List.length_append, List.length_singleton] at g1; exact ⟨by omega, g2⟩
    · exact ⟨Nat.zero_le _, fun x hx => by cases hx⟩
theorem cnt_le13 (i : InS) (each : Nat) (he : 1 ≤ each) : (i.cnt each).1 ≤ i.s.length := by
 unfold InS.cnt InS.count; simp only
 split
 · exact Nat.zero_le _
 · split
   · exact Nat.zero_le _
   · rename_i h1 h2
     have h3 : (i.int 4).1 ≤ (((i.int 4).2.left : Nat) : Int) / each := by omega
     have h4 : (((i.int 4).2.left : Nat) : Int) / each ≤ ((i.int 4).2.left : Nat) := Int.ediv_le_self _ (by omega); have h5 : (i.int 4).2.left ≤ i.s.length := by unfold InS.left; rw [int_s12]; omega
     omega
theorem ptop_ok {M : Nat} (i : InS) (hd : i.s.length ≤ M) : PtOk M i.ptop.1 := by
 have h0 : i.text.1.length ≤ i.s.length := (fixed_s12 i 2).2; have h1 := cnt_le13 i.text.2 8 (by decide); have h2 := cnt_s12 i.text.2 8; rw [text_s12] at h1 h2; obtain ⟨g1, g2⟩ := ppartsN_ok (i.text.2.cnt 8).1 [] (i.text.2.cnt 8).2 (by rw [h2]; exact hd) (fun x hx => by cases hx); rw [List.length_nil] at g1; exact ⟨by show i.text.1.length ≤ M; omega, by show (InS.ppartsN (i.text.2.cnt 8).1 [] (i.text.2.cnt 8).2).1.length ≤ M; omega, g2⟩
def PTop.pt (x : PTop) : Bs × List (Int × List BatS) := (x.name, x.l.map PartR.pb)
theorem ck_top {M : Nat} (hM : M ≤ 1000000) (x : PTop) (h : PtOk M x.pt) (hm : ∀ y ∈ x.l, ∀ z ∈ y.l, z.l.map (·.1) = z.b.recs) : CkT x := by
 obtain ⟨h1, h2, h3⟩ := h; have h2 : (x.l.map PartR.pb).length ≤ M := h2; rw [List.length_map] at h2; have h1 : x.name.length ≤ M := h1; refine ⟨by omega, by omega, fun y hy => ?_⟩; obtain ⟨g1, g2⟩ := h3 y.pb (List.mem_map_of_mem hy); have g1 : (y.l.map BatR.b).length ≤ M := g1; rw [List.length_map] at g1; refine ⟨by omega, fun z hz => ?_⟩; obtain ⟨t, n, hr, ht⟩ := g2 z.b (List.mem_map_of_mem hz); exact reBat_ck hr (by omega) z rfl (hm y hy z hz)
def InS.ptopsN : Nat → List (Bs × List (Int × List BatS)) → InS → List (Bs × List (Int × List BatS)) × InS
  | 0, acc, i => (acc, i)
  | n + 1, acc, i => if i.ptop.2.err = 0 then InS.ptopsN n (acc ++ [i.ptop.1]) i.ptop.2 else ([], i.ptop.2)
theorem ptopsN_ok {M : Nat} : ∀ (n : Nat) (acc : List (Bs × List (Int × List BatS))) (i : InS), i.s.length ≤ M → (∀ x ∈ acc, PtOk M x) → (InS.ptopsN n acc i).1.length ≤ acc.length + n ∧ ∀ x ∈ (InS.ptopsN n acc i).1, PtOk M x
  | 0, acc, i, _, ha => ⟨Nat.le_refl _, ha⟩
  | n + 1, acc, i, hd, ha => by
    show (if i.ptop.2.err = 0 then InS.ptopsN n (acc ++ [i.ptop.1]) i.ptop.2 else ([], i.ptop.2)).1.length ≤ acc.length + (n + 1) ∧ ∀ x ∈ (if i.ptop.2.err = 0 then InS.ptopsN n (acc ++ [i.ptop.1]) i.ptop.2 else ([], i.ptop.2)).1, PtOk M x
    split
    · obtain ⟨g1, g2⟩ := ptopsN_ok n (acc ++ [i.ptop.1]) i.ptop.2 (by rw [ptop_s12]; exact hd) (fun x hx => by
        rcases List.mem_append.1 hx with hx | hx
        · exact ha x hx
        · rw [List.mem_singleton.1 hx]; exact ptop_ok i hd)
      rw [List.length_append, List.length_singleton] at g1; exact ⟨by omega, g2⟩
    · exact ⟨Nat.zero_le _, fun x hx => by cases hx⟩

theorem elem_topP : ElemT Tryz.prog 65 (.agg #[.string ⟨#[]⟩, .slice none 0 0]) 2 40 := elemT_of (by kernel_rfl) rfl (by decide)
theorem St.freezeTopsP {W0 w : World} {K : Know} {L : List Res} {v : Value} {T : TypeId} {l : List PTop} (h : St W0 w K (.row v T 2 l.length (l.flatMap ptcells) :: L)) (ht : ∀ x ∈ l, K.has (Know.pparts (.slice x.q x.l.length x.cap) x.l)) : St W0 w (K.and (Know.ptops v l)) L := by
 have hf := h.freezeRow (R := RPTop) (fun x _ => ⟨rfl, rfl⟩); exact hf.know (K' := K.and (Know.ptops v l)) (fun w F hh => ⟨hh.1, hh.2, fun x hx => ht x hx _ _ hh.1⟩)
abbrev PartV := Int × List BatS
abbrev TopV := Bs × List PartV
theorem batsE_ne : ∀ (f : Nat) (s : Bs) (e : Int), batsE f s = .error e → e ≠ 0
  | 0, s, e, h => by cases h
  | f + 1, s, e, h => by
    have h : (if s = [] then Except.ok [] else match reBat s with
      | .error e => Except.error e
      | .ok y => consB y.1 (batsE f (s.drop y.2))) = .error e := h
    by_cases c : s = []
    · rw [if_pos c] at h; cases h
    · rw [if_neg c] at h
      cases hr : reBat s with
      | error e2 => rw [hr] at h; cases h; exact reBat_ne hr
      | ok y =>
        rw [hr] at h; have h : consB y.1 (batsE f (s.drop y.2)) = .error e := h
        cases ht : batsE f (s.drop y.2) with
        | error e2 => rw [ht] at h; have h : Except.error e2 = Except.error e := h; cases h; exact batsE_ne f _ e ht
        | ok t => rw [ht] at h; cases h
theorem batsS_ne {s : Bs} {e : Int} (h : batsS s = .error e) : e ≠ 0 := batsE_ne _ _ _ h
def ppartP (s : Bs) : Except Int (PartV × Nat) :=
  if s.length < 4 then .error 1 else match refixed 4 (s.drop 4) with
  | .error e => .error e
  | .ok x => if x.1.null then .error 4 else match batsS x.1.data with
    | .error e => .error e
    | .ok l => .ok ((sInt (s.take 4), l), 4 + x.2)
def ppartN : Nat → Bs → Except Int (List PartV × Nat)
  | 0, _ => .ok ([], 0)
  | n + 1, s => match ppartP s with
    | .error e => .error e
    | .ok x => match ppartN n (s.drop x.2) with
      | .error e => .error e
      | .ok y => .ok (x.1 :: y.1, x.2 + y.2)
def ptopP (s : Bs) : Except Int (TopV × Nat) := match textP s with
  | .error e => .error e
  | .ok x => match cntP 8 (s.drop x.2) with
    | .error e => .error e
    | .ok n => match ppartN n.1 (s.drop (x.2 + 4)) with
      | .error e => .error e
      | .ok y => .ok ((x.1, y.1), x.2 + 4 + y.2)
def ptopN : Nat → Bs → Except Int (List TopV × Nat)
  | 0, _ => .ok ([], 0)
  | n + 1, s => match ptopP s with
    | .error e => .error e
    | .ok x => match ptopN n (s.drop x.2) with
      | .error e => .error e
      | .ok y => .ok (x.1 :: y.1, x.2 + y.2)
def preqP (s : Bs) : Except Int ((BlobS × Int × Int × List TopV) × Nat) := match refixed 2 s with
  | .error e => .error e
  | .ok b => if (s.drop b.2).length < 6 then .error 1 else match cntP 6 (s.drop (b.2 + 6)) with
    | .error e => .error e
    | .ok n => match ptopN n.1 (s.drop (b.2 + 10)) with
      | .error e => .error e
      | .ok y => .ok ((b.1, sInt ((s.drop b.2).take 2), sInt ((s.drop (b.2 + 2)).take 4), y.1), b.2 + 10 + y.2)
theorem refixed_nullK {k : Nat} {s : Bs} {x : BlobS × Nat} (h : refixed k s = .ok x) (hn : x.1.null = true) : x.1.data = [] := by
 exact zq31
theorem ppartA {s : Bs} {pos : Nat} {x : PartV} {m : Nat} (hp : pos ≤ s.length) (h : ppartP (s.drop pos) = .ok (x, m)) : pos + m ≤ s.length ∧ (⟨s, pos, 0⟩ : InS).ppart = (x, ⟨s, pos + m, 0⟩) := by
 unfold ppartP at h
 by_cases h4 : (s.drop pos).length < 4
 · rw [if_pos h4] at h; cases h
 rw [if_neg h4] at h; obtain ⟨g1, g2⟩ := int4_ok s pos hp (by omega); rw [List.drop_drop] at h
 cases hr : refixed 4 (s.drop (pos + 4)) with
 | error e => rw [hr] at h; cases h
 | ok b =>
  rw [hr] at h; obtain ⟨g3, g4⟩ := (rds_fixed 4 (by decide) (by decide)).ok s (pos + 4) b.1 b.2 g1 hr; have g4 : (⟨s, pos + 4, 0⟩ : InS).fixed 4 = (b.1, ⟨s, pos + 4 + b.2, 0⟩) := g4
  (try simp only at h)
  cases hn : b.1.null with
  | true => rw [hn, if_pos rfl] at h; cases h
  | false =>
   rw [hn, if_neg (by decide)] at h
   cases hb : batsS b.1.data with
   | error e => rw [hb] at h; cases h
   | ok l =>
    rw [hb] at h
    cases h
    refine ⟨by omega, ?_⟩; unfold InS.ppart; simp only [g2, g4, hn, hb]; rw [Nat.add_assoc]
    rfl
theorem ppartB {s : Bs} {pos : Nat} {e : Int} (hp : pos ≤ s.length) (h : ppartP (s.drop pos) = .error e) : e ≠ 0 ∧ ∃ q, q ≤ s.length ∧ (⟨s, pos, 0⟩ : InS).ppart.2 = ⟨s, q, e⟩ := by
 unfold ppartP at h
 by_cases h4 : (s.drop pos).length < 4
 · rw [if_pos h4] at h
   cases h
   obtain ⟨q, g1, g2⟩ := int4_short s pos hp h4; have g3 : (⟨s, q, 1⟩ : InS).fixed 4 = (⟨false, []⟩, ⟨s, q, 1⟩) := (rds_fixed 4 (by decide) (by decide)).stuck ⟨s, q, 1⟩ (by show (1 : Int) ≠ 0; decide); refine ⟨by decide, q, g1, ?_⟩; unfold InS.ppart; simp only [g2, g3, batsS_nil]
   rfl
 rw [if_neg h4] at h; obtain ⟨g1, g2⟩ := int4_ok s pos hp (by omega); rw [List.drop_drop] at h
 cases hr : refixed 4 (s.drop (pos + 4)) with
 | error e2 =>
   rw [hr] at h
   cases h
   obtain ⟨g3, q, g4, g5⟩ := (rds_fixed 4 (by decide) (by decide)).err s (pos + 4) e g1 hr; refine ⟨g3, q, g4, ?_⟩; have g5 : (⟨s, pos + 4, 0⟩ : InS).fixed 4 = (⟨false, []⟩, ⟨s, q, e⟩) := g5; unfold InS.ppart; simp only [g2, g5, batsS_nil]
   rfl
 | ok b =>
   rw [hr] at h; obtain ⟨g3, g4⟩ := (rds_fixed 4 (by decide) (by decide)).ok s (pos + 4) b.1 b.2 g1 hr; have g4 : (⟨s, pos + 4, 0⟩ : InS).fixed 4 = (b.1, ⟨s, pos + 4 + b.2, 0⟩) := g4
   (try simp only at h)
   cases hn : b.1.null with
   | true =>
    rw [hn, if_pos rfl] at h
    cases h
    refine ⟨by decide, pos + 4 + b.2, g3, ?_⟩; unfold InS.ppart; simp only [g2, g4, hn, if_true, refixed_nullK hr hn, batsS_nil]
    rfl
   | false =>
    rw [hn, if_neg (by decide)] at h
    cases hb : batsS b.1.data with
    | error e2 =>
     rw [hb] at h
     cases h
     refine ⟨batsS_ne hb, pos + 4 + b.2, g3, ?_⟩; unfold InS.ppart; simp only [g2, g4, hn, hb]
     rfl
    | ok l => rw [hb] at h; cases h
theorem ppartsN_at : ∀ (n : Nat) (acc : List PartV) (s : Bs) (pos : Nat), pos ≤ s.length →
    (∀ t k, ppartN n (s.drop pos) = .ok (t, k) → pos + k ≤ s.length ∧ InS.ppartsN n acc ⟨s, pos, 0⟩ = (acc ++ t, ⟨s, pos + k, 0⟩)) ∧
    (∀ e, ppartN n (s.drop pos) = .error e → e ≠ 0 ∧ ∃ q, q ≤ s.length ∧ InS.ppartsN n acc ⟨s, pos, 0⟩ = ([], ⟨s, q, e⟩))
  | 0, acc, s, pos, hp => ⟨fun t k h => (by cases h; simp [InS.ppartsN]; exact hp), fun e h => (by cases h)⟩
  | n + 1, acc, s, pos, hp => by
    unfold ppartN InS.ppartsN
    cases h1 : ppartP (s.drop pos) with
    | error e1 =>
      refine ⟨fun t k h => (by cases h), fun e h => ?_⟩
      cases h
      obtain ⟨g1, q, g2, g3⟩ := ppartB hp h1; refine ⟨g1, q, g2, ?_⟩; rw [g3, if_neg g1]
    | ok x =>
      obtain ⟨g1, g2⟩ := ppartA hp h1; have ih := ppartsN_at n (acc ++ [x.1]) s (pos + x.2) g1; rw [g2]; simp only [if_true]; rw [List.drop_drop]; refine ⟨fun t k h => ?_, fun e h => ?_⟩
      · cases h2 : ppartN n (s.drop (pos + x.2)) with
        | error e2 => rw [h2] at h; cases h
        | ok y =>
          exact zq27
      · cases h2 : ppartN n (s.drop (pos + x.2)) with
        | error e2 =>
          rw [h2] at h
          cases h
          exact ih.2 e h2
        | ok y => rw [h2] at h; cases h
theorem ptopA {s : Bs} {pos : Nat} {x : TopV} {m : Nat} (hp : pos ≤ s.length) (h : ptopP (s.drop pos) = .ok (x, m)) : pos + m ≤ s.length ∧ (⟨s, pos, 0⟩ : InS).ptop = (x, ⟨s, pos + m, 0⟩) := by
 unfold ptopP at h
 cases h1 : textP (s.drop pos) with
 | error e1 => rw [h1] at h; cases h
 | ok t =>
  rw [h1] at h; obtain ⟨g1, g2⟩ := rds_text.ok s pos t.1 t.2 hp h1; simp only [List.drop_drop] at h
  cases h2 : cntP 8 (s.drop (pos + t.2)) with
  | error e2 => rw [h2] at h; cases h
  | ok c =>
   rw [h2] at h; obtain ⟨g3, g4⟩ := (rds_cnt 8 (by decide)).ok s (pos + t.2) c.1 c.2 g1 h2; obtain ⟨c1, _, _, _⟩ := cntP_ok (by decide) h2; have g4 : (⟨s, pos + t.2, 0⟩ : InS).cnt 8 = (c.1, ⟨s, pos + t.2 + c.2, 0⟩) := g4
   (try simp only at h)
   rw [c1] at g3 g4
   cases h3 : ppartN c.1 (s.drop (pos + (t.2 + 4))) with
   | error e3 => rw [h3] at h; cases h
   | ok y =>
    rw [h3] at h
    cases h
    rw [← Nat.add_assoc] at h3; obtain ⟨a, b⟩ := (ppartsN_at c.1 [] s (pos + t.2 + 4) g3).1 y.1 y.2 h3; refine ⟨by omega, ?_⟩; unfold InS.ptop; rw [g2]; simp only [g4, b, List.nil_append]; rw [show pos + (t.2 + 4 + y.2) = pos + t.2 + 4 + y.2 by omega]
theorem ptopB {s : Bs} {pos : Nat} {e : Int} (hp : pos ≤ s.length) (h : ptopP (s.drop pos) = .error e) : e ≠ 0 ∧ ∃ q, q ≤ s.length ∧ (⟨s, pos, 0⟩ : InS).ptop.2 = ⟨s, q, e⟩ := by
 unfold ptopP at h
 cases h1 : textP (s.drop pos) with
 | error e1 =>
  rw [h1] at h
  cases h
  obtain ⟨g1, q, g2, g3⟩ := rds_text.err s pos e hp h1; have g4 : (⟨s, q, e⟩ : InS).cnt 8 = (0, ⟨s, q, e⟩) := (rds_cnt 8 (by decide)).stuck ⟨s, q, e⟩ g1; refine ⟨g1, q, g2, ?_⟩; unfold InS.ptop; rw [g3]; simp only [g4]
  rfl
 | ok t =>
  rw [h1] at h; obtain ⟨g1, g2⟩ := rds_text.ok s pos t.1 t.2 hp h1; simp only [List.drop_drop] at h
  cases h2 : cntP 8 (s.drop (pos + t.2)) with
  | error e2 =>
   rw [h2] at h
   cases h
   obtain ⟨g3, q, g4, g5⟩ := (rds_cnt 8 (by decide)).err s (pos + t.2) e g1 h2; have g5 : (⟨s, pos + t.2, 0⟩ : InS).cnt 8 = (0, ⟨s, q, e⟩) := g5; refine ⟨g3, q, g4, ?_⟩; unfold InS.ptop; rw [g2]; simp only [g5]
   rfl
  | ok c =>
   rw [h2] at h; obtain ⟨g3, g4⟩ := (rds_cnt 8 (by decide)).ok s (pos + t.2) c.1 c.2 g1 h2; obtain ⟨c1, _, _, _⟩ := cntP_ok (by decide) h2; have g4 : (⟨s, pos + t.2, 0⟩ : InS).cnt 8 = (c.1, ⟨s, pos + t.2 + c.2, 0⟩) := g4
   (try simp only at h)
   rw [c1] at g3 g4
   cases h3 : ppartN c.1 (s.drop (pos + (t.2 + 4))) with
   | error e3 =>
    rw [h3] at h
    cases h
    rw [← Nat.add_assoc] at h3; obtain ⟨g5, q, g6, g7⟩ := (ppartsN_at c.1 [] s (pos + t.2 + 4) g3).2 e h3; refine ⟨g5, q, g6, ?_⟩; unfold InS.ptop; rw [g2]; simp only [g4, g7]
   | ok y => rw [h3] at h; cases h
theorem ptopsN_at : ∀ (n : Nat) (acc : List TopV) (s : Bs) (pos : Nat), pos ≤ s.length →
    (∀ t k, ptopN n (s.drop pos) = .ok (t, k) → pos + k ≤ s.length ∧ InS.ptopsN n acc ⟨s, pos, 0⟩ = (acc ++ t, ⟨s, pos + k, 0⟩)) ∧
    (∀ e, ptopN n (s.drop pos) = .error e → e ≠ 0 ∧ ∃ q, q ≤ s.length ∧ InS.ptopsN n acc ⟨s, pos, 0⟩ = ([], ⟨s, q, e⟩))
  | 0, acc, s, pos, hp => ⟨fun t k h => (by cases h; simp [InS.ptopsN]; exact hp), fun e h => (by cases h)⟩
  | n + 1, acc, s, pos, hp => by
    unfold ptopN InS.ptopsN
    cases h1 : ptopP (s.drop pos) with
    | error e1 =>
      refine ⟨fun t k h => (by cases h), fun e h => ?_⟩
      cases h
      obtain ⟨g1, q, g2, g3⟩ := ptopB hp h1; refine ⟨g1, q, g2, ?_⟩; rw [g3, if_neg g1]
    | ok x =>
      obtain ⟨g1, g2⟩ := ptopA hp h1; have ih := ptopsN_at n (acc ++ [x.1]) s (pos + x.2) g1; rw [g2]; simp only [if_true]; rw [List.drop_drop]; refine ⟨fun t k h => ?_, fun e h => ?_⟩
      · cases h2 : ptopN n (s.drop (pos + x.2)) with
        | error e2 => rw [h2] at h; cases h
        | ok y =>
          exact zq27
      · cases h2 : ptopN n (s.drop (pos + x.2)) with
        | error e2 =>
          rw [h2] at h
          cases h
          exact ih.2 e h2
        | ok y => rw [h2] at h; cases h
def ReqI (i : InS) (b : BlobS) (ac tm : Int) (ts : List TopV) (j : InS) : Prop :=
  ∃ (i1 i2 i3 c : InS) (n : Nat), i.fixed 2 = (b, i1) ∧ i1.int 2 = (ac, i2) ∧ i2.int 4 = (tm, i3) ∧ i3.cnt 6 = (n, c) ∧ InS.ptopsN n [] c = (ts, j)
theorem preq_ok {s : Bs} {b : BlobS} {ac tm : Int} {ts : List TopV} {m : Nat} (h : preqP s = .ok ((b, ac, tm, ts), m)) : m ≤ s.length ∧ ReqI ⟨s, 0, 0⟩ b ac tm ts ⟨s, m, 0⟩ := by
 unfold preqP at h
 cases h1 : refixed 2 s with
 | error e => rw [h1] at h; cases h
 | ok x =>
  rw [h1] at h; obtain ⟨g1, g2⟩ := (rds_fixed 2 (by decide) (by decide)).ok s 0 x.1 x.2 (Nat.zero_le _) (by rw [List.drop_zero]; exact h1); have g2 : (⟨s, 0, 0⟩ : InS).fixed 2 = (x.1, ⟨s, 0 + x.2, 0⟩) := g2; simp only [Nat.zero_add] at g1 g2
  (try simp only at h)
  by_cases h6 : (s.drop x.2).length < 6
  · rw [if_pos h6] at h; cases h
  rw [if_neg h6] at h; have h6l := h6; rw [List.length_drop] at h6l; have g3 := int_okA 2 (by decide) (by decide) s x.2 (by omega); have g4 := int_okA 4 (by decide) (by decide) s (x.2 + 2) (by omega)
  cases h2 : cntP 6 (s.drop (x.2 + 6)) with
  | error e => rw [h2] at h; cases h
  | ok c =>
   rw [h2] at h; obtain ⟨g5, g6⟩ := (rds_cnt 6 (by decide)).ok s (x.2 + 6) c.1 c.2 (by omega) h2; obtain ⟨c1, _, _, _⟩ := cntP_ok (by decide) h2; have g6 : (⟨s, x.2 + 6, 0⟩ : InS).cnt 6 = (c.1, ⟨s, x.2 + 6 + c.2, 0⟩) := g6
   (try simp only at h)
   rw [c1] at g5 g6
   cases h3 : ptopN c.1 (s.drop (x.2 + 10)) with
   | error e => rw [h3] at h; cases h
   | ok y =>
    rw [h3] at h; obtain ⟨a, d⟩ := (ptopsN_at c.1 [] s (x.2 + 6 + 4) g5).1 y.1 y.2 h3
    cases h
    refine ⟨by omega, _, _, _, _, c.1, g2, g3, g4, g6, ?_⟩; rw [d, List.nil_append]
set_option maxHeartbeats 2000000 in
set_option maxRecDepth 100000 in
theorem put_part (po : Nat) (e e2 : Bs) (idx : Int) (l : List BatR) (q : Option Addr) (cap : Nat) (hp : PutP ⟨idx, l, q, cap⟩) (he : e ++ encPart ⟨idx, l, q, cap⟩ = e2) (hel : e.length ≤ 10000000) {W0 w : World} {K : Know} {L : List Res} (hk : K.has (Know.bats (.slice q l.length cap) l)) (h : St W0 w K (.out po ⟨e, 0⟩ :: L)) :
  Calls Tryz.prog 34 #[outPtr po, .agg #[.int .i64 idx, .slice q l.length cap]] w fun en w' => en = .returned (.tuple #[]) ∧ St W0 w' K (.out po ⟨e2, 0⟩ :: L) := by
 obtain ⟨rb, hrb⟩ : ∃ b, w.heap.size = b := ⟨_, rfl⟩; have g1 := (h.allocRaw #[.int .i64 idx, .slice q l.length cap] 68).p1; rw [hrb] at g1; have y0 := g1.p1.rawCell 0; have y1 := g1.p1.rawCell 1; simp at y0 y1; obtain ⟨s, hs⟩ : ∃ s, encB l = s := ⟨_, rfl⟩; obtain ⟨e1, he1⟩ : ∃ x, e ++ beBytes idx (4 : Int).toNat = x := ⟨_, rfl⟩; have hsl : s.length ≤ 280000 := by rw [← hs]; exact hp.len
 have H := Lib.hid g1; have HK := Lib.hid hk; have HSE := Lib.hid (show allB l = (s, 0) by rw [allB_good hp.err, hs]); have HFT := Lib.hid (show ∀ x ∈ l, x.Fit from hp.fit); have HSM := Lib.hid (show ∀ x ∈ l, smallB (x.l.map (·.1)) = true from hp.small); have HLL := Lib.hid (show l.length ≤ 20 from hp.few); have HE1 := Lib.hid he1; have HF4 := Lib.hid (pfits4 idx (by have h1 : 0 ≤ idx ∧ idx ≤ 2147483647 := hp.idx; omega)); have HR8 := Lib.hid (show -9223372036854775808 ≤ idx ∧ idx < 9223372036854775808 by have h1 : 0 ≤ idx ∧ idx ≤ 2147483647 := hp.idx; omega); have HL0 := Lib.hid (show e.length ≤ 100000000000000 by omega); have HL1 := Lib.hid (show e1.length ≤ 100000000000000 by rw [← he1, List.length_append, beBytes_length]; show e.length + 4 ≤ _; omega)
 have HE2 := Lib.hid (show e1 ++ encF 4 ⟨false, s⟩ = e2 by
  rw [← he1, ← he, List.append_assoc, ← hs]
  rfl)
 have HSL := Lib.hid (show s.length ≤ 100000000 by omega); clear h g1 hk hp he he1 hel hs hsl; go_enter Tryz.func34, Tryz.ntmps34
 go_wp2_with (first
  | (go_at_call 25; clear y0 y1; (with_reducible refine (bat_all l q cap s 0 HSE.out HFT.out HSM.out HLL.out HK.out H.out).mono ?_); rintro e_ wn ⟨rfl, h⟩; have y0 := h.p1.rawCell 0; have y1 := h.p1.rawCell 1; simp at y0 y1; replace H := Lib.hid h; clear h)
  | (go_at_call 32; (with_reducible refine (pso_int po e e1 idx 4 HE1.out HF4.out HR8.out HL0.out H.out).mono ?_); rintro e_ wn ⟨rfl, h⟩; replace H := Lib.hid h; clear h)
  | (go_at_call 68; (with_reducible refine (pblob_of s H.out).mono ?_); rintro e_ wn ⟨rfl, h⟩; replace H := Lib.hid h; clear h)
  | (go_at_call 31; (with_reducible refine (pblob_fixed4 po e1 e2 s HE2.out HSL.out HL1.out H.out).mono ?_); rintro e_ wn ⟨rfl, h⟩; replace H := Lib.hid h; clear h))
 go_end0; exact ⟨rfl, H.out.p1.drop⟩
set_option maxHeartbeats 1000000 in
set_option maxRecDepth 100000 in
theorem parts_rise (l : List PartR) (q : Option Addr) (cap : Nat) (r : Bool) (hr : riseP (-1) l = r) (hll : l.length ≤ 4398046511104) {W0 w : World} {K : Know} {L : List Res} (hk : K.has (Know.pparts (.slice q l.length cap) l)) (h : St W0 w K L) :
  Calls Tryz.prog 72 #[.slice q l.length cap] w fun en w' => en = .returned (.bool r) ∧ St W0 w' K L := by
 have H := Lib.hid h; have HK := Lib.hid hk; have HR := Lib.hid (show riseP (-1) (l.drop 0) = r by rw [List.drop_zero]; exact hr); have hni : (l.length : Int) ≤ 4398046511104 := by omega
 clear h hk hr hll; go_enter Tryz.func72, Tryz.ntmps72; go_wp2; go_loopw [3, 8] (fun av iv wr => ∃ (k : Nat) (a : Int), k ≤ l.length ∧ iv = .int .i64 k ∧ av = .int .i64 a ∧ Hid (riseP a (l.drop k) = r) ∧ St W0 wr K L) (fun _ iv _ => l.length - (intOf iv).toNat)
 case atStart => exact ⟨0, -1, Nat.zero_le _, rfl, rfl, HR, H.out⟩
 case round =>
  obtain ⟨k, a, hkl, rfl, rfl, HC, hst⟩ := hrel; clear H HR; have H := Lib.hid hst; clear hst
  by_cases hlt : k < l.length
  · obtain ⟨bk, off, hqq⟩ := pparts_at HK.out H.out (by omega); subst hqq; obtain ⟨x, hx⟩ : ∃ x, l[k] = x := ⟨_, rfl⟩; obtain ⟨c0, c1⟩ := pparts_cell HK.out H.out k hlt x hx; have hc := HC.out; rw [List.drop_eq_getElem_cons hlt, hx, riseP_cons] at hc; have hkn : (k : Int) < (l.length : Int) := by omega
    obtain ⟨i, hi⟩ : ∃ i, x.idx = i := ⟨_, rfl⟩; rw [hi] at c0 hc
    by_cases c2 : a < i
    · have d1 : decide (i ≤ a) = false := decide_eq_false (by omega)
      by_cases c3 : i ≤ 2147483647
      · have d2 : decide (2147483647 < i) = false := decide_eq_false (by omega); rw [decide_eq_true c2, decide_eq_true c3, Bool.true_and, Bool.true_and] at hc; have HC2 := Lib.hid hc; clear hc hx hi c2 c3; go_wp2_with fail; go_roundw
        case rel =>
         refine ⟨k + 1, i, hlt, by go_num, rfl, HC2, ?_⟩
         first | exact H.out | exact H.out.alloc _
        case measure => first | (simp [intOf]; done) | (simp [intOf]; omega)
      · have d2 : decide (2147483647 < i) = true := decide_eq_true (by omega); rw [decide_eq_false c3, Bool.and_false, Bool.false_and] at hc; subst hc; clear hx hi c2 c3; go_wp2_with fail; go_ret; exact ⟨rfl, by first | exact H.out | exact H.out.alloc _⟩
    · have d1 : decide (i ≤ a) = true := decide_eq_true (by omega); rw [decide_eq_false c2, Bool.false_and, Bool.false_and] at hc; subst hc; clear hx hi c2; go_wp2_with fail; go_ret; exact ⟨rfl, by first | exact H.out | exact H.out.alloc _⟩
  · obtain rfl : k = l.length := by omega
    have hc := HC.out; rw [List.drop_length] at hc; have hc : true = r := hc; subst hc; go_wp2_with fail; go_ret; exact ⟨rfl, H.out⟩

theorem zq35 {p : Prop} (h : p := by
  obtain rfl : k = l.length := by omega
  have hc := HC.out; rw [List.drop_length] at hc; have hc : 0 = e := hc; subst hc; go_wp2_with fail; go_ret; exact ⟨rfl, H.out⟩) : p := h
set_option maxHeartbeats 2000000 in
set_option maxRecDepth 100000 in
theorem check_batches (txn : Bool) (l : List BatR) (q : Option Addr) (cap : Nat) (e : Int) (he : errBs txn l = e) (hf : ∀ x ∈ l, CkR x) (hll : l.length ≤ 4398046511104) {W0 w : World} {K : Know} {L : List Res} (hk : K.has (Know.bats (.slice q l.length cap) l)) (h : St W0 w K L) :
  Calls Tryz.prog 73 #[.slice q l.length cap, .bool txn] w fun en w' => en = .returned (.int .i64 e) ∧ St W0 w' K L := by
 have H := Lib.hid h; have HK := Lib.hid hk; have HF := Lib.hid hf; have HR := Lib.hid (show errBs txn (l.drop 0) = e by rw [List.drop_zero]; exact he); have hni : (l.length : Int) ≤ 4398046511104 := by omega
 clear h hk he hll hf; go_enter Tryz.func73, Tryz.ntmps73; go_wp2; go_loopw [10] (fun iv wr => ∃ (k : Nat), k ≤ l.length ∧ iv = .int .i64 k ∧ Hid (errBs txn (l.drop k) = e) ∧ St W0 wr K L) (fun iv _ => l.length - (intOf iv).toNat)
 case atStart => exact ⟨0, Nat.zero_le _, rfl, HR, H.out⟩
 case round =>
  obtain ⟨k, hkl, rfl, HC, hst⟩ := hrel; clear H HR; have H := Lib.hid hst; clear hst
  by_cases hlt : k < l.length
  · obtain ⟨bk, off, hqq⟩ := bats_at HK.out H.out (by omega); subst hqq; obtain ⟨x, hx⟩ : ∃ x, l[k] = x := ⟨_, rfl⟩; have hmem : x ∈ l := hx ▸ List.getElem_mem hlt; have hck := HF.out x hmem; have hcell0 := bats_cell HK.out H.out k hlt x hx; have HXK0 := bats_recs HK.out hmem; have hc := HC.out; rw [List.drop_eq_getElem_cons hlt, hx, errBs_cons] at hc; have hkn : (k : Int) < (l.length : Int) := by omega
    obtain ⟨⟨base, leader, app, txn2, ctl, last, first, maxt, prod, epoch, sq, rcs⟩, xl, xq, xcap⟩ := x; have hcell : wr.cell? ⟨bk, off + k * 12, none⟩ = some (.int .i64 base) ∧ wr.cell? ⟨bk, off + k * 12 + 1, none⟩ = some (.int .i64 leader) ∧ wr.cell? ⟨bk, off + k * 12 + 2, none⟩ = some (.bool app) ∧ wr.cell? ⟨bk, off + k * 12 + 3, none⟩ = some (.bool txn2) ∧ wr.cell? ⟨bk, off + k * 12 + 4, none⟩ = some (.bool ctl) ∧ wr.cell? ⟨bk, off + k * 12 + 5, none⟩ = some (.int .i64 last) ∧ wr.cell? ⟨bk, off + k * 12 + 6, none⟩ = some (.int .i64 first) ∧ wr.cell? ⟨bk, off + k * 12 + 7, none⟩ = some (.int .i64 maxt) ∧ wr.cell? ⟨bk, off + k * 12 + 8, none⟩ = some (.int .i64 prod) ∧ wr.cell? ⟨bk, off + k * 12 + 9, none⟩ = some (.int .i64 epoch) ∧ wr.cell? ⟨bk, off + k * 12 + 10, none⟩ = some (.int .i64 sq) ∧ wr.cell? ⟨bk, off + k * 12 + 11, none⟩ = some (.slice xq xl.length xcap) := hcell0; obtain ⟨c0, c1, c2, c3, c4, c5, c6, c7, c8, c9, c10, c11⟩ := hcell; have HXK := Lib.hid (show K.has (Know.recs (.slice xq xl.length xcap) xl) from HXK0); have HFI := Lib.hid (show first ≤ 9223372036854775807 from hck.first); have HFB := Lib.hid (show FitB xl from hck.fit); have HLN := Lib.hid (show xl.length ≤ 1000000 from hck.len); obtain ⟨be, hbe⟩ : ∃ n, batErr ⟨base, leader, app, txn2, ctl, last, first, maxt, prod, epoch, sq, rcs⟩ = n := ⟨_, rfl⟩; have HBE := Lib.hid (show batErr ⟨base, leader, app, txn2, ctl, last, first, maxt, prod, epoch, sq, xl.map (·.1)⟩ = be by rw [show xl.map (·.1) = rcs from hck.recs]; exact hbe); have hc : (if be ≠ 0 then be else if ctl = true then 12 else if txn2 ≠ txn then 8 else errBs txn (l.drop (k + 1))) = e := by rw [← hbe]; exact hc
    clear hx hmem hck hcell0 HXK0 hbe
    by_cases b0 : be = 0
    · subst b0; rw [if_neg (by simp)] at hc
      cases ctl with
      | true =>
       rw [if_pos rfl] at hc; subst hc; go_wp2_with (go_at_call 88; (with_reducible refine (bat_check base leader app txn2 true last first maxt prod epoch sq xl xq xcap 0 HBE.out HFI.out HFB.out HLN.out HXK.out (H.out.allocRaw #[.int .i64 base, .int .i64 leader, .bool app, .bool txn2, .bool true, .int .i64 last, .int .i64 first, .int .i64 maxt, .int .i64 prod, .int .i64 epoch, .int .i64 sq, .slice xq xl.length xcap] 58)).mono ?_); rintro e_ wn ⟨rfl, h⟩; have y3 := h.rawCell 3; have y4 := h.rawCell 4; simp at y3 y4; replace H := Lib.hid h; clear h); go_ret; exact ⟨rfl, H.out.drop⟩
      | false =>
       rw [if_neg (by simp)] at hc
       cases txn2 with
       | true =>
        cases txn with
        | true =>
         rw [if_neg (by simp)] at hc; have HC2 := Lib.hid hc; clear hc; go_wp2_with (go_at_call 88; (with_reducible refine (bat_check base leader app true false last first maxt prod epoch sq xl xq xcap 0 HBE.out HFI.out HFB.out HLN.out HXK.out (H.out.allocRaw #[.int .i64 base, .int .i64 leader, .bool app, .bool true, .bool false, .int .i64 last, .int .i64 first, .int .i64 maxt, .int .i64 prod, .int .i64 epoch, .int .i64 sq, .slice xq xl.length xcap] 58)).mono ?_); rintro e_ wn ⟨rfl, h⟩; have y3 := h.rawCell 3; have y4 := h.rawCell 4; simp at y3 y4; replace H := Lib.hid h; clear h); go_roundw
         case rel =>
          refine ⟨k + 1, hlt, by go_num, HC2, ?_⟩; exact H.out.drop
         case measure => first | (simp [intOf]; done) | (simp [intOf]; omega)
        | false =>
         rw [if_pos (by simp)] at hc; subst hc; go_wp2_with (go_at_call 88; (with_reducible refine (bat_check base leader app true false last first maxt prod epoch sq xl xq xcap 0 HBE.out HFI.out HFB.out HLN.out HXK.out (H.out.allocRaw #[.int .i64 base, .int .i64 leader, .bool app, .bool true, .bool false, .int .i64 last, .int .i64 first, .int .i64 maxt, .int .i64 prod, .int .i64 epoch, .int .i64 sq, .slice xq xl.length xcap] 58)).mono ?_); rintro e_ wn ⟨rfl, h⟩; have y3 := h.rawCell 3; have y4 := h.rawCell 4; simp at y3 y4; replace H := Lib.hid h; clear h); go_ret; exact ⟨rfl, H.out.drop⟩
       | false =>
        cases txn with
        | true =>
         rw [if_pos (by simp)] at hc; subst hc; go_wp2_with (go_at_call 88; (with_reducible refine (bat_check base leader app false false last first maxt prod epoch sq xl xq xcap 0 HBE.out HFI.out HFB.out HLN.out HXK.out (H.out.allocRaw #[.int .i64 base, .int .i64 leader, .bool app, .bool false, .bool false, .int .i64 last, .int .i64 first, .int .i64 maxt, .int .i64 prod, .int .i64 epoch, .int .i64 sq, .slice xq xl.length xcap] 58)).mono ?_); rintro e_ wn ⟨rfl, h⟩; have y3 := h.rawCell 3; have y4 := h.rawCell 4; simp at y3 y4; replace H := Lib.hid h; clear h); go_ret; exact ⟨rfl, H.out.drop⟩
        | false =>
         rw [if_neg (by simp)] at hc; have HC2 := Lib.hid hc; clear hc; go_wp2_with (go_at_call 88; (with_reducible refine (bat_check base leader app false false last first maxt prod epoch sq xl xq xcap 0 HBE.out HFI.out HFB.out HLN.out HXK.out (H.out.allocRaw #[.int .i64 base, .int .i64 leader, .bool app, .bool false, .bool false, .int .i64 last, .int .i64 first, .int .i64 maxt, .int .i64 prod, .int .i64 epoch, .int .i64 sq, .slice xq xl.length xcap] 58)).mono ?_); rintro e_ wn ⟨rfl, h⟩; have y3 := h.rawCell 3; have y4 := h.rawCell 4; simp at y3 y4; replace H := Lib.hid h; clear h); go_roundw
         case rel =>
          refine ⟨k + 1, hlt, by go_num, HC2, ?_⟩; exact H.out.drop
         case measure => first | (simp [intOf]; done) | (simp [intOf]; omega)
    · rw [if_pos b0] at hc; subst hc; have g1 : (be == 0) = false := by rw [beq_eq_false_iff_ne]; exact b0
      have g2 : (be != 0) = true := by simp [bne, g1]
      clear b0; go_wp2_with (go_at_call 88; (with_reducible refine (bat_check base leader app txn2 ctl last first maxt prod epoch sq xl xq xcap be HBE.out HFI.out HFB.out HLN.out HXK.out (H.out.allocRaw #[.int .i64 base, .int .i64 leader, .bool app, .bool txn2, .bool ctl, .int .i64 last, .int .i64 first, .int .i64 maxt, .int .i64 prod, .int .i64 epoch, .int .i64 sq, .slice xq xl.length xcap] 58)).mono ?_); rintro e_ wn ⟨rfl, h⟩; have y3 := h.rawCell 3; have y4 := h.rawCell 4; simp at y3 y4; replace H := Lib.hid h; clear h); go_ret; exact ⟨rfl, H.out.drop⟩
  · exact zq35
set_option maxHeartbeats 2000000 in
set_option maxRecDepth 100000 in
theorem check_topics (l : List PTop) (q : Option Addr) (cap : Nat) (e : Int) (he : errTops l = e) (hf : ∀ x ∈ l, x.name.length ≤ 140737488355328 ∧ x.l.length ≤ 4398046511104) (hll : l.length ≤ 4398046511104) {W0 w : World} {K : Know} {L : List Res} (hk : K.has (Know.ptops (.slice q l.length cap) l)) (h : St W0 w K L) :
   Calls Tryz.prog 39 #[.slice q l.length cap] w fun en w' => en = .returned (.int .i64 e) ∧ St W0 w' K L := by
 have H := Lib.hid h; have HK := Lib.hid hk; have HF := Lib.hid hf; have hni : (l.length : Int) ≤ 4398046511104 := by omega
 unfold errTops at he; clear h hk hf
 by_cases h0 : l.length = 0
 · rw [if_pos h0] at he; subst he; rw [h0]; clear hni hll h0; go_enter Tryz.func39, Tryz.ntmps39; go_wp2; go_ret; exact ⟨rfl, H.out⟩
 rw [if_neg h0] at he; have HR := Lib.hid (show errT [] (l.drop 0) = e by rw [List.drop_zero]; exact he); have hz : ((l.length : Int) == 0) = false := by rw [beq_eq_false_iff_ne]; omega
 have hz2 : ¬ l.length = 0 := h0; clear he hll h0; go_enter Tryz.func39, Tryz.ntmps39; go_wp2; go_loopw [3, 11] (fun av iv wr => ∃ (k : Nat) (a : Bs), k ≤ l.length ∧ iv = .int .i64 k ∧ av = .string (bb a) ∧ Hid (errT a (l.drop k) = e) ∧ St W0 wr K L) (fun _ iv _ => l.length - (intOf iv).toNat)
 case atStart => exact ⟨0, [], Nat.zero_le _, rfl, rfl, HR, H.out⟩
 case round =>
   obtain ⟨k, a, hkl, rfl, rfl, HC, hst⟩ := hrel; clear H HR; have H := Lib.hid hst; clear hst
   by_cases hlt : k < l.length
   · obtain ⟨bk, off, hqq⟩ := ptops_at HK.out H.out (by omega); subst hqq; obtain ⟨x, hx⟩ : ∃ x, l[k] = x := ⟨_, rfl⟩; have hmem : x ∈ l := hx ▸ List.getElem_mem hlt; obtain ⟨hn1, hn2⟩ := HF.out x hmem; obtain ⟨c0, c1⟩ := ptops_cell HK.out H.out k hlt x hx; have HXK0 := ptops_parts HK.out hmem; have hc := HC.out; rw [List.drop_eq_getElem_cons hlt, hx, errT_cons] at hc; have hkn : (k : Int) < (l.length : Int) := by omega
     obtain ⟨nm, xl, xq, xcap⟩ := x; simp only at c0 c1 hc hn1 hn2 HXK0; have HXK := Lib.hid HXK0; have HNM := Lib.hid hn1; have HLN := Lib.hid hn2; clear hx hmem hn1 HXK0
     by_cases z : xl.length = 0
     · rw [if_pos z] at hc; subst hc; rw [z] at c1; clear z hn2; go_wp2_with fail; go_ret; exact ⟨rfl, H.out.alloc _⟩
     rw [if_neg z] at hc; have z1 : ((xl.length : Int) == 0) = false := by rw [beq_eq_false_iff_ne]; omega
     have z2 : ¬ xl.length = 0 := z; obtain ⟨kr, hkr⟩ : ∃ r, keyRight nm = r := ⟨_, rfl⟩; obtain ⟨rp, hrp⟩ : ∃ r, riseP (-1) xl = r := ⟨_, rfl⟩; rw [hkr, hrp] at hc; have HKR := Lib.hid hkr; have HRP := Lib.hid hrp; clear z hn2 hkr hrp
     cases kr with
     | false =>
       simp only [Bool.false_and, Bool.false_eq_true, if_false] at hc; subst hc
       go_wp2_with (first
   | (go_at_call 38; (with_reducible refine (key_rightQ nm false HKR.out HNM.out (H.out.allocRaw #[.string (bb nm), .slice xq xl.length xcap] 65)).mono ?_); rintro e_ wn ⟨rfl, h⟩; have y0 := h.rawCell 0; have y1 := h.rawCell 1; simp at y0 y1; replace H := Lib.hid h; clear h))
       go_ret; exact ⟨rfl, H.out.drop⟩
     | true =>
       simp only [Bool.true_and] at hc
       cases hp : Op.bytesLess a nm with
       | false =>
        rw [hp] at hc; simp only [Bool.false_and, Bool.false_eq_true, if_false] at hc; subst hc
        rcases leq_cases nm a hp with g1 | ⟨g1, g2⟩
        · clear hp
          go_wp2_with (first
   | (go_at_call 38; (with_reducible refine (key_rightQ nm true HKR.out HNM.out (H.out.allocRaw #[.string (bb nm), .slice xq xl.length xcap] 65)).mono ?_); rintro e_ wn ⟨rfl, h⟩; have y0 := h.rawCell 0; have y1 := h.rawCell 1; simp at y0 y1; replace H := Lib.hid h; clear h))
          go_ret; exact ⟨rfl, H.out.drop⟩
        · clear hp
          go_wp2_with (first
   | (go_at_call 38; (with_reducible refine (key_rightQ nm true HKR.out HNM.out (H.out.allocRaw #[.string (bb nm), .slice xq xl.length xcap] 65)).mono ?_); rintro e_ wn ⟨rfl, h⟩; have y0 := h.rawCell 0; have y1 := h.rawCell 1; simp at y0 y1; replace H := Lib.hid h; clear h))
          go_ret; exact ⟨rfl, H.out.drop⟩
       | true =>
        rw [hp] at hc; simp only [Bool.true_and] at hc; obtain ⟨g1, g2⟩ := leq_parts nm a hp; clear hp
        cases rp with
        | false =>
          simp only [Bool.false_eq_true, if_false] at hc; subst hc
          go_wp2_with (first
   | (go_at_call 38; (with_reducible refine (key_rightQ nm true HKR.out HNM.out (H.out.allocRaw #[.string (bb nm), .slice xq xl.length xcap] 65)).mono ?_); rintro e_ wn ⟨rfl, h⟩; have y0 := h.rawCell 0; have y1 := h.rawCell 1; simp at y0 y1; replace H := Lib.hid h; clear h)
   | (go_at_call 72; clear y0 y1; (with_reducible refine (parts_rise xl xq xcap false HRP.out HLN.out HXK.out H.out).mono ?_); rintro e_ wn ⟨rfl, h⟩; have y0 := h.rawCell 0; simp at y0; replace H := Lib.hid h; clear h))
          go_ret; exact ⟨rfl, H.out.drop⟩
        | true =>
          rw [if_pos rfl] at hc; have HC2 := Lib.hid hc; clear hc
          go_wp2_with (first
   | (go_at_call 38; (with_reducible refine (key_rightQ nm true HKR.out HNM.out (H.out.allocRaw #[.string (bb nm), .slice xq xl.length xcap] 65)).mono ?_); rintro e_ wn ⟨rfl, h⟩; have y0 := h.rawCell 0; have y1 := h.rawCell 1; simp at y0 y1; replace H := Lib.hid h; clear h)
   | (go_at_call 72; clear y0 y1; (with_reducible refine (parts_rise xl xq xcap true HRP.out HLN.out HXK.out H.out).mono ?_); rintro e_ wn ⟨rfl, h⟩; have y0 := h.rawCell 0; simp at y0; replace H := Lib.hid h; clear h))
          go_roundw
          case rel =>
           refine ⟨k + 1, nm, hlt, by go_num, rfl, HC2, ?_⟩; exact H.out.drop
          case measure => first | (simp [intOf]; done) | (simp [intOf]; omega)
   · exact zq35
theorem zq9 {p : Prop} (h : p := by
  clear n0 he2 hv v3
  by_cases e0 : e2 = 0
  · subst e0; rw [if_neg (by simp)] at hep; rw [← hep] at hc; have HC2 := Lib.hid hc; clear hc; go_wp2_with (go_at_call 73; (with_reducible refine (check_batches (!nl) yl yq ycap 0 HBE.out HCK.out HYL.out HYK.out (H.out.allocRaw #[.int .i64 yi, .slice yq yl.length ycap] 68)).mono ?_); rintro e_ wn ⟨rfl, h⟩; have h := h.drop; replace H := Lib.hid h; clear h); go_roundw
    case rel =>
     refine ⟨j + 1, hjt, by go_num, HC2, ?_⟩; exact H.out
    case measure => first | (simp [intOf]; done) | (simp [intOf]; omega)
  · rw [if_pos e0] at hep; subst hep; rw [if_pos e0] at hc; subst hc; have e1 : (e2 == 0) = false := by rw [beq_eq_false_iff_ne]; exact e0
    have e3 : (e2 != 0) = true := by simp [bne, e1]
    clear e0; go_wp2_with (go_at_call 73; (with_reducible refine (check_batches (!nl) yl yq ycap e2 HBE.out HCK.out HYL.out HYK.out (H.out.allocRaw #[.int .i64 yi, .slice yq yl.length ycap] 68)).mono ?_); rintro e_ wn ⟨rfl, h⟩; have h := h.drop; replace H := Lib.hid h; clear h); go_ret; exact ⟨rfl, H.out.drop⟩) : p := h
set_option maxHeartbeats 4000000 in
set_option maxRecDepth 100000 in
theorem check_parts (nl : Bool) (dd : Bs) (ac tm v : Int) (l : List PTop) (q : Option Addr) (cap : Nat) (e : Int) (he : errPT (!nl) v l = e) (hf : ∀ x ∈ l, CkT x) (hll : l.length ≤ 4398046511104) {W0 w : World} {K : Know} {L : List Res} (hk : K.has (Know.ptops (.slice q l.length cap) l)) (h : St W0 w K L) :
  Calls Tryz.prog 40 #[.agg #[.bool nl, .string (bb dd), .int .i64 ac, .int .i64 tm, .slice q l.length cap], .int .i64 v] w fun en w' => en = .returned (.int .i64 e) ∧ St W0 w' K L := by
 obtain ⟨rb, hrb⟩ : ∃ b, w.heap.size = b := ⟨_, rfl⟩; have g1 := h.allocRaw #[.bool nl, .string (bb dd), .int .i64 ac, .int .i64 tm, .slice q l.length cap] 26; rw [hrb] at g1; have z0 := g1.rawCell 0; have z3 := g1.rawCell 4; simp at z0 z3; have H := Lib.hid g1; have HK := Lib.hid hk; have HF := Lib.hid hf; have HR := Lib.hid (show errPT (!nl) v (l.drop 0) = e by rw [List.drop_zero]; exact he); have hni : (l.length : Int) ≤ 4398046511104 := by omega
 clear h g1 hk hf he hll; go_enter Tryz.func40, Tryz.ntmps40; go_wp2; clear z0 z3; go_loopw [13] (fun iv wr => ∃ (k : Nat), k ≤ l.length ∧ iv = .int .i64 k ∧ Hid (errPT (!nl) v (l.drop k) = e) ∧ St W0 wr K (.raw rb #[.bool nl, .string (bb dd), .int .i64 ac, .int .i64 tm, .slice q l.length cap] 26 :: L)) (fun iv _ => l.length - (intOf iv).toNat)
 case atStart => exact ⟨0, Nat.zero_le _, rfl, HR, H.out⟩
 case round =>
  obtain ⟨k, hkl, rfl, HC, hst⟩ := hrel; clear H HR; have H := Lib.hid hst; clear hst
  by_cases hlt : k < l.length
  · obtain ⟨bk, off, hqq⟩ := ptops_at HK.out H.out (by omega); obtain ⟨x, hx⟩ : ∃ x, l[k] = x := ⟨_, rfl⟩; have hmem : x ∈ l := hx ▸ List.getElem_mem hlt; have hck := HF.out x hmem; have HK' := HK.out; rw [hqq] at HK'; obtain ⟨c0, c1⟩ := ptops_cell HK' H.out k hlt x hx; have HXK0 := ptops_parts HK.out hmem; have hc := HC.out; rw [List.drop_eq_getElem_cons hlt, hx, errPT_cons] at hc; have hkn : (k : Int) < (l.length : Int) := by omega
    obtain ⟨nm, xl, xq, xcap⟩ := x; simp only at c0 c1 hc HXK0; have HXK := Lib.hid HXK0; have HPF := Lib.hid (show ∀ y ∈ xl, CkP y from hck.parts); have hxl : xl.length ≤ 4398046511104 := hck.len; have hxi : (xl.length : Int) ≤ 4398046511104 := by omega
    have HIR := Lib.hid (show (if errPs (!nl) v (xl.drop 0) ≠ 0 then errPs (!nl) v (xl.drop 0) else errPT (!nl) v (l.drop (k + 1))) = e by rw [List.drop_zero]; exact hc); have HS := Lib.hid (H.out.alloc (.cells #[.string (bb nm), .slice xq xl.length xcap] 65 (0, 0))); subst hqq; clear hx hmem hck HK' HXK0 hc hxl; go_wp2_with fail; go_loopw [20] (fun jv wr => ∃ (j : Nat), j ≤ xl.length ∧ jv = .int .i64 j ∧ Hid ((if errPs (!nl) v (xl.drop j) ≠ 0 then errPs (!nl) v (xl.drop j) else errPT (!nl) v (l.drop (k + 1))) = e) ∧ St W0 wr K (.raw rb #[.bool nl, .string (bb dd), .int .i64 ac, .int .i64 tm, .slice (some ⟨bk, off, none⟩) l.length cap] 26 :: L)) (fun jv _ => xl.length - (intOf jv).toNat)
    case atStart => exact ⟨0, Nat.zero_le _, rfl, HIR, HS.out⟩
    case round =>
     obtain ⟨j, hjl, rfl, HIC, hst⟩ := hrel; clear H HIR HS c0 c1; have H := Lib.hid hst; clear hst
     by_cases hjt : j < xl.length
     · obtain ⟨pk, poff, hpq⟩ := pparts_at HXK.out H.out (by omega); subst hpq; obtain ⟨y, hy⟩ : ∃ y, xl[j] = y := ⟨_, rfl⟩; have hmem : y ∈ xl := hy ▸ List.getElem_mem hjt; have hck := HPF.out y hmem; obtain ⟨d0, d1⟩ := pparts_cell HXK.out H.out j hjt y hy; have HYK0 := pparts_bats HXK.out hmem; have hc := HIC.out; rw [List.drop_eq_getElem_cons hjt, hy] at hc; obtain ⟨ep, hep⟩ : ∃ ep, errPs (!nl) v (y :: xl.drop (j + 1)) = ep := ⟨_, rfl⟩; rw [hep] at hc; rw [errPs_cons] at hep; have hjn : (j : Int) < (xl.length : Int) := by omega
       obtain ⟨yi, yl, yq, ycap⟩ := y; simp only at d0 d1 hep HYK0; have HYK := Lib.hid HYK0; have HCK := Lib.hid (show ∀ z ∈ yl, CkR z from hck.bats); have HYL := Lib.hid (show yl.length ≤ 4398046511104 from hck.len); have z0 := (H.out.alloc (.cells #[.int .i64 yi, .slice yq yl.length ycap] 68 (0, 0))).rawCell 0; simp at z0; clear hy hmem hck HYK0
       by_cases n0 : yl.length = 0
       · rw [if_pos (Or.inl n0)] at hep; subst hep; rw [if_pos (by decide)] at hc; subst hc; rw [n0] at d1 z0; clear n0 HCK HYL HYK; go_wp2_with fail; go_ret; exact ⟨rfl, by first | exact H.out.drop | exact (H.out.alloc _).drop⟩
       have n1 : ((yl.length : Int) == 0) = false := by rw [beq_eq_false_iff_ne]; omega
       have n2 : ¬ yl.length = 0 := n0
       by_cases hv : v = 3 ∧ 1 < yl.length
       · rw [if_pos (Or.inr hv)] at hep; subst hep; rw [if_pos (by decide)] at hc; subst hc; have v4 : (v == 3) = true := by rw [hv.1]; rfl
         have g2 : (1 : Int) < (yl.length : Int) := by omega
         clear n0 hv; go_wp2_with fail; go_ret; exact ⟨rfl, by first | exact H.out.drop | exact (H.out.alloc _).drop⟩
       rw [if_neg (by intro hh; rcases hh with hh | hh; exact n0 hh; exact hv hh)] at hep; obtain ⟨e2, he2⟩ : ∃ e2, errBs (!nl) yl = e2 := ⟨_, rfl⟩; rw [he2] at hep; have HBE := Lib.hid he2
       by_cases v3 : v = 3
       · have v4 : (v == 3) = true := by rw [v3]; rfl
         have g2 : ¬ (1 : Int) < (yl.length : Int) := by intro hh; exact hv ⟨v3, by omega⟩
         exact zq9
       · have v4 : (v == 3) = false := by rw [beq_eq_false_iff_ne]; exact v3
         exact zq9
     · obtain rfl : j = xl.length := by omega
       have hc := HIC.out; rw [List.drop_length] at hc; have hc : (if (0 : Int) ≠ 0 then 0 else errPT (!nl) v (l.drop (k + 1))) = e := hc; rw [if_neg (by simp)] at hc; have HC2 := Lib.hid hc; clear hc; go_wp2_with fail; go_roundw
       case rel =>
         refine ⟨k + 1, hlt, by go_num, HC2, ?_⟩; exact H.out
       case measure => first | (simp [intOf]; done) | (simp [intOf]; omega)
  · obtain rfl : k = l.length := by omega
    have hc := HC.out; rw [List.drop_length] at hc; have hc : 0 = e := hc; subst hc; go_wp2_with fail; go_ret; exact ⟨rfl, H.out.drop⟩

end Go.Proofs.YtnnnglklgofabaaGreat
