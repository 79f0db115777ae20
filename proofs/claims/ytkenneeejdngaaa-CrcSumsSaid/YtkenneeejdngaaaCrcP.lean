/- Sums: remainders, bit by bit and byte by byte. -/
import Derived.Test.YtkenneeejdngaaaBase
namespace Go.Proofs.Ytkenneeejdngaaa
open Go.RowKit

abbrev W32 := BitVec 32
def cP : W32 := 0x82F63B78#32
def b2w (b : Bool) : W32 := if b then 1#32 else 0#32
def step (r : W32) : W32 := (r >>> 1) ^^^ (if r.getLsbD 0 then cP else 0#32)
def stepN : Nat → W32 → W32
  | 0, r => r
  | n + 1, r => stepN n (step r)

theorem xlc (a b c : W32) : a ^^^ (b ^^^ c) = b ^^^ (a ^^^ c) := by rw [← BitVec.xor_assoc, BitVec.xor_comm a b, BitVec.xor_assoc]
theorem xcan (a b : W32) : a ^^^ (a ^^^ b) = b := by rw [← BitVec.xor_assoc, BitVec.xor_self, BitVec.zero_xor]
theorem step_xor (a b : W32) : step (a ^^^ b) = step a ^^^ step b := by
  unfold step
  have e : (a ^^^ b) >>> 1 = (a >>> 1) ^^^ (b >>> 1) := by
    apply BitVec.eq_of_getLsbD_eq
    intro i hi
    simp
  rw [e, BitVec.getLsbD_xor]
  cases a.getLsbD 0 <;> cases b.getLsbD 0 <;> simp [BitVec.xor_assoc, BitVec.xor_comm, xlc, xcan]
theorem stepN_xor (n : Nat) (a b : W32) : stepN n (a ^^^ b) = stepN n a ^^^ stepN n b := by
  induction n generalizing a b with
  | zero => rfl
  | succ n ih => show stepN n (step (a ^^^ b)) = _; rw [step_xor, ih]; rfl
theorem step_zero : step 0#32 = 0#32 := by decide
theorem stepN_zero (n : Nat) : stepN n 0#32 = 0#32 := by
  induction n with
  | zero => rfl
  | succ n ih => show stepN n (step 0#32) = _; rw [step_zero, ih]
theorem stepN_add (n m : Nat) (r : W32) : stepN (n + m) r = stepN m (stepN n r) := by
  induction n generalizing r with
  | zero => rw [Nat.zero_add]; rfl
  | succ n ih => rw [Nat.succ_add]; exact ih (step r)
theorem step_inj (r : W32) (h : step r = 0#32) : r = 0#32 := by
  have h31 : (step r).getLsbD 31 = r.getLsbD 0 := by
    unfold step
    rw [BitVec.getLsbD_xor]
    cases r.getLsbD 0 <;> simp [cP] <;> decide
  rw [h] at h31
  have h0 : r.getLsbD 0 = false := by rw [← h31]; decide
  unfold step at h
  rw [h0] at h
  apply BitVec.eq_of_getLsbD_eq
  intro i hi
  cases i with
  | zero => rw [h0]; simp
  | succ i =>
    have := congrArg (fun x => x.getLsbD i) h
    simp at this
    simp
    rw [Nat.add_comm]
    exact this
theorem stepN_inj (n : Nat) (r : W32) (h : stepN n r = 0#32) : r = 0#32 := by
  induction n generalizing r with
  | zero => exact h
  | succ n ih => exact step_inj r (ih (step r) h)
theorem step_shl (x : W32) (h : x.getLsbD 31 = false) : step (x <<< 1) = x := by
  unfold step
  have h0 : (x <<< 1).getLsbD 0 = false := by simp
  rw [h0]
  apply BitVec.eq_of_getLsbD_eq
  intro i hi
  by_cases h31 : i = 31
  · subst h31; simp; rw [← BitVec.getLsbD_eq_getElem]; exact h
  · have : 1 + i < 32 := by omega
    simp [this]
    rw [← BitVec.getLsbD_eq_getElem]

def feedBit (r : W32) (b : Bool) : W32 := step (r ^^^ b2w b)
def feed (r : W32) (l : List Bool) : W32 := l.foldl feedBit r
def word : List Bool → W32
  | [] => 0#32
  | b :: t => b2w b ^^^ (word t <<< 1)
theorem word_bit : ∀ (l : List Bool) (i : Nat), i < 32 → (word l).getLsbD i = l.getD i false
  | [], i, _ => by simp [word]
  | b :: t, 0, _ => by simp [word]; cases b <;> rfl
  | b :: t, i + 1, hi => by
    have ih := word_bit t i (by omega)
    have hb : (b2w b).getLsbD (i + 1) = false := by cases b <;> simp [b2w]
    simp only [word, BitVec.getLsbD_xor, hb, Bool.false_xor]
    have : (word t <<< 1).getLsbD (i + 1) = (word t).getLsbD i := by simp [hi]; rw [← BitVec.getLsbD_eq_getElem]
    rw [this, ih]
    simp
theorem feed_word : ∀ (l : List Bool) (r : W32), l.length ≤ 32 → feed r l = stepN l.length (r ^^^ word l)
  | [], r, _ => by simp [feed, word, stepN]
  | b :: t, r, h => by
    have hl : t.length ≤ 31 := by simpa using h
    have ht : (word t).getLsbD 31 = false := by
      rw [word_bit t 31 (by decide), List.getD_eq_getElem?_getD, List.getElem?_eq_none (by omega)]
      rfl
    have e : feed r (b :: t) = feed (step (r ^^^ b2w b)) t := rfl
    rw [e, feed_word t _ (by omega)]
    show _ = stepN t.length (step (r ^^^ word (b :: t)))
    rw [word, ← BitVec.xor_assoc, step_xor (r ^^^ b2w b), step_shl _ ht]
theorem feed_append (r : W32) (l m : List Bool) : feed r (l ++ m) = feed (feed r l) m := List.foldl_append
theorem feed_zeros (n : Nat) (r : W32) : feed r (List.replicate n false) = stepN n r := by
  induction n generalizing r with
  | zero => rfl
  | succ n ih =>
    rw [List.replicate_succ]
    show feed (feedBit r false) _ = _
    rw [ih]
    show _ = stepN n (step r)
    simp [feedBit, b2w]
theorem feed_zip : ∀ (l m : List Bool) (a b : W32), l.length = m.length → feed a l ^^^ feed b m = feed (a ^^^ b) (List.zipWith (· ^^ ·) l m)
  | [], [], a, b, _ => rfl
  | [], _ :: _, _, _, h => by simp at h
  | _ :: _, [], _, _, h => by simp at h
  | x :: l, y :: m, a, b, h => by
    show feed (feedBit a x) l ^^^ feed (feedBit b y) m = feed (feedBit (a ^^^ b) (x ^^ y)) (List.zipWith _ l m)
    rw [feed_zip l m _ _ (by simpa using h)]
    congr 1
    unfold feedBit
    rw [← step_xor]
    congr 1
    cases x <;> cases y <;> simp [b2w, BitVec.xor_assoc, BitVec.xor_comm, xlc, xcan]
theorem feed_burst (r : W32) (l m : List Bool) (first : Nat) (hl : l.length = m.length) (hd : ∀ i, (i < first ∨ first + 32 ≤ i) → l.getD i false = m.getD i false) (h : feed r l = feed r m) : l = m := by
  have hz := feed_zip l m r r hl
  rw [h, BitVec.xor_self, BitVec.xor_self] at hz
  generalize hD : List.zipWith (· ^^ ·) l m = d at hz
  have hdl : d.length = l.length := by rw [← hD]; simp; omega
  have hdi : ∀ i, d.getD i false = (l.getD i false ^^ m.getD i false) := by
    intro i
    rw [← hD]
    simp only [List.getD_eq_getElem?_getD, List.getElem?_zipWith]
    by_cases hi : i < l.length
    · rw [List.getElem?_eq_getElem hi, List.getElem?_eq_getElem (by omega)]; rfl
    · rw [List.getElem?_eq_none (by omega), List.getElem?_eq_none (by omega)]; rfl
  have hsplit : d = d.take first ++ ((d.drop first).take 32 ++ (d.drop first).drop 32) := by rw [List.take_append_drop, List.take_append_drop]
  have hA : d.take first = List.replicate (d.take first).length false := by
    apply List.ext_getElem (by simp)
    intro i h1 h2
    have h3 := hdi i
    rw [hd i (.inl (by simp at h1; omega)), Bool.xor_self] at h3
    simp only [List.getElem_take, List.getElem_replicate]
    rw [List.getD_eq_getElem?_getD, List.getElem?_eq_getElem (by simp at h1; omega)] at h3
    exact h3
  have hB : (d.drop first).drop 32 = List.replicate ((d.drop first).drop 32).length false := by
    apply List.ext_getElem (by simp)
    intro i h1 h2
    have h3 := hdi (first + 32 + i)
    rw [hd _ (.inr (by omega)), Bool.xor_self] at h3
    simp only [List.getElem_drop, List.getElem_replicate]
    rw [List.getD_eq_getElem?_getD, List.getElem?_eq_getElem (by simp at h1; omega)] at h3
    have e : first + (32 + i) = first + 32 + i := by omega
    simp only [e]
    exact h3
  rw [hsplit, feed_append, feed_append, hA, feed_zeros, stepN_zero, feed_word ((d.drop first).take 32) _ (by rw [List.length_take]; omega), BitVec.zero_xor, hB, feed_zeros, ← stepN_add] at hz
  have hw := stepN_inj _ _ hz.symm
  have hall : ∀ i, d.getD i false = false := by
    intro i
    by_cases h1 : i < first ∨ first + 32 ≤ i
    · rw [hdi i, hd i h1, Bool.xor_self]
    · have h2 := word_bit ((d.drop first).take 32) (i - first) (by omega)
      rw [hw] at h2
      rw [List.getD_eq_getElem?_getD, List.getElem?_take_of_lt (by omega), List.getElem?_drop, show first + (i - first) = i by omega, ← List.getD_eq_getElem?_getD] at h2
      rw [← h2]
      simp
  apply List.ext_getElem hl
  intro i h1 h2
  have h3 := hdi i
  rw [hall i, List.getD_eq_getElem?_getD, List.getD_eq_getElem?_getD, List.getElem?_eq_getElem h1, List.getElem?_eq_getElem h2] at h3
  simp at h3
  exact h3

def byteBits (c : UInt8) : List Bool := (List.range 8).map (fun i => c.toNat.testBit i)
def bitsOf (s : Bs) : List Bool := s.flatMap byteBits
def tab (n : Nat) : W32 := stepN 8 (BitVec.ofNat 32 n)
def byteStep (r : W32) (c : UInt8) : W32 := tab (r.toNat % 256 ^^^ c.toNat) ^^^ (r >>> 8)
theorem byteBits_word (c : UInt8) : word (byteBits c) = BitVec.ofNat 32 c.toNat := by
  apply BitVec.eq_of_getLsbD_eq
  intro i hi
  rw [word_bit _ _ hi, BitVec.getLsbD_ofNat]
  unfold byteBits
  by_cases h : i < 8
  · simp [List.getD_eq_getElem?_getD, h, hi]
  · have : c.toNat < 2 ^ i := Nat.lt_of_lt_of_le c.toNat_lt (Nat.pow_le_pow_right (by decide) (by omega))
    rw [List.getD_eq_getElem?_getD, List.getElem?_eq_none (by simp; omega), Nat.testBit_lt_two_pow this]
    simp
theorem shl_stepN : ∀ (n : Nat) (x : W32), n ≤ 32 → (∀ i, 32 - n ≤ i → x.getLsbD i = false) → stepN n (x <<< n) = x
  | 0, x, _, _ => by simp [stepN]
  | n + 1, x, hn, h => by
    show stepN n (step (x <<< (n + 1))) = x
    have e : x <<< (n + 1) = (x <<< n) <<< 1 := by rw [BitVec.shiftLeft_add]
    rw [e, step_shl]
    · exact shl_stepN n x (by omega) (fun i hi => h i (by omega))
    · rw [BitVec.getLsbD_shiftLeft, h (31 - n) (by omega)]
      simp
theorem byteStep_eq (r : W32) (c : UInt8) : byteStep r c = stepN 8 (r ^^^ BitVec.ofNat 32 c.toNat) := by
  have h1 : r ^^^ BitVec.ofNat 32 c.toNat = BitVec.ofNat 32 (r.toNat % 256 ^^^ c.toNat) ^^^ ((r >>> 8) <<< 8) := by
    apply BitVec.eq_of_getLsbD_eq
    intro i hi
    have hm : (r.toNat % 256).testBit i = (decide (i < 8) && r.toNat.testBit i) := by rw [show (256 : Nat) = 2 ^ 8 from rfl, Nat.testBit_mod_two_pow]
    simp only [BitVec.getLsbD_xor, BitVec.getLsbD_ofNat, Nat.testBit_xor, hm, BitVec.getLsbD_shiftLeft, BitVec.getLsbD_ushiftRight, hi, decide_true, Bool.true_and]
    by_cases h : i < 8
    · simp [h]; rfl
    · have h8 : 8 + (i - 8) = i := by omega
      have : c.toNat < 2 ^ i := Nat.lt_of_lt_of_le c.toNat_lt (Nat.pow_le_pow_right (by decide) (by omega))
      simp [h, h8, Nat.testBit_lt_two_pow this]
  rw [h1, stepN_xor, shl_stepN 8 (r >>> 8) (by decide) (by intro i hi; rw [BitVec.getLsbD_ushiftRight]; exact BitVec.getLsbD_of_ge _ _ (by omega))]
  rfl
theorem byteStep_feed (r : W32) (c : UInt8) : byteStep r c = feed r (byteBits c) := by
  rw [feed_word _ _ (by simp [byteBits]), byteStep_eq, byteBits_word]
  simp [byteBits]
def crcRaw (r : W32) (s : Bs) : W32 := s.foldl byteStep r
theorem crcRaw_feed (r : W32) (s : Bs) : crcRaw r s = feed r (bitsOf s) := by
  induction s generalizing r with
  | nil => rfl
  | cons c t ih =>
    show crcRaw (byteStep r c) t = _
    rw [ih, byteStep_feed]
    show _ = feed r (byteBits c ++ bitsOf t)
    rw [feed_append]
theorem crcRaw_append (r : W32) (a b : Bs) : crcRaw r (a ++ b) = crcRaw (crcRaw r a) b := List.foldl_append
/-- The sum of bytes behind others. -/
def crcMore (sum : W32) (s : Bs) : W32 := ~~~ (crcRaw (~~~ sum) s)
theorem crcMore_append (sum : W32) (a b : Bs) : crcMore sum (a ++ b) = crcMore (crcMore sum a) b := by
  unfold crcMore; rw [crcRaw_append, BitVec.not_not]
theorem crcMore_nil (sum : W32) : crcMore sum [] = sum := by unfold crcMore crcRaw; simp
def crcSum (s : Bs) : W32 := crcMore 0#32 s
theorem bitsOf_length (s : Bs) : (bitsOf s).length = 8 * s.length := by
  induction s with
  | nil => rfl
  | cons c t ih => simp only [bitsOf, List.flatMap_cons, List.length_append, List.length_cons] at ih ⊢; rw [ih]; simp [byteBits]; omega
theorem bitsOf_get (s : Bs) (i : Nat) : (bitsOf s).getD i false = ((s.getD (i / 8) 0).toNat.testBit (i % 8)) := by
  induction s generalizing i with
  | nil => simp [bitsOf]
  | cons c t ih =>
    have e : bitsOf (c :: t) = byteBits c ++ bitsOf t := rfl
    rw [e, List.getD_eq_getElem?_getD]
    have hl : (byteBits c).length = 8 := by simp [byteBits]
    by_cases h : i < 8
    · rw [List.getElem?_append_left (by omega)]
      have h0 : i / 8 = 0 := by omega
      have h1 : i % 8 = i := by omega
      rw [h0, h1]
      simp [byteBits, h]
    · rw [List.getElem?_append_right (by omega), hl, ← List.getD_eq_getElem?_getD, ih]
      obtain ⟨q, hq⟩ : ∃ q, i / 8 = q + 1 := ⟨i / 8 - 1, by omega⟩
      rw [show (i - 8) / 8 = q by omega, show (i - 8) % 8 = i % 8 by omega, hq]
      simp
theorem bitsOf_inj {a b : Bs} (h : bitsOf a = bitsOf b) : a = b := by
  have hl : a.length = b.length := by have := congrArg List.length h; rw [bitsOf_length, bitsOf_length] at this; omega
  apply List.ext_getElem hl
  intro i h1 h2
  apply UInt8.toNat_inj.1
  apply Nat.eq_of_testBit_eq
  intro j
  by_cases hj : j < 8
  · have h3 := bitsOf_get a (8 * i + j)
    have h4 := bitsOf_get b (8 * i + j)
    rw [h, h4] at h3
    rw [show (8 * i + j) / 8 = i by omega, show (8 * i + j) % 8 = j by omega, List.getD_eq_getElem?_getD, List.getD_eq_getElem?_getD, List.getElem?_eq_getElem h1, List.getElem?_eq_getElem h2] at h3
    exact h3.symm
  · rw [Nat.testBit_lt_two_pow (Nat.lt_of_lt_of_le a[i].toNat_lt (Nat.pow_le_pow_right (by decide) (by omega))), Nat.testBit_lt_two_pow (Nat.lt_of_lt_of_le b[i].toNat_lt (Nat.pow_le_pow_right (by decide) (by omega)))]
/-- Bytes that differ within 32 bits in a row have unlike sums. -/
theorem crc_burst (sum : W32) (a b : Bs) (first : Nat) (hl : a.length = b.length) (hd : ∀ i, (i < first ∨ first + 32 ≤ i) → (bitsOf a).getD i false = (bitsOf b).getD i false) (h : crcMore sum a = crcMore sum b) : a = b := by
  unfold crcMore at h
  have h2 := congrArg (~~~ ·) h
  simp only [BitVec.not_not, crcRaw_feed] at h2
  exact bitsOf_inj (feed_burst _ _ _ first (by rw [bitsOf_length, bitsOf_length, hl]) hd h2)

end Go.Proofs.Ytkenneeejdngaaa
