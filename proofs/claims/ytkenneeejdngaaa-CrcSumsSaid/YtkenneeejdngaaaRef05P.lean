/- Sums by division (pure). -/
import Derived.Test.YtkenneeejdngaaaCrcP
namespace Go.Proofs.Ytkenneeejdngaaa
open Go.RowKit

/-- Where the polynomial has a bit. -/
def pw (n : Nat) : Bool := decide (n ∈ [28, 27, 26, 25, 23, 22, 20, 19, 18, 14, 13, 11, 10, 9, 8, 6, 0])
theorem pw_cP : ∀ j, j < 32 → pw (31 - j) = cP.getLsbD j := by decide
/-- One bit's division: up to K places behind it. -/
def inner (m : List Bool) (i : Nat) : Nat → List Bool
  | 0 => m
  | k + 1 => (inner m i k).set (i + (k + 1)) ((inner m i k).getD (i + (k + 1)) false ^^ pw (31 - k))
def outer (m : List Bool) : Nat → List Bool
  | 0 => m
  | i + 1 => if (outer m i).getD i false then inner (outer m i) i 32 else outer m i
def turned : Nat → List Bool → List Bool
  | 0, m => m
  | k + 1, m => (turned k m).set k (!(turned k m).getD k false)
theorem inner_len (m : List Bool) (i k : Nat) : (inner m i k).length = m.length := by
  induction k with
  | zero => rfl
  | succ k ih => show (List.set _ _ _).length = _; rw [List.length_set, ih]
theorem outer_len (m : List Bool) (i : Nat) : (outer m i).length = m.length := by
  induction i with
  | zero => rfl
  | succ i ih =>
    show (if _ then _ else _ : List Bool).length = _
    split
    · rw [inner_len, ih]
    · exact ih
theorem turned_len (m : List Bool) (k : Nat) : (turned k m).length = m.length := by
  induction k with
  | zero => rfl
  | succ k ih => show (List.set _ _ _).length = _; rw [List.length_set, ih]
theorem getD_set (m : List Bool) (i x : Nat) (b : Bool) (h : i < m.length) : (m.set i b).getD x false = if x = i then b else m.getD x false := by
  rw [List.getD_eq_getElem?_getD, List.getD_eq_getElem?_getD, List.getElem?_set]
  by_cases hx : i = x
  · subst hx; simp [h]
  · have hx2 : ¬ x = i := fun e => hx e.symm
    simp [hx, hx2]
theorem turned_get (m : List Bool) (k : Nat) (h : k ≤ m.length) (x : Nat) : (turned k m).getD x false = if x < k then !m.getD x false else m.getD x false := by
  induction k with
  | zero => simp [turned]
  | succ k ih =>
    have ih := ih (by omega)
    show ((turned k m).set k (!(turned k m).getD k false)).getD x false = _
    rw [getD_set _ _ _ _ (by rw [turned_len]; omega)]
    by_cases hx : x = k
    · subst hx
      rw [if_pos rfl, ih, if_neg (by omega), if_pos (by omega)]
    · rw [if_neg hx, ih]
      by_cases h2 : x < k
      · rw [if_pos h2, if_pos (by omega)]
      · rw [if_neg h2, if_neg (by omega)]
theorem inner_get (m : List Bool) (i k : Nat) (h : i + k < m.length) (x : Nat) : (inner m i k).getD x false = if i < x ∧ x ≤ i + k then (m.getD x false ^^ pw (32 - (x - i))) else m.getD x false := by
  induction k generalizing x with
  | zero =>
    show m.getD x false = _
    rw [if_neg (by omega)]
  | succ k ih =>
    have ih := fun x => ih (by omega) x
    show ((inner m i k).set (i + (k + 1)) ((inner m i k).getD (i + (k + 1)) false ^^ pw (31 - k))).getD x false = _
    rw [getD_set _ _ _ _ (by rw [inner_len]; omega)]
    by_cases hx : x = i + (k + 1)
    · subst hx
      rw [if_pos rfl, ih, if_neg (by omega), if_pos (by omega), show 32 - (i + (k + 1) - i) = 31 - k by omega]
    · rw [if_neg hx, ih]
      by_cases h2 : i < x ∧ x ≤ i + k
      · rw [if_pos h2, if_pos (by omega)]
      · rw [if_neg h2, if_neg (by omega)]
theorem b2w_bit (b : Bool) (j : Nat) : (b2w b).getLsbD j = (decide (j = 0) && b) := by
  cases b
  · simp [b2w]
  · cases j with
    | zero => rfl
    | succ j => simp [b2w]
theorem step_bit (r : W32) (j : Nat) (hj : j < 32) : (step r).getLsbD j = (r.getLsbD (j + 1) ^^ (r.getLsbD 0 && pw (31 - j))) := by
  unfold step
  rw [BitVec.getLsbD_xor, BitVec.getLsbD_ushiftRight, Nat.add_comm 1 j, pw_cP j hj]
  cases r.getLsbD 0 <;> simp
/-- What stands in the row after i bits: the register, laid over the text. -/
theorem outer_feed (b : List Bool) (r : W32) (m : List Bool) (hm : m.length = b.length + 32) (h0 : ∀ x, m.getD x false = if x < 32 then (r.getLsbD x ^^ b.getD x false) else b.getD x false) :
    ∀ i, i ≤ b.length → ∀ x, i ≤ x → (outer m i).getD x false = if x < i + 32 then ((feed r (b.take i)).getLsbD (x - i) ^^ b.getD x false) else b.getD x false := by
  intro i
  induction i with
  | zero =>
    intro _ x _
    show m.getD x false = _
    rw [h0 x, Nat.zero_add, Nat.sub_zero, List.take_zero]
    rfl
  | succ i ih =>
    intro hi x hx
    have ih := ih (by omega)
    have hb : i < b.length := by omega
    have hf : feed r (b.take (i + 1)) = step (feed r (b.take i) ^^^ b2w b[i]) := by
      rw [List.take_succ_eq_append_getElem hb, feed_append]
      rfl
    have hbi : b.getD i false = b[i] := by rw [List.getD_eq_getElem?_getD, List.getElem?_eq_getElem hb]; rfl
    have hi0 := ih i (Nat.le_refl _)
    rw [if_pos (by omega), Nat.sub_self, hbi] at hi0
    have hx0 := ih x (by omega)
    have hq : (outer m (i + 1)).getD x false = ((outer m i).getD x false ^^ ((outer m i).getD i false && (decide (x ≤ i + 32) && pw (32 - (x - i))))) := by
      show (if (outer m i).getD i false then inner (outer m i) i 32 else outer m i).getD x false = _
      cases hc : (outer m i).getD i false with
      | false => simp
      | true =>
        rw [if_pos rfl, inner_get _ _ _ (by rw [outer_len]; omega)]
        by_cases h2 : x ≤ i + 32
        · rw [if_pos ⟨by omega, h2⟩]; simp [h2]
        · rw [if_neg (by omega)]; simp [h2]
    rw [hq, hi0, hf]
    generalize feed r (b.take i) = R at hx0 ⊢
    generalize b[i] = c
    by_cases h1 : x < i + 1 + 32
    · have hj : x - (i + 1) < 32 := by omega
      rw [if_pos h1, step_bit _ _ hj, BitVec.getLsbD_xor, BitVec.getLsbD_xor, b2w_bit, b2w_bit, show x - (i + 1) + 1 = x - i by omega, show 31 - (x - (i + 1)) = 32 - (x - i) by omega]
      have e1 : decide (x ≤ i + 32) = true := decide_eq_true (by omega)
      have e2 : decide (x - i = 0) = false := decide_eq_false (by omega)
      rw [e1, e2, hx0]
      by_cases h3 : x < i + 32
      · rw [if_pos h3]
        cases R.getLsbD (x - i) <;> cases b.getD x false <;> cases R.getLsbD 0 <;> cases c <;> simp
      · rw [if_neg h3]
        have e3 : R.getLsbD (x - i) = false := BitVec.getLsbD_of_ge _ _ (by omega)
        rw [e3]
        cases b.getD x false <;> cases R.getLsbD 0 <;> cases c <;> simp
    · rw [if_neg h1, hx0, if_neg (by omega)]
      have e1 : decide (x ≤ i + 32) = false := decide_eq_false (by omega)
      rw [e1]
      simp
/-- What is left, turned. -/
def readOut (f : Nat → Bool) : Nat → Nat
  | 0 => 0
  | k + 1 => readOut f k * 2 + (if f (31 - k) then 1 else 0)
def rowOf (s : Bs) : List Bool := bitsOf s ++ List.replicate 32 false
def divided (s : Bs) : List Bool := outer (turned 32 (rowOf s)) (8 * s.length)
theorem rowOf_len (s : Bs) : (rowOf s).length = 8 * s.length + 32 := by unfold rowOf; rw [List.length_append, bitsOf_length, List.length_replicate]
theorem rowOf_get (s : Bs) (x : Nat) : (rowOf s).getD x false = (bitsOf s).getD x false := by
  unfold rowOf
  rw [List.getD_eq_getElem?_getD, List.getD_eq_getElem?_getD, List.getElem?_append]
  split
  · rfl
  · next h =>
    rw [List.getElem?_eq_none (l := bitsOf s) (by omega), List.getElem?_replicate]
    split <;> rfl
theorem divided_get (s : Bs) (j : Nat) (hj : j < 32) : (divided s).getD (8 * s.length + j) false = !((crcMore 0#32 s).getLsbD j) := by
  have hl := bitsOf_length s
  have h := outer_feed (bitsOf s) (BitVec.allOnes 32) (turned 32 (rowOf s)) (by rw [turned_len, rowOf_len, hl]) (fun x => by
    rw [turned_get _ _ (by rw [rowOf_len]; omega), rowOf_get]
    by_cases hx : x < 32
    · rw [if_pos hx, if_pos hx, BitVec.getLsbD_allOnes]; simp [hx]
    · rw [if_neg hx, if_neg hx]) (8 * s.length) (by omega) (8 * s.length + j) (by omega)
  unfold divided
  rw [h, if_pos (by omega), Nat.add_sub_cancel_left, List.take_of_length_le (by omega)]
  have hz : (bitsOf s).getD (8 * s.length + j) false = false := by rw [List.getD_eq_getElem?_getD, List.getElem?_eq_none (by omega)]; rfl
  rw [hz]
  unfold crcMore
  rw [crcRaw_feed, BitVec.getLsbD_not]
  simp [hj]

theorem readOut_bits (r : W32) : ∀ k, k ≤ 32 → readOut (fun j => r.getLsbD j) k = r.toNat / 2 ^ (32 - k)
  | 0, _ => by
    show 0 = _
    rw [Nat.sub_zero, Nat.div_eq_of_lt r.isLt]
  | k + 1, hk => by
    have ih := readOut_bits r k (by omega)
    show readOut (fun j => r.getLsbD j) k * 2 + (if r.getLsbD (31 - k) then 1 else 0) = _
    rw [ih, show 32 - k = 31 - k + 1 by omega, show 32 - (k + 1) = 31 - k by omega, Nat.pow_succ, ← Nat.div_div_eq_div_mul]
    have hb : r.getLsbD (31 - k) = decide (r.toNat / 2 ^ (31 - k) % 2 = 1) := by
      rw [BitVec.getLsbD, Nat.testBit_eq_decide_div_mod_eq]
    rw [hb]
    generalize r.toNat / 2 ^ (31 - k) = a
    by_cases h : a % 2 = 1
    · simp [h]; omega
    · simp [h]; omega
theorem readOut_ext (f g : Nat → Bool) (h : ∀ j, j < 32 → f j = g j) : ∀ k, k ≤ 32 → readOut f k = readOut g k
  | 0, _ => rfl
  | k + 1, hk => by
    show readOut f k * 2 + _ = readOut g k * 2 + _
    rw [readOut_ext f g h k (by omega), h (31 - k) (by omega)]
theorem divided_sum (s : Bs) : readOut (fun j => !(divided s).getD (8 * s.length + j) false) 32 = (crcMore 0#32 s).toNat := by
  rw [readOut_ext _ (fun j => (crcMore 0#32 s).getLsbD j) (fun j hj => by rw [divided_get s j hj]; simp) 32 (Nat.le_refl _), readOut_bits _ 32 (Nat.le_refl _)]
  simp
theorem readOut_lt (f : Nat → Bool) : ∀ k, readOut f k < 2 ^ k
  | 0 => by show 0 < 2 ^ 0; omega
  | k + 1 => by
    have := readOut_lt f k
    show readOut f k * 2 + _ < _
    rw [Nat.pow_succ]
    split <;> omega
/-- A bit of a text. -/
def bitN (b : Bool) : Nat := if b then 1 else 0

def pwL : List Nat := [28, 27, 26, 25, 23, 22, 20, 19, 18, 14, 13, 11, 10, 9, 8, 6, 0]
def pwC : Array Value := #[.int .i64 28, .int .i64 27, .int .i64 26, .int .i64 25, .int .i64 23, .int .i64 22, .int .i64 20, .int .i64 19, .int .i64 18, .int .i64 14, .int .i64 13, .int .i64 11, .int .i64 10, .int .i64 9, .int .i64 8, .int .i64 6, .int .i64 0]
theorem pw_cell : ∀ k, k < 17 → pwC[k]? = some (.int .i64 ((pwL.getD k 0 : Nat) : Int))
  | 0, _ => rfl
  | 1, _ => rfl
  | 2, _ => rfl
  | 3, _ => rfl
  | 4, _ => rfl
  | 5, _ => rfl
  | 6, _ => rfl
  | 7, _ => rfl
  | 8, _ => rfl
  | 9, _ => rfl
  | 10, _ => rfl
  | 11, _ => rfl
  | 12, _ => rfl
  | 13, _ => rfl
  | 14, _ => rfl
  | 15, _ => rfl
  | 16, _ => rfl
  | k + 17, h => absurd h (by omega)
theorem pw_yes : ∀ k, k < 17 → pw (pwL.getD k 0) = true := by decide
theorem pw_no (n : Nat) (h : ∀ j, j < 17 → pwL.getD j 0 ≠ n) : pw n = false := by
  unfold pw
  rw [decide_eq_false_iff_not]
  intro hm
  have e : pwL = [28, 27, 26, 25, 23, 22, 20, 19, 18, 14, 13, 11, 10, 9, 8, 6, 0] := rfl
  rw [← e] at hm
  obtain ⟨j, hj, hg⟩ := List.getElem_of_mem hm
  exact h j hj (by rw [List.getD_eq_getElem?_getD, List.getElem?_eq_getElem hj]; exact hg)
theorem bit_div (s : Bs) (i : Nat) (hi : i < 8 * s.length) (h : i / 8 < s.length) : (s[i / 8].toNat / 2 ^ (i % 8)) % 2 = bitN ((bitsOf s).getD i false) := by
  rw [bitsOf_get]
  have e : s.getD (i / 8) 0 = s[i / 8] := by rw [List.getD_eq_getElem?_getD, List.getElem?_eq_getElem h]; rfl
  rw [e, Nat.testBit_eq_decide_div_mod_eq]
  generalize s[i / 8].toNat / 2 ^ (i % 8) = a
  unfold bitN
  by_cases h : a % 2 = 1
  · simp [h]
  · simp [h]; omega

end Go.Proofs.Ytkenneeejdngaaa
