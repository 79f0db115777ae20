/- A text. -/
import Derived.Test.YtngojlinfdokpaaGWholeTorn9
import Derived.Test.YtngojlinfdokpaaGWholeTorn3
import Derived.Test.YtngojlinfdokpaaGWholeTorn5
import Derived.Test.YtngojlinfdokpaaGWholeTorn7
import Derived.Test.YtngojlinfdokpaaGWholeTorn6
import Derived.Laws.ComplexArith
import Derived.Test.YtngojlinfdokpaaNum
import Derived.Laws.Cover3
import Derived.IntWalk
import Derived.Test.YtngojlinfdokpaaSep
import Derived.Test.YtngojlinfdokpaaHdr1
import Derived.Laws.Cover2
import Derived.Test.YtngojlinfdokpaaGWholeTorn1
import Derived.Laws.FloatArith
import Derived.RegionTactic
import Derived.Deep.RegionHeld3
import Derived.Deep.DeepCutAuto
import Derived.WalkMore
/- A text. -/
namespace Go.Proofs.Ytngojlinfdokpaa
open Go.RowKit

theorem scan_any (l : List Bs) (A : Bs) (hA : l.flatten = A) (bs : List BatS) (pv : Nat) (rest : Bs) (pe ps : Int) (hf : finS A = (bs, pv, rest, pe)) (hps : stopS rest pe = ps) (hl : A.length ≤ 90000) (q : Option Addr) (cap : Nat) (hll : l.length ≤ 1000000) {W0 w : World} {K : Know} {L : List Res} (hk : K.has (Know.strs (.slice q l.length cap) l)) (h : St W0 w K L) :
  Calls Try.prog 7 #[.slice q l.length cap] w fun en w' => ∃ (q : Option Addr) (cap : Nat) (lr : List BatR), en = .returned (.tuple #[.slice q lr.length cap, .agg #[.int .i64 (pv : Nat), .int .i64 ps, .int .i64 pe]]) ∧ lr.map BatR.b = bs ∧ (∀ x ∈ lr, LiteR x) ∧ 61 * lr.length ≤ A.length ∧ (((q = none ∧ cap = 0) ∨ ∃ g, q = some ⟨g, 0, none⟩) ∧ lr.length ≤ cap) ∧ St W0 w' (K.and (Know.bats (.slice q lr.length cap) lr)) L := by
 refine (scan_scan l A hA hl q cap hll hk h).mono ?_
 rintro en wn ⟨q2, cap2, lr, rfl, h1, h2, h3, h4, h5⟩
 rw [hf] at h1
 refine ⟨q2, cap2, lr, ?_, h1, h2, h3, h4, h5⟩
 rw [hf, ← hps]
theorem scan_one (A : Bs) (bs : List BatS) (pv : Nat) (rest : Bs) (pe ps : Int) (hf : finS A = (bs, pv, rest, pe)) (hps : stopS rest pe = ps) (hl : A.length ≤ 90000) (r : Nat) {W0 w : World} {K : Know} {L : List Res} (h : St W0 w K (.raw r #[.string (bb A)] 9 :: L)) :
  Calls Try.prog 7 #[.slice (some ⟨r, 0, none⟩) 1 1] w fun en w' => ∃ (q : Option Addr) (cap : Nat) (lr : List BatR), en = .returned (.tuple #[.slice q lr.length cap, .agg #[.int .i64 (pv : Nat), .int .i64 ps, .int .i64 pe]]) ∧ lr.map BatR.b = bs ∧ (∀ x ∈ lr, LiteR x) ∧ 61 * lr.length ≤ A.length ∧ (((q = none ∧ cap = 0) ∨ ∃ g, q = some ⟨g, 0, none⟩) ∧ lr.length ≤ cap) ∧ St W0 w' (K.and (Know.bats (.slice q lr.length cap) lr)) L := by
 refine (scan_any [A] A (by simp) bs pv rest pe ps hf hps hl (some ⟨r, 0, none⟩) 1 (by show 1 ≤ 1000000; decide) (Know.has_right (Know.has_refl _)) h.freezeStr).mono ?_
 rintro en wn ⟨q2, cap2, lr, h0, h1, h2, h3, h4, h5⟩
 exact ⟨q2, cap2, lr, h0, h1, h2, h3, h4, h5.know (Know.has_and (Know.has_left (Know.has_left (Know.has_refl _))) (Know.has_right (Know.has_refl _)))⟩
theorem bats_take {K : Know} {q : Option Addr} {n cap : Nat} {l : List BatR} (m : Nat) (hm : m ≤ l.length) (h : K.has (Know.bats (.slice q n cap) l)) : K.has (Know.bats (.slice q m cap) (l.take m)) := by
 intro w F hF
 obtain ⟨⟨q2, cap2, hv, hr⟩, ht⟩ := h w F hF
 simp at hv
 obtain ⟨rfl, _, rfl⟩ := hv
 have hl : (l.take m).length = m := by rw [List.length_take]; omega
 refine ⟨⟨q, cap, by rw [hl], fun h0 => ?_⟩, fun x hx => ht x (List.mem_of_mem_take hx)⟩
 obtain ⟨b, off, hq, hb, hs, hc⟩ := hr (by omega)
 refine ⟨b, off, hq, hb, hs, fun i hi => ?_⟩
 obtain ⟨cs, a1, a2, a3⟩ := hc i (by omega)
 exact ⟨cs, a1, by rw [List.getElem_take]; exact a2, a3⟩
theorem ref11_rowsN (l1 l2 : List BatR) (n1 n2 : Nat) (h1 : l1.length = n1) (h2 : l2.length = n2) (q1 q2 : Option Addr) (cap1 cap2 : Nat) (hx : l1.map BatR.b = l2.map BatR.b) (hf1 : ∀ x ∈ l1, LiteR x) (hf2 : ∀ x ∈ l2, LiteR x) (hn : n1 ≤ 100000) {W0 w : World} {K : Know} {L : List Res} (hk1 : K.has (Know.bats (.slice q1 n1 cap1) l1)) (hk2 : K.has (Know.bats (.slice q2 n2 cap2) l2)) (h : St W0 w K L) :
  Calls Try.prog 9 #[.slice q1 n1 cap1, .slice q2 n2 cap2] w fun en w' => en = .returned (.bool true) ∧ St W0 w' K L := by
 subst h1 h2
 exact ref11_rowsT l1 l2 q1 q2 cap1 cap2 hx hf1 hf2 hn hk1 hk2 h
theorem bats_empty (K : Know) (q : Option Addr) (cap : Nat) : K.has (Know.bats (.slice q 0 cap) []) := bats_know (fun _ _ _ => ⟨q, cap, rfl, fun h => absurd h (by simp)⟩) (fun x hx => by cases hx)
end Go.Proofs.Ytngojlinfdokpaa

/- A text. -/
namespace Go.Proofs.Ytngojlinfdokpaa
open Go.RowKit

end Go.Proofs.Ytngojlinfdokpaa

/- A text. -/
namespace Go.Proofs.Ytngojlinfdokpaa
open Go.RowKit

end Go.Proofs.Ytngojlinfdokpaa

/- A text. -/
namespace Go.Proofs.Ytngojlinfdokpaa
open Go.RowKit

theorem liteR_of {x : BatR} (hf : x.Fit) (so : SmallOk x.b) : LiteR x := ⟨hf.2.2, by have := so.len; omega, fun y hy => (so.recs y hy).2.2⟩
end Go.Proofs.Ytngojlinfdokpaa

/- A text. -/
namespace Go.Proofs.Ytngojlinfdokpaa
open Go.RowKit

def ptP (b : BatS) : Int := if batErr b = 0 then (b.enc.length : Int) else 0
def ptQ (b : BatS) : Int := if batErr b = 0 then (b.recs.length : Int) else 0
def sP (l : List BatR) : Int := (l.map fun x => ptP x.b).sum
def sQ (l : List BatR) : Int := (l.map fun x => ptQ x.b).sum
def SmB (x : BatR) : Prop := x.Fit ∧ smallB (x.l.map (·.1)) = true
theorem pt_rng (x : BatR) (h : SmB x) : (0 ≤ ptP x.b ∧ ptP x.b ≤ 401000) ∧ (0 ≤ ptQ x.b ∧ ptQ x.b ≤ 12) := by
 unfold ptP ptQ
 by_cases he : batErr x.b = 0
 · rw [if_pos he, if_pos he]
   have so := SmallOk.of h.1.2.2.symm h.1.2.1 h.2 he h.1.1
   have h1 := so.elen
   have h2 := so.len
   omega
 · rw [if_neg he, if_neg he]
   omega
theorem sP_rng : ∀ (l : List BatR), (∀ x ∈ l, SmB x) → (0 ≤ sP l ∧ sP l ≤ 401000 * l.length) ∧ (0 ≤ sQ l ∧ sQ l ≤ 12 * l.length)
  | [], _ => by simp [sP, sQ]
  | x :: t, h => by
    have h1 := pt_rng x (h x (List.mem_cons_self))
    have h2 := sP_rng t (fun y hy => h y (List.mem_cons_of_mem _ hy))
    have e1 : sP (x :: t) = ptP x.b + sP t := by unfold sP; rw [List.map_cons, List.sum_cons]
    have e2 : sQ (x :: t) = ptQ x.b + sQ t := by unfold sQ; rw [List.map_cons, List.sum_cons]
    rw [e1, e2, List.length_cons]
    omega
theorem sP_step (l : List BatR) (k : Nat) (hk : k < l.length) (x : BatR) (hx : l[k] = x) : sP (l.take (k + 1)) = sP (l.take k) + ptP x.b ∧ sQ (l.take (k + 1)) = sQ (l.take k) + ptQ x.b ∧ l.take (k + 1) = l.take k ++ [x] := by
 have e : l.take (k + 1) = l.take k ++ [x] := by rw [List.take_succ_eq_append_getElem hk, hx]
 refine ⟨?_, ?_, e⟩
 · rw [e]; unfold sP; rw [List.map_append, List.sum_append]; simp
 · rw [e]; unfold sQ; rw [List.map_append, List.sum_append]; simp
theorem recs_len {l : List (RecS × Value)} {b : BatS} (h : l.map (·.1) = b.recs) : (b.recs.length : Int) = l.length := by rw [← h, List.length_map]

end Go.Proofs.Ytngojlinfdokpaa

/- A text. -/
namespace Go.Proofs.Ytngojlinfdokpaa
open Go.RowKit

end Go.Proofs.Ytngojlinfdokpaa

/- A text. -/
namespace Go.Proofs.Ytngojlinfdokpaa
open Go Ieee

def FV (d : Datum) (n : Int) : Prop := ∃ (s : Bool) (m : Nat) (p : Int), d = .number s m p ∧ p ≤ 0 ∧ (if s then -(m : Int) else (m : Int)) = n * 2 ^ (-p).toNat
def FI (x : Nat) (n : Int) : Prop := FV (double.read x) n
def Wh (n : Int) : Prop := -9007199254740992 < n ∧ n < 9007199254740992
theorem signed_eq (s : Bool) (m up : Nat) : signed s m up = (if s then -(m : Int) else (m : Int)) * 2 ^ up := by
 unfold signed
 rw [Nat.shiftLeft_eq]
 cases s <;> simp [Int.neg_mul]
theorem pow_shift {i b : Int} (hb : b ≤ i) (hi : i ≤ 0) : (2 : Int) ^ (-i).toNat * 2 ^ (i - b).toNat = 2 ^ (-b).toNat := by
 rw [← Int.pow_add]
 congr 1
 omega
theorem FV.sum {c d : Datum} {a b : Int} (ha : FV c a) (hb : FV d b) : ∃ e, c.sum d = some e ∧ FV e (a + b) := by
 obtain ⟨s, m, i, rfl, hi, va⟩ := ha
 obtain ⟨t, n, j, rfl, hj, vb⟩ := hb
 refine ⟨_, rfl, ?_⟩
 have hmi : min i j ≤ i := Int.min_le_left _ _
 have hmj : min i j ≤ j := Int.min_le_right _ _
 have e1 : signed s m (i - min i j).toNat = a * 2 ^ (-(min i j)).toNat := by rw [signed_eq, va, Int.mul_assoc, pow_shift hmi hi]
 have e2 : signed t n (j - min i j).toNat = b * 2 ^ (-(min i j)).toNat := by rw [signed_eq, vb, Int.mul_assoc, pow_shift hmj hj]
 have e3 : signed s m (i - min i j).toNat + signed t n (j - min i j).toNat = (a + b) * 2 ^ (-(min i j)).toNat := by rw [e1, e2, Int.add_mul]
 refine ⟨_, _, _, rfl, by omega, ?_⟩
 rw [e3]
 generalize (a + b) * 2 ^ (-(min i j)).toNat = T
 by_cases h0 : T = 0
 · subst h0; cases s <;> cases t <;> simp
 · rw [if_neg h0]
   by_cases h1 : T < 0
   · rw [if_pos (by simpa using h1)]; omega
   · rw [if_neg (by simpa using h1)]; omega
theorem FV.opposite {c : Datum} {a : Int} (ha : FV c a) : FV c.opposite (-a) := by
 obtain ⟨s, m, i, rfl, hi, va⟩ := ha
 refine ⟨!s, m, i, rfl, hi, ?_⟩
 rw [Int.neg_mul, ← va]
 cases s <;> simp
theorem cut_zero (way : Toward) (neg : Bool) (n : Nat) : way.cut neg n 0 = n := by
 unfold Toward.cut
 cases way <;> simp [Nat.mod_one]
theorem log2_mul_pow (N k : Nat) (h : N ≠ 0) : (N * 2 ^ k).log2 = N.log2 + k := by
 induction k with
 | zero => simp
 | succ k ih =>
  rw [Nat.pow_succ, ← Nat.mul_assoc, Nat.mul_comm _ 2, Nat.log2_two_mul (Nat.mul_ne_zero h (Nat.ne_of_gt (Nat.two_pow_pos k))), ih]
  rfl
theorem cut_pow (way : Toward) (neg : Bool) (N k : Nat) (h : N ≠ 0) : way.cut neg (N * 2 ^ k) k = N := by
 have hl := log2_mul_pow N k h
 unfold Toward.cut
 have hm : min k ((N * 2 ^ k).log2 + 2) = k := by rw [hl]; omega
 have hp : 0 < 2 ^ k := Nat.two_pow_pos k
 simp only [hm, Nat.one_shiftLeft, Nat.mul_div_cancel _ hp, Nat.mul_mod_left]
 cases way <;> simp <;> omega
theorem read_word (s : Bool) (e K : Nat) (he : e ≤ 52) (h1 : 4503599627370496 ≤ K) (h2 : K < 9007199254740992) : double.read (double.word s ((e + 1022) * 4503599627370496 + K)) = .number s K ((e : Int) - 52) := by
 have hR : (e + 1022) * 4503599627370496 + K < 9223372036854775808 := by omega
 have hs : double.signWeight = 9223372036854775808 := by decide
 have hb : double.binade = 4503599627370496 := by decide
 have hi : double.infRung = 9218868437227405312 := by decide
 have hl : double.leastPlace = -1074 := by decide
 have hm : double.word s ((e + 1022) * 4503599627370496 + K) % 9223372036854775808 = (e + 1022) * 4503599627370496 + K := by
  unfold Format.word
  rw [hs]
  cases s <;> simp <;> omega
 have hd : (double.word s ((e + 1022) * 4503599627370496 + K) / 9223372036854775808 % 2 == 1) = s := by
  unfold Format.word
  rw [hs]
  cases s
  · simp only [Bool.false_eq_true, if_false]
    rw [Nat.div_eq_of_lt hR]
    rfl
  · simp only [if_true]
    rw [show (9223372036854775808 + ((e + 1022) * 4503599627370496 + K)) / 9223372036854775808 = 1 by omega]
    rfl
 unfold Format.read
 simp only [hs, hb, hi, hl, hm, hd]
 rw [if_neg (by omega), if_pos (by omega)]
 have e1 : 4503599627370496 + ((e + 1022) * 4503599627370496 + K) % 4503599627370496 = K := by omega
 have e3 : (-1074 : Int) + ((((e + 1022) * 4503599627370496 + K) / 4503599627370496 - 1 : Nat) : Int) = (e : Int) - 52 := by omega
 exact congr (congrArg (Datum.number s) e1) e3
theorem min_word (e K : Nat) (he : e ≤ 52) (hK : K < 9007199254740992) : min ((((e : Int) - 52) - double.leastPlace).toNat * double.binade + K) double.infRung = (e + 1022) * 4503599627370496 + K := by
 have hb : double.binade = 4503599627370496 := by decide
 have hi : double.infRung = 9218868437227405312 := by decide
 have hl : double.leastPlace = -1074 := by decide
 rw [hb, hi, hl, show (((e : Int) - 52) - (-1074)).toNat = e + 1022 by omega]
 omega
theorem neg_place (e : Nat) (he : e ≤ 52) : (e : Int) - 52 ≤ 0 := by omega
theorem neg_place2 (e : Nat) (he : e ≤ 52) : (-((e : Int) - 52)).toNat = 52 - e := by omega
theorem read_zero (s : Bool) : FI (double.word s 0) 0 := by
 cases s
 · exact ⟨false, 0, -1074, by decide +kernel, by decide, by rw [Int.zero_mul]; rfl⟩
 · exact ⟨true, 0, -1074, by decide +kernel, by decide, by rw [Int.zero_mul]; rfl⟩
theorem FV.write {d : Datum} {n : Int} (h : FV d n) (hn : Wh n) : FI (double.write d) n := by
 obtain ⟨s, m, p, rfl, hp, hv⟩ := h
 show FI (double.nearest s m p) n
 unfold Format.nearest
 obtain ⟨k, hk⟩ : ∃ k, (-p).toNat = k := ⟨_, rfl⟩
 have hpk : p = -(k : Int) := by omega
 rw [hk] at hv
 by_cases hm : m = 0
 · rw [if_pos hm]
   subst hm
   have h0 : n = 0 := by
    have hz : n * 2 ^ k = 0 := by rw [← hv]; cases s <;> simp
    rcases Int.mul_eq_zero.1 hz with h | h
    · exact h
    · exact absurd h (Int.ne_of_gt (Int.pow_pos (by decide)))
   subst h0
   exact read_zero s
 · rw [if_neg hm]
   obtain ⟨N, hN⟩ : ∃ N, n.natAbs = N := ⟨_, rfl⟩
   have hmN : m = N * 2 ^ k := by
    have h1 : (m : Int).natAbs = (n * 2 ^ k).natAbs := by rw [← hv]; cases s <;> simp
    rw [Int.natAbs_mul, Int.natAbs_pow, hN] at h1
    simpa using h1
   have hN0 : N ≠ 0 := by rintro rfl; simp at hmN; exact hm hmN
   have hNl : N < 9007199254740992 := by unfold Wh at hn; omega
   have hL := log2_mul_pow N k hN0
   obtain ⟨e, he⟩ : ∃ e, N.log2 = e := ⟨_, rfl⟩
   have he52 : e ≤ 52 := by
    have h53 : N < 2 ^ 53 := hNl
    have := (Nat.log2_lt hN0).2 h53
    omega
   have hb1 : 2 ^ e ≤ N := by rw [← he]; exact Nat.log2_self_le hN0
   have hb2 : N < 2 ^ (e + 1) := by rw [← he]; exact Nat.lt_log2_self
   rw [hmN, hL, he]
   have hlast : max (p + ((e + k : Nat) : Int) - (double.fractionBits : Int)) double.leastPlace = (e : Int) - 52 := by
    show max (p + ((e + k : Nat) : Int) - 52) (-1074) = _
    omega
   simp only [hlast]
   have hkept : Toward.even.cut s ((N * 2 ^ k) <<< (p - ((e : Int) - 52)).toNat) (((e : Int) - 52) - p).toNat = N * 2 ^ (52 - e) := by
    rw [Nat.shiftLeft_eq]
    by_cases hc : k ≤ 52 - e
    · rw [show (((e : Int) - 52) - p).toNat = 0 by omega, cut_zero, Nat.mul_assoc, ← Nat.pow_add]
      congr 2
      omega
    · rw [show (p - ((e : Int) - 52)).toNat = 0 by omega, Nat.pow_zero, Nat.mul_one, show N * 2 ^ k = (N * 2 ^ (52 - e)) * 2 ^ (((e : Int) - 52) - p).toNat by rw [Nat.mul_assoc, ← Nat.pow_add]; congr 2; omega]
      exact cut_pow _ _ _ _ (Nat.mul_ne_zero hN0 (Nat.ne_of_gt (Nat.two_pow_pos _)))
   rw [hkept]
   have hK1 : 4503599627370496 ≤ N * 2 ^ (52 - e) := by
    have h1 := Nat.mul_le_mul_right (2 ^ (52 - e)) hb1
    rw [← Nat.pow_add, show e + (52 - e) = 52 by omega] at h1
    simpa using h1
   have hK2 : N * 2 ^ (52 - e) < 9007199254740992 := by
    have h1 := Nat.mul_lt_mul_of_pos_right hb2 (Nat.two_pow_pos (52 - e))
    rw [← Nat.pow_add, show e + 1 + (52 - e) = 53 by omega] at h1
    simpa using h1
   obtain ⟨K, hKK⟩ : ∃ K, N * 2 ^ (52 - e) = K := ⟨_, rfl⟩
   rw [hKK] at hK1 hK2 ⊢
   have hmin := min_word e K he52 hK2
   rw [hmin]
   refine ⟨s, K, (e : Int) - 52, read_word s e _ he52 hK1 hK2, neg_place e he52, ?_⟩
   rw [neg_place2 e he52, ← hKK]
   have hsg : (if s then -(N : Int) else (N : Int)) = n := by
    have hpp : (0 : Int) < 2 ^ k := Int.pow_pos (by decide)
    have h2 : (if s then -(N : Int) else (N : Int)) * 2 ^ k = n * 2 ^ k := by
      rw [← hv, hmN]
      cases s <;> simp [Int.neg_mul]
    exact Int.eq_of_mul_eq_mul_right (Int.ne_of_gt hpp) h2
   rw [← hsg]
   cases s <;> simp [Int.neg_mul]
theorem FI.add {x y : Nat} {a b : Int} (ha : FI x a) (hb : FI y b) (h : Wh (a + b)) : ∃ r, double.add x y = some r ∧ FI r (a + b) := by
 obtain ⟨e, he, hv⟩ := FV.sum ha hb
 exact ⟨double.write e, by unfold Format.add; rw [he]; rfl, hv.write h⟩
theorem FI.ofInt (n : Int) (h : Wh n) : FI (double.write (.number (n < 0) n.natAbs 0)) n := by
 refine FV.write ⟨_, _, _, rfl, by decide, ?_⟩ h
 by_cases h0 : n < 0
 · simp [h0]; omega
 · simp [h0]; omega

end Go.Proofs.Ytngojlinfdokpaa

/- A text. -/
namespace Go.Proofs.Ytngojlinfdokpaa
open Go Ieee

theorem neg_mod (x : Nat) : (x ^^^ 9223372036854775808) % 9223372036854775808 = x % 9223372036854775808 := by
 have h := Nat.xor_mod_two_pow (a := x) (b := 9223372036854775808) (n := 63)
 have e : (2 : Nat) ^ 63 = 9223372036854775808 := by decide
 rw [e] at h
 rw [h]
 simp
theorem neg_div (x : Nat) : ((x ^^^ 9223372036854775808) / 9223372036854775808 % 2 == 1) = !(x / 9223372036854775808 % 2 == 1) := by
 have e : (2 : Nat) ^ 63 = 9223372036854775808 := by decide
 have h := Nat.shiftRight_xor_distrib (a := x) (b := 9223372036854775808) (i := 63)
 simp only [Nat.shiftRight_eq_div_pow, e] at h
 have h2 : (9223372036854775808 : Nat) / 9223372036854775808 = 1 := by decide
 have h4 := Nat.xor_mod_two_pow (a := x / 9223372036854775808) (b := 1) (n := 1)
 rw [Nat.pow_one] at h4
 rw [h, h2, h4]
 rcases (by omega : x / 9223372036854775808 % 2 = 0 ∨ x / 9223372036854775808 % 2 = 1) with h3 | h3 <;> rw [h3] <;> decide
theorem read_neg (x : Nat) : double.read (Op.negFloat .f64 x) = (double.read x).opposite := by
 show double.read (x ^^^ 9223372036854775808) = _
 unfold Format.read
 have hs : double.signWeight = 9223372036854775808 := by decide
 simp only [hs, neg_mod, neg_div]
 split
 · rfl
 · split
   · rfl
   · split <;> rfl
theorem FI.neg {x : Nat} {a : Int} (h : FI x a) : FI (Op.negFloat .f64 x) (-a) := by
 unfold FI
 rw [read_neg]
 exact FV.opposite h
theorem FI.zero : FI 0 0 := read_zero false
theorem FI.toInt {x : Nat} {a : Int} (ha : FI x a) : (FloatKind.f64.decode x).toInt .zero = some a := by
 obtain ⟨s, m, p, hd, hp, hv⟩ := ha
 show (double.read x).toInt .zero = _
 rw [hd]
 obtain ⟨k, hk⟩ : ∃ k, (-p).toNat = k := ⟨_, rfl⟩
 rw [hk] at hv
 unfold Datum.toInt Datum.integral
 have e1 : p.toNat = 0 := by omega
 simp only [e1, Nat.shiftLeft_zero, hk]
 rw [signed_eq]
 simp only [Int.pow_zero, Int.mul_one]
 obtain ⟨N, hN⟩ : ∃ N, a.natAbs = N := ⟨_, rfl⟩
 have hmN : m = N * 2 ^ k := by
  have h1 : (m : Int).natAbs = (a * 2 ^ k).natAbs := by rw [← hv]; cases s <;> simp
  rw [Int.natAbs_mul, Int.natAbs_pow, hN] at h1
  simpa using h1
 have hc : Toward.zero.cut s m k = N := by
  by_cases h0 : N = 0
  · subst h0
    rw [hmN]
    unfold Toward.cut
    simp
  · rw [hmN]; exact cut_pow _ _ _ _ h0
 rw [hc]
 have hpp : (0 : Int) < 2 ^ k := Int.pow_pos (by decide)
 have h2 : (if s then -(N : Int) else (N : Int)) * 2 ^ k = a * 2 ^ k := by
  rw [← hv, hmN]
  cases s <;> simp [Int.neg_mul]
 rw [Int.eq_of_mul_eq_mul_right (Int.ne_of_gt hpp) h2]
end Go.Proofs.Ytngojlinfdokpaa

/- A text. -/
namespace Go.Proofs.Ytngojlinfdokpaa
open Go.RowKit

def turnI (r a b : Int) : Int × Int := if r = 1 then (-b, a) else if r = 2 then (-a, -b) else if r = 3 then (b, -a) else (a, b)

end Go.Proofs.Ytngojlinfdokpaa

/- A text. -/
namespace Go.Proofs.Ytngojlinfdokpaa
open Go.RowKit

def qa (k : Int) (l : List Int) : Nat → Int × Int
  | 0 => (0, 0)
  | i + 1 => ((qa k l i).1 + (turnI ((k * i) % 4) (l.getD i 0) 0).1, (qa k l i).2 + (turnI ((k * i) % 4) (l.getD i 0) 0).2)
theorem cadd {a b c d re im : Nat} (h1 : Ieee.double.add a c = some re) (h2 : Ieee.double.add b d = some im) : cSumBits .add .f64 a b c d = some (re, im) := by
 unfold cSumBits floatBits
 show (Ieee.double.add a c).bind _ = _
 rw [h1]
 show (Ieee.double.add b d).bind _ = _
 rw [h2]
 rfl
theorem run_cadd {a b c d re im : Nat} (T : TypeId) (h1 : Ieee.double.add a c = some re) (h2 : Ieee.double.add b d = some im) (w : World) : (binOp .add T (.complex .f64 a b) (.complex .f64 c d)).run Try.prog w = .ok (.complex .f64 re im) w :=
 run_complex_sum w .add (.inl rfl) T .f64 a b c d re im (cadd h1 h2)
theorem FI.conv (n : Int) (h : Wh n) : FI (floatOfInt .f64 n) n := FI.ofInt n h
end Go.Proofs.Ytngojlinfdokpaa

/- A text. -/
namespace Go.Proofs.Ytngojlinfdokpaa
open Go.RowKit

end Go.Proofs.Ytngojlinfdokpaa

/- A text. -/
namespace Go.Proofs.Ytngojlinfdokpaa
open Go.RowKit

end Go.Proofs.Ytngojlinfdokpaa

/- A text. -/
namespace Go.Proofs.Ytngojlinfdokpaa
open Go.RowKit

end Go.Proofs.Ytngojlinfdokpaa

/- A text. -/
namespace Go.Proofs.Ytngojlinfdokpaa
open Go.RowKit

def sm (l : List Int) (p : Nat) : Nat → Int
  | 0 => 0
  | i + 1 => sm l p i + if i % 4 = p then l.getD i 0 else 0
end Go.Proofs.Ytngojlinfdokpaa

/- A text. -/
namespace Go.Proofs.Ytngojlinfdokpaa
open Go.RowKit

theorem convI (x : Nat) (a : Int) (h : FI x a) (ha : Wh a) (w : World) : (convert 44 3 (.float .f64 x)).run Try.prog w = .ok (.int .i64 a) w := by
 refine run_convert_float_int w _ _ .f64 .i64 x a (by kernel_rfl) (by kernel_rfl) ?_
 unfold floatToIntVal
 rw [FI.toInt h]
 simp only
 unfold Wh at ha
 rw [if_pos]
 show -9223372036854775808 ≤ a ∧ a ≤ 9223372036854775807
 omega

end Go.Proofs.Ytngojlinfdokpaa

/- A text. -/
namespace Go.Proofs.Ytngojlinfdokpaa
open Go.RowKit

end Go.Proofs.Ytngojlinfdokpaa

/- A text. -/
namespace Go.Proofs.Ytngojlinfdokpaa
open Go.RowKit

theorem enc_bad_b (b : BatS) (l : List (RecS × Value)) (q : Option Addr) (cap : Nat) (hl : l.map (·.1) = b.recs) (e : Int) (he : batErr b = e) (h0 : e ≠ 0) (hR : b.R) (hf : FitW l) (hs : smallB b.recs = true) {W0 w : World} {K : Know} {L : List Res} (hk : K.has (Know.recs (.slice q l.length cap) l)) (h : St W0 w K L) :
  Calls Try.prog 15 #[.agg #[.int .i64 b.base, .int .i64 b.leader, .bool b.app, .bool b.txn, .bool b.ctl, .int .i64 b.last, .int .i64 b.first, .int .i64 b.maxt, .int .i64 b.prod, .int .i64 b.epoch, .int .i64 b.seq, .slice q l.length cap]] w fun en w' => en = .returned (.tuple #[.string ⟨#[]⟩, .int .i64 e]) ∧ St W0 w' K L := by
 rw [← hl] at hs
 exact bat_encode_bad b.base b.leader b.app b.txn b.ctl b.last b.first b.maxt b.prod b.epoch b.seq l q cap e (by rw [hl]; exact he) h0 (by have := hR.2.2.2.1.2; omega) (FitW.fit hf hs) (by have := smallB_len hs; omega) hk h
theorem enc_ok_b (b : BatS) (l : List (RecS × Value)) (q : Option Addr) (cap : Nat) (hl : l.map (·.1) = b.recs) (s : Bs) (hs : b.enc = s) (so : SmallOk b) {W0 w : World} {K : Know} {L : List Res} (hk : K.has (Know.recs (.slice q l.length cap) l)) (h : St W0 w K L) :
  Calls Try.prog 15 #[.agg #[.int .i64 b.base, .int .i64 b.leader, .bool b.app, .bool b.txn, .bool b.ctl, .int .i64 b.last, .int .i64 b.first, .int .i64 b.maxt, .int .i64 b.prod, .int .i64 b.epoch, .int .i64 b.seq, .slice q l.length cap]] w fun en w' => en = .returned (.tuple #[.string (bb s), .int .i64 0]) ∧ St W0 w' K L := by
 subst hs
 exact bat_encode_enc b l q cap hl so hk h
set_option maxHeartbeats 4000000 in
set_option maxRecDepth 100000 in
theorem tal_point_ok (b : BatS) (l : List (RecS × Value)) (q : Option Addr) (cap : Nat) (hl : l.map (·.1) = b.recs) (so : SmallOk b) {W0 w : World} {K : Know} {L : List Res} (hk : K.has (Know.recs (.slice q l.length cap) l)) (h : St W0 w K L) :
  Calls Try.prog 27 #[.agg #[.int .i64 b.base, .int .i64 b.leader, .bool b.app, .bool b.txn, .bool b.ctl, .int .i64 b.last, .int .i64 b.first, .int .i64 b.maxt, .int .i64 b.prod, .int .i64 b.epoch, .int .i64 b.seq, .slice q l.length cap]] w fun en w' => ∃ x y : Nat, en = .returned (.complex .f64 x y) ∧ FI x (ptP b) ∧ FI y (ptQ b) ∧ St W0 w' K L := by
 have H := Lib.hid (h.allocRaw #[.int .i64 b.base, .int .i64 b.leader, .bool b.app, .bool b.txn, .bool b.ctl, .int .i64 b.last, .int .i64 b.first, .int .i64 b.maxt, .int .i64 b.prod, .int .i64 b.epoch, .int .i64 b.seq, .slice q l.length cap] 37)
 have HK := Lib.hid hk
 have HL := Lib.hid hl
 have HSO := Lib.hid so
 obtain ⟨s, hs⟩ : ∃ s, b.enc = s := ⟨_, rfl⟩
 have HS := Lib.hid hs
 have hp : ptP b = (s.length : Int) := by unfold ptP; rw [if_pos so.err, hs]
 have hq : ptQ b = (l.length : Int) := by unfold ptQ; rw [if_pos so.err]; exact recs_len hl
 rw [hp, hq]
 have hw1 : Wh (s.length : Int) := by have := so.elen; rw [hs] at this; unfold Wh; omega
 have hw2 : Wh (l.length : Int) := by have h1 := so.len; have h2 := recs_len hl; unfold Wh; omega
 have F1 := Lib.hid (FI.conv _ hw1)
 have F2 := Lib.hid (FI.conv _ hw2)
 clear h hk hl so hs hp hq hw1 hw2
 go_enter Try.func27, Try.ntmps27
 go_wp2_with (go_at_call 15; (with_reducible refine (enc_ok_b b l q cap HL.out s HS.out HSO.out HK.out H.out).mono ?_); rintro e_ wn ⟨rfl, h⟩; have c11 := h.rawCell 11; simp at c11; replace H := Lib.hid h; clear h)
 go_ret
 exact ⟨_, _, rfl, F1.out, F2.out, H.out.drop⟩
set_option maxHeartbeats 4000000 in
set_option maxRecDepth 100000 in
theorem tal_point_bad (b : BatS) (l : List (RecS × Value)) (q : Option Addr) (cap : Nat) (hl : l.map (·.1) = b.recs) (he : batErr b ≠ 0) (hR : b.R) (hf : FitW l) (hs : smallB b.recs = true) {W0 w : World} {K : Know} {L : List Res} (hk : K.has (Know.recs (.slice q l.length cap) l)) (h : St W0 w K L) :
  Calls Try.prog 27 #[.agg #[.int .i64 b.base, .int .i64 b.leader, .bool b.app, .bool b.txn, .bool b.ctl, .int .i64 b.last, .int .i64 b.first, .int .i64 b.maxt, .int .i64 b.prod, .int .i64 b.epoch, .int .i64 b.seq, .slice q l.length cap]] w fun en w' => ∃ x y : Nat, en = .returned (.complex .f64 x y) ∧ FI x (ptP b) ∧ FI y (ptQ b) ∧ St W0 w' K L := by
 have H := Lib.hid (h.allocRaw #[.int .i64 b.base, .int .i64 b.leader, .bool b.app, .bool b.txn, .bool b.ctl, .int .i64 b.last, .int .i64 b.first, .int .i64 b.maxt, .int .i64 b.prod, .int .i64 b.epoch, .int .i64 b.seq, .slice q l.length cap] 37)
 have HK := Lib.hid hk
 have HL := Lib.hid hl
 have HE0 := Lib.hid he
 have HR := Lib.hid hR
 have HF := Lib.hid hf
 have HS := Lib.hid hs
 obtain ⟨e, hee⟩ : ∃ e, batErr b = e := ⟨_, rfl⟩
 have HE := Lib.hid hee
 have h0 : e ≠ 0 := by rw [← hee]; exact he
 have H0 := Lib.hid h0
 have hp : ptP b = 0 := by unfold ptP; rw [if_neg he]
 have hq : ptQ b = 0 := by unfold ptQ; rw [if_neg he]
 rw [hp, hq]
 have g1 : (e == 0) = false := by rw [beq_eq_false_iff_ne]; exact h0
 have g2 : (e != 0) = true := by simp [bne, g1]
 clear h hk hl he hR hf hs hee h0 hp hq
 go_enter Try.func27, Try.ntmps27
 go_wp2_with (go_at_call 15; (with_reducible refine (enc_bad_b b l q cap HL.out e HE.out H0.out HR.out HF.out HS.out HK.out H.out).mono ?_); rintro e_ wn ⟨rfl, h⟩; replace H := Lib.hid h; clear h)
 go_ret
 exact ⟨_, _, rfl, FI.zero, FI.zero, H.out.drop⟩
theorem tal_point (b : BatS) (l : List (RecS × Value)) (q : Option Addr) (cap : Nat) (hl : l.map (·.1) = b.recs) (hR : b.R) (hf : FitW l) (hs : smallB b.recs = true) {W0 w : World} {K : Know} {L : List Res} (hk : K.has (Know.recs (.slice q l.length cap) l)) (h : St W0 w K L) :
  Calls Try.prog 27 #[.agg #[.int .i64 b.base, .int .i64 b.leader, .bool b.app, .bool b.txn, .bool b.ctl, .int .i64 b.last, .int .i64 b.first, .int .i64 b.maxt, .int .i64 b.prod, .int .i64 b.epoch, .int .i64 b.seq, .slice q l.length cap]] w fun en w' => ∃ x y : Nat, en = .returned (.complex .f64 x y) ∧ FI x (ptP b) ∧ FI y (ptQ b) ∧ St W0 w' K L := by
 by_cases he : batErr b = 0
 · exact tal_point_ok b l q cap hl (SmallOk.of hl.symm hf (by rw [hl]; exact hs) he hR) hk h
 · exact tal_point_bad b l q cap hl he hR hf hs hk h
end Go.Proofs.Ytngojlinfdokpaa

/- A text. -/
namespace Go.Proofs.Ytngojlinfdokpaa
open Go.RowKit

set_option maxHeartbeats 8000000 in
set_option maxRecDepth 100000 in
theorem tal_total (l : List BatR) (q : Option Addr) (cap : Nat) (hs : ∀ x ∈ l, SmB x) (hn : l.length ≤ 8) {W0 w : World} {K : Know} {L : List Res} (hk : K.has (Know.bats (.slice q l.length cap) l)) (h : St W0 w K L) :
  Calls Try.prog 14 #[.slice q l.length cap] w fun en w' => ∃ x y : Nat, en = .returned (.complex .f64 x y) ∧ FI x (sP l) ∧ FI y (sQ l) ∧ St W0 w' K L := by
 have H := Lib.hid h
 have HK := Lib.hid hk
 have HS := Lib.hid hs
 have hni : (l.length : Int) ≤ 8 := by omega
 clear h hk hs
 go_enter Try.func14, Try.ntmps14
 go_wp2
 go_loopw [3, 5, 8] (fun sv _ iv wr => ∃ (k X Y : Nat), k ≤ l.length ∧ iv = .int .i64 k ∧ sv = .complex .f64 X Y ∧ Hid (FI X (sP (l.take k))) ∧ Hid (FI Y (sQ (l.take k))) ∧ St W0 wr K L) (fun _ _ iv _ => l.length - (intOf iv).toNat)
 case atStart => exact ⟨0, 0, 0, Nat.zero_le _, rfl, rfl, Lib.hid FI.zero, Lib.hid FI.zero, H.out⟩
 case round =>
  obtain ⟨k, X, Y, hkl, rfl, rfl, FX, FY, hst⟩ := hrel
  clear H
  have H := Lib.hid hst
  clear hst
  by_cases hlt : k < l.length
  · as_aux_lemma =>
    obtain ⟨b0, off, hqq⟩ := bats_at HK.out H.out (by omega)
    subst hqq
    obtain ⟨x, hx⟩ : ∃ x, l[k] = x := ⟨_, rfl⟩
    have hmem : x ∈ l := hx ▸ List.getElem_mem hlt
    have hxk := bats_recs HK.out hmem
    have hcell := bats_cell HK.out H.out k hlt x hx
    obtain ⟨st1, st2, st3⟩ := sP_step l k hlt x hx
    have hfit := HS.out x hmem
    obtain ⟨b, xl, xq, xcap⟩ := x
    obtain ⟨c0, c1, c2, c3, c4, c5, c6, c7, c8, c9, c10, c11⟩ : wr.cell? ⟨b0, off + k * 12, none⟩ = some (.int .i64 b.base) ∧ wr.cell? ⟨b0, off + k * 12 + 1, none⟩ = some (.int .i64 b.leader) ∧ wr.cell? ⟨b0, off + k * 12 + 2, none⟩ = some (.bool b.app) ∧ wr.cell? ⟨b0, off + k * 12 + 3, none⟩ = some (.bool b.txn) ∧ wr.cell? ⟨b0, off + k * 12 + 4, none⟩ = some (.bool b.ctl) ∧ wr.cell? ⟨b0, off + k * 12 + 5, none⟩ = some (.int .i64 b.last) ∧ wr.cell? ⟨b0, off + k * 12 + 6, none⟩ = some (.int .i64 b.first) ∧ wr.cell? ⟨b0, off + k * 12 + 7, none⟩ = some (.int .i64 b.maxt) ∧ wr.cell? ⟨b0, off + k * 12 + 8, none⟩ = some (.int .i64 b.prod) ∧ wr.cell? ⟨b0, off + k * 12 + 9, none⟩ = some (.int .i64 b.epoch) ∧ wr.cell? ⟨b0, off + k * 12 + 10, none⟩ = some (.int .i64 b.seq) ∧ wr.cell? ⟨b0, off + k * 12 + 11, none⟩ = some (.slice xq xl.length xcap) := hcell
    have HXK := Lib.hid (show K.has (Know.recs (.slice xq xl.length xcap) xl) from hxk)
    have hkn : (k : Int) < (l.length : Int) := by omega
    obtain ⟨tb, htb⟩ : ∃ b, wr.heap.size = b := ⟨_, rfl⟩
    have h := H.out.allocRaw #[.int .i64 b.base, .int .i64 b.leader, .bool b.app, .bool b.txn, .bool b.ctl, .int .i64 b.last, .int .i64 b.first, .int .i64 b.maxt, .int .i64 b.prod, .int .i64 b.epoch, .int .i64 b.seq, .slice xq xl.length xcap] 37
    rw [htb] at h
    have d0 := h.rawCell 0; have d1 := h.rawCell 1; have d2 := h.rawCell 2; have d3 := h.rawCell 3; have d4 := h.rawCell 4; have d5 := h.rawCell 5; have d6 := h.rawCell 6; have d7 := h.rawCell 7; have d8 := h.rawCell 8; have d9 := h.rawCell 9; have d10 := h.rawCell 10; have d11 := h.rawCell 11; simp at d0 d1 d2 d3 d4 d5 d6 d7 d8 d9 d10 d11
    clear H
    have H := Lib.hid h
    have HRR := Lib.hid (show b.R from hfit.1.1)
    have HFW := Lib.hid (show FitW xl from hfit.1.2.1)
    have HXL := Lib.hid (show xl.map (·.1) = b.recs from hfit.1.2.2)
    have HSM := Lib.hid (show smallB b.recs = true by have h1 : smallB (xl.map (·.1)) = true := hfit.2; rw [HXL.out] at h1; exact h1)
    have hrg := sP_rng (l.take (k + 1)) (fun y hy => HS.out y (List.mem_of_mem_take hy))
    have hlen : (l.take (k + 1)).length ≤ 8 := by rw [List.length_take]; omega
    have S1 := Lib.hid st1
    have S2 := Lib.hid st2
    have WX := Lib.hid (show Wh (sP (l.take k) + ptP b) by have h1 : sP (l.take (k + 1)) = sP (l.take k) + ptP b := st1; rw [← h1]; unfold Wh; omega)
    have WY := Lib.hid (show Wh (sQ (l.take k) + ptQ b) by have h1 : sQ (l.take (k + 1)) = sQ (l.take k) + ptQ b := st2; rw [← h1]; unfold Wh; omega)
    clear h hx hmem hxk st1 st2 st3 hfit hrg hlen
    go_wp2_with (go_at_call 27; (with_reducible refine (tal_point b xl xq xcap HXL.out HRR.out HFW.out HSM.out HXK.out H.out).mono ?_); rintro e_ wn ⟨x2, y2, rfl, hx2, hy2, h⟩; obtain ⟨x3, ex, fx⟩ := FI.add FX.out hx2 WX.out; obtain ⟨y3, ey, fy⟩ := FI.add FY.out hy2 WY.out; have hadd := run_cadd 45 ex ey; have FX3 := Lib.hid fx; have FY3 := Lib.hid fy; clear ex ey fx fy hx2 hy2; replace H := Lib.hid h; clear h)
    go_roundw
    case rel => exact ⟨k + 1, x3, y3, hlt, by go_num, rfl, Lib.hid (by rw [S1.out]; exact FX3.out), Lib.hid (by rw [S2.out]; exact FY3.out), H.out.drop⟩
    case measure => first | (simp [intOf]; done) | (simp [intOf]; omega)
  · obtain rfl : k = l.length := by omega
    have e := List.take_length (l := l)
    have h1 := FX.out
    have h2 := FY.out
    rw [e] at h1 h2
    have FX2 := Lib.hid h1
    have FY2 := Lib.hid h2
    clear h1 h2 e
    go_wp2
    go_ret
    exact ⟨X, Y, rfl, FX2.out, FY2.out, H.out⟩

end Go.Proofs.Ytngojlinfdokpaa

/- A text. -/
namespace Go.Proofs.Ytngojlinfdokpaa
open Go.RowKit

theorem cut_at (l : List BatR) (kk : Nat) (hk : kk ≤ (encB l).length) : ∃ n, n ≤ l.length ∧ (encB (l.take n)).length ≤ kk ∧ (n < l.length → kk < (encB (l.take (n + 1))).length) := by
 have key : ∀ m, m ≤ l.length → (∃ n, n ≤ l.length ∧ (encB (l.take n)).length ≤ kk ∧ (n < l.length → kk < (encB (l.take (n + 1))).length)) ∨ (encB (l.take m)).length ≤ kk := by
  intro m
  induction m with
  | zero => intro _; exact .inr (Nat.zero_le _)
  | succ m ih =>
   intro hm
   rcases ih (by omega) with h | h
   · exact .inl h
   · by_cases c : (encB (l.take (m + 1))).length ≤ kk
     · exact .inr c
     · exact .inl ⟨m, by omega, h, fun _ => by omega⟩
 rcases key l.length (Nat.le_refl _) with h | h
 · exact h
 · exact ⟨l.length, Nat.le_refl _, h, fun h => absurd h (Nat.lt_irrefl _)⟩
theorem map_small {A B : List BatR} (h : A.map BatR.b = B.map BatR.b) (hA : ∀ x ∈ A, LiteR x) (hB : ∀ x ∈ B, SmallOk x.b ∧ smallB x.b.recs = true) : ∀ x ∈ A, SmB x := by
 intro x hx
 have hm : x.b ∈ B.map BatR.b := h ▸ List.mem_map_of_mem hx
 obtain ⟨y, hy, he⟩ := List.mem_map.1 hm
 obtain ⟨so, sm⟩ := hB y hy
 rw [he] at so sm
 have hl := (hA x hx).1
 refine ⟨⟨so.rng, fun r hr => ?_, hl⟩, by rw [hl]; exact sm⟩
 have hr2 : r.1 ∈ x.b.recs := hl ▸ List.mem_map_of_mem hr
 have hf := so.fit r.1 hr2
 have h1 := sum_hdrs (x := r.1) (by have := hf.2.2; omega)
 have h2 : r.1.key.data.length + r.1.val.data.length + hsum r.1.hdrs ≤ 1000 := hf.2.2
 refine ⟨hf.1, by omega, fun y hy => ?_, by omega, by omega⟩
 have h3 := (hsum_le r.1.hdrs).2.2 y hy
 omega
theorem sP_len : ∀ (l : List BatR), (∀ x ∈ l, batErr x.b = 0) → sP l = ((encB l).length : Nat)
  | [], _ => rfl
  | x :: t, h => by
    have h1 := sP_len t (fun y hy => h y (List.mem_cons_of_mem _ hy))
    have e1 : sP (x :: t) = ptP x.b + sP t := by unfold sP; rw [List.map_cons, List.sum_cons]
    have e2 : ptP x.b = (x.b.enc.length : Int) := if_pos (h x List.mem_cons_self)
    rw [e1, h1, e2, encB_cons, List.length_append]
    omega
theorem sP_map {A B : List BatR} (h : A.map BatR.b = B.map BatR.b) : sP A = sP B := by
 have e : ∀ l : List BatR, sP l = ((l.map BatR.b).map ptP).sum := fun l => by unfold sP; rw [List.map_map]; rfl
 rw [e, e, h]

end Go.Proofs.Ytngojlinfdokpaa

/- A text. -/
namespace Go.Proofs.Ytngojlinfdokpaa
open Go.RowKit

set_option maxHeartbeats 8000000 in
set_option maxRecDepth 100000 in
theorem wt_l1 (l : List BatR) (q : Option Addr) (cap : Nat) (ns : List Int) (q2 : Option Addr) (cap2 : Nat) (e : Int) (hl : 6 < l.length) {W0 w : World} {K : Know} (hk : K.has (Know.bats (.slice q l.length cap) l)) (hk2 : K.has (Know.flat RU8 (.slice q2 ns.length cap2) 1 ns)) (h : St W0 w K []) :
  Calls Try.prog 4 #[.slice q l.length cap, .slice q2 ns.length cap2, .int .u16 e] w fun en w' => en = .returned (.bool true) ∧ Below W0.heap.size W0 w' := by
 have H := Lib.hid h
 have HK := Lib.hid hk
 have HN := Lib.hid hk2
 have c1 : (6 : Int) < (l.length : Int) := by omega
 clear h hk hk2 hl
 go_enter Try.func4, Try.ntmps4
 go_wp2_with (go_at_call 10; (with_reducible refine (top_none H.out).mono ?_); rintro e_ wn ⟨sN, rfl, h⟩; have h := h.alloc (.cells #[.int .i64 0, .int .i64 0, .bool false, .bool false, .bool false, .int .i64 0, .int .i64 0, .int .i64 0, .int .i64 (-1), .int .i64 (-1), .int .i64 (-1), .slice none 0 0] 37 (0, 0)); replace H := Lib.hid h; clear h)
 go_ret
 exact ⟨rfl, H.out.below⟩

set_option maxHeartbeats 8000000 in
set_option maxRecDepth 100000 in
theorem wt_l2 (l : List BatR) (q : Option Addr) (cap : Nat) (ns : List Int) (q2 : Option Addr) (cap2 : Nat) (e : Int) (hl1 : ¬ 6 < l.length) (hl : 200 < ns.length) {W0 w : World} {K : Know} (hk : K.has (Know.bats (.slice q l.length cap) l)) (hk2 : K.has (Know.flat RU8 (.slice q2 ns.length cap2) 1 ns)) (h : St W0 w K []) :
  Calls Try.prog 4 #[.slice q l.length cap, .slice q2 ns.length cap2, .int .u16 e] w fun en w' => en = .returned (.bool true) ∧ Below W0.heap.size W0 w' := by
 have H := Lib.hid h
 have HK := Lib.hid hk
 have HN := Lib.hid hk2
 have c1 : ¬ (6 : Int) < (l.length : Int) := by omega
 have c2 : (200 : Int) < (ns.length : Int) := by omega
 clear h hk hk2 hl
 go_enter Try.func4, Try.ntmps4
 go_wp2_with (go_at_call 10; (with_reducible refine (top_none H.out).mono ?_); rintro e_ wn ⟨sN, rfl, h⟩; have h := h.alloc (.cells #[.int .i64 0, .int .i64 0, .bool false, .bool false, .bool false, .int .i64 0, .int .i64 0, .int .i64 0, .int .i64 (-1), .int .i64 (-1), .int .i64 (-1), .slice none 0 0] 37 (0, 0)); replace H := Lib.hid h; clear h)
 go_ret
 exact ⟨rfl, H.out.below⟩

end Go.Proofs.Ytngojlinfdokpaa

/- A text. -/
namespace Go.Proofs.Ytngojlinfdokpaa
open Go.RowKit

theorem allB_bad {l : List BatR} {s : Bs} {e : Int} (h : allB l = (s, e)) (h0 : errB l ≠ 0) : s = [] ∧ e = errB l := by unfold allB at h; rw [if_neg h0] at h; cases h; exact ⟨rfl, rfl⟩
theorem allB_ok {l : List BatR} {s : Bs} {e : Int} (h : allB l = (s, e)) (h0 : errB l = 0) : s = encB l ∧ e = 0 := by unfold allB at h; rw [if_pos h0] at h; cases h; exact ⟨rfl, rfl⟩
set_option maxHeartbeats 2000000 in
set_option maxRecDepth 100000 in
theorem bat_all (l : List BatR) (q : Option Addr) (cap : Nat) (s : Bs) (e : Int) (hse : allB l = (s, e)) (hf : ∀ x ∈ l, x.Fit) (hsm : ∀ x ∈ l, smallB (x.l.map (·.1)) = true) (hll : l.length ≤ 20) {W0 w : World} {K : Know} {L : List Res} (hk : K.has (Know.bats (.slice q l.length cap) l)) (h : St W0 w K L) :
  Calls Try.prog 8 #[.slice q l.length cap] w fun en w' => en = .returned (.tuple #[.string (bb s), .int .i64 e]) ∧ St W0 w' K L := by
 have g1 := h.allocOut
 obtain ⟨po, hpo⟩ : ∃ b, w.heap.size = b := ⟨_, rfl⟩
 rw [hpo] at g1
 have H := Lib.hid g1
 have HK := Lib.hid hk
 have HFT := Lib.hid hf
 have HSMA := Lib.hid hsm
 have HLL := Lib.hid hll
 have HSE := Lib.hid hse
 clear h g1 hk hf hsm hll hse
 go_enter Try.func8, Try.ntmps8
 go_wp2
 go_loopw [6, 7, 8, 11] (fun _ _ _ iv wr => ∃ k : Nat, k ≤ l.length ∧ iv = .int .i64 k ∧ errB (l.take k) = 0 ∧ St W0 wr K (.out po ⟨encB (l.take k), 0⟩ :: L)) (fun _ _ _ iv _ => l.length - (intOf iv).toNat)
 case atStart => exact ⟨0, Nat.zero_le _, rfl, rfl, H.out⟩
 case round =>
  obtain ⟨k, hkl, rfl, her, hst⟩ := hrel
  clear H
  have H := Lib.hid hst
  have HER := Lib.hid her
  clear hst her
  by_cases hlt : k < l.length
  · have hl20 : (l.length : Int) ≤ 20 := by have := HLL.out; omega
    have hstep := errB_step l k hlt HER.out
    have hat := errB_at l k hlt HER.out
    have het := encB_take l k hlt
    obtain ⟨b, off, hqq⟩ := bats_at HK.out H.out (by omega)
    subst hqq
    obtain ⟨x, hx⟩ : ∃ x, l[k] = x := ⟨_, rfl⟩
    have cc := bats_cell HK.out H.out k hlt x hx
    have hmem : x ∈ l := hx ▸ List.getElem_mem hlt
    have XF := Lib.hid (HFT.out x hmem)
    have XR2 := Lib.hid XF.out.2.1
    have XR3 := Lib.hid XF.out.2.2
    have XK := Lib.hid (bats_recs HK.out hmem)
    obtain ⟨c0, c1, c2, c3, c4, c5, c6, c7, c8, c9, c10, c11⟩ := cc
    obtain ⟨wE, hwE⟩ : ∃ b, wr.heap.size = b := ⟨_, rfl⟩
    have hki : (k : Int) < (l.length : Int) := by omega
    have h := H.out.allocRaw #[.int .i64 x.b.base, .int .i64 x.b.leader, .bool x.b.app, .bool x.b.txn, .bool x.b.ctl, .int .i64 x.b.last, .int .i64 x.b.first, .int .i64 x.b.maxt, .int .i64 x.b.prod, .int .i64 x.b.epoch, .int .i64 x.b.seq, .slice x.q x.l.length x.cap] 37
    rw [hwE] at h
    clear H
    have H := Lib.hid h
    clear h
    rw [hx] at hstep hat het
    have HSX := Lib.hid (HSMA.out x hmem)
    have HSTEP := Lib.hid hstep
    clear hstep
    obtain ⟨x0, x1, x2, x3, x4, x5, x6, x7, x8, x9, x10, x11, y0, y1, y2, y3, y4, y5, y6, y7, y8, y9, y10, y11⟩ := raw12 (b := wE) (H.out)
    by_cases he : batErr x.b = 0
    · have HSO := Lib.hid (BatR.small XF.out HSX.out he)
      obtain ⟨s0, hs0⟩ : ∃ s, x.b.enc = s := ⟨_, rfl⟩
      have HS := Lib.hid hs0
      rw [hs0] at het
      have OK := Lib.hid (show (⟨encB (l.take k), 0⟩ : OutS).ok s0.length by
       have h1 := encB_le (l.take k) (fun y hy => (BatR.small (HFT.out y (List.mem_of_mem_take hy)) (HSMA.out y (List.mem_of_mem_take hy)) (errB_mem _ HER.out y hy)).elen)
       have h2 := HLL.out
       have h3 := HSO.out.elen
       rw [HS.out] at h3
       rw [List.length_take] at h1
       unfold OutS.ok
       simp only
       omega)
      have EP := Lib.hid (show (⟨encB (l.take k), 0⟩ : OutS).put s0 = ⟨encB (l.take (k + 1)), 0⟩ by rw [het]; rfl)
      have NE := Lib.hid (show errB (l.take (k + 1)) = 0 by rw [HSTEP.out]; exact he)
      clear het hat hs0 he hx hmem
      go_wp2_with (first
  | (go_at_call 15; clear x0 y0 x1 y1 x2 y2 x3 y3 x4 y4 x5 y5 x6 y6 x7 y7 x8 y8 x9 y9 x10 y10 x11 y11; (with_reducible refine (bat_encode_encE x.b s0 HS.out x.l _ _ XR3.out HSO.out XK.out H.out).mono ?_); rintro e_ wn ⟨rfl, h⟩; replace H := Lib.hid h; clear h; obtain ⟨x0, x1, x2, x3, x4, x5, x6, x7, x8, x9, x10, x11, y0, y1, y2, y3, y4, y5, y6, y7, y8, y9, y10, y11⟩ := raw12 (b := wE) (H.out))
  | (go_at_call 19; (with_reducible refine (so_put po _ _ H.out.p1 OK.out).mono ?_); rw [EP.out]; rintro e_ wn ⟨rfl, h⟩; replace H := Lib.hid h; clear h))
      go_roundw
      case rel => exact ⟨k + 1, hlt, by go_num, NE.out, H.out.p1.drop⟩
      case measure => first | (simp [intOf]; done) | (simp [intOf]; omega)
    · have hee := allB_bad HSE.out (by rw [hat he]; exact he)
      rw [hat he] at hee
      obtain ⟨rfl, he0⟩ := hee
      have he2 : batErr x.b = e := he0.symm
      rw [he2] at he
      have HE := Lib.hid (show batErr ⟨x.b.base, x.b.leader, x.b.app, x.b.txn, x.b.ctl, x.b.last, x.b.first, x.b.maxt, x.b.prod, x.b.epoch, x.b.seq, x.l.map (·.1)⟩ = e by rw [XF.out.2.2]; exact he2)
      have H0 := Lib.hid he
      have HMX := Lib.hid (show x.b.first ≤ 9223372036854775807 by have := XF.out.1.2.2.2.1.2; omega)
      have HFB := Lib.hid (FitW.fit XF.out.2.1 HSX.out)
      have HLL3 := Lib.hid (show x.l.length ≤ 1000 by have := smallB_len HSX.out; omega)
      have gz : (e == 0) = false := by rw [beq_eq_false_iff_ne]; exact he
      have gz3 : (e != 0) = true := by simp [bne, gz]
      clear het hat he he0 he2 hx hmem
      go_wp2_with (first
  | (go_at_call 15; clear x0 y0 x1 y1 x2 y2 x3 y3 x4 y4 x5 y5 x6 y6 x7 y7 x8 y8 x9 y9 x10 y10 x11 y11; (with_reducible refine (bat_encode_bad _ _ _ _ _ _ _ _ _ _ _ x.l _ _ e HE.out H0.out HMX.out HFB.out HLL3.out XK.out H.out).mono ?_); rintro e_ wn ⟨rfl, h⟩; replace H := Lib.hid h; clear h; obtain ⟨x0, x1, x2, x3, x4, x5, x6, x7, x8, x9, x10, x11, y0, y1, y2, y3, y4, y5, y6, y7, y8, y9, y10, y11⟩ := raw12 (b := wE) (H.out)))
      go_ret2
      exact ⟨rfl, H.out.drop.drop⟩
  · obtain rfl : k = l.length := by omega
    have her := HER.out
    rw [List.take_length] at her
    obtain ⟨hs, rfl⟩ := allB_ok HSE.out her
    have h := H.out
    rw [List.take_length, ← hs] at h
    clear H her hs
    have H := Lib.hid h
    clear h
    have ET := Lib.hid (show (⟨s, 0⟩ : OutS).text = (s, 0) from rfl)
    go_wp2_with (first
  | (go_at_call 20; (with_reducible refine (so_text po _ H.out).mono ?_); rw [ET.out]; rintro e_ wn ⟨rfl, h⟩; replace H := Lib.hid h; clear h))
    go_ret2
    exact ⟨rfl, H.out.drop⟩

end Go.Proofs.Ytngojlinfdokpaa
