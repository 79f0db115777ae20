/- How many topics are looked at. -/
import Derived.Test.YtombolmicfjjpaaGMarkWrites4
import Derived.Test.YtombolmicfjjpaaGMarkWrites9
import Derived.Deep.RegionHeld3
import Derived.Deep.DeepCutAuto
/- Values: one spelling (pure). -/
namespace Go.Proofs.Ytombolmicfjjpaa
open Go.RowKit

theorem sInt_of_take (s : Bs) (k : Nat) (h : k ≤ s.length) : beBytes (sInt (s.take k)) k = s.take k := by
  have h1 := beBytes_sInt (s.take k)
  rw [List.length_take, Nat.min_eq_left h] at h1
  exact h1
theorem getIntN_one {k : Nat} {s : Bs} {n : Int} {m : Nat} (h : getIntN k s = .ok (n, m)) : m = k ∧ k ≤ s.length ∧ s.take k = beBytes n k := by
  unfold getIntN at h
  by_cases h1 : s.length < k
  · rw [if_pos h1] at h; cases h
  · rw [if_neg h1] at h
    cases h
    exact ⟨rfl, by omega, (sInt_of_take s k (by omega)).symm⟩
theorem cntP_one {each : Nat} {s : Bs} {n k : Nat} (he : 0 < each) (h : cntP each s = .ok (n, k)) : k = 4 ∧ 4 + each * n ≤ s.length ∧ s.take 4 = beBytes n 4 := by
  obtain ⟨h1, h2, h3, _⟩ := cntP_ok he h
  refine ⟨h1, h2, ?_⟩
  rw [h3]
  exact (sInt_of_take s 4 (by omega)).symm
theorem intsB_one : ∀ (n : Nat) (s : Bs), 4 * n ≤ s.length → be4s (intsB n s) = s.take (4 * n)
  | 0, s, _ => rfl
  | n + 1, s, h => by
    have ih := intsB_one n (s.drop 4) (by rw [List.length_drop]; omega)
    show be4s (sInt (s.take 4) :: intsB n (s.drop 4)) = _
    have e : be4s (sInt (s.take 4) :: intsB n (s.drop 4)) = beBytes (sInt (s.take 4)) 4 ++ be4s (intsB n (s.drop 4)) := by
      unfold be4s; rw [List.flatMap_cons]
    rw [e, ih, sInt_of_take s 4 (by omega), show 4 * (n + 1) = 4 + 4 * n by omega, List.take_add]
theorem partsP_one {s : Bs} {l : List Int} {k : Nat} (h : partsP s = .ok (l, k)) : k ≤ s.length ∧ s.take k = beBytes l.length 4 ++ be4s l := by
  unfold partsP at h
  cases h1 : cntP 4 s with
  | error e => rw [h1] at h; cases h
  | ok x =>
    rw [h1] at h
    cases h
    obtain ⟨c1, c2, c3⟩ := cntP_one (n := x.1) (k := x.2) (by decide) h1
    refine ⟨by omega, ?_⟩
    rw [intsB_len, intsB_one x.1 (s.drop 4) (by rw [List.length_drop]; omega), List.take_add, c3]
theorem textP_one {s : Bs} {d : Bs} {k : Nat} (h : textP s = .ok (d, k)) : k ≤ s.length ∧ s.take k = encF 2 ⟨false, d⟩ := by
  unfold textP at h
  cases h1 : refixed 2 s with
  | error e => rw [h1] at h; cases h
  | ok x =>
    rw [h1] at h
    simp only at h
    by_cases hn : x.1.null = true
    · rw [if_pos hn] at h; cases h
    · rw [if_neg hn] at h
      cases h
      unfold refixed at h1
      by_cases h2 : s.length < 2
      · rw [if_pos h2] at h1; cases h1
      rw [if_neg h2] at h1
      unfold gotS at h1
      by_cases h3 : sInt (s.take 2) = -1
      · rw [if_pos h3] at h1; cases h1; exact absurd rfl hn
      rw [if_neg h3] at h1
      by_cases h4 : sInt (s.take 2) < 0
      · rw [if_pos h4] at h1; cases h1
      rw [if_neg h4] at h1
      by_cases h5 : (s.length : Int) - (2 : Nat) < sInt (s.take 2)
      · rw [if_pos h5] at h1; cases h1
      rw [if_neg h5] at h1
      cases h1
      simp only
      have hl : ((s.drop 2).take (sInt (s.take 2)).toNat).length = (sInt (s.take 2)).toNat := by
        rw [List.length_take, List.length_drop]; omega
      refine ⟨by omega, ?_⟩
      unfold encF
      have hL : (⟨false, (s.drop 2).take (sInt (s.take 2)).toNat⟩ : BlobS).len = sInt (s.take 2) := by
        show (((s.drop 2).take (sInt (s.take 2)).toNat).length : Int) = _
        rw [hl]; omega
      rw [hL, sInt_of_take s 2 (by omega), List.take_add]
theorem topP_one {s : Bs} {t : TopS} {k : Nat} (h : topP s = .ok (t, k)) : k ≤ s.length ∧ s.take k = encT t := by
  unfold topP at h
  cases h1 : textP s with
  | error e => rw [h1] at h; cases h
  | ok x =>
    rw [h1] at h
    simp only at h
    cases h2 : partsP (s.drop x.2) with
    | error e => rw [h2] at h; cases h
    | ok y =>
      rw [h2] at h
      cases h
      obtain ⟨a1, a2⟩ := textP_one (d := x.1) (k := x.2) h1
      obtain ⟨b1, b2⟩ := partsP_one (l := y.1) (k := y.2) h2
      rw [List.length_drop] at b1
      refine ⟨by omega, ?_⟩
      unfold encT
      rw [List.take_add, a2, b2]
theorem topN_one : ∀ (n : Nat) (s : Bs) (l : List TopS) (k : Nat), topN n s = .ok (l, k) → l.length = n ∧ k ≤ s.length ∧ s.take k = l.flatMap encT
  | 0, s, l, k, h => by cases h; exact ⟨rfl, Nat.zero_le _, rfl⟩
  | n + 1, s, l, k, h => by
    unfold topN at h
    cases h1 : topP s with
    | error e => rw [h1] at h; cases h
    | ok x =>
      rw [h1] at h
      simp only at h
      cases h2 : topN n (s.drop x.2) with
      | error e => rw [h2] at h; cases h
      | ok y =>
        rw [h2] at h
        cases h
        obtain ⟨a1, a2⟩ := topP_one (t := x.1) (k := x.2) h1
        obtain ⟨b0, b1, b2⟩ := topN_one n (s.drop x.2) y.1 y.2 h2
        rw [List.length_drop] at b1
        refine ⟨by rw [List.length_cons, b0], by omega, ?_⟩
        rw [List.take_add, a2, b2, List.flatMap_cons]
theorem topsP_one {s : Bs} {l : List TopS} {k : Nat} (h : topsP s = .ok (l, k)) : k ≤ s.length ∧ s.take k = encTs l := by
  unfold topsP at h
  cases h1 : cntP 6 s with
  | error e => rw [h1] at h; cases h
  | ok x =>
    rw [h1] at h
    simp only at h
    cases h2 : topN x.1 (s.drop 4) with
    | error e => rw [h2] at h; cases h
    | ok y =>
      rw [h2] at h
      cases h
      obtain ⟨c1, c2, c3⟩ := cntP_one (n := x.1) (k := x.2) (by decide) h1
      obtain ⟨b0, b1, b2⟩ := topN_one _ _ y.1 y.2 h2
      rw [List.length_drop] at b1
      refine ⟨by omega, ?_⟩
      unfold encTs
      rw [List.take_add, c3, b2, b0]
/-- A read that went well, and what stood ahead of it. -/
theorem Rds.inv {α : Type} {f : InS → α × InS} {p : Bs → Except Int (α × Nat)} {d : α} (h : Rds f p d) {i j : InS} {a : α} (hf : f i = (a, j)) (he : j.err = 0) (hp : i.pos ≤ i.s.length) : i.err = 0 ∧ ∃ k, p (i.s.drop i.pos) = .ok (a, k) ∧ j = ⟨i.s, i.pos + k, 0⟩ ∧ i.pos + k ≤ i.s.length := by
  by_cases h0 : i.err = 0
  · refine ⟨h0, ?_⟩
    obtain ⟨s, pos, er⟩ := i
    simp only at h0 hp ⊢
    subst h0
    cases hq : p (s.drop pos) with
    | error e =>
      obtain ⟨e0, q, _, g⟩ := h.err s pos e hp hq
      rw [g] at hf
      cases hf
      exact absurd he e0
    | ok x =>
      obtain ⟨g1, g2⟩ := h.ok s pos x.1 x.2 hp hq
      rw [g2] at hf
      cases hf
      exact ⟨x.2, rfl, rfl, g1⟩
  · exfalso
    rw [h.stuck i h0] at hf
    cases hf
    exact h0 he
theorem int_inv {i j : InS} {n : Int} (k : Nat) (h1 : 1 ≤ k) (h8 : k ≤ 8) (hf : i.int k = (n, j)) (he : j.err = 0) (hp : i.pos ≤ i.s.length) : i.err = 0 ∧ j = ⟨i.s, i.pos + k, 0⟩ ∧ i.pos + k ≤ i.s.length ∧ i.s.take (i.pos + k) = i.s.take i.pos ++ beBytes n k := by
  obtain ⟨a, m, b, c, d⟩ := (rds_intN k h1 h8).inv hf he hp
  obtain ⟨e1, e2, e3⟩ := getIntN_one b
  subst e1
  exact ⟨a, c, d, by rw [List.take_add, e3]⟩
theorem tops_inv {i j : InS} {l : List TopS} (hf : i.tops = (l, j)) (he : j.err = 0) (hp : i.pos ≤ i.s.length) : i.err = 0 ∧ ∃ k, j = ⟨i.s, i.pos + k, 0⟩ ∧ i.pos + k ≤ i.s.length ∧ i.s.take (i.pos + k) = i.s.take i.pos ++ encTs l := by
  obtain ⟨a, m, b, c, d⟩ := rds_tops.inv hf he hp
  exact ⟨a, m, c, d, by rw [List.take_add, (topsP_one b).2]⟩

end Go.Proofs.Ytombolmicfjjpaa

/- Requests of transactions, there and back (pure). -/
namespace Go.Proofs.Ytombolmicfjjpaa
open Go.RowKit

theorem was_0 {p e : Int} (h : was 0 p e = true) : p = -1 ∧ e = -1 := by
  unfold was at h
  rw [Bool.or_eq_true, Bool.and_eq_true, Bool.and_eq_true, beq_iff_eq, beq_iff_eq] at h
  rcases h with h | ⟨h1, _⟩
  · exact h
  · simp at h1
theorem encO_len (c : Bool) : (encO c).length = 1 := rfl
theorem encO_by (c : Bool) : encO c = beBytes (if c then 1 else 0) 1 := by cases c <;> rfl
theorem fixed_stepT (S A R : Bs) (nl : Bool) (d : Bs) (h : idOk nl d = true) (hS : S = A ++ encF 2 ⟨nl, d⟩ ++ R) : (⟨S, A.length, 0⟩ : InS).fixed 2 = (⟨nl, d⟩, ⟨S, (A ++ encF 2 ⟨nl, d⟩).length, 0⟩) := by
  obtain ⟨_, h2, h3⟩ := idOk_len h
  exact step_back (rds_fixed 2 (by decide) (by decide)) S A _ R hS ⟨nl, d⟩ _ rfl (refixed_back 2 ⟨nl, d⟩ h2 h3 R)
theorem text_stepT (S A R : Bs) (d : Bs) (h : d.length ≤ 32767) (hS : S = A ++ encF 2 ⟨false, d⟩ ++ R) : (⟨S, A.length, 0⟩ : InS).text = (d, ⟨S, (A ++ encF 2 ⟨false, d⟩).length, 0⟩) :=
  step_back rds_text S A _ R hS d _ rfl (textP_back d h R)
theorem tops_stepT (S A R : Bs) (l : List TopS) (h : FitTs l) (hS : S = A ++ encTs l ++ R) : (⟨S, A.length, 0⟩ : InS).tops = (l, ⟨S, (A ++ encTs l).length, 0⟩) :=
  step_back rds_tops S A _ R hS l _ rfl (topsP_back l h R)
theorem bool_stepT (S A R : Bs) (c : Bool) (hS : S = A ++ encO c ++ R) : (⟨S, A.length, 0⟩ : InS).boolP = (c, ⟨S, (A ++ encO c).length, 0⟩) := by
  have h := int_stepV S A R (if c then 1 else 0) 1 (by decide) (by decide) (vfits1 _ (by cases c <;> decide)) (by rw [← encO_by]; exact hS)
  have h2 : (⟨S, A.length, 0⟩ : InS).int 1 = (if c then 1 else 0, ⟨S, (A ++ encO c).length, 0⟩) := by rw [encO_by]; exact h
  unfold InS.boolP
  rw [h2]
  cases c <;> rfl
theorem back_220 (S : Bs) (nl : Bool) (d : Bs) (tm : Int) (hi : idOk nl d = true) (ht : 0 ≤ tm ∧ tm ≤ 2147483647) (hS : encReq 22 0 nl d tm (-1) (-1) [] false = S) : ∃ i1, (⟨S, 0, 0⟩ : InS).fixed 2 = (⟨nl, d⟩, i1) ∧ i1.int 4 = (tm, ⟨S, S.length, 0⟩) := by
  have hS2 : S = encF 2 ⟨nl, d⟩ ++ beBytes tm 4 := by rw [← hS]; simp [encReq]
  have a := fixed_stepT S [] (beBytes tm 4) nl d hi (by rw [hS2]; rfl)
  have b := int_stepV S (encF 2 ⟨nl, d⟩) [] tm 4 (by decide) (by decide) (vfits4 tm (by omega)) (by rw [hS2, List.append_nil])
  rw [← hS2] at b
  exact ⟨_, a, b⟩
theorem back_221 (S : Bs) (nl : Bool) (d : Bs) (tm p e : Int) (hi : idOk nl d = true) (ht : 0 ≤ tm ∧ tm ≤ 2147483647) (hp : -1 ≤ p ∧ p < 9223372036854775808) (he : -1 ≤ e ∧ e ≤ 32767) (hS : encReq 22 1 nl d tm p e [] false = S) : ∃ i1 i2 i3, (⟨S, 0, 0⟩ : InS).fixed 2 = (⟨nl, d⟩, i1) ∧ i1.int 4 = (tm, i2) ∧ i2.int 8 = (p, i3) ∧ i3.int 2 = (e, ⟨S, S.length, 0⟩) := by
  have hS2 : S = encF 2 ⟨nl, d⟩ ++ (beBytes tm 4 ++ (beBytes p 8 ++ beBytes e 2)) := by rw [← hS]; simp [encReq, encW]
  have a := fixed_stepT S [] _ nl d hi (by rw [List.nil_append]; exact hS2)
  have b := int_stepV S (encF 2 ⟨nl, d⟩) (beBytes p 8 ++ beBytes e 2) tm 4 (by decide) (by decide) (vfits4 tm (by omega)) (by rw [hS2]; simp only [List.append_assoc])
  have c := int_stepV S (encF 2 ⟨nl, d⟩ ++ beBytes tm 4) (beBytes e 2) p 8 (by decide) (by decide) (vfits8 p (by omega)) (by rw [hS2]; simp only [List.append_assoc])
  have f := int_stepV S (encF 2 ⟨nl, d⟩ ++ beBytes tm 4 ++ beBytes p 8) [] e 2 (by decide) (by decide) (vfits2 e (by omega)) (by rw [hS2]; simp only [List.append_assoc, List.append_nil])
  rw [show encF 2 ⟨nl, d⟩ ++ beBytes tm 4 ++ beBytes p 8 ++ beBytes e 2 = S by rw [hS2]; simp only [List.append_assoc]] at f
  exact ⟨_, _, _, a, b, c, f⟩
theorem back_24 (S : Bs) (v : Int) (d : Bs) (p e : Int) (l : List TopS) (hd : d.length ≤ 32767) (hp : 0 ≤ p ∧ p < 9223372036854775808) (he : 0 ≤ e ∧ e ≤ 32767) (hf : FitTs l) (hS : encReq 24 v false d 0 p e l false = S) : ∃ i1 i2 i3, (⟨S, 0, 0⟩ : InS).text = (d, i1) ∧ i1.int 8 = (p, i2) ∧ i2.int 2 = (e, i3) ∧ i3.tops = (l, ⟨S, S.length, 0⟩) := by
  have hS2 : S = encF 2 ⟨false, d⟩ ++ (beBytes p 8 ++ (beBytes e 2 ++ encTs l)) := by rw [← hS]; simp [encReq, encW]
  have a := text_stepT S [] _ d hd (by rw [List.nil_append]; exact hS2)
  have b := int_stepV S (encF 2 ⟨false, d⟩) (beBytes e 2 ++ encTs l) p 8 (by decide) (by decide) (vfits8 p (by omega)) (by rw [hS2]; simp only [List.append_assoc])
  have c := int_stepV S (encF 2 ⟨false, d⟩ ++ beBytes p 8) (encTs l) e 2 (by decide) (by decide) (vfits2 e (by omega)) (by rw [hS2]; simp only [List.append_assoc])
  have f := tops_stepT S (encF 2 ⟨false, d⟩ ++ beBytes p 8 ++ beBytes e 2) [] l hf (by rw [hS2]; simp only [List.append_assoc, List.append_nil])
  rw [show encF 2 ⟨false, d⟩ ++ beBytes p 8 ++ beBytes e 2 ++ encTs l = S by rw [hS2]; simp only [List.append_assoc]] at f
  exact ⟨_, _, _, a, b, c, f⟩
theorem back_26 (S : Bs) (v : Int) (d : Bs) (p e : Int) (c : Bool) (hd : d.length ≤ 32767) (hp : 0 ≤ p ∧ p < 9223372036854775808) (he : 0 ≤ e ∧ e ≤ 32767) (hS : encReq 26 v false d 0 p e [] c = S) : ∃ i1 i2 i3, (⟨S, 0, 0⟩ : InS).text = (d, i1) ∧ i1.int 8 = (p, i2) ∧ i2.int 2 = (e, i3) ∧ i3.boolP = (c, ⟨S, S.length, 0⟩) := by
  have hS2 : S = encF 2 ⟨false, d⟩ ++ (beBytes p 8 ++ (beBytes e 2 ++ encO c)) := by rw [← hS]; simp [encReq, encW]
  have a := text_stepT S [] _ d hd (by rw [List.nil_append]; exact hS2)
  have b := int_stepV S (encF 2 ⟨false, d⟩) (beBytes e 2 ++ encO c) p 8 (by decide) (by decide) (vfits8 p (by omega)) (by rw [hS2]; simp only [List.append_assoc])
  have f := int_stepV S (encF 2 ⟨false, d⟩ ++ beBytes p 8) (encO c) e 2 (by decide) (by decide) (vfits2 e (by omega)) (by rw [hS2]; simp only [List.append_assoc])
  have g := bool_stepT S (encF 2 ⟨false, d⟩ ++ beBytes p 8 ++ beBytes e 2) [] c (by rw [hS2]; simp only [List.append_assoc, List.append_nil])
  rw [show encF 2 ⟨false, d⟩ ++ beBytes p 8 ++ beBytes e 2 ++ encO c = S by rw [hS2]; simp only [List.append_assoc]] at g
  exact ⟨_, _, _, a, b, f, g⟩
theorem err_endT (s : Bs) : (⟨s, s.length, 0⟩ : InS).err = 0 := rfl
theorem close_endT (s : Bs) : (⟨s, s.length, 0⟩ : InS).close.err = 0 := by
  unfold InS.close
  rw [if_neg (show ¬ 0 < InS.left ⟨s, s.length, 0⟩ by unfold InS.left; simp only; omega)]
theorem encReq_len (k v : Int) (nl : Bool) (d : Bs) (tm p e : Int) (l : List TopS) (c : Bool) (hl : topWs l ≤ 1000) (hd : d.length ≤ 32767) : (encReq k v nl d tm p e l c).length ≤ 100000 := by
  have h1 : (encF 2 ⟨nl, d⟩).length = 2 + d.length := by unfold encF; rw [List.length_append, beBytes_length]
  have h2 : (encW p e).length = 10 := by unfold encW; rw [List.length_append, beBytes_length, beBytes_length]
  have h3 : (encTs l).length = 4 + topWs l := by unfold encTs; rw [List.length_append, beBytes_length, flat_topWs]
  have h4 : (encO c).length = 1 := rfl
  unfold encReq
  rw [List.length_append]
  split
  · rw [List.length_append, beBytes_length]
    split
    · omega
    · simp only [List.length_nil]; omega
  · rw [List.length_append]
    split <;> omega

end Go.Proofs.Ytombolmicfjjpaa

/- Marks, there and back (pure). -/
namespace Go.Proofs.Ytombolmicfjjpaa
open Go.RowKit

theorem mark1_step (S A R : Bs) (v : Int) (m : MarkS) (hv : v = 0 ∨ v = 1) (he : m.err v = 0) (hR : m.R) (hf : FitTs m.tops) (hS : S = A ++ encM v m ++ R) : (⟨S, A.length, 0⟩ : InS).mark1 v = (m, ⟨S, (A ++ encM v m).length, 0⟩) := by
  obtain ⟨p, e, c, tl, co⟩ := m
  obtain ⟨hw, hco, hvc, _⟩ := mErr_ok (show mErr v p e tl co = 0 from he)
  have hwt := who_t hw
  have hp := hR.1
  simp only at hp hf
  unfold encM at hS ⊢
  simp only at hS ⊢
  have a := int_stepV S A (beBytes e 2 ++ encO c ++ encTs tl ++ (if v = 1 then beBytes co (4 : Int).toNat else []) ++ R) p 8 (by decide) (by decide) (vfits8 p (by omega)) (by rw [hS]; simp only [List.append_assoc]; rfl)
  have b := int_stepV S (A ++ beBytes p 8) (encO c ++ encTs tl ++ (if v = 1 then beBytes co (4 : Int).toNat else []) ++ R) e 2 (by decide) (by decide) (vfits2 e (by omega)) (by rw [hS]; simp only [List.append_assoc]; rfl)
  have d := bool_stepT S (A ++ beBytes p 8 ++ beBytes e 2) (encTs tl ++ (if v = 1 then beBytes co (4 : Int).toNat else []) ++ R) c (by rw [hS]; simp only [List.append_assoc]; rfl)
  have f := tops_stepT S (A ++ beBytes p 8 ++ beBytes e 2 ++ encO c) ((if v = 1 then beBytes co (4 : Int).toNat else []) ++ R) tl hf (by rw [hS]; simp only [List.append_assoc]; rfl)
  unfold InS.mark1
  rw [show ((⟨S, A.length, 0⟩ : InS).int 8) = _ from a]
  simp only
  rw [show ((⟨S, (A ++ beBytes p 8).length, 0⟩ : InS).int 2) = _ from b]
  simp only
  rw [d]
  simp only
  rw [f]
  simp only
  rcases hv with rfl | rfl
  · have h0 : co = 0 := by
      by_cases h : co = 0
      · exact h
      · exact absurd ⟨rfl, h⟩ hvc
    subst h0
    rw [if_neg (by decide), if_neg (by decide), List.append_nil]
    simp only [List.append_assoc]
    rfl
  · rw [if_pos rfl, if_pos rfl] at *
    have g := int_stepV S (A ++ beBytes p 8 ++ beBytes e 2 ++ encO c ++ encTs tl) R co 4 (by decide) (by decide) (vfits4 co (by omega)) (by rw [hS]; simp only [List.append_assoc]; rfl)
    rw [show ((⟨S, (A ++ beBytes p 8 ++ beBytes e 2 ++ encO c ++ encTs tl).length, 0⟩ : InS).int 4) = _ from g]
    simp only [List.append_assoc]
    rfl
theorem marksN_back (S : Bs) (v : Int) (hv : v = 0 ∨ v = 1) : ∀ (l : List MarkS) (A R : Bs) (acc : List MarkS), (∀ m ∈ l, m.err v = 0 ∧ m.R ∧ FitTs m.tops) → S = A ++ l.flatMap (encM v) ++ R → InS.marksN v l.length acc ⟨S, A.length, 0⟩ = (acc ++ l, ⟨S, (A ++ l.flatMap (encM v)).length, 0⟩)
  | [], A, R, acc, _, _ => by
    rw [List.flatMap_nil, List.append_nil, List.append_nil]
    rfl
  | m :: t, A, R, acc, h, hS => by
    have hm := h m (by simp)
    have s1 := mark1_step S A (t.flatMap (encM v) ++ R) v m hv hm.1 hm.2.1 hm.2.2 (by rw [hS, List.flatMap_cons]; simp only [List.append_assoc])
    have s2 := marksN_back S v hv t (A ++ encM v m) R (acc ++ [m]) (fun x hx => h x (by simp [hx])) (by rw [hS, List.flatMap_cons]; simp only [List.append_assoc])
    show (if ((⟨S, A.length, 0⟩ : InS).mark1 v).2.err = 0 then InS.marksN v t.length (acc ++ [((⟨S, A.length, 0⟩ : InS).mark1 v).1]) ((⟨S, A.length, 0⟩ : InS).mark1 v).2 else ([], ((⟨S, A.length, 0⟩ : InS).mark1 v).2)) = _
    rw [s1]
    simp only
    rw [if_pos trivial, s2, List.flatMap_cons]
    simp only [List.append_assoc, List.singleton_append]
theorem encM_least (v : Int) (m : MarkS) : 15 ≤ (encM v m).length := by
  have h8 := beBytes_length m.prod (8 : Int).toNat
  have h2 := beBytes_length m.epoch (2 : Int).toNat
  have h4 := beBytes_length (m.tops.length : Int) 4
  have h1 := encO_len m.commit
  unfold encM encTs
  rw [List.length_append, List.length_append, List.length_append, List.length_append, List.length_append, h8, h2, h4, h1]
  show 15 ≤ 8 + 2 + 1 + (4 + _) + _
  omega
theorem encMs_least (v : Int) (l : List MarkS) : 15 * l.length ≤ (l.flatMap (encM v)).length := by
  induction l with
  | nil => simp
  | cons x t ih => have := encM_least v x; rw [List.flatMap_cons, List.length_append, List.length_cons]; omega
theorem marks_back (S : Bs) (v : Int) (l : List MarkS) (hv : v = 0 ∨ v = 1) (hE : marksErr v l = 0) (h : ∀ m ∈ l, m.R ∧ FitTs m.tops) (hn : l.length ≤ 1000000) (hS : encMs v l = S) :
    (⟨S, 0, 0⟩ : InS).cnt 15 = (l.length, ⟨S, 4, 0⟩) ∧ InS.marksN v l.length [] ⟨S, 4, 0⟩ = (l, ⟨S, S.length, 0⟩) ∧ (⟨S, 0, 0⟩ : InS).marks v = (l, ⟨S, S.length, 0⟩) := by
  have hal := (marksErr_ok hE).2
  have hS2 : S = beBytes (l.length : Int) 4 ++ l.flatMap (encM v) := hS.symm
  have h4 := beBytes_length (l.length : Int) 4
  have a : (⟨S, 0, 0⟩ : InS).cnt 15 = (l.length, ⟨S, 4, 0⟩) := by
    have := step_back (rds_cnt 15 (by decide)) S [] (beBytes (l.length : Int) 4) (l.flatMap (encM v)) (by rw [hS2]; rfl) l.length 4 h4 (cntP_back 15 l.length _ (by decide) (by omega) (encMs_least v l))
    rw [List.nil_append, h4] at this
    exact this
  have b : InS.marksN v l.length [] ⟨S, 4, 0⟩ = (l, ⟨S, S.length, 0⟩) := by
    have := marksN_back S v hv l (beBytes (l.length : Int) 4) [] [] (fun m hm => ⟨hal m hm, h m hm⟩) (by rw [List.append_nil]; exact hS2)
    rw [← hS2, h4, List.nil_append] at this
    exact this
  refine ⟨a, b, ?_⟩
  unfold InS.marks
  rw [a]
  simp only
  rw [b]
  simp only
  rw [if_pos trivial, hE, if_pos rfl]

end Go.Proofs.Ytombolmicfjjpaa

/- Topics, written by definition. -/
namespace Go.Proofs.Ytombolmicfjjpaa
open Go.RowKit

theorem preT_le2 (l : List TopS) (h : FitTs l) (k : Nat) (hk : k ≤ l.length) : (preT l k).length ≤ 100000000000000 := by
  have h1 := preT_le l h k hk
  have h2 := h.1
  omega
set_option maxHeartbeats 2000000 in
set_option maxRecDepth 100000 in
theorem ref14_topics (l : List (TopS × Value)) (q : Option Addr) (cap : Nat) (r : Bs) (hr : encTs (l.map (·.1)) = r) (hf : FitTs (l.map (·.1))) {W0 w : World} {K : Know} {L : List Res} (hk : K.has (Know.tops (.slice q l.length cap) l)) (h : St W0 w K L) :
    Calls Try.prog 33 #[.slice q l.length cap] w fun en w' => en = .returned (.string (bb r)) ∧ St W0 w' K L := by
  have H := Lib.hid h
  have HK := Lib.hid hk
  have HR := Lib.hid hr
  have HF := Lib.hid hf
  have hni : (l.length : Int) ≤ 1000000 := by have := hf.1; rw [List.length_map] at this; omega
  have HRN := Lib.hid (show -9223372036854775808 ≤ (l.length : Int) ∧ (l.length : Int) < 9223372036854775808 by omega)
  have HP00 := Lib.hid (show beBytes (l.length : Int) 4 = preT (l.map (·.1)) 0 by rw [preT_zero, List.length_map])
  clear h hk hr hf
  go_enter Try.func33, Try.ntmps33
  go_wp2_with (go_at_call 75; (with_reducible refine (sr_bytesV (l.length : Int) 4 4 rfl (by decide) _ HP00.out HRN.out H.out).mono ?_); rintro e_ wn ⟨rfl, h⟩; replace H := Lib.hid h; clear h)
  go_loopw [3, 4, 5] (fun sv iv _ wr => ∃ k : Nat, k ≤ l.length ∧ iv = .int .i64 k ∧ sv = .string (bb (preT (l.map (·.1)) k)) ∧ St W0 wr K L) (fun _ iv _ _ => l.length - (intOf iv).toNat)
  case atStart => exact ⟨0, Nat.zero_le _, rfl, rfl, H.out⟩
  case round =>
    obtain ⟨k, hkl, rfl, rfl, hst⟩ := hrel
    clear H
    have H := Lib.hid hst
    clear hst
    by_cases hlt : k < l.length
    · as_aux_lemma =>
      obtain ⟨b, off, hqq⟩ := tops_at HK.out H.out (by omega)
      subst hqq
      obtain ⟨⟨⟨nm, ps⟩, vx⟩, hx⟩ : ∃ x, l[k] = x := ⟨_, rfl⟩
      obtain ⟨c0, c1⟩ : wr.cell? ⟨b, off + k * 2, none⟩ = some (.string (bb nm)) ∧ wr.cell? ⟨b, off + k * 2 + 1, none⟩ = some vx := tops_cell HK.out H.out k hlt _ hx
      have hmem : ((⟨nm, ps⟩ : TopS), vx) ∈ l := hx ▸ List.getElem_mem hlt
      have hxk : K.has (Know.flat RI vx 1 ps) := tops_parts HK.out hmem
      obtain ⟨qx, capx, hvx⟩ := flat_form hxk H.out
      subst hvx
      have HXK := Lib.hid hxk
      have hmk : k < (l.map (·.1)).length := by rw [List.length_map]; exact hlt
      have hmg : (l.map (·.1))[k] = ⟨nm, ps⟩ := by rw [List.getElem_map, hx]
      have hfx : (⟨nm, ps⟩ : TopS).Fit := HF.out.2 _ (hmg ▸ List.getElem_mem hmk)
      have HNM := Lib.hid hfx.1
      have HPL := Lib.hid hfx.2.1
      have HPS := Lib.hid hfx.2.2
      have hkn : (k : Int) < (l.length : Int) := by omega
      have hnl : (nm.length : Int) ≤ 32767 := by have := hfx.1; simp only at this; omega
      have hpl : (ps.length : Int) ≤ 1000000 := by have := hfx.2.1; simp only at this; omega
      have hst1 := preT_step (l.map (·.1)) k hmk _ hmg
      have hle1 := preT_le (l.map (·.1)) HF.out (k + 1) hmk
      have hln : (l.map (·.1)).length ≤ 1000000 := HF.out.1
      simp only at hst1
      obtain ⟨B0, hB0⟩ : ∃ B, preT (l.map (·.1)) k = B := ⟨_, rfl⟩
      obtain ⟨F1, hF1⟩ : ∃ B, encF 2 ⟨false, nm⟩ = B := ⟨_, rfl⟩
      obtain ⟨F2, hF2⟩ : ∃ B, beBytes (ps.length : Int) 4 = B := ⟨_, rfl⟩
      obtain ⟨B1, hB1⟩ : ∃ B, B0 ++ F1 = B := ⟨_, rfl⟩
      obtain ⟨B2, hB2⟩ : ∃ B, B1 ++ F2 = B := ⟨_, rfl⟩
      have HB3 := Lib.hid (show preT (l.map (·.1)) (k + 1) = B2 ++ be4s ps by rw [hst1, ← hB2, ← hB1, ← hB0, ← hF1, ← hF2]; simp only [List.append_assoc])
      have hlen : (B2 ++ be4s ps).length ≤ 100000000000000 := by
        rw [← HB3.out]
        exact preT_le2 _ HF.out _ hmk
      have hl0 : B1.length ≤ 100000000000000 ∧ B2.length + 4 * ps.length ≤ 100000000000000 := by
        rw [List.length_append, be4s_len] at hlen
        rw [← hB2, List.length_append] at hlen ⊢
        omega
      have hl1 := congrArg List.length hB1
      have hl2 := congrArg List.length hB2
      rw [List.length_append] at hl1 hl2
      have hcat1 : bb B0 ++ bb F1 = bb B1 := by rw [← hB1]; exact bb_append _ _
      have hcat2 : bb B1 ++ bb F2 = bb B2 := by rw [← hB2]; exact bb_append _ _
      have hg1 : ¬ (9223372036854775807 < B0.length + F1.length) := by omega
      have hg2 : ¬ (9223372036854775807 < B1.length + F2.length) := by omega
      have HF1 := Lib.hid hF1
      have HF2 := Lib.hid hF2
      have HL0 := Lib.hid hl0
      have HRP := Lib.hid (show -9223372036854775808 ≤ (ps.length : Int) ∧ (ps.length : Int) < 9223372036854775808 by omega)
      have hp0 : ps = [] ∨ ∃ pb poff, qx = some ⟨pb, poff, none⟩ := by
        by_cases hps : ps = []
        · exact .inl hps
        · exact .inr (flat_at HXK.out H.out (List.length_pos_iff.2 hps))
      have HP0 := Lib.hid hp0
      have HKP := Lib.hid (show ∀ w', St W0 w' K L → (w'.cell? ⟨b, off + k * 2, none⟩ = some (.string (bb nm)) ∧ w'.cell? ⟨b, off + k * 2 + 1, none⟩ = some (.slice qx ps.length capx)) from fun w' hs => tops_cell HK.out hs k hlt _ hx)
      rw [hB0]
      clear hx hmem hxk hmk hmg hfx hst1 hle1 hln hB0 hB1 hB2 hF1 hF2 hlen hl0 hp0 hl1 hl2
      go_wp2
      have hs := H.out.drew
      refine wp_region_held_drew (S := fun w' => w'.cell? ⟨b, off + k * 2, none⟩ = some (.string (bb nm)) ∧ w'.cell? ⟨b, off + k * 2 + 1, none⟩ = some (.slice qx ps.length capx)) (by kernel_rfl) (HKP.out _ hs) (fun hHeld => ?_)
      refine wpAnyH_take (i := 0) (oi := { dst := some 15, op := Op.move (Operand.tmp 3), type := 9, pos := "ref.go:61", after := #[], guard := none }) (v := ?_) rfl (by kernel_rfl) (by kernel_rfl) (by kernel_rfl) (fun _ _ _ h => h) (Or.inl ⟨by rfl, ?_⟩) (by assumption) ?_
      rotate_left
      · intro w hSw; (try dsimp only at hSw); go_simp; try with_reducible rfl
      simp only [Act.put, List.setIfInBounds_toArray, List.set_cons_zero, List.set_cons_succ]
      refine wpAnyH_take (i := 1) (oi := { dst := some 16, op := Op.move (Operand.tmp 0), type := 22, pos := "ref.go:61", after := #[], guard := none }) (v := ?_) rfl (by kernel_rfl) (by kernel_rfl) (by kernel_rfl) (fun _ _ _ h => h) (Or.inl ⟨by rfl, ?_⟩) (by assumption) ?_
      rotate_left
      · intro w hSw; (try dsimp only at hSw); go_simp; try with_reducible rfl
      simp only [Act.put, List.setIfInBounds_toArray, List.set_cons_zero, List.set_cons_succ]
      refine wpAnyH_take (i := 2) (oi := { dst := some 17, op := Op.move (Operand.tmp 4), type := 3, pos := "ref.go:61", after := #[], guard := none }) (v := ?_) rfl (by kernel_rfl) (by kernel_rfl) (by kernel_rfl) (fun _ _ _ h => h) (Or.inl ⟨by rfl, ?_⟩) (by assumption) ?_
      rotate_left
      · intro w hSw; (try dsimp only at hSw); go_simp; try with_reducible rfl
      simp only [Act.put, List.setIfInBounds_toArray, List.set_cons_zero, List.set_cons_succ]
      refine wpAnyH_take (i := 3) (oi := { dst := some 18, op := Op.indexAddr 22 (Operand.tmp 16) (Operand.tmp 17), type := 0, pos := "ref.go:61", after := #[{ on := 1, ground := Ground.data }, { on := 2, ground := Ground.data }], guard := none }) (v := ?_) rfl (by kernel_rfl) (by kernel_rfl) (by kernel_rfl) (fun _ _ _ h => h) (Or.inl ⟨by rfl, ?_⟩) (by assumption) ?_
      rotate_left
      · intro w hSw; (try dsimp only at hSw); go_simp; try with_reducible rfl
      simp only [Act.put, List.setIfInBounds_toArray, List.set_cons_zero, List.set_cons_succ]
      refine wpAnyH_take (i := 4) (oi := { dst := some 19, op := Op.fieldAddr 51 (Operand.tmp 18) 0, type := 0, pos := "ref.go:61", after := #[{ on := 3, ground := Ground.data }], guard := none }) (v := ?_) rfl (by kernel_rfl) (by kernel_rfl) (by kernel_rfl) (fun _ _ _ h => h) (Or.inl ⟨by rfl, ?_⟩) (by assumption) ?_
      rotate_left
      · intro w hSw; (try dsimp only at hSw); go_simp; try with_reducible rfl
      simp only [Act.put, List.setIfInBounds_toArray, List.set_cons_zero, List.set_cons_succ]
      refine wpAnyH_take (i := 5) (oi := { dst := some 20, op := Op.load 9 (Operand.tmp 19), type := 9, pos := "ref.go:61", after := #[{ on := 4, ground := Ground.data }], guard := none }) (v := ?_) rfl (by kernel_rfl) (by kernel_rfl) (by kernel_rfl) (fun _ _ _ h => h) (Or.inl ⟨by rfl, ?_⟩) (by assumption) ?_
      rotate_left
      · intro w hSw; (try dsimp only at hSw); go_simp; try with_reducible rfl
      simp only [Act.put, List.setIfInBounds_toArray, List.set_cons_zero, List.set_cons_succ]
      refine wpAnyH_take (i := 6) (oi := { dst := some 21, op := Op.build 64 #[(1, Operand.tmp 20)], type := 64, pos := "ref.go:61", after := #[{ on := 5, ground := Ground.data }], guard := none }) (v := ?_) rfl (by kernel_rfl) (by kernel_rfl) (by kernel_rfl) (fun _ _ _ h => h) (Or.inl ⟨by rfl, ?_⟩) (by assumption) ?_
      rotate_left
      · intro w hSw; (try dsimp only at hSw); go_simp; try with_reducible rfl
      simp only [Act.put, List.setIfInBounds_toArray, List.set_cons_zero, List.set_cons_succ]
      refine wpAnyH_take (i := 9) (oi := { dst := some 24, op := Op.move (Operand.tmp 0), type := 22, pos := "ref.go:61", after := #[], guard := none }) (v := ?_) rfl (by kernel_rfl) (by kernel_rfl) (by kernel_rfl) (fun _ _ _ h => h) (Or.inl ⟨by rfl, ?_⟩) (by assumption) ?_
      rotate_left
      · intro w hSw; (try dsimp only at hSw); go_simp; try with_reducible rfl
      simp only [Act.put, List.setIfInBounds_toArray, List.set_cons_zero, List.set_cons_succ]
      refine wpAnyH_take (i := 10) (oi := { dst := some 25, op := Op.move (Operand.tmp 4), type := 3, pos := "ref.go:61", after := #[], guard := none }) (v := ?_) rfl (by kernel_rfl) (by kernel_rfl) (by kernel_rfl) (fun _ _ _ h => h) (Or.inl ⟨by rfl, ?_⟩) (by assumption) ?_
      rotate_left
      · intro w hSw; (try dsimp only at hSw); go_simp; try with_reducible rfl
      simp only [Act.put, List.setIfInBounds_toArray, List.set_cons_zero, List.set_cons_succ]
      refine wpAnyH_take (i := 11) (oi := { dst := some 26, op := Op.indexAddr 22 (Operand.tmp 24) (Operand.tmp 25), type := 0, pos := "ref.go:61", after := #[{ on := 9, ground := Ground.data }, { on := 10, ground := Ground.data }], guard := none }) (v := ?_) rfl (by kernel_rfl) (by kernel_rfl) (by kernel_rfl) (fun _ _ _ h => h) (Or.inl ⟨by rfl, ?_⟩) (by assumption) ?_
      rotate_left
      · intro w hSw; (try dsimp only at hSw); go_simp; try with_reducible rfl
      simp only [Act.put, List.setIfInBounds_toArray, List.set_cons_zero, List.set_cons_succ]
      refine wpAnyH_take (i := 12) (oi := { dst := some 27, op := Op.fieldAddr 51 (Operand.tmp 26) 1, type := 0, pos := "ref.go:61", after := #[{ on := 11, ground := Ground.data }], guard := none }) (v := ?_) rfl (by kernel_rfl) (by kernel_rfl) (by kernel_rfl) (fun _ _ _ h => h) (Or.inl ⟨by rfl, ?_⟩) (by assumption) ?_
      rotate_left
      · intro w hSw; (try dsimp only at hSw); go_simp; try with_reducible rfl
      simp only [Act.put, List.setIfInBounds_toArray, List.set_cons_zero, List.set_cons_succ]
      refine wpAnyH_take (i := 13) (oi := { dst := some 28, op := Op.load 49 (Operand.tmp 27), type := 49, pos := "ref.go:61", after := #[{ on := 12, ground := Ground.data }], guard := none }) (v := ?_) rfl (by kernel_rfl) (by kernel_rfl) (by kernel_rfl) (fun _ _ _ h => h) (Or.inl ⟨by rfl, ?_⟩) (by assumption) ?_
      rotate_left
      · intro w hSw; (try dsimp only at hSw); go_simp; try with_reducible rfl
      simp only [Act.put, List.setIfInBounds_toArray, List.set_cons_zero, List.set_cons_succ]
      refine wpAnyH_take (i := 14) (oi := { dst := some 29, op := Op.call { callee := Callee.builtin Builtin.len, args := #[Operand.tmp 28], argTypes := #[49] }, type := 3, pos := "ref.go:61", after := #[{ on := 13, ground := Ground.data }], guard := none }) (v := ?_) rfl (by kernel_rfl) (by kernel_rfl) (by kernel_rfl) (fun _ _ _ h => h) (Or.inl ⟨by rfl, ?_⟩) (by assumption) ?_
      rotate_left
      · intro w hSw; (try dsimp only at hSw); go_simp; try with_reducible rfl
      simp only [Act.put, List.setIfInBounds_toArray, List.set_cons_zero, List.set_cons_succ]
      refine wpAnyH_ready (rs := [7]) (by kernel_rfl) (by simp) (AllReadyH.cons (o := { dst := some 22, op := Op.call { callee := Callee.value (Operand.func 87), args := #[Operand.tmp 21, Operand.const (Value.int IntKind.i64 2)], argTypes := #[64, 3] }, type := 9, pos := "ref.go:61", after := #[{ on := 6, ground := Ground.data }], guard := none }) rfl (fun KK hK => ?_) AllReadyH.nil)
      · go_simp
        go_at_call 87
        with_reducible refine (ref04_fixedV nm F1 HF1.out HNM.out hs).mono ?_
        rintro e wq ⟨rfl, hs⟩
        refine hK.out _ _ (HKP.out _ hs) (fun hHeld => ?_)
        clear hK KK
        try simp only [Act.put, List.setIfInBounds_toArray, List.set_cons_zero, List.set_cons_succ]
        refine wpAnyH_take (i := 8) (oi := { dst := some 23, op := Op.binOp BinOp.add 9 (Operand.tmp 15) (Operand.tmp 22) 9, type := 9, pos := "ref.go:61", after := #[{ on := 0, ground := Ground.data }, { on := 7, ground := Ground.data }], guard := none }) (v := ?_) rfl (by kernel_rfl) (by kernel_rfl) (by kernel_rfl) (fun _ _ _ h => h) (Or.inl ⟨by rfl, ?_⟩) (by assumption) ?_
        rotate_left
        · intro w hSw; (try dsimp only at hSw); go_simp; try with_reducible rfl
        simp only [Act.put, List.setIfInBounds_toArray, List.set_cons_zero, List.set_cons_succ]
        refine wpAnyH_ready (rs := [15]) (by kernel_rfl) (by simp) (AllReadyH.cons (o := { dst := some 30, op := Op.call { callee := Callee.value (Operand.func 75), args := #[Operand.tmp 29, Operand.const (Value.int IntKind.i64 4)], argTypes := #[3, 3] }, type := 9, pos := "ref.go:61", after := #[{ on := 14, ground := Ground.data }, { on := 7, ground := Ground.chain }], guard := none }) rfl (fun KK hK => ?_) AllReadyH.nil)
        · go_simp
          go_at_call 75
          with_reducible refine (sr_bytesV (ps.length : Int) 4 4 rfl (by decide) F2 HF2.out HRP.out hs).mono ?_
          rintro e wq ⟨rfl, hs⟩
          refine hK.out _ _ (HKP.out _ hs) (fun hHeld => ?_)
          clear hK KK
          try simp only [Act.put, List.setIfInBounds_toArray, List.set_cons_zero, List.set_cons_succ]
          refine wpAnyH_take (i := 16) (oi := { dst := some 31, op := Op.binOp BinOp.add 9 (Operand.tmp 23) (Operand.tmp 30) 9, type := 9, pos := "ref.go:61", after := #[{ on := 8, ground := Ground.data }, { on := 15, ground := Ground.data }], guard := none }) (v := ?_) rfl (by kernel_rfl) (by kernel_rfl) (by kernel_rfl) (fun _ _ _ h => h) (Or.inl ⟨by rfl, ?_⟩) (by assumption) ?_
          rotate_left
          · intro w hSw; (try dsimp only at hSw); go_simp; try with_reducible rfl
          simp only [Act.put, List.setIfInBounds_toArray, List.set_cons_zero, List.set_cons_succ]
          refine wpAnyH_take (i := 17) (oi := { dst := some 3, op := Op.assign (Operand.tmp 31), type := 9, pos := "ref.go:61", after := #[{ on := 16, ground := Ground.data }, { on := 15, ground := Ground.chain }, { on := 0, ground := Ground.phase }, { on := 1, ground := Ground.phase }, { on := 2, ground := Ground.phase }, { on := 3, ground := Ground.phase }, { on := 4, ground := Ground.phase }, { on := 5, ground := Ground.phase }, { on := 6, ground := Ground.phase }, { on := 7, ground := Ground.phase }, { on := 8, ground := Ground.phase }, { on := 9, ground := Ground.phase }, { on := 10, ground := Ground.phase }, { on := 11, ground := Ground.phase }, { on := 12, ground := Ground.phase }, { on := 13, ground := Ground.phase }, { on := 14, ground := Ground.phase }, { on := 15, ground := Ground.phase }, { on := 16, ground := Ground.phase }], guard := none }) (v := ?_) rfl (by kernel_rfl) (by kernel_rfl) (by kernel_rfl) (fun _ _ _ h => h) (Or.inl ⟨by rfl, ?_⟩) (by assumption) ?_
          rotate_left
          · intro w hSw; (try dsimp only at hSw); go_simp; try with_reducible rfl
          simp only [Act.put, List.setIfInBounds_toArray, List.set_cons_zero, List.set_cons_succ]
          refine wpAnyH_done (by kernel_rfl) ?_ _
          go_wp2_with fail
          clear H
          have H := Lib.hid hs
          clear hs
          go_loopw [3, 5] (fun sv jv wr => ∃ j : Nat, j ≤ ps.length ∧ jv = .int .i64 j ∧ sv = .string (bb (B2 ++ be4s (ps.take j))) ∧ St W0 wr K L) (fun _ jv _ => ps.length - (intOf jv).toNat)
          case atStart => exact ⟨0, Nat.zero_le _, rfl, by rw [List.take_zero]; show _ = Value.string (bb (B2 ++ [])); rw [List.append_nil], H.out⟩
          case round =>
            obtain ⟨j, hjl, rfl, rfl, hst⟩ := hrel
            clear H
            have H := Lib.hid hst
            clear hst
            obtain ⟨c0, c1⟩ := HKP.out _ H.out
            by_cases hlj : j < ps.length
            · have hps : ¬ ps = [] := by rintro rfl; simp at hlj
              rcases HP0.out with hps2 | ⟨pb, poff, hq⟩
              · exact absurd hps2 hps
              subst hq
              have d0 := int_cell HXK.out H.out j hlj
              obtain ⟨x, hx⟩ : ∃ x, ps.getD j 0 = x := ⟨_, rfl⟩
              rw [hx] at d0
              have hxr := HPS.out x (hx ▸ getD_mem ps j hlj)
              have hst := be4s_step ps j hlj x hx
              obtain ⟨C, hC⟩ : ∃ C, B2 ++ be4s (ps.take j) = C := ⟨_, rfl⟩
              obtain ⟨X, hX⟩ : ∃ X, beBytes x 4 = X := ⟨_, rfl⟩
              obtain ⟨D, hD⟩ : ∃ D, C ++ X = D := ⟨_, rfl⟩
              have hcat : bb C ++ bb X = bb D := by rw [← hD]; exact bb_append _ _
              have HD2 := Lib.hid (show B2 ++ be4s (ps.take (j + 1)) = D by rw [hst, ← List.append_assoc, hC, hX, hD])
              have hXl : X.length = 4 := by rw [← hX]; exact beBytes_length x 4
              have hCl : C.length ≤ 100000000000000 := by
                rw [← hC, List.length_append, be4s_len, List.length_take]
                have := HL0.out.2
                omega
              have hg : ¬ (9223372036854775807 < C.length + X.length) := by omega
              have HX := Lib.hid hX
              have HXR := Lib.hid (show -9223372036854775808 ≤ x ∧ x < 9223372036854775808 by omega)
              have hji : (j : Int) < (ps.length : Int) := by omega
              rw [hC]
              clear hC hst hx hps hxr hX hD hXl hCl
              go_wp2_with (go_at_call 75; (with_reducible refine (sr_bytesV x 4 4 rfl (by decide) X HX.out HXR.out H.out).mono ?_); rintro e_ wn ⟨rfl, h⟩; replace H := Lib.hid h; clear h)
              go_roundw
              case rel => exact ⟨j + 1, hlj, by go_num, by rw [HD2.out], H.out⟩
              case measure => first | (simp [intOf]; done) | (simp [intOf]; omega)
            · obtain rfl : j = ps.length := by omega
              rw [List.take_length, ← HB3.out]
              go_wp2
              go_roundw
              case rel => exact ⟨k + 1, hlt, by go_num, rfl, H.out⟩
              case measure => first | (simp [intOf]; done) | (simp [intOf]; omega)
    · obtain rfl : k = l.length := by omega
      rw [show preT (l.map (·.1)) l.length = r by rw [← HR.out, ← preT_all, List.length_map]]
      go_wp2
      go_ret
      exact ⟨rfl, H.out⟩

end Go.Proofs.Ytombolmicfjjpaa

/- Marks as bytes, by definition. -/
namespace Go.Proofs.Ytombolmicfjjpaa
open Go.RowKit

set_option maxHeartbeats 8000000 in
set_option maxRecDepth 100000 in
theorem ref19_write (v : Int) (l : List MarkR) (q : Option Addr) (cap : Nat) (S : Bs) (hS : encMs v (l.map MarkR.m) = S) (hf : ∀ x ∈ l, x.Fit) (hfit : ∀ x ∈ l, FitTs x.m.tops ∧ (encM v x.m).length ≤ 2000) (hn : l.length ≤ 20) {W0 w : World} {K : Know} {L : List Res} (hk : K.has (Know.marks (.slice q l.length cap) l)) (h : St W0 w K L) :
    Calls Try.prog 59 #[.slice q l.length cap, .int .i64 v] w fun en w' => en = .returned (.string (bb S)) ∧ St W0 w' K L := by
  have H := Lib.hid h
  have HK := Lib.hid hk
  have HF := Lib.hid hf
  have HFIT := Lib.hid hfit
  have HE := Lib.hid hS
  have hni : (l.length : Int) ≤ 20 := by omega
  obtain ⟨A, hA⟩ : ∃ A, preM v (l.map MarkR.m) 0 = A := ⟨_, rfl⟩
  have HA := Lib.hid (show beBytes (l.length : Int) 4 = A by rw [← hA, preM_zero, List.length_map]; rfl)
  have HNL := Lib.hid (show -9223372036854775808 ≤ (l.length : Int) ∧ (l.length : Int) < 9223372036854775808 by omega)
  have HLE := Lib.hid (fun k hk => preM_le v (l.map MarkR.m) k hk (by rw [List.length_map]; exact hn) (fun m hm => by
    obtain ⟨x, hx, rfl⟩ := List.mem_map.1 hm
    exact (hfit x hx).2))
  clear h hk hf hfit hS hn
  go_enter Try.func59, Try.ntmps59
  go_wp2_with (go_at_call 75; (with_reducible refine (sr_bytesV _ 4 4 rfl (by decide) A HA.out HNL.out H.out).mono ?_); rintro e_ wn ⟨rfl, h⟩; replace H := Lib.hid h; clear h)
  go_loopw [5, 6] (fun sv iv wr => ∃ (k : Nat) (B0 : Bs), k ≤ l.length ∧ iv = .int .i64 k ∧ sv = .string (bb B0) ∧ Hid (preM v (l.map MarkR.m) k = B0) ∧ St W0 wr K L) (fun _ iv _ => l.length - (intOf iv).toNat)
  case atStart => exact ⟨0, A, Nat.zero_le _, rfl, rfl, Lib.hid hA, H.out⟩
  case round =>
    obtain ⟨k, B0, hkl, rfl, rfl, HB0, hst⟩ := hrel
    clear H hA
    have H := Lib.hid hst
    clear hst
    by_cases hlt : k < l.length
    · obtain ⟨b0, off, hqq⟩ := marks_at HK.out H.out (by omega)
      subst hqq
      obtain ⟨x, hx⟩ : ∃ x, l[k] = x := ⟨_, rfl⟩
      have hmem : x ∈ l := hx ▸ List.getElem_mem hlt
      have hxk := marks_tops HK.out hmem
      have hcell := marks_cell HK.out H.out k hlt x hx
      have hmk : k < (l.map MarkR.m).length := by rw [List.length_map]; exact hlt
      have hmg : (l.map MarkR.m)[k] = x.m := by rw [List.getElem_map, hx]
      obtain ⟨hxl, hxf, hxr⟩ := HF.out x hmem
      obtain ⟨⟨p, e, c, tl, co⟩, xl, xq, xcap⟩ := x
      obtain ⟨c0, c1, c2, c3, c4⟩ : wr.cell? ⟨b0, off + k * 5, none⟩ = some (.int .i64 p) ∧ wr.cell? ⟨b0, off + k * 5 + 1, none⟩ = some (.int .i64 e) ∧ wr.cell? ⟨b0, off + k * 5 + 2, none⟩ = some (.bool c) ∧ wr.cell? ⟨b0, off + k * 5 + 3, none⟩ = some (.slice xq xl.length xcap) ∧ wr.cell? ⟨b0, off + k * 5 + 4, none⟩ = some (.int .i64 co) := hcell
      have HXK := Lib.hid (show K.has (Know.tops (.slice xq xl.length xcap) xl) from hxk)
      have HXL := Lib.hid (show xl.map (·.1) = tl from hxl)
      have HXF := Lib.hid (show FewT xl from hxf)
      have hkn : (k : Int) < (l.length : Int) := by omega
      have HFT := Lib.hid (show FitTs (xl.map fun y => y.1) by rw [show (xl.map fun y => y.1) = tl from hxl]; exact (HFIT.out _ hmem).1)
      have NP := Lib.hid hxr.1
      have NE := Lib.hid hxr.2.1
      have NC := Lib.hid hxr.2.2
      simp only at NP NE NC
      have hst1 := preM_step v (l.map MarkR.m) k hmk _ hmg
      have hle1 := HLE.out (k + 1) hmk
      rw [HB0.out] at hst1
      obtain ⟨g1, hg1⟩ : ∃ y, beBytes p 8 = y := ⟨_, rfl⟩
      obtain ⟨g2, hg2⟩ : ∃ y, beBytes e 2 = y := ⟨_, rfl⟩
      obtain ⟨g3, hg3⟩ : ∃ y, encO c = y := ⟨_, rfl⟩
      obtain ⟨g4, hg4⟩ : ∃ y, encTs tl = y := ⟨_, rfl⟩
      obtain ⟨g5, hg5⟩ : ∃ y, beBytes co (4 : Int).toNat = y := ⟨_, rfl⟩
      obtain ⟨y1, hy1⟩ : ∃ y, B0 ++ g1 = y := ⟨_, rfl⟩
      obtain ⟨y2, hy2⟩ : ∃ y, y1 ++ g2 = y := ⟨_, rfl⟩
      obtain ⟨y3, hy3⟩ : ∃ y, y2 ++ g3 = y := ⟨_, rfl⟩
      obtain ⟨y4, hy4⟩ : ∃ y, y3 ++ g4 = y := ⟨_, rfl⟩
      have hB6 : preM v (l.map MarkR.m) (k + 1) = y4 ++ (if v = 1 then beBytes co (4 : Int).toNat else []) := by
        rw [hst1, ← hy4, ← hy3, ← hy2, ← hy1, ← hg1, ← hg2, ← hg3, ← hg4]
        unfold encM
        simp only [List.append_assoc]
        rfl
      have l6 : y4.length ≤ 100000 := by
        have h6 := congrArg List.length hB6
        rw [List.length_append] at h6
        omega
      have l4 := congrArg List.length hy4
      have l3 := congrArg List.length hy3
      have l2 := congrArg List.length hy2
      have l1 := congrArg List.length hy1
      have l5 : g5.length = 4 := by rw [← hg5]; exact beBytes_length _ _
      rw [List.length_append] at l1 l2 l3 l4
      obtain ⟨q1, q2, q3, q4, q5⟩ : ¬ (9223372036854775807 < B0.length + g1.length) ∧ ¬ (9223372036854775807 < y1.length + g2.length) ∧ ¬ (9223372036854775807 < y2.length + g3.length) ∧ ¬ (9223372036854775807 < y3.length + g4.length) ∧ ¬ (9223372036854775807 < y4.length + g5.length) := by refine ⟨?_, ?_, ?_, ?_, ?_⟩ <;> omega
      have hcat1 : bb B0 ++ bb g1 = bb y1 := by rw [← hy1]; exact bb_append _ _
      have hcat2 : bb y1 ++ bb g2 = bb y2 := by rw [← hy2]; exact bb_append _ _
      have hcat3 : bb y2 ++ bb g3 = bb y3 := by rw [← hy3]; exact bb_append _ _
      have hcat4 : bb y3 ++ bb g4 = bb y4 := by rw [← hy4]; exact bb_append _ _
      have Z1 := Lib.hid hg1
      have Z2 := Lib.hid hg2
      have Z4 := Lib.hid (show encTs (xl.map fun y => y.1) = g4 by rw [show (xl.map fun y => y.1) = tl from hxl]; exact hg4)
      have Z5 := Lib.hid (show beBytes co 4 = g5 from hg5)
      have HKP := Lib.hid (show ∀ w', St W0 w' K L → (w'.cell? ⟨b0, off + k * 5, none⟩ = some (.int .i64 p) ∧ w'.cell? ⟨b0, off + k * 5 + 1, none⟩ = some (.int .i64 e) ∧ w'.cell? ⟨b0, off + k * 5 + 2, none⟩ = some (.bool c) ∧ w'.cell? ⟨b0, off + k * 5 + 3, none⟩ = some (.slice xq xl.length xcap) ∧ w'.cell? ⟨b0, off + k * 5 + 4, none⟩ = some (.int .i64 co)) from fun w' hs => marks_cell HK.out hs k hlt _ hx)
      clear hx hmem hxk hmk hmg hxl hxf hxr hst1 hle1 hg1 hg2 hg4 hy1 hy2 hy3 hy4 l1 l2 l3 l4 l5 l6
      cases c with
      | false =>
        have Z3 := Lib.hid (show beBytes 0 1 = g3 by rw [← hg3]; rfl)
        clear hg3
        go_wp2_with fail
        go_cut [5] (fun s5 wx => s5 = .string (bb y4) ∧ St W0 wx K L)
        case first =>
          have hs := H.out.drew
          refine wp_region_held_drew (S := fun w' => w'.cell? ⟨b0, off + k * 5, none⟩ = some (.int .i64 p) ∧ w'.cell? ⟨b0, off + k * 5 + 1, none⟩ = some (.int .i64 e) ∧ w'.cell? ⟨b0, off + k * 5 + 2, none⟩ = some (.bool false) ∧ w'.cell? ⟨b0, off + k * 5 + 3, none⟩ = some (.slice xq xl.length xcap) ∧ w'.cell? ⟨b0, off + k * 5 + 4, none⟩ = some (.int .i64 co)) (by kernel_rfl) (HKP.out _ hs) (fun hHeld => ?_)
          refine wpAnyH_take (i := 0) (oi := { dst := some 22, op := Op.move (Operand.tmp 5), type := 9, pos := "ref.go:54", after := #[], guard := none }) (v := ?_) rfl (by kernel_rfl) (by kernel_rfl) (by kernel_rfl) (fun _ _ _ h => h) (Or.inl ⟨by rfl, ?_⟩) (by assumption) ?_
          rotate_left
          · intro w hSw; (try dsimp only at hSw); go_simp; try with_reducible rfl
          simp only [Act.put, List.setIfInBounds_toArray, List.set_cons_zero, List.set_cons_succ]
          refine wpAnyH_take (i := 1) (oi := { dst := some 23, op := Op.move (Operand.tmp 0), type := 88, pos := "ref.go:54", after := #[], guard := none }) (v := ?_) rfl (by kernel_rfl) (by kernel_rfl) (by kernel_rfl) (fun _ _ _ h => h) (Or.inl ⟨by rfl, ?_⟩) (by assumption) ?_
          rotate_left
          · intro w hSw; (try dsimp only at hSw); go_simp; try with_reducible rfl
          simp only [Act.put, List.setIfInBounds_toArray, List.set_cons_zero, List.set_cons_succ]
          refine wpAnyH_take (i := 2) (oi := { dst := some 24, op := Op.move (Operand.tmp 6), type := 3, pos := "ref.go:54", after := #[], guard := none }) (v := ?_) rfl (by kernel_rfl) (by kernel_rfl) (by kernel_rfl) (fun _ _ _ h => h) (Or.inl ⟨by rfl, ?_⟩) (by assumption) ?_
          rotate_left
          · intro w hSw; (try dsimp only at hSw); go_simp; try with_reducible rfl
          simp only [Act.put, List.setIfInBounds_toArray, List.set_cons_zero, List.set_cons_succ]
          refine wpAnyH_take (i := 3) (oi := { dst := some 25, op := Op.indexAddr 88 (Operand.tmp 23) (Operand.tmp 24), type := 0, pos := "ref.go:54", after := #[{ on := 1, ground := Ground.data }, { on := 2, ground := Ground.data }], guard := none }) (v := ?_) rfl (by kernel_rfl) (by kernel_rfl) (by kernel_rfl) (fun _ _ _ h => h) (Or.inl ⟨by rfl, ?_⟩) (by assumption) ?_
          rotate_left
          · intro w hSw; (try dsimp only at hSw); go_simp; try with_reducible rfl
          simp only [Act.put, List.setIfInBounds_toArray, List.set_cons_zero, List.set_cons_succ]
          refine wpAnyH_take (i := 4) (oi := { dst := some 26, op := Op.fieldAddr 152 (Operand.tmp 25) 0, type := 0, pos := "ref.go:54", after := #[{ on := 3, ground := Ground.data }], guard := none }) (v := ?_) rfl (by kernel_rfl) (by kernel_rfl) (by kernel_rfl) (fun _ _ _ h => h) (Or.inl ⟨by rfl, ?_⟩) (by assumption) ?_
          rotate_left
          · intro w hSw; (try dsimp only at hSw); go_simp; try with_reducible rfl
          simp only [Act.put, List.setIfInBounds_toArray, List.set_cons_zero, List.set_cons_succ]
          refine wpAnyH_take (i := 5) (oi := { dst := some 27, op := Op.load 3 (Operand.tmp 26), type := 3, pos := "ref.go:54", after := #[{ on := 4, ground := Ground.data }], guard := none }) (v := ?_) rfl (by kernel_rfl) (by kernel_rfl) (by kernel_rfl) (fun _ _ _ h => h) (Or.inl ⟨by rfl, ?_⟩) (by assumption) ?_
          rotate_left
          · intro w hSw; (try dsimp only at hSw); go_simp; try with_reducible rfl
          simp only [Act.put, List.setIfInBounds_toArray, List.set_cons_zero, List.set_cons_succ]
          refine wpAnyH_take (i := 8) (oi := { dst := some 30, op := Op.move (Operand.tmp 0), type := 88, pos := "ref.go:54", after := #[], guard := none }) (v := ?_) rfl (by kernel_rfl) (by kernel_rfl) (by kernel_rfl) (fun _ _ _ h => h) (Or.inl ⟨by rfl, ?_⟩) (by assumption) ?_
          rotate_left
          · intro w hSw; (try dsimp only at hSw); go_simp; try with_reducible rfl
          simp only [Act.put, List.setIfInBounds_toArray, List.set_cons_zero, List.set_cons_succ]
          refine wpAnyH_take (i := 9) (oi := { dst := some 31, op := Op.move (Operand.tmp 6), type := 3, pos := "ref.go:54", after := #[], guard := none }) (v := ?_) rfl (by kernel_rfl) (by kernel_rfl) (by kernel_rfl) (fun _ _ _ h => h) (Or.inl ⟨by rfl, ?_⟩) (by assumption) ?_
          rotate_left
          · intro w hSw; (try dsimp only at hSw); go_simp; try with_reducible rfl
          simp only [Act.put, List.setIfInBounds_toArray, List.set_cons_zero, List.set_cons_succ]
          refine wpAnyH_take (i := 10) (oi := { dst := some 32, op := Op.indexAddr 88 (Operand.tmp 30) (Operand.tmp 31), type := 0, pos := "ref.go:54", after := #[{ on := 8, ground := Ground.data }, { on := 9, ground := Ground.data }], guard := none }) (v := ?_) rfl (by kernel_rfl) (by kernel_rfl) (by kernel_rfl) (fun _ _ _ h => h) (Or.inl ⟨by rfl, ?_⟩) (by assumption) ?_
          rotate_left
          · intro w hSw; (try dsimp only at hSw); go_simp; try with_reducible rfl
          simp only [Act.put, List.setIfInBounds_toArray, List.set_cons_zero, List.set_cons_succ]
          refine wpAnyH_take (i := 11) (oi := { dst := some 33, op := Op.fieldAddr 152 (Operand.tmp 32) 1, type := 0, pos := "ref.go:54", after := #[{ on := 10, ground := Ground.data }], guard := none }) (v := ?_) rfl (by kernel_rfl) (by kernel_rfl) (by kernel_rfl) (fun _ _ _ h => h) (Or.inl ⟨by rfl, ?_⟩) (by assumption) ?_
          rotate_left
          · intro w hSw; (try dsimp only at hSw); go_simp; try with_reducible rfl
          simp only [Act.put, List.setIfInBounds_toArray, List.set_cons_zero, List.set_cons_succ]
          refine wpAnyH_take (i := 12) (oi := { dst := some 34, op := Op.load 3 (Operand.tmp 33), type := 3, pos := "ref.go:54", after := #[{ on := 11, ground := Ground.data }], guard := none }) (v := ?_) rfl (by kernel_rfl) (by kernel_rfl) (by kernel_rfl) (fun _ _ _ h => h) (Or.inl ⟨by rfl, ?_⟩) (by assumption) ?_
          rotate_left
          · intro w hSw; (try dsimp only at hSw); go_simp; try with_reducible rfl
          simp only [Act.put, List.setIfInBounds_toArray, List.set_cons_zero, List.set_cons_succ]
          refine wpAnyH_take (i := 15) (oi := { dst := some 37, op := Op.move (Operand.tmp 7), type := 3, pos := "ref.go:54", after := #[], guard := none }) (v := ?_) rfl (by kernel_rfl) (by kernel_rfl) (by kernel_rfl) (fun _ _ _ h => h) (Or.inl ⟨by rfl, ?_⟩) (by assumption) ?_
          rotate_left
          · intro w hSw; (try dsimp only at hSw); go_simp; try with_reducible rfl
          simp only [Act.put, List.setIfInBounds_toArray, List.set_cons_zero, List.set_cons_succ]
          refine wpAnyH_take (i := 18) (oi := { dst := some 40, op := Op.move (Operand.tmp 0), type := 88, pos := "ref.go:54", after := #[], guard := none }) (v := ?_) rfl (by kernel_rfl) (by kernel_rfl) (by kernel_rfl) (fun _ _ _ h => h) (Or.inl ⟨by rfl, ?_⟩) (by assumption) ?_
          rotate_left
          · intro w hSw; (try dsimp only at hSw); go_simp; try with_reducible rfl
          simp only [Act.put, List.setIfInBounds_toArray, List.set_cons_zero, List.set_cons_succ]
          refine wpAnyH_take (i := 19) (oi := { dst := some 41, op := Op.move (Operand.tmp 6), type := 3, pos := "ref.go:54", after := #[], guard := none }) (v := ?_) rfl (by kernel_rfl) (by kernel_rfl) (by kernel_rfl) (fun _ _ _ h => h) (Or.inl ⟨by rfl, ?_⟩) (by assumption) ?_
          rotate_left
          · intro w hSw; (try dsimp only at hSw); go_simp; try with_reducible rfl
          simp only [Act.put, List.setIfInBounds_toArray, List.set_cons_zero, List.set_cons_succ]
          refine wpAnyH_take (i := 20) (oi := { dst := some 42, op := Op.indexAddr 88 (Operand.tmp 40) (Operand.tmp 41), type := 0, pos := "ref.go:54", after := #[{ on := 18, ground := Ground.data }, { on := 19, ground := Ground.data }], guard := none }) (v := ?_) rfl (by kernel_rfl) (by kernel_rfl) (by kernel_rfl) (fun _ _ _ h => h) (Or.inl ⟨by rfl, ?_⟩) (by assumption) ?_
          rotate_left
          · intro w hSw; (try dsimp only at hSw); go_simp; try with_reducible rfl
          simp only [Act.put, List.setIfInBounds_toArray, List.set_cons_zero, List.set_cons_succ]
          refine wpAnyH_take (i := 21) (oi := { dst := some 43, op := Op.fieldAddr 152 (Operand.tmp 42) 3, type := 0, pos := "ref.go:54", after := #[{ on := 20, ground := Ground.data }], guard := none }) (v := ?_) rfl (by kernel_rfl) (by kernel_rfl) (by kernel_rfl) (fun _ _ _ h => h) (Or.inl ⟨by rfl, ?_⟩) (by assumption) ?_
          rotate_left
          · intro w hSw; (try dsimp only at hSw); go_simp; try with_reducible rfl
          simp only [Act.put, List.setIfInBounds_toArray, List.set_cons_zero, List.set_cons_succ]
          refine wpAnyH_take (i := 22) (oi := { dst := some 44, op := Op.load 22 (Operand.tmp 43), type := 22, pos := "ref.go:54", after := #[{ on := 21, ground := Ground.data }], guard := none }) (v := ?_) rfl (by kernel_rfl) (by kernel_rfl) (by kernel_rfl) (fun _ _ _ h => h) (Or.inl ⟨by rfl, ?_⟩) (by assumption) ?_
          rotate_left
          · intro w hSw; (try dsimp only at hSw); go_simp; try with_reducible rfl
          simp only [Act.put, List.setIfInBounds_toArray, List.set_cons_zero, List.set_cons_succ]
          refine wpAnyH_ready (rs := [6]) (by kernel_rfl) (by simp) (AllReadyH.cons (o := { dst := some 28, op := Op.call { callee := Callee.value (Operand.func 75), args := #[Operand.tmp 27, Operand.const (Value.int IntKind.i64 8)], argTypes := #[3, 3] }, type := 9, pos := "ref.go:54", after := #[{ on := 5, ground := Ground.data }], guard := none }) rfl (fun KK hK => ?_) AllReadyH.nil)
          · go_simp
            go_at_call 75
            with_reducible refine (sr_bytesV p 8 8 rfl (by decide) g1 Z1.out NP.out hs).mono ?_
            rintro e wq ⟨rfl, hs⟩
            refine hK.out _ _ (HKP.out _ hs) (fun hHeld => ?_)
            clear hK KK
            try simp only [Act.put, List.setIfInBounds_toArray, List.set_cons_zero, List.set_cons_succ]
            refine wpAnyH_take (i := 7) (oi := { dst := some 29, op := Op.binOp BinOp.add 9 (Operand.tmp 22) (Operand.tmp 28) 9, type := 9, pos := "ref.go:54", after := #[{ on := 0, ground := Ground.data }, { on := 6, ground := Ground.data }], guard := none }) (v := ?_) rfl (by kernel_rfl) (by kernel_rfl) (by kernel_rfl) (fun _ _ _ h => h) (Or.inl ⟨by rfl, ?_⟩) (by assumption) ?_
            rotate_left
            · intro w hSw; (try dsimp only at hSw); go_simp; try with_reducible rfl
            simp only [Act.put, List.setIfInBounds_toArray, List.set_cons_zero, List.set_cons_succ]
            refine wpAnyH_ready (rs := [13]) (by kernel_rfl) (by simp) (AllReadyH.cons (o := { dst := some 35, op := Op.call { callee := Callee.value (Operand.func 75), args := #[Operand.tmp 34, Operand.const (Value.int IntKind.i64 2)], argTypes := #[3, 3] }, type := 9, pos := "ref.go:54", after := #[{ on := 12, ground := Ground.data }, { on := 6, ground := Ground.chain }], guard := none }) rfl (fun KK hK => ?_) AllReadyH.nil)
            · go_simp
              go_at_call 75
              with_reducible refine (sr_bytesV e 2 2 rfl (by decide) g2 Z2.out NE.out hs).mono ?_
              rintro e wq ⟨rfl, hs⟩
              refine hK.out _ _ (HKP.out _ hs) (fun hHeld => ?_)
              clear hK KK
              try simp only [Act.put, List.setIfInBounds_toArray, List.set_cons_zero, List.set_cons_succ]
              refine wpAnyH_take (i := 14) (oi := { dst := some 36, op := Op.binOp BinOp.add 9 (Operand.tmp 29) (Operand.tmp 35) 9, type := 9, pos := "ref.go:54", after := #[{ on := 7, ground := Ground.data }, { on := 13, ground := Ground.data }], guard := none }) (v := ?_) rfl (by kernel_rfl) (by kernel_rfl) (by kernel_rfl) (fun _ _ _ h => h) (Or.inl ⟨by rfl, ?_⟩) (by assumption) ?_
              rotate_left
              · intro w hSw; (try dsimp only at hSw); go_simp; try with_reducible rfl
              simp only [Act.put, List.setIfInBounds_toArray, List.set_cons_zero, List.set_cons_succ]
              refine wpAnyH_ready (rs := [16]) (by kernel_rfl) (by simp) (AllReadyH.cons (o := { dst := some 38, op := Op.call { callee := Callee.value (Operand.func 75), args := #[Operand.tmp 37, Operand.const (Value.int IntKind.i64 1)], argTypes := #[3, 3] }, type := 9, pos := "ref.go:54", after := #[{ on := 15, ground := Ground.data }, { on := 13, ground := Ground.chain }], guard := none }) rfl (fun KK hK => ?_) AllReadyH.nil)
              · go_simp
                go_at_call 75
                with_reducible refine (sr_bytesV _ 1 1 rfl (by decide) g3 Z3.out (by decide) hs).mono ?_
                rintro e wq ⟨rfl, hs⟩
                refine hK.out _ _ (HKP.out _ hs) (fun hHeld => ?_)
                clear hK KK
                try simp only [Act.put, List.setIfInBounds_toArray, List.set_cons_zero, List.set_cons_succ]
                refine wpAnyH_take (i := 17) (oi := { dst := some 39, op := Op.binOp BinOp.add 9 (Operand.tmp 36) (Operand.tmp 38) 9, type := 9, pos := "ref.go:54", after := #[{ on := 14, ground := Ground.data }, { on := 16, ground := Ground.data }], guard := none }) (v := ?_) rfl (by kernel_rfl) (by kernel_rfl) (by kernel_rfl) (fun _ _ _ h => h) (Or.inl ⟨by rfl, ?_⟩) (by assumption) ?_
                rotate_left
                · intro w hSw; (try dsimp only at hSw); go_simp; try with_reducible rfl
                simp only [Act.put, List.setIfInBounds_toArray, List.set_cons_zero, List.set_cons_succ]
                refine wpAnyH_ready (rs := [23]) (by kernel_rfl) (by simp) (AllReadyH.cons (o := { dst := some 45, op := Op.call { callee := Callee.value (Operand.func 33), args := #[Operand.tmp 44], argTypes := #[22] }, type := 9, pos := "ref.go:54", after := #[{ on := 22, ground := Ground.data }, { on := 16, ground := Ground.chain }], guard := none }) rfl (fun KK hK => ?_) AllReadyH.nil)
                · go_simp
                  go_at_call 33
                  with_reducible refine (ref14_topics xl xq xcap g4 Z4.out HFT.out HXK.out hs).mono ?_
                  rintro e wq ⟨rfl, hs⟩
                  refine hK.out _ _ (HKP.out _ hs) (fun hHeld => ?_)
                  clear hK KK
                  try simp only [Act.put, List.setIfInBounds_toArray, List.set_cons_zero, List.set_cons_succ]
                  refine wpAnyH_take (i := 24) (oi := { dst := some 46, op := Op.binOp BinOp.add 9 (Operand.tmp 39) (Operand.tmp 45) 9, type := 9, pos := "ref.go:54", after := #[{ on := 17, ground := Ground.data }, { on := 23, ground := Ground.data }], guard := none }) (v := ?_) rfl (by kernel_rfl) (by kernel_rfl) (by kernel_rfl) (fun _ _ _ h => h) (Or.inl ⟨by rfl, ?_⟩) (by assumption) ?_
                  rotate_left
                  · intro w hSw; (try dsimp only at hSw); go_simp; try with_reducible rfl
                  simp only [Act.put, List.setIfInBounds_toArray, List.set_cons_zero, List.set_cons_succ]
                  refine wpAnyH_take (i := 25) (oi := { dst := some 5, op := Op.assign (Operand.tmp 46), type := 9, pos := "ref.go:54", after := #[{ on := 24, ground := Ground.data }, { on := 23, ground := Ground.chain }, { on := 0, ground := Ground.phase }, { on := 1, ground := Ground.phase }, { on := 2, ground := Ground.phase }, { on := 3, ground := Ground.phase }, { on := 4, ground := Ground.phase }, { on := 5, ground := Ground.phase }, { on := 6, ground := Ground.phase }, { on := 7, ground := Ground.phase }, { on := 8, ground := Ground.phase }, { on := 9, ground := Ground.phase }, { on := 10, ground := Ground.phase }, { on := 11, ground := Ground.phase }, { on := 12, ground := Ground.phase }, { on := 13, ground := Ground.phase }, { on := 14, ground := Ground.phase }, { on := 15, ground := Ground.phase }, { on := 16, ground := Ground.phase }, { on := 17, ground := Ground.phase }, { on := 18, ground := Ground.phase }, { on := 19, ground := Ground.phase }, { on := 20, ground := Ground.phase }, { on := 21, ground := Ground.phase }, { on := 22, ground := Ground.phase }, { on := 23, ground := Ground.phase }, { on := 24, ground := Ground.phase }], guard := none }) (v := ?_) rfl (by kernel_rfl) (by kernel_rfl) (by kernel_rfl) (fun _ _ _ h => h) (Or.inl ⟨by rfl, ?_⟩) (by assumption) ?_
                  rotate_left
                  · intro w hSw; (try dsimp only at hSw); go_simp; try with_reducible rfl
                  simp only [Act.put, List.setIfInBounds_toArray, List.set_cons_zero, List.set_cons_succ]
                  refine wpAnyH_done (by kernel_rfl) ?_ _
                  go_wp2_with fail
                  go_meet
                  exact ⟨rfl, hs⟩
        obtain ⟨rfl, h⟩ := hcut
        obtain ⟨f0, f1, f2, f3, f4⟩ := HKP.out _ h
        clear H
        have H := Lib.hid h
        clear h
        by_cases hv : v = 1
        · subst hv
          rw [if_pos rfl, hg5] at hB6
          obtain ⟨y5, hy5⟩ : ∃ y, y4 ++ g5 = y := ⟨_, rfl⟩
          have hcat5 : bb y4 ++ bb g5 = bb y5 := by rw [← hy5]; exact bb_append _ _
          have HB6 := Lib.hid (hB6.trans hy5)
          clear hg5 hB6 hy5
          go_wp2_with (go_at_call 75; (with_reducible refine (sr_bytesV co 4 4 rfl (by decide) g5 Z5.out NC.out H.out).mono ?_); rintro e_ wn ⟨rfl, h⟩; replace H := Lib.hid h; clear h)
          go_roundw
          case rel => exact ⟨k + 1, y5, hlt, by go_num, rfl, HB6, H.out⟩
          case measure => first | (simp [intOf]; done) | (simp [intOf]; omega)
        · rw [if_neg hv, List.append_nil] at hB6
          have HB6 := Lib.hid hB6
          have gv : (v == 1) = false := by rw [beq_eq_false_iff_ne]; exact hv
          clear hg5 hB6 hv
          go_wp2_with (fail)
          go_roundw
          case rel => exact ⟨k + 1, y4, hlt, by go_num, rfl, HB6, H.out⟩
          case measure => first | (simp [intOf]; done) | (simp [intOf]; omega)
      | true =>
        have Z3 := Lib.hid (show beBytes 1 1 = g3 by rw [← hg3]; rfl)
        clear hg3
        go_wp2_with fail
        go_cut [5] (fun s5 wx => s5 = .string (bb y4) ∧ St W0 wx K L)
        case first =>
          have hs := H.out.drew
          refine wp_region_held_drew (S := fun w' => w'.cell? ⟨b0, off + k * 5, none⟩ = some (.int .i64 p) ∧ w'.cell? ⟨b0, off + k * 5 + 1, none⟩ = some (.int .i64 e) ∧ w'.cell? ⟨b0, off + k * 5 + 2, none⟩ = some (.bool true) ∧ w'.cell? ⟨b0, off + k * 5 + 3, none⟩ = some (.slice xq xl.length xcap) ∧ w'.cell? ⟨b0, off + k * 5 + 4, none⟩ = some (.int .i64 co)) (by kernel_rfl) (HKP.out _ hs) (fun hHeld => ?_)
          refine wpAnyH_take (i := 0) (oi := { dst := some 22, op := Op.move (Operand.tmp 5), type := 9, pos := "ref.go:54", after := #[], guard := none }) (v := ?_) rfl (by kernel_rfl) (by kernel_rfl) (by kernel_rfl) (fun _ _ _ h => h) (Or.inl ⟨by rfl, ?_⟩) (by assumption) ?_
          rotate_left
          · intro w hSw; (try dsimp only at hSw); go_simp; try with_reducible rfl
          simp only [Act.put, List.setIfInBounds_toArray, List.set_cons_zero, List.set_cons_succ]
          refine wpAnyH_take (i := 1) (oi := { dst := some 23, op := Op.move (Operand.tmp 0), type := 88, pos := "ref.go:54", after := #[], guard := none }) (v := ?_) rfl (by kernel_rfl) (by kernel_rfl) (by kernel_rfl) (fun _ _ _ h => h) (Or.inl ⟨by rfl, ?_⟩) (by assumption) ?_
          rotate_left
          · intro w hSw; (try dsimp only at hSw); go_simp; try with_reducible rfl
          simp only [Act.put, List.setIfInBounds_toArray, List.set_cons_zero, List.set_cons_succ]
          refine wpAnyH_take (i := 2) (oi := { dst := some 24, op := Op.move (Operand.tmp 6), type := 3, pos := "ref.go:54", after := #[], guard := none }) (v := ?_) rfl (by kernel_rfl) (by kernel_rfl) (by kernel_rfl) (fun _ _ _ h => h) (Or.inl ⟨by rfl, ?_⟩) (by assumption) ?_
          rotate_left
          · intro w hSw; (try dsimp only at hSw); go_simp; try with_reducible rfl
          simp only [Act.put, List.setIfInBounds_toArray, List.set_cons_zero, List.set_cons_succ]
          refine wpAnyH_take (i := 3) (oi := { dst := some 25, op := Op.indexAddr 88 (Operand.tmp 23) (Operand.tmp 24), type := 0, pos := "ref.go:54", after := #[{ on := 1, ground := Ground.data }, { on := 2, ground := Ground.data }], guard := none }) (v := ?_) rfl (by kernel_rfl) (by kernel_rfl) (by kernel_rfl) (fun _ _ _ h => h) (Or.inl ⟨by rfl, ?_⟩) (by assumption) ?_
          rotate_left
          · intro w hSw; (try dsimp only at hSw); go_simp; try with_reducible rfl
          simp only [Act.put, List.setIfInBounds_toArray, List.set_cons_zero, List.set_cons_succ]
          refine wpAnyH_take (i := 4) (oi := { dst := some 26, op := Op.fieldAddr 152 (Operand.tmp 25) 0, type := 0, pos := "ref.go:54", after := #[{ on := 3, ground := Ground.data }], guard := none }) (v := ?_) rfl (by kernel_rfl) (by kernel_rfl) (by kernel_rfl) (fun _ _ _ h => h) (Or.inl ⟨by rfl, ?_⟩) (by assumption) ?_
          rotate_left
          · intro w hSw; (try dsimp only at hSw); go_simp; try with_reducible rfl
          simp only [Act.put, List.setIfInBounds_toArray, List.set_cons_zero, List.set_cons_succ]
          refine wpAnyH_take (i := 5) (oi := { dst := some 27, op := Op.load 3 (Operand.tmp 26), type := 3, pos := "ref.go:54", after := #[{ on := 4, ground := Ground.data }], guard := none }) (v := ?_) rfl (by kernel_rfl) (by kernel_rfl) (by kernel_rfl) (fun _ _ _ h => h) (Or.inl ⟨by rfl, ?_⟩) (by assumption) ?_
          rotate_left
          · intro w hSw; (try dsimp only at hSw); go_simp; try with_reducible rfl
          simp only [Act.put, List.setIfInBounds_toArray, List.set_cons_zero, List.set_cons_succ]
          refine wpAnyH_take (i := 8) (oi := { dst := some 30, op := Op.move (Operand.tmp 0), type := 88, pos := "ref.go:54", after := #[], guard := none }) (v := ?_) rfl (by kernel_rfl) (by kernel_rfl) (by kernel_rfl) (fun _ _ _ h => h) (Or.inl ⟨by rfl, ?_⟩) (by assumption) ?_
          rotate_left
          · intro w hSw; (try dsimp only at hSw); go_simp; try with_reducible rfl
          simp only [Act.put, List.setIfInBounds_toArray, List.set_cons_zero, List.set_cons_succ]
          refine wpAnyH_take (i := 9) (oi := { dst := some 31, op := Op.move (Operand.tmp 6), type := 3, pos := "ref.go:54", after := #[], guard := none }) (v := ?_) rfl (by kernel_rfl) (by kernel_rfl) (by kernel_rfl) (fun _ _ _ h => h) (Or.inl ⟨by rfl, ?_⟩) (by assumption) ?_
          rotate_left
          · intro w hSw; (try dsimp only at hSw); go_simp; try with_reducible rfl
          simp only [Act.put, List.setIfInBounds_toArray, List.set_cons_zero, List.set_cons_succ]
          refine wpAnyH_take (i := 10) (oi := { dst := some 32, op := Op.indexAddr 88 (Operand.tmp 30) (Operand.tmp 31), type := 0, pos := "ref.go:54", after := #[{ on := 8, ground := Ground.data }, { on := 9, ground := Ground.data }], guard := none }) (v := ?_) rfl (by kernel_rfl) (by kernel_rfl) (by kernel_rfl) (fun _ _ _ h => h) (Or.inl ⟨by rfl, ?_⟩) (by assumption) ?_
          rotate_left
          · intro w hSw; (try dsimp only at hSw); go_simp; try with_reducible rfl
          simp only [Act.put, List.setIfInBounds_toArray, List.set_cons_zero, List.set_cons_succ]
          refine wpAnyH_take (i := 11) (oi := { dst := some 33, op := Op.fieldAddr 152 (Operand.tmp 32) 1, type := 0, pos := "ref.go:54", after := #[{ on := 10, ground := Ground.data }], guard := none }) (v := ?_) rfl (by kernel_rfl) (by kernel_rfl) (by kernel_rfl) (fun _ _ _ h => h) (Or.inl ⟨by rfl, ?_⟩) (by assumption) ?_
          rotate_left
          · intro w hSw; (try dsimp only at hSw); go_simp; try with_reducible rfl
          simp only [Act.put, List.setIfInBounds_toArray, List.set_cons_zero, List.set_cons_succ]
          refine wpAnyH_take (i := 12) (oi := { dst := some 34, op := Op.load 3 (Operand.tmp 33), type := 3, pos := "ref.go:54", after := #[{ on := 11, ground := Ground.data }], guard := none }) (v := ?_) rfl (by kernel_rfl) (by kernel_rfl) (by kernel_rfl) (fun _ _ _ h => h) (Or.inl ⟨by rfl, ?_⟩) (by assumption) ?_
          rotate_left
          · intro w hSw; (try dsimp only at hSw); go_simp; try with_reducible rfl
          simp only [Act.put, List.setIfInBounds_toArray, List.set_cons_zero, List.set_cons_succ]
          refine wpAnyH_take (i := 15) (oi := { dst := some 37, op := Op.move (Operand.tmp 7), type := 3, pos := "ref.go:54", after := #[], guard := none }) (v := ?_) rfl (by kernel_rfl) (by kernel_rfl) (by kernel_rfl) (fun _ _ _ h => h) (Or.inl ⟨by rfl, ?_⟩) (by assumption) ?_
          rotate_left
          · intro w hSw; (try dsimp only at hSw); go_simp; try with_reducible rfl
          simp only [Act.put, List.setIfInBounds_toArray, List.set_cons_zero, List.set_cons_succ]
          refine wpAnyH_take (i := 18) (oi := { dst := some 40, op := Op.move (Operand.tmp 0), type := 88, pos := "ref.go:54", after := #[], guard := none }) (v := ?_) rfl (by kernel_rfl) (by kernel_rfl) (by kernel_rfl) (fun _ _ _ h => h) (Or.inl ⟨by rfl, ?_⟩) (by assumption) ?_
          rotate_left
          · intro w hSw; (try dsimp only at hSw); go_simp; try with_reducible rfl
          simp only [Act.put, List.setIfInBounds_toArray, List.set_cons_zero, List.set_cons_succ]
          refine wpAnyH_take (i := 19) (oi := { dst := some 41, op := Op.move (Operand.tmp 6), type := 3, pos := "ref.go:54", after := #[], guard := none }) (v := ?_) rfl (by kernel_rfl) (by kernel_rfl) (by kernel_rfl) (fun _ _ _ h => h) (Or.inl ⟨by rfl, ?_⟩) (by assumption) ?_
          rotate_left
          · intro w hSw; (try dsimp only at hSw); go_simp; try with_reducible rfl
          simp only [Act.put, List.setIfInBounds_toArray, List.set_cons_zero, List.set_cons_succ]
          refine wpAnyH_take (i := 20) (oi := { dst := some 42, op := Op.indexAddr 88 (Operand.tmp 40) (Operand.tmp 41), type := 0, pos := "ref.go:54", after := #[{ on := 18, ground := Ground.data }, { on := 19, ground := Ground.data }], guard := none }) (v := ?_) rfl (by kernel_rfl) (by kernel_rfl) (by kernel_rfl) (fun _ _ _ h => h) (Or.inl ⟨by rfl, ?_⟩) (by assumption) ?_
          rotate_left
          · intro w hSw; (try dsimp only at hSw); go_simp; try with_reducible rfl
          simp only [Act.put, List.setIfInBounds_toArray, List.set_cons_zero, List.set_cons_succ]
          refine wpAnyH_take (i := 21) (oi := { dst := some 43, op := Op.fieldAddr 152 (Operand.tmp 42) 3, type := 0, pos := "ref.go:54", after := #[{ on := 20, ground := Ground.data }], guard := none }) (v := ?_) rfl (by kernel_rfl) (by kernel_rfl) (by kernel_rfl) (fun _ _ _ h => h) (Or.inl ⟨by rfl, ?_⟩) (by assumption) ?_
          rotate_left
          · intro w hSw; (try dsimp only at hSw); go_simp; try with_reducible rfl
          simp only [Act.put, List.setIfInBounds_toArray, List.set_cons_zero, List.set_cons_succ]
          refine wpAnyH_take (i := 22) (oi := { dst := some 44, op := Op.load 22 (Operand.tmp 43), type := 22, pos := "ref.go:54", after := #[{ on := 21, ground := Ground.data }], guard := none }) (v := ?_) rfl (by kernel_rfl) (by kernel_rfl) (by kernel_rfl) (fun _ _ _ h => h) (Or.inl ⟨by rfl, ?_⟩) (by assumption) ?_
          rotate_left
          · intro w hSw; (try dsimp only at hSw); go_simp; try with_reducible rfl
          simp only [Act.put, List.setIfInBounds_toArray, List.set_cons_zero, List.set_cons_succ]
          refine wpAnyH_ready (rs := [6]) (by kernel_rfl) (by simp) (AllReadyH.cons (o := { dst := some 28, op := Op.call { callee := Callee.value (Operand.func 75), args := #[Operand.tmp 27, Operand.const (Value.int IntKind.i64 8)], argTypes := #[3, 3] }, type := 9, pos := "ref.go:54", after := #[{ on := 5, ground := Ground.data }], guard := none }) rfl (fun KK hK => ?_) AllReadyH.nil)
          · go_simp
            go_at_call 75
            with_reducible refine (sr_bytesV p 8 8 rfl (by decide) g1 Z1.out NP.out hs).mono ?_
            rintro e wq ⟨rfl, hs⟩
            refine hK.out _ _ (HKP.out _ hs) (fun hHeld => ?_)
            clear hK KK
            try simp only [Act.put, List.setIfInBounds_toArray, List.set_cons_zero, List.set_cons_succ]
            refine wpAnyH_take (i := 7) (oi := { dst := some 29, op := Op.binOp BinOp.add 9 (Operand.tmp 22) (Operand.tmp 28) 9, type := 9, pos := "ref.go:54", after := #[{ on := 0, ground := Ground.data }, { on := 6, ground := Ground.data }], guard := none }) (v := ?_) rfl (by kernel_rfl) (by kernel_rfl) (by kernel_rfl) (fun _ _ _ h => h) (Or.inl ⟨by rfl, ?_⟩) (by assumption) ?_
            rotate_left
            · intro w hSw; (try dsimp only at hSw); go_simp; try with_reducible rfl
            simp only [Act.put, List.setIfInBounds_toArray, List.set_cons_zero, List.set_cons_succ]
            refine wpAnyH_ready (rs := [13]) (by kernel_rfl) (by simp) (AllReadyH.cons (o := { dst := some 35, op := Op.call { callee := Callee.value (Operand.func 75), args := #[Operand.tmp 34, Operand.const (Value.int IntKind.i64 2)], argTypes := #[3, 3] }, type := 9, pos := "ref.go:54", after := #[{ on := 12, ground := Ground.data }, { on := 6, ground := Ground.chain }], guard := none }) rfl (fun KK hK => ?_) AllReadyH.nil)
            · go_simp
              go_at_call 75
              with_reducible refine (sr_bytesV e 2 2 rfl (by decide) g2 Z2.out NE.out hs).mono ?_
              rintro e wq ⟨rfl, hs⟩
              refine hK.out _ _ (HKP.out _ hs) (fun hHeld => ?_)
              clear hK KK
              try simp only [Act.put, List.setIfInBounds_toArray, List.set_cons_zero, List.set_cons_succ]
              refine wpAnyH_take (i := 14) (oi := { dst := some 36, op := Op.binOp BinOp.add 9 (Operand.tmp 29) (Operand.tmp 35) 9, type := 9, pos := "ref.go:54", after := #[{ on := 7, ground := Ground.data }, { on := 13, ground := Ground.data }], guard := none }) (v := ?_) rfl (by kernel_rfl) (by kernel_rfl) (by kernel_rfl) (fun _ _ _ h => h) (Or.inl ⟨by rfl, ?_⟩) (by assumption) ?_
              rotate_left
              · intro w hSw; (try dsimp only at hSw); go_simp; try with_reducible rfl
              simp only [Act.put, List.setIfInBounds_toArray, List.set_cons_zero, List.set_cons_succ]
              refine wpAnyH_ready (rs := [16]) (by kernel_rfl) (by simp) (AllReadyH.cons (o := { dst := some 38, op := Op.call { callee := Callee.value (Operand.func 75), args := #[Operand.tmp 37, Operand.const (Value.int IntKind.i64 1)], argTypes := #[3, 3] }, type := 9, pos := "ref.go:54", after := #[{ on := 15, ground := Ground.data }, { on := 13, ground := Ground.chain }], guard := none }) rfl (fun KK hK => ?_) AllReadyH.nil)
              · go_simp
                go_at_call 75
                with_reducible refine (sr_bytesV _ 1 1 rfl (by decide) g3 Z3.out (by decide) hs).mono ?_
                rintro e wq ⟨rfl, hs⟩
                refine hK.out _ _ (HKP.out _ hs) (fun hHeld => ?_)
                clear hK KK
                try simp only [Act.put, List.setIfInBounds_toArray, List.set_cons_zero, List.set_cons_succ]
                refine wpAnyH_take (i := 17) (oi := { dst := some 39, op := Op.binOp BinOp.add 9 (Operand.tmp 36) (Operand.tmp 38) 9, type := 9, pos := "ref.go:54", after := #[{ on := 14, ground := Ground.data }, { on := 16, ground := Ground.data }], guard := none }) (v := ?_) rfl (by kernel_rfl) (by kernel_rfl) (by kernel_rfl) (fun _ _ _ h => h) (Or.inl ⟨by rfl, ?_⟩) (by assumption) ?_
                rotate_left
                · intro w hSw; (try dsimp only at hSw); go_simp; try with_reducible rfl
                simp only [Act.put, List.setIfInBounds_toArray, List.set_cons_zero, List.set_cons_succ]
                refine wpAnyH_ready (rs := [23]) (by kernel_rfl) (by simp) (AllReadyH.cons (o := { dst := some 45, op := Op.call { callee := Callee.value (Operand.func 33), args := #[Operand.tmp 44], argTypes := #[22] }, type := 9, pos := "ref.go:54", after := #[{ on := 22, ground := Ground.data }, { on := 16, ground := Ground.chain }], guard := none }) rfl (fun KK hK => ?_) AllReadyH.nil)
                · go_simp
                  go_at_call 33
                  with_reducible refine (ref14_topics xl xq xcap g4 Z4.out HFT.out HXK.out hs).mono ?_
                  rintro e wq ⟨rfl, hs⟩
                  refine hK.out _ _ (HKP.out _ hs) (fun hHeld => ?_)
                  clear hK KK
                  try simp only [Act.put, List.setIfInBounds_toArray, List.set_cons_zero, List.set_cons_succ]
                  refine wpAnyH_take (i := 24) (oi := { dst := some 46, op := Op.binOp BinOp.add 9 (Operand.tmp 39) (Operand.tmp 45) 9, type := 9, pos := "ref.go:54", after := #[{ on := 17, ground := Ground.data }, { on := 23, ground := Ground.data }], guard := none }) (v := ?_) rfl (by kernel_rfl) (by kernel_rfl) (by kernel_rfl) (fun _ _ _ h => h) (Or.inl ⟨by rfl, ?_⟩) (by assumption) ?_
                  rotate_left
                  · intro w hSw; (try dsimp only at hSw); go_simp; try with_reducible rfl
                  simp only [Act.put, List.setIfInBounds_toArray, List.set_cons_zero, List.set_cons_succ]
                  refine wpAnyH_take (i := 25) (oi := { dst := some 5, op := Op.assign (Operand.tmp 46), type := 9, pos := "ref.go:54", after := #[{ on := 24, ground := Ground.data }, { on := 23, ground := Ground.chain }, { on := 0, ground := Ground.phase }, { on := 1, ground := Ground.phase }, { on := 2, ground := Ground.phase }, { on := 3, ground := Ground.phase }, { on := 4, ground := Ground.phase }, { on := 5, ground := Ground.phase }, { on := 6, ground := Ground.phase }, { on := 7, ground := Ground.phase }, { on := 8, ground := Ground.phase }, { on := 9, ground := Ground.phase }, { on := 10, ground := Ground.phase }, { on := 11, ground := Ground.phase }, { on := 12, ground := Ground.phase }, { on := 13, ground := Ground.phase }, { on := 14, ground := Ground.phase }, { on := 15, ground := Ground.phase }, { on := 16, ground := Ground.phase }, { on := 17, ground := Ground.phase }, { on := 18, ground := Ground.phase }, { on := 19, ground := Ground.phase }, { on := 20, ground := Ground.phase }, { on := 21, ground := Ground.phase }, { on := 22, ground := Ground.phase }, { on := 23, ground := Ground.phase }, { on := 24, ground := Ground.phase }], guard := none }) (v := ?_) rfl (by kernel_rfl) (by kernel_rfl) (by kernel_rfl) (fun _ _ _ h => h) (Or.inl ⟨by rfl, ?_⟩) (by assumption) ?_
                  rotate_left
                  · intro w hSw; (try dsimp only at hSw); go_simp; try with_reducible rfl
                  simp only [Act.put, List.setIfInBounds_toArray, List.set_cons_zero, List.set_cons_succ]
                  refine wpAnyH_done (by kernel_rfl) ?_ _
                  go_wp2_with fail
                  go_meet
                  exact ⟨rfl, hs⟩
        obtain ⟨rfl, h⟩ := hcut
        obtain ⟨f0, f1, f2, f3, f4⟩ := HKP.out _ h
        clear H
        have H := Lib.hid h
        clear h
        by_cases hv : v = 1
        · subst hv
          rw [if_pos rfl, hg5] at hB6
          obtain ⟨y5, hy5⟩ : ∃ y, y4 ++ g5 = y := ⟨_, rfl⟩
          have hcat5 : bb y4 ++ bb g5 = bb y5 := by rw [← hy5]; exact bb_append _ _
          have HB6 := Lib.hid (hB6.trans hy5)
          clear hg5 hB6 hy5
          go_wp2_with (go_at_call 75; (with_reducible refine (sr_bytesV co 4 4 rfl (by decide) g5 Z5.out NC.out H.out).mono ?_); rintro e_ wn ⟨rfl, h⟩; replace H := Lib.hid h; clear h)
          go_roundw
          case rel => exact ⟨k + 1, y5, hlt, by go_num, rfl, HB6, H.out⟩
          case measure => first | (simp [intOf]; done) | (simp [intOf]; omega)
        · rw [if_neg hv, List.append_nil] at hB6
          have HB6 := Lib.hid hB6
          have gv : (v == 1) = false := by rw [beq_eq_false_iff_ne]; exact hv
          clear hg5 hB6 hv
          go_wp2_with (fail)
          go_roundw
          case rel => exact ⟨k + 1, y4, hlt, by go_num, rfl, HB6, H.out⟩
          case measure => first | (simp [intOf]; done) | (simp [intOf]; omega)
    · obtain rfl : k = l.length := by omega
      have hz : B0 = S := by rw [← HB0.out, ← HE.out, ← preM_all, List.length_map]
      subst hz
      go_wp2
      go_ret
      exact ⟨rfl, H.out⟩

end Go.Proofs.Ytombolmicfjjpaa

/- How many topics are looked at. -/
namespace Go.Proofs.Ytombolmicfjjpaa
open Go.RowKit

set_option maxHeartbeats 2000000 in
set_option maxRecDepth 100000 in
theorem law14_few (l : List (TopS × Value)) (q : Option Addr) (cap : Nat) (hnl : l.length ≤ 140737488351232) (hb : ∀ x ∈ l, x.1.name.length ≤ 140737488351232 ∧ x.1.parts.length ≤ 17592186043904) (r : Int) (hr : few (l.map (·.1)) = r) {W0 w : World} {K : Know} {L : List Res} (hk : K.has (Know.tops (.slice q l.length cap) l)) (h : St W0 w K L) :
    Calls Try.prog 14 #[.slice q l.length cap] w fun en w' => en = .returned (.int .i64 r) ∧ St W0 w' K L := by
  have H := Lib.hid h
  have HK := Lib.hid hk
  have HR := Lib.hid hr
  have HB := Lib.hid hb
  clear h hk hr hb
  go_enter Try.func14, Try.ntmps14
  go_wp2
  go_loopw [3, 8] (fun sv iv wr => ∃ (k m : Nat), k ≤ l.length ∧ iv = .int .i64 k ∧ sv = .int .i64 m ∧ topWs ((l.map (·.1)).take k) = m ∧ m ≤ 1000 ∧ St W0 wr K L) (fun _ iv _ => l.length - (intOf iv).toNat)
  case atStart => exact ⟨0, 0, Nat.zero_le _, rfl, rfl, by simp [topWs], by omega, H.out⟩
  case round =>
    obtain ⟨k, m, hkl, rfl, rfl, hm, hm0, hst⟩ := hrel
    clear H
    have H := Lib.hid hst
    clear hst
    by_cases hlt : k < l.length
    · as_aux_lemma =>
      obtain ⟨b, off, hqq⟩ := tops_at HK.out H.out (by omega)
      subst hqq
      obtain ⟨⟨⟨nm, ps⟩, vx⟩, hx⟩ : ∃ x, l[k] = x := ⟨_, rfl⟩
      obtain ⟨c0, c1⟩ : wr.cell? ⟨b, off + k * 2, none⟩ = some (.string (bb nm)) ∧ wr.cell? ⟨b, off + k * 2 + 1, none⟩ = some vx := tops_cell HK.out H.out k hlt _ hx
      have hmem : ((⟨nm, ps⟩ : TopS), vx) ∈ l := hx ▸ List.getElem_mem hlt
      have hxk : K.has (Know.flat RI vx 1 ps) := tops_parts HK.out hmem
      obtain ⟨qx, capx, hvx⟩ := flat_form hxk H.out
      subst hvx
      have HXK := Lib.hid hxk
      have hmk : k < (l.map (·.1)).length := by rw [List.length_map]; exact hlt
      have hmg : (l.map (·.1))[k] = ⟨nm, ps⟩ := by rw [List.getElem_map, hx]
      have hkn : (k : Int) < (l.length : Int) := by omega
      obtain ⟨hn1, hn2⟩ := HB.out _ hmem
      replace hn1 : nm.length ≤ 140737488351232 := hn1
      replace hn2 : ps.length ≤ 17592186043904 := hn2
      have hst1 := topWs_take (l.map (·.1)) k hmk _ hmg
      rw [hm] at hst1
      replace hst1 : topWs ((l.map (·.1)).take (k + 1)) = m + (nm.length + 4 * ps.length + 6) := hst1
      have hlk := topWs_le (l.map (·.1)) (k + 1)
      obtain ⟨M, hM⟩ : ∃ M : Nat, m + (nm.length + 4 * ps.length + 6) = M := ⟨_, rfl⟩
      have hMi : (m : Int) + ((nm.length : Int) + 4 * (ps.length : Int) + 6) = (M : Int) := by omega
      have hm1 : (m : Int) ≤ 1000 := by omega
      have hMb : M ≤ 1000000000000000 := by omega
      rw [hM] at hst1
      by_cases hMl : M ≤ 1000
      · have g1 : ¬ (1000 < (m : Int) + ((nm.length : Int) + 4 * (ps.length : Int) + 6)) := by omega
        have HST := Lib.hid hst1
        have HMI := Lib.hid hMi
        have HML := Lib.hid hMl
        clear hst1 hx hmem hxk hmk hmg hm hM hMl hlk hm0 hMi hMb
        go_wp2
        go_roundw
        case rel => exact ⟨k + 1, M, hlt, by go_num, by rw [HMI.out], HST.out, HML.out, H.out.alloc _⟩
        case measure => first | (simp [intOf]; done) | (simp [intOf]; omega)
      · have g1 : 1000 < (m : Int) + ((nm.length : Int) + 4 * (ps.length : Int) + 6) := by omega
        have hz : r = 0 := by
          rw [← HR.out]; unfold few
          rw [if_neg (by omega)]
        subst hz
        have HMI := Lib.hid hMi
        clear hst1 hx hmem hxk hmk hmg hm hM hMl hlk hm0 hMi hMb
        go_wp2
        go_ret
        exact ⟨rfl, H.out.alloc _⟩
    · obtain rfl : k = l.length := by omega
      have hz : r = 1 := by
        rw [← HR.out]; unfold few
        rw [List.take_of_length_le (by rw [List.length_map]; exact Nat.le_refl _)] at hm
        rw [if_pos (by omega)]
      subst hz
      go_wp2
      go_ret
      exact ⟨rfl, H.out⟩

end Go.Proofs.Ytombolmicfjjpaa
