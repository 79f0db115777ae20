/- Heads of requests (pure). -/
import Derived.Test.YthppodbjjfkmfaaDoorVer2
import Derived.Test.YthppodbjjfkmfaaDoorBlobP
import Derived.Test.YthppodbjjfkmfaaDoorKeyP
namespace Go.Proofs.YthppodbjjfkmfaaDoor
open Go.RowKit

structure HeadS where
  kind : Int
  ver : Int
  num : Int
  cli : BlobS
deriving DecidableEq
def HeadS.z : HeadS := ⟨0, 0, 0, ⟨false, []⟩⟩
def HeadS.R (h : HeadS) : Prop := (-9223372036854775808 ≤ h.kind ∧ h.kind < 9223372036854775808) ∧ (-9223372036854775808 ≤ h.ver ∧ h.ver < 9223372036854775808) ∧ (-9223372036854775808 ≤ h.num ∧ h.num < 9223372036854775808)
/-- The error of a head. -/
def headErr (h : HeadS) : Int := if verErr h.kind h.ver ≠ 0 then verErr h.kind h.ver else if ¬ fits h.num 4 then 11 else if h.cli.right = false ∨ 32767 < h.cli.data.length then 4 else 0
def encHead (h : HeadS) : Bs := beBytes h.kind 2 ++ (beBytes h.ver 2 ++ (beBytes h.num 4 ++ encF 2 h.cli))
def OutS.head (o : OutS) (h : HeadS) : OutS := if headErr h ≠ 0 then o.fail (headErr h) else (((o.int h.kind 2).int h.ver 2).int h.num 4).putFixed h.cli 2
theorem verErr_small (k v : Int) (h : verErr k v = 0) : (0 ≤ k ∧ k ≤ 27) ∧ (0 ≤ v ∧ v ≤ 4) := by
  unfold verErr reqOf at h
  repeat' split at h
  all_goals first
    | (simp at h; done)
    | (simp at *; done)
    | (simp at *; omega)
theorem fits2_small (n : Int) (h : 0 ≤ n ∧ n ≤ 27) : fits n 2 := by
  have h2 : half 2 = 32768 := by decide
  refine ⟨by decide, by decide, ?_, ?_⟩ <;> simp [h2] <;> omega
theorem head_put (h : HeadS) (hh : headErr h = 0) : (⟨[], 0⟩ : OutS).head h = ⟨encHead h, 0⟩ ∧ verErr h.kind h.ver = 0 ∧ fits h.num 4 ∧ h.cli.right = true ∧ h.cli.data.length ≤ 32767 := by
  have e := hh
  unfold headErr at e
  by_cases h1 : verErr h.kind h.ver = 0
  · rw [if_neg (fun x => x h1)] at e
    by_cases h2 : fits h.num 4
    · rw [if_neg (fun x => x h2)] at e
      by_cases h3 : h.cli.right = false ∨ 32767 < h.cli.data.length
      · rw [if_pos h3] at e; cases e
      · have hr : h.cli.right = true := by cases hx : h.cli.right with
          | false => exact absurd (.inl hx) h3
          | true => rfl
        have hl : h.cli.data.length ≤ 32767 := by omega
        refine ⟨?_, h1, h2, hr, hl⟩
        obtain ⟨s1, s2⟩ := verErr_small _ _ h1
        have hb : fits h.cli.len 2 := by
          have h2 : half 2 = 32768 := by decide
          unfold BlobS.len
          refine ⟨by decide, by decide, ?_, ?_⟩ <;> simp [h2] <;> split <;> omega
        unfold OutS.head OutS.putFixed OutS.int OutS.putData
        rw [if_neg (fun x => x hh), if_pos (fits2_small _ s1), if_pos (fits2_small _ ⟨s2.1, by omega⟩), if_pos h2, if_pos hb, hr]
        simp [OutS.put, encHead, encF, List.append_assoc]
    · rw [if_pos h2] at e; cases e
  · rw [if_pos h1] at e; exact absurd e h1
theorem head_bad (h : HeadS) (hh : headErr h ≠ 0) : (⟨[], 0⟩ : OutS).head h = ⟨[], headErr h⟩ := by
  unfold OutS.head
  rw [if_pos hh]
  rfl
def headA (i : InS) : Int × InS := i.int 2
def headB (i : InS) : Int × InS := (headA i).2.int 2
def headE (i : InS) : Int := verErr (headA i).1 (headB i).1
def headC (i : InS) : InS := if headE i = 0 then (headB i).2 else (headB i).2.fail (headE i)
def headD (i : InS) : Int × InS := (headC i).int 4
def headF (i : InS) : BlobS × InS := (headD i).2.fixed 2
def InS.head (i : InS) : HeadS × InS := (if (headF i).2.err = 0 then ⟨(headA i).1, (headB i).1, (headD i).1, (headF i).1⟩ else HeadS.z, (headF i).2)
def reHead (s : Bs) : Except Int (HeadS × Nat) :=
  if s.length < 4 then .error 1
  else if verErr (sInt (s.take 2)) (sInt ((s.drop 2).take 2)) ≠ 0 then .error (verErr (sInt (s.take 2)) (sInt ((s.drop 2).take 2)))
  else if s.length < 8 then .error 1
  else match refixed 2 (s.drop 8) with
    | .error e => .error e
    | .ok x => .ok (⟨sInt (s.take 2), sInt ((s.drop 2).take 2), sInt ((s.drop 4).take 4), x.1⟩, 8 + x.2)
theorem fail_st {i : InS} (h : i.err ≠ 0) (e : Int) : i.fail e = i := if_neg h
theorem head_of (i : InS) (a b : Int) (iA iB iC : InS) (hA : i.int 2 = (a, iA)) (hB : iA.int 2 = (b, iB)) (hC : (if verErr a b = 0 then iB else iB.fail (verErr a b)) = iC) :
    InS.head i = (if ((iC.int 4).2.fixed 2).2.err = 0 then ⟨a, b, (iC.int 4).1, ((iC.int 4).2.fixed 2).1⟩ else HeadS.z, ((iC.int 4).2.fixed 2).2) := by
  have e1 : headA i = (a, iA) := hA
  have e2 : headB i = (b, iB) := by unfold headB; rw [e1]; exact hB
  have e3 : headE i = verErr a b := by unfold headE; rw [e1, e2]
  have e4 : headC i = iC := by unfold headC; rw [e2, e3]; exact hC
  unfold InS.head headF headD
  rw [e1, e2, e4]
theorem head_stuckC (i : InS) (a b : Int) (iA iB iC : InS) (hA : i.int 2 = (a, iA)) (hB : iA.int 2 = (b, iB)) (hC : (if verErr a b = 0 then iB else iB.fail (verErr a b)) = iC) (he : iC.err ≠ 0) : InS.head i = (HeadS.z, iC) := by
  have h4 : iC.int 4 = (0, iC) := (rds_intN 4 (by decide) (by decide)).stuck iC he
  have h5 : iC.fixed 2 = (⟨false, []⟩, iC) := (rds_fixed 2 (by decide) (by decide)).stuck iC he
  rw [head_of i a b iA iB iC hA hB hC, h4]
  simp only
  rw [h5, if_neg he]
theorem rds_head : Rds InS.head reHead HeadS.z := by
  have r2 := rds_intN 2 (by decide) (by decide)
  have r4 := rds_intN 4 (by decide) (by decide)
  have rf := rds_fixed 2 (by decide) (by decide)
  have g2 : ∀ (s : Bs) (pos : Nat), pos + 2 ≤ s.length → (⟨s, pos, 0⟩ : InS).int 2 = (sInt ((s.drop pos).take 2), ⟨s, pos + 2, 0⟩) := by
    intro s pos hp
    exact (r2.ok s pos _ 2 (by omega) (if_neg (by rw [List.length_drop]; omega))).2
  have g4 : ∀ (s : Bs) (pos : Nat), pos + 4 ≤ s.length → (⟨s, pos, 0⟩ : InS).int 4 = (sInt ((s.drop pos).take 4), ⟨s, pos + 4, 0⟩) := by
    intro s pos hp
    exact (r4.ok s pos _ 4 (by omega) (if_neg (by rw [List.length_drop]; omega))).2
  have g2e : ∀ (s : Bs) (pos : Nat), pos ≤ s.length → s.length < pos + 2 → ∃ q, q ≤ s.length ∧ (⟨s, pos, 0⟩ : InS).int 2 = (0, ⟨s, q, 1⟩) := by
    intro s pos hp hl
    exact (r2.err s pos 1 hp (if_pos (by rw [List.length_drop]; omega))).2
  have g4e : ∀ (s : Bs) (pos : Nat), pos ≤ s.length → s.length < pos + 4 → ∃ q, q ≤ s.length ∧ (⟨s, pos, 0⟩ : InS).int 4 = (0, ⟨s, q, 1⟩) := by
    intro s pos hp hl
    exact (r4.err s pos 1 hp (if_pos (by rw [List.length_drop]; omega))).2
  refine ⟨?_, ?_, ?_⟩
  · intro s pos a k hp h
    unfold reHead at h
    rw [List.length_drop, List.drop_drop, List.drop_drop, List.drop_drop] at h
    by_cases h1 : s.length - pos < 4
    · rw [if_pos h1] at h; cases h
    rw [if_neg h1] at h
    by_cases h2 : verErr (sInt ((s.drop pos).take 2)) (sInt ((s.drop (pos + 2)).take 2)) = 0
    · rw [if_neg (fun x => x h2)] at h
      by_cases h3 : s.length - pos < 8
      · rw [if_pos h3] at h; cases h
      rw [if_neg h3] at h
      cases hx : refixed 2 (s.drop (pos + 8)) with
      | error e => rw [hx] at h; cases h
      | ok x =>
        obtain ⟨b, m⟩ := x
        rw [hx] at h
        simp only [Except.ok.injEq, Prod.mk.injEq] at h
        obtain ⟨rfl, rfl⟩ := h
        obtain ⟨q1, q2⟩ := rf.ok s (pos + 8) b m (by omega) hx
        refine ⟨by omega, ?_⟩
        rw [head_of _ _ _ _ _ _ (g2 s pos (by omega)) (g2 s (pos + 2) (by omega)) (if_pos h2), g4 s (pos + 2 + 2) (by omega)]
        have q3 : (⟨s, pos + 2 + 2 + 4, 0⟩ : InS).fixed 2 = (b, ⟨s, pos + 8 + m, 0⟩) := q2
        simp only
        rw [q3]
        simp only [if_true, Nat.add_assoc]
    · rw [if_pos h2] at h; cases h
  · intro s pos e hp h
    unfold reHead at h
    rw [List.length_drop, List.drop_drop, List.drop_drop, List.drop_drop] at h
    by_cases h1 : s.length - pos < 4
    · rw [if_pos h1] at h
      obtain rfl : (1 : Int) = e := by simpa using h
      refine ⟨by decide, ?_⟩
      by_cases h0 : s.length - pos < 2
      · obtain ⟨q, hq, e1⟩ := g2e s pos hp (by omega)
        have e2 : (⟨s, q, 1⟩ : InS).int 2 = (0, ⟨s, q, 1⟩) := r2.stuck _ (by show (1 : Int) ≠ 0; decide)
        have e3 : (if verErr 0 0 = 0 then (⟨s, q, 1⟩ : InS) else (⟨s, q, 1⟩ : InS).fail (verErr 0 0)) = ⟨s, q, 1⟩ := by
          split
          · rfl
          · exact fail_st (by show (1 : Int) ≠ 0; decide) _
        exact ⟨q, hq, head_stuckC _ _ _ _ _ _ e1 e2 e3 (by show (1 : Int) ≠ 0; decide)⟩
      · obtain ⟨q, hq, e2⟩ := g2e s (pos + 2) (by omega) (by omega)
        have e3 : ∀ x : Int, (if verErr x 0 = 0 then (⟨s, q, 1⟩ : InS) else (⟨s, q, 1⟩ : InS).fail (verErr x 0)) = ⟨s, q, 1⟩ := by
          intro x
          split
          · rfl
          · exact fail_st (by show (1 : Int) ≠ 0; decide) _
        exact ⟨q, hq, head_stuckC _ _ _ _ _ _ (g2 s pos (by omega)) e2 (e3 _) (by show (1 : Int) ≠ 0; decide)⟩
    rw [if_neg h1] at h
    by_cases h2 : verErr (sInt ((s.drop pos).take 2)) (sInt ((s.drop (pos + 2)).take 2)) = 0
    · rw [if_neg (fun x => x h2)] at h
      by_cases h3 : s.length - pos < 8
      · rw [if_pos h3] at h
        obtain rfl : (1 : Int) = e := by simpa using h
        refine ⟨by decide, ?_⟩
        obtain ⟨q, hq, e4⟩ := g4e s (pos + 2 + 2) (by omega) (by omega)
        refine ⟨q, hq, ?_⟩
        rw [head_of _ _ _ _ _ _ (g2 s pos (by omega)) (g2 s (pos + 2) (by omega)) (if_pos h2), e4]
        have e5 : (⟨s, q, 1⟩ : InS).fixed 2 = (⟨false, []⟩, ⟨s, q, 1⟩) := rf.stuck _ (by show (1 : Int) ≠ 0; decide)
        simp only
        rw [e5]
        rfl
      rw [if_neg h3] at h
      cases hx : refixed 2 (s.drop (pos + 8)) with
      | ok x => rw [hx] at h; cases h
      | error e' =>
        rw [hx] at h
        obtain rfl : e' = e := by simpa using h
        obtain ⟨he, q, hq, q2⟩ := rf.err s (pos + 8) e' (by omega) hx
        refine ⟨he, q, hq, ?_⟩
        rw [head_of _ _ _ _ _ _ (g2 s pos (by omega)) (g2 s (pos + 2) (by omega)) (if_pos h2), g4 s (pos + 2 + 2) (by omega)]
        have q3 : (⟨s, pos + 2 + 2 + 4, 0⟩ : InS).fixed 2 = (⟨false, []⟩, ⟨s, q, e'⟩) := q2
        simp only
        rw [q3]
        simp only
        rw [if_neg he]
    · rw [if_pos h2] at h
      obtain rfl : verErr (sInt ((s.drop pos).take 2)) (sInt ((s.drop (pos + 2)).take 2)) = e := by simpa using h
      refine ⟨h2, pos + 2 + 2, by omega, ?_⟩
      exact head_stuckC _ _ _ _ _ _ (g2 s pos (by omega)) (g2 s (pos + 2) (by omega)) ((if_neg h2).trans rfl) h2
  · intro i hi
    have e1 : i.int 2 = (0, i) := r2.stuck i hi
    have e3 : (if verErr 0 0 = 0 then i else i.fail (verErr 0 0)) = i := by
      split
      · rfl
      · exact fail_st hi _
    exact head_stuckC _ _ _ _ _ _ e1 e1 e3 hi
theorem refixed_one (t : Bs) (b : BlobS) (m : Nat) (h : refixed 2 t = .ok (b, m)) : encF 2 b = t.take m ∧ m ≤ t.length ∧ b.right = true ∧ b.data.length + 2 ≤ t.length := by
  unfold refixed at h
  by_cases h1 : t.length < 2
  · rw [if_pos h1] at h; cases h
  rw [if_neg h1] at h
  have hb : beBytes (sInt (t.take 2)) 2 = t.take 2 := by
    have := beBytes_sInt (t.take 2)
    rwa [List.length_take, Nat.min_eq_left (by omega)] at this
  unfold gotS at h
  by_cases h2 : sInt (t.take 2) = -1
  · rw [if_pos h2] at h
    simp only [Except.ok.injEq, Prod.mk.injEq] at h
    obtain ⟨rfl, rfl⟩ := h
    rw [h2] at hb
    refine ⟨?_, by omega, rfl, by simp [BlobS.none]; omega⟩
    show beBytes (-1) 2 ++ [] = _
    rw [List.append_nil, hb]
  rw [if_neg h2] at h
  by_cases h3 : sInt (t.take 2) < 0
  · rw [if_pos h3] at h; cases h
  rw [if_neg h3] at h
  by_cases h4 : (t.length : Int) - (2 : Nat) < sInt (t.take 2)
  · rw [if_pos h4] at h; cases h
  rw [if_neg h4] at h
  simp only [Except.ok.injEq, Prod.mk.injEq] at h
  obtain ⟨rfl, rfl⟩ := h
  obtain ⟨n, hn⟩ : ∃ n : Nat, sInt (t.take 2) = n := ⟨(sInt (t.take 2)).toNat, by omega⟩
  rw [hn] at hb h4 ⊢
  have hl : ((t.drop 2).take n).length = n := by rw [List.length_take, List.length_drop]; omega
  refine ⟨?_, ?_, rfl, ?_⟩
  · show beBytes ((((t.drop 2).take n).length : Nat) : Int) 2 ++ (t.drop 2).take n = _
    rw [hl, hb]
    rw [show ((n : Nat) : Int).toNat = n from rfl, List.take_add]
  · simp; omega
  · show ((t.drop 2).take n).length + 2 ≤ _
    rw [hl]; omega
theorem reHead_one (s : Bs) (h : HeadS) (m : Nat) (hx : reHead s = .ok (h, m)) : encHead h = s.take m ∧ m ≤ s.length ∧ h.cli.data.length ≤ s.length := by
  unfold reHead at hx
  by_cases h1 : s.length < 4
  · rw [if_pos h1] at hx; cases hx
  rw [if_neg h1] at hx
  by_cases h2 : verErr (sInt (s.take 2)) (sInt ((s.drop 2).take 2)) = 0
  · rw [if_neg (fun x => x h2)] at hx
    by_cases h3 : s.length < 8
    · rw [if_pos h3] at hx; cases hx
    rw [if_neg h3] at hx
    cases hf : refixed 2 (s.drop 8) with
    | error e => rw [hf] at hx; cases hx
    | ok x =>
      obtain ⟨b, k⟩ := x
      rw [hf] at hx
      simp only [Except.ok.injEq, Prod.mk.injEq] at hx
      obtain ⟨rfl, rfl⟩ := hx
      obtain ⟨e1, e2, _, e4⟩ := refixed_one _ _ _ hf
      rw [List.length_drop] at e2 e4
      refine ⟨?_, by omega, by simp only; omega⟩
      have b1 : beBytes (sInt (s.take 2)) 2 = s.take 2 := by
        have := beBytes_sInt (s.take 2)
        rwa [List.length_take, Nat.min_eq_left (by omega)] at this
      have b2 : beBytes (sInt ((s.drop 2).take 2)) 2 = (s.drop 2).take 2 := by
        have := beBytes_sInt ((s.drop 2).take 2)
        rwa [List.length_take, List.length_drop, Nat.min_eq_left (by omega)] at this
      have b3 : beBytes (sInt ((s.drop 4).take 4)) 4 = (s.drop 4).take 4 := by
        have := beBytes_sInt ((s.drop 4).take 4)
        rwa [List.length_take, List.length_drop, Nat.min_eq_left (by omega)] at this
      show beBytes _ 2 ++ (beBytes _ 2 ++ (beBytes _ 4 ++ encF 2 b)) = _
      rw [b1, b2, b3, e1]
      rw [show 8 + k = 2 + (2 + (4 + k)) by omega, List.take_add, List.take_add, List.drop_drop, List.take_add, List.drop_drop]
  · rw [if_pos h2] at hx; cases hx
theorem reHead_back (h : HeadS) (hh : headErr h = 0) (r : Bs) : reHead (encHead h ++ r) = .ok (h, (encHead h).length) := by
  obtain ⟨_, h1, h2, h3, h4⟩ := head_put h hh
  obtain ⟨s1, s2⟩ := verErr_small _ _ h1
  have f2 : ∀ n : Int, fits n 2 → sInt (beBytes n 2) = n := fun n hf => by
    have hfit := hf.2.2
    exact (sInt_beBytes_iff n 2 (by decide)).2 hfit
  have f4 : ∀ n : Int, fits n 4 → sInt (beBytes n 4) = n := fun n hf => by
    have hfit := hf.2.2
    exact (sInt_beBytes_iff n 4 (by decide)).2 hfit
  have e1 := f2 _ (fits2_small _ s1)
  have e2 := f2 h.ver (fits2_small _ ⟨s2.1, by omega⟩)
  have e3 := f4 _ h2
  have hb : fits h.cli.len 2 := by
    have h2 : half 2 = 32768 := by decide
    unfold BlobS.len
    refine ⟨by decide, by decide, ?_, ?_⟩ <;> simp [h2] <;> split <;> omega
  have e4 := refixed_back 2 h.cli h3 hb r
  have l2 : ∀ n : Int, (beBytes n 2).length = 2 := fun n => beBytes_length n 2
  have l4 : ∀ n : Int, (beBytes n 4).length = 4 := fun n => beBytes_length n 4
  obtain ⟨kind, ver, num, cli⟩ := h
  simp only at e1 e2 e3 e4 h1
  unfold reHead encHead
  simp only
  generalize hA : beBytes kind 2 = A at e1 ⊢
  generalize hB : beBytes ver 2 = B at e2 ⊢
  generalize hC : beBytes num 4 = C at e3 ⊢
  generalize encF 2 cli = D at e4 ⊢
  have la : A.length = 2 := by rw [← hA]; exact l2 _
  have lb : B.length = 2 := by rw [← hB]; exact l2 _
  have lc : C.length = 4 := by rw [← hC]; exact l4 _
  have t1 : (A ++ (B ++ (C ++ D)) ++ r).take 2 = A := by
    rw [List.append_assoc, List.take_append_of_le_length (by omega), List.take_of_length_le (by omega)]
  have t2 : (A ++ (B ++ (C ++ D)) ++ r).drop 2 = B ++ (C ++ (D ++ r)) := by
    rw [List.append_assoc, List.drop_append_of_le_length (by omega), List.drop_of_length_le (by omega)]
    simp
  have t3 : (A ++ (B ++ (C ++ D)) ++ r).drop 4 = C ++ (D ++ r) := by
    rw [show 4 = 2 + 2 from rfl, ← List.drop_drop, t2, List.drop_append_of_le_length (by omega), List.drop_of_length_le (by omega)]
    simp
  have t4 : (A ++ (B ++ (C ++ D)) ++ r).drop 8 = D ++ r := by
    rw [show 8 = 4 + 4 from rfl, ← List.drop_drop, t3, List.drop_append_of_le_length (by omega), List.drop_of_length_le (by omega)]
    simp
  have t5 : (B ++ (C ++ (D ++ r))).take 2 = B := by rw [List.take_append_of_le_length (by omega), List.take_of_length_le (by omega)]
  have t6 : (C ++ (D ++ r)).take 4 = C := by rw [List.take_append_of_le_length (by omega), List.take_of_length_le (by omega)]
  have hlen : 8 ≤ (A ++ (B ++ (C ++ D)) ++ r).length := by simp; omega
  rw [if_neg (by omega), t1, t2, t3, t4, t5, t6, e1, e2, e3, if_neg (fun x => x h1), if_neg (by omega), e4]
  simp
  omega

end Go.Proofs.YthppodbjjfkmfaaDoor
