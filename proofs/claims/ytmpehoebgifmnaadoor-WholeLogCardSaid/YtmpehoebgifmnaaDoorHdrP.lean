/- Headers, there and back. -/
import Derived.Test.YtmpehoebgifmnaaDoorHdr3
import Derived.Test.YtmpehoebgifmnaaDoorIntsP
namespace Go.Proofs.YtmpehoebgifmnaaDoor
open Go.RowKit

/-- What is written and what went wrong: a writer's answer. -/
def OutS.Good (o o' : OutS) (b : Bs) : Prop := o' = o.put b
theorem putVaried_right {o : OutS} {x : BlobS} (hx : x.right = true) (hl : x.data.length ≤ 2147483647) : o.putVaried x = o.put (encV x) := by
  unfold OutS.putVaried OutS.putData
  rw [if_pos hx]
  have hr : -2147483648 ≤ x.len ∧ x.len < 2147483648 := by unfold BlobS.len; split <;> omega
  have h1 : o.putInt x.len = o.put (putU (foldN x.len)) := by
    unfold OutS.putInt
    rw [if_pos (by have e4 : half 4 = 2147483648 := by decide
                   unfold fits
                   have : (4 : Int).toNat = 4 := rfl
                   rw [this, e4]; omega)]
  rw [h1, OutS.put_put]
  rfl
theorem putVaried_err {o : OutS} {x : BlobS} (h : o.err ≠ 0) : (o.putVaried x) = o := by
  unfold OutS.putVaried OutS.putData OutS.putInt
  have h1 : ∀ e, o.fail e = o := fun e => OutS.fail_stuck h e
  have h2 : ∀ s, o.put s = o := fun s => OutS.put_err h s
  simp only [h1, h2, ite_self]
theorem putVaried_wrong {o : OutS} {x : BlobS} (hx : x.right = false) (hl : x.data.length ≤ 2147483647) (he : o.err = 0) : (o.putVaried x).err = 4 := by
  unfold OutS.putVaried OutS.putData
  rw [if_neg (by rw [hx]; decide)]
  have hr : -2147483648 ≤ x.len ∧ x.len < 2147483648 := by unfold BlobS.len; split <;> omega
  have h1 : o.putInt x.len = o.put (putU (foldN x.len)) := by
    unfold OutS.putInt
    rw [if_pos (by have e4 : half 4 = 2147483648 := by decide
                   unfold fits
                   have : (4 : Int).toNat = 4 := rfl
                   rw [this, e4]; omega)]
  rw [h1]
  have h2 : (o.put (putU (foldN x.len))).err = 0 := by unfold OutS.put; rw [if_pos he]; exact he
  have h3 : ((o.put (putU (foldN x.len))).fail 4).err = 4 := by unfold OutS.fail; rw [if_pos h2]
  rw [OutS.put_err (by rw [h3]; decide), h3]
def encH (h : HdrS) : Bs := encV ⟨false, h.key⟩ ++ encV h.val
def encI (n : Int) : Bs := putU (foldN n)
def encHs (l : List HdrS) : Bs := encI l.length ++ l.flatMap encH
def hright (l : List HdrS) : Bool := l.all fun h => h.val.right
def hsum (l : List HdrS) : Nat := (l.map fun h => h.key.length + h.val.data.length + 1).sum
theorem hsum_cons (h : HdrS) (t : List HdrS) : hsum (h :: t) = h.key.length + h.val.data.length + 1 + hsum t := rfl
theorem hsum_le : ∀ (l : List HdrS), l.length ≤ hsum l ∧ hsize l = hsum l + 31 * l.length ∧ ∀ h ∈ l, h.key.length + h.val.data.length + 1 ≤ hsum l
  | [] => by simp [hsum, hsize]
  | h :: t => by
    obtain ⟨a, b, c⟩ := hsum_le t
    have e : hsize (h :: t) = h.size + hsize t := rfl
    rw [hsum_cons, e, b, List.length_cons]
    unfold HdrS.size
    refine ⟨by omega, by omega, ?_⟩
    intro x hx
    rcases List.mem_cons.1 hx with rfl | hx
    · omega
    · have := c x hx; omega
theorem putHdr_right {o : OutS} {h : HdrS} (hx : h.val.right = true) (hl : h.key.length + h.val.data.length ≤ 2147483647) : o.putHdr h = o.put (encH h) := by
  unfold OutS.putHdr OutS.putName
  rw [putVaried_right (x := ⟨false, h.key⟩) rfl (by simp only; omega), putVaried_right hx (by omega), OutS.put_put]
  rfl
theorem putHdr_err {o : OutS} {h : HdrS} (he : o.err ≠ 0) : o.putHdr h = o := by
  unfold OutS.putHdr OutS.putName
  rw [putVaried_err he, putVaried_err he]
theorem putHdr_wrong {o : OutS} {h : HdrS} (hx : h.val.right = false) (hl : h.key.length + h.val.data.length ≤ 2147483647) (he : o.err = 0) : (o.putHdr h).err = 4 := by
  unfold OutS.putHdr OutS.putName
  rw [putVaried_right (x := ⟨false, h.key⟩) rfl (by simp only; omega)]
  exact putVaried_wrong hx (by omega) (by unfold OutS.put; rw [if_pos he]; exact he)
theorem foldl_hdr_err : ∀ (l : List HdrS) (o : OutS), o.err ≠ 0 → l.foldl OutS.putHdr o = o
  | [], _, _ => rfl
  | h :: t, o, he => by
    rw [List.foldl_cons, putHdr_err he]
    exact foldl_hdr_err t o he
theorem foldl_hdr_right : ∀ (l : List HdrS) (o : OutS), hright l = true → hsum l ≤ 2147483647 → l.foldl OutS.putHdr o = o.put (l.flatMap encH)
  | [], o, _, _ => by rw [List.flatMap_nil, OutS.put_nil]; rfl
  | h :: t, o, hr, hs => by
    unfold hright at hr
    rw [List.all_cons, Bool.and_eq_true] at hr
    rw [hsum_cons] at hs
    rw [List.foldl_cons, putHdr_right hr.1 (by omega), foldl_hdr_right t _ hr.2 (by omega), OutS.put_put]
    rfl
theorem foldl_hdr_wrong : ∀ (l : List HdrS) (o : OutS), hright l = false → hsum l ≤ 2147483647 → o.err = 0 → (l.foldl OutS.putHdr o).err = 4
  | [], _, hr, _, _ => by cases hr
  | h :: t, o, hr, hs, he => by
    unfold hright at hr
    rw [List.all_cons] at hr
    rw [hsum_cons] at hs
    rw [List.foldl_cons]
    cases hv : h.val.right
    · have h1 := putHdr_wrong (o := o) hv (by omega) he
      rw [foldl_hdr_err t _ (by rw [h1]; decide), h1]
    · rw [hv, Bool.true_and] at hr
      refine foldl_hdr_wrong t _ hr (by omega) ?_
      rw [putHdr_right hv (by omega)]
      unfold OutS.put
      rw [if_pos he]
      exact he
theorem putInt_len {o : OutS} {n : Int} (h0 : -2147483648 ≤ n) (h1 : n < 2147483648) : o.putInt n = o.put (encI n) := by
  unfold OutS.putInt
  rw [if_pos (by have e4 : half 4 = 2147483648 := by decide
                 unfold fits
                 have : (4 : Int).toNat = 4 := rfl
                 rw [this, e4]; omega)]
  rfl
theorem putHdrs_right {o : OutS} {l : List HdrS} (hr : hright l = true) (hs : hsum l ≤ 2147483647) : o.putHdrs l = o.put (encHs l) := by
  have := (hsum_le l).1
  unfold OutS.putHdrs
  rw [putInt_len (by omega) (by omega), foldl_hdr_right l _ hr hs, OutS.put_put]
  rfl
theorem putHdrs_wrong {o : OutS} {l : List HdrS} (hr : hright l = false) (hs : hsum l ≤ 2147483647) (he : o.err = 0) : (o.putHdrs l).err = 4 := by
  have := (hsum_le l).1
  unfold OutS.putHdrs
  rw [putInt_len (by omega) (by omega)]
  exact foldl_hdr_wrong l _ hr hs (by unfold OutS.put; rw [if_pos he]; exact he)

/-- A header with which bytes begin. -/
def reHdr (l : Bs) : Except Int (HdrS × Nat) := match revaried l with
  | .error e => .error e
  | .ok x => if x.1.null then .error 4 else match revaried (l.drop x.2) with
    | .error e => .error e
    | .ok y => .ok (⟨x.1.data, y.1⟩, x.2 + y.2)
def reHdrN : Nat → Bs → Except Int (List HdrS × Nat)
  | 0, _ => .ok ([], 0)
  | n + 1, l => match reHdr l with
    | .error e => .error e
    | .ok x => match reHdrN n (l.drop x.2) with
      | .error e => .error e
      | .ok y => .ok (x.1 :: y.1, x.2 + y.2)
def reHdrs (l : Bs) : Except Int (List HdrS × Nat) := match vgetI l with
  | .error e => .error e
  | .ok x => if x.1 < 0 then .error 4 else if ((l.length : Int) - x.2) / 2 < x.1 then .error 1 else match reHdrN x.1.toNat (l.drop x.2) with
    | .error e => .error e
    | .ok y => .ok (y.1, x.2 + y.2)
theorem InS.fail_ok0' (s : Bs) (p : Nat) (e : Int) : (⟨s, p, 0⟩ : InS).fail e = ⟨s, p, e⟩ := rfl
theorem name_stuck {i : InS} (h : i.err ≠ 0) : i.name = ([], i) := by
  unfold InS.name
  rw [rds_varied.stuck i h]
  rfl
theorem reHdr_ok {s : Bs} {pos : Nat} {h : HdrS} {m : Nat} (hp : pos ≤ s.length) (e : reHdr (s.drop pos) = .ok (h, m)) : pos + m ≤ s.length ∧ (⟨s, pos, 0⟩ : InS).name.1 = h.key ∧ (⟨s, pos, 0⟩ : InS).name.2.varied = (h.val, ⟨s, pos + m, 0⟩) := by
  unfold reHdr at e
  cases h1 : revaried (s.drop pos) with
  | error e1 => rw [h1] at e; cases e
  | ok x =>
    rw [h1] at e
    obtain ⟨g1, g2⟩ := rds_varied.ok s pos x.1 x.2 hp h1
    cases hn : x.1.null
    · simp only [hn] at e
      cases h2 : revaried ((s.drop pos).drop x.2) with
      | error e2 => rw [h2] at e; cases e
      | ok y =>
        rw [h2] at e
        cases e
        rw [List.drop_drop] at h2
        obtain ⟨g3, g4⟩ := rds_varied.ok s (pos + x.2) y.1 y.2 g1 h2
        unfold InS.name InS.bytes
        rw [g2]
        rw [Nat.add_assoc] at g3 g4
        refine ⟨g3, rfl, ?_⟩
        show (if x.1.null = true then (⟨s, pos + x.2, 0⟩ : InS).fail 4 else ⟨s, pos + x.2, 0⟩).varied = _
        rw [hn]
        exact g4
    · simp [hn] at e
theorem reHdr_err {s : Bs} {pos : Nat} {e : Int} (hp : pos ≤ s.length) (h : reHdr (s.drop pos) = .error e) : e ≠ 0 ∧ ∃ q, q ≤ s.length ∧ (⟨s, pos, 0⟩ : InS).name.2.varied.2 = ⟨s, q, e⟩ := by
  unfold reHdr at h
  cases h1 : revaried (s.drop pos) with
  | error e1 =>
    rw [h1] at h
    cases h
    obtain ⟨g1, q, g2, g3⟩ := rds_varied.err s pos e hp h1
    refine ⟨g1, q, g2, ?_⟩
    unfold InS.name InS.bytes
    rw [g3]
    show (InS.varied ⟨s, q, e⟩).2 = _
    rw [rds_varied.stuck ⟨s, q, e⟩ g1]
  | ok x =>
    rw [h1] at h
    obtain ⟨g1, g2⟩ := rds_varied.ok s pos x.1 x.2 hp h1
    unfold InS.name InS.bytes
    rw [g2]
    simp only
    cases hn : x.1.null
    · simp only [hn] at h
      cases h2 : revaried ((s.drop pos).drop x.2) with
      | error e2 =>
        rw [h2] at h
        cases h
        rw [List.drop_drop] at h2
        obtain ⟨g3, q, g4, g5⟩ := rds_varied.err s (pos + x.2) e g1 h2
        refine ⟨g3, q, g4, ?_⟩
        show (InS.varied ⟨s, pos + x.2, 0⟩).2 = _
        rw [g5]
      | ok y => rw [h2] at h; cases h
    · simp [hn] at h
      subst h
      refine ⟨by decide, pos + x.2, g1, ?_⟩
      show (InS.varied ⟨s, pos + x.2, 4⟩).2 = _
      rw [rds_varied.stuck ⟨s, pos + x.2, 4⟩ (show (4 : Int) ≠ 0 by decide)]
theorem hdrLoop_at : ∀ (n : Nat) (acc : List HdrS) (s : Bs) (pos : Nat), pos ≤ s.length →
    (∀ t k, reHdrN n (s.drop pos) = .ok (t, k) → pos + k ≤ s.length ∧ InS.hdrLoop n acc ⟨s, pos, 0⟩ = (acc ++ t, ⟨s, pos + k, 0⟩)) ∧
    (∀ e, reHdrN n (s.drop pos) = .error e → e ≠ 0 ∧ ∃ q, q ≤ s.length ∧ InS.hdrLoop n acc ⟨s, pos, 0⟩ = ([], ⟨s, q, e⟩))
  | 0, acc, s, pos, hp => ⟨fun t k h => (by cases h; simp [InS.hdrLoop]; exact hp), fun e h => (by cases h)⟩
  | n + 1, acc, s, pos, hp => by
    unfold reHdrN InS.hdrLoop
    cases h1 : reHdr (s.drop pos) with
    | error e1 =>
      refine ⟨fun t k h => (by cases h), fun e h => ?_⟩
      cases h
      obtain ⟨g1, q, g2, g3⟩ := reHdr_err hp h1
      refine ⟨g1, q, g2, ?_⟩
      rw [g3, if_neg g1]
    | ok x =>
      obtain ⟨g1, g2, g3⟩ := reHdr_ok hp h1
      have ih := hdrLoop_at n (acc ++ [x.1]) s (pos + x.2) g1
      rw [g2, g3]
      simp only [if_true]
      rw [List.drop_drop]
      refine ⟨fun t k h => ?_, fun e h => ?_⟩
      · cases h2 : reHdrN n (s.drop (pos + x.2)) with
        | error e2 => rw [h2] at h; cases h
        | ok y =>
          rw [h2] at h
          cases h
          obtain ⟨a, b⟩ := ih.1 y.1 y.2 h2
          refine ⟨by omega, ?_⟩
          rw [b, List.append_assoc, Nat.add_assoc]
          rfl
      · cases h2 : reHdrN n (s.drop (pos + x.2)) with
        | error e2 =>
          rw [h2] at h
          cases h
          exact ih.2 e h2
        | ok y => rw [h2] at h; cases h
theorem hdrLoop_stuck {i : InS} (h : i.err ≠ 0) (n : Nat) : InS.hdrLoop n [] i = ([], i) := by
  cases n with
  | zero => rfl
  | succ n =>
    unfold InS.hdrLoop
    rw [name_stuck h]
    simp only
    rw [rds_varied.stuck i h, if_neg h]
theorem rds_hdrs : Rds InS.hdrs reHdrs [] := by
  refine ⟨?_, ?_, ?_⟩
  · intro s pos a k hp h
    unfold reHdrs at h
    cases h1 : vgetI (s.drop pos) with
    | error e1 => rw [h1] at h; cases h
    | ok x =>
      rw [h1] at h
      obtain ⟨g1, g2⟩ := rds_int.ok s pos x.1 x.2 hp h1
      simp only at h
      split at h
      · cases h
      rename_i hn
      split at h
      · cases h
      rename_i hm
      rw [List.length_drop] at hm
      rw [List.drop_drop] at h
      cases h2 : reHdrN x.1.toNat (s.drop (pos + x.2)) with
      | error e2 => rw [h2] at h; cases h
      | ok y =>
        rw [h2] at h
        cases h
        obtain ⟨a1, b1⟩ := (hdrLoop_at x.1.toNat [] s (pos + x.2) g1).1 y.1 y.2 h2
        refine ⟨by omega, ?_⟩
        unfold InS.hdrs InS.hdrHead
        rw [g2]
        simp only
        rw [if_neg hn, if_neg (by simp only [InS.left]; omega), b1, List.nil_append, Nat.add_assoc]
  · intro s pos e hp h
    unfold reHdrs at h
    cases h1 : vgetI (s.drop pos) with
    | error e1 =>
      rw [h1] at h
      cases h
      obtain ⟨g1, q, g2, g3⟩ := rds_int.err s pos e hp h1
      refine ⟨g1, q, g2, ?_⟩
      unfold InS.hdrs InS.hdrHead
      rw [g3]
      simp only
      rw [if_neg (by decide), if_neg (by omega)]
      rfl
    | ok x =>
      rw [h1] at h
      obtain ⟨g1, g2⟩ := rds_int.ok s pos x.1 x.2 hp h1
      simp only at h
      unfold InS.hdrs InS.hdrHead
      rw [g2]
      simp only
      split at h
      · rename_i hn
        cases h
        rw [if_pos hn, InS.fail_ok0']
        exact ⟨by decide, _, g1, hdrLoop_stuck (show (4 : Int) ≠ 0 by decide) _⟩
      rename_i hn
      rw [if_neg hn]
      split at h
      · rename_i hm
        cases h
        rw [List.length_drop] at hm
        rw [if_pos (by simp only [InS.left]; omega), InS.fail_ok0']
        exact ⟨by decide, _, g1, hdrLoop_stuck (show (1 : Int) ≠ 0 by decide) _⟩
      rename_i hm
      rw [List.length_drop] at hm
      rw [if_neg (by simp only [InS.left]; omega)]
      rw [List.drop_drop] at h
      cases h2 : reHdrN x.1.toNat (s.drop (pos + x.2)) with
      | error e2 =>
        rw [h2] at h
        cases h
        exact (hdrLoop_at x.1.toNat [] s (pos + x.2) g1).2 e h2
      | ok y => rw [h2] at h; cases h
  · intro i hi
    unfold InS.hdrs InS.hdrHead
    rw [rds_int.stuck i hi]
    simp only
    rw [if_neg (by decide), if_neg (by omega)]
    rfl

/-- One spelling. -/
theorem revaried_one {l : Bs} {b : BlobS} {m : Nat} (h : revaried l = .ok (b, m)) : encV b = l.take m ∧ 0 < m ∧ m ≤ l.length ∧ b.right = true ∧ b.data.length < 2147483648 ∧ b.data.length < m + (if b.null then 1 else 0) := by
  unfold revaried at h
  cases h1 : vgetI l with
  | error e => rw [h1] at h; cases h
  | ok x =>
    obtain ⟨n, k⟩ := x
    rw [h1] at h
    obtain ⟨g1, g2, g3, g4, g5⟩ := vgetI_one h1
    unfold gotS at h
    simp only at h
    split at h
    · rename_i hn
      cases h
      subst hn
      refine ⟨?_, g2, g3, rfl, by simp [BlobS.none], by simp [BlobS.none]⟩
      unfold encV
      rw [← g1]
      show putU (foldN (-1)) ++ [] = _
      rw [List.append_nil]
    · rename_i hn
      split at h
      · cases h
      · rename_i hn0
        split at h
        · cases h
        · rename_i hm
          cases h
          have hl : (l.drop k).length = l.length - k := List.length_drop
          have hd : ((l.drop k).take n.toNat).length = n.toNat := by rw [List.length_take, hl]; omega
          refine ⟨?_, by omega, by omega, rfl, by simp only; rw [hd]; omega, by simp only; rw [hd]; omega⟩
          unfold encV
          have e : (⟨false, (l.drop k).take n.toNat⟩ : BlobS).len = n := by
            unfold BlobS.len
            simp only [Bool.false_eq_true, if_false]
            rw [hd]; omega
          rw [e, g1, List.take_add]
theorem reHdr_one {l : Bs} {h : HdrS} {m : Nat} (e : reHdr l = .ok (h, m)) : encH h = l.take m ∧ 2 ≤ m ∧ m ≤ l.length ∧ h.val.right = true ∧ h.key.length + h.val.data.length + 1 ≤ m := by
  unfold reHdr at e
  cases h1 : revaried l with
  | error e1 => rw [h1] at e; cases e
  | ok x =>
    rw [h1] at e
    cases hn : x.1.null
    · simp only [hn] at e
      cases h2 : revaried (l.drop x.2) with
      | error e2 => rw [h2] at e; cases e
      | ok y =>
        rw [h2] at e
        cases e
        obtain ⟨a1, a2, a3, a4, a5, a6⟩ := revaried_one h1
        obtain ⟨b1, b2, b3, b4, b5, b6⟩ := revaried_one h2
        rw [List.length_drop] at b3
        rw [hn] at a6
        simp only [Bool.false_eq_true, if_false] at a6
        refine ⟨?_, by omega, by omega, b4, ?_⟩
        · unfold encH
          have ex : (⟨false, x.1.data⟩ : BlobS) = x.1 := by cases hx : x.1; rw [hx] at hn; simp only at hn; rw [hn]
          simp only
          rw [ex, a1, b1, List.take_add]
        · simp only
          by_cases hy : y.1.null = true
          · have : y.1.data = [] := by unfold BlobS.right at b4; rw [hy] at b4; simpa using b4
            rw [this]; simp only [List.length_nil]; omega
          · rw [if_neg hy] at b6; omega
    · simp [hn] at e
theorem reHdrN_one : ∀ (n : Nat) (l : Bs) (t : List HdrS) (m : Nat), reHdrN n l = .ok (t, m) → t.flatMap encH = l.take m ∧ m ≤ l.length ∧ t.length = n ∧ hright t = true ∧ hsum t ≤ m
  | 0, l, t, m, h => by cases h; simp [hright, hsum]
  | n + 1, l, t, m, h => by
    unfold reHdrN at h
    cases h1 : reHdr l with
    | error e1 => rw [h1] at h; cases h
    | ok x =>
      rw [h1] at h
      simp only at h
      cases h2 : reHdrN n (l.drop x.2) with
      | error e2 => rw [h2] at h; cases h
      | ok y =>
        rw [h2] at h
        cases h
        obtain ⟨a1, a2, a3, a4, a5⟩ := reHdr_one h1
        obtain ⟨b1, b2, b3, b4, b5⟩ := reHdrN_one n (l.drop x.2) y.1 y.2 h2
        rw [List.length_drop] at b2
        refine ⟨?_, by omega, by simp [b3], ?_, ?_⟩
        · rw [List.flatMap_cons, a1, b1, List.take_add]
        · unfold hright at *
          rw [List.all_cons, a4, b4]; rfl
        · rw [hsum_cons]; omega
theorem reHdrs_one {l : Bs} {t : List HdrS} {m : Nat} (h : reHdrs l = .ok (t, m)) : encHs t = l.take m ∧ 0 < m ∧ m ≤ l.length ∧ hright t = true ∧ hsum t ≤ m := by
  unfold reHdrs at h
  cases h1 : vgetI l with
  | error e => rw [h1] at h; cases h
  | ok x =>
    rw [h1] at h
    obtain ⟨g1, g2, g3, g4, g5⟩ := vgetI_one h1
    simp only at h
    split at h
    · cases h
    rename_i hn
    split at h
    · cases h
    cases h2 : reHdrN x.1.toNat (l.drop x.2) with
    | error e2 => rw [h2] at h; cases h
    | ok y =>
      rw [h2] at h
      cases h
      obtain ⟨b1, b2, b3, b4, b5⟩ := reHdrN_one _ _ _ _ h2
      rw [List.length_drop] at b2
      refine ⟨?_, by omega, by omega, b4, by omega⟩
      unfold encHs encI
      have e : (y.1.length : Int) = x.1 := by rw [b3]; omega
      rw [e, g1, b1, List.take_add]

/-- There and back. -/
theorem putU_pos (u : Nat) : 1 ≤ (putU u).length := by
  rw [putU]
  split <;> simp
theorem encV_pos (b : BlobS) : 1 ≤ (encV b).length := by
  have h := putU_pos (foldN b.len)
  unfold encV
  rw [List.length_append]; omega
theorem reHdr_back (h : HdrS) (hr : h.val.right = true) (hl : h.key.length + h.val.data.length ≤ 2147483647) (rest : Bs) : reHdr (encH h ++ rest) = .ok (h, (encH h).length) := by
  unfold reHdr encH
  rw [List.append_assoc, revaried_back ⟨false, h.key⟩ rfl (by simp only; omega)]
  simp only [Bool.false_eq_true, if_false]
  rw [List.drop_left' rfl, revaried_back h.val hr (by omega)]
  simp only [List.length_append]
theorem reHdrN_back : ∀ (t : List HdrS) (rest : Bs), hright t = true → hsum t ≤ 2147483647 → reHdrN t.length (t.flatMap encH ++ rest) = .ok (t, (t.flatMap encH).length)
  | [], _, _, _ => rfl
  | h :: t, rest, hr, hs => by
    unfold hright at hr
    rw [List.all_cons, Bool.and_eq_true] at hr
    rw [hsum_cons] at hs
    rw [List.length_cons, List.flatMap_cons, List.append_assoc]
    unfold reHdrN
    rw [reHdr_back h hr.1 (by omega)]
    simp only
    rw [List.drop_left' rfl, reHdrN_back t rest hr.2 (by omega)]
    simp only [List.length_append]
theorem encHs_two : ∀ (t : List HdrS), 2 * t.length ≤ (t.flatMap encH).length
  | [] => by simp
  | h :: t => by
    have h1 := encHs_two t
    have h2 : 2 ≤ (encH h).length := by
      have a := encV_pos ⟨false, h.key⟩
      have b := encV_pos h.val
      unfold encH
      rw [List.length_append]; omega
    rw [List.flatMap_cons, List.length_append, List.length_cons]; omega
theorem reHdrs_back (t : List HdrS) (rest : Bs) (hr : hright t = true) (hs : hsum t ≤ 2147483647) : reHdrs (encHs t ++ rest) = .ok (t, (encHs t).length) := by
  have h0 := (hsum_le t).1
  have h2 := encHs_two t
  unfold reHdrs encHs encI
  rw [List.append_assoc, vgetI_put t.length (by omega) (by omega)]
  simp only
  rw [if_neg (by omega), if_neg (by rw [List.length_append, List.length_append]; omega), List.drop_left' rfl, Int.toNat_natCast, reHdrN_back t rest hr hs]
  simp only [List.length_append]

end Go.Proofs.YtmpehoebgifmnaaDoor
