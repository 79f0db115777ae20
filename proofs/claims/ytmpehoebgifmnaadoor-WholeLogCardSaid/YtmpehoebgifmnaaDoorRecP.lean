/- Records, read and written. -/
import Derived.Test.YtmpehoebgifmnaaDoorRef06b
namespace Go.Proofs.YtmpehoebgifmnaaDoor
open Go.RowKit

/-- A record. -/
structure RecS where
  time : Int
  off : Int
  key : BlobS
  val : BlobS
  hdrs : List HdrS
deriving DecidableEq
def RecS.zero : RecS := ⟨0, 0, ⟨false, []⟩, ⟨false, []⟩, []⟩
def RecS.R (x : RecS) : Prop := (-9223372036854775808 ≤ x.time ∧ x.time < 9223372036854775808) ∧ (-9223372036854775808 ≤ x.off ∧ x.off < 9223372036854775808)
def RecS.sum (x : RecS) : Nat := x.key.data.length + x.val.data.length + hsum x.hdrs
def RecS.allRight (x : RecS) : Bool := x.key.right && x.val.right && hright x.hdrs
def recOk (x : RecS) : Int := if x.off < 0 ∨ 2147483647 < x.off then 11 else if x.allRight then 0 else 4
def recF (x : RecS) : Bs := [0] ++ (encI x.time ++ (encI x.off ++ (encV x.key ++ (encV x.val ++ encHs x.hdrs))))
def encR (x : RecS) : Bs := encV ⟨false, recF x⟩
def OutS.putFields (o : OutS) (x : RecS) : OutS := (((((o.put [0]).putLong x.time).putInt x.off).putVaried x.key).putVaried x.val).putHdrs x.hdrs
def OutS.putRec (o : OutS) (x : RecS) : OutS := if recOk x = 0 then o.put (encR x) else o.fail (recOk x)
theorem encI_le (n : Int) (h : -9223372036854775808 ≤ n ∧ n < 9223372036854775808) : (encI n).length ≤ 10 := putU_len _ (foldN_lt h.1 h.2)
theorem recF_le (x : RecS) (hx : x.R) (hs : x.sum ≤ 1000000) : (recF x).length ≤ 32 * x.sum + 100 := by
  unfold RecS.sum at *
  have h0 := hsum_le x.hdrs
  have h1 := encI_le x.time hx.1
  have h2 := encI_le x.off hx.2
  have h3 := encV_le x.key (by omega)
  have h4 := encV_le x.val (by omega)
  have h5 := encHs_le x.hdrs (by omega)
  have h6 := encI_le x.hdrs.length (by omega)
  unfold recF encHs
  simp only [List.length_append, List.length_cons, List.length_nil]
  omega
theorem putFields_right (x : RecS) (hx : x.R) (ho : 0 ≤ x.off ∧ x.off ≤ 2147483647) (hr : x.allRight = true) (hs : x.sum ≤ 1000000) : (⟨[], 0⟩ : OutS).putFields x = ⟨recF x, 0⟩ := by
  unfold RecS.allRight at hr
  rw [Bool.and_eq_true, Bool.and_eq_true] at hr
  unfold RecS.sum at hs
  have hl : ∀ o : OutS, o.putLong x.time = o.put (encI x.time) := fun o => rfl
  unfold OutS.putFields
  rw [hl, putInt_len (by omega) (by omega), putVaried_right hr.1.1 (by omega), putVaried_right hr.1.2 (by omega), putHdrs_right hr.2 (by omega)]
  simp only [OutS.put_put]
  unfold recF
  simp only [OutS.put, if_true, List.nil_append, List.append_assoc]
theorem recOk_zero {x : RecS} (h : recOk x = 0) : (0 ≤ x.off ∧ x.off ≤ 2147483647) ∧ x.allRight = true := by
  unfold recOk at h
  split at h
  · cases h
  · split at h
    · exact ⟨by omega, by assumption⟩
    · cases h

/-- What stands behind the length. -/
def reInner (s : Bs) : Except Int RecS :=
  match getIntN 1 s with
  | .error e => .error e
  | .ok a => if a.1 = 0 then match vgetL (s.drop 1) with
      | .error e => .error e
      | .ok t => match vgetI (s.drop (1 + t.2)) with
        | .error e => .error e
        | .ok o => if o.1 < 0 then .error 11 else match revaried (s.drop (1 + t.2 + o.2)) with
          | .error e => .error e
          | .ok k => match revaried (s.drop (1 + t.2 + o.2 + k.2)) with
            | .error e => .error e
            | .ok v => match reHdrs (s.drop (1 + t.2 + o.2 + k.2 + v.2)) with
              | .error e => .error e
              | .ok h => if 1 + t.2 + o.2 + k.2 + v.2 + h.2 = s.length then .ok ⟨t.1, o.1, k.1, v.1, h.1⟩ else .error 2
    else .error 8
def InS.recTail (i : InS) (t o : Int) : RecS × InS := (⟨t, o, i.varied.1, i.varied.2.varied.1, i.varied.2.varied.2.hdrs.1⟩, i.varied.2.varied.2.hdrs.2)
def InS.recOff (i : InS) (t : Int) : RecS × InS := (if i.vint.1 < 0 then i.vint.2.fail 11 else i.vint.2).recTail t i.vint.1
def InS.recTime (i : InS) : RecS × InS := i.vlong.2.recOff i.vlong.1
def InS.recFields (i : InS) : RecS × InS := (if (i.int 1).1 = 0 then (i.int 1).2 else (i.int 1).2.fail 8).recTime
theorem tail_stuck {i : InS} (h : i.err ≠ 0) (t o : Int) : (i.recTail t o).2 = i := by
  unfold InS.recTail
  rw [rds_varied.stuck i h]
  simp only
  rw [rds_varied.stuck i h]
  simp only
  rw [rds_hdrs.stuck i h]
theorem off_stuck {i : InS} (h : i.err ≠ 0) (t : Int) : (i.recOff t).2 = i := by
  unfold InS.recOff
  rw [rds_int.stuck i h]
  simp only
  rw [if_neg (by decide), tail_stuck h]
theorem time_stuck {i : InS} (h : i.err ≠ 0) : (i.recTime).2 = i := by
  unfold InS.recTime
  rw [rds_long.stuck i h, off_stuck h]
theorem InS.fail_stuck0 {i : InS} (h : i.err ≠ 0) (e : Int) : i.fail e = i := if_neg h
theorem close_err {s : Bs} {q : Nat} {e : Int} (h : e ≠ 0) : (⟨s, q, e⟩ : InS).close.err = e := by
  unfold InS.close
  split
  · rw [InS.fail_stuck0 (show (⟨s, q, e⟩ : InS).err ≠ 0 from h)]
  · rfl
theorem InS.fail_stuck {i : InS} (h : i.err ≠ 0) (e : Int) : i.fail e = i := if_neg h
def recD (s : Bs) : RecS × InS := (⟨s, 0, 0⟩ : InS).recFields
theorem inner_at (s : Bs) : (∀ x, reInner s = .ok x → recD s = (x, ⟨s, s.length, 0⟩)) ∧ (∀ e, reInner s = .error e → e ≠ 0 ∧ (recD s).2.close.err = e) := by
  unfold reInner recD InS.recFields
  have hi := rds_intN 1 (by decide) (by decide)
  cases h0 : getIntN 1 s with
  | error e0 =>
    obtain ⟨g1, q, g2, g3⟩ := hi.err s 0 e0 (Nat.zero_le _) (by rw [List.drop_zero]; exact h0)
    have g3 : (⟨s, 0, 0⟩ : InS).int 1 = (0, ⟨s, q, e0⟩) := g3
    refine ⟨fun x h => (by cases h), fun e h => ?_⟩
    cases h
    rw [g3]
    simp only [if_true]
    rw [time_stuck (show (⟨s, q, e0⟩ : InS).err ≠ 0 from g1)]
    exact ⟨g1, close_err g1⟩
  | ok a =>
    obtain ⟨g1, g3⟩ := hi.ok s 0 a.1 a.2 (Nat.zero_le _) (by rw [List.drop_zero]; exact h0)
    have g3 : (⟨s, 0, 0⟩ : InS).int 1 = (a.1, ⟨s, 0 + a.2, 0⟩) := g3
    have ha2 : a.2 = 1 := by
      unfold getIntN at h0
      split at h0
      · cases h0
      · cases h0; rfl
    rw [Nat.zero_add, ha2] at g3 g1
    rw [g3]
    simp only
    by_cases ha : a.1 = 0
    · rw [if_pos ha, if_pos ha]
      unfold InS.recTime
      cases h1 : vgetL (s.drop 1) with
      | error e1 =>
        obtain ⟨k1, q, k2, k3⟩ := rds_long.err s 1 e1 g1 h1
        refine ⟨fun x h => (by cases h), fun e h => ?_⟩
        cases h
        rw [k3]
        simp only
        rw [off_stuck (show (⟨s, q, e1⟩ : InS).err ≠ 0 from k1)]
        exact ⟨k1, close_err k1⟩
      | ok t =>
        obtain ⟨k1, k3⟩ := rds_long.ok s 1 t.1 t.2 g1 h1
        rw [k3]
        simp only
        unfold InS.recOff
        cases h2 : vgetI (s.drop (1 + t.2)) with
        | error e2 =>
          obtain ⟨m1, q, m2, m3⟩ := rds_int.err s (1 + t.2) e2 k1 h2
          refine ⟨fun x h => (by cases h), fun e h => ?_⟩
          cases h
          rw [m3]
          simp only
          rw [if_neg (by decide), tail_stuck (show (⟨s, q, e2⟩ : InS).err ≠ 0 from m1)]
          exact ⟨m1, close_err m1⟩
        | ok o =>
          obtain ⟨m1, m3⟩ := rds_int.ok s (1 + t.2) o.1 o.2 k1 h2
          rw [m3]
          simp only
          by_cases ho : o.1 < 0
          · rw [if_pos ho, if_pos ho]
            refine ⟨fun x h => (by cases h), fun e h => ?_⟩
            cases h
            rw [InS.fail_ok0', tail_stuck (show (11 : Int) ≠ 0 by decide)]
            exact ⟨by decide, close_err (by decide)⟩
          · rw [if_neg ho, if_neg ho]
            unfold InS.recTail
            cases h3 : revaried (s.drop (1 + t.2 + o.2)) with
            | error e3 =>
              obtain ⟨n1, q, n2, n3⟩ := rds_varied.err s _ e3 m1 h3
              refine ⟨fun x h => (by cases h), fun e h => ?_⟩
              cases h
              rw [n3]
              simp only
              have n1' : (⟨s, q, e3⟩ : InS).err ≠ 0 := n1
              rw [rds_varied.stuck _ n1']
              simp only
              rw [rds_hdrs.stuck _ n1']
              exact ⟨n1, close_err n1⟩
            | ok k =>
              obtain ⟨n1, n3⟩ := rds_varied.ok s _ k.1 k.2 m1 h3
              rw [n3]
              simp only
              cases h4 : revaried (s.drop (1 + t.2 + o.2 + k.2)) with
              | error e4 =>
                obtain ⟨p1, q, p2, p3⟩ := rds_varied.err s _ e4 n1 h4
                refine ⟨fun x h => (by cases h), fun e h => ?_⟩
                cases h
                rw [p3]
                simp only
                have p1' : (⟨s, q, e4⟩ : InS).err ≠ 0 := p1
                rw [rds_hdrs.stuck _ p1']
                exact ⟨p1, close_err p1⟩
              | ok v =>
                obtain ⟨p1, p3⟩ := rds_varied.ok s _ v.1 v.2 n1 h4
                rw [p3]
                simp only
                cases h5 : reHdrs (s.drop (1 + t.2 + o.2 + k.2 + v.2)) with
                | error e5 =>
                  obtain ⟨r1, q, r2, r3⟩ := rds_hdrs.err s _ e5 p1 h5
                  refine ⟨fun x h => (by cases h), fun e h => ?_⟩
                  cases h
                  rw [r3]
                  exact ⟨r1, close_err r1⟩
                | ok h =>
                  obtain ⟨r1, r3⟩ := rds_hdrs.ok s _ h.1 h.2 p1 h5
                  rw [r3]
                  simp only
                  by_cases hE : 1 + t.2 + o.2 + k.2 + v.2 + h.2 = s.length
                  · rw [if_pos hE, hE]
                    refine ⟨fun x hh => (by cases hh; rfl), fun e hh => (by cases hh)⟩
                  · rw [if_neg hE]
                    refine ⟨fun x hh => (by cases hh), fun e hh => ?_⟩
                    cases hh
                    refine ⟨by decide, ?_⟩
                    unfold InS.close
                    rw [if_pos (by simp only [InS.left]; omega)]
                    rfl
    · rw [if_neg ha, if_neg ha]
      refine ⟨fun x h => (by cases h), fun e h => ?_⟩
      cases h
      rw [InS.fail_ok0', time_stuck (show (8 : Int) ≠ 0 by decide)]
      exact ⟨by decide, close_err (by decide)⟩

/-- A record with which bytes begin. -/
def reRec (l : Bs) : Except Int (RecS × Nat) := match revaried l with
  | .error e => .error e
  | .ok b => if b.1.null then .error 4 else match reInner b.1.data with
    | .error e => .error e
    | .ok x => .ok (x, b.2)
def InS.recJ (i : InS) : InS := if (recD i.name.1).2.close.err = 0 then i.name.2 else i.name.2.fail (recD i.name.1).2.close.err
def InS.record (i : InS) : RecS × InS := if i.recJ.err = 0 then ((recD i.name.1).1, i.recJ) else (RecS.zero, i.recJ)
theorem rds_rec : Rds InS.record reRec RecS.zero := by
  refine ⟨?_, ?_, ?_⟩
  · intro s pos a k hp h
    unfold reRec at h
    cases h1 : revaried (s.drop pos) with
    | error e => rw [h1] at h; cases h
    | ok b =>
      rw [h1] at h
      obtain ⟨g1, g2⟩ := rds_varied.ok s pos b.1 b.2 hp h1
      cases hn : b.1.null
      · simp only [hn] at h
        cases h2 : reInner b.1.data with
        | error e => rw [h2] at h; cases h
        | ok x =>
          rw [h2] at h
          cases h
          have hi := (inner_at b.1.data).1 _ h2
          refine ⟨g1, ?_⟩
          have hnm : (⟨s, pos, 0⟩ : InS).name = (b.1.data, ⟨s, pos + b.2, 0⟩) := by
            unfold InS.name InS.bytes
            rw [g2]
            simp only [hn]
            rfl
          have hc : (⟨b.1.data, b.1.data.length, 0⟩ : InS).close.err = 0 := by unfold InS.close; rw [if_neg (by simp only [InS.left]; omega)]
          unfold InS.record InS.recJ
          rw [hnm]
          simp only [hi, hc, if_true]
      · simp [hn] at h
  · intro s pos e hp h
    unfold reRec at h
    cases h1 : revaried (s.drop pos) with
    | error e1 =>
      rw [h1] at h
      cases h
      obtain ⟨g1, q, g2, g3⟩ := rds_varied.err s pos e hp h1
      refine ⟨g1, q, g2, ?_⟩
      have hnm : (⟨s, pos, 0⟩ : InS).name = ([], ⟨s, q, e⟩) := by
        unfold InS.name InS.bytes
        rw [g3]
        rfl
      unfold InS.record InS.recJ
      rw [hnm]
      simp only [InS.fail_stuck (show (⟨s, q, e⟩ : InS).err ≠ 0 from g1), ite_self]
      rw [if_neg g1]
    | ok b =>
      rw [h1] at h
      obtain ⟨g1, g2⟩ := rds_varied.ok s pos b.1 b.2 hp h1
      cases hn : b.1.null
      · simp only [hn] at h
        cases h2 : reInner b.1.data with
        | error e2 =>
          rw [h2] at h
          cases h
          obtain ⟨k1, k2⟩ := (inner_at b.1.data).2 _ h2
          refine ⟨k1, pos + b.2, g1, ?_⟩
          have hnm : (⟨s, pos, 0⟩ : InS).name = (b.1.data, ⟨s, pos + b.2, 0⟩) := by
            unfold InS.name InS.bytes
            rw [g2]
            simp only [hn]
            rfl
          unfold InS.record InS.recJ
          rw [hnm]
          simp only [k2]
          rw [if_neg k1, InS.fail_ok0', if_neg k1]
        | ok x => rw [h2] at h; cases h
      · simp [hn] at h
        subst h
        refine ⟨by decide, pos + b.2, g1, ?_⟩
        have hnm : (⟨s, pos, 0⟩ : InS).name = (b.1.data, ⟨s, pos + b.2, 4⟩) := by
          unfold InS.name InS.bytes
          rw [g2]
          simp only [hn]
          rfl
        unfold InS.record InS.recJ
        rw [hnm]
        simp only [InS.fail_stuck (show (⟨s, pos + b.2, 4⟩ : InS).err ≠ 0 from (show (4 : Int) ≠ 0 by decide)), ite_self]
        rw [if_neg (show ¬ (4 : Int) = 0 by decide)]
  · intro i hi
    unfold InS.record InS.recJ
    rw [name_stuck hi]
    simp only [InS.fail_stuck hi, ite_self]
    rw [if_neg hi]

end Go.Proofs.YtmpehoebgifmnaaDoor
