/- A text. -/
import Derived.Test.YtnnnglklgofabaaGProduceBatches3
import Derived.Deep.RegionHeld3
import Derived.Deep.DeepCutAuto
import Derived.Test.YtnnnglklgofabaaRec8
import Derived.Test.YtnnnglklgofabaaRef06b
import Derived.Test.YtnnnglklgofabaaL06F
import Derived.Test.YtnnnglklgofabaaGProduceBatches1
import Derived.Test.YtnnnglklgofabaaGProduceBatches2
import Derived.Test.YtnnnglklgofabaaRecs
import Derived.Test.YtnnnglklgofabaaL06W
import Derived.Test.YtnnnglklgofabaaRec6
import Derived.Test.YtnnnglklgofabaaHdr3
import Derived.Test.YtnnnglklgofabaaS1
import Derived.Test.YtnnnglklgofabaaKeyP
/- A text. -/
namespace Go.Proofs.Ytnnnglklgofabaa
open Go.RowKit

theorem setAll_get : ∀ (vs : List Value) (o : Nat) (c : Array Value) (i : Nat), (setAll c o vs)[i]? = if o ≤ i ∧ i < o + vs.length ∧ i < c.size then vs[i - o]? else c[i]?
  | [], o, c, i => by
    show c[i]? = _
    rw [if_neg (by simp; omega)]
  | v :: r, o, c, i => by
    show (setAll (c.setIfInBounds o v) (o + 1) r)[i]? = _
    rw [setAll_get r (o + 1) _ i]
    simp only [Array.size_setIfInBounds, List.length_cons]
    by_cases h1 : o + 1 ≤ i ∧ i < o + 1 + r.length ∧ i < c.size
    · rw [if_pos h1, if_pos (by omega)]
      obtain ⟨k, rfl⟩ : ∃ k, i = o + 1 + k := ⟨i - (o + 1), by omega⟩
      rw [show o + 1 + k - (o + 1) = k by omega, show o + 1 + k - o = k + 1 by omega]
      rfl
    · rw [if_neg h1, Array.getElem?_setIfInBounds]
      by_cases h2 : o = i
      · subst h2
        rw [if_pos rfl]
        by_cases h3 : o < c.size
        · rw [if_pos h3, if_pos (by omega), Nat.sub_self]; rfl
        · rw [if_neg h3, if_neg (by omega), Array.getElem?_eq_none (by omega)]
      · rw [if_neg h2, if_neg (by omega)]
theorem setAll_all (c cs : Array Value) (h : c.size = cs.size) : setAll c 0 cs.toList = cs := by
 refine Array.ext_getElem? fun i => ?_
 rw [setAll_get]
 by_cases h1 : i < cs.size
 · rw [if_pos (by simp; omega), Nat.sub_zero, Array.getElem?_toList]
 · rw [if_neg (by simp; omega), Array.getElem?_eq_none (by omega), Array.getElem?_eq_none (by omega)]
theorem attr_ofE (base leader : Int) (app txn ctl : Bool) (last first maxt prod epoch sq : Int)  (q : Option Addr) (n cap : Nat) {W0 w : World} {K : Know} {L : List Res} (h : St W0 w K L) :
 Calls Try.prog 57 #[.agg #[.int .i64 base, .int .i64 leader, .bool app, .bool txn, .bool ctl, .int .i64 last, .int .i64 first, .int .i64 maxt, .int .i64 prod, .int .i64 epoch, .int .i64 sq, .slice q n cap]] w fun en w' => en = .returned (.int .i64 (attrN app txn ctl 3)) ∧ St W0 w' K L := attr_of base leader app txn ctl last first maxt prod epoch sq q n cap h
set_option maxHeartbeats 2000000 in
set_option maxRecDepth 100000 in
theorem bat_head (base leader : Int) (app txn ctl : Bool) (last first maxt prod epoch sq : Int) (l : List (RecS × Value)) (q : Option Addr) (cap : Nat) (size : Nat) (hsz : size ≤ 140737488355328) {W0 w : World} {K : Know} {L : List Res} (h : St W0 w K L) :
   Calls Try.prog 27 #[.agg #[.int .i64 base, .int .i64 leader, .bool app, .bool txn, .bool ctl, .int .i64 last, .int .i64 first, .int .i64 maxt, .int .i64 prod, .int .i64 epoch, .int .i64 sq, .slice q l.length cap], .int .i64 size] w fun en w' => en = .returned (.agg #[.int .i64 base, .int .i64 (49 + size), .int .i64 leader, .int .i64 0, .int .i64 (attrN app txn ctl 3), .int .i64 last, .int .i64 first, .int .i64 maxt, .int .i64 prod, .int .i64 epoch, .int .i64 sq, .int .i64 l.length]) ∧ St W0 w' K L := by
 have g1 := h.allocRaw #[.int .i64 base, .int .i64 leader, .bool app, .bool txn, .bool ctl, .int .i64 last, .int .i64 first, .int .i64 maxt, .int .i64 prod, .int .i64 epoch, .int .i64 sq, .slice q l.length cap] 39
 have g2 := (g1.allocRaw #[.int .i64 0, .int .i64 0, .int .i64 0, .int .i64 0, .int .i64 0, .int .i64 0, .int .i64 0, .int .i64 0, .int .i64 0, .int .i64 0, .int .i64 0, .int .i64 0] 73).p1
 obtain ⟨hb, hhb⟩ : ∃ b, w.heap.size = b := ⟨_, rfl⟩
 obtain ⟨rb, hrb⟩ : ∃ b, hb + 1 = b := ⟨_, rfl⟩
 simp only [World.size_alloc, hhb, hrb] at g2
 have H := Lib.hid g2
 have w1 : IntKind.i64.wrap (49 + (size : Int)) = 49 + (size : Int) := IntWalk.i64_in _ (by omega)
 clear g1 g2 h hsz
 go_enter Try.func27, Try.ntmps27
 go_upto_region 1 with (fail)
 have hs := H.out.drew
 refine wp_region_held_drew (S := fun w' => w'.cell? ⟨hb, 0, none⟩ = some (.int .i64 base) ∧ w'.cell? ⟨hb, 1, none⟩ = some (.int .i64 leader) ∧ w'.cell? ⟨hb, 2, none⟩ = some (.bool app) ∧ w'.cell? ⟨hb, 3, none⟩ = some (.bool txn) ∧ w'.cell? ⟨hb, 4, none⟩ = some (.bool ctl) ∧ w'.cell? ⟨hb, 5, none⟩ = some (.int .i64 last) ∧ w'.cell? ⟨hb, 6, none⟩ = some (.int .i64 first) ∧ w'.cell? ⟨hb, 7, none⟩ = some (.int .i64 maxt) ∧ w'.cell? ⟨hb, 8, none⟩ = some (.int .i64 prod) ∧ w'.cell? ⟨hb, 9, none⟩ = some (.int .i64 epoch) ∧ w'.cell? ⟨hb, 10, none⟩ = some (.int .i64 sq) ∧ w'.cell? ⟨hb, 11, none⟩ = some (.slice q l.length cap)) (by kernel_rfl) (let ⟨x0, x1, x2, x3, x4, x5, x6, x7, x8, x9, x10, x11, _⟩ := raw12 (b := hb) (hs); ⟨x0, x1, x2, x3, x4, x5, x6, x7, x8, x9, x10, x11⟩) (fun hHeld => ?_)
 refine tQ 0 ⟨some 5, .fieldAddr 39 (.tmp 2) 0, 0, "batch.go:46", #[], none⟩ ?_; simp only [Act.put, sA, sB, sC]
 refine tQ 1 ⟨some 6, .load 3 (.tmp 5), 3, "batch.go:46", #[.mk 0 .data], none⟩ ?_; simp only [Act.put, sA, sB, sC]
 refine tQ 2 ⟨some 7, .move (.tmp 1), 3, "batch.go:46", #[], none⟩ ?_; simp only [Act.put, sA, sB, sC]
 refine tQ 3 ⟨some 8, .binOp .add 3 (.const (Value.int IntKind.i64 49)) (.tmp 7) 3, 3, "batch.go:46", #[.mk 2 .data], none⟩ ?_; simp only [Act.put, sA, sB, sC]
 refine tQ 4 ⟨some 9, .fieldAddr 39 (.tmp 2) 1, 0, "batch.go:46", #[], none⟩ ?_; simp only [Act.put, sA, sB, sC]
 refine tQ 5 ⟨some 10, .load 3 (.tmp 9), 3, "batch.go:46", #[.mk 4 .data], none⟩ ?_; simp only [Act.put, sA, sB, sC]
 refine tQ 6 ⟨some 11, .load 39 (.tmp 2), 39, "batch.go:46", #[], none⟩ ?_; simp only [Act.put, sA, sB, sC]
 refine tQ 8 ⟨some 13, .fieldAddr 39 (.tmp 2) 5, 0, "batch.go:46", #[], none⟩ ?_; simp only [Act.put, sA, sB, sC]
 refine tQ 9 ⟨some 14, .load 3 (.tmp 13), 3, "batch.go:46", #[.mk 8 .data], none⟩ ?_; simp only [Act.put, sA, sB, sC]
 refine tQ 10 ⟨some 15, .fieldAddr 39 (.tmp 2) 6, 0, "batch.go:46", #[], none⟩ ?_; simp only [Act.put, sA, sB, sC]
 refine tQ 11 ⟨some 16, .load 3 (.tmp 15), 3, "batch.go:46", #[.mk 10 .data], none⟩ ?_; simp only [Act.put, sA, sB, sC]
 refine tQ 12 ⟨some 17, .fieldAddr 39 (.tmp 2) 7, 0, "batch.go:46", #[], none⟩ ?_; simp only [Act.put, sA, sB, sC]
 refine tQ 13 ⟨some 18, .load 3 (.tmp 17), 3, "batch.go:46", #[.mk 12 .data], none⟩ ?_; simp only [Act.put, sA, sB, sC]
 refine tQ 14 ⟨some 19, .fieldAddr 39 (.tmp 2) 8, 0, "batch.go:46", #[], none⟩ ?_; simp only [Act.put, sA, sB, sC]
 refine tQ 15 ⟨some 20, .load 3 (.tmp 19), 3, "batch.go:46", #[.mk 14 .data], none⟩ ?_; simp only [Act.put, sA, sB, sC]
 refine tQ 16 ⟨some 21, .fieldAddr 39 (.tmp 2) 9, 0, "batch.go:46", #[], none⟩ ?_; simp only [Act.put, sA, sB, sC]
 refine tQ 17 ⟨some 22, .load 3 (.tmp 21), 3, "batch.go:46", #[.mk 16 .data], none⟩ ?_; simp only [Act.put, sA, sB, sC]
 refine tQ 18 ⟨some 23, .fieldAddr 39 (.tmp 2) 10, 0, "batch.go:46", #[], none⟩ ?_; simp only [Act.put, sA, sB, sC]
 refine tQ 19 ⟨some 24, .load 3 (.tmp 23), 3, "batch.go:46", #[.mk 18 .data], none⟩ ?_; simp only [Act.put, sA, sB, sC]
 refine tQ 20 ⟨some 25, .fieldAddr 39 (.tmp 2) 11, 0, "batch.go:46", #[], none⟩ ?_; simp only [Act.put, sA, sB, sC]
 refine tQ 21 ⟨some 26, .load 37 (.tmp 25), 37, "batch.go:46", #[.mk 20 .data], none⟩ ?_; simp only [Act.put, sA, sB, sC]
 refine tQ 22 ⟨some 27, .call { callee := .builtin .len, args := #[.tmp 26], argTypes := #[37] }, 3, "batch.go:46", #[.mk 21 .data], none⟩ ?_; simp only [Act.put, sA, sB, sC]
 refine wpAnyH_ready (rs := [7]) (by kernel_rfl) (by simp) (AllReadyH.cons (o := ⟨some 12, .call { callee := .value (.func 57), args := #[.tmp 11], argTypes := #[39] }, 3, "batch.go:47", #[.mk 6 .data], none⟩) rfl (fun KK hK => ?_) AllReadyH.nil)
 · go_simp
   go_at_call 57
   with_reducible refine (attr_ofE base leader app txn ctl last first maxt prod epoch sq q l.length cap hs).mono ?_
   rintro e wq ⟨rfl, hs⟩
   refine hK.out _ _ (let ⟨x0, x1, x2, x3, x4, x5, x6, x7, x8, x9, x10, x11, _⟩ := raw12 (b := hb) (hs); ⟨x0, x1, x2, x3, x4, x5, x6, x7, x8, x9, x10, x11⟩) (fun hHeld => ?_)
   clear hK KK
   try simp only [Act.put, sA, sB, sC]
   refine tQ 23 ⟨some 28, .build 73 #[(0, .tmp 6), (1, .tmp 8), (2, .tmp 10), (4, .tmp 12), (5, .tmp 14), (6, .tmp 16), (7, .tmp 18), (8, .tmp 20), (9, .tmp 22), (10, .tmp 24), (11, .tmp 27)], 73, "batch.go:46", #[.mk 1 .data, .mk 3 .data, .mk 5 .data, .mk 7 .data, .mk 9 .data, .mk 11 .data, .mk 13 .data, .mk 15 .data, .mk 17 .data, .mk 19 .data, .mk 22 .data], none⟩ ?_; simp only [Act.put, sA, sB, sC]
   refine wpAnyH_ready (rs := [24]) (by kernel_rfl) (by simp) (AllReadyH.cons (o := ⟨none, .store 73 (.tmp 4) (.tmp 28), 0, "batch.go:46", #[.mk 23 .data, .mk 7 .chain, .mk 0 .phase, .mk 1 .phase, .mk 2 .phase, .mk 3 .phase, .mk 4 .phase, .mk 5 .phase, .mk 6 .phase, .mk 7 .phase, .mk 8 .phase, .mk 9 .phase, .mk 10 .phase, .mk 11 .phase, .mk 12 .phase, .mk 13 .phase, .mk 14 .phase, .mk 15 .phase, .mk 16 .phase, .mk 17 .phase, .mk 18 .phase, .mk 19 .phase, .mk 20 .phase, .mk 21 .phase, .mk 22 .phase, .mk 23 .phase], none⟩) rfl (fun KK hK => ?_) AllReadyH.nil)
   · have hs := hs.p1
     rw [if_pos (by rfl)]
     refine wp_store_mid 73 (.tmp 4) (.tmp 28) rfl rb 0 #[.int .i64 base, .int .i64 (49 + size), .int .i64 leader, .int .i64 0, .int .i64 (attrN app txn ctl 3), .int .i64 last, .int .i64 first, .int .i64 maxt, .int .i64 prod, .int .i64 epoch, .int .i64 sq, .int .i64 l.length] (by rfl) (by rfl) hs.there (by kernel_rfl) (by simp [Value.oneCell']) ?_
     obtain ⟨wz, ez, hs⟩ := hs.storeEx #[.int .i64 base, .int .i64 (49 + size), .int .i64 leader, .int .i64 0, .int .i64 (attrN app txn ctl 3), .int .i64 last, .int .i64 first, .int .i64 maxt, .int .i64 prod, .int .i64 epoch, .int .i64 sq, .int .i64 l.length]
     rw [ez]
     clear ez
     refine hK.out _ _ (let ⟨x0, x1, x2, x3, x4, x5, x6, x7, x8, x9, x10, x11, _⟩ := raw12 (b := hb) (hs.p1); ⟨x0, x1, x2, x3, x4, x5, x6, x7, x8, x9, x10, x11⟩) (fun hHeld => ?_)
     clear hK KK
     try simp only [Act.put, sA, sB, sC]
     refine wpAnyH_done (by kernel_rfl) ?_ _
     clear hHeld
     rw [setAll_all] at hs
     rotate_left
     · rfl
     have hz : St W0 _ K (.raw rb #[.int .i64 base, .int .i64 (49 + size), .int .i64 leader, .int .i64 0, .int .i64 (attrN app txn ctl 3), .int .i64 last, .int .i64 first, .int .i64 maxt, .int .i64 prod, .int .i64 epoch, .int .i64 sq, .int .i64 l.length] 73 :: _) := hs
     go_wp2_with fail
     refine bodyPost_ret (rc_cell_only rfl _ _ rb [.int .i64 base, .int .i64 (49 + size), .int .i64 leader, .int .i64 0, .int .i64 (attrN app txn ctl 3), .int .i64 last, .int .i64 first, .int .i64 maxt, .int .i64 prod, .int .i64 epoch, .int .i64 sq, .int .i64 l.length] _ rfl (rc_range hz) Try.underlying73 rfl (by kernel_rfl)) rfl ?_
     exact ⟨rfl, hz.drop.drop⟩
theorem glue {l a : Bs} {n m : Nat} (h : a = (l.drop n).take m) : a ++ l.drop (n + m) = l.drop n := by
 rw [h, ← List.drop_drop, List.take_append_drop]
theorem reInner_one {s : Bs} {x : RecS} (h : reInner s = .ok x) : recF x = s ∧ recOk x = 0 ∧ x.R ∧ x.sum ≤ s.length := by
 unfold reInner at h
 cases h0 : getIntN 1 s with
 | error e => rw [h0] at h; cases h
 | ok a =>
  rw [h0] at h
  simp only at h
  by_cases ha : a.1 = 0
  · rw [if_pos ha] at h
    obtain ⟨c, t, rfl⟩ : ∃ c t, s = c :: t := by
     cases s with
     | nil => cases h0
     | cons c t => exact ⟨c, t, rfl⟩
    have hc : c = 0 := by
     have : (.ok (sByte c, 1) : Except Int (Int × Nat)) = .ok a := by rw [← h0]; unfold getIntN; rw [if_neg (by simp)]; rfl
     cases this
     have hn := c.toNat_lt
     have h2 : sByte c = 0 := ha
     unfold sByte at h2
     exact UInt8.toNat_inj.1 (show c.toNat = 0 by split at h2 <;> omega)
    subst hc
    cases h1 : vgetL ((0 :: t : Bs).drop 1) with
    | error e => rw [h1] at h; cases h
    | ok x1 =>
     obtain ⟨tm, k⟩ := x1
     rw [h1] at h
     simp only at h
     cases h2 : vgetI ((0 :: t : Bs).drop (1 + k)) with
     | error e => rw [h2] at h; cases h
     | ok x2 =>
      obtain ⟨o, m⟩ := x2
      rw [h2] at h
      simp only at h
      by_cases ho : o < 0
      · rw [if_pos ho] at h; cases h
      rw [if_neg ho] at h
      cases h3 : revaried ((0 :: t : Bs).drop (1 + k + m)) with
      | error e => rw [h3] at h; cases h
      | ok x3 =>
       obtain ⟨kb, ka⟩ := x3
       rw [h3] at h
       simp only at h
       cases h4 : revaried ((0 :: t : Bs).drop (1 + k + m + ka)) with
       | error e => rw [h4] at h; cases h
       | ok x4 =>
        obtain ⟨vb, va⟩ := x4
        rw [h4] at h
        simp only at h
        cases h5 : reHdrs ((0 :: t : Bs).drop (1 + k + m + ka + va)) with
        | error e => rw [h5] at h; cases h
        | ok x5 =>
         obtain ⟨l, ha5⟩ := x5
         rw [h5] at h
         simp only at h
         by_cases hf : 1 + k + m + ka + va + ha5 = (0 :: t : Bs).length
         · rw [if_pos hf] at h
           cases h
           obtain ⟨g1, _, _, r1, r2⟩ := vgetL_one h1
           obtain ⟨g2, _, _, r3, r4⟩ := vgetI_one h2
           obtain ⟨g3, _, b3, c3, _, d3⟩ := revaried_one h3
           obtain ⟨g4, _, b4, c4, _, d4⟩ := revaried_one h4
           obtain ⟨g5, _, b5, c5, d5⟩ := reHdrs_one h5
           refine ⟨?_, ?_, ⟨⟨r1, r2⟩, by constructor <;> simp only <;> omega⟩, ?_⟩
           · unfold recF
             simp only
             have q5 := glue g5
             rw [List.drop_eq_nil_of_le (by omega), List.append_nil] at q5
             rw [q5, glue g4, glue g3]
             have q2 : encI o ++ (0 :: t : Bs).drop (1 + k + m) = (0 :: t : Bs).drop (1 + k) := glue g2
             have q1 : encI tm ++ (0 :: t : Bs).drop (1 + k) = (0 :: t : Bs).drop 1 := glue g1
             rw [q2, q1]
             rfl
           · unfold recOk RecS.allRight
             simp only
             rw [if_neg (by omega), c3, c4, c5]
             rfl
           · unfold RecS.sum
             simp only
             have e3 : kb.data.length ≤ ka := by split at d3 <;> omega
             have e4 : vb.data.length ≤ va := by split at d4 <;> omega
             omega
         · rw [if_neg hf] at h; cases h
  · rw [if_neg ha] at h; cases h
theorem reRec_one {s : Bs} {x : RecS} {m : Nat} (h : reRec s = .ok (x, m)) : encR x = s.take m ∧ recOk x = 0 ∧ x.R ∧ x.sum ≤ s.length ∧ 0 < m ∧ m ≤ s.length := by
 unfold reRec at h
 cases h1 : revaried s with
 | error e => rw [h1] at h; cases h
 | ok b =>
  obtain ⟨⟨n, d⟩, k⟩ := b
  rw [h1] at h
  simp only at h
  obtain ⟨g1, g2, g3, _, _, g5⟩ := revaried_one h1
  cases n with
  | true => cases h
  | false =>
   simp only [Bool.false_eq_true, if_false] at h
   cases h2 : reInner d with
   | error e => rw [h2] at h; cases h
   | ok y =>
    rw [h2] at h
    cases h
    obtain ⟨k1, k2, k3, k4⟩ := reInner_one h2
    simp at g5
    exact ⟨by unfold encR; rw [k1]; exact g1, k2, k3, by omega, g2, g3⟩
theorem hsum_fit : ∀ (l : List HdrS) (N : Nat), hsum l ≤ N → ∀ x ∈ l, x.key.length ≤ N ∧ x.val.data.length ≤ N
  | [], _, _, _, h => by cases h
  | y :: t, N, hh, x, hx => by
    simp only [hsum, List.map_cons, List.sum_cons] at hh
    rcases List.mem_cons.1 hx with rfl | hx
    · omega
    · exact hsum_fit t N (by simp only [hsum]; omega) x hx
theorem unp_fit : ∀ (n : Nat) (rows : Bs) (pos : Nat) (rs : List RecS), pos ≤ rows.length → unp n ⟨rows, pos, 0⟩ = .ok rs → rs.length = n ∧ rs.length + pos ≤ rows.length ∧ ∀ x ∈ rs, x.R ∧ recOk x = 0 ∧ x.sum ≤ rows.length
  | 0, rows, pos, rs, hp, h => by
    unfold unp at h
    split at h
    · cases h; exact ⟨rfl, by simpa using hp, fun x hx => by cases hx⟩
    · cases h
  | n + 1, rows, pos, rs, hp, h => by
    have h : (if (⟨rows, pos, 0⟩ : InS).left = 0 then .error 10 else if (⟨rows, pos, 0⟩ : InS).record.2.err = 0 then consE (⟨rows, pos, 0⟩ : InS).record.1 (unp n (⟨rows, pos, 0⟩ : InS).record.2) else .error (⟨rows, pos, 0⟩ : InS).record.2.err) = .ok rs := h
    by_cases c1 : (⟨rows, pos, 0⟩ : InS).left = 0
    · rw [if_pos c1] at h; cases h
    rw [if_neg c1] at h
    cases hr : reRec (rows.drop pos) with
    | error e =>
      obtain ⟨he, q, _, hf⟩ := rds_rec.err rows pos e hp hr
      rw [hf] at h
      simp only at h
      rw [if_neg he] at h
      cases h
    | ok y =>
      obtain ⟨x, m⟩ := y
      obtain ⟨hpm, hf⟩ := rds_rec.ok rows pos x m hp hr
      rw [hf] at h
      simp only [if_true] at h
      cases hu : unp n ⟨rows, pos + m, 0⟩ with
      | error e => rw [hu] at h; cases h
      | ok t =>
        rw [hu] at h
        have h : Except.ok (x :: t) = Except.ok rs := h
        injection h with h
        subst h
        obtain ⟨i1, i2, i3⟩ := unp_fit n rows (pos + m) t hpm hu
        obtain ⟨_, j1, j2, j3, j4, j5⟩ := reRec_one hr
        rw [List.length_drop] at j3 j5
        refine ⟨by simp [i1], by simp only [List.length_cons]; omega, fun y hy => ?_⟩
        rcases List.mem_cons.1 hy with rfl | hy
        · exact ⟨j2, j1, by omega⟩
        · exact i3 y hy
theorem unp_fitB {n : Nat} {rows : Bs} {rs : List RecS} {l : List (RecS × Value)} (hu : unp n ⟨rows, 0, 0⟩ = .ok rs) (hl : l.map (·.1) = rs) (hr : rows.length ≤ 1000000) : FitB l ∧ l.length ≤ 1000000 := by
 obtain ⟨i1, i2, i3⟩ := unp_fit n rows 0 rs (Nat.zero_le _) hu
 constructor
 · intro x hx
   have hm : x.1 ∈ rs := by rw [← hl]; exact List.mem_map.2 ⟨x, hx, rfl⟩
   obtain ⟨a, _, c⟩ := i3 x.1 hm
   refine ⟨a, fun y hy => ?_, by omega⟩
   have h1 : hsum x.1.hdrs ≤ 1000000 := by unfold RecS.sum at c; omega
   have := hsum_fit x.1.hdrs 1000000 h1 y hy
   omega
 · have : l.length = rs.length := by rw [← hl, List.length_map]
   omega
def asmB (x : PreS) (said rows : Bs) : Except Int BatS :=
  if ((crcMore 0#32 (said.drop 21 ++ rows)).toNat : Int) ≠ x.sum then .error 5
  else if chk x.attr ≠ 0 then .error (chk x.attr)
  else match unp x.count.toNat ⟨rows, 0, 0⟩ with
    | .error e => .error e
    | .ok rs => if batErr ⟨x.base, x.leader, bitAt x.attr 3, bitAt x.attr 4, bitAt x.attr 5, x.last, x.first, x.maxt, x.prod, x.epoch, x.seq, rs⟩ = 0 then .ok ⟨x.base, x.leader, bitAt x.attr 3, bitAt x.attr 4, bitAt x.attr 5, x.last, x.first, x.maxt, x.prod, x.epoch, x.seq, rs⟩ else .error (batErr ⟨x.base, x.leader, bitAt x.attr 3, bitAt x.attr 4, bitAt x.attr 5, x.last, x.first, x.maxt, x.prod, x.epoch, x.seq, rs⟩)
theorem attr_readE (n : Int) {W0 w : World} {K : Know} {L : List Res} (h : St W0 w K L) :
 Calls Try.prog 89 #[.int .i64 n] w fun en w' => en = .returned (.tuple #[.bool (bitAt n 3), .bool (bitAt n 4), .bool (bitAt n 5)]) ∧ St W0 w' K L := (attr_read n w).mono fun _ _ hh => ⟨hh.1, hh.2 ▸ h⟩
theorem attr_checkE (n e : Int) (he : chk n = e) (hn : R64 n) {W0 w : World} {K : Know} {L : List Res} (h : St W0 w K L) :
 Calls Try.prog 87 #[.int .i64 n] w fun en w' => en = .returned (.int .i64 e) ∧ St W0 w' K L := (attr_check n hn w).mono fun _ _ hh => ⟨he ▸ hh.1, hh.2 ▸ h⟩
theorem s_takeE (b : Nat) (i j : InS) (n : Int) (s : Bs) (hx : i.take n = (s, j)) {W0 w : World} {K : Know} {L : List Res} (h : St W0 w K (.inp b i :: L)) :
  Calls Try.prog 47 #[inPtr b, .int .i64 n] w fun en w' => en = .returned (.string (bb s)) ∧ St W0 w' K (.inp b j :: L) := by
 have := s_take b i n h; rw [hx] at this; exact this
theorem s_failE (b : Nat) (i j : InS) (e : Int) (hx : i.fail e = j) {W0 w : World} {K : Know} {L : List Res} (h : St W0 w K (.inp b i :: L)) :
  Calls Try.prog 24 #[inPtr b, .int .i64 e] w fun en w' => en = .returned (.tuple #[]) ∧ St W0 w' K (.inp b j :: L) := by
 subst hx; exact s_fail b i e h
theorem s_closeE (b : Nat) (i j : InS) (e : Int) (hx : i.close = j) (he : j.err = e) {W0 w : World} {K : Know} {L : List Res} (h : St W0 w K (.inp b i :: L)) :
  Calls Try.prog 31 #[inPtr b] w fun en w' => en = .returned (.int .i64 e) ∧ St W0 w' K (.inp b j :: L) := by
 subst hx he; exact s_close b i h
theorem unp_ne : ∀ (n : Nat) (i : InS) (e : Int), unp n i = .error e → e ≠ 0
  | 0, i, e, h => by
    unfold unp at h
    split at h
    · cases h
    · cases h; decide
  | n + 1, i, e, h => by
    have h : (if i.left = 0 then .error 10 else if i.record.2.err = 0 then consE i.record.1 (unp n i.record.2) else .error i.record.2.err) = .error e := h
    by_cases c1 : i.left = 0
    · rw [if_pos c1] at h; cases h; decide
    rw [if_neg c1] at h
    by_cases c2 : i.record.2.err = 0
    · rw [if_pos c2] at h
      cases hu : unp n i.record.2 with
      | ok t => rw [hu] at h; cases h
      | error f =>
        rw [hu] at h
        have h : Except.error f = Except.error e := h
        injection h with h
        subst h
        exact unp_ne n _ _ hu
    · rw [if_neg c2] at h
      injection h with h
      exact h ▸ c2
theorem asmB_ne {x : PreS} {said rows : Bs} {e : Int} (h : asmB x said rows = .error e) : e ≠ 0 := by
 unfold asmB at h
 split at h
 · cases h; decide
 split at h
 · cases h; assumption
 split at h
 · rename_i f hu
   cases h
   exact unp_ne _ _ _ hu
 · split at h
   · cases h
   · cases h; assumption
theorem asmB_ok {x : PreS} {said rows : Bs} {b : BatS} (h : asmB x said rows = .ok b) : ((crcMore 0#32 (said.drop 21 ++ rows)).toNat : Int) = x.sum ∧ chk x.attr = 0 ∧ ∃ rs, unp x.count.toNat ⟨rows, 0, 0⟩ = .ok rs ∧ batErr (⟨x.base, x.leader, bitAt x.attr 3, bitAt x.attr 4, bitAt x.attr 5, x.last, x.first, x.maxt, x.prod, x.epoch, x.seq, rs⟩ : BatS) = 0 ∧ b = (⟨x.base, x.leader, bitAt x.attr 3, bitAt x.attr 4, bitAt x.attr 5, x.last, x.first, x.maxt, x.prod, x.epoch, x.seq, rs⟩ : BatS) := by
 unfold asmB at h
 split at h
 · cases h
 rename_i h1
 split at h
 · cases h
 rename_i h2
 have h1 : ((crcMore 0#32 (said.drop 21 ++ rows)).toNat : Int) = x.sum := by
   by_cases hh : ((crcMore 0#32 (said.drop 21 ++ rows)).toNat : Int) = x.sum
   · exact hh
   · exact absurd hh h1
 have h2 : chk x.attr = 0 := by
   by_cases hh : chk x.attr = 0
   · exact hh
   · exact absurd hh h2
 split at h
 · cases h
 · rename_i rs hu
   split at h
   · rename_i hb
     cases h
     exact ⟨h1, h2, rs, hu, hb, rfl⟩
   · cases h
theorem encInts_append (a b : List (Int × Nat)) : encInts (a ++ b) = encInts a ++ encInts b := List.flatMap_append
theorem FitsAll.nil : FitsAll [] := fun _ hx => by cases hx
theorem FitsAll.append {a b : List (Int × Nat)} (h : FitsAll a) (k : FitsAll b) : FitsAll (a ++ b) := fun x hx => (List.mem_append.1 hx).elim (h x) (k x)
theorem FitsAll.one {n : Int} {z : Nat} (h : fits n z) : FitsAll [(n, z)] := fun x hx => by simp at hx; subst hx; exact h
theorem sumItem_fits (n : Int) (h0 : ¬ n < 0) (h1 : ¬ 4294967295 < n) : fits (sumItem n) 4 := by
 have e4 : half 4 = 2147483648 := by decide
 unfold fits sumItem
 rw [if_neg (by omega)]
 refine ⟨by decide, by decide, ?_⟩
 have : (4 : Int).toNat = 4 := rfl
 rw [this, e4]
 split <;> omega
theorem sumItem_bad (n : Int) (h : n < 0 ∨ 4294967295 < n) : ¬ fits (sumItem n) 4 := by
 have e : sumItem n = 4294967296 := if_pos h
 rw [e]
 decide
def preX (s : Bs) : PreS × Int := preOfL (intsOf preSizes s)
def rePre (s : Bs) : Except Int PreS := if s.length < 61 then .error 1 else if (preX s).2 = 2 then (if (preX s).1.len < 49 then .error 4 else if (preX s).1.count < 0 then .error 10 else .ok (preX s).1) else .error 6
theorem InS.fail_stuck_Pre6 {i : InS} (h : i.err ≠ 0) (e : Int) : i.fail e = i := if_neg h
theorem InS.fail_ok0 (s : Bs) (p : Nat) (e : Int) : (⟨s, p, 0⟩ : InS).fail e = ⟨s, p, e⟩ := rfl
theorem preChk_stuck (x : PreS) (m : Int) {i : InS} (h : i.err ≠ 0) : preChk x m i = i := by
 unfold preChk
 simp only [InS.fail_stuck_Pre6 h, ite_self]
theorem pre_okA (s : Bs) (pos : Nat) (hp : pos + 61 ≤ s.length) : (⟨s, pos, 0⟩ : InS).pre = match rePre (s.drop pos) with | .ok x => (x, ⟨s, pos + 61, 0⟩) | .error e => (PreS.zero, ⟨s, pos + 61, e⟩) := by
 have h1 := ints_ok preSizes s pos (by decide) hp
 have h2 : preSizes.sum = 61 := rfl
 rw [h2] at h1
 unfold InS.pre
 rw [h1]
 unfold rePre preX
 rw [if_neg (by rw [List.length_drop]; omega)]
 obtain ⟨x, m⟩ := preOfL (intsOf preSizes (s.drop pos))
 simp only [preChk]
 by_cases hm : m = 2
 · rw [if_pos hm, if_pos hm]
   by_cases hl : x.len < 49
   · rw [if_pos hl, if_pos hl, InS.fail_ok0, InS.fail_stuck_Pre6 (show (4 : Int) ≠ 0 by decide), ite_self, if_neg (show ¬ (4 : Int) = 0 by decide)]
   · rw [if_neg hl, if_neg hl]
     by_cases hc : x.count < 0
     · rw [if_pos hc, if_pos hc, InS.fail_ok0, if_neg (show ¬ (10 : Int) = 0 by decide)]
     · rw [if_neg hc, if_neg hc, if_pos rfl]
 · have hs : ∀ e : Int, (⟨s, pos + 61, 6⟩ : InS).fail e = ⟨s, pos + 61, 6⟩ := fun e => InS.fail_stuck_Pre6 (show (6 : Int) ≠ 0 by decide) e
   rw [if_neg hm, if_neg hm, InS.fail_ok0]
   simp only [hs, ite_self]
   rw [if_neg (show ¬ (6 : Int) = 0 by decide)]
theorem pre_shortA (s : Bs) (pos : Nat) (hp : pos ≤ s.length) (hs : s.length < pos + 61) : ∃ q, q ≤ s.length ∧ (⟨s, pos, 0⟩ : InS).pre = (PreS.zero, ⟨s, q, 1⟩) := by
 obtain ⟨q, h1, h2⟩ := ints_short preSizes s pos (by decide) hp hs
 refine ⟨q, h1, ?_⟩
 unfold InS.pre
 rw [h2, preChk_stuck _ _ (show (1 : Int) ≠ 0 by decide)]
 simp only
 rw [if_neg (by decide)]
theorem rePre_short {s : Bs} (h : s.length < 61) : rePre s = .error 1 := if_pos h
theorem intsOf_take : ∀ (l : List Nat) (s : Bs) (n : Nat), l.sum ≤ n → intsOf l (s.take n) = intsOf l s
  | [], _, _, _ => rfl
  | k :: t, s, n, h => by
    rw [List.sum_cons] at h
    unfold intsOf
    rw [List.take_take, Nat.min_eq_left (by omega), List.drop_take, intsOf_take t (s.drop k) (n - k) (by omega)]
theorem rePre_take (s : Bs) (h : 61 ≤ s.length) : rePre (s.take 61) = rePre s := by
 unfold rePre preX
 rw [intsOf_take preSizes s 61 (by decide), List.length_take, Nat.min_eq_left h, if_neg (show ¬ 61 < 61 by decide), if_neg (show ¬ s.length < 61 by omega)]
theorem sInt_range4 (s : Bs) (h : s.length ≤ 4) : -2147483648 ≤ sInt s ∧ sInt s < 2147483648 := by
 rcases (by omega : s.length = 0 ∨ (1 ≤ s.length ∧ s.length ≤ 4)) with h0 | h0
 · have : s = [] := List.length_eq_zero_iff.1 h0
   subst this
   decide
 · have h1 := (sInt_fits s s.length h0.1 (by omega) rfl).2.2
   rw [Int.toNat_natCast] at h1
   have h2 : half s.length ≤ 2147483648 := by
    rcases (by omega : s.length = 1 ∨ s.length = 2 ∨ s.length = 3 ∨ s.length = 4) with h | h | h | h <;> rw [h] <;> decide
   omega
theorem preX_eq (s : Bs) : preX s = (⟨sInt (s.take 8), sInt ((s.drop 8).take 4), sInt ((s.drop 12).take 4), sInt ((s.drop 17).take 4) % 4294967296, sInt ((s.drop 21).take 2), sInt ((s.drop 23).take 4), sInt ((s.drop 27).take 8), sInt ((s.drop 35).take 8), sInt ((s.drop 43).take 8), sInt ((s.drop 51).take 2), sInt ((s.drop 53).take 4), sInt ((s.drop 57).take 4)⟩, sInt ((s.drop 16).take 1)) := by
 unfold preX preSizes
 simp only [intsOf, List.drop_drop, Nat.reduceAdd]
 rfl
theorem preX_len (s : Bs) : -2147483648 ≤ (preX s).1.len ∧ (preX s).1.len < 2147483648 := by
 rw [preX_eq]
 exact sInt_range4 _ (by rw [List.length_take]; omega)
theorem rePre_ok {s : Bs} {x : PreS} (h : rePre s = .ok x) : 61 ≤ s.length ∧ (preX s).1 = x ∧ (preX s).2 = 2 ∧ 49 ≤ x.len ∧ 0 ≤ x.count := by
 unfold rePre at h
 split at h
 · cases h
 split at h
 · split at h
   · cases h
   · split at h
     · cases h
     · cases h
       exact ⟨by omega, rfl, by assumption, by omega, by omega⟩
 · cases h
theorem rePre_err {s : Bs} {e : Int} (h : rePre s = .error e) : e ≠ 0 := by
 unfold rePre at h
 split at h
 · cases h; decide
 split at h
 · split at h
   · cases h; decide
   · split at h
     · cases h; decide
     · cases h
 · cases h; decide

theorem prefix_readQ (p : Nat) (i j : InS) (x : PreS) (hx : i.pre = (x, j)) {W0 w : World} {K : Know} {L : List Res} (h : St W0 w K (.inp p i :: L)) :
  Calls Try.prog 61 #[inPtr p] w fun en w' => en = .returned (.agg #[.int .i64 x.base, .int .i64 x.len, .int .i64 x.leader, .int .i64 x.sum, .int .i64 x.attr, .int .i64 x.last, .int .i64 x.first, .int .i64 x.maxt, .int .i64 x.prod, .int .i64 x.epoch, .int .i64 x.seq, .int .i64 x.count]) ∧ St W0 w' K (.inp p j :: L) := by
 have := prefix_read p i h; rw [hx] at this; exact this
def reBat (s : Bs) : Except Int (BatS × Nat) := match rePre s with
  | .error e => .error e
  | .ok x => if s.length < 61 + (x.len - 49).toNat then .error 1 else match asmB x (s.take 61) ((s.drop 61).take (x.len - 49).toNat) with
    | .error e => .error e
    | .ok b => .ok (b, 61 + (x.len - 49).toNat)
def batD (s : Bs) : Except Int BatS := match reBat s with
  | .error e => .error e
  | .ok y => if y.2 < s.length then .error 2 else .ok y.1
theorem pre_ranges {s : Bs} {x : PreS} (h : rePre s = .ok x) : (-2147483648 ≤ x.len ∧ x.len < 2147483648) ∧ 49 ≤ x.len ∧ R64 x.attr ∧ 0 ≤ x.count ∧ x.count ≤ 2147483647 ∧ x.first ≤ 9223372036854775807 := by
 obtain ⟨h1, h2, _, h3, h4⟩ := rePre_ok h
 have hl := preX_len s
 rw [h2] at hl
 rw [preX_eq] at h2
 have h2 := h2.symm
 subst h2
 simp only at *
 have a := sInt_range ((s.drop 21).take 2) (by rw [List.length_take]; omega)
 have b := sInt_range ((s.drop 27).take 8) (by rw [List.length_take]; omega)
 have c := sInt_range4 ((s.drop 57).take 4) (by rw [List.length_take]; omega)
 exact ⟨hl, h3, a, h4, by omega, by omega⟩
theorem reBat_ne {s : Bs} {e : Int} (h : reBat s = .error e) : e ≠ 0 := by
 unfold reBat at h
 split at h
 · rename_i f hp
   cases h
   exact rePre_err hp
 · split at h
   · cases h; decide
   · split at h
     · rename_i f ha
       cases h
       exact asmB_ne ha
     · cases h
theorem reBat_ok {s : Bs} {b : BatS} {n : Nat} (h : reBat s = .ok (b, n)) : ∃ x, rePre s = .ok x ∧ n = 61 + (x.len - 49).toNat ∧ n ≤ s.length ∧ asmB x (s.take 61) ((s.drop 61).take (x.len - 49).toNat) = .ok b := by
 unfold reBat at h
 split at h
 · cases h
 · rename_i x hp
   split at h
   · cases h
   · split at h
     · cases h
     · rename_i c ha
       cases h
       exact ⟨x, hp, rfl, by omega, ha⟩
theorem putRec_good (o : Bs) (x : RecS) (h : recOk x = 0) : (⟨o, 0⟩ : OutS).putRec x = ⟨o ++ encR x, 0⟩ := by
 unfold OutS.putRec
 rw [if_pos h]
 rfl
theorem recsC_ok : ∀ (l : List RecS), recsC l = 0 → ∀ x ∈ l, recOk x = 0
  | [], _, _, h => by cases h
  | r :: t, hh, x, hx => by
    have hh : (if recOk r = 0 then recsC t else recOk r) = 0 := hh
    by_cases h1 : recOk r = 0
    · rw [if_pos h1] at hh
      rcases List.mem_cons.1 hx with rfl | hx
      · exact h1
      · exact recsC_ok t hh x hx
    · rw [if_neg h1] at hh; exact absurd hh h1
theorem encAll_small {l : List (RecS × Value)} (h : FitB l) : (encAll l).length ≤ 40000000 * l.length := by
 have : ∀ (l : List (RecS × Value)), (∀ x ∈ l, (encR x.1).length ≤ 40000000) → (encAll l).length ≤ 40000000 * l.length := by
  intro l
  induction l with
  | nil => intro _; simp [encAll]
  | cons x t ih =>
   intro hh
   have h1 := ih (fun y hy => hh y (by simp [hy]))
   have h2 := hh x (by simp)
   have e : encAll (x :: t) = encR x.1 ++ encAll t := rfl
   rw [e, List.length_append, List.length_cons]
   omega
 refine this l fun x hx => ?_
 obtain ⟨a, _, c⟩ := h x hx
 have h1 := recF_le x.1 a c
 unfold encR encV
 rw [List.length_append]
 have h2 : (putU (foldN (BlobS.len ⟨false, recF x.1⟩))).length ≤ 10 := putU_len _ (foldN_lt (by simp [BlobS.len] <;> omega) (by simp [BlobS.len] <;> omega))
 simp only at *
 omega
theorem sumItem_mod6 (n : Int) (h : fits (sumItem n) 4) : sumItem n % 4294967296 = n := by
 by_cases h0 : n < 0 ∨ 4294967295 < n
 · exact absurd h (sumItem_bad n h0)
 · unfold sumItem
   rw [if_neg h0]
   split <;> omega
theorem preX_enc6 (x : PreS) (hf : FitsAll x.items) : preX (encInts x.items) = (x, 2) := by
 have h1 := intsOf_enc x.items [] hf
 rw [List.append_nil] at h1
 have h2 : x.items.map (·.2) = preSizes := rfl
 rw [h2] at h1
 have h3 := sumItem_mod6 x.sum (hf (sumItem x.sum, 4) (by simp [PreS.items]))
 unfold preX
 rw [h1]
 simp only [PreS.items, List.map_cons, List.map_nil, preOfL, h3]
theorem items_len (x : PreS) : (encInts x.items).length = 61 := by rw [encInts_length]; rfl
theorem rePre_enc (x : PreS) (hf : FitsAll x.items) (hl : 49 ≤ x.len) (hc : 0 ≤ x.count) (t : Bs) : rePre (encInts x.items ++ t) = .ok x := by
 have h := rePre_take (encInts x.items ++ t) (by rw [List.length_append, items_len]; omega)
 rw [List.take_left' (items_len x)] at h
 rw [← h]
 unfold rePre
 rw [preX_enc6 x hf, if_neg (by rw [items_len]; omega), if_pos rfl, if_neg (by simp only; omega), if_neg (by simp only; omega)]
def BatS.rowsB (b : BatS) : Bs := b.recs.flatMap encR
def BatS.pre (b : BatS) (sum : Int) : PreS := ⟨b.base, 49 + b.rowsB.length, b.leader, sum, attrN b.app b.txn b.ctl 3, b.last, b.first, b.maxt, b.prod, b.epoch, b.seq, b.recs.length⟩
def BatS.front (b : BatS) (sum : Int) : Bs := encInts [(b.base, 8), (49 + b.rowsB.length, 4), (b.leader, 4), (2, 1), (sumItem sum, 4)]
def BatS.back (b : BatS) : Bs := encInts [(attrN b.app b.txn b.ctl 3, 2), (b.last, 4), (b.first, 8), (b.maxt, 8), (b.prod, 8), (b.epoch, 2), (b.seq, 4), (b.recs.length, 4)]
def BatS.crc (b : BatS) : Nat := (crcMore 0#32 (b.back ++ b.rowsB)).toNat
def BatS.enc (b : BatS) : Bs := encInts (b.pre b.crc).items ++ b.rowsB
theorem BatS.pre_split (b : BatS) (s : Int) : encInts (b.pre s).items = b.front s ++ b.back := by
 have h : (b.pre s).items = [(b.base, 8), (49 + (b.rowsB.length : Int), 4), (b.leader, 4), (2, 1), (sumItem s, 4)] ++ [(attrN b.app b.txn b.ctl 3, 2), (b.last, 4), (b.first, 8), (b.maxt, 8), (b.prod, 8), (b.epoch, 2), (b.seq, 4), ((b.recs.length : Int), 4)] := rfl
 rw [h, encInts_append]
 rfl
theorem BatS.front_len (b : BatS) (s : Int) : (b.front s).length = 21 := by unfold BatS.front; rw [encInts_length]; rfl
theorem BatS.pre_drop (b : BatS) (s : Int) : (encInts (b.pre s).items).drop 21 = b.back := by rw [b.pre_split, List.drop_left' (b.front_len s)]
theorem BatS.crc_lt (b : BatS) : b.crc < 4294967296 := (crcMore 0#32 (b.back ++ b.rowsB)).isLt
theorem fits_of {n : Int} {k : Nat} (h1 : 1 ≤ k) (h8 : k ≤ 8) (lo : -half k ≤ n) (hi : n < half k) : fits n k := by
 refine ⟨by omega, by omega, ?_, ?_⟩ <;> rw [Int.toNat_natCast] <;> assumption
theorem batErr_zero {b : BatS} (h : batErr b = 0) : b.placed = true ∧ (b.ctl = true → b.txn = true) ∧ b.signed = true ∧ recsC b.recs = 0 := by
 unfold batErr at h
 by_cases p1 : b.placed = false
 · rw [if_pos p1] at h; cases h
 rw [if_neg p1] at h
 by_cases p2 : b.ctl = true ∧ b.txn = false
 · rw [if_pos p2] at h; cases h
 rw [if_neg p2] at h
 by_cases p3 : b.signed = false
 · rw [if_pos p3] at h; cases h
 rw [if_neg p3] at h
 by_cases p4 : b.ctl = true ∧ b.recs.length ≠ 1
 · rw [if_pos p4] at h; cases h
 rw [if_neg p4] at h
 by_cases p5 : recsC b.recs ≠ 0
 · rw [if_pos p5] at h; exact absurd h p5
 refine ⟨by simpa using p1, fun hc => ?_, by simpa using p3, Classical.not_not.1 p5⟩
 cases ht : b.txn with
 | true => rfl
 | false => exact absurd ⟨hc, ht⟩ p2
theorem signed_rng {b : BatS} (h : b.signed = true) : -1 ≤ b.prod ∧ (-1 ≤ b.epoch ∧ b.epoch ≤ 32767) ∧ (-1 ≤ b.seq ∧ b.seq ≤ 2147483647) := by
 unfold BatS.signed at h
 by_cases p : b.prod = -1
 · rw [if_pos p] at h
   have := of_decide_eq_true h
   omega
 rw [if_neg p] at h
 by_cases q : b.prod < 0 ∨ ¬ (0 ≤ b.epoch ∧ b.epoch ≤ 32767)
 · rw [if_pos q] at h; cases h
 rw [if_neg q] at h
 cases hc : b.ctl with
 | true =>
   rw [hc] at h
   have h : decide (b.seq = -1) = true := h
   have := of_decide_eq_true h
   omega
 | false =>
   rw [hc] at h
   have h : decide (0 ≤ b.seq ∧ b.seq ≤ 2147483647) = true := h
   have := of_decide_eq_true h
   omega
theorem attr_facts (a t c : Bool) : (0 ≤ attrN a t c 3 ∧ attrN a t c 3 ≤ 63) ∧ bitAt (attrN a t c 3) 3 = a ∧ bitAt (attrN a t c 3) 4 = t ∧ bitAt (attrN a t c 3) 5 = c ∧ ((c = true → t = true) → chk (attrN a t c 3) = 0) := by
 cases a <;> cases t <;> cases c <;> decide
theorem BatS.fitsAll {b : BatS} (h : batErr b = 0) (hR : b.R) (s : Int) (hs : 0 ≤ s ∧ s ≤ 4294967295) (hz : b.rowsB.length ≤ 1000000) (hn : b.recs.length ≤ 1000000) : FitsAll (b.pre s).items := by
 obtain ⟨p1, p2, p3, p4⟩ := batErr_zero h
 have q1 := of_decide_eq_true p1
 obtain ⟨q2, q3, q4⟩ := signed_rng p3
 obtain ⟨r1, r2, r3, r4, r5, r6, r7, r8⟩ := hR
 unfold Rn at r1 r2 r3 r4 r5 r6 r7 r8
 have qa := (attr_facts b.app b.txn b.ctl).1
 have h8 : half 8 = 9223372036854775808 := by decide
 have h4 : half 4 = 2147483648 := by decide
 have h2 : half 2 = 32768 := by decide
 have h1 : half 1 = 128 := by decide
 intro x hx
 simp only [PreS.items, BatS.pre, List.mem_cons, List.not_mem_nil, or_false] at hx
 rcases hx with rfl | rfl | rfl | rfl | rfl | rfl | rfl | rfl | rfl | rfl | rfl | rfl | rfl
 · exact fits_of (by simp only; decide) (by simp only; decide) (by rw [h8]; simp only; omega) (by rw [h8]; simp only; omega)
 · exact fits_of (by simp only; decide) (by simp only; decide) (by rw [h4]; simp only; omega) (by rw [h4]; simp only; omega)
 · exact fits_of (by simp only; decide) (by simp only; decide) (by rw [h4]; simp only; omega) (by rw [h4]; simp only; omega)
 · exact fits_of (by simp only; decide) (by simp only; decide) (by rw [h1]; simp only; omega) (by rw [h1]; simp only; omega)
 · exact sumItem_fits s (by omega) (by omega)
 · exact fits_of (by simp only; decide) (by simp only; decide) (by rw [h2]; simp only; omega) (by rw [h2]; simp only; omega)
 · exact fits_of (by simp only; decide) (by simp only; decide) (by rw [h4]; simp only; omega) (by rw [h4]; simp only; omega)
 · exact fits_of (by simp only; decide) (by simp only; decide) (by rw [h8]; simp only; omega) (by rw [h8]; simp only; omega)
 · exact fits_of (by simp only; decide) (by simp only; decide) (by rw [h8]; simp only; omega) (by rw [h8]; simp only; omega)
 · exact fits_of (by simp only; decide) (by simp only; decide) (by rw [h8]; simp only; omega) (by rw [h8]; simp only; omega)
 · exact fits_of (by simp only; decide) (by simp only; decide) (by rw [h2]; simp only; omega) (by rw [h2]; simp only; omega)
 · exact fits_of (by simp only; decide) (by simp only; decide) (by rw [h4]; simp only; omega) (by rw [h4]; simp only; omega)
 · exact fits_of (by simp only; decide) (by simp only; decide) (by rw [h4]; simp only; omega) (by rw [h4]; simp only; omega)
theorem BatS.pre_R {b : BatS} (h : batErr b = 0) (hR : b.R) (s : Int) (hs : 0 ≤ s ∧ s ≤ 4294967295) (hz : b.rowsB.length ≤ 1000000) (hn : b.recs.length ≤ 1000000) : (b.pre s).R := by
 have qa := (attr_facts b.app b.txn b.ctl).1
 obtain ⟨r1, r2, r3, r4, r5, r6, r7, r8⟩ := hR
 unfold Rn at r1 r2 r3 r4 r5 r6 r7 r8
 intro n hn
 simp only [PreS.list, BatS.pre, List.mem_cons, List.not_mem_nil, or_false] at hn
 rcases hn with rfl | rfl | rfl | rfl | rfl | rfl | rfl | rfl | rfl | rfl | rfl | rfl <;> omega
theorem unp_back : ∀ (rs : List RecS) (rows : Bs) (pos : Nat), pos ≤ rows.length → rows.drop pos = rs.flatMap encR → (∀ x ∈ rs, x.R ∧ recOk x = 0 ∧ x.sum ≤ 1000000) → unp rs.length ⟨rows, pos, 0⟩ = .ok rs
  | [], rows, pos, hp, hd, _ => by
    have hz : rows.length - pos = 0 := by rw [← List.length_drop, hd]; rfl
    show (if (⟨rows, pos, 0⟩ : InS).left = 0 then Except.ok [] else Except.error (10 : Int)) = Except.ok []
    rw [if_pos (by simp only [InS.left]; exact hz)]
  | x :: t, rows, pos, hp, hd, hx => by
    obtain ⟨hR, ho, hs⟩ := hx x (by simp)
    rw [List.flatMap_cons] at hd
    have hr := reRec_back x hR ho hs (t.flatMap encR)
    rw [← hd] at hr
    obtain ⟨hpm, hf⟩ := rds_rec.ok rows pos x _ hp hr
    have hpos := (reRec_one hr).2.2.2.2.1
    show (if (⟨rows, pos, 0⟩ : InS).left = 0 then Except.error (10 : Int) else if (⟨rows, pos, 0⟩ : InS).record.2.err = 0 then consE (⟨rows, pos, 0⟩ : InS).record.1 (unp t.length (⟨rows, pos, 0⟩ : InS).record.2) else Except.error (⟨rows, pos, 0⟩ : InS).record.2.err) = Except.ok (x :: t)
    rw [if_neg (by simp only [InS.left]; omega), hf]
    simp only [if_true]
    rw [unp_back t rows _ hpm (by rw [← List.drop_drop, hd, List.drop_left]) (fun y hy => hx y (by simp [hy]))]
    rfl
theorem asmB_back {b : BatS} (h : batErr b = 0) (hf : ∀ x ∈ b.recs, x.R ∧ recOk x = 0 ∧ x.sum ≤ 1000000) : asmB (b.pre b.crc) (encInts (b.pre b.crc).items) b.rowsB = .ok b := by
 obtain ⟨_, p2, _, _⟩ := batErr_zero h
 obtain ⟨_, a3, a4, a5, a6⟩ := attr_facts b.app b.txn b.ctl
 have hu := unp_back b.recs b.rowsB 0 (Nat.zero_le _) rfl hf
 unfold asmB
 rw [b.pre_drop]
 have e1 : ((crcMore 0#32 (b.back ++ b.rowsB)).toNat : Int) = (b.pre b.crc).sum := rfl
 have e2 : (b.pre b.crc).attr = attrN b.app b.txn b.ctl 3 := rfl
 have e3 : (b.pre b.crc).count.toNat = b.recs.length := rfl
 rw [if_neg (fun hh => hh e1), e2, if_neg (fun hh => hh (a6 p2)), e3, hu]
 simp only [a3, a4, a5]
 obtain ⟨base, leader, app, txn, ctl, last, first, maxt, prod, epoch, sq, rs⟩ := b
 exact if_pos h
theorem reBat_back {b : BatS} (h : batErr b = 0) (hR : b.R) (hf : ∀ x ∈ b.recs, x.R ∧ recOk x = 0 ∧ x.sum ≤ 1000000) (hz : b.rowsB.length ≤ 1000000) (hn : b.recs.length ≤ 1000000) (t : Bs) : reBat (b.enc ++ t) = .ok (b, b.enc.length) := by
 have hc := b.crc_lt
 have hfa := BatS.fitsAll h hR b.crc (by omega) hz hn
 have hp := rePre_enc (b.pre b.crc) hfa (show (49 : Int) ≤ 49 + (b.rowsB.length : Int) by omega) (show (0 : Int) ≤ (b.recs.length : Int) by omega) (b.rowsB ++ t)
 rw [← List.append_assoc] at hp
 have hle : b.enc.length = 61 + b.rowsB.length := by unfold BatS.enc; rw [List.length_append, items_len]
 have hl : ((b.pre b.crc).len - 49).toNat = b.rowsB.length := by show ((49 + (b.rowsB.length : Int)) - 49).toNat = _; omega
 unfold reBat
 have hp2 : rePre (b.enc ++ t) = .ok (b.pre b.crc) := hp
 rw [hp2]
 simp only
 rw [hl, if_neg (by rw [List.length_append, hle]; omega)]
 have t1 : (b.enc ++ t).take 61 = encInts (b.pre b.crc).items := by
  unfold BatS.enc
  rw [List.append_assoc, List.take_left' (items_len _)]
 have t2 : ((b.enc ++ t).drop 61).take b.rowsB.length = b.rowsB := by
  unfold BatS.enc
  rw [List.append_assoc, List.drop_left' (items_len _), List.take_left]
 rw [t1, t2, asmB_back h hf]
 simp only
 rw [hle]
def FitW (l : List (RecS × Value)) : Prop := ∀ x ∈ l, x.1.R ∧ x.1.hdrs.length ≤ 9223372036854775807 ∧ HFit x.1.hdrs ∧ x.1.key.data.length ≤ 140737488351232 ∧ x.1.val.data.length ≤ 140737488351232
def hAll : List HdrS → Bool
  | [] => true
  | h :: t => decide (h.key.length + h.val.data.length ≤ 100) && hAll t
def smallRec (x : RecS) : Bool := decide (x.key.data.length + x.val.data.length ≤ 100) && (decide (x.hdrs.length ≤ 6) && hAll x.hdrs)
def rAll : List RecS → Bool
  | [] => true
  | r :: t => smallRec r && rAll t
def smallB (l : List RecS) : Bool := decide (l.length ≤ 12) && rAll l
theorem hAll_sum : ∀ (l : List HdrS), hAll l = true → hsum l ≤ 101 * l.length
  | [], _ => by simp [hsum]
  | h :: t, hh => by
    simp only [hAll, Bool.and_eq_true, decide_eq_true_eq] at hh
    have := hAll_sum t hh.2
    simp only [hsum, List.length_cons, List.map_cons, List.sum_cons] at *
    omega
theorem rAll_mem : ∀ (l : List RecS), rAll l = true → ∀ x ∈ l, smallRec x = true
  | [], _, _, h => by cases h
  | r :: t, hh, x, hx => by
    simp only [rAll, Bool.and_eq_true] at hh
    rcases List.mem_cons.1 hx with rfl | hx
    · exact hh.1
    · exact rAll_mem t hh.2 x hx
theorem smallRec_sum {x : RecS} (h : smallRec x = true) : x.sum ≤ 1000 := by
 unfold smallRec at h
 simp only [Bool.and_eq_true, decide_eq_true_eq] at h
 have := hAll_sum _ h.2.2
 unfold RecS.sum
 omega
theorem FitW.fit {l : List (RecS × Value)} (h : FitW l) (hs : smallB (l.map (·.1)) = true) : FitB l := by
 intro x hx
 unfold smallB at hs
 simp only [Bool.and_eq_true] at hs
 have h1 := smallRec_sum (rAll_mem _ hs.2 x.1 (List.mem_map.2 ⟨x, hx, rfl⟩))
 obtain ⟨a, b, c, _⟩ := h x hx
 exact ⟨a, c, by omega⟩
theorem smallB_len {l : List (RecS × Value)} (hs : smallB (l.map (·.1)) = true) : l.length ≤ 12 := by
 unfold smallB at hs
 simp only [Bool.and_eq_true, decide_eq_true_eq, List.length_map] at hs
 exact hs.1
theorem encR_small (x : RecS) (hx : x.R) (hs : x.sum ≤ 1000) : (encR x).length ≤ 33000 := by
 have h1 := recF_le x hx (by omega)
 have h2 := encV_le ⟨false, recF x⟩ (by simp only; omega)
 simp only at h2
 unfold encR
 omega
theorem rows_small : ∀ (l : List RecS) (n : Nat), (∀ x ∈ l, (encR x).length ≤ n) → (l.flatMap encR).length ≤ n * l.length
  | [], _, _ => by simp
  | x :: t, n, h => by
    rw [List.flatMap_cons, List.length_append, List.length_cons, Nat.mul_succ]
    have h1 := rows_small t n (fun y hy => h y (by simp [hy]))
    have h2 := h x (by simp)
    omega
theorem encAll_rows : ∀ (l : List (RecS × Value)), encAll l = (l.map (·.1)).flatMap encR
  | [] => rfl
  | x :: t => by
    have := encAll_rows t
    unfold encAll at *
    rw [List.flatMap_cons, List.map_cons, List.flatMap_cons, this]
structure SmallOk (b : BatS) : Prop where
  fit : ∀ x ∈ b.recs, x.R ∧ recOk x = 0 ∧ x.sum ≤ 1000
  len : b.recs.length ≤ 12
  err : batErr b = 0
  rng : b.R
theorem SmallOk.rows {b : BatS} (h : SmallOk b) : b.rowsB.length ≤ 400000 := by
 have := rows_small b.recs 33000 (fun x hx => encR_small x (h.fit x hx).1 (h.fit x hx).2.2)
 have h2 := h.len
 unfold BatS.rowsB
 omega
theorem SmallOk.recs {b : BatS} (h : SmallOk b) : ∀ x ∈ b.recs, x.R ∧ recOk x = 0 ∧ x.sum ≤ 1000000 := fun x hx => ⟨(h.fit x hx).1, (h.fit x hx).2.1, by have := (h.fit x hx).2.2; omega⟩
theorem SmallOk.back {b : BatS} (h : SmallOk b) (t : Bs) : reBat (b.enc ++ t) = .ok (b, b.enc.length) :=
 reBat_back h.err h.rng h.recs (by have := h.rows; omega) (by have := h.len; omega) t
theorem BatS.enc_len (b : BatS) : b.enc.length = 61 + b.rowsB.length := by unfold BatS.enc; rw [List.length_append, items_len]
theorem SmallOk.elen {b : BatS} (h : SmallOk b) : b.enc.length ≤ 401000 := by rw [b.enc_len]; have := h.rows; omega
theorem SmallOk.of {b : BatS} {l : List (RecS × Value)} (hl : b.recs = l.map (·.1)) (hw : FitW l) (hs : smallB (l.map (·.1)) = true) (he : batErr b = 0) (hR : b.R) : SmallOk b where
 fit := by
  intro x hx
  rw [hl] at hx
  have hf := hw.fit hs
  obtain ⟨y, hy, rfl⟩ := List.mem_map.1 hx
  have hr := recsC_ok _ (batErr_zero he).2.2.2
  have hss := hs
  unfold smallB at hss
  simp only [Bool.and_eq_true] at hss
  exact ⟨(hf y hy).1, hr y.1 (by rw [hl]; exact hx), smallRec_sum (rAll_mem _ hss.2 y.1 hx)⟩
 len := by rw [hl, List.length_map]; exact smallB_len hs
 err := he
 rng := hR
theorem ints_items {x : PreS} (h : FitsAll x.items) : (⟨[], 0⟩ : OutS).ints x.items = ⟨encInts x.items, 0⟩ := by
 rw [OutS.ints_put _ _ h]
 rfl
theorem SmallOk.preX {b : BatS} (so : SmallOk b) : (Go.Proofs.Ytnnnglklgofabaa.preX b.enc).1 = b.pre b.crc ∧ (Go.Proofs.Ytnnnglklgofabaa.preX b.enc).2 = 2 ∧ rePre b.enc = .ok (b.pre b.crc) := by
 have hb := so.back []
 rw [List.append_nil] at hb
 obtain ⟨x, hx, _⟩ := reBat_ok hb
 have hrow := so.rows
 have hlen := so.len
 have hcr := b.crc_lt
 have f1 := BatS.fitsAll so.err so.rng b.crc (by omega) (by omega) (by omega)
 have hp := rePre_enc (b.pre b.crc) f1 (show (49 : Int) ≤ 49 + (b.rowsB.length : Int) by omega) (show (0 : Int) ≤ (b.recs.length : Int) by omega) b.rowsB
 have hp : rePre b.enc = .ok (b.pre b.crc) := hp
 obtain ⟨_, h2, h3, _⟩ := rePre_ok hp
 exact ⟨h2, h3, hp⟩
theorem so_textE (p : Nat) (o : OutS) (s : Bs) (e : Int) (hx : o.text = (s, e)) {W0 w : World} {K : Know} {L : List Res} (h : St W0 w K (.out p o :: L)) :
  Calls Try.prog 17 #[outPtr p] w fun en w' => en = .returned (.tuple #[.string (bb s), .int .i64 e]) ∧ St W0 w' K (.out p o :: L) := by
 have := so_text p o h; rw [hx] at this; exact this
theorem prefix_writeE (p : Nat) (o o2 : OutS) (a0 a1 a2 a3 a4 a5 a6 a7 a8 a9 a10 a11 : Int) (hx : PreS.R ⟨a0, a1, a2, a3, a4, a5, a6, a7, a8, a9, a10, a11⟩) (ho : o.ints (PreS.items ⟨a0, a1, a2, a3, a4, a5, a6, a7, a8, a9, a10, a11⟩) = o2) (hr : o.ok 200) {W0 w : World} {K : Know} {L : List Res} (h : St W0 w K (.out p o :: L)) :
  Calls Try.prog 58 #[outPtr p, .agg #[.int .i64 a0, .int .i64 a1, .int .i64 a2, .int .i64 a3, .int .i64 a4, .int .i64 a5, .int .i64 a6, .int .i64 a7, .int .i64 a8, .int .i64 a9, .int .i64 a10, .int .i64 a11]] w fun en w' => en = .returned (.tuple #[]) ∧ St W0 w' K (.out p o2 :: L) := by
 subst ho
 exact prefix_write p o ⟨a0, a1, a2, a3, a4, a5, a6, a7, a8, a9, a10, a11⟩ hx h hr
set_option maxHeartbeats 1000000 in
set_option maxRecDepth 100000 in
theorem bat_written (a0 a1 a2 a3 a4 a5 a6 a7 a8 a9 a10 a11 : Int) (hx : PreS.R ⟨a0, a1, a2, a3, a4, a5, a6, a7, a8, a9, a10, a11⟩) (o2 : OutS) (s : Bs) (e : Int) (ho : (⟨[], 0⟩ : OutS).ints (PreS.items ⟨a0, a1, a2, a3, a4, a5, a6, a7, a8, a9, a10, a11⟩) = o2) (ht : o2.text = (s, e)) {W0 w : World} {K : Know} {L : List Res} (h : St W0 w K L) :
  Calls Try.prog 28 #[.agg #[.int .i64 a0, .int .i64 a1, .int .i64 a2, .int .i64 a3, .int .i64 a4, .int .i64 a5, .int .i64 a6, .int .i64 a7, .int .i64 a8, .int .i64 a9, .int .i64 a10, .int .i64 a11]] w fun en w' => en = .returned (.tuple #[.string (bb s), .int .i64 e]) ∧ St W0 w' K L := by
 have g1 := h.allocRaw #[.int .i64 a0, .int .i64 a1, .int .i64 a2, .int .i64 a3, .int .i64 a4, .int .i64 a5, .int .i64 a6, .int .i64 a7, .int .i64 a8, .int .i64 a9, .int .i64 a10, .int .i64 a11] 73
 have g2 := g1.allocOut
 obtain ⟨hb, hhb⟩ : ∃ b, w.heap.size = b := ⟨_, rfl⟩
 obtain ⟨po, hpo⟩ : ∃ b, hb + 1 = b := ⟨_, rfl⟩
 simp only [World.size_alloc, hhb, hpo] at g2
 obtain ⟨x0, x1, x2, x3, x4, x5, x6, x7, x8, x9, x10, x11, y0, y1, y2, y3, y4, y5, y6, y7, y8, y9, y10, y11⟩ := raw12 (b := hb) (g2.p1)
 have H := Lib.hid g2
 have HX := Lib.hid hx
 have HO := Lib.hid ho
 have HT := Lib.hid ht
 have HR := Lib.hid (show (⟨[], 0⟩ : OutS).ok 200 by simp [OutS.ok])
 clear g1 g2 h hx ho ht
 go_enter Try.func28, Try.ntmps28
 go_wp2_with (first
  | (go_at_call 58; (with_reducible refine (prefix_writeE po _ _ _ _ _ _ _ _ _ _ _ _ _ _ HX.out HO.out HR.out H.out).mono ?_); rintro e_ wn ⟨rfl, h⟩; replace H := Lib.hid h; clear h)
  | (go_at_call 17; (with_reducible refine (so_textE po _ _ _ HT.out H.out).mono ?_); rintro e_ wn ⟨rfl, h⟩; replace H := Lib.hid h; clear h))
 go_ret2
 exact ⟨rfl, H.out.drop.drop⟩
set_option maxHeartbeats 1000000 in
set_option maxRecDepth 100000 in
theorem bat_pack (l : List (RecS × Value)) (q : Option Addr) (cap : Nat) (rows : Bs) (hrows : encAll l = rows) (hc : recsC (l.map (·.1)) = 0) (hfit : FitB l) (hll : l.length ≤ 1000) {W0 w : World} {K : Know} {L : List Res} (hk : K.has (Know.recs (.slice q l.length cap) l)) (h : St W0 w K L) :
  Calls Try.prog 26 #[.slice q l.length cap] w fun en w' => en = .returned (.tuple #[.string (bb rows), .int .i64 0]) ∧ St W0 w' K L := by
 have g1 := h.allocOut
 obtain ⟨po, hpo⟩ : ∃ b, w.heap.size = b := ⟨_, rfl⟩
 rw [hpo] at g1
 have H := Lib.hid g1
 have HK := Lib.hid hk
 have HFT := Lib.hid hfit
 have HC := Lib.hid hc
 have HRW := Lib.hid hrows
 have HLL := Lib.hid hll
 clear h g1 hk hfit hc hrows hll
 go_enter Try.func26, Try.ntmps26
 go_wp2
 go_loopw [6, 9] (fun _ iv wr => ∃ k : Nat, k ≤ l.length ∧ iv = .int .i64 k ∧ St W0 wr K (.out po ⟨encAll (l.take k), 0⟩ :: L)) (fun _ iv _ => l.length - (intOf iv).toNat)
 case atStart => exact ⟨0, Nat.zero_le _, rfl, H.out⟩
 case round =>
  obtain ⟨k, hkl, rfl, hst⟩ := hrel
  clear H
  have H := Lib.hid hst
  clear hst
  by_cases hlt : k < l.length
  · have OK := Lib.hid (show (⟨encAll (l.take k), 0⟩ : OutS).ok 40000000 by
     have h1 := encAll_small (l := l.take k) (fun y hy => HFT.out y (List.mem_of_mem_take hy))
     have h2 := HLL.out
     rw [List.length_take] at h1
     unfold OutS.ok
     simp only
     omega)
    have hok := recsC_ok _ HC.out l[k].1 (List.mem_map.2 ⟨_, List.getElem_mem hlt, rfl⟩)
    have het := encAll_take l k hlt
    have hll2 := HLL.out
    obtain ⟨b, off, hqq⟩ := recs_at HK.out H.out (by omega)
    subst hqq
    obtain ⟨⟨x, vx⟩, hx⟩ : ∃ x, l[k] = x := ⟨_, rfl⟩
    have cc := recs_cell HK.out H.out k hlt (x, vx) hx
    have hmem : (x, vx) ∈ l := hx ▸ List.getElem_mem hlt
    have xf : x.R ∧ HFit x.hdrs ∧ x.sum ≤ 1000000 := HFT.out (x, vx) hmem
    have xk : K.has (Know.flat RHdr vx 3 x.hdrs) := recs_hdrs HK.out hmem
    obtain ⟨qx, capx, hvx⟩ := flat_form xk H.out
    subst hvx
    simp only at cc
    obtain ⟨c0, c1, c2, c3, c4, c5, c6⟩ := cc
    rw [← Nat.add_assoc] at c1 c2 c3 c4 c5 c6
    have hx1 : l[k].1 = x := by rw [hx]
    have XF := Lib.hid xf
    have XK := Lib.hid xk
    have HX := Lib.hid hx1
    clear xf xk hx1 hx hmem
    obtain ⟨wE, hwE⟩ : ∃ b, wr.heap.size = b := ⟨_, rfl⟩
    have hki : (k : Int) < (l.length : Int) := by omega
    have h := H.out.allocRaw #[.int .i64 x.time, .int .i64 x.off, .bool x.key.null, .string (bb x.key.data), .bool x.val.null, .string (bb x.val.data), .slice qx x.hdrs.length capx] 81
    rw [hwE] at h
    clear H
    have H := Lib.hid h
    clear h
    rw [HX.out] at hok het
    have EO := Lib.hid (show (⟨encAll (l.take k), 0⟩ : OutS).putRec x = ⟨encAll (l.take (k + 1)), 0⟩ by rw [putRec_good _ _ hok, het])
    have hll3 : (l.length : Int) ≤ 1000 := by omega
    obtain ⟨ec0, ec1, ec2, ec3, ec4, ec5, ec6, ef0, ef1, ef2, ef3, ef4, ef5, ef6⟩ := raw7 (b := wE) (H.out)
    clear hok het hll2
    go_wp2_with (go_at_call 56; (with_reducible refine (rec_write po _ _ x (.slice qx x.hdrs.length capx) XF.out.1 XF.out.2.2 EO.out OK.out XK.out H.out.p1).mono ?_); rintro e_ wn ⟨rfl, h⟩; replace H := Lib.hid h; clear h)
    go_roundw
    case rel => exact ⟨k + 1, hlt, by go_num, H.out.p1.drop⟩
    case measure => first | (simp [intOf]; done) | (simp [intOf]; omega)
  · obtain rfl : l.length = k := by omega
    have h := H.out
    rw [List.take_length, HRW.out] at h
    clear H
    have H := Lib.hid h
    clear h
    have HT := Lib.hid (show (⟨rows, 0⟩ : OutS).text = (rows, 0) from rfl)
    go_wp2_with (go_at_call 17; (with_reducible refine (so_textE po _ _ _ HT.out H.out).mono ?_); rintro e_ wn ⟨rfl, h⟩; replace H := Lib.hid h; clear h)
    go_ret2
    exact ⟨rfl, H.out.drop⟩
set_option maxHeartbeats 1000000 in
set_option maxRecDepth 100000 in
theorem bat_encode_bad (base leader : Int) (app txn ctl : Bool) (last first maxt prod epoch sq : Int) (l : List (RecS × Value)) (q : Option Addr) (cap : Nat) (e : Int) (he : batErr ⟨base, leader, app, txn, ctl, last, first, maxt, prod, epoch, sq, l.map (·.1)⟩ = e) (h0 : e ≠ 0) (hmx : first ≤ 9223372036854775807) (hfit : FitB l) (hll : l.length ≤ 1000) {W0 w : World} {K : Know} {L : List Res} (hk : K.has (Know.recs (.slice q l.length cap) l)) (h : St W0 w K L) :
  Calls Try.prog 8 #[.agg #[.int .i64 base, .int .i64 leader, .bool app, .bool txn, .bool ctl, .int .i64 last, .int .i64 first, .int .i64 maxt, .int .i64 prod, .int .i64 epoch, .int .i64 sq, .slice q l.length cap]] w fun en w' => en = .returned (.tuple #[.string ⟨#[]⟩, .int .i64 e]) ∧ St W0 w' K L := by
 have HK := Lib.hid hk
 have HFT := Lib.hid hfit
 have HLL := Lib.hid (show l.length ≤ 1000000 by omega)
 have HMX := Lib.hid hmx
 have HE := Lib.hid he
 have gz : (e == 0) = false := by rw [beq_eq_false_iff_ne]; exact h0
 have h1 := h.allocRaw #[.int .i64 base, .int .i64 leader, .bool app, .bool txn, .bool ctl, .int .i64 last, .int .i64 first, .int .i64 maxt, .int .i64 prod, .int .i64 epoch, .int .i64 sq, .slice q l.length cap] 39
 obtain ⟨hb, hhb⟩ : ∃ b, w.heap.size = b := ⟨_, rfl⟩
 rw [hhb] at h1
 obtain ⟨x0, x1, x2, x3, x4, x5, x6, x7, x8, x9, x10, x11, y0, y1, y2, y3, y4, y5, y6, y7, y8, y9, y10, y11⟩ := raw12 (b := hb) (h1)
 have H := Lib.hid h1
 clear h h1 hk hfit hll hmx he h0
 go_enter Try.func8, Try.ntmps8
 go_wp2_with (go_at_call 25; (with_reducible refine (bat_check _ _ _ _ _ _ _ _ _ _ _ l _ _ e HE.out HMX.out HFT.out HLL.out HK.out H.out).mono ?_); rintro e_ wn ⟨rfl, h⟩; replace H := Lib.hid h; clear h; obtain ⟨x0, x1, x2, x3, x4, x5, x6, x7, x8, x9, x10, x11, y0, y1, y2, y3, y4, y5, y6, y7, y8, y9, y10, y11⟩ := raw12 (b := hb) (H.out))
 go_ret2
 exact ⟨rfl, H.out.drop⟩
set_option maxHeartbeats 2000000 in
set_option maxRecDepth 100000 in
theorem bat_encode_ok (base leader : Int) (app txn ctl : Bool) (last first maxt prod epoch sq : Int) (l : List (RecS × Value)) (q : Option Addr) (cap : Nat) (he : batErr ⟨base, leader, app, txn, ctl, last, first, maxt, prod, epoch, sq, l.map (·.1)⟩ = 0) (hmx : first ≤ 9223372036854775807) (hfit : FitB l) (hll : l.length ≤ 1000) (rows said0 said1 all : Bs) (x : Nat) (at_ : Int) (hrc : recsC (l.map (·.1)) = 0) (hrw : encAll l = rows) (hrl : rows.length ≤ 100000000) (hat : attrN app txn ctl 3 = at_)
    (r0 : PreS.R ⟨base, 49 + rows.length, leader, 0, at_, last, first, maxt, prod, epoch, sq, l.length⟩) (r1 : PreS.R ⟨base, 49 + rows.length, leader, x, at_, last, first, maxt, prod, epoch, sq, l.length⟩) (o0 : (⟨[], 0⟩ : OutS).ints (PreS.items ⟨base, 49 + rows.length, leader, 0, at_, last, first, maxt, prod, epoch, sq, l.length⟩) = ⟨said0, 0⟩) (o1 : (⟨[], 0⟩ : OutS).ints (PreS.items ⟨base, 49 + rows.length, leader, x, at_, last, first, maxt, prod, epoch, sq, l.length⟩) = ⟨said1, 0⟩) (l0 : said0.length = 61) (l1 : said1.length = 61) (hx : (crcMore 0#32 (said0.drop 21 ++ rows)).toNat = x) (hall : said1 ++ rows = all) {W0 w : World} {K : Know} {L : List Res} (hk : K.has (Know.recs (.slice q l.length cap) l)) (h : St W0 w K L) :
    Calls Try.prog 8 #[.agg #[.int .i64 base, .int .i64 leader, .bool app, .bool txn, .bool ctl, .int .i64 last, .int .i64 first, .int .i64 maxt, .int .i64 prod, .int .i64 epoch, .int .i64 sq, .slice q l.length cap]] w fun en w' => en = .returned (.tuple #[.string (bb all), .int .i64 0]) ∧ St W0 w' K L := by
  have HK := Lib.hid hk
  have HFT := Lib.hid hfit
  have HLL := Lib.hid (show l.length ≤ 1000000 by omega)
  have HL1 := Lib.hid hll
  have HMX := Lib.hid hmx
  have HE := Lib.hid he
  have HRW := Lib.hid hrw
  have HRC := Lib.hid hrc
  have AT := Lib.hid hat
  have HSZ := Lib.hid (show rows.length ≤ 140737488355328 by omega)
  have R0 := Lib.hid r0
  have R1 := Lib.hid r1
  have O0 := Lib.hid o0
  have O1 := Lib.hid o1
  have T0 := Lib.hid (show (⟨said0, 0⟩ : OutS).text = (said0, 0) from rfl)
  have T1 := Lib.hid (show (⟨said1, 0⟩ : OutS).text = (said1, 0) from rfl)
  have HX := Lib.hid hx
  have HS21 := Lib.hid (show 21 ≤ said0.length by omega)
  have HS2 := Lib.hid (show said0.length ≤ 140737488355328 by omega)
  have HR2 := Lib.hid (show rows.length ≤ 140737488355328 by omega)
  have HALL := Lib.hid hall
  have hcat : bb said1 ++ bb rows = bb all := by rw [← hall]; exact bb_append _ _
  have hg : ¬ (9223372036854775807 < said1.length + rows.length) := by omega
  have t1 : True := trivial
  have h1 := h.allocRaw #[.int .i64 base, .int .i64 leader, .bool app, .bool txn, .bool ctl, .int .i64 last, .int .i64 first, .int .i64 maxt, .int .i64 prod, .int .i64 epoch, .int .i64 sq, .slice q l.length cap] 39
  obtain ⟨hb, hhb⟩ : ∃ b, w.heap.size = b := ⟨_, rfl⟩
  rw [hhb] at h1
  obtain ⟨x0, x1, x2, x3, x4, x5, x6, x7, x8, x9, x10, x11, y0, y1, y2, y3, y4, y5, y6, y7, y8, y9, y10, y11⟩ := raw12 (b := hb) (h1)
  have H := Lib.hid h1
  clear h h1 hk hfit hll hmx he hrw hrc hat r0 r1 o0 o1 l0 l1 hx hall hrl
  go_enter Try.func8, Try.ntmps8
  go_wp2_with (first
    | (go_at_call 25; (with_reducible refine (bat_check _ _ _ _ _ _ _ _ _ _ _ l _ _ 0 HE.out HMX.out HFT.out HLL.out HK.out H.out).mono ?_); rintro e_ wn ⟨rfl, h⟩; replace H := Lib.hid h; clear h; obtain ⟨x0, x1, x2, x3, x4, x5, x6, x7, x8, x9, x10, x11, y0, y1, y2, y3, y4, y5, y6, y7, y8, y9, y10, y11⟩ := raw12 (b := hb) (H.out))
    | (go_at_call 26; (with_reducible refine (bat_pack l _ _ rows HRW.out HRC.out HFT.out HL1.out HK.out H.out).mono ?_); rintro e_ wn ⟨rfl, h⟩; replace H := Lib.hid h; clear h; obtain ⟨x0, x1, x2, x3, x4, x5, x6, x7, x8, x9, x10, x11, y0, y1, y2, y3, y4, y5, y6, y7, y8, y9, y10, y11⟩ := raw12 (b := hb) (H.out))
    | (go_at_call 27; (with_reducible refine (bat_head _ _ _ _ _ _ _ _ _ _ _ l _ _ rows.length HSZ.out H.out).mono ?_); rw [AT.out]; rintro e_ wn ⟨rfl, h⟩; have h := h.allocRaw #[.int .i64 base, .int .i64 (49 + rows.length), .int .i64 leader, .int .i64 0, .int .i64 at_, .int .i64 last, .int .i64 first, .int .i64 maxt, .int .i64 prod, .int .i64 epoch, .int .i64 sq, .int .i64 l.length] 73; obtain ⟨pb, hpb⟩ : ∃ b, wn.heap.size = b := ⟨_, rfl⟩; rw [hpb] at h; replace H := Lib.hid h; clear h; obtain ⟨p0, p1, p2, p3, p4, p5, p6, p7, p8, p9, p10, p11, u0, u1, u2, u3, u4, u5, u6, u7, u8, u9, u10, u11⟩ := raw12 (b := pb) (H.out))
    | (go_at_call 28; have _t := t1; clear _t; (with_reducible refine (bat_written _ _ _ _ _ _ _ _ _ _ _ _ R0.out _ _ _ O0.out T0.out H.out).mono ?_); rintro e_ wn ⟨rfl, h⟩; replace H := Lib.hid h; clear h; obtain ⟨p0, p1, p2, p3, p4, p5, p6, p7, p8, p9, p10, p11, u0, u1, u2, u3, u4, u5, u6, u7, u8, u9, u10, u11⟩ := raw12 (b := pb) (H.out); have t2 : True := trivial; clear t1)
    | (go_at_call 29; (with_reducible refine (bat_sum said0 rows x HX.out HS21.out HS2.out HR2.out H.out).mono ?_); rintro e_ wn ⟨rfl, h⟩; replace H := Lib.hid h; clear h; obtain ⟨p0, p1, p2, p3, p4, p5, p6, p7, p8, p9, p10, p11, u0, u1, u2, u3, u4, u5, u6, u7, u8, u9, u10, u11⟩ := raw12 (b := pb) (H.out); have h3 : St W0 _ K (.raw pb #[.int .i64 base, .int .i64 (49 + rows.length), .int .i64 leader, .int .i64 x, .int .i64 at_, .int .i64 last, .int .i64 first, .int .i64 maxt, .int .i64 prod, .int .i64 epoch, .int .i64 sq, .int .i64 l.length] 73 :: _) := H.out.rawSet 3 (.int .i64 x); obtain ⟨a0, a1, a2, a3, a4, a5, a6, a7, a8, a9, a10, a11, f0, f1, f2, f3, f4, f5, f6, f7, f8, f9, f10, f11⟩ := raw12 (b := pb) (h3); clear h3)
    | (go_at_call 28; have _t := t2; clear _t; (with_reducible refine (bat_written _ _ _ _ _ _ _ _ _ _ _ _ R1.out _ _ _ O1.out T1.out (H.out.rawSet 3 (.int .i64 x))).mono ?_); rintro e_ wn ⟨rfl, h⟩; replace H := Lib.hid h; clear h; clear t2))
  go_ret2
  exact ⟨rfl, H.out.drop.drop⟩
theorem bat_encode_enc (b : BatS) (l : List (RecS × Value)) (q : Option Addr) (cap : Nat) (hl : l.map (·.1) = b.recs) (so : SmallOk b) {W0 w : World} {K : Know} {L : List Res} (hk : K.has (Know.recs (.slice q l.length cap) l)) (h : St W0 w K L) :
  Calls Try.prog 8 #[.agg #[.int .i64 b.base, .int .i64 b.leader, .bool b.app, .bool b.txn, .bool b.ctl, .int .i64 b.last, .int .i64 b.first, .int .i64 b.maxt, .int .i64 b.prod, .int .i64 b.epoch, .int .i64 b.seq, .slice q l.length cap]] w fun en w' => en = .returned (.tuple #[.string (bb b.enc), .int .i64 0]) ∧ St W0 w' K L := by
 have hrow := so.rows
 have hlen := so.len
 have hcr := b.crc_lt
 have hml : l.length = b.recs.length := by rw [← hl, List.length_map]
 have f0 := BatS.fitsAll so.err so.rng 0 (by decide) (by omega) (by omega)
 have f1 := BatS.fitsAll so.err so.rng b.crc (by omega) (by omega) (by omega)
 have r0 := BatS.pre_R so.err so.rng 0 (by decide) (by omega) (by omega)
 have r1 := BatS.pre_R so.err so.rng b.crc (by omega) (by omega) (by omega)
 have hmx : b.first ≤ 9223372036854775807 := by have := so.rng.2.2.2.1.2; omega
 have e0 : b.pre 0 = (⟨b.base, 49 + (b.rowsB.length : Int), b.leader, 0, attrN b.app b.txn b.ctl 3, b.last, b.first, b.maxt, b.prod, b.epoch, b.seq, (l.length : Int)⟩ : PreS) := by unfold BatS.pre; rw [hml]
 have e1 : b.pre b.crc = (⟨b.base, 49 + (b.rowsB.length : Int), b.leader, (b.crc : Int), attrN b.app b.txn b.ctl 3, b.last, b.first, b.maxt, b.prod, b.epoch, b.seq, (l.length : Int)⟩ : PreS) := by unfold BatS.pre; rw [hml]
 have i0 := ints_items f0
 have i1 := ints_items f1
 have hd0 := b.pre_drop 0
 have l0 := items_len (b.pre 0)
 have l1 := items_len (b.pre b.crc)
 have he : batErr ⟨b.base, b.leader, b.app, b.txn, b.ctl, b.last, b.first, b.maxt, b.prod, b.epoch, b.seq, l.map (·.1)⟩ = 0 := by rw [hl]; exact so.err
 have hrc : recsC (l.map (·.1)) = 0 := by rw [hl]; exact (batErr_zero so.err).2.2.2
 have hrw : encAll l = b.rowsB := by rw [encAll_rows, hl]; rfl
 have hfb : FitB l := by
  intro x hx
  obtain ⟨a, c, d⟩ := so.fit x.1 (by rw [← hl]; exact List.mem_map.2 ⟨x, hx, rfl⟩)
  have := hsum_fit x.1.hdrs 1000 (by unfold RecS.sum at d; omega)
  exact ⟨a, fun y hy => by have := this y hy; omega, by omega⟩
 have hall : encInts (b.pre b.crc).items ++ b.rowsB = b.enc := rfl
 have hx : (crcMore 0#32 ((encInts (b.pre 0).items).drop 21 ++ b.rowsB)).toNat = b.crc := by rw [hd0]; rfl
 rw [e0] at r0 i0
 rw [e1] at r1 i1
 obtain ⟨s0, hs0⟩ : ∃ s, encInts (b.pre 0).items = s := ⟨_, rfl⟩
 obtain ⟨s1, hs1⟩ : ∃ s, encInts (b.pre b.crc).items = s := ⟨_, rfl⟩
 have g0 : encInts (⟨b.base, 49 + (b.rowsB.length : Int), b.leader, 0, attrN b.app b.txn b.ctl 3, b.last, b.first, b.maxt, b.prod, b.epoch, b.seq, (l.length : Int)⟩ : PreS).items = s0 := e0 ▸ hs0
 have g1 : encInts (⟨b.base, 49 + (b.rowsB.length : Int), b.leader, (b.crc : Int), attrN b.app b.txn b.ctl 3, b.last, b.first, b.maxt, b.prod, b.epoch, b.seq, (l.length : Int)⟩ : PreS).items = s1 := e1 ▸ hs1
 rw [g0] at i0
 rw [g1] at i1
 rw [hs0] at hx l0
 rw [hs1] at hall l1
 exact bat_encode_ok b.base b.leader b.app b.txn b.ctl b.last b.first b.maxt b.prod b.epoch b.seq l q cap he hmx hfb (by omega) b.rowsB s0 s1 b.enc b.crc (attrN b.app b.txn b.ctl 3) hrc hrw (by omega) rfl r0 r1 i0 i1 l0 l1 hx hall hk h
def AgreeB (a b : Bs) (first n : Nat) : Prop := b.take 21 = a.take 21 ∧ ∀ i, (i < first ∨ first + n ≤ i) → (bitsOf (a.drop 21)).getD i false = (bitsOf (b.drop 21)).getD i false
theorem AgreeB.refl (a : Bs) (f : Nat) : AgreeB a a f 0 := ⟨rfl, fun _ _ => rfl⟩
theorem AgreeB.step {a b : Bs} {f n : Nat} (h : AgreeB a b f n) : AgreeB a b f (n + 1) := ⟨h.1, fun i hi => h.2 i (by omega)⟩
theorem bat_encode_encE (b : BatS) (s : Bs) (hs : b.enc = s) (l : List (RecS × Value)) (q : Option Addr) (cap : Nat) (hl : l.map (·.1) = b.recs) (so : SmallOk b) {W0 w : World} {K : Know} {L : List Res} (hk : K.has (Know.recs (.slice q l.length cap) l)) (h : St W0 w K L) :
  Calls Try.prog 8 #[.agg #[.int .i64 b.base, .int .i64 b.leader, .bool b.app, .bool b.txn, .bool b.ctl, .int .i64 b.last, .int .i64 b.first, .int .i64 b.maxt, .int .i64 b.prod, .int .i64 b.epoch, .int .i64 b.seq, .slice q l.length cap]] w fun en w' => en = .returned (.tuple #[.string (bb s), .int .i64 0]) ∧ St W0 w' K L := by
 subst hs; exact bat_encode_enc b l q cap hl so hk h
structure BatR where
  b : BatS
  l : List (RecS × Value)
  q : Option Addr
  cap : Nat
def RBat (cs : List Value) (x : BatR) : Prop := cs = [.int .i64 x.b.base, .int .i64 x.b.leader, .bool x.b.app, .bool x.b.txn, .bool x.b.ctl, .int .i64 x.b.last, .int .i64 x.b.first, .int .i64 x.b.maxt, .int .i64 x.b.prod, .int .i64 x.b.epoch, .int .i64 x.b.seq, .slice x.q x.l.length x.cap]
def BatR.Fit (x : BatR) : Prop := x.b.R ∧ FitW x.l ∧ x.l.map (·.1) = x.b.recs
def Know.bats (v : Value) (l : List BatR) : Know := (Know.flat RBat v 12 l).and (Know.all l fun x => Know.recs (.slice x.q x.l.length x.cap) x.l)
theorem bats_flat {K : Know} {v : Value} {l : List BatR} (h : K.has (Know.bats v l)) : K.has (Know.flat RBat v 12 l) := fun w F x => (h w F x).1
theorem bats_recs {K : Know} {v : Value} {l : List BatR} (h : K.has (Know.bats v l)) {x : BatR} (hx : x ∈ l) : K.has (Know.recs (.slice x.q x.l.length x.cap) x.l) := fun w F y => (h w F y).2 x hx
theorem bats_at {W0 w : World} {K : Know} {L : List Res} {q : Option Addr} {n cap : Nat} {l : List BatR} (hk : K.has (Know.bats (.slice q n cap) l)) (h : St W0 w K L) (h0 : 0 < l.length) : ∃ b off, q = some ⟨b, off, none⟩ := by
 obtain ⟨F, hF, _⟩ := h.get
 obtain ⟨q2, cap2, hv, hr⟩ := (bats_flat hk _ _ hF).at
 obtain ⟨b, off, hq, _⟩ := hr h0
 simp at hv
 exact ⟨b, off, hv.1.trans hq⟩
theorem bats_cell {W0 w : World} {K : Know} {L : List Res} {b off n cap : Nat} {l : List BatR} (hk : K.has (Know.bats (.slice (some ⟨b, off, none⟩) n cap) l)) (h : St W0 w K L) (i : Nat) (hi : i < l.length) (x : BatR) (hx : l[i] = x) :
  w.cell? ⟨b, off + i * 12, none⟩ = some (.int .i64 x.b.base) ∧ w.cell? ⟨b, off + i * 12 + 1, none⟩ = some (.int .i64 x.b.leader) ∧ w.cell? ⟨b, off + i * 12 + 2, none⟩ = some (.bool x.b.app) ∧ w.cell? ⟨b, off + i * 12 + 3, none⟩ = some (.bool x.b.txn) ∧ w.cell? ⟨b, off + i * 12 + 4, none⟩ = some (.bool x.b.ctl) ∧ w.cell? ⟨b, off + i * 12 + 5, none⟩ = some (.int .i64 x.b.last) ∧ w.cell? ⟨b, off + i * 12 + 6, none⟩ = some (.int .i64 x.b.first) ∧ w.cell? ⟨b, off + i * 12 + 7, none⟩ = some (.int .i64 x.b.maxt) ∧ w.cell? ⟨b, off + i * 12 + 8, none⟩ = some (.int .i64 x.b.prod) ∧ w.cell? ⟨b, off + i * 12 + 9, none⟩ = some (.int .i64 x.b.epoch) ∧ w.cell? ⟨b, off + i * 12 + 10, none⟩ = some (.int .i64 x.b.seq) ∧ w.cell? ⟨b, off + i * 12 + 11, none⟩ = some (.slice x.q x.l.length x.cap) := by
 subst hx
 obtain ⟨F, hF, _⟩ := h.get
 obtain ⟨q2, cap2, hv, hr⟩ := (bats_flat hk _ _ hF).at
 obtain ⟨b2, off2, hq, hc⟩ := hr (by omega)
 rw [hq] at hv
 simp at hv
 obtain ⟨⟨rfl, rfl⟩, _, _⟩ := hv
 obtain ⟨cs, _, hR, hcs⟩ := hc i hi
 unfold RBat at hR
 subst hR
 refine ⟨?_, ?_, ?_, ?_, ?_, ?_, ?_, ?_, ?_, ?_, ?_, ?_⟩
 · exact hcs 0 _ rfl
 · rw [Nat.add_assoc]; exact hcs 1 _ rfl
 · rw [Nat.add_assoc]; exact hcs 2 _ rfl
 · rw [Nat.add_assoc]; exact hcs 3 _ rfl
 · rw [Nat.add_assoc]; exact hcs 4 _ rfl
 · rw [Nat.add_assoc]; exact hcs 5 _ rfl
 · rw [Nat.add_assoc]; exact hcs 6 _ rfl
 · rw [Nat.add_assoc]; exact hcs 7 _ rfl
 · rw [Nat.add_assoc]; exact hcs 8 _ rfl
 · rw [Nat.add_assoc]; exact hcs 9 _ rfl
 · rw [Nat.add_assoc]; exact hcs 10 _ rfl
 · rw [Nat.add_assoc]; exact hcs 11 _ rfl
def errB : List BatR → Int
  | [] => 0
  | x :: t => if batErr x.b = 0 then errB t else batErr x.b
def encB (l : List BatR) : Bs := l.flatMap fun x => x.b.enc
def allB (l : List BatR) : Bs × Int := if errB l = 0 then (encB l, 0) else ([], errB l)
theorem encB_append (l m : List BatR) : encB (l ++ m) = encB l ++ encB m := List.flatMap_append
theorem encB_one (x : BatR) : encB [x] = x.b.enc := by unfold encB; rw [List.flatMap_cons, List.flatMap_nil, List.append_nil]
theorem encB_take (l : List BatR) (k : Nat) (h : k < l.length) : encB (l.take (k + 1)) = encB (l.take k) ++ l[k].b.enc := by
 rw [List.take_succ_eq_append_getElem h, encB_append, encB_one]
theorem errB_append (l m : List BatR) (h : errB l = 0) : errB (l ++ m) = errB m := by
 induction l with
 | nil => rfl
 | cons x t ih =>
  have hx : (if batErr x.b = 0 then errB t else batErr x.b) = 0 := h
  show (if batErr x.b = 0 then errB (t ++ m) else batErr x.b) = _
  by_cases h1 : batErr x.b = 0
  · rw [if_pos h1] at hx ⊢; exact ih hx
  · rw [if_neg h1] at hx; exact absurd hx h1
theorem errB_append_ne (l m : List BatR) (h : errB l ≠ 0) : errB (l ++ m) = errB l := by
 induction l with
 | nil => exact absurd rfl h
 | cons x t ih =>
  have hx : (if batErr x.b = 0 then errB t else batErr x.b) ≠ 0 := h
  show (if batErr x.b = 0 then errB (t ++ m) else batErr x.b) = if batErr x.b = 0 then errB t else batErr x.b
  by_cases h1 : batErr x.b = 0
  · rw [if_pos h1] at hx; rw [if_pos h1, if_pos h1]; exact ih hx
  · rw [if_neg h1, if_neg h1]
theorem errB_step (l : List BatR) (k : Nat) (h : k < l.length) (h0 : errB (l.take k) = 0) : errB (l.take (k + 1)) = batErr l[k].b := by
 rw [List.take_succ_eq_append_getElem h, errB_append _ _ h0]
 show (if batErr l[k].b = 0 then 0 else batErr l[k].b) = _
 by_cases h1 : batErr l[k].b = 0
 · rw [if_pos h1, h1]
 · rw [if_neg h1]
theorem errB_at (l : List BatR) (k : Nat) (h : k < l.length) (h0 : errB (l.take k) = 0) (h1 : batErr l[k].b ≠ 0) : errB l = batErr l[k].b := by
 have e : errB l = errB (l.take (k + 1) ++ l.drop (k + 1)) := by rw [List.take_append_drop]
 have h2 := errB_step l k h h0
 rw [e, errB_append_ne _ _ (by rw [h2]; exact h1), h2]
theorem errB_mem : ∀ (l : List BatR), errB l = 0 → ∀ x ∈ l, batErr x.b = 0
  | [], _, _, h => by cases h
  | y :: t, hh, x, hx => by
    have hh : (if batErr y.b = 0 then errB t else batErr y.b) = 0 := hh
    by_cases h1 : batErr y.b = 0
    · rw [if_pos h1] at hh
      rcases List.mem_cons.1 hx with rfl | hx
      · exact h1
      · exact errB_mem t hh x hx
    · rw [if_neg h1] at hh; exact absurd hh h1
theorem encB_le : ∀ (l : List BatR), (∀ x ∈ l, x.b.enc.length ≤ 401000) → (encB l).length ≤ 401000 * l.length
  | [], _ => by simp [encB]
  | x :: t, h => by
    have h1 := encB_le t (fun y hy => h y (by simp [hy]))
    have h2 := h x (by simp)
    have e : encB (x :: t) = x.b.enc ++ encB t := rfl
    rw [e, List.length_append, List.length_cons]
    omega
theorem BatR.small {x : BatR} (hf : x.Fit) (hs : smallB (x.l.map (·.1)) = true) (he : batErr x.b = 0) : SmallOk x.b := SmallOk.of hf.2.2.symm hf.2.1 hs he hf.1
theorem encR_small2 (x : RecS) (hx : x.R) (hs : smallRec x = true) : (encR x).length ≤ 1100 := by
 unfold smallRec at hs
 simp only [Bool.and_eq_true, decide_eq_true_eq] at hs
 obtain ⟨s1, s2, s3⟩ := hs
 have hm := hAll_sum _ s3
 have h0 := hsum_le x.hdrs
 have h1 := encI_le x.time hx.1
 have h2 := encI_le x.off hx.2
 have h3 := encV_le x.key (by omega)
 have h4 := encV_le x.val (by omega)
 have h5 := encHs_le x.hdrs (by omega)
 have h8 := encI_le x.hdrs.length (by omega)
 have h6 : (recF x).length ≤ 1060 := by
  unfold recF encHs
  simp only [List.length_append, List.length_cons, List.length_nil]
  omega
 have h7 := encV_le ⟨false, recF x⟩ (by simp only; omega)
 simp only at h7
 unfold encR
 omega
theorem BatR.elen {x : BatR} (hf : x.Fit) (hs : smallB (x.l.map (·.1)) = true) : x.b.enc.length ≤ 14000 := by
 rw [x.b.enc_len]
 unfold smallB at hs
 simp only [Bool.and_eq_true, decide_eq_true_eq] at hs
 rw [hf.2.2] at hs
 have h1 := rows_small x.b.recs 1100 (fun y hy => encR_small2 y (by
  have hy2 : y ∈ x.l.map (·.1) := hf.2.2 ▸ hy
  obtain ⟨z, hz, rfl⟩ := List.mem_map.1 hy2
  exact (hf.2.1 z hz).1) (rAll_mem _ hs.2 y hy))
 unfold BatS.rowsB
 omega
theorem encB_le2 : ∀ (l : List BatR), (∀ x ∈ l, x.Fit) → (∀ x ∈ l, smallB (x.l.map (·.1)) = true) → (encB l).length ≤ 14000 * l.length
  | [], _, _ => by simp [encB]
  | x :: t, hf, hs => by
    have h1 := encB_le2 t (fun y hy => hf y (by simp [hy])) (fun y hy => hs y (by simp [hy]))
    have h2 := BatR.elen (hf x (by simp)) (hs x (by simp))
    have e : encB (x :: t) = x.b.enc ++ encB t := rfl
    rw [e, List.length_append, List.length_cons]
    omega
set_option maxHeartbeats 1000000 in
set_option maxRecDepth 100000 in
theorem key_right (s : Bs) (hs : s.length ≤ 140737488355328) {W0 w : World} {K : Know} {L : List Res} (h : St W0 w K L) :
  Calls Try.prog 43 #[.string (bb s)] w fun en w' => en = .returned (.bool (keyRight s)) ∧ St W0 w' K L := by
 have H := Lib.hid h
 clear h
 cases s with
 | nil =>
  go_enter Try.func43, Try.ntmps43
  go_wp2
  go_ret
  exact ⟨rfl, H.out⟩
 | cons c t =>
  have HS := Lib.hid hs
  clear hs
  go_enter Try.func43, Try.ntmps43
  go_wp2
  go_ret
  refine ⟨ret_bool ?_, H.out⟩
  unfold keyRight
  rw [Bool.eq_iff_iff]
  simp
  omega
structure PartR where
  idx : Int
  l : List BatR
  q : Option Addr
  cap : Nat
def RPart (cs : List Value) (x : PartR) : Prop := cs = [.int .i64 x.idx, .slice x.q x.l.length x.cap]
def pcells (x : PartR) : List Value := [.int .i64 x.idx, .slice x.q x.l.length x.cap]
def Know.pparts (v : Value) (l : List PartR) : Know := (Know.flat RPart v 2 l).and (Know.all l fun x => Know.bats (.slice x.q x.l.length x.cap) x.l)
structure PTop where
  name : Bs
  l : List PartR
  q : Option Addr
  cap : Nat
def RPTop (cs : List Value) (x : PTop) : Prop := cs = [.string (bb x.name), .slice x.q x.l.length x.cap]
def ptcells (x : PTop) : List Value := [.string (bb x.name), .slice x.q x.l.length x.cap]
def Know.ptops (v : Value) (l : List PTop) : Know := (Know.flat RPTop v 2 l).and (Know.all l fun x => Know.pparts (.slice x.q x.l.length x.cap) x.l)
theorem pparts_flat {K : Know} {v : Value} {l : List PartR} (h : K.has (Know.pparts v l)) : K.has (Know.flat RPart v 2 l) := fun w F x => (h w F x).1
theorem pparts_bats {K : Know} {v : Value} {l : List PartR} (h : K.has (Know.pparts v l)) {x : PartR} (hx : x ∈ l) : K.has (Know.bats (.slice x.q x.l.length x.cap) x.l) := fun w F y => (h w F y).2 x hx
theorem ptops_flat {K : Know} {v : Value} {l : List PTop} (h : K.has (Know.ptops v l)) : K.has (Know.flat RPTop v 2 l) := fun w F x => (h w F x).1
theorem ptops_parts {K : Know} {v : Value} {l : List PTop} (h : K.has (Know.ptops v l)) {x : PTop} (hx : x ∈ l) : K.has (Know.pparts (.slice x.q x.l.length x.cap) x.l) := fun w F y => (h w F y).2 x hx
theorem pparts_at {W0 w : World} {K : Know} {L : List Res} {q : Option Addr} {n cap : Nat} {l : List PartR} (hk : K.has (Know.pparts (.slice q n cap) l)) (h : St W0 w K L) (h0 : 0 < l.length) : ∃ b off, q = some ⟨b, off, none⟩ := by
 obtain ⟨F, hF, _⟩ := h.get
 obtain ⟨q2, cap2, hv, hr⟩ := (pparts_flat hk _ _ hF).at
 obtain ⟨b, off, hq, _⟩ := hr h0
 simp at hv
 exact ⟨b, off, hv.1.trans hq⟩
theorem ptops_at {W0 w : World} {K : Know} {L : List Res} {q : Option Addr} {n cap : Nat} {l : List PTop} (hk : K.has (Know.ptops (.slice q n cap) l)) (h : St W0 w K L) (h0 : 0 < l.length) : ∃ b off, q = some ⟨b, off, none⟩ := by
 obtain ⟨F, hF, _⟩ := h.get
 obtain ⟨q2, cap2, hv, hr⟩ := (ptops_flat hk _ _ hF).at
 obtain ⟨b, off, hq, _⟩ := hr h0
 simp at hv
 exact ⟨b, off, hv.1.trans hq⟩
theorem pparts_cell {W0 w : World} {K : Know} {L : List Res} {b off n cap : Nat} {l : List PartR} (hk : K.has (Know.pparts (.slice (some ⟨b, off, none⟩) n cap) l)) (h : St W0 w K L) (i : Nat) (hi : i < l.length) (x : PartR) (hx : l[i] = x) :
  w.cell? ⟨b, off + i * 2, none⟩ = some (.int .i64 x.idx) ∧ w.cell? ⟨b, off + i * 2 + 1, none⟩ = some (.slice x.q x.l.length x.cap) := by
 subst hx
 obtain ⟨F, hF, _⟩ := h.get
 obtain ⟨q2, cap2, hv, hr⟩ := (pparts_flat hk _ _ hF).at
 obtain ⟨b2, off2, hq, hc⟩ := hr (by omega)
 rw [hq] at hv
 simp at hv
 obtain ⟨⟨rfl, rfl⟩, _, _⟩ := hv
 obtain ⟨cs, _, hR, hcs⟩ := hc i hi
 unfold RPart at hR
 subst hR
 exact ⟨hcs 0 _ rfl, by rw [Nat.add_assoc]; exact hcs 1 _ rfl⟩
theorem ptops_cell {W0 w : World} {K : Know} {L : List Res} {b off n cap : Nat} {l : List PTop} (hk : K.has (Know.ptops (.slice (some ⟨b, off, none⟩) n cap) l)) (h : St W0 w K L) (i : Nat) (hi : i < l.length) (x : PTop) (hx : l[i] = x) :
  w.cell? ⟨b, off + i * 2, none⟩ = some (.string (bb x.name)) ∧ w.cell? ⟨b, off + i * 2 + 1, none⟩ = some (.slice x.q x.l.length x.cap) := by
 subst hx
 obtain ⟨F, hF, _⟩ := h.get
 obtain ⟨q2, cap2, hv, hr⟩ := (ptops_flat hk _ _ hF).at
 obtain ⟨b2, off2, hq, hc⟩ := hr (by omega)
 rw [hq] at hv
 simp at hv
 obtain ⟨⟨rfl, rfl⟩, _, _⟩ := hv
 obtain ⟨cs, _, hR, hcs⟩ := hc i hi
 unfold RPTop at hR
 subst hR
 exact ⟨hcs 0 _ rfl, by rw [Nat.add_assoc]; exact hcs 1 _ rfl⟩
def riseP : Int → List PartR → Bool
  | _, [] => true
  | a, x :: t => decide (a < x.idx) && decide (x.idx ≤ 2147483647) && riseP x.idx t
def errT : Bs → List PTop → Int
  | _, [] => 0
  | a, x :: t => if x.l.length = 0 then 10 else if (keyRight x.name && Op.bytesLess a x.name && riseP (-1) x.l) = true then errT x.name t else 13
def errTops (l : List PTop) : Int := if l.length = 0 then 10 else errT [] l
def errBs (txn : Bool) : List BatR → Int
  | [] => 0
  | x :: t => if batErr x.b ≠ 0 then batErr x.b else if x.b.ctl = true then 12 else if x.b.txn ≠ txn then 8 else errBs txn t
def errPs (txn : Bool) (v : Int) : List PartR → Int
  | [] => 0
  | x :: t => if x.l.length = 0 ∨ (v = 3 ∧ 1 < x.l.length) then 10 else if errBs txn x.l ≠ 0 then errBs txn x.l else errPs txn v t
def errPT (txn : Bool) (v : Int) : List PTop → Int
  | [] => 0
  | x :: t => if errPs txn v x.l ≠ 0 then errPs txn v x.l else errPT txn v t
def errReq (id : BlobS) (acks tmo : Int) (v : Int) (l : List PTop) : Int :=
  if id.right = false ∨ (id.null = false ∧ keyRight id.data = false) then 4
  else if acks < -1 ∨ 1 < acks ∨ tmo < 0 ∨ 2147483647 < tmo then 11
  else if errTops l ≠ 0 then errTops l else errPT (!id.null) v l
theorem riseP_cons (a : Int) (x : PartR) (t : List PartR) : riseP a (x :: t) = (decide (a < x.idx) && decide (x.idx ≤ 2147483647) && riseP x.idx t) := rfl
structure CkR (x : BatR) : Prop where
  recs : x.l.map (·.1) = x.b.recs
  first : x.b.first ≤ 9223372036854775807
  fit : FitB x.l
  len : x.l.length ≤ 1000000
theorem errBs_cons (txn : Bool) (x : BatR) (t : List BatR) : errBs txn (x :: t) = if batErr x.b ≠ 0 then batErr x.b else if x.b.ctl = true then 12 else if x.b.txn ≠ txn then 8 else errBs txn t := rfl
theorem lex_leqP : ∀ x y : Bs, (Op.bytesLess x y || x == y) = !Op.bytesLess y x
  | [], [] => rfl
  | [], _ :: _ => rfl
  | _ :: _, [] => rfl
  | a :: x, b :: y => by
    have ih := lex_leqP x y
    show ((decide (a < b) || (a == b && Op.bytesLess x y)) || (a == b && x == y)) = !(decide (b < a) || (b == a && Op.bytesLess y x))
    by_cases h1 : a = b
    · subst h1
      have h2 : ¬ a < a := by rw [UInt8.lt_iff_toNat_lt]; omega
      simp only [h2, decide_false, Bool.false_or, beq_self_eq_true, Bool.true_and]
      exact ih
    · have e1 : (a == b) = false := by simpa using h1
      have e2 : (b == a) = false := by simpa using fun h => h1 h.symm
      rw [e1, e2]
      simp only [Bool.false_and, Bool.or_false]
      have h3 : a.toNat ≠ b.toNat := fun h => h1 (UInt8.toNat_inj.1 h)
      by_cases h4 : a < b
      · have h5 : ¬ b < a := by rw [UInt8.lt_iff_toNat_lt] at h4 ⊢; omega
        simp [h4, h5]
      · have h5 : b < a := by rw [UInt8.lt_iff_toNat_lt] at h4 ⊢; omega
        simp [h4, h5]
theorem errT_cons (a : Bs) (x : PTop) (t : List PTop) : errT a (x :: t) = if x.l.length = 0 then 10 else if (keyRight x.name && Op.bytesLess a x.name && riseP (-1) x.l) = true then errT x.name t else 13 := rfl
theorem key_rightQ (s : Bs) (r : Bool) (hr : keyRight s = r) (hs : s.length ≤ 140737488355328) {W0 w : World} {K : Know} {L : List Res} (h : St W0 w K L) :
  Calls Try.prog 43 #[.string (bb s)] w fun en w' => en = .returned (.bool r) ∧ St W0 w' K L := by
 subst hr
 exact key_right s hs h
theorem leq_parts (x y : Bs) (h : Op.bytesLess y x = true) : Op.bytesLess x y = false ∧ (x == y) = false := by
 have := lex_leqP x y
 rw [h] at this
 simpa using this
theorem leq_cases (x y : Bs) (h : Op.bytesLess y x = false) : Op.bytesLess x y = true ∨ (Op.bytesLess x y = false ∧ (x == y) = true) := by
 have := lex_leqP x y
 rw [h] at this
 cases c : Op.bytesLess x y with
 | true => exact .inl rfl
 | false => rw [c] at this; exact .inr ⟨rfl, by simpa using this⟩

end Go.Proofs.Ytnnnglklgofabaa
