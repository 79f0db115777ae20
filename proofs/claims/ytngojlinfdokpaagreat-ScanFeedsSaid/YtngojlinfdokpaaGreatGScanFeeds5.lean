/- A text. -/
import Derived.Test.YtngojlinfdokpaaGreatS1
import Derived.Test.YtngojlinfdokpaaGreatGScanFeeds4
import Derived.Test.YtngojlinfdokpaaGreatGScanFeeds1
import Derived.Deep.RegionHeld3
import Derived.Deep.DeepCutAuto
import Derived.Test.YtngojlinfdokpaaGreatRef06b
/- A text. -/
namespace Go.Proofs.YtngojlinfdokpaaGreat
open Go.RowKit

theorem and8 (n : Int) : (bits .and .i64 n 8 != 0) = bitAt n 3 := and_pow n 3 (by decide) 8 (by decide)
theorem and16 (n : Int) : (bits .and .i64 n 16 != 0) = bitAt n 4 := and_pow n 4 (by decide) 16 (by decide)
theorem and32 (n : Int) : (bits .and .i64 n 32 != 0) = bitAt n 5 := and_pow n 5 (by decide) 32 (by decide)
theorem and16z (n : Int) : (bits .and .i64 n 16 == 0) = !bitAt n 4 := by rw [← and16]; simp [bne]
set_option maxHeartbeats 1000000 in
set_option maxRecDepth 100000 in
theorem attr_read (n : Int) (w : World) :
  Calls Tryz.prog 98 #[.int .i64 n] w fun en w' => en = .returned (.tuple #[.bool (bitAt n 3), .bool (bitAt n 4), .bool (bitAt n 5)]) ∧ w = w' := by
 have h1 := and8 n
 have h2 := and16 n
 have h3 := and32 n
 go_enter Tryz.func98, Tryz.ntmps98
 go_wp2
 go_ret3
 rw [← h1, ← h2, ← h3]
 exact ⟨rfl, rfl⟩
set_option maxHeartbeats 1000000 in
set_option maxRecDepth 100000 in
theorem attr_check (n : Int) (hn : R64 n) (w : World) :
   Calls Tryz.prog 96 #[.int .i64 n] w fun en w' => en = .returned (.int .i64 (chk n)) ∧ w = w' := by
 have a7 := and7 n
 have a56 := andNot56 n hn
 have a16 := and16z n
 have a32 := and32 n
 clear hn
 have hc : chk n = chk n := rfl
 conv at hc => rhs; unfold chk
 cases hb : (bitAt n 0 || bitAt n 1 || bitAt n 2)
 · rw [hb] at a7 hc
   rw [hb] at a56
   replace a56 := a56 rfl
   cases hd : (decide (n < 0) || decide (63 < n))
   · rw [hd] at a56 hc
     cases h5 : bitAt n 5
     · rw [h5] at a32 hc
       have HC := Lib.hid (show chk n = 0 from hc)
       clear hc hd hb h5
       go_enter Tryz.func96, Tryz.ntmps96
       go_wp2
       go_ret
       rw [HC.out]
       exact ⟨rfl, rfl⟩
     · rw [h5] at a32 hc
       cases h4 : bitAt n 4
       · rw [h4] at a16 hc
         have HC := Lib.hid (show chk n = 8 from hc)
         clear hc hd hb h5 h4
         go_enter Tryz.func96, Tryz.ntmps96
         go_wp2
         go_ret
         rw [HC.out]
         exact ⟨rfl, rfl⟩
       · rw [h4] at a16 hc
         have HC := Lib.hid (show chk n = 0 from hc)
         clear hc hd hb h5 h4
         go_enter Tryz.func96, Tryz.ntmps96
         go_wp2
         go_ret
         rw [HC.out]
         exact ⟨rfl, rfl⟩
   · rw [hd] at a56 hc
     have HC := Lib.hid (show chk n = 8 from hc)
     clear hc hd hb
     go_enter Tryz.func96, Tryz.ntmps96
     go_wp2
     go_ret
     rw [HC.out]
     exact ⟨rfl, rfl⟩
 · rw [hb] at a7 hc
   have HC := Lib.hid (show chk n = 9 from hc)
   clear hc hb a56
   go_enter Tryz.func96, Tryz.ntmps96
   go_wp2
   go_ret
   rw [HC.out]
   exact ⟨rfl, rfl⟩

abbrev aBatch (base leader : Int) (a t c : Bool) (last first max prod epoch sq : Int) (ro : Option Addr) (e k : Nat) : Value :=
  .agg #[.int .i64 base, .int .i64 leader, .bool a, .bool t, .bool c, .int .i64 last, .int .i64 first, .int .i64 max, .int .i64 prod, .int .i64 epoch, .int .i64 sq, .slice ro e k]
set_option maxHeartbeats 1000000 in
set_option maxRecDepth 100000 in
theorem attr_of (base leader : Int) (a t c : Bool) (last first max prod epoch sq : Int) (ro : Option Addr) (e k : Nat) {W0 w : World} {K : Know} {L : List Res} (h : St W0 w K L) :
  Calls Tryz.prog 62 #[aBatch base leader a t c last first max prod epoch sq ro e k] w fun en w' => en = .returned (.int .i64 (attrN a t c 3)) ∧ St W0 w' K L := by
 have H := Lib.hid h
 clear h
 go_enter Tryz.func62, Tryz.ntmps62
 go_wp2
 go_loop [4, 15] (fun nv kv => ∃ (k : Nat), k ≤ 3 ∧ kv = .int .i64 k ∧ nv = .int .i64 (attrN a t c k)) (fun _ kv => 3 - (intOf kv).toNat)
 case atStart => exact ⟨0, by decide, rfl, by simp [attrN]⟩
 case round =>
  obtain ⟨k, hk, rfl, rfl⟩ := hrel
  have e1 : attrN true t c 1 = bits .or .i64 (attrN true t c 0) 8 := by cases t <;> cases c <;> decide
  have e2 : attrN a true c 2 = bits .or .i64 (attrN a true c 1) 16 := by cases a <;> cases c <;> decide
  have e3 : attrN a t true 3 = bits .or .i64 (attrN a t true 2) 32 := by cases a <;> cases t <;> decide
  have f1 : attrN false t c 1 = attrN false t c 0 := by cases t <;> cases c <;> decide
  have f2 : attrN a false c 2 = attrN a false c 1 := by cases a <;> cases c <;> decide
  have f3 : attrN a t false 3 = attrN a t false 2 := by cases a <;> cases t <;> decide
  have E := Lib.hid (And.intro e1 (And.intro e2 (And.intro e3 (And.intro f1 (And.intro f2 f3)))))
  clear e1 e2 e3 f1 f2 f3
  have i0 : ∀ w : World, (Instr.index 141 (.agg #[.bool a, .bool t, .bool c]) (.int .i64 0)).run Tryz.prog w = .ok (.bool a) w := fun _ => by kernel_rfl
  have i1 : ∀ w : World, (Instr.index 141 (.agg #[.bool a, .bool t, .bool c]) (.int .i64 1)).run Tryz.prog w = .ok (.bool t) w := fun _ => by kernel_rfl
  have i2 : ∀ w : World, (Instr.index 141 (.agg #[.bool a, .bool t, .bool c]) (.int .i64 2)).run Tryz.prog w = .ok (.bool c) w := fun _ => by kernel_rfl
  rcases (by omega : k = 0 ∨ k = 1 ∨ k = 2 ∨ k = 3) with h | h | h | h
  · subst h
    cases a
    all_goals
     go_wp2
     go_round
     case rel => exact ⟨1, by decide, rfl, congrArg (Value.int .i64) (by first | exact E.out.2.2.2.1.symm | exact E.out.1.symm)⟩
     case measure => decide
  · subst h
    cases t
    all_goals
     go_wp2
     go_round
     case rel => exact ⟨2, by decide, rfl, congrArg (Value.int .i64) (by first | exact E.out.2.2.2.2.1.symm | exact E.out.2.1.symm)⟩
     case measure => decide
  · subst h
    cases c
    all_goals
     go_wp2
     go_round
     case rel => exact ⟨3, by decide, rfl, congrArg (Value.int .i64) (by first | exact E.out.2.2.2.2.2.symm | exact E.out.2.2.1.symm)⟩
     case measure => decide
  · subst h
    go_wp2
    go_ret
    exact ⟨rfl, (H.out.alloc _).alloc _⟩
theorem setAll_get : ∀ (vs : List Value) (o : Nat) (c : Array Value) (i : Nat), (setAll c o vs)[i]? = if o ≤ i ∧ i < o + vs.length ∧ i < c.size then vs[i - o]? else c[i]?
  | [], o, c, i => by
    show c[i]? = _
    rw [if_neg (by simp; omega)]
  | v :: r, o, c, i => by
    show (setAll (c.setIfInBounds o v) (o + 1) r)[i]? = _
    rw [setAll_get r (o + 1) _ i]
    simp only [Array.size_setIfInBounds, List.length_cons]
    by_cases h1 : o + 1 ≤ i ∧ i < o + 1 + r.length ∧ i < c.size
    · rw [if_pos h1, if_pos (by omega)]
      obtain ⟨k, rfl⟩ : ∃ k, i = o + 1 + k := ⟨i - (o + 1), by omega⟩
      rw [show o + 1 + k - (o + 1) = k by omega, show o + 1 + k - o = k + 1 by omega]
      rfl
    · rw [if_neg h1, Array.getElem?_setIfInBounds]
      by_cases h2 : o = i
      · subst h2
        rw [if_pos rfl]
        by_cases h3 : o < c.size
        · rw [if_pos h3, if_pos (by omega), Nat.sub_self]; rfl
        · rw [if_neg h3, if_neg (by omega), Array.getElem?_eq_none (by omega)]
      · rw [if_neg h2, if_neg (by omega)]
theorem setAll_all (c cs : Array Value) (h : c.size = cs.size) : setAll c 0 cs.toList = cs := by
 refine Array.ext_getElem? fun i => ?_
 rw [setAll_get]
 by_cases h1 : i < cs.size
 · rw [if_pos (by simp; omega), Nat.sub_zero, Array.getElem?_toList]
 · rw [if_neg (by simp; omega), Array.getElem?_eq_none (by omega), Array.getElem?_eq_none (by omega)]
theorem attr_ofE (base leader : Int) (app txn ctl : Bool) (last first maxt prod epoch sq : Int)  (q : Option Addr) (n cap : Nat) {W0 w : World} {K : Know} {L : List Res} (h : St W0 w K L) :
 Calls Tryz.prog 62 #[.agg #[.int .i64 base, .int .i64 leader, .bool app, .bool txn, .bool ctl, .int .i64 last, .int .i64 first, .int .i64 maxt, .int .i64 prod, .int .i64 epoch, .int .i64 sq, .slice q n cap]] w fun en w' => en = .returned (.int .i64 (attrN app txn ctl 3)) ∧ St W0 w' K L := attr_of base leader app txn ctl last first maxt prod epoch sq q n cap h
set_option maxHeartbeats 2000000 in
set_option maxRecDepth 100000 in
theorem bat_head (base leader : Int) (app txn ctl : Bool) (last first maxt prod epoch sq : Int) (l : List (RecS × Value)) (q : Option Addr) (cap : Nat) (size : Nat) (hsz : size ≤ 140737488355328) {W0 w : World} {K : Know} {L : List Res} (h : St W0 w K L) :
   Calls Tryz.prog 32 #[.agg #[.int .i64 base, .int .i64 leader, .bool app, .bool txn, .bool ctl, .int .i64 last, .int .i64 first, .int .i64 maxt, .int .i64 prod, .int .i64 epoch, .int .i64 sq, .slice q l.length cap], .int .i64 size] w fun en w' => en = .returned (.agg #[.int .i64 base, .int .i64 (49 + size), .int .i64 leader, .int .i64 0, .int .i64 (attrN app txn ctl 3), .int .i64 last, .int .i64 first, .int .i64 maxt, .int .i64 prod, .int .i64 epoch, .int .i64 sq, .int .i64 l.length]) ∧ St W0 w' K L := by
 have g1 := h.allocRaw #[.int .i64 base, .int .i64 leader, .bool app, .bool txn, .bool ctl, .int .i64 last, .int .i64 first, .int .i64 maxt, .int .i64 prod, .int .i64 epoch, .int .i64 sq, .slice q l.length cap] 43
 have g2 := (g1.allocRaw #[.int .i64 0, .int .i64 0, .int .i64 0, .int .i64 0, .int .i64 0, .int .i64 0, .int .i64 0, .int .i64 0, .int .i64 0, .int .i64 0, .int .i64 0, .int .i64 0] 81).p1
 obtain ⟨hb, hhb⟩ : ∃ b, w.heap.size = b := ⟨_, rfl⟩
 obtain ⟨rb, hrb⟩ : ∃ b, hb + 1 = b := ⟨_, rfl⟩
 simp only [World.size_alloc, hhb, hrb] at g2
 have H := Lib.hid g2
 have w1 : IntKind.i64.wrap (49 + (size : Int)) = 49 + (size : Int) := IntWalk.i64_in _ (by omega)
 clear g1 g2 h hsz
 go_enter Tryz.func32, Tryz.ntmps32
 go_upto_region 1 with (fail)
 have hs := H.out.drew
 refine wp_region_held_drew (S := fun w' => w'.cell? ⟨hb, 0, none⟩ = some (.int .i64 base) ∧ w'.cell? ⟨hb, 1, none⟩ = some (.int .i64 leader) ∧ w'.cell? ⟨hb, 2, none⟩ = some (.bool app) ∧ w'.cell? ⟨hb, 3, none⟩ = some (.bool txn) ∧ w'.cell? ⟨hb, 4, none⟩ = some (.bool ctl) ∧ w'.cell? ⟨hb, 5, none⟩ = some (.int .i64 last) ∧ w'.cell? ⟨hb, 6, none⟩ = some (.int .i64 first) ∧ w'.cell? ⟨hb, 7, none⟩ = some (.int .i64 maxt) ∧ w'.cell? ⟨hb, 8, none⟩ = some (.int .i64 prod) ∧ w'.cell? ⟨hb, 9, none⟩ = some (.int .i64 epoch) ∧ w'.cell? ⟨hb, 10, none⟩ = some (.int .i64 sq) ∧ w'.cell? ⟨hb, 11, none⟩ = some (.slice q l.length cap)) (by kernel_rfl) (let ⟨x0, x1, x2, x3, x4, x5, x6, x7, x8, x9, x10, x11, _⟩ := raw12 (b := hb) (hs); ⟨x0, x1, x2, x3, x4, x5, x6, x7, x8, x9, x10, x11⟩) (fun hHeld => ?_)
 refine tQ 0 ⟨some 5, .fieldAddr 43 (.tmp 2) 0, 0, "batch.go:46", #[], none⟩ ?_; simp only [Act.put, sA, sB, sC]
 refine tQ 1 ⟨some 6, .load 3 (.tmp 5), 3, "batch.go:46", #[.mk 0 .data], none⟩ ?_; simp only [Act.put, sA, sB, sC]
 refine tQ 2 ⟨some 7, .move (.tmp 1), 3, "batch.go:46", #[], none⟩ ?_; simp only [Act.put, sA, sB, sC]
 refine tQ 3 ⟨some 8, .binOp .add 3 (.const (Value.int IntKind.i64 49)) (.tmp 7) 3, 3, "batch.go:46", #[.mk 2 .data], none⟩ ?_; simp only [Act.put, sA, sB, sC]
 refine tQ 4 ⟨some 9, .fieldAddr 43 (.tmp 2) 1, 0, "batch.go:46", #[], none⟩ ?_; simp only [Act.put, sA, sB, sC]
 refine tQ 5 ⟨some 10, .load 3 (.tmp 9), 3, "batch.go:46", #[.mk 4 .data], none⟩ ?_; simp only [Act.put, sA, sB, sC]
 refine tQ 6 ⟨some 11, .load 43 (.tmp 2), 43, "batch.go:46", #[], none⟩ ?_; simp only [Act.put, sA, sB, sC]
 refine tQ 8 ⟨some 13, .fieldAddr 43 (.tmp 2) 5, 0, "batch.go:46", #[], none⟩ ?_; simp only [Act.put, sA, sB, sC]
 refine tQ 9 ⟨some 14, .load 3 (.tmp 13), 3, "batch.go:46", #[.mk 8 .data], none⟩ ?_; simp only [Act.put, sA, sB, sC]
 refine tQ 10 ⟨some 15, .fieldAddr 43 (.tmp 2) 6, 0, "batch.go:46", #[], none⟩ ?_; simp only [Act.put, sA, sB, sC]
 refine tQ 11 ⟨some 16, .load 3 (.tmp 15), 3, "batch.go:46", #[.mk 10 .data], none⟩ ?_; simp only [Act.put, sA, sB, sC]
 refine tQ 12 ⟨some 17, .fieldAddr 43 (.tmp 2) 7, 0, "batch.go:46", #[], none⟩ ?_; simp only [Act.put, sA, sB, sC]
 refine tQ 13 ⟨some 18, .load 3 (.tmp 17), 3, "batch.go:46", #[.mk 12 .data], none⟩ ?_; simp only [Act.put, sA, sB, sC]
 refine tQ 14 ⟨some 19, .fieldAddr 43 (.tmp 2) 8, 0, "batch.go:46", #[], none⟩ ?_; simp only [Act.put, sA, sB, sC]
 refine tQ 15 ⟨some 20, .load 3 (.tmp 19), 3, "batch.go:46", #[.mk 14 .data], none⟩ ?_; simp only [Act.put, sA, sB, sC]
 refine tQ 16 ⟨some 21, .fieldAddr 43 (.tmp 2) 9, 0, "batch.go:46", #[], none⟩ ?_; simp only [Act.put, sA, sB, sC]
 refine tQ 17 ⟨some 22, .load 3 (.tmp 21), 3, "batch.go:46", #[.mk 16 .data], none⟩ ?_; simp only [Act.put, sA, sB, sC]
 refine tQ 18 ⟨some 23, .fieldAddr 43 (.tmp 2) 10, 0, "batch.go:46", #[], none⟩ ?_; simp only [Act.put, sA, sB, sC]
 refine tQ 19 ⟨some 24, .load 3 (.tmp 23), 3, "batch.go:46", #[.mk 18 .data], none⟩ ?_; simp only [Act.put, sA, sB, sC]
 refine tQ 20 ⟨some 25, .fieldAddr 43 (.tmp 2) 11, 0, "batch.go:46", #[], none⟩ ?_; simp only [Act.put, sA, sB, sC]
 refine tQ 21 ⟨some 26, .load 41 (.tmp 25), 41, "batch.go:46", #[.mk 20 .data], none⟩ ?_; simp only [Act.put, sA, sB, sC]
 refine tQ 22 ⟨some 27, .call { callee := .builtin .len, args := #[.tmp 26], argTypes := #[41] }, 3, "batch.go:46", #[.mk 21 .data], none⟩ ?_; simp only [Act.put, sA, sB, sC]
 refine wpAnyH_ready (rs := [7]) (by kernel_rfl) (by simp) (AllReadyH.cons (o := ⟨some 12, .call { callee := .value (.func 62), args := #[.tmp 11], argTypes := #[43] }, 3, "batch.go:47", #[.mk 6 .data], none⟩) rfl (fun KK hK => ?_) AllReadyH.nil)
 · go_simp
   go_at_call 62
   with_reducible refine (attr_ofE base leader app txn ctl last first maxt prod epoch sq q l.length cap hs).mono ?_
   rintro e wq ⟨rfl, hs⟩
   refine hK.out _ _ (let ⟨x0, x1, x2, x3, x4, x5, x6, x7, x8, x9, x10, x11, _⟩ := raw12 (b := hb) (hs); ⟨x0, x1, x2, x3, x4, x5, x6, x7, x8, x9, x10, x11⟩) (fun hHeld => ?_)
   clear hK KK
   try simp only [Act.put, sA, sB, sC]
   refine tQ 23 ⟨some 28, .build 81 #[(0, .tmp 6), (1, .tmp 8), (2, .tmp 10), (4, .tmp 12), (5, .tmp 14), (6, .tmp 16), (7, .tmp 18), (8, .tmp 20), (9, .tmp 22), (10, .tmp 24), (11, .tmp 27)], 81, "batch.go:46", #[.mk 1 .data, .mk 3 .data, .mk 5 .data, .mk 7 .data, .mk 9 .data, .mk 11 .data, .mk 13 .data, .mk 15 .data, .mk 17 .data, .mk 19 .data, .mk 22 .data], none⟩ ?_; simp only [Act.put, sA, sB, sC]
   refine wpAnyH_ready (rs := [24]) (by kernel_rfl) (by simp) (AllReadyH.cons (o := ⟨none, .store 81 (.tmp 4) (.tmp 28), 0, "batch.go:46", #[.mk 23 .data, .mk 7 .chain, .mk 0 .phase, .mk 1 .phase, .mk 2 .phase, .mk 3 .phase, .mk 4 .phase, .mk 5 .phase, .mk 6 .phase, .mk 7 .phase, .mk 8 .phase, .mk 9 .phase, .mk 10 .phase, .mk 11 .phase, .mk 12 .phase, .mk 13 .phase, .mk 14 .phase, .mk 15 .phase, .mk 16 .phase, .mk 17 .phase, .mk 18 .phase, .mk 19 .phase, .mk 20 .phase, .mk 21 .phase, .mk 22 .phase, .mk 23 .phase], none⟩) rfl (fun KK hK => ?_) AllReadyH.nil)
   · have hs := hs.p1
     rw [if_pos (by rfl)]
     refine wp_store_mid 81 (.tmp 4) (.tmp 28) rfl rb 0 #[.int .i64 base, .int .i64 (49 + size), .int .i64 leader, .int .i64 0, .int .i64 (attrN app txn ctl 3), .int .i64 last, .int .i64 first, .int .i64 maxt, .int .i64 prod, .int .i64 epoch, .int .i64 sq, .int .i64 l.length] (by rfl) (by rfl) hs.there (by kernel_rfl) (by simp [Value.oneCell']) ?_
     obtain ⟨wz, ez, hs⟩ := hs.storeEx #[.int .i64 base, .int .i64 (49 + size), .int .i64 leader, .int .i64 0, .int .i64 (attrN app txn ctl 3), .int .i64 last, .int .i64 first, .int .i64 maxt, .int .i64 prod, .int .i64 epoch, .int .i64 sq, .int .i64 l.length]
     rw [ez]
     clear ez
     refine hK.out _ _ (let ⟨x0, x1, x2, x3, x4, x5, x6, x7, x8, x9, x10, x11, _⟩ := raw12 (b := hb) (hs.p1); ⟨x0, x1, x2, x3, x4, x5, x6, x7, x8, x9, x10, x11⟩) (fun hHeld => ?_)
     clear hK KK
     try simp only [Act.put, sA, sB, sC]
     refine wpAnyH_done (by kernel_rfl) ?_ _
     clear hHeld
     rw [setAll_all] at hs
     rotate_left
     · rfl
     have hz : St W0 _ K (.raw rb #[.int .i64 base, .int .i64 (49 + size), .int .i64 leader, .int .i64 0, .int .i64 (attrN app txn ctl 3), .int .i64 last, .int .i64 first, .int .i64 maxt, .int .i64 prod, .int .i64 epoch, .int .i64 sq, .int .i64 l.length] 81 :: _) := hs
     go_wp2_with fail
     refine bodyPost_ret (rc_cell_only rfl _ _ rb [.int .i64 base, .int .i64 (49 + size), .int .i64 leader, .int .i64 0, .int .i64 (attrN app txn ctl 3), .int .i64 last, .int .i64 first, .int .i64 maxt, .int .i64 prod, .int .i64 epoch, .int .i64 sq, .int .i64 l.length] _ rfl (rc_range hz) Tryz.underlying81 rfl (by kernel_rfl)) rfl ?_
     exact ⟨rfl, hz.drop.drop⟩
theorem raw9 {W0 w : World} {K : Know} {L : List Res} {b : Nat} {T : TypeId} {v0 v1 v2 v3 v4 v5 v6 v7 v8 : Value} (h : St W0 w K (.raw b #[v0, v1, v2, v3, v4, v5, v6, v7, v8] T :: L)) :
  w.cell? ⟨b, 0, none⟩ = some v0 ∧ w.cell? ⟨b, 1, none⟩ = some v1 ∧ w.cell? ⟨b, 2, none⟩ = some v2 ∧ w.cell? ⟨b, 3, none⟩ = some v3 ∧ w.cell? ⟨b, 4, none⟩ = some v4 ∧ w.cell? ⟨b, 5, none⟩ = some v5 ∧ w.cell? ⟨b, 6, none⟩ = some v6 ∧ w.cell? ⟨b, 7, none⟩ = some v7 ∧ w.cell? ⟨b, 8, none⟩ = some v8 ∧
  w.frozen? ⟨b, 0, none⟩ = false ∧ w.frozen? ⟨b, 1, none⟩ = false ∧ w.frozen? ⟨b, 2, none⟩ = false ∧ w.frozen? ⟨b, 3, none⟩ = false ∧ w.frozen? ⟨b, 4, none⟩ = false ∧ w.frozen? ⟨b, 5, none⟩ = false ∧ w.frozen? ⟨b, 6, none⟩ = false ∧ w.frozen? ⟨b, 7, none⟩ = false ∧ w.frozen? ⟨b, 8, none⟩ = false :=
 ⟨h.rawCell 0, h.rawCell 1, h.rawCell 2, h.rawCell 3, h.rawCell 4, h.rawCell 5, h.rawCell 6, h.rawCell 7, h.rawCell 8, h.rawFree 0, h.rawFree 1, h.rawFree 2, h.rawFree 3, h.rawFree 4, h.rawFree 5, h.rawFree 6, h.rawFree 7, h.rawFree 8⟩
set_option maxHeartbeats 1000000 in
set_option maxRecDepth 100000 in
theorem ref07_fault (e : Int) {W0 w : World} {K : Know} {L : List Res} (h : St W0 w K L) :
  Calls Tryz.prog 68 #[.int .i64 e] w fun en w' => en = .returned (.agg #[.int .i64 0, .int .i64 0, .bool false, .string ⟨#[]⟩, .bool false, .string ⟨#[]⟩, .slice none 0 0, .int .i64 0, .int .i64 e]) ∧ St W0 w' K L := by
 have h0 := h.allocRaw #[.int .i64 0, .int .i64 0, .bool false, .string ⟨#[]⟩, .bool false, .string ⟨#[]⟩, .slice none 0 0, .int .i64 0, .int .i64 e] 89
 obtain ⟨ac0, ac1, ac2, ac3, ac4, ac5, ac6, ac7, ac8, af0, af1, af2, af3, af4, af5, af6, af7, af8⟩ := raw9 h0
 have H := Lib.hid h0
 clear h h0
 go_enter Tryz.func68, Tryz.ntmps68
 go_wp2
 refine bodyPost_ret (v := .agg #[.int .i64 0, .int .i64 0, .bool false, .string ⟨#[]⟩, .bool false, .string ⟨#[]⟩, .slice none 0 0, .int .i64 0, .int .i64 e]) (by simp [results, Tryz.results68, go_sem, ac0, ac1, ac2, ac3, ac4, ac5, ac6, ac7, ac8]) rfl ⟨rfl, H.out.drop⟩

theorem raw_all4r {W0 w : World} {K : Know} {L : List Res} {b : Nat} {T : TypeId} {x y z u : Value} (h : St W0 w K (.raw b #[x, y, z, u] T :: L)) :
 w.cell? ⟨b, 0, none⟩ = some x ∧ w.cell? ⟨b, 1, none⟩ = some y ∧ w.cell? ⟨b, 2, none⟩ = some z ∧ w.cell? ⟨b, 3, none⟩ = some u := ⟨h.rawCell 0, h.rawCell 1, h.rawCell 2, h.rawCell 3⟩

set_option maxHeartbeats 1000000 in
set_option maxRecDepth 100000 in
theorem ref07_read_err (s : Bs) (e : Int) (hr : revaried s = .error e) (hb : (e != 0) = true) (hs : s.length ≤ 140737488355328) {W0 w : World} {K : Know} {L : List Res} (h : St W0 w K L) :
  Calls Tryz.prog 38 #[.string (bb s)] w fun en w' => en = .returned (.agg #[.int .i64 0, .int .i64 0, .bool false, .string ⟨#[]⟩, .bool false, .string ⟨#[]⟩, .slice none 0 0, .int .i64 0, .int .i64 e]) ∧ St W0 w' K L := by
 have h0 := h.allocRaw #[.int .i64 0, .int .i64 0, .bool false, .string ⟨#[]⟩, .bool false, .string ⟨#[]⟩, .slice none 0 0, .int .i64 0, .int .i64 0] 89
 obtain ⟨wA, hwA⟩ : ∃ b, w.heap.size = b := ⟨_, rfl⟩
 rw [hwA] at h0
 have H := Lib.hid h0
 have HS := Lib.hid hs
 have HG := Lib.hid (show gotV (revaried s) = .agg #[.bool false, .string (bb []), .int .i64 0, .int .i64 e] by rw [hr]; rfl)
 clear h h0 hs hr
 go_enter Tryz.func38, Tryz.ntmps38
 go_wp2_with (first
  | (go_at_call 67; refine (ref04_readVariedT s s _ rfl HS.out HG.out H.out).mono ?_; rintro e wn ⟨rfl, h⟩; obtain ⟨wB, hwB⟩ : ∃ b, wn.heap.size = b := ⟨_, rfl⟩; have h := (h.allocRaw #[.bool false, .string (bb []), .int .i64 0, .int .i64 e] 121).p1; rw [hwB] at h; replace H := Lib.hid h; clear h; obtain ⟨q0, q1, q2, q3⟩ := raw_all4r (b := wB) (H.out.p1); obtain ⟨ac0, ac1, ac2, ac3, ac4, ac5, ac6, ac7, ac8, af0, af1, af2, af3, af4, af5, af6, af7, af8⟩ := raw9 (b := wA) (H.out))
  | (go_at_call 68; refine (ref07_fault _ H.out).mono ?_; rintro e wn ⟨rfl, h⟩; replace H := Lib.hid h; clear h; obtain ⟨ac0, ac1, ac2, ac3, ac4, ac5, ac6, ac7, ac8, af0, af1, af2, af3, af4, af5, af6, af7, af8⟩ := raw9 (b := wA) (H.out)))
 refine bodyPost_ret (v := .agg #[.int .i64 0, .int .i64 0, .bool false, .string ⟨#[]⟩, .bool false, .string ⟨#[]⟩, .slice none 0 0, .int .i64 0, .int .i64 e]) (by simp [results, Tryz.results38, go_sem, ac0, ac1, ac2, ac3, ac4, ac5, ac6, ac7, ac8]) rfl ⟨rfl, (((((((((H.out.rawSet 0 _).rawSet 1 _).rawSet 2 _).rawSet 3 _).rawSet 4 _).rawSet 5 _).rawSet 6 _).rawSet 7 _).rawSet 8 _).drop.drop⟩

set_option maxHeartbeats 1000000 in
set_option maxRecDepth 100000 in
theorem ref07_read_null (s : Bs) (d : Bs) (m : Nat) (hr : revaried s = .ok (⟨true, d⟩, m)) (hs : s.length ≤ 140737488355328) {W0 w : World} {K : Know} {L : List Res} (h : St W0 w K L) :
  Calls Tryz.prog 38 #[.string (bb s)] w fun en w' => en = .returned (.agg #[.int .i64 0, .int .i64 0, .bool false, .string ⟨#[]⟩, .bool false, .string ⟨#[]⟩, .slice none 0 0, .int .i64 0, .int .i64 4]) ∧ St W0 w' K L := by
 have h0 := h.allocRaw #[.int .i64 0, .int .i64 0, .bool false, .string ⟨#[]⟩, .bool false, .string ⟨#[]⟩, .slice none 0 0, .int .i64 0, .int .i64 0] 89
 obtain ⟨wA, hwA⟩ : ∃ b, w.heap.size = b := ⟨_, rfl⟩
 rw [hwA] at h0
 have H := Lib.hid h0
 have HS := Lib.hid hs
 have HG := Lib.hid (show gotV (revaried s) = .agg #[.bool true, .string (bb d), .int .i64 m, .int .i64 0] by rw [hr]; rfl)
 clear h h0 hs hr
 go_enter Tryz.func38, Tryz.ntmps38
 go_wp2_with (first
  | (go_at_call 67; refine (ref04_readVariedT s s _ rfl HS.out HG.out H.out).mono ?_; rintro e wn ⟨rfl, h⟩; obtain ⟨wB, hwB⟩ : ∃ b, wn.heap.size = b := ⟨_, rfl⟩; have h := (h.allocRaw #[.bool true, .string (bb d), .int .i64 m, .int .i64 0] 121).p1; rw [hwB] at h; replace H := Lib.hid h; clear h; obtain ⟨q0, q1, q2, q3⟩ := raw_all4r (b := wB) (H.out.p1); obtain ⟨ac0, ac1, ac2, ac3, ac4, ac5, ac6, ac7, ac8, af0, af1, af2, af3, af4, af5, af6, af7, af8⟩ := raw9 (b := wA) (H.out))
  | (go_at_call 68; refine (ref07_fault _ H.out).mono ?_; rintro e wn ⟨rfl, h⟩; replace H := Lib.hid h; clear h; obtain ⟨ac0, ac1, ac2, ac3, ac4, ac5, ac6, ac7, ac8, af0, af1, af2, af3, af4, af5, af6, af7, af8⟩ := raw9 (b := wA) (H.out)))
 refine bodyPost_ret (v := .agg #[.int .i64 0, .int .i64 0, .bool false, .string ⟨#[]⟩, .bool false, .string ⟨#[]⟩, .slice none 0 0, .int .i64 0, .int .i64 4]) (by simp [results, Tryz.results38, go_sem, ac0, ac1, ac2, ac3, ac4, ac5, ac6, ac7, ac8]) rfl ⟨rfl, (((((((((H.out.rawSet 0 _).rawSet 1 _).rawSet 2 _).rawSet 3 _).rawSet 4 _).rawSet 5 _).rawSet 6 _).rawSet 7 _).rawSet 8 _).drop.drop⟩
theorem c_ne {c : UInt8} (hc : c ≠ 0) : ((c.toNat : Int) != 0) = true := by
 rw [bne_iff_ne]
 intro hh
 exact hc (UInt8.toNat_inj.1 (by simpa using hh))
theorem ref_get64E (s : Bs) (e : Int) (hv : vgetF 1 10 0 0 s = .error e) (hs : s.length ≤ 140737488355328) {W0 w : World} {K : Know} {L : List Res} (h : St W0 w K L) :
  Calls Tryz.prog 90 #[.string (bb s), .int .i64 64] w fun en w' => en = .returned (.tuple #[.int .u64 0, .int .i64 0, .int .i64 e]) ∧ St W0 w' K L := by
 have := ref_get s 64 10 1 1 hs (by decide) (by decide) (by decide) (by decide) (by decide) h
 rw [hv] at this; exact this
theorem ref_get64O (s : Bs) (u k : Nat) (hv : vgetF 1 10 0 0 s = .ok (u, k)) (hs : s.length ≤ 140737488355328) {W0 w : World} {K : Know} {L : List Res} (h : St W0 w K L) :
  Calls Tryz.prog 90 #[.string (bb s), .int .i64 64] w fun en w' => en = .returned (.tuple #[.int .u64 u, .int .i64 k, .int .i64 0]) ∧ St W0 w' K L := by
 have := ref_get s 64 10 1 1 hs (by decide) (by decide) (by decide) (by decide) (by decide) h
 rw [hv] at this; exact this

set_option maxHeartbeats 1000000 in
set_option maxRecDepth 100000 in
theorem ref07_inner_none  {W0 w : World} {K : Know} {L : List Res} (h : St W0 w K L) :
    Calls Tryz.prog 69 #[.string (bb [])] w fun en w' => en = .returned (.agg #[.int .i64 0, .int .i64 0, .bool false, .string ⟨#[]⟩, .bool false, .string ⟨#[]⟩, .slice none 0 0, .int .i64 0, .int .i64 1]) ∧ St W0 w' K L := by
  have h0 := h.allocRaw #[.int .i64 0, .int .i64 0, .bool false, .string ⟨#[]⟩, .bool false, .string ⟨#[]⟩, .slice none 0 0, .int .i64 0, .int .i64 0] 89
  obtain ⟨wA, hwA⟩ : ∃ b, w.heap.size = b := ⟨_, rfl⟩
  rw [hwA] at h0
  have H := Lib.hid h0

  clear h h0
  go_enter Tryz.func69, Tryz.ntmps69
  go_wp2_with (first
    | (go_at_call 68; refine (ref07_fault _ H.out).mono ?_; rintro e wn ⟨rfl, h⟩; replace H := Lib.hid h; clear h; obtain ⟨ac0, ac1, ac2, ac3, ac4, ac5, ac6, ac7, ac8, af0, af1, af2, af3, af4, af5, af6, af7, af8⟩ := raw9 (b := wA) (H.out)))
  refine bodyPost_ret (v := .agg #[.int .i64 0, .int .i64 0, .bool false, .string ⟨#[]⟩, .bool false, .string ⟨#[]⟩, .slice none 0 0, .int .i64 0, .int .i64 1]) (by simp [results, Tryz.results69, go_sem, ac0, ac1, ac2, ac3, ac4, ac5, ac6, ac7, ac8]) rfl ⟨rfl, (((((((((H.out.rawSet 0 _).rawSet 1 _).rawSet 2 _).rawSet 3 _).rawSet 4 _).rawSet 5 _).rawSet 6 _).rawSet 7 _).rawSet 8 _).drop⟩

set_option maxHeartbeats 1000000 in
set_option maxRecDepth 100000 in
theorem ref07_inner_attr (c : UInt8) (t : Bs) (hc : c ≠ 0) (hl : t.length ≤ 140737488355320) {W0 w : World} {K : Know} {L : List Res} (h : St W0 w K L) :
  Calls Tryz.prog 69 #[.string (bb (c :: t))] w fun en w' => en = .returned (.agg #[.int .i64 0, .int .i64 0, .bool false, .string ⟨#[]⟩, .bool false, .string ⟨#[]⟩, .slice none 0 0, .int .i64 0, .int .i64 8]) ∧ St W0 w' K L := by
 have h0 := h.allocRaw #[.int .i64 0, .int .i64 0, .bool false, .string ⟨#[]⟩, .bool false, .string ⟨#[]⟩, .slice none 0 0, .int .i64 0, .int .i64 0] 89
 obtain ⟨wA, hwA⟩ : ∃ b, w.heap.size = b := ⟨_, rfl⟩
 rw [hwA] at h0
 have H := Lib.hid h0
 have h1 : decide (((c :: t : Bs).length : Int) < 1) = false := decide_eq_false (by simp only [List.length_cons]; omega)
 have hcn : ((((c :: t : Bs)[0]'(by simp)).toNat : Int) != 0) = true := c_ne hc
 clear h h0
 go_enter Tryz.func69, Tryz.ntmps69
 go_wp2_with (first
  | (go_at_call 68; refine (ref07_fault _ H.out).mono ?_; rintro e wn ⟨rfl, h⟩; replace H := Lib.hid h; clear h; obtain ⟨ac0, ac1, ac2, ac3, ac4, ac5, ac6, ac7, ac8, af0, af1, af2, af3, af4, af5, af6, af7, af8⟩ := raw9 (b := wA) (H.out)))
 refine bodyPost_ret (v := .agg #[.int .i64 0, .int .i64 0, .bool false, .string ⟨#[]⟩, .bool false, .string ⟨#[]⟩, .slice none 0 0, .int .i64 0, .int .i64 8]) (by simp [results, Tryz.results69, go_sem, ac0, ac1, ac2, ac3, ac4, ac5, ac6, ac7, ac8]) rfl ⟨rfl, (((((((((H.out.rawSet 0 _).rawSet 1 _).rawSet 2 _).rawSet 3 _).rawSet 4 _).rawSet 5 _).rawSet 6 _).rawSet 7 _).rawSet 8 _).drop⟩

set_option maxHeartbeats 1000000 in
set_option maxRecDepth 100000 in
theorem ref07_inner_time (t : Bs) (e : Int) (hv : vgetF 1 10 0 0 t = .error e) (hb : (e != 0) = true) (hs : t.length ≤ 140737488355320) {W0 w : World} {K : Know} {L : List Res} (h : St W0 w K L) :
  Calls Tryz.prog 69 #[.string (bb (0 :: t))] w fun en w' => en = .returned (.agg #[.int .i64 0, .int .i64 0, .bool false, .string ⟨#[]⟩, .bool false, .string ⟨#[]⟩, .slice none 0 0, .int .i64 0, .int .i64 e]) ∧ St W0 w' K L := by
 have h0 := h.allocRaw #[.int .i64 0, .int .i64 0, .bool false, .string ⟨#[]⟩, .bool false, .string ⟨#[]⟩, .slice none 0 0, .int .i64 0, .int .i64 0] 89
 obtain ⟨wA, hwA⟩ : ∃ b, w.heap.size = b := ⟨_, rfl⟩
 rw [hwA] at h0
 have H := Lib.hid h0
 have h1 : decide (((0 :: t : Bs).length : Int) < 1) = false := decide_eq_false (by simp only [List.length_cons]; omega)
 have hcn : ((((0 :: t : Bs)[0]'(by simp)).toNat : Int) != 0) = false := rfl
 have HV := Lib.hid hv
 have HS := Lib.hid (show t.length ≤ 140737488355328 by omega)
 clear hv hs
 clear h h0
 go_enter Tryz.func69, Tryz.ntmps69
 go_wp2_with (first
  | (go_at_call 90; refine (ref_get64E t e HV.out HS.out H.out).mono ?_; rintro e wn ⟨rfl, h⟩; replace H := Lib.hid h; clear h)
  | (go_at_call 68; refine (ref07_fault _ H.out).mono ?_; rintro e wn ⟨rfl, h⟩; replace H := Lib.hid h; clear h; obtain ⟨ac0, ac1, ac2, ac3, ac4, ac5, ac6, ac7, ac8, af0, af1, af2, af3, af4, af5, af6, af7, af8⟩ := raw9 (b := wA) (H.out)))
 refine bodyPost_ret (v := .agg #[.int .i64 0, .int .i64 0, .bool false, .string ⟨#[]⟩, .bool false, .string ⟨#[]⟩, .slice none 0 0, .int .i64 0, .int .i64 e]) (by simp [results, Tryz.results69, go_sem, ac0, ac1, ac2, ac3, ac4, ac5, ac6, ac7, ac8]) rfl ⟨rfl, (((((((((H.out.rawSet 0 _).rawSet 1 _).rawSet 2 _).rawSet 3 _).rawSet 4 _).rawSet 5 _).rawSet 6 _).rawSet 7 _).rawSet 8 _).drop⟩
theorem ref06_readO (s : Bs) (l : List HdrS) (m : Nat) (hr : reHdrs s = .ok (l, m)) (hs : s.length ≤ 140737488355328) {W0 w : World} {K : Know} {L : List Res} (h : St W0 w K L) :
  Calls Tryz.prog 93 #[.string (bb s)] w fun en w' => ∃ v, en = .returned (.tuple #[v, .int .i64 m, .int .i64 0]) ∧ St W0 w' (K.and (Know.flat RHdr v 3 l)) L :=
 (ref06_readH s hs h).mono fun en w' hh => by unfold HRead at hh; rw [hr] at hh; exact hh
theorem ref06_readE (s : Bs) (e : Int) (hr : reHdrs s = .error e) (hs : s.length ≤ 140737488355328) {W0 w : World} {K : Know} {L : List Res} (h : St W0 w K L) :
  Calls Tryz.prog 93 #[.string (bb s)] w fun en w' => ∃ v, en = .returned (.tuple #[v, .int .i64 0, .int .i64 e]) ∧ St W0 w' (K.and (Know.flat RHdr v 3 [])) L :=
 (ref06_readH s hs h).mono fun en w' hh => by unfold HRead at hh; rw [hr] at hh; exact hh
set_option maxHeartbeats 1000000 in
set_option maxRecDepth 100000 in
theorem ref07_inner_off (s t1 : Bs) (u k : Nat) (hl1 : 0 < s.length) (hz : s[0] = 0) (q1 : s.drop 1 = t1) (hv1 : vgetF 1 10 0 0 t1 = .ok (u, k)) (hu : u < 18446744073709551616) (hs : s.length ≤ 1000000) (s2 : Bs) (hk : 1 + k ≤ s.length) (q2 : s.drop (1 + k) = s2) (e : Int) (hv2 : vgetF 15 5 0 0 s2 = .error e) (hb : (e != 0) = true) {W0 w : World} {K : Know} {L : List Res} (h : St W0 w K L) :
  Calls Tryz.prog 69 #[.string (bb s)] w fun en w' => en = .returned (.agg #[.int .i64 0, .int .i64 0, .bool false, .string ⟨#[]⟩, .bool false, .string ⟨#[]⟩, .slice none 0 0, .int .i64 0, .int .i64 e]) ∧ St W0 w' K L := by
 have h0 := h.allocRaw #[.int .i64 0, .int .i64 0, .bool false, .string ⟨#[]⟩, .bool false, .string ⟨#[]⟩, .slice none 0 0, .int .i64 0, .int .i64 0] 89
 obtain ⟨wA, hwA⟩ : ∃ b, w.heap.size = b := ⟨_, rfl⟩
 rw [hwA] at h0
 have H := Lib.hid h0
 have h1 : decide ((s.length : Int) < 1) = false := decide_eq_false (by omega)
 have hcn : ((s[0].toNat : Int) != 0) = false := by rw [hz]; rfl
 have hb1 : (1 : Int) ≤ (s.length : Int) := by omega
 have HV1 := Lib.hid hv1
 have HU := Lib.hid hu
 have hlt1 : t1.length + 1 = s.length := by rw [← q1, List.length_drop]; omega
 have HS1 := Lib.hid (show t1.length ≤ 140737488355328 by omega)
 have Q1 := Lib.hid (show List.take (s.length - 1) (List.tail s) = t1 by rw [← q1, List.drop_one]; exact List.take_of_length_le (by simp))
 have k1 : True := trivial
 have hb2 : (1 : Int) + k ≤ (s.length : Int) := by omega
 have hl2 : s2.length + k + 1 = s.length := by rw [← q2, List.length_drop]; omega
 have HS2 := Lib.hid (show s2.length ≤ 140737488355328 by omega)
 have Q2 := Lib.hid (show List.take (s.length - (1 + k)) (List.drop (1 + k) s) = s2 by rw [← q2]; exact List.take_of_length_le (by simp))
 have HV2 := Lib.hid hv2
 clear hz hv1 hu q1 q2 hv2 h h0
 go_enter Tryz.func69, Tryz.ntmps69
 go_wp2_with (first
  | (go_at_call 90; have _t := k1; clear _t; rw [Q1.out]; (with_reducible refine (ref_get64O t1 u k HV1.out HS1.out H.out).mono ?_); rintro e wn ⟨rfl, h⟩; replace H := Lib.hid h; clear h; clear k1; have k2 : True := trivial)
  | (go_at_call 90; have _t := k2; clear _t; rw [Q2.out]; (with_reducible refine (ref_getE s2 e HV2.out HS2.out H.out).mono ?_); rintro e wn ⟨rfl, h⟩; replace H := Lib.hid h; clear h; clear k2; have k3 : True := trivial)
  | (go_at_call 68; refine (ref07_fault _ H.out).mono ?_; rintro e wn ⟨rfl, h⟩; replace H := Lib.hid h; clear h; (first | (obtain ⟨ac0, ac1, ac2, ac3, ac4, ac5, ac6, ac7, ac8, af0, af1, af2, af3, af4, af5, af6, af7, af8⟩ := raw9 (b := wA) (H.out)) | (obtain ⟨ac0, ac1, ac2, ac3, ac4, ac5, ac6, ac7, ac8, af0, af1, af2, af3, af4, af5, af6, af7, af8⟩ := raw9 (b := wA) (H.out.p1)) | (obtain ⟨ac0, ac1, ac2, ac3, ac4, ac5, ac6, ac7, ac8, af0, af1, af2, af3, af4, af5, af6, af7, af8⟩ := raw9 (b := wA) (H.out.p2)) | (obtain ⟨ac0, ac1, ac2, ac3, ac4, ac5, ac6, ac7, ac8, af0, af1, af2, af3, af4, af5, af6, af7, af8⟩ := raw9 (b := wA) (H.out.p3)) | (obtain ⟨ac0, ac1, ac2, ac3, ac4, ac5, ac6, ac7, ac8, af0, af1, af2, af3, af4, af5, af6, af7, af8⟩ := raw9 (b := wA) (H.out.p4)))))
 refine bodyPost_ret (v := .agg #[.int .i64 0, .int .i64 0, .bool false, .string ⟨#[]⟩, .bool false, .string ⟨#[]⟩, .slice none 0 0, .int .i64 0, .int .i64 e]) (by simp [results, Tryz.results69, go_sem, ac0, ac1, ac2, ac3, ac4, ac5, ac6, ac7, ac8]) rfl ⟨rfl, ((((((((((H.out.rawSet 0 _).rawSet 1 _).rawSet 2 _).rawSet 3 _).rawSet 4 _).rawSet 5 _).rawSet 6 _).rawSet 7 _).rawSet 8 _).drop)⟩

set_option maxHeartbeats 1000000 in
set_option maxRecDepth 100000 in
theorem ref07_inner_neg (s t1 : Bs) (u k : Nat) (hl1 : 0 < s.length) (hz : s[0] = 0) (q1 : s.drop 1 = t1) (hv1 : vgetF 1 10 0 0 t1 = .ok (u, k)) (hu : u < 18446744073709551616) (hs : s.length ≤ 1000000) (s2 : Bs) (hk : 1 + k ≤ s.length) (q2 : s.drop (1 + k) = s2) (v m : Nat) (bt bo : Int) (hv2 : vgetF 15 5 0 0 s2 = .ok (v, m)) (hbt : backN u = bt) (hbo : backN v = bo) (hvv : v < 18446744073709551616) (ho : bo < 0) {W0 w : World} {K : Know} {L : List Res} (h : St W0 w K L) :
  Calls Tryz.prog 69 #[.string (bb s)] w fun en w' => en = .returned (.agg #[.int .i64 0, .int .i64 0, .bool false, .string ⟨#[]⟩, .bool false, .string ⟨#[]⟩, .slice none 0 0, .int .i64 0, .int .i64 11]) ∧ St W0 w' K L := by
 have h0 := h.allocRaw #[.int .i64 0, .int .i64 0, .bool false, .string ⟨#[]⟩, .bool false, .string ⟨#[]⟩, .slice none 0 0, .int .i64 0, .int .i64 0] 89
 obtain ⟨wA, hwA⟩ : ∃ b, w.heap.size = b := ⟨_, rfl⟩
 rw [hwA] at h0
 have H := Lib.hid h0
 have h1 : decide ((s.length : Int) < 1) = false := decide_eq_false (by omega)
 have hcn : ((s[0].toNat : Int) != 0) = false := by rw [hz]; rfl
 have hb1 : (1 : Int) ≤ (s.length : Int) := by omega
 have HV1 := Lib.hid hv1
 have HU := Lib.hid hu
 have hlt1 : t1.length + 1 = s.length := by rw [← q1, List.length_drop]; omega
 have HS1 := Lib.hid (show t1.length ≤ 140737488355328 by omega)
 have Q1 := Lib.hid (show List.take (s.length - 1) (List.tail s) = t1 by rw [← q1, List.drop_one]; exact List.take_of_length_le (by simp))
 have k1 : True := trivial
 have hb2 : (1 : Int) + k ≤ (s.length : Int) := by omega
 have hl2 : s2.length + k + 1 = s.length := by rw [← q2, List.length_drop]; omega
 have HS2 := Lib.hid (show s2.length ≤ 140737488355328 by omega)
 have Q2 := Lib.hid (show List.take (s.length - (1 + k)) (List.drop (1 + k) s) = s2 by rw [← q2]; exact List.take_of_length_le (by simp))
 have HV2 := Lib.hid hv2
 have HBT := Lib.hid hbt
 have HBO := Lib.hid hbo
 have HW := Lib.hid hvv
 clear hz hv1 hu q1 q2 hv2 hbt hbo hvv h h0
 go_enter Tryz.func69, Tryz.ntmps69
 go_wp2_with (first
  | (go_at_call 90; have _t := k1; clear _t; rw [Q1.out]; (with_reducible refine (ref_get64O t1 u k HV1.out HS1.out H.out).mono ?_); rintro e wn ⟨rfl, h⟩; replace H := Lib.hid h; clear h; clear k1; have k2 : True := trivial)
  | (go_at_call 90; have _t := k2; clear _t; rw [Q2.out]; (with_reducible refine (ref_getO s2 v m HV2.out HS2.out H.out).mono ?_); rintro e wn ⟨rfl, h⟩; replace H := Lib.hid h; clear h; clear k2; have k3 : True := trivial)
  | (go_at_call 92; have _t := k3; clear _t; (with_reducible refine (ref_backQ u bt HBT.out HU.out H.out).mono ?_); rintro e wn ⟨rfl, h⟩; replace H := Lib.hid h; clear h; clear k3; have k4 : True := trivial)
  | (go_at_call 92; have _t := k4; clear _t; (with_reducible refine (ref_backQ v bo HBO.out HW.out H.out).mono ?_); rintro e wn ⟨rfl, h⟩; obtain ⟨wR, hwR⟩ : ∃ b, wn.heap.size = b := ⟨_, rfl⟩; have h := h.allocRaw #[.int .i64 bt, .int .i64 bo, .bool false, .string ⟨#[]⟩, .bool false, .string ⟨#[]⟩, .slice none 0 0] 65; rw [hwR] at h; replace H := Lib.hid h; clear h; clear k4; have k5 : True := trivial; obtain ⟨rc0, rc1, rc2, rc3, rc4, rc5, rc6, rf0, rf1, rf2, rf3, rf4, rf5, rf6⟩ := raw7 (b := wR) (H.out))
  | (go_at_call 68; refine (ref07_fault _ H.out).mono ?_; rintro e wn ⟨rfl, h⟩; replace H := Lib.hid h; clear h; (first | (obtain ⟨ac0, ac1, ac2, ac3, ac4, ac5, ac6, ac7, ac8, af0, af1, af2, af3, af4, af5, af6, af7, af8⟩ := raw9 (b := wA) (H.out)) | (obtain ⟨ac0, ac1, ac2, ac3, ac4, ac5, ac6, ac7, ac8, af0, af1, af2, af3, af4, af5, af6, af7, af8⟩ := raw9 (b := wA) (H.out.p1)) | (obtain ⟨ac0, ac1, ac2, ac3, ac4, ac5, ac6, ac7, ac8, af0, af1, af2, af3, af4, af5, af6, af7, af8⟩ := raw9 (b := wA) (H.out.p2)) | (obtain ⟨ac0, ac1, ac2, ac3, ac4, ac5, ac6, ac7, ac8, af0, af1, af2, af3, af4, af5, af6, af7, af8⟩ := raw9 (b := wA) (H.out.p3)) | (obtain ⟨ac0, ac1, ac2, ac3, ac4, ac5, ac6, ac7, ac8, af0, af1, af2, af3, af4, af5, af6, af7, af8⟩ := raw9 (b := wA) (H.out.p4)))))
 refine bodyPost_ret (v := .agg #[.int .i64 0, .int .i64 0, .bool false, .string ⟨#[]⟩, .bool false, .string ⟨#[]⟩, .slice none 0 0, .int .i64 0, .int .i64 11]) (by simp [results, Tryz.results69, go_sem, ac0, ac1, ac2, ac3, ac4, ac5, ac6, ac7, ac8]) rfl ⟨rfl, ((((((((((H.out.p1.rawSet 0 _).rawSet 1 _).rawSet 2 _).rawSet 3 _).rawSet 4 _).rawSet 5 _).rawSet 6 _).rawSet 7 _).rawSet 8 _).drop.drop)⟩

set_option maxHeartbeats 1000000 in
set_option maxRecDepth 100000 in
theorem ref07_inner_key (s t1 : Bs) (u k : Nat) (hl1 : 0 < s.length) (hz : s[0] = 0) (q1 : s.drop 1 = t1) (hv1 : vgetF 1 10 0 0 t1 = .ok (u, k)) (hu : u < 18446744073709551616) (hs : s.length ≤ 1000000) (s2 : Bs) (hk : 1 + k ≤ s.length) (q2 : s.drop (1 + k) = s2) (v m : Nat) (bt bo : Int) (hv2 : vgetF 15 5 0 0 s2 = .ok (v, m)) (hbt : backN u = bt) (hbo : backN v = bo) (hvv : v < 18446744073709551616) (s3 : Bs) (hm : m ≤ s2.length) (q3 : s2.drop m = s3) (ho : 0 ≤ bo) (e : Int) (hg : revaried s3 = .error e) (hb : (e != 0) = true) {W0 w : World} {K : Know} {L : List Res} (h : St W0 w K L) :
  Calls Tryz.prog 69 #[.string (bb s)] w fun en w' => en = .returned (.agg #[.int .i64 0, .int .i64 0, .bool false, .string ⟨#[]⟩, .bool false, .string ⟨#[]⟩, .slice none 0 0, .int .i64 0, .int .i64 e]) ∧ St W0 w' K L := by
 have h0 := h.allocRaw #[.int .i64 0, .int .i64 0, .bool false, .string ⟨#[]⟩, .bool false, .string ⟨#[]⟩, .slice none 0 0, .int .i64 0, .int .i64 0] 89
 obtain ⟨wA, hwA⟩ : ∃ b, w.heap.size = b := ⟨_, rfl⟩
 rw [hwA] at h0
 have H := Lib.hid h0
 have h1 : decide ((s.length : Int) < 1) = false := decide_eq_false (by omega)
 have hcn : ((s[0].toNat : Int) != 0) = false := by rw [hz]; rfl
 have hb1 : (1 : Int) ≤ (s.length : Int) := by omega
 have HV1 := Lib.hid hv1
 have HU := Lib.hid hu
 have hlt1 : t1.length + 1 = s.length := by rw [← q1, List.length_drop]; omega
 have HS1 := Lib.hid (show t1.length ≤ 140737488355328 by omega)
 have Q1 := Lib.hid (show List.take (s.length - 1) (List.tail s) = t1 by rw [← q1, List.drop_one]; exact List.take_of_length_le (by simp))
 have k1 : True := trivial
 have hb2 : (1 : Int) + k ≤ (s.length : Int) := by omega
 have hl2 : s2.length + k + 1 = s.length := by rw [← q2, List.length_drop]; omega
 have HS2 := Lib.hid (show s2.length ≤ 140737488355328 by omega)
 have Q2 := Lib.hid (show List.take (s.length - (1 + k)) (List.drop (1 + k) s) = s2 by rw [← q2]; exact List.take_of_length_le (by simp))
 have HV2 := Lib.hid hv2
 have HBT := Lib.hid hbt
 have HBO := Lib.hid hbo
 have HW := Lib.hid hvv
 have hdo : decide (bo < 0) = false := decide_eq_false (by omega)
 have hb3 : (m : Int) ≤ (s2.length : Int) := by omega
 have hl3 : s3.length + m = s2.length := by rw [← q3, List.length_drop]; omega
 have HS3 := Lib.hid (show s3.length ≤ 140737488355328 by omega)
 have Q3 := Lib.hid (show List.take (s2.length - m) (List.drop m s2) = s3 by rw [← q3]; exact List.take_of_length_le (by simp))
 have HG1 := Lib.hid (show gotV (revaried s3) = .agg #[.bool false, .string (bb []), .int .i64 0, .int .i64 e] by rw [hg]; rfl)
 clear hz hv1 hu q1 q2 hv2 hbt hbo hvv q3 hg h h0
 go_enter Tryz.func69, Tryz.ntmps69
 go_wp2_with (first
  | (go_at_call 90; have _t := k1; clear _t; rw [Q1.out]; (with_reducible refine (ref_get64O t1 u k HV1.out HS1.out H.out).mono ?_); rintro e wn ⟨rfl, h⟩; replace H := Lib.hid h; clear h; clear k1; have k2 : True := trivial)
  | (go_at_call 90; have _t := k2; clear _t; rw [Q2.out]; (with_reducible refine (ref_getO s2 v m HV2.out HS2.out H.out).mono ?_); rintro e wn ⟨rfl, h⟩; replace H := Lib.hid h; clear h; clear k2; have k3 : True := trivial)
  | (go_at_call 92; have _t := k3; clear _t; (with_reducible refine (ref_backQ u bt HBT.out HU.out H.out).mono ?_); rintro e wn ⟨rfl, h⟩; replace H := Lib.hid h; clear h; clear k3; have k4 : True := trivial)
  | (go_at_call 92; have _t := k4; clear _t; (with_reducible refine (ref_backQ v bo HBO.out HW.out H.out).mono ?_); rintro e wn ⟨rfl, h⟩; obtain ⟨wR, hwR⟩ : ∃ b, wn.heap.size = b := ⟨_, rfl⟩; have h := h.allocRaw #[.int .i64 bt, .int .i64 bo, .bool false, .string ⟨#[]⟩, .bool false, .string ⟨#[]⟩, .slice none 0 0] 65; rw [hwR] at h; replace H := Lib.hid h; clear h; clear k4; have k5 : True := trivial; obtain ⟨rc0, rc1, rc2, rc3, rc4, rc5, rc6, rf0, rf1, rf2, rf3, rf4, rf5, rf6⟩ := raw7 (b := wR) (H.out))
  | (go_at_call 67; have _t := k5; clear _t; rw [Q3.out]; (with_reducible refine (ref04_readVariedT s3 s3 _ rfl HS3.out HG1.out H.out).mono ?_); rintro e wn ⟨rfl, h⟩; obtain ⟨wK, hwK⟩ : ∃ b, wn.heap.size = b := ⟨_, rfl⟩; have h := h.allocRaw #[.bool false, .string (bb []), .int .i64 0, .int .i64 e] 121; rw [hwK] at h; replace H := Lib.hid h; clear h; clear k5; have k6 : True := trivial; obtain ⟨q0, q1, q2, q3⟩ := raw_all4r (b := wK) (H.out))
  | (go_at_call 68; refine (ref07_fault _ H.out).mono ?_; rintro e wn ⟨rfl, h⟩; replace H := Lib.hid h; clear h; (first | (obtain ⟨ac0, ac1, ac2, ac3, ac4, ac5, ac6, ac7, ac8, af0, af1, af2, af3, af4, af5, af6, af7, af8⟩ := raw9 (b := wA) (H.out)) | (obtain ⟨ac0, ac1, ac2, ac3, ac4, ac5, ac6, ac7, ac8, af0, af1, af2, af3, af4, af5, af6, af7, af8⟩ := raw9 (b := wA) (H.out.p1)) | (obtain ⟨ac0, ac1, ac2, ac3, ac4, ac5, ac6, ac7, ac8, af0, af1, af2, af3, af4, af5, af6, af7, af8⟩ := raw9 (b := wA) (H.out.p2)) | (obtain ⟨ac0, ac1, ac2, ac3, ac4, ac5, ac6, ac7, ac8, af0, af1, af2, af3, af4, af5, af6, af7, af8⟩ := raw9 (b := wA) (H.out.p3)) | (obtain ⟨ac0, ac1, ac2, ac3, ac4, ac5, ac6, ac7, ac8, af0, af1, af2, af3, af4, af5, af6, af7, af8⟩ := raw9 (b := wA) (H.out.p4)))))
 refine bodyPost_ret (v := .agg #[.int .i64 0, .int .i64 0, .bool false, .string ⟨#[]⟩, .bool false, .string ⟨#[]⟩, .slice none 0 0, .int .i64 0, .int .i64 e]) (by simp [results, Tryz.results69, go_sem, ac0, ac1, ac2, ac3, ac4, ac5, ac6, ac7, ac8]) rfl ⟨rfl, ((((((((((H.out.p2.rawSet 0 _).rawSet 1 _).rawSet 2 _).rawSet 3 _).rawSet 4 _).rawSet 5 _).rawSet 6 _).rawSet 7 _).rawSet 8 _).drop.drop.drop)⟩

set_option maxHeartbeats 1000000 in
set_option maxRecDepth 100000 in
theorem ref07_inner_val (s t1 : Bs) (u k : Nat) (hl1 : 0 < s.length) (hz : s[0] = 0) (q1 : s.drop 1 = t1) (hv1 : vgetF 1 10 0 0 t1 = .ok (u, k)) (hu : u < 18446744073709551616) (hs : s.length ≤ 1000000) (s2 : Bs) (hk : 1 + k ≤ s.length) (q2 : s.drop (1 + k) = s2) (v m : Nat) (bt bo : Int) (hv2 : vgetF 15 5 0 0 s2 = .ok (v, m)) (hbt : backN u = bt) (hbo : backN v = bo) (hvv : v < 18446744073709551616) (s3 : Bs) (hm : m ≤ s2.length) (q3 : s2.drop m = s3) (ho : 0 ≤ bo) (s4 : Bs) (kb : BlobS) (ka : Nat) (hka : ka ≤ s3.length) (q4 : s3.drop ka = s4) (hg1 : revaried s3 = .ok (kb, ka)) (e : Int) (hg : revaried s4 = .error e) (hb : (e != 0) = true) {W0 w : World} {K : Know} {L : List Res} (h : St W0 w K L) :
  Calls Tryz.prog 69 #[.string (bb s)] w fun en w' => en = .returned (.agg #[.int .i64 0, .int .i64 0, .bool false, .string ⟨#[]⟩, .bool false, .string ⟨#[]⟩, .slice none 0 0, .int .i64 0, .int .i64 e]) ∧ St W0 w' K L := by
 have h0 := h.allocRaw #[.int .i64 0, .int .i64 0, .bool false, .string ⟨#[]⟩, .bool false, .string ⟨#[]⟩, .slice none 0 0, .int .i64 0, .int .i64 0] 89
 obtain ⟨wA, hwA⟩ : ∃ b, w.heap.size = b := ⟨_, rfl⟩
 rw [hwA] at h0
 have H := Lib.hid h0
 have h1 : decide ((s.length : Int) < 1) = false := decide_eq_false (by omega)
 have hcn : ((s[0].toNat : Int) != 0) = false := by rw [hz]; rfl
 have hb1 : (1 : Int) ≤ (s.length : Int) := by omega
 have HV1 := Lib.hid hv1
 have HU := Lib.hid hu
 have hlt1 : t1.length + 1 = s.length := by rw [← q1, List.length_drop]; omega
 have HS1 := Lib.hid (show t1.length ≤ 140737488355328 by omega)
 have Q1 := Lib.hid (show List.take (s.length - 1) (List.tail s) = t1 by rw [← q1, List.drop_one]; exact List.take_of_length_le (by simp))
 have k1 : True := trivial
 have hb2 : (1 : Int) + k ≤ (s.length : Int) := by omega
 have hl2 : s2.length + k + 1 = s.length := by rw [← q2, List.length_drop]; omega
 have HS2 := Lib.hid (show s2.length ≤ 140737488355328 by omega)
 have Q2 := Lib.hid (show List.take (s.length - (1 + k)) (List.drop (1 + k) s) = s2 by rw [← q2]; exact List.take_of_length_le (by simp))
 have HV2 := Lib.hid hv2
 have HBT := Lib.hid hbt
 have HBO := Lib.hid hbo
 have HW := Lib.hid hvv
 have hdo : decide (bo < 0) = false := decide_eq_false (by omega)
 have hb3 : (m : Int) ≤ (s2.length : Int) := by omega
 have hl3 : s3.length + m = s2.length := by rw [← q3, List.length_drop]; omega
 have HS3 := Lib.hid (show s3.length ≤ 140737488355328 by omega)
 have Q3 := Lib.hid (show List.take (s2.length - m) (List.drop m s2) = s3 by rw [← q3]; exact List.take_of_length_le (by simp))
 have hb4 : (ka : Int) ≤ (s3.length : Int) := by omega
 have hl4 : s4.length + ka = s3.length := by rw [← q4, List.length_drop]; omega
 have HS4 := Lib.hid (show s4.length ≤ 140737488355328 by omega)
 have Q4 := Lib.hid (show List.take (s3.length - ka) (List.drop ka s3) = s4 by rw [← q4]; exact List.take_of_length_le (by simp))
 have HG1 := Lib.hid (show gotV (revaried s3) = .agg #[.bool kb.null, .string (bb kb.data), .int .i64 ka, .int .i64 0] by rw [hg1]; rfl)
 have HG2 := Lib.hid (show gotV (revaried s4) = .agg #[.bool false, .string (bb []), .int .i64 0, .int .i64 e] by rw [hg]; rfl)
 clear hz hv1 hu q1 q2 hv2 hbt hbo hvv q3 q4 hg1 hg h h0
 go_enter Tryz.func69, Tryz.ntmps69
 go_wp2_with (first
  | (go_at_call 90; have _t := k1; clear _t; rw [Q1.out]; (with_reducible refine (ref_get64O t1 u k HV1.out HS1.out H.out).mono ?_); rintro e wn ⟨rfl, h⟩; replace H := Lib.hid h; clear h; clear k1; have k2 : True := trivial)
  | (go_at_call 90; have _t := k2; clear _t; rw [Q2.out]; (with_reducible refine (ref_getO s2 v m HV2.out HS2.out H.out).mono ?_); rintro e wn ⟨rfl, h⟩; replace H := Lib.hid h; clear h; clear k2; have k3 : True := trivial)
  | (go_at_call 92; have _t := k3; clear _t; (with_reducible refine (ref_backQ u bt HBT.out HU.out H.out).mono ?_); rintro e wn ⟨rfl, h⟩; replace H := Lib.hid h; clear h; clear k3; have k4 : True := trivial)
  | (go_at_call 92; have _t := k4; clear _t; (with_reducible refine (ref_backQ v bo HBO.out HW.out H.out).mono ?_); rintro e wn ⟨rfl, h⟩; obtain ⟨wR, hwR⟩ : ∃ b, wn.heap.size = b := ⟨_, rfl⟩; have h := h.allocRaw #[.int .i64 bt, .int .i64 bo, .bool false, .string ⟨#[]⟩, .bool false, .string ⟨#[]⟩, .slice none 0 0] 65; rw [hwR] at h; replace H := Lib.hid h; clear h; clear k4; have k5 : True := trivial; obtain ⟨rc0, rc1, rc2, rc3, rc4, rc5, rc6, rf0, rf1, rf2, rf3, rf4, rf5, rf6⟩ := raw7 (b := wR) (H.out))
  | (go_at_call 67; have _t := k5; clear _t; rw [Q3.out]; (with_reducible refine (ref04_readVariedT s3 s3 _ rfl HS3.out HG1.out H.out).mono ?_); rintro e wn ⟨rfl, h⟩; obtain ⟨wK, hwK⟩ : ∃ b, wn.heap.size = b := ⟨_, rfl⟩; have h := h.allocRaw #[.bool kb.null, .string (bb kb.data), .int .i64 ka, .int .i64 0] 121; rw [hwK] at h; replace H := Lib.hid h; clear h; clear k5; have k6 : True := trivial; obtain ⟨q0, q1, q2, q3⟩ := raw_all4r (b := wK) (H.out))
  | (go_at_call 67; have _t := k6; clear _t; rw [Q4.out]; (with_reducible refine (ref04_readVariedT s4 s4 _ rfl HS4.out HG2.out H.out).mono ?_); rintro e wn ⟨rfl, h⟩; obtain ⟨wV, hwV⟩ : ∃ b, wn.heap.size = b := ⟨_, rfl⟩; have h := h.allocRaw #[.bool false, .string (bb []), .int .i64 0, .int .i64 e] 121; rw [hwV] at h; replace H := Lib.hid h; clear h; clear k6; have k7 : True := trivial; obtain ⟨p0, p1, p2, p3⟩ := raw_all4r (b := wV) (H.out); obtain ⟨q0, q1, q2, q3⟩ := raw_all4r (b := wK) (H.out.p1))
  | (go_at_call 68; refine (ref07_fault _ H.out).mono ?_; rintro e wn ⟨rfl, h⟩; replace H := Lib.hid h; clear h; (first | (obtain ⟨ac0, ac1, ac2, ac3, ac4, ac5, ac6, ac7, ac8, af0, af1, af2, af3, af4, af5, af6, af7, af8⟩ := raw9 (b := wA) (H.out)) | (obtain ⟨ac0, ac1, ac2, ac3, ac4, ac5, ac6, ac7, ac8, af0, af1, af2, af3, af4, af5, af6, af7, af8⟩ := raw9 (b := wA) (H.out.p1)) | (obtain ⟨ac0, ac1, ac2, ac3, ac4, ac5, ac6, ac7, ac8, af0, af1, af2, af3, af4, af5, af6, af7, af8⟩ := raw9 (b := wA) (H.out.p2)) | (obtain ⟨ac0, ac1, ac2, ac3, ac4, ac5, ac6, ac7, ac8, af0, af1, af2, af3, af4, af5, af6, af7, af8⟩ := raw9 (b := wA) (H.out.p3)) | (obtain ⟨ac0, ac1, ac2, ac3, ac4, ac5, ac6, ac7, ac8, af0, af1, af2, af3, af4, af5, af6, af7, af8⟩ := raw9 (b := wA) (H.out.p4)))))
 refine bodyPost_ret (v := .agg #[.int .i64 0, .int .i64 0, .bool false, .string ⟨#[]⟩, .bool false, .string ⟨#[]⟩, .slice none 0 0, .int .i64 0, .int .i64 e]) (by simp [results, Tryz.results69, go_sem, ac0, ac1, ac2, ac3, ac4, ac5, ac6, ac7, ac8]) rfl ⟨rfl, ((((((((((H.out.p3.rawSet 0 _).rawSet 1 _).rawSet 2 _).rawSet 3 _).rawSet 4 _).rawSet 5 _).rawSet 6 _).rawSet 7 _).rawSet 8 _).drop.drop.drop.drop)⟩
set_option maxHeartbeats 1000000 in
set_option maxRecDepth 100000 in
theorem ref07_inner_hdr (s t1 : Bs) (u k : Nat) (hl1 : 0 < s.length) (hz : s[0] = 0) (q1 : s.drop 1 = t1) (hv1 : vgetF 1 10 0 0 t1 = .ok (u, k)) (hu : u < 18446744073709551616) (hs : s.length ≤ 1000000) (s2 : Bs) (hk : 1 + k ≤ s.length) (q2 : s.drop (1 + k) = s2) (v m : Nat) (bt bo : Int) (hv2 : vgetF 15 5 0 0 s2 = .ok (v, m)) (hbt : backN u = bt) (hbo : backN v = bo) (hvv : v < 18446744073709551616) (s3 : Bs) (hm : m ≤ s2.length) (q3 : s2.drop m = s3) (ho : 0 ≤ bo) (s4 : Bs) (kb : BlobS) (ka : Nat) (hka : ka ≤ s3.length) (q4 : s3.drop ka = s4) (hg1 : revaried s3 = .ok (kb, ka)) (s5 : Bs) (vb : BlobS) (va : Nat) (hva : va ≤ s4.length) (q5 : s4.drop va = s5) (hg2 : revaried s4 = .ok (vb, va)) (e : Int) (hh : reHdrs s5 = .error e) (hb : (e != 0) = true) {W0 w : World} {K : Know} {L : List Res} (h : St W0 w K L) :
  Calls Tryz.prog 69 #[.string (bb s)] w fun en w' => en = .returned (.agg #[.int .i64 0, .int .i64 0, .bool false, .string ⟨#[]⟩, .bool false, .string ⟨#[]⟩, .slice none 0 0, .int .i64 0, .int .i64 e]) ∧ St W0 w' K L := by
 have h0 := h.allocRaw #[.int .i64 0, .int .i64 0, .bool false, .string ⟨#[]⟩, .bool false, .string ⟨#[]⟩, .slice none 0 0, .int .i64 0, .int .i64 0] 89
 obtain ⟨wA, hwA⟩ : ∃ b, w.heap.size = b := ⟨_, rfl⟩
 rw [hwA] at h0
 have H := Lib.hid h0
 have h1 : decide ((s.length : Int) < 1) = false := decide_eq_false (by omega)
 have hcn : ((s[0].toNat : Int) != 0) = false := by rw [hz]; rfl
 have hb1 : (1 : Int) ≤ (s.length : Int) := by omega
 have HV1 := Lib.hid hv1
 have HU := Lib.hid hu
 have hlt1 : t1.length + 1 = s.length := by rw [← q1, List.length_drop]; omega
 have HS1 := Lib.hid (show t1.length ≤ 140737488355328 by omega)
 have Q1 := Lib.hid (show List.take (s.length - 1) (List.tail s) = t1 by rw [← q1, List.drop_one]; exact List.take_of_length_le (by simp))
 have k1 : True := trivial
 have hb2 : (1 : Int) + k ≤ (s.length : Int) := by omega
 have hl2 : s2.length + k + 1 = s.length := by rw [← q2, List.length_drop]; omega
 have HS2 := Lib.hid (show s2.length ≤ 140737488355328 by omega)
 have Q2 := Lib.hid (show List.take (s.length - (1 + k)) (List.drop (1 + k) s) = s2 by rw [← q2]; exact List.take_of_length_le (by simp))
 have HV2 := Lib.hid hv2
 have HBT := Lib.hid hbt
 have HBO := Lib.hid hbo
 have HW := Lib.hid hvv
 have hdo : decide (bo < 0) = false := decide_eq_false (by omega)
 have hb3 : (m : Int) ≤ (s2.length : Int) := by omega
 have hl3 : s3.length + m = s2.length := by rw [← q3, List.length_drop]; omega
 have HS3 := Lib.hid (show s3.length ≤ 140737488355328 by omega)
 have Q3 := Lib.hid (show List.take (s2.length - m) (List.drop m s2) = s3 by rw [← q3]; exact List.take_of_length_le (by simp))
 have hb4 : (ka : Int) ≤ (s3.length : Int) := by omega
 have hl4 : s4.length + ka = s3.length := by rw [← q4, List.length_drop]; omega
 have HS4 := Lib.hid (show s4.length ≤ 140737488355328 by omega)
 have Q4 := Lib.hid (show List.take (s3.length - ka) (List.drop ka s3) = s4 by rw [← q4]; exact List.take_of_length_le (by simp))
 have HG1 := Lib.hid (show gotV (revaried s3) = .agg #[.bool kb.null, .string (bb kb.data), .int .i64 ka, .int .i64 0] by rw [hg1]; rfl)
 have hb5 : (va : Int) ≤ (s4.length : Int) := by omega
 have hl5 : s5.length + va = s4.length := by rw [← q5, List.length_drop]; omega
 have HS5 := Lib.hid (show s5.length ≤ 140737488355328 by omega)
 have Q5 := Lib.hid (show List.take (s4.length - va) (List.drop va s4) = s5 by rw [← q5]; exact List.take_of_length_le (by simp))
 have HG2 := Lib.hid (show gotV (revaried s4) = .agg #[.bool vb.null, .string (bb vb.data), .int .i64 va, .int .i64 0] by rw [hg2]; rfl)
 have HH := Lib.hid hh
 clear hz hv1 hu q1 q2 hv2 hbt hbo hvv q3 q4 hg1 q5 hg2 hh h h0
 go_enter Tryz.func69, Tryz.ntmps69
 go_wp2_with (first
  | (go_at_call 90; have _t := k1; clear _t; rw [Q1.out]; (with_reducible refine (ref_get64O t1 u k HV1.out HS1.out H.out).mono ?_); rintro e wn ⟨rfl, h⟩; replace H := Lib.hid h; clear h; clear k1; have k2 : True := trivial)
  | (go_at_call 90; have _t := k2; clear _t; rw [Q2.out]; (with_reducible refine (ref_getO s2 v m HV2.out HS2.out H.out).mono ?_); rintro e wn ⟨rfl, h⟩; replace H := Lib.hid h; clear h; clear k2; have k3 : True := trivial)
  | (go_at_call 92; have _t := k3; clear _t; (with_reducible refine (ref_backQ u bt HBT.out HU.out H.out).mono ?_); rintro e wn ⟨rfl, h⟩; replace H := Lib.hid h; clear h; clear k3; have k4 : True := trivial)
  | (go_at_call 92; have _t := k4; clear _t; (with_reducible refine (ref_backQ v bo HBO.out HW.out H.out).mono ?_); rintro e wn ⟨rfl, h⟩; obtain ⟨wR, hwR⟩ : ∃ b, wn.heap.size = b := ⟨_, rfl⟩; have h := h.allocRaw #[.int .i64 bt, .int .i64 bo, .bool false, .string ⟨#[]⟩, .bool false, .string ⟨#[]⟩, .slice none 0 0] 65; rw [hwR] at h; replace H := Lib.hid h; clear h; clear k4; have k5 : True := trivial; obtain ⟨rc0, rc1, rc2, rc3, rc4, rc5, rc6, rf0, rf1, rf2, rf3, rf4, rf5, rf6⟩ := raw7 (b := wR) (H.out))
  | (go_at_call 67; have _t := k5; clear _t; rw [Q3.out]; (with_reducible refine (ref04_readVariedT s3 s3 _ rfl HS3.out HG1.out H.out).mono ?_); rintro e wn ⟨rfl, h⟩; obtain ⟨wK, hwK⟩ : ∃ b, wn.heap.size = b := ⟨_, rfl⟩; have h := h.allocRaw #[.bool kb.null, .string (bb kb.data), .int .i64 ka, .int .i64 0] 121; rw [hwK] at h; replace H := Lib.hid h; clear h; clear k5; have k6 : True := trivial; obtain ⟨q0, q1, q2, q3⟩ := raw_all4r (b := wK) (H.out))
  | (go_at_call 67; have _t := k6; clear _t; rw [Q4.out]; (with_reducible refine (ref04_readVariedT s4 s4 _ rfl HS4.out HG2.out H.out).mono ?_); rintro e wn ⟨rfl, h⟩; obtain ⟨wV, hwV⟩ : ∃ b, wn.heap.size = b := ⟨_, rfl⟩; have h := h.allocRaw #[.bool vb.null, .string (bb vb.data), .int .i64 va, .int .i64 0] 121; rw [hwV] at h; replace H := Lib.hid h; clear h; clear k6; have k7 : True := trivial; obtain ⟨p0, p1, p2, p3⟩ := raw_all4r (b := wV) (H.out); obtain ⟨q0, q1, q2, q3⟩ := raw_all4r (b := wK) (H.out.p1))
  | (go_at_call 93; have _t := k7; clear _t; rw [Q5.out]; refine (ref06_readE s5 e HH.out HS5.out H.out).mono ?_; rintro e wn ⟨vh, rfl, h⟩; obtain ⟨qh, caph, hvh⟩ := flat_form (Know.has_right (Know.has_refl _)) h; subst hvh; replace H := Lib.hid h; clear h; clear k7; have k8 : True := trivial; (first | (obtain ⟨ac0, ac1, ac2, ac3, ac4, ac5, ac6, ac7, ac8, af0, af1, af2, af3, af4, af5, af6, af7, af8⟩ := raw9 (b := wA) (H.out)) | (obtain ⟨ac0, ac1, ac2, ac3, ac4, ac5, ac6, ac7, ac8, af0, af1, af2, af3, af4, af5, af6, af7, af8⟩ := raw9 (b := wA) (H.out.p1)) | (obtain ⟨ac0, ac1, ac2, ac3, ac4, ac5, ac6, ac7, ac8, af0, af1, af2, af3, af4, af5, af6, af7, af8⟩ := raw9 (b := wA) (H.out.p2)) | (obtain ⟨ac0, ac1, ac2, ac3, ac4, ac5, ac6, ac7, ac8, af0, af1, af2, af3, af4, af5, af6, af7, af8⟩ := raw9 (b := wA) (H.out.p3)) | (obtain ⟨ac0, ac1, ac2, ac3, ac4, ac5, ac6, ac7, ac8, af0, af1, af2, af3, af4, af5, af6, af7, af8⟩ := raw9 (b := wA) (H.out.p4))); obtain ⟨rc0, rc1, rc2, rc3, rc4, rc5, rc6, rf0, rf1, rf2, rf3, rf4, rf5, rf6⟩ := raw7 (b := wR) (H.out.p2); obtain ⟨p0, p1, p2, p3⟩ := raw_all4r (b := wV) (H.out); obtain ⟨q0, q1, q2, q3⟩ := raw_all4r (b := wK) (H.out.p1))
  | (go_at_call 68; refine (ref07_fault _ H.out).mono ?_; rintro e wn ⟨rfl, h⟩; replace H := Lib.hid h; clear h; (first | (obtain ⟨ac0, ac1, ac2, ac3, ac4, ac5, ac6, ac7, ac8, af0, af1, af2, af3, af4, af5, af6, af7, af8⟩ := raw9 (b := wA) (H.out)) | (obtain ⟨ac0, ac1, ac2, ac3, ac4, ac5, ac6, ac7, ac8, af0, af1, af2, af3, af4, af5, af6, af7, af8⟩ := raw9 (b := wA) (H.out.p1)) | (obtain ⟨ac0, ac1, ac2, ac3, ac4, ac5, ac6, ac7, ac8, af0, af1, af2, af3, af4, af5, af6, af7, af8⟩ := raw9 (b := wA) (H.out.p2)) | (obtain ⟨ac0, ac1, ac2, ac3, ac4, ac5, ac6, ac7, ac8, af0, af1, af2, af3, af4, af5, af6, af7, af8⟩ := raw9 (b := wA) (H.out.p3)) | (obtain ⟨ac0, ac1, ac2, ac3, ac4, ac5, ac6, ac7, ac8, af0, af1, af2, af3, af4, af5, af6, af7, af8⟩ := raw9 (b := wA) (H.out.p4)))))
 refine bodyPost_ret (v := .agg #[.int .i64 0, .int .i64 0, .bool false, .string ⟨#[]⟩, .bool false, .string ⟨#[]⟩, .slice none 0 0, .int .i64 0, .int .i64 e]) (by simp [results, Tryz.results69, go_sem, ac0, ac1, ac2, ac3, ac4, ac5, ac6, ac7, ac8]) rfl ⟨rfl, ((((((((((H.out.p3.rawSet 0 _).rawSet 1 _).rawSet 2 _).rawSet 3 _).rawSet 4 _).rawSet 5 _).rawSet 6 _).rawSet 7 _).rawSet 8 _).drop.drop.drop.drop).know (Know.has_left (Know.has_refl _))⟩

set_option maxHeartbeats 1000000 in
set_option maxRecDepth 100000 in
theorem ref07_inner_long (s t1 : Bs) (u k : Nat) (hl1 : 0 < s.length) (hz : s[0] = 0) (q1 : s.drop 1 = t1) (hv1 : vgetF 1 10 0 0 t1 = .ok (u, k)) (hu : u < 18446744073709551616) (hs : s.length ≤ 1000000) (s2 : Bs) (hk : 1 + k ≤ s.length) (q2 : s.drop (1 + k) = s2) (v m : Nat) (bt bo : Int) (hv2 : vgetF 15 5 0 0 s2 = .ok (v, m)) (hbt : backN u = bt) (hbo : backN v = bo) (hvv : v < 18446744073709551616) (s3 : Bs) (hm : m ≤ s2.length) (q3 : s2.drop m = s3) (ho : 0 ≤ bo) (s4 : Bs) (kb : BlobS) (ka : Nat) (hka : ka ≤ s3.length) (q4 : s3.drop ka = s4) (hg1 : revaried s3 = .ok (kb, ka)) (s5 : Bs) (vb : BlobS) (va : Nat) (hva : va ≤ s4.length) (q5 : s4.drop va = s5) (hg2 : revaried s4 = .ok (vb, va)) (l : List HdrS) (ha : Nat) (hh : reHdrs s5 = .ok (l, ha)) (hne : ha ≠ s5.length) (hla : ha ≤ s5.length) {W0 w : World} {K : Know} {L : List Res} (h : St W0 w K L) :
  Calls Tryz.prog 69 #[.string (bb s)] w fun en w' => en = .returned (.agg #[.int .i64 0, .int .i64 0, .bool false, .string ⟨#[]⟩, .bool false, .string ⟨#[]⟩, .slice none 0 0, .int .i64 0, .int .i64 2]) ∧ St W0 w' K L := by
 have h0 := h.allocRaw #[.int .i64 0, .int .i64 0, .bool false, .string ⟨#[]⟩, .bool false, .string ⟨#[]⟩, .slice none 0 0, .int .i64 0, .int .i64 0] 89
 obtain ⟨wA, hwA⟩ : ∃ b, w.heap.size = b := ⟨_, rfl⟩
 rw [hwA] at h0
 have H := Lib.hid h0
 have h1 : decide ((s.length : Int) < 1) = false := decide_eq_false (by omega)
 have hcn : ((s[0].toNat : Int) != 0) = false := by rw [hz]; rfl
 have hb1 : (1 : Int) ≤ (s.length : Int) := by omega
 have HV1 := Lib.hid hv1
 have HU := Lib.hid hu
 have hlt1 : t1.length + 1 = s.length := by rw [← q1, List.length_drop]; omega
 have HS1 := Lib.hid (show t1.length ≤ 140737488355328 by omega)
 have Q1 := Lib.hid (show List.take (s.length - 1) (List.tail s) = t1 by rw [← q1, List.drop_one]; exact List.take_of_length_le (by simp))
 have k1 : True := trivial
 have hb2 : (1 : Int) + k ≤ (s.length : Int) := by omega
 have hl2 : s2.length + k + 1 = s.length := by rw [← q2, List.length_drop]; omega
 have HS2 := Lib.hid (show s2.length ≤ 140737488355328 by omega)
 have Q2 := Lib.hid (show List.take (s.length - (1 + k)) (List.drop (1 + k) s) = s2 by rw [← q2]; exact List.take_of_length_le (by simp))
 have HV2 := Lib.hid hv2
 have HBT := Lib.hid hbt
 have HBO := Lib.hid hbo
 have HW := Lib.hid hvv
 have hdo : decide (bo < 0) = false := decide_eq_false (by omega)
 have hb3 : (m : Int) ≤ (s2.length : Int) := by omega
 have hl3 : s3.length + m = s2.length := by rw [← q3, List.length_drop]; omega
 have HS3 := Lib.hid (show s3.length ≤ 140737488355328 by omega)
 have Q3 := Lib.hid (show List.take (s2.length - m) (List.drop m s2) = s3 by rw [← q3]; exact List.take_of_length_le (by simp))
 have hb4 : (ka : Int) ≤ (s3.length : Int) := by omega
 have hl4 : s4.length + ka = s3.length := by rw [← q4, List.length_drop]; omega
 have HS4 := Lib.hid (show s4.length ≤ 140737488355328 by omega)
 have Q4 := Lib.hid (show List.take (s3.length - ka) (List.drop ka s3) = s4 by rw [← q4]; exact List.take_of_length_le (by simp))
 have HG1 := Lib.hid (show gotV (revaried s3) = .agg #[.bool kb.null, .string (bb kb.data), .int .i64 ka, .int .i64 0] by rw [hg1]; rfl)
 have hb5 : (va : Int) ≤ (s4.length : Int) := by omega
 have hl5 : s5.length + va = s4.length := by rw [← q5, List.length_drop]; omega
 have HS5 := Lib.hid (show s5.length ≤ 140737488355328 by omega)
 have Q5 := Lib.hid (show List.take (s4.length - va) (List.drop va s4) = s5 by rw [← q5]; exact List.take_of_length_le (by simp))
 have HG2 := Lib.hid (show gotV (revaried s4) = .agg #[.bool vb.null, .string (bb vb.data), .int .i64 va, .int .i64 0] by rw [hg2]; rfl)
 have HH := Lib.hid hh
 have hnb : ((ha : Int) != (s5.length : Int)) = true := bne_iff_ne.2 (by omega)
 clear hz hv1 hu q1 q2 hv2 hbt hbo hvv q3 q4 hg1 q5 hg2 hh hne h h0
 go_enter Tryz.func69, Tryz.ntmps69
 go_wp2_with (first
  | (go_at_call 90; have _t := k1; clear _t; rw [Q1.out]; (with_reducible refine (ref_get64O t1 u k HV1.out HS1.out H.out).mono ?_); rintro e wn ⟨rfl, h⟩; replace H := Lib.hid h; clear h; clear k1; have k2 : True := trivial)
  | (go_at_call 90; have _t := k2; clear _t; rw [Q2.out]; (with_reducible refine (ref_getO s2 v m HV2.out HS2.out H.out).mono ?_); rintro e wn ⟨rfl, h⟩; replace H := Lib.hid h; clear h; clear k2; have k3 : True := trivial)
  | (go_at_call 92; have _t := k3; clear _t; (with_reducible refine (ref_backQ u bt HBT.out HU.out H.out).mono ?_); rintro e wn ⟨rfl, h⟩; replace H := Lib.hid h; clear h; clear k3; have k4 : True := trivial)
  | (go_at_call 92; have _t := k4; clear _t; (with_reducible refine (ref_backQ v bo HBO.out HW.out H.out).mono ?_); rintro e wn ⟨rfl, h⟩; obtain ⟨wR, hwR⟩ : ∃ b, wn.heap.size = b := ⟨_, rfl⟩; have h := h.allocRaw #[.int .i64 bt, .int .i64 bo, .bool false, .string ⟨#[]⟩, .bool false, .string ⟨#[]⟩, .slice none 0 0] 65; rw [hwR] at h; replace H := Lib.hid h; clear h; clear k4; have k5 : True := trivial; obtain ⟨rc0, rc1, rc2, rc3, rc4, rc5, rc6, rf0, rf1, rf2, rf3, rf4, rf5, rf6⟩ := raw7 (b := wR) (H.out))
  | (go_at_call 67; have _t := k5; clear _t; rw [Q3.out]; (with_reducible refine (ref04_readVariedT s3 s3 _ rfl HS3.out HG1.out H.out).mono ?_); rintro e wn ⟨rfl, h⟩; obtain ⟨wK, hwK⟩ : ∃ b, wn.heap.size = b := ⟨_, rfl⟩; have h := h.allocRaw #[.bool kb.null, .string (bb kb.data), .int .i64 ka, .int .i64 0] 121; rw [hwK] at h; replace H := Lib.hid h; clear h; clear k5; have k6 : True := trivial; obtain ⟨q0, q1, q2, q3⟩ := raw_all4r (b := wK) (H.out))
  | (go_at_call 67; have _t := k6; clear _t; rw [Q4.out]; (with_reducible refine (ref04_readVariedT s4 s4 _ rfl HS4.out HG2.out H.out).mono ?_); rintro e wn ⟨rfl, h⟩; obtain ⟨wV, hwV⟩ : ∃ b, wn.heap.size = b := ⟨_, rfl⟩; have h := h.allocRaw #[.bool vb.null, .string (bb vb.data), .int .i64 va, .int .i64 0] 121; rw [hwV] at h; replace H := Lib.hid h; clear h; clear k6; have k7 : True := trivial; obtain ⟨p0, p1, p2, p3⟩ := raw_all4r (b := wV) (H.out); obtain ⟨q0, q1, q2, q3⟩ := raw_all4r (b := wK) (H.out.p1))
  | (go_at_call 93; have _t := k7; clear _t; rw [Q5.out]; refine (ref06_readO s5 l ha HH.out HS5.out H.out).mono ?_; rintro e wn ⟨vh, rfl, h⟩; obtain ⟨qh, caph, hvh⟩ := flat_form (Know.has_right (Know.has_refl _)) h; subst hvh; replace H := Lib.hid h; clear h; clear k7; have k8 : True := trivial; (first | (obtain ⟨ac0, ac1, ac2, ac3, ac4, ac5, ac6, ac7, ac8, af0, af1, af2, af3, af4, af5, af6, af7, af8⟩ := raw9 (b := wA) (H.out)) | (obtain ⟨ac0, ac1, ac2, ac3, ac4, ac5, ac6, ac7, ac8, af0, af1, af2, af3, af4, af5, af6, af7, af8⟩ := raw9 (b := wA) (H.out.p1)) | (obtain ⟨ac0, ac1, ac2, ac3, ac4, ac5, ac6, ac7, ac8, af0, af1, af2, af3, af4, af5, af6, af7, af8⟩ := raw9 (b := wA) (H.out.p2)) | (obtain ⟨ac0, ac1, ac2, ac3, ac4, ac5, ac6, ac7, ac8, af0, af1, af2, af3, af4, af5, af6, af7, af8⟩ := raw9 (b := wA) (H.out.p3)) | (obtain ⟨ac0, ac1, ac2, ac3, ac4, ac5, ac6, ac7, ac8, af0, af1, af2, af3, af4, af5, af6, af7, af8⟩ := raw9 (b := wA) (H.out.p4))); obtain ⟨rc0, rc1, rc2, rc3, rc4, rc5, rc6, rf0, rf1, rf2, rf3, rf4, rf5, rf6⟩ := raw7 (b := wR) (H.out.p2); obtain ⟨p0, p1, p2, p3⟩ := raw_all4r (b := wV) (H.out); obtain ⟨q0, q1, q2, q3⟩ := raw_all4r (b := wK) (H.out.p1))
  | (go_at_call 68; refine (ref07_fault _ H.out).mono ?_; rintro e wn ⟨rfl, h⟩; replace H := Lib.hid h; clear h; (first | (obtain ⟨ac0, ac1, ac2, ac3, ac4, ac5, ac6, ac7, ac8, af0, af1, af2, af3, af4, af5, af6, af7, af8⟩ := raw9 (b := wA) (H.out)) | (obtain ⟨ac0, ac1, ac2, ac3, ac4, ac5, ac6, ac7, ac8, af0, af1, af2, af3, af4, af5, af6, af7, af8⟩ := raw9 (b := wA) (H.out.p1)) | (obtain ⟨ac0, ac1, ac2, ac3, ac4, ac5, ac6, ac7, ac8, af0, af1, af2, af3, af4, af5, af6, af7, af8⟩ := raw9 (b := wA) (H.out.p2)) | (obtain ⟨ac0, ac1, ac2, ac3, ac4, ac5, ac6, ac7, ac8, af0, af1, af2, af3, af4, af5, af6, af7, af8⟩ := raw9 (b := wA) (H.out.p3)) | (obtain ⟨ac0, ac1, ac2, ac3, ac4, ac5, ac6, ac7, ac8, af0, af1, af2, af3, af4, af5, af6, af7, af8⟩ := raw9 (b := wA) (H.out.p4)))))
 refine bodyPost_ret (v := .agg #[.int .i64 0, .int .i64 0, .bool false, .string ⟨#[]⟩, .bool false, .string ⟨#[]⟩, .slice none 0 0, .int .i64 0, .int .i64 2]) (by simp [results, Tryz.results69, go_sem, ac0, ac1, ac2, ac3, ac4, ac5, ac6, ac7, ac8]) rfl ⟨rfl, ((((((((((H.out.p3.rawSet 0 _).rawSet 1 _).rawSet 2 _).rawSet 3 _).rawSet 4 _).rawSet 5 _).rawSet 6 _).rawSet 7 _).rawSet 8 _).drop.drop.drop.drop).know (Know.has_left (Know.has_refl _))⟩
set_option maxHeartbeats 1000000 in
set_option maxRecDepth 100000 in
theorem ref07_inner_ok (s t1 : Bs) (u k : Nat) (hl1 : 0 < s.length) (hz : s[0] = 0) (q1 : s.drop 1 = t1) (hv1 : vgetF 1 10 0 0 t1 = .ok (u, k)) (hu : u < 18446744073709551616) (hs : s.length ≤ 1000000) (s2 : Bs) (hk : 1 + k ≤ s.length) (q2 : s.drop (1 + k) = s2) (v m : Nat) (bt bo : Int) (hv2 : vgetF 15 5 0 0 s2 = .ok (v, m)) (hbt : backN u = bt) (hbo : backN v = bo) (hvv : v < 18446744073709551616) (s3 : Bs) (hm : m ≤ s2.length) (q3 : s2.drop m = s3) (ho : 0 ≤ bo) (s4 : Bs) (kb : BlobS) (ka : Nat) (hka : ka ≤ s3.length) (q4 : s3.drop ka = s4) (hg1 : revaried s3 = .ok (kb, ka)) (s5 : Bs) (vb : BlobS) (va : Nat) (hva : va ≤ s4.length) (q5 : s4.drop va = s5) (hg2 : revaried s4 = .ok (vb, va)) (l : List HdrS) (ha : Nat) (hh : reHdrs s5 = .ok (l, ha)) (hne : ha = s5.length) {W0 w : World} {K : Know} {L : List Res} (h : St W0 w K L) :
  Calls Tryz.prog 69 #[.string (bb s)] w fun en w' => ∃ v, en = .returned (.agg #[.int .i64 bt, .int .i64 bo, .bool kb.null, .string (bb kb.data), .bool vb.null, .string (bb vb.data), v, .int .i64 0, .int .i64 0]) ∧ St W0 w' (K.and (Know.flat RHdr v 3 l)) L := by
 have h0 := h.allocRaw #[.int .i64 0, .int .i64 0, .bool false, .string ⟨#[]⟩, .bool false, .string ⟨#[]⟩, .slice none 0 0, .int .i64 0, .int .i64 0] 89
 obtain ⟨wA, hwA⟩ : ∃ b, w.heap.size = b := ⟨_, rfl⟩
 rw [hwA] at h0
 have H := Lib.hid h0
 have h1 : decide ((s.length : Int) < 1) = false := decide_eq_false (by omega)
 have hcn : ((s[0].toNat : Int) != 0) = false := by rw [hz]; rfl
 have hb1 : (1 : Int) ≤ (s.length : Int) := by omega
 have HV1 := Lib.hid hv1
 have HU := Lib.hid hu
 have hlt1 : t1.length + 1 = s.length := by rw [← q1, List.length_drop]; omega
 have HS1 := Lib.hid (show t1.length ≤ 140737488355328 by omega)
 have Q1 := Lib.hid (show List.take (s.length - 1) (List.tail s) = t1 by rw [← q1, List.drop_one]; exact List.take_of_length_le (by simp))
 have k1 : True := trivial
 have hb2 : (1 : Int) + k ≤ (s.length : Int) := by omega
 have hl2 : s2.length + k + 1 = s.length := by rw [← q2, List.length_drop]; omega
 have HS2 := Lib.hid (show s2.length ≤ 140737488355328 by omega)
 have Q2 := Lib.hid (show List.take (s.length - (1 + k)) (List.drop (1 + k) s) = s2 by rw [← q2]; exact List.take_of_length_le (by simp))
 have HV2 := Lib.hid hv2
 have HBT := Lib.hid hbt
 have HBO := Lib.hid hbo
 have HW := Lib.hid hvv
 have hdo : decide (bo < 0) = false := decide_eq_false (by omega)
 have hb3 : (m : Int) ≤ (s2.length : Int) := by omega
 have hl3 : s3.length + m = s2.length := by rw [← q3, List.length_drop]; omega
 have HS3 := Lib.hid (show s3.length ≤ 140737488355328 by omega)
 have Q3 := Lib.hid (show List.take (s2.length - m) (List.drop m s2) = s3 by rw [← q3]; exact List.take_of_length_le (by simp))
 have hb4 : (ka : Int) ≤ (s3.length : Int) := by omega
 have hl4 : s4.length + ka = s3.length := by rw [← q4, List.length_drop]; omega
 have HS4 := Lib.hid (show s4.length ≤ 140737488355328 by omega)
 have Q4 := Lib.hid (show List.take (s3.length - ka) (List.drop ka s3) = s4 by rw [← q4]; exact List.take_of_length_le (by simp))
 have HG1 := Lib.hid (show gotV (revaried s3) = .agg #[.bool kb.null, .string (bb kb.data), .int .i64 ka, .int .i64 0] by rw [hg1]; rfl)
 have hb5 : (va : Int) ≤ (s4.length : Int) := by omega
 have hl5 : s5.length + va = s4.length := by rw [← q5, List.length_drop]; omega
 have HS5 := Lib.hid (show s5.length ≤ 140737488355328 by omega)
 have Q5 := Lib.hid (show List.take (s4.length - va) (List.drop va s4) = s5 by rw [← q5]; exact List.take_of_length_le (by simp))
 have HG2 := Lib.hid (show gotV (revaried s4) = .agg #[.bool vb.null, .string (bb vb.data), .int .i64 va, .int .i64 0] by rw [hg2]; rfl)
 have HH := Lib.hid hh
 have hnb : ((ha : Int) != (s5.length : Int)) = false := by rw [hne]; simp
 clear hz hv1 hu q1 q2 hv2 hbt hbo hvv q3 q4 hg1 q5 hg2 hh hne h h0
 go_enter Tryz.func69, Tryz.ntmps69
 go_upto_region 29 with (first
  | (go_at_call 90; have _t := k1; clear _t; rw [Q1.out]; (with_reducible refine (ref_get64O t1 u k HV1.out HS1.out H.out).mono ?_); rintro e wn ⟨rfl, h⟩; replace H := Lib.hid h; clear h; clear k1; have k2 : True := trivial)
  | (go_at_call 90; have _t := k2; clear _t; rw [Q2.out]; (with_reducible refine (ref_getO s2 v m HV2.out HS2.out H.out).mono ?_); rintro e wn ⟨rfl, h⟩; replace H := Lib.hid h; clear h; clear k2; have k3 : True := trivial)
  | (go_at_call 92; have _t := k3; clear _t; (with_reducible refine (ref_backQ u bt HBT.out HU.out H.out).mono ?_); rintro e wn ⟨rfl, h⟩; replace H := Lib.hid h; clear h; clear k3; have k4 : True := trivial)
  | (go_at_call 92; have _t := k4; clear _t; (with_reducible refine (ref_backQ v bo HBO.out HW.out H.out).mono ?_); rintro e wn ⟨rfl, h⟩; obtain ⟨wR, hwR⟩ : ∃ b, wn.heap.size = b := ⟨_, rfl⟩; have h := h.allocRaw #[.int .i64 bt, .int .i64 bo, .bool false, .string ⟨#[]⟩, .bool false, .string ⟨#[]⟩, .slice none 0 0] 65; rw [hwR] at h; replace H := Lib.hid h; clear h; clear k4; have k5 : True := trivial; obtain ⟨rc0, rc1, rc2, rc3, rc4, rc5, rc6, rf0, rf1, rf2, rf3, rf4, rf5, rf6⟩ := raw7 (b := wR) (H.out))
  | (go_at_call 67; have _t := k5; clear _t; rw [Q3.out]; (with_reducible refine (ref04_readVariedT s3 s3 _ rfl HS3.out HG1.out H.out).mono ?_); rintro e wn ⟨rfl, h⟩; obtain ⟨wK, hwK⟩ : ∃ b, wn.heap.size = b := ⟨_, rfl⟩; have h := h.allocRaw #[.bool kb.null, .string (bb kb.data), .int .i64 ka, .int .i64 0] 121; rw [hwK] at h; replace H := Lib.hid h; clear h; clear k5; have k6 : True := trivial; obtain ⟨q0, q1, q2, q3⟩ := raw_all4r (b := wK) (H.out))
  | (go_at_call 67; have _t := k6; clear _t; rw [Q4.out]; (with_reducible refine (ref04_readVariedT s4 s4 _ rfl HS4.out HG2.out H.out).mono ?_); rintro e wn ⟨rfl, h⟩; obtain ⟨wV, hwV⟩ : ∃ b, wn.heap.size = b := ⟨_, rfl⟩; have h := h.allocRaw #[.bool vb.null, .string (bb vb.data), .int .i64 va, .int .i64 0] 121; rw [hwV] at h; replace H := Lib.hid h; clear h; clear k6; have k7 : True := trivial; obtain ⟨p0, p1, p2, p3⟩ := raw_all4r (b := wV) (H.out); obtain ⟨q0, q1, q2, q3⟩ := raw_all4r (b := wK) (H.out.p1))
  | (go_at_call 93; have _t := k7; clear _t; rw [Q5.out]; refine (ref06_readO s5 l ha HH.out HS5.out H.out).mono ?_; rintro e wn ⟨vh, rfl, h⟩; obtain ⟨qh, caph, hvh⟩ := flat_form (Know.has_right (Know.has_refl _)) h; subst hvh; replace H := Lib.hid h; clear h; clear k7; have k8 : True := trivial; (first | (obtain ⟨ac0, ac1, ac2, ac3, ac4, ac5, ac6, ac7, ac8, af0, af1, af2, af3, af4, af5, af6, af7, af8⟩ := raw9 (b := wA) (H.out)) | (obtain ⟨ac0, ac1, ac2, ac3, ac4, ac5, ac6, ac7, ac8, af0, af1, af2, af3, af4, af5, af6, af7, af8⟩ := raw9 (b := wA) (H.out.p1)) | (obtain ⟨ac0, ac1, ac2, ac3, ac4, ac5, ac6, ac7, ac8, af0, af1, af2, af3, af4, af5, af6, af7, af8⟩ := raw9 (b := wA) (H.out.p2)) | (obtain ⟨ac0, ac1, ac2, ac3, ac4, ac5, ac6, ac7, ac8, af0, af1, af2, af3, af4, af5, af6, af7, af8⟩ := raw9 (b := wA) (H.out.p3)) | (obtain ⟨ac0, ac1, ac2, ac3, ac4, ac5, ac6, ac7, ac8, af0, af1, af2, af3, af4, af5, af6, af7, af8⟩ := raw9 (b := wA) (H.out.p4))); obtain ⟨rc0, rc1, rc2, rc3, rc4, rc5, rc6, rf0, rf1, rf2, rf3, rf4, rf5, rf6⟩ := raw7 (b := wR) (H.out.p2); obtain ⟨p0, p1, p2, p3⟩ := raw_all4r (b := wV) (H.out); obtain ⟨q0, q1, q2, q3⟩ := raw_all4r (b := wK) (H.out.p1))
  | (go_at_call 68; refine (ref07_fault _ H.out).mono ?_; rintro e wn ⟨rfl, h⟩; replace H := Lib.hid h; clear h; (first | (obtain ⟨ac0, ac1, ac2, ac3, ac4, ac5, ac6, ac7, ac8, af0, af1, af2, af3, af4, af5, af6, af7, af8⟩ := raw9 (b := wA) (H.out)) | (obtain ⟨ac0, ac1, ac2, ac3, ac4, ac5, ac6, ac7, ac8, af0, af1, af2, af3, af4, af5, af6, af7, af8⟩ := raw9 (b := wA) (H.out.p1)) | (obtain ⟨ac0, ac1, ac2, ac3, ac4, ac5, ac6, ac7, ac8, af0, af1, af2, af3, af4, af5, af6, af7, af8⟩ := raw9 (b := wA) (H.out.p2)) | (obtain ⟨ac0, ac1, ac2, ac3, ac4, ac5, ac6, ac7, ac8, af0, af1, af2, af3, af4, af5, af6, af7, af8⟩ := raw9 (b := wA) (H.out.p3)) | (obtain ⟨ac0, ac1, ac2, ac3, ac4, ac5, ac6, ac7, ac8, af0, af1, af2, af3, af4, af5, af6, af7, af8⟩ := raw9 (b := wA) (H.out.p4)))))
 go_cut [2, 9, 10, 11, 12] (fun s2 s9 s10 s11 s12 wx => s2 = .pointer (some ⟨wA, 0, none⟩) ∧ s9 = .pointer (some ⟨wR, 0, none⟩) ∧ s10 = .pointer (some ⟨wK, 0, none⟩) ∧ s11 = .pointer (some ⟨wV, 0, none⟩) ∧ s12 = .slice qh l.length caph ∧ St W0 wx (K.and (Know.flat RHdr (.slice qh l.length caph) 3 l)) (.raw wV #[.bool vb.null, .string (bb vb.data), .int .i64 va, .int .i64 0] 121 :: .raw wK #[.bool kb.null, .string (bb kb.data), .int .i64 ka, .int .i64 0] 121 :: .raw wR #[.int .i64 bt, .int .i64 bo, .bool kb.null, .string (bb kb.data), .bool false, .string ⟨#[]⟩, .slice none 0 0] 65 :: .raw wA #[.int .i64 0, .int .i64 0, .bool false, .string ⟨#[]⟩, .bool false, .string ⟨#[]⟩, .slice none 0 0, .int .i64 0, .int .i64 0] 89 :: L))
 case first =>
  obtain ⟨ac0, ac1, ac2, ac3, ac4, ac5, ac6, ac7, ac8, af0, af1, af2, af3, af4, af5, af6, af7, af8⟩ := raw9 (b := wA) (H.out.p3); obtain ⟨rc0, rc1, rc2, rc3, rc4, rc5, rc6, rf0, rf1, rf2, rf3, rf4, rf5, rf6⟩ := raw7 (b := wR) (H.out.p2); obtain ⟨p0, p1, p2, p3⟩ := raw_all4r (b := wV) (H.out); obtain ⟨q0, q1, q2, q3⟩ := raw_all4r (b := wK) (H.out.p1); have n1 : ¬ (wV = wR) := H.out.p1.drop.raw_ne; have n2 : ¬ (wK = wR) := H.out.drop.raw_ne; have n3 : ¬ (wR = wA) := H.out.drop.drop.raw_ne; have m1 : ¬ (wR = wV) := fun e => n1 e.symm; have m2 : ¬ (wR = wK) := fun e => n2 e.symm; have m3 : ¬ (wA = wR) := fun e => n3 e.symm
  go_wp2_with fail
  go_meet
  exact ⟨rfl, rfl, rfl, rfl, rfl, ((H.out.p2.rawSet 2 _).rawSet 3 _).p2.p2⟩
 case rest =>
 obtain ⟨rfl, rfl, rfl, rfl, rfl, hst⟩ := hcut
 clear H
 have H := Lib.hid hst
 clear hst
 go_upto_region 30 with (fail)
 go_cut [2, 9, 10, 11, 12] (fun s2 s9 s10 s11 s12 wx => s2 = .pointer (some ⟨wA, 0, none⟩) ∧ s9 = .pointer (some ⟨wR, 0, none⟩) ∧ s10 = .pointer (some ⟨wK, 0, none⟩) ∧ s11 = .pointer (some ⟨wV, 0, none⟩) ∧ s12 = .slice qh l.length caph ∧ St W0 wx (K.and (Know.flat RHdr (.slice qh l.length caph) 3 l)) (.raw wV #[.bool vb.null, .string (bb vb.data), .int .i64 va, .int .i64 0] 121 :: .raw wK #[.bool kb.null, .string (bb kb.data), .int .i64 ka, .int .i64 0] 121 :: .raw wR #[.int .i64 bt, .int .i64 bo, .bool kb.null, .string (bb kb.data), .bool vb.null, .string (bb vb.data), .slice none 0 0] 65 :: .raw wA #[.int .i64 0, .int .i64 0, .bool false, .string ⟨#[]⟩, .bool false, .string ⟨#[]⟩, .slice none 0 0, .int .i64 0, .int .i64 0] 89 :: L))
 case first =>
  obtain ⟨ac0, ac1, ac2, ac3, ac4, ac5, ac6, ac7, ac8, af0, af1, af2, af3, af4, af5, af6, af7, af8⟩ := raw9 (b := wA) (H.out.p3); obtain ⟨rc0, rc1, rc2, rc3, rc4, rc5, rc6, rf0, rf1, rf2, rf3, rf4, rf5, rf6⟩ := raw7 (b := wR) (H.out.p2); obtain ⟨p0, p1, p2, p3⟩ := raw_all4r (b := wV) (H.out); obtain ⟨q0, q1, q2, q3⟩ := raw_all4r (b := wK) (H.out.p1); have n1 : ¬ (wV = wR) := H.out.p1.drop.raw_ne; have n2 : ¬ (wK = wR) := H.out.drop.raw_ne; have n3 : ¬ (wR = wA) := H.out.drop.drop.raw_ne; have m1 : ¬ (wR = wV) := fun e => n1 e.symm; have m2 : ¬ (wR = wK) := fun e => n2 e.symm; have m3 : ¬ (wA = wR) := fun e => n3 e.symm
  go_wp2_with fail
  go_meet
  exact ⟨rfl, rfl, rfl, rfl, rfl, ((H.out.p2.rawSet 4 _).rawSet 5 _).p2.p2⟩
 case rest =>
 obtain ⟨rfl, rfl, rfl, rfl, rfl, hst⟩ := hcut
 clear H
 have H := Lib.hid hst
 clear hst
 go_upto_region 31 with (fail)
 go_cut [2, 9, 10, 11, 12] (fun s2 s9 s10 s11 s12 wx => s2 = .pointer (some ⟨wA, 0, none⟩) ∧ s9 = .pointer (some ⟨wR, 0, none⟩) ∧ s10 = .pointer (some ⟨wK, 0, none⟩) ∧ s11 = .pointer (some ⟨wV, 0, none⟩) ∧ s12 = .slice qh l.length caph ∧ St W0 wx (K.and (Know.flat RHdr (.slice qh l.length caph) 3 l)) (.raw wV #[.bool vb.null, .string (bb vb.data), .int .i64 va, .int .i64 0] 121 :: .raw wK #[.bool kb.null, .string (bb kb.data), .int .i64 ka, .int .i64 0] 121 :: .raw wR #[.int .i64 bt, .int .i64 bo, .bool kb.null, .string (bb kb.data), .bool vb.null, .string (bb vb.data), .slice qh l.length caph] 65 :: .raw wA #[.int .i64 0, .int .i64 0, .bool false, .string ⟨#[]⟩, .bool false, .string ⟨#[]⟩, .slice none 0 0, .int .i64 0, .int .i64 0] 89 :: L))
 case first =>
  obtain ⟨ac0, ac1, ac2, ac3, ac4, ac5, ac6, ac7, ac8, af0, af1, af2, af3, af4, af5, af6, af7, af8⟩ := raw9 (b := wA) (H.out.p3); obtain ⟨rc0, rc1, rc2, rc3, rc4, rc5, rc6, rf0, rf1, rf2, rf3, rf4, rf5, rf6⟩ := raw7 (b := wR) (H.out.p2); obtain ⟨p0, p1, p2, p3⟩ := raw_all4r (b := wV) (H.out); obtain ⟨q0, q1, q2, q3⟩ := raw_all4r (b := wK) (H.out.p1); have n1 : ¬ (wV = wR) := H.out.p1.drop.raw_ne; have n2 : ¬ (wK = wR) := H.out.drop.raw_ne; have n3 : ¬ (wR = wA) := H.out.drop.drop.raw_ne; have m1 : ¬ (wR = wV) := fun e => n1 e.symm; have m2 : ¬ (wR = wK) := fun e => n2 e.symm; have m3 : ¬ (wA = wR) := fun e => n3 e.symm
  go_wp2_with fail
  go_meet
  exact ⟨rfl, rfl, rfl, rfl, rfl, (H.out.p2.rawSet 6 _).p2.p2⟩
 case rest =>
 obtain ⟨rfl, rfl, rfl, rfl, rfl, hst⟩ := hcut
 clear H
 have H := Lib.hid hst
 clear hst
 obtain ⟨ac0, ac1, ac2, ac3, ac4, ac5, ac6, ac7, ac8, af0, af1, af2, af3, af4, af5, af6, af7, af8⟩ := raw9 (b := wA) (H.out.p3); obtain ⟨rc0, rc1, rc2, rc3, rc4, rc5, rc6, rf0, rf1, rf2, rf3, rf4, rf5, rf6⟩ := raw7 (b := wR) (H.out.p2); obtain ⟨p0, p1, p2, p3⟩ := raw_all4r (b := wV) (H.out); obtain ⟨q0, q1, q2, q3⟩ := raw_all4r (b := wK) (H.out.p1); have n1 : ¬ (wV = wR) := H.out.p1.drop.raw_ne; have n2 : ¬ (wK = wR) := H.out.drop.raw_ne; have n3 : ¬ (wR = wA) := H.out.drop.drop.raw_ne; have m1 : ¬ (wR = wV) := fun e => n1 e.symm; have m2 : ¬ (wR = wK) := fun e => n2 e.symm; have m3 : ¬ (wA = wR) := fun e => n3 e.symm
 go_wp2_with fail
 refine bodyPost_ret (v := .agg #[.int .i64 bt, .int .i64 bo, .bool kb.null, .string (bb kb.data), .bool vb.null, .string (bb vb.data), .slice qh l.length caph, .int .i64 0, .int .i64 0]) (by simp [results, Tryz.results69, go_sem, ac0, ac1, ac2, ac3, ac4, ac5, ac6, ac7, ac8]) rfl ⟨.slice qh l.length caph, rfl, (((((((((H.out.p3.rawSet 0 _).rawSet 1 _).rawSet 2 _).rawSet 3 _).rawSet 4 _).rawSet 5 _).rawSet 6 _).rawSet 7 _).rawSet 8 _).drop.drop.drop.drop⟩

end Go.Proofs.YtngojlinfdokpaaGreat
