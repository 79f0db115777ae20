/- A text. -/
import Derived.Test.YtngojlinfdokpaaGreatGScanFeeds1
import Derived.Test.YtngojlinfdokpaaGreatGScanFeeds7
import Derived.Test.YtngojlinfdokpaaGreatGScanFeeds6
import Derived.Test.YtngojlinfdokpaaGreatGScanFeeds4
import Derived.RegionTactic
import Derived.Deep.RegionHeld3
import Derived.Deep.DeepCutAuto
import Derived.ScopeJumps
/- A text. -/
namespace Go.Proofs.YtngojlinfdokpaaGreat
open Go.RowKit

theorem peek_nil {W0 w : World} {K : Know} {L : List Res} (h : St W0 w K L) : Calls Tryz.prog 40 #[.string ⟨#[]⟩] w fun en w' => en = .returned (.tuple #[.int .i64 0, .int .i64 0]) ∧ St W0 w' K L := prefix_peek [] 0 0 rfl (by decide) h
theorem peek_short {R : Bs} (h : R.length < 61) : peekS R = (0, 0) := by unfold peekS; rw [if_pos h]
theorem peek_err {R : Bs} {e : Int} (h : ¬ R.length < 61) (hp : rePre R = .error e) : peekS (R.take 61) = (0, e) := by
 unfold peekS
 rw [if_neg (by rw [List.length_take]; omega), rePre_take R (by omega), hp]
theorem peek_ok {R : Bs} {x : PreS} (h : ¬ R.length < 61) (hp : rePre R = .ok x) : peekS (R.take 61) = (x.len + 12, 0) := by
 unfold peekS
 rw [if_neg (by rw [List.length_take]; omega), rePre_take R (by omega), hp]
theorem reBat_take {R : Bs} {x : PreS} (hp : rePre R = .ok x) (h : 61 + (x.len - 49).toNat ≤ R.length) : reBat ((R.take (61 + (x.len - 49).toNat)).drop 0) = match asmB x (R.take 61) ((R.drop 61).take (x.len - 49).toNat) with | .error e => .error e | .ok b => .ok (b, 61 + (x.len - 49).toNat) := by
 rw [List.drop_zero]
 have hl : (R.take (61 + (x.len - 49).toNat)).length = 61 + (x.len - 49).toNat := by rw [List.length_take]; omega
 have hpp := rePre_app (R.take (61 + (x.len - 49).toNat)) (R.drop (61 + (x.len - 49).toNat)) (by rw [hl]; omega)
 rw [List.take_append_drop] at hpp
 unfold reBat
 rw [← hpp, hp]
 simp only
 rw [if_neg (by rw [hl]; omega), List.take_take, Nat.min_eq_left (by omega), List.drop_take, Nat.add_sub_cancel_left, List.take_take, Nat.min_self]
 cases asmB x (R.take 61) ((R.drop 61).take (x.len - 49).toNat) <;> rfl

set_option maxHeartbeats 4000000 in
set_option maxRecDepth 100000 in
theorem first_none {v0 : Value} {n0 : Nat} {s0 : Bs}  {W0 w : World} {K : Know} {L : List Res} (h : St W0 w K (.row v0 5 1 n0 (bvals s0) :: L)) :
  Calls Tryz.prog 20 #[.slice none 0 0] w fun en w' => en = .returned (.tuple #[.agg #[.int .i64 0, .int .i64 0, .bool false, .bool false, .bool false, .int .i64 0, .int .i64 0, .int .i64 0, .int .i64 0, .int .i64 0, .int .i64 0, .slice none 0 0], .int .i64 0, .int .i64 0]) ∧ St W0 w' K (.row v0 5 1 n0 (bvals s0) :: L) := by
 obtain ⟨rb, hrb⟩ : ∃ b, w.heap.size = b := ⟨_, rfl⟩
 have g1 := (h.allocRaw #[.int .i64 0, .int .i64 0, .bool false, .bool false, .bool false, .int .i64 0, .int .i64 0, .int .i64 0, .int .i64 0, .int .i64 0, .int .i64 0, .slice none 0 0] 43).p1
 rw [hrb] at g1
 have H := Lib.hid g1
 have hc0 := conv_nil0 (w.alloc (.cells #[.int .i64 0, .int .i64 0, .bool false, .bool false, .bool false, .int .i64 0, .int .i64 0, .int .i64 0, .int .i64 0, .int .i64 0, .int .i64 0, .slice none 0 0] 43 (0, 0)))
 clear g1
 clear h 
 go_enter Tryz.func20, Tryz.ntmps20
 go_wp2_with (go_at_call 40; (with_reducible refine (peek_nil H.out).mono ?_); rintro e_ wn ⟨rfl, h⟩; obtain ⟨x0, x1, x2, x3, x4, x5, x6, x7, x8, x9, x10, x11, y0, y1, y2, y3, y4, y5, y6, y7, y8, y9, y10, y11⟩ := raw12 (b := rb) (h.p1); replace H := Lib.hid h; clear h)
 have hz : St W0 _ _ (.raw rb #[.int .i64 0, .int .i64 0, .bool false, .bool false, .bool false, .int .i64 0, .int .i64 0, .int .i64 0, .int .i64 0, .int .i64 0, .int .i64 0, .slice none 0 0] 43 :: _) := St.sets12 _ _ _ _ _ _ _ _ _ _ _ _ (H.out.p1)
 refine bodyPost_ret (rc_cell_tmp3S rfl _ _ rb [.int .i64 0, .int .i64 0, .bool false, .bool false, .bool false, .int .i64 0, .int .i64 0, .int .i64 0, .int .i64 0, .int .i64 0, .int .i64 0, .slice none 0 0] _ rfl (rc_range hz) Tryz.underlying43 rfl (by kernel_rfl)) rfl ?_
 exact ⟨rfl, hz.drop⟩

set_option maxHeartbeats 4000000 in
set_option maxRecDepth 100000 in
theorem first_short {v0 : Value} {n0 : Nat} {s0 : Bs} (ad : Addr) (m c : Nat) (R : Bs) (hm : m = R.length) (hmc : m ≤ c) (hr : R.length ≤ 1000000) (hcv : ∀ (W0 w : World) (K : Know) (L : List Res), St W0 w K (.row v0 5 1 n0 (bvals s0) :: L) → ∀ k, k ≤ m → ∀ c', (convert 22 9 (.slice (some ad) k c')).run Tryz.prog w = .ok (.string (bb (R.take k))) w) (h61 : R.length < 61) {W0 w : World} {K : Know} {L : List Res} (h : St W0 w K (.row v0 5 1 n0 (bvals s0) :: L)) :
  Calls Tryz.prog 20 #[.slice (some ad) m c] w fun en w' => en = .returned (.tuple #[.agg #[.int .i64 0, .int .i64 0, .bool false, .bool false, .bool false, .int .i64 0, .int .i64 0, .int .i64 0, .int .i64 0, .int .i64 0, .int .i64 0, .slice none 0 0], .int .i64 0, .int .i64 0]) ∧ St W0 w' K (.row v0 5 1 n0 (bvals s0) :: L) := by
 obtain ⟨rb, hrb⟩ : ∃ b, w.heap.size = b := ⟨_, rfl⟩
 have g1 := (h.allocRaw #[.int .i64 0, .int .i64 0, .bool false, .bool false, .bool false, .int .i64 0, .int .i64 0, .int .i64 0, .int .i64 0, .int .i64 0, .int .i64 0, .slice none 0 0] 43).p1
 rw [hrb] at g1
 have H := Lib.hid g1
 have hmi : (m : Int) ≤ 1000000 := by omega
 have hmci : (m : Int) ≤ (c : Int) := by omega
 have HCVH := Lib.hid hcv
 have hmin : min (m : Int) 61 = (m : Int) := by omega
 have hcw := hcv _ _ _ _ g1 m (Nat.le_refl _)
 have ht : R.take m = R := List.take_of_length_le (by omega)
 rw [ht] at hcw
 have HP := Lib.hid (peek_short h61)
 have HL := Lib.hid (show R.length ≤ 140737488355328 by omega)
 clear g1 ht h61
 clear h  hcv hm hr
 go_enter Tryz.func20, Tryz.ntmps20
 go_wp2_with (go_at_call 40; (with_reducible refine (prefix_peek R 0 0 HP.out HL.out H.out).mono ?_); rintro e_ wn ⟨rfl, h⟩; obtain ⟨x0, x1, x2, x3, x4, x5, x6, x7, x8, x9, x10, x11, y0, y1, y2, y3, y4, y5, y6, y7, y8, y9, y10, y11⟩ := raw12 (b := rb) (h.p1); replace H := Lib.hid h; clear h)
 have hz : St W0 _ _ (.raw rb #[.int .i64 0, .int .i64 0, .bool false, .bool false, .bool false, .int .i64 0, .int .i64 0, .int .i64 0, .int .i64 0, .int .i64 0, .int .i64 0, .slice none 0 0] 43 :: _) := St.sets12 _ _ _ _ _ _ _ _ _ _ _ _ (H.out.p1)
 refine bodyPost_ret (rc_cell_tmp3S rfl _ _ rb [.int .i64 0, .int .i64 0, .bool false, .bool false, .bool false, .int .i64 0, .int .i64 0, .int .i64 0, .int .i64 0, .int .i64 0, .int .i64 0, .slice none 0 0] _ rfl (rc_range hz) Tryz.underlying43 rfl (by kernel_rfl)) rfl ?_
 exact ⟨rfl, hz.drop⟩

set_option maxHeartbeats 4000000 in
set_option maxRecDepth 100000 in
theorem first_pre {v0 : Value} {n0 : Nat} {s0 : Bs} (ad : Addr) (m c : Nat) (R : Bs) (hm : m = R.length) (hmc : m ≤ c) (hr : R.length ≤ 1000000) (hcv : ∀ (W0 w : World) (K : Know) (L : List Res), St W0 w K (.row v0 5 1 n0 (bvals s0) :: L) → ∀ k, k ≤ m → ∀ c', (convert 22 9 (.slice (some ad) k c')).run Tryz.prog w = .ok (.string (bb (R.take k))) w) (h61 : ¬ R.length < 61) (e : Int) (hp : rePre R = .error e) {W0 w : World} {K : Know} {L : List Res} (h : St W0 w K (.row v0 5 1 n0 (bvals s0) :: L)) :
   Calls Tryz.prog 20 #[.slice (some ad) m c] w fun en w' => en = .returned (.tuple #[.agg #[.int .i64 0, .int .i64 0, .bool false, .bool false, .bool false, .int .i64 0, .int .i64 0, .int .i64 0, .int .i64 0, .int .i64 0, .int .i64 0, .slice none 0 0], .int .i64 0, .int .i64 e]) ∧ St W0 w' K (.row v0 5 1 n0 (bvals s0) :: L) := by
 obtain ⟨rb, hrb⟩ : ∃ b, w.heap.size = b := ⟨_, rfl⟩
 have g1 := (h.allocRaw #[.int .i64 0, .int .i64 0, .bool false, .bool false, .bool false, .int .i64 0, .int .i64 0, .int .i64 0, .int .i64 0, .int .i64 0, .int .i64 0, .slice none 0 0] 43).p1
 rw [hrb] at g1
 have H := Lib.hid g1
 have hmi : (m : Int) ≤ 1000000 := by omega
 have hmci : (m : Int) ≤ (c : Int) := by omega
 have HCVH := Lib.hid hcv
 have hm61 : (61 : Int) ≤ (m : Int) := by omega
 have HL := Lib.hid (show (R.take 61).length ≤ 140737488355328 by rw [List.length_take]; omega)
 have HP := Lib.hid (peek_err h61 hp)
 have h0 := rePre_err hp
 have g1e : (e == 0) = false := by rw [beq_eq_false_iff_ne]; exact h0
 have g2e : (e != 0) = true := by simp [bne, g1e]
 clear hp h0
 by_cases hA : m ≤ 61
 · skip
   have hAi : (m : Int) ≤ 61 := by omega
   have hcw := hcv _ _ _ _ g1 m (Nat.le_refl _)
   rw [show R.take m = R.take 61 by rw [show m = 61 by omega]] at hcw
   clear g1 hA h  hcv hm hr
   go_enter Tryz.func20, Tryz.ntmps20
   go_wp2_with (go_at_call 40; (with_reducible refine (prefix_peek (R.take 61) 0 e HP.out HL.out H.out).mono ?_); rintro e_ wn ⟨rfl, h⟩; obtain ⟨x0, x1, x2, x3, x4, x5, x6, x7, x8, x9, x10, x11, y0, y1, y2, y3, y4, y5, y6, y7, y8, y9, y10, y11⟩ := raw12 (b := rb) (h.p1); replace H := Lib.hid h; clear h)
   have hz : St W0 _ _ (.raw rb #[.int .i64 0, .int .i64 0, .bool false, .bool false, .bool false, .int .i64 0, .int .i64 0, .int .i64 0, .int .i64 0, .int .i64 0, .int .i64 0, .slice none 0 0] 43 :: _) := St.sets12 _ _ _ _ _ _ _ _ _ _ _ _ (H.out.p1)
   refine bodyPost_ret (rc_cell_tmp3S rfl _ _ rb [.int .i64 0, .int .i64 0, .bool false, .bool false, .bool false, .int .i64 0, .int .i64 0, .int .i64 0, .int .i64 0, .int .i64 0, .int .i64 0, .slice none 0 0] _ rfl (rc_range hz) Tryz.underlying43 rfl (by kernel_rfl)) rfl ?_
   exact ⟨rfl, hz.drop⟩
 · skip
   have hAi : ¬ (m : Int) ≤ 61 := by omega
   have hcw := hcv _ _ _ _ g1 61 (by omega)
   clear g1 hA h  hcv hm hr
   go_enter Tryz.func20, Tryz.ntmps20
   go_wp2_with (go_at_call 40; (with_reducible refine (prefix_peek (R.take 61) 0 e HP.out HL.out H.out).mono ?_); rintro e_ wn ⟨rfl, h⟩; obtain ⟨x0, x1, x2, x3, x4, x5, x6, x7, x8, x9, x10, x11, y0, y1, y2, y3, y4, y5, y6, y7, y8, y9, y10, y11⟩ := raw12 (b := rb) (h.p1); replace H := Lib.hid h; clear h)
   have hz : St W0 _ _ (.raw rb #[.int .i64 0, .int .i64 0, .bool false, .bool false, .bool false, .int .i64 0, .int .i64 0, .int .i64 0, .int .i64 0, .int .i64 0, .int .i64 0, .slice none 0 0] 43 :: _) := St.sets12 _ _ _ _ _ _ _ _ _ _ _ _ (H.out.p1)
   refine bodyPost_ret (rc_cell_tmp3S rfl _ _ rb [.int .i64 0, .int .i64 0, .bool false, .bool false, .bool false, .int .i64 0, .int .i64 0, .int .i64 0, .int .i64 0, .int .i64 0, .int .i64 0, .slice none 0 0] _ rfl (rc_range hz) Tryz.underlying43 rfl (by kernel_rfl)) rfl ?_
   exact ⟨rfl, hz.drop⟩

set_option maxHeartbeats 4000000 in
set_option maxRecDepth 100000 in
theorem first_torn {v0 : Value} {n0 : Nat} {s0 : Bs} (ad : Addr) (m c : Nat) (R : Bs) (hm : m = R.length) (hmc : m ≤ c) (hr : R.length ≤ 1000000) (hcv : ∀ (W0 w : World) (K : Know) (L : List Res), St W0 w K (.row v0 5 1 n0 (bvals s0) :: L) → ∀ k, k ≤ m → ∀ c', (convert 22 9 (.slice (some ad) k c')).run Tryz.prog w = .ok (.string (bb (R.take k))) w) (h61 : ¬ R.length < 61) (x : PreS) (hp : rePre R = .ok x) (ht : R.length < 61 + (x.len - 49).toNat) {W0 w : World} {K : Know} {L : List Res} (h : St W0 w K (.row v0 5 1 n0 (bvals s0) :: L)) :
   Calls Tryz.prog 20 #[.slice (some ad) m c] w fun en w' => en = .returned (.tuple #[.agg #[.int .i64 0, .int .i64 0, .bool false, .bool false, .bool false, .int .i64 0, .int .i64 0, .int .i64 0, .int .i64 0, .int .i64 0, .int .i64 0, .slice none 0 0], .int .i64 0, .int .i64 0]) ∧ St W0 w' K (.row v0 5 1 n0 (bvals s0) :: L) := by
 obtain ⟨rb, hrb⟩ : ∃ b, w.heap.size = b := ⟨_, rfl⟩
 have g1 := (h.allocRaw #[.int .i64 0, .int .i64 0, .bool false, .bool false, .bool false, .int .i64 0, .int .i64 0, .int .i64 0, .int .i64 0, .int .i64 0, .int .i64 0, .slice none 0 0] 43).p1
 rw [hrb] at g1
 have H := Lib.hid g1
 have hmi : (m : Int) ≤ 1000000 := by omega
 have hmci : (m : Int) ≤ (c : Int) := by omega
 have HCVH := Lib.hid hcv
 have hm61 : (61 : Int) ≤ (m : Int) := by omega
 have HL := Lib.hid (show (R.take 61).length ≤ 140737488355328 by rw [List.length_take]; omega)
 have hpl := (rePre_ok hp).2.2.2.1
 obtain ⟨nl, hnl⟩ : ∃ nl, x.len + 12 = nl := ⟨_, rfl⟩
 have HP := Lib.hid (peek_ok h61 hp)
 rw [hnl] at HP
 have hlt : (m : Int) < nl := by omega
 clear hp ht hpl hnl
 by_cases hA : m ≤ 61
 · skip
   have hAi : (m : Int) ≤ 61 := by omega
   have hcw := hcv _ _ _ _ g1 m (Nat.le_refl _)
   rw [show R.take m = R.take 61 by rw [show m = 61 by omega]] at hcw
   clear g1 hA h  hcv hm hr
   go_enter Tryz.func20, Tryz.ntmps20
   go_wp2_with (go_at_call 40; (with_reducible refine (prefix_peek (R.take 61) nl 0 HP.out HL.out H.out).mono ?_); rintro e_ wn ⟨rfl, h⟩; obtain ⟨x0, x1, x2, x3, x4, x5, x6, x7, x8, x9, x10, x11, y0, y1, y2, y3, y4, y5, y6, y7, y8, y9, y10, y11⟩ := raw12 (b := rb) (h.p1); replace H := Lib.hid h; clear h)
   have hz : St W0 _ _ (.raw rb #[.int .i64 0, .int .i64 0, .bool false, .bool false, .bool false, .int .i64 0, .int .i64 0, .int .i64 0, .int .i64 0, .int .i64 0, .int .i64 0, .slice none 0 0] 43 :: _) := St.sets12 _ _ _ _ _ _ _ _ _ _ _ _ (H.out.p1)
   refine bodyPost_ret (rc_cell_tmp3S rfl _ _ rb [.int .i64 0, .int .i64 0, .bool false, .bool false, .bool false, .int .i64 0, .int .i64 0, .int .i64 0, .int .i64 0, .int .i64 0, .int .i64 0, .slice none 0 0] _ rfl (rc_range hz) Tryz.underlying43 rfl (by kernel_rfl)) rfl ?_
   exact ⟨rfl, hz.drop⟩
 · skip
   have hAi : ¬ (m : Int) ≤ 61 := by omega
   have hcw := hcv _ _ _ _ g1 61 (by omega)
   clear g1 hA h  hcv hm hr
   go_enter Tryz.func20, Tryz.ntmps20
   go_wp2_with (go_at_call 40; (with_reducible refine (prefix_peek (R.take 61) nl 0 HP.out HL.out H.out).mono ?_); rintro e_ wn ⟨rfl, h⟩; obtain ⟨x0, x1, x2, x3, x4, x5, x6, x7, x8, x9, x10, x11, y0, y1, y2, y3, y4, y5, y6, y7, y8, y9, y10, y11⟩ := raw12 (b := rb) (h.p1); replace H := Lib.hid h; clear h)
   have hz : St W0 _ _ (.raw rb #[.int .i64 0, .int .i64 0, .bool false, .bool false, .bool false, .int .i64 0, .int .i64 0, .int .i64 0, .int .i64 0, .int .i64 0, .int .i64 0, .slice none 0 0] 43 :: _) := St.sets12 _ _ _ _ _ _ _ _ _ _ _ _ (H.out.p1)
   refine bodyPost_ret (rc_cell_tmp3S rfl _ _ rb [.int .i64 0, .int .i64 0, .bool false, .bool false, .bool false, .int .i64 0, .int .i64 0, .int .i64 0, .int .i64 0, .int .i64 0, .int .i64 0, .slice none 0 0] _ rfl (rc_range hz) Tryz.underlying43 rfl (by kernel_rfl)) rfl ?_
   exact ⟨rfl, hz.drop⟩
set_option maxHeartbeats 4000000 in
set_option maxRecDepth 100000 in
theorem first_good {v0 : Value} {n0 : Nat} {s0 : Bs} (ad : Addr) (m c : Nat) (R : Bs) (hm : m = R.length) (hmc : m ≤ c) (hr : R.length ≤ 1000000) (hcv : ∀ (W0 w : World) (K : Know) (L : List Res), St W0 w K (.row v0 5 1 n0 (bvals s0) :: L) → ∀ k, k ≤ m → ∀ c', (convert 22 9 (.slice (some ad) k c')).run Tryz.prog w = .ok (.string (bb (R.take k))) w) (h61 : ¬ R.length < 61) (x : PreS) (hp : rePre R = .ok x) (nn : Nat) (hnn : nn = 61 + (x.len - 49).toNat) (ht : nn ≤ R.length) (b : BatS) (hrb : reBat ((R.take nn).drop 0) = .ok (b, nn)) {W0 w : World} {K : Know} {L : List Res} (h : St W0 w K (.row v0 5 1 n0 (bvals s0) :: L)) :
   Calls Tryz.prog 20 #[.slice (some ad) m c] w fun en w' => ∃ (q : Option Addr) (l : List (RecS × Value)) (cap2 : Nat), en = .returned (.tuple #[.agg #[.int .i64 b.base, .int .i64 b.leader, .bool b.app, .bool b.txn, .bool b.ctl, .int .i64 b.last, .int .i64 b.first, .int .i64 b.maxt, .int .i64 b.prod, .int .i64 b.epoch, .int .i64 b.seq, .slice q l.length cap2], .int .i64 nn, .int .i64 0]) ∧ l.map (·.1) = b.recs ∧ St W0 w' (K.and (Know.recs (.slice q l.length cap2) l)) (.row v0 5 1 n0 (bvals s0) :: L) := by
 obtain ⟨rb, hrb0⟩ : ∃ b, w.heap.size = b := ⟨_, rfl⟩
 have g1 := (h.allocRaw #[.int .i64 0, .int .i64 0, .bool false, .bool false, .bool false, .int .i64 0, .int .i64 0, .int .i64 0, .int .i64 0, .int .i64 0, .int .i64 0, .slice none 0 0] 43).p1
 rw [hrb0] at g1
 have H := Lib.hid g1
 have hmi : (m : Int) ≤ 1000000 := by omega
 have hmci : (m : Int) ≤ (c : Int) := by omega
 have HCVH := Lib.hid hcv
 have hm61 : (61 : Int) ≤ (m : Int) := by omega
 have HL := Lib.hid (show (R.take 61).length ≤ 140737488355328 by rw [List.length_take]; omega)
 have hpl := (rePre_ok hp).2.2.2.1
 have hnl : x.len + 12 = (nn : Int) := by omega
 have HP := Lib.hid (peek_ok h61 hp)
 rw [hnl] at HP
 have hlt : ¬ (m : Int) < (nn : Int) := by omega
 have hle : (nn : Int) ≤ (m : Int) := by omega
 have hn61 : (61 : Int) ≤ (nn : Int) := by omega
 have g0n : ((nn : Int) == 0) = false := by rw [beq_eq_false_iff_ne]; omega
 have g0m : ((nn : Int) != 0) = true := by simp [bne, g0n]
 have hnm : nn ≤ m := by omega
 have HNM := Lib.hid hnm
 have HT := Lib.hid (show (R.take nn).length ≤ 1000000 by rw [List.length_take]; omega)
 have HT2 := Lib.hid (show (R.take nn).length ≤ 140737488355328 by rw [List.length_take]; omega)
 have HRB := Lib.hid hrb
 clear hp hpl hnl ht hnm hrb
 by_cases hA : m ≤ 61
 · skip
   have hAi : (m : Int) ≤ 61 := by omega
   have hcw := hcv _ _ _ _ g1 m (Nat.le_refl _)
   rw [show R.take m = R.take 61 by rw [show m = 61 by omega]] at hcw
   clear g1 hA h hnn h61 hcv hm hr
   go_enter Tryz.func20, Tryz.ntmps20
   go_wp2_with (first
     | (go_at_call 40; (with_reducible refine (prefix_peek (R.take 61) nn 0 HP.out HL.out H.out).mono ?_); rintro e_ wn ⟨rfl, h⟩; have hcx := HCVH.out _ _ _ _ h nn HNM.out; replace H := Lib.hid h; clear h)
     | (go_at_call 41; (with_reducible refine (s_new (R.take nn) HT2.out H.out).mono ?_); rintro e_ wn ⟨bi, rfl, h⟩; replace H := Lib.hid h; clear h)
     | (go_at_call 42; (with_reducible refine (bat_read_good bi (R.take nn) 0 HT.out (Nat.zero_le _) b nn HRB.out H.out).mono ?_); rintro e_ wn ⟨q, l, cap2, rfl, hlr, h⟩; have HLR := Lib.hid hlr; clear hlr; obtain ⟨xb, hxb⟩ : ∃ b, wn.heap.size = b := ⟨_, rfl⟩; have h := h.allocRaw #[.int .i64 b.base, .int .i64 b.leader, .bool b.app, .bool b.txn, .bool b.ctl, .int .i64 b.last, .int .i64 b.first, .int .i64 b.maxt, .int .i64 b.prod, .int .i64 b.epoch, .int .i64 b.seq, .slice q l.length cap2] 43; rw [hxb] at h; replace H := Lib.hid h; clear h))
   have hs := H.out.drew
   refine wp_region_held_drew (S := fun w' => w'.cell? ⟨xb, 0, none⟩ = some (.int .i64 b.base) ∧ w'.cell? ⟨xb, 1, none⟩ = some (.int .i64 b.leader) ∧ w'.cell? ⟨xb, 2, none⟩ = some (.bool b.app) ∧ w'.cell? ⟨xb, 3, none⟩ = some (.bool b.txn) ∧ w'.cell? ⟨xb, 4, none⟩ = some (.bool b.ctl) ∧ w'.cell? ⟨xb, 5, none⟩ = some (.int .i64 b.last) ∧ w'.cell? ⟨xb, 6, none⟩ = some (.int .i64 b.first) ∧ w'.cell? ⟨xb, 7, none⟩ = some (.int .i64 b.maxt) ∧ w'.cell? ⟨xb, 8, none⟩ = some (.int .i64 b.prod) ∧ w'.cell? ⟨xb, 9, none⟩ = some (.int .i64 b.epoch) ∧ w'.cell? ⟨xb, 10, none⟩ = some (.int .i64 b.seq) ∧ w'.cell? ⟨xb, 11, none⟩ = some (.slice q l.length cap2)) (by kernel_rfl) (let ⟨x0, x1, x2, x3, x4, x5, x6, x7, x8, x9, x10, x11, _⟩ := raw12 (b := xb) (hs); ⟨x0, x1, x2, x3, x4, x5, x6, x7, x8, x9, x10, x11⟩) (fun hHeld => ?_)
   refine tQ 0 ⟨some 42, .load 43 (.tmp 9), 43, "scan.go:70", #[], none⟩ ?_; simp only [Act.put, sA, sB, sC]
   refine tQ 1 ⟨some 43, .move (.tmp 6), 3, "scan.go:70", #[{ on := 4, ground := Ground.gcOnly Departure.lateStores }], none⟩ ?_; simp only [Act.put, sA, sB, sC]
   refine tQ 2 ⟨some 44, .move (.tmp 8), 94, "scan.go:70", #[], none⟩ ?_; simp only [Act.put, sA, sB, sC]
   refine wpAnyH_ready (rs := [3]) (by kernel_rfl) (by simp) (AllReadyH.cons (o := ⟨some 45, .call { callee := .value (.func 43), args := #[.tmp 44], argTypes := #[94] }, 34, "scan.go:70", #[.mk 2 .data], none⟩) rfl (fun KK hK => ?_) AllReadyH.nil)
   · go_simp
     go_at_call 43
     with_reducible refine (s_errS bi _ 0 rfl hs.p1).mono ?_
     rintro e wq ⟨rfl, hs⟩
     refine hK.out _ _ (let ⟨x0, x1, x2, x3, x4, x5, x6, x7, x8, x9, x10, x11, _⟩ := raw12 (b := xb) (hs.p1); ⟨x0, x1, x2, x3, x4, x5, x6, x7, x8, x9, x10, x11⟩) (fun hHeld => ?_)
     clear hK KK
     try simp only [Act.put, sA, sB, sC]
     refine wpAnyH_ready (rs := [4]) (by kernel_rfl) (by simp) (AllReadyH.cons (o := ⟨none, .store 43 (.tmp 2) (.tmp 42), 0, "scan.go:70", #[.mk 0 .data, .mk 3 .chain, .mk 0 .phase, { on := 1, ground := Ground.textOnly Departure.lateStores }, { on := 2, ground := Ground.textOnly Departure.lateStores }, { on := 3, ground := Ground.textOnly Departure.lateStoresUnsure }], none⟩) rfl (fun KK hK => ?_) AllReadyH.nil)
     · have hs := hs.p3
       rw [if_pos (by rfl)]
       refine wp_store_mid 43 (.tmp 2) (.tmp 42) rfl rb 0 #[.int .i64 b.base, .int .i64 b.leader, .bool b.app, .bool b.txn, .bool b.ctl, .int .i64 b.last, .int .i64 b.first, .int .i64 b.maxt, .int .i64 b.prod, .int .i64 b.epoch, .int .i64 b.seq, .slice q l.length cap2] (by rfl) (by rfl) hs.there (by kernel_rfl) (by simp [Value.oneCell']) ?_
       obtain ⟨wz, ez, hs⟩ := hs.storeEx #[.int .i64 b.base, .int .i64 b.leader, .bool b.app, .bool b.txn, .bool b.ctl, .int .i64 b.last, .int .i64 b.first, .int .i64 b.maxt, .int .i64 b.prod, .int .i64 b.epoch, .int .i64 b.seq, .slice q l.length cap2]
       rw [ez]
       clear ez
       rw [setAll_allV] at hs
       rotate_left
       · rfl
       refine hK.out _ _ (let ⟨x0, x1, x2, x3, x4, x5, x6, x7, x8, x9, x10, x11, _⟩ := raw12 (b := xb) (hs.p2); ⟨x0, x1, x2, x3, x4, x5, x6, x7, x8, x9, x10, x11⟩) (fun hHeld => ?_)
       clear hK KK
       try simp only [Act.put, sA, sB, sC]
       refine tQ 5 ⟨some 3, .assign (.tmp 43), 3, "scan.go:70", #[.mk 1 .data, .mk 4 .chain, .mk 0 .phase, .mk 1 .phase, { on := 2, ground := Ground.textOnly Departure.lateStores }, { on := 3, ground := Ground.textOnly Departure.lateStoresUnsure }, .mk 4 .phase], none⟩ ?_; simp only [Act.put, sA, sB, sC]
       refine tQ 6 ⟨some 4, .assign (.tmp 45), 34, "scan.go:70", #[.mk 3 .data, .mk 5 .chain, .mk 0 .phase, .mk 1 .phase, .mk 2 .phase, .mk 3 .phase, .mk 4 .phase, .mk 5 .phase], none⟩ ?_; simp only [Act.put, sA, sB, sC]
       refine wpAnyH_done (by kernel_rfl) ?_ _
       clear hHeld
       go_wp2_with fail
       refine bodyPost_ret (rc_cell_tmp3S rfl _ _ rb [.int .i64 b.base, .int .i64 b.leader, .bool b.app, .bool b.txn, .bool b.ctl, .int .i64 b.last, .int .i64 b.first, .int .i64 b.maxt, .int .i64 b.prod, .int .i64 b.epoch, .int .i64 b.seq, .slice q l.length cap2] _ rfl (rc_range hs) Tryz.underlying43 rfl (by kernel_rfl)) rfl ?_
       exact ⟨q, l, cap2, rfl, HLR.out, hs.drop.drop.drop⟩
 · skip
   have hAi : ¬ (m : Int) ≤ 61 := by omega
   have hcw := hcv _ _ _ _ g1 61 (by omega)
   clear g1 hA h hnn h61 hcv hm hr
   go_enter Tryz.func20, Tryz.ntmps20
   go_wp2_with (first
     | (go_at_call 40; (with_reducible refine (prefix_peek (R.take 61) nn 0 HP.out HL.out H.out).mono ?_); rintro e_ wn ⟨rfl, h⟩; have hcx := HCVH.out _ _ _ _ h nn HNM.out; replace H := Lib.hid h; clear h)
     | (go_at_call 41; (with_reducible refine (s_new (R.take nn) HT2.out H.out).mono ?_); rintro e_ wn ⟨bi, rfl, h⟩; replace H := Lib.hid h; clear h)
     | (go_at_call 42; (with_reducible refine (bat_read_good bi (R.take nn) 0 HT.out (Nat.zero_le _) b nn HRB.out H.out).mono ?_); rintro e_ wn ⟨q, l, cap2, rfl, hlr, h⟩; have HLR := Lib.hid hlr; clear hlr; obtain ⟨xb, hxb⟩ : ∃ b, wn.heap.size = b := ⟨_, rfl⟩; have h := h.allocRaw #[.int .i64 b.base, .int .i64 b.leader, .bool b.app, .bool b.txn, .bool b.ctl, .int .i64 b.last, .int .i64 b.first, .int .i64 b.maxt, .int .i64 b.prod, .int .i64 b.epoch, .int .i64 b.seq, .slice q l.length cap2] 43; rw [hxb] at h; replace H := Lib.hid h; clear h))
   have hs := H.out.drew
   refine wp_region_held_drew (S := fun w' => w'.cell? ⟨xb, 0, none⟩ = some (.int .i64 b.base) ∧ w'.cell? ⟨xb, 1, none⟩ = some (.int .i64 b.leader) ∧ w'.cell? ⟨xb, 2, none⟩ = some (.bool b.app) ∧ w'.cell? ⟨xb, 3, none⟩ = some (.bool b.txn) ∧ w'.cell? ⟨xb, 4, none⟩ = some (.bool b.ctl) ∧ w'.cell? ⟨xb, 5, none⟩ = some (.int .i64 b.last) ∧ w'.cell? ⟨xb, 6, none⟩ = some (.int .i64 b.first) ∧ w'.cell? ⟨xb, 7, none⟩ = some (.int .i64 b.maxt) ∧ w'.cell? ⟨xb, 8, none⟩ = some (.int .i64 b.prod) ∧ w'.cell? ⟨xb, 9, none⟩ = some (.int .i64 b.epoch) ∧ w'.cell? ⟨xb, 10, none⟩ = some (.int .i64 b.seq) ∧ w'.cell? ⟨xb, 11, none⟩ = some (.slice q l.length cap2)) (by kernel_rfl) (let ⟨x0, x1, x2, x3, x4, x5, x6, x7, x8, x9, x10, x11, _⟩ := raw12 (b := xb) (hs); ⟨x0, x1, x2, x3, x4, x5, x6, x7, x8, x9, x10, x11⟩) (fun hHeld => ?_)
   refine tQ 0 ⟨some 42, .load 43 (.tmp 9), 43, "scan.go:70", #[], none⟩ ?_; simp only [Act.put, sA, sB, sC]
   refine tQ 1 ⟨some 43, .move (.tmp 6), 3, "scan.go:70", #[{ on := 4, ground := Ground.gcOnly Departure.lateStores }], none⟩ ?_; simp only [Act.put, sA, sB, sC]
   refine tQ 2 ⟨some 44, .move (.tmp 8), 94, "scan.go:70", #[], none⟩ ?_; simp only [Act.put, sA, sB, sC]
   refine wpAnyH_ready (rs := [3]) (by kernel_rfl) (by simp) (AllReadyH.cons (o := ⟨some 45, .call { callee := .value (.func 43), args := #[.tmp 44], argTypes := #[94] }, 34, "scan.go:70", #[.mk 2 .data], none⟩) rfl (fun KK hK => ?_) AllReadyH.nil)
   · go_simp
     go_at_call 43
     with_reducible refine (s_errS bi _ 0 rfl hs.p1).mono ?_
     rintro e wq ⟨rfl, hs⟩
     refine hK.out _ _ (let ⟨x0, x1, x2, x3, x4, x5, x6, x7, x8, x9, x10, x11, _⟩ := raw12 (b := xb) (hs.p1); ⟨x0, x1, x2, x3, x4, x5, x6, x7, x8, x9, x10, x11⟩) (fun hHeld => ?_)
     clear hK KK
     try simp only [Act.put, sA, sB, sC]
     refine wpAnyH_ready (rs := [4]) (by kernel_rfl) (by simp) (AllReadyH.cons (o := ⟨none, .store 43 (.tmp 2) (.tmp 42), 0, "scan.go:70", #[.mk 0 .data, .mk 3 .chain, .mk 0 .phase, { on := 1, ground := Ground.textOnly Departure.lateStores }, { on := 2, ground := Ground.textOnly Departure.lateStores }, { on := 3, ground := Ground.textOnly Departure.lateStoresUnsure }], none⟩) rfl (fun KK hK => ?_) AllReadyH.nil)
     · have hs := hs.p3
       rw [if_pos (by rfl)]
       refine wp_store_mid 43 (.tmp 2) (.tmp 42) rfl rb 0 #[.int .i64 b.base, .int .i64 b.leader, .bool b.app, .bool b.txn, .bool b.ctl, .int .i64 b.last, .int .i64 b.first, .int .i64 b.maxt, .int .i64 b.prod, .int .i64 b.epoch, .int .i64 b.seq, .slice q l.length cap2] (by rfl) (by rfl) hs.there (by kernel_rfl) (by simp [Value.oneCell']) ?_
       obtain ⟨wz, ez, hs⟩ := hs.storeEx #[.int .i64 b.base, .int .i64 b.leader, .bool b.app, .bool b.txn, .bool b.ctl, .int .i64 b.last, .int .i64 b.first, .int .i64 b.maxt, .int .i64 b.prod, .int .i64 b.epoch, .int .i64 b.seq, .slice q l.length cap2]
       rw [ez]
       clear ez
       rw [setAll_allV] at hs
       rotate_left
       · rfl
       refine hK.out _ _ (let ⟨x0, x1, x2, x3, x4, x5, x6, x7, x8, x9, x10, x11, _⟩ := raw12 (b := xb) (hs.p2); ⟨x0, x1, x2, x3, x4, x5, x6, x7, x8, x9, x10, x11⟩) (fun hHeld => ?_)
       clear hK KK
       try simp only [Act.put, sA, sB, sC]
       refine tQ 5 ⟨some 3, .assign (.tmp 43), 3, "scan.go:70", #[.mk 1 .data, .mk 4 .chain, .mk 0 .phase, .mk 1 .phase, { on := 2, ground := Ground.textOnly Departure.lateStores }, { on := 3, ground := Ground.textOnly Departure.lateStoresUnsure }, .mk 4 .phase], none⟩ ?_; simp only [Act.put, sA, sB, sC]
       refine tQ 6 ⟨some 4, .assign (.tmp 45), 34, "scan.go:70", #[.mk 3 .data, .mk 5 .chain, .mk 0 .phase, .mk 1 .phase, .mk 2 .phase, .mk 3 .phase, .mk 4 .phase, .mk 5 .phase], none⟩ ?_; simp only [Act.put, sA, sB, sC]
       refine wpAnyH_done (by kernel_rfl) ?_ _
       clear hHeld
       go_wp2_with fail
       refine bodyPost_ret (rc_cell_tmp3S rfl _ _ rb [.int .i64 b.base, .int .i64 b.leader, .bool b.app, .bool b.txn, .bool b.ctl, .int .i64 b.last, .int .i64 b.first, .int .i64 b.maxt, .int .i64 b.prod, .int .i64 b.epoch, .int .i64 b.seq, .slice q l.length cap2] _ rfl (rc_range hs) Tryz.underlying43 rfl (by kernel_rfl)) rfl ?_
       exact ⟨q, l, cap2, rfl, HLR.out, hs.drop.drop.drop⟩

set_option maxHeartbeats 4000000 in
set_option maxRecDepth 100000 in
theorem first_bad {v0 : Value} {n0 : Nat} {s0 : Bs} (ad : Addr) (m c : Nat) (R : Bs) (hm : m = R.length) (hmc : m ≤ c) (hr : R.length ≤ 1000000) (hcv : ∀ (W0 w : World) (K : Know) (L : List Res), St W0 w K (.row v0 5 1 n0 (bvals s0) :: L) → ∀ k, k ≤ m → ∀ c', (convert 22 9 (.slice (some ad) k c')).run Tryz.prog w = .ok (.string (bb (R.take k))) w) (h61 : ¬ R.length < 61) (x : PreS) (hp : rePre R = .ok x) (nn : Nat) (hnn : nn = 61 + (x.len - 49).toNat) (ht : nn ≤ R.length) (e : Int) (hrb : reBat ((R.take nn).drop 0) = .error e) {W0 w : World} {K : Know} {L : List Res} (h : St W0 w K (.row v0 5 1 n0 (bvals s0) :: L)) :
   Calls Tryz.prog 20 #[.slice (some ad) m c] w fun en w' => en = .returned (.tuple #[.agg #[.int .i64 0, .int .i64 0, .bool false, .bool false, .bool false, .int .i64 0, .int .i64 0, .int .i64 0, .int .i64 0, .int .i64 0, .int .i64 0, .slice none 0 0], .int .i64 nn, .int .i64 e]) ∧ St W0 w' K (.row v0 5 1 n0 (bvals s0) :: L) := by
 obtain ⟨rb, hrb0⟩ : ∃ b, w.heap.size = b := ⟨_, rfl⟩
 have g1 := (h.allocRaw #[.int .i64 0, .int .i64 0, .bool false, .bool false, .bool false, .int .i64 0, .int .i64 0, .int .i64 0, .int .i64 0, .int .i64 0, .int .i64 0, .slice none 0 0] 43).p1
 rw [hrb0] at g1
 have H := Lib.hid g1
 have hmi : (m : Int) ≤ 1000000 := by omega
 have hmci : (m : Int) ≤ (c : Int) := by omega
 have HCVH := Lib.hid hcv
 have hm61 : (61 : Int) ≤ (m : Int) := by omega
 have HL := Lib.hid (show (R.take 61).length ≤ 140737488355328 by rw [List.length_take]; omega)
 have hpl := (rePre_ok hp).2.2.2.1
 have hnl : x.len + 12 = (nn : Int) := by omega
 have HP := Lib.hid (peek_ok h61 hp)
 rw [hnl] at HP
 have hlt : ¬ (m : Int) < (nn : Int) := by omega
 have hle : (nn : Int) ≤ (m : Int) := by omega
 have hn61 : (61 : Int) ≤ (nn : Int) := by omega
 have g0n : ((nn : Int) == 0) = false := by rw [beq_eq_false_iff_ne]; omega
 have g0m : ((nn : Int) != 0) = true := by simp [bne, g0n]
 have hnm : nn ≤ m := by omega
 have HNM := Lib.hid hnm
 have HT := Lib.hid (show (R.take nn).length ≤ 1000000 by rw [List.length_take]; omega)
 have HT2 := Lib.hid (show (R.take nn).length ≤ 140737488355328 by rw [List.length_take]; omega)
 have HRB := Lib.hid hrb
 clear hp hpl hnl ht hnm hrb
 by_cases hA : m ≤ 61
 · skip
   have hAi : (m : Int) ≤ 61 := by omega
   have hcw := hcv _ _ _ _ g1 m (Nat.le_refl _)
   rw [show R.take m = R.take 61 by rw [show m = 61 by omega]] at hcw
   clear g1 hA h hnn h61 hcv hm hr
   go_enter Tryz.func20, Tryz.ntmps20
   go_wp2_with (first
     | (go_at_call 40; (with_reducible refine (prefix_peek (R.take 61) nn 0 HP.out HL.out H.out).mono ?_); rintro e_ wn ⟨rfl, h⟩; have hcx := HCVH.out _ _ _ _ h nn HNM.out; replace H := Lib.hid h; clear h)
     | (go_at_call 41; (with_reducible refine (s_new (R.take nn) HT2.out H.out).mono ?_); rintro e_ wn ⟨bi, rfl, h⟩; replace H := Lib.hid h; clear h)
     | (go_at_call 42; (with_reducible refine (bat_read_bad bi (R.take nn) 0 HT.out (Nat.zero_le _) e HRB.out H.out).mono ?_); rintro e_ wn ⟨rfl, qq, _, h⟩; obtain ⟨xb, hxb⟩ : ∃ b, wn.heap.size = b := ⟨_, rfl⟩; have h := h.allocRaw #[.int .i64 0, .int .i64 0, .bool false, .bool false, .bool false, .int .i64 0, .int .i64 0, .int .i64 0, .int .i64 0, .int .i64 0, .int .i64 0, .slice none 0 0] 43; rw [hxb] at h; replace H := Lib.hid h; clear h))
   have hs := H.out.drew
   refine wp_region_held_drew (S := fun w' => w'.cell? ⟨xb, 0, none⟩ = some (.int .i64 0) ∧ w'.cell? ⟨xb, 1, none⟩ = some (.int .i64 0) ∧ w'.cell? ⟨xb, 2, none⟩ = some (.bool false) ∧ w'.cell? ⟨xb, 3, none⟩ = some (.bool false) ∧ w'.cell? ⟨xb, 4, none⟩ = some (.bool false) ∧ w'.cell? ⟨xb, 5, none⟩ = some (.int .i64 0) ∧ w'.cell? ⟨xb, 6, none⟩ = some (.int .i64 0) ∧ w'.cell? ⟨xb, 7, none⟩ = some (.int .i64 0) ∧ w'.cell? ⟨xb, 8, none⟩ = some (.int .i64 0) ∧ w'.cell? ⟨xb, 9, none⟩ = some (.int .i64 0) ∧ w'.cell? ⟨xb, 10, none⟩ = some (.int .i64 0) ∧ w'.cell? ⟨xb, 11, none⟩ = some (.slice none 0 0)) (by kernel_rfl) (let ⟨x0, x1, x2, x3, x4, x5, x6, x7, x8, x9, x10, x11, _⟩ := raw12 (b := xb) (hs); ⟨x0, x1, x2, x3, x4, x5, x6, x7, x8, x9, x10, x11⟩) (fun hHeld => ?_)
   refine tQ 0 ⟨some 42, .load 43 (.tmp 9), 43, "scan.go:70", #[], none⟩ ?_; simp only [Act.put, sA, sB, sC]
   refine tQ 1 ⟨some 43, .move (.tmp 6), 3, "scan.go:70", #[{ on := 4, ground := Ground.gcOnly Departure.lateStores }], none⟩ ?_; simp only [Act.put, sA, sB, sC]
   refine tQ 2 ⟨some 44, .move (.tmp 8), 94, "scan.go:70", #[], none⟩ ?_; simp only [Act.put, sA, sB, sC]
   refine wpAnyH_ready (rs := [3]) (by kernel_rfl) (by simp) (AllReadyH.cons (o := ⟨some 45, .call { callee := .value (.func 43), args := #[.tmp 44], argTypes := #[94] }, 34, "scan.go:70", #[.mk 2 .data], none⟩) rfl (fun KK hK => ?_) AllReadyH.nil)
   · go_simp
     go_at_call 43
     with_reducible refine (s_errS bi _ e rfl hs.p1).mono ?_
     rintro e wq ⟨rfl, hs⟩
     refine hK.out _ _ (let ⟨x0, x1, x2, x3, x4, x5, x6, x7, x8, x9, x10, x11, _⟩ := raw12 (b := xb) (hs.p1); ⟨x0, x1, x2, x3, x4, x5, x6, x7, x8, x9, x10, x11⟩) (fun hHeld => ?_)
     clear hK KK
     try simp only [Act.put, sA, sB, sC]
     refine wpAnyH_ready (rs := [4]) (by kernel_rfl) (by simp) (AllReadyH.cons (o := ⟨none, .store 43 (.tmp 2) (.tmp 42), 0, "scan.go:70", #[.mk 0 .data, .mk 3 .chain, .mk 0 .phase, { on := 1, ground := Ground.textOnly Departure.lateStores }, { on := 2, ground := Ground.textOnly Departure.lateStores }, { on := 3, ground := Ground.textOnly Departure.lateStoresUnsure }], none⟩) rfl (fun KK hK => ?_) AllReadyH.nil)
     · have hs := hs.p3
       rw [if_pos (by rfl)]
       refine wp_store_mid 43 (.tmp 2) (.tmp 42) rfl rb 0 #[.int .i64 0, .int .i64 0, .bool false, .bool false, .bool false, .int .i64 0, .int .i64 0, .int .i64 0, .int .i64 0, .int .i64 0, .int .i64 0, .slice none 0 0] (by rfl) (by rfl) hs.there (by kernel_rfl) (by simp [Value.oneCell']) ?_
       obtain ⟨wz, ez, hs⟩ := hs.storeEx #[.int .i64 0, .int .i64 0, .bool false, .bool false, .bool false, .int .i64 0, .int .i64 0, .int .i64 0, .int .i64 0, .int .i64 0, .int .i64 0, .slice none 0 0]
       rw [ez]
       clear ez
       rw [setAll_allV] at hs
       rotate_left
       · rfl
       refine hK.out _ _ (let ⟨x0, x1, x2, x3, x4, x5, x6, x7, x8, x9, x10, x11, _⟩ := raw12 (b := xb) (hs.p2); ⟨x0, x1, x2, x3, x4, x5, x6, x7, x8, x9, x10, x11⟩) (fun hHeld => ?_)
       clear hK KK
       try simp only [Act.put, sA, sB, sC]
       refine tQ 5 ⟨some 3, .assign (.tmp 43), 3, "scan.go:70", #[.mk 1 .data, .mk 4 .chain, .mk 0 .phase, .mk 1 .phase, { on := 2, ground := Ground.textOnly Departure.lateStores }, { on := 3, ground := Ground.textOnly Departure.lateStoresUnsure }, .mk 4 .phase], none⟩ ?_; simp only [Act.put, sA, sB, sC]
       refine tQ 6 ⟨some 4, .assign (.tmp 45), 34, "scan.go:70", #[.mk 3 .data, .mk 5 .chain, .mk 0 .phase, .mk 1 .phase, .mk 2 .phase, .mk 3 .phase, .mk 4 .phase, .mk 5 .phase], none⟩ ?_; simp only [Act.put, sA, sB, sC]
       refine wpAnyH_done (by kernel_rfl) ?_ _
       clear hHeld
       go_wp2_with fail
       refine bodyPost_ret (rc_cell_tmp3S rfl _ _ rb [.int .i64 0, .int .i64 0, .bool false, .bool false, .bool false, .int .i64 0, .int .i64 0, .int .i64 0, .int .i64 0, .int .i64 0, .int .i64 0, .slice none 0 0] _ rfl (rc_range hs) Tryz.underlying43 rfl (by kernel_rfl)) rfl ?_
       exact ⟨rfl, hs.drop.drop.drop⟩
 · skip
   have hAi : ¬ (m : Int) ≤ 61 := by omega
   have hcw := hcv _ _ _ _ g1 61 (by omega)
   clear g1 hA h hnn h61 hcv hm hr
   go_enter Tryz.func20, Tryz.ntmps20
   go_wp2_with (first
     | (go_at_call 40; (with_reducible refine (prefix_peek (R.take 61) nn 0 HP.out HL.out H.out).mono ?_); rintro e_ wn ⟨rfl, h⟩; have hcx := HCVH.out _ _ _ _ h nn HNM.out; replace H := Lib.hid h; clear h)
     | (go_at_call 41; (with_reducible refine (s_new (R.take nn) HT2.out H.out).mono ?_); rintro e_ wn ⟨bi, rfl, h⟩; replace H := Lib.hid h; clear h)
     | (go_at_call 42; (with_reducible refine (bat_read_bad bi (R.take nn) 0 HT.out (Nat.zero_le _) e HRB.out H.out).mono ?_); rintro e_ wn ⟨rfl, qq, _, h⟩; obtain ⟨xb, hxb⟩ : ∃ b, wn.heap.size = b := ⟨_, rfl⟩; have h := h.allocRaw #[.int .i64 0, .int .i64 0, .bool false, .bool false, .bool false, .int .i64 0, .int .i64 0, .int .i64 0, .int .i64 0, .int .i64 0, .int .i64 0, .slice none 0 0] 43; rw [hxb] at h; replace H := Lib.hid h; clear h))
   have hs := H.out.drew
   refine wp_region_held_drew (S := fun w' => w'.cell? ⟨xb, 0, none⟩ = some (.int .i64 0) ∧ w'.cell? ⟨xb, 1, none⟩ = some (.int .i64 0) ∧ w'.cell? ⟨xb, 2, none⟩ = some (.bool false) ∧ w'.cell? ⟨xb, 3, none⟩ = some (.bool false) ∧ w'.cell? ⟨xb, 4, none⟩ = some (.bool false) ∧ w'.cell? ⟨xb, 5, none⟩ = some (.int .i64 0) ∧ w'.cell? ⟨xb, 6, none⟩ = some (.int .i64 0) ∧ w'.cell? ⟨xb, 7, none⟩ = some (.int .i64 0) ∧ w'.cell? ⟨xb, 8, none⟩ = some (.int .i64 0) ∧ w'.cell? ⟨xb, 9, none⟩ = some (.int .i64 0) ∧ w'.cell? ⟨xb, 10, none⟩ = some (.int .i64 0) ∧ w'.cell? ⟨xb, 11, none⟩ = some (.slice none 0 0)) (by kernel_rfl) (let ⟨x0, x1, x2, x3, x4, x5, x6, x7, x8, x9, x10, x11, _⟩ := raw12 (b := xb) (hs); ⟨x0, x1, x2, x3, x4, x5, x6, x7, x8, x9, x10, x11⟩) (fun hHeld => ?_)
   refine tQ 0 ⟨some 42, .load 43 (.tmp 9), 43, "scan.go:70", #[], none⟩ ?_; simp only [Act.put, sA, sB, sC]
   refine tQ 1 ⟨some 43, .move (.tmp 6), 3, "scan.go:70", #[{ on := 4, ground := Ground.gcOnly Departure.lateStores }], none⟩ ?_; simp only [Act.put, sA, sB, sC]
   refine tQ 2 ⟨some 44, .move (.tmp 8), 94, "scan.go:70", #[], none⟩ ?_; simp only [Act.put, sA, sB, sC]
   refine wpAnyH_ready (rs := [3]) (by kernel_rfl) (by simp) (AllReadyH.cons (o := ⟨some 45, .call { callee := .value (.func 43), args := #[.tmp 44], argTypes := #[94] }, 34, "scan.go:70", #[.mk 2 .data], none⟩) rfl (fun KK hK => ?_) AllReadyH.nil)
   · go_simp
     go_at_call 43
     with_reducible refine (s_errS bi _ e rfl hs.p1).mono ?_
     rintro e wq ⟨rfl, hs⟩
     refine hK.out _ _ (let ⟨x0, x1, x2, x3, x4, x5, x6, x7, x8, x9, x10, x11, _⟩ := raw12 (b := xb) (hs.p1); ⟨x0, x1, x2, x3, x4, x5, x6, x7, x8, x9, x10, x11⟩) (fun hHeld => ?_)
     clear hK KK
     try simp only [Act.put, sA, sB, sC]
     refine wpAnyH_ready (rs := [4]) (by kernel_rfl) (by simp) (AllReadyH.cons (o := ⟨none, .store 43 (.tmp 2) (.tmp 42), 0, "scan.go:70", #[.mk 0 .data, .mk 3 .chain, .mk 0 .phase, { on := 1, ground := Ground.textOnly Departure.lateStores }, { on := 2, ground := Ground.textOnly Departure.lateStores }, { on := 3, ground := Ground.textOnly Departure.lateStoresUnsure }], none⟩) rfl (fun KK hK => ?_) AllReadyH.nil)
     · have hs := hs.p3
       rw [if_pos (by rfl)]
       refine wp_store_mid 43 (.tmp 2) (.tmp 42) rfl rb 0 #[.int .i64 0, .int .i64 0, .bool false, .bool false, .bool false, .int .i64 0, .int .i64 0, .int .i64 0, .int .i64 0, .int .i64 0, .int .i64 0, .slice none 0 0] (by rfl) (by rfl) hs.there (by kernel_rfl) (by simp [Value.oneCell']) ?_
       obtain ⟨wz, ez, hs⟩ := hs.storeEx #[.int .i64 0, .int .i64 0, .bool false, .bool false, .bool false, .int .i64 0, .int .i64 0, .int .i64 0, .int .i64 0, .int .i64 0, .int .i64 0, .slice none 0 0]
       rw [ez]
       clear ez
       rw [setAll_allV] at hs
       rotate_left
       · rfl
       refine hK.out _ _ (let ⟨x0, x1, x2, x3, x4, x5, x6, x7, x8, x9, x10, x11, _⟩ := raw12 (b := xb) (hs.p2); ⟨x0, x1, x2, x3, x4, x5, x6, x7, x8, x9, x10, x11⟩) (fun hHeld => ?_)
       clear hK KK
       try simp only [Act.put, sA, sB, sC]
       refine tQ 5 ⟨some 3, .assign (.tmp 43), 3, "scan.go:70", #[.mk 1 .data, .mk 4 .chain, .mk 0 .phase, .mk 1 .phase, { on := 2, ground := Ground.textOnly Departure.lateStores }, { on := 3, ground := Ground.textOnly Departure.lateStoresUnsure }, .mk 4 .phase], none⟩ ?_; simp only [Act.put, sA, sB, sC]
       refine tQ 6 ⟨some 4, .assign (.tmp 45), 34, "scan.go:70", #[.mk 3 .data, .mk 5 .chain, .mk 0 .phase, .mk 1 .phase, .mk 2 .phase, .mk 3 .phase, .mk 4 .phase, .mk 5 .phase], none⟩ ?_; simp only [Act.put, sA, sB, sC]
       refine wpAnyH_done (by kernel_rfl) ?_ _
       clear hHeld
       go_wp2_with fail
       refine bodyPost_ret (rc_cell_tmp3S rfl _ _ rb [.int .i64 0, .int .i64 0, .bool false, .bool false, .bool false, .int .i64 0, .int .i64 0, .int .i64 0, .int .i64 0, .int .i64 0, .int .i64 0, .slice none 0 0] _ rfl (rc_range hs) Tryz.underlying43 rfl (by kernel_rfl)) rfl ?_
       exact ⟨rfl, hs.drop.drop.drop⟩
open Go
def Exit.jumps (J : Nat → Act → World → Prop) (Q : Exit → Act → World → Prop) : Exit → Act → World → Prop
  | .goto l, a, w => J l a w
  | e, a, w => Q e a w
theorem scope_labels {P : Program} {a : Act} {w : World} {Q : Exit → Act → World → Prop} {c : Code} (J : Nat → Act → World → Prop) (μ : Nat → Act → World → Nat) (hf : ∀ l a w, J l a w → ∃ r, findLabel c l = some r)
    (first : c.wp P (Exit.jumps J Q) a w)
    (pass : ∀ l r a w, J l a w → findLabel c l = some r → r.wp P (Exit.jumps (fun l' a' w' => J l' a' w' ∧ μ l' a' w' < μ l a w) Q) a w) : (Code.scope c).wp P Q a w := by
  intro b k cs
  have go : ∀ n l a w, μ l a w = n → J l a w → ∃ r, findLabel c l = some r ∧ ∃ e a' w', Q e a' w' ∧ Arrives P (lone (b.at a (.code r :: .inScope c :: k)) cs w) b k cs e a' w' := by
    intro n
    induction n using Nat.strongRecOn with
    | _ n ih =>
      intro l a w hn hJ
      obtain ⟨r, hr⟩ := hf l a w hJ
      refine ⟨r, hr, ?_⟩
      obtain ⟨e, a₁, w₁, hq, hto⟩ := pass l r a w hJ hr b (.inScope c :: k) cs
      match e, hq, hto with
      | .normal, hq, hto => exact ⟨.normal, a₁, w₁, hq, Steps.trans hto (.one step_inScope)⟩
      | .exit id, hq, hto => exact ⟨.exit id, a₁, w₁, hq, fun k' hk => hto k' (by simp [exitTo, hk])⟩
      | .goto l', hq, hto =>
        obtain ⟨hJ', hlt⟩ := hq
        obtain ⟨r2, hr2, e₂, a₂, w₂, hq₂, hto₂⟩ := ih _ (by omega) l' a₁ w₁ rfl hJ'
        exact ⟨e₂, a₂, w₂, hq₂, .of_steps (hto _ (by simp [gotoIn, hr2])) hto₂⟩
      | .ret, hq, hto => exact ⟨_, a₁, w₁, hq, hto⟩
      | .panic ch, hq, hto => exact ⟨_, a₁, w₁, hq, hto⟩
      | .outgrown, hq, hto => exact ⟨_, a₁, w₁, hq, hto⟩
  obtain ⟨e, a₁, w₁, hq, hto⟩ := first b (.inScope c :: k) cs
  match e, hq, hto with
  | .normal, hq, hto => exact ⟨.normal, a₁, w₁, hq, .head step_scope (Steps.trans hto (.one step_inScope))⟩
  | .exit id, hq, hto => exact ⟨.exit id, a₁, w₁, hq, fun k' hk => .head step_scope (hto k' (by simp [exitTo, hk]))⟩
  | .goto l', hq, hto =>
    obtain ⟨r2, hr2, e₂, a₂, w₂, hq₂, hto₂⟩ := go _ l' a₁ w₁ rfl hq
    exact ⟨e₂, a₂, w₂, hq₂, .of_steps (.head step_scope (hto _ (by simp [gotoIn, hr2]))) hto₂⟩
  | .ret, hq, hto => exact ⟨_, a₁, w₁, hq, .of_steps (.one step_scope) hto⟩
  | .panic ch, hq, hto => exact ⟨_, a₁, w₁, hq, .of_steps (.one step_scope) hto⟩
  | .outgrown, hq, hto => exact ⟨_, a₁, w₁, hq, .of_steps (.one step_scope) hto⟩
theorem scope_two {P : Program} {a : Act} {w : World} {Q : Exit → Act → World → Prop} {c rest0 rest1 : Code} (J : Nat → Act → World → Prop) (μ : Nat → Act → World → Nat) (hl : ∀ l a w, J l a w → l = 0 ∨ l = 1) (h0 : findLabel c 0 = some (Code.skip.seq rest0)) (h1 : findLabel c 1 = some (Code.skip.seq rest1))
    (first : (∀ a w, J 0 a w → rest0.wp P (Exit.jumps J Q) a w) → c.wp P (Exit.jumps J Q) a w)
    (pass0 : ∀ a w, J 0 a w → rest0.wp P (Exit.jumps (fun l' a' w' => J l' a' w' ∧ μ l' a' w' < μ 0 a w) Q) a w)
    (pass1 : ∀ a w, J 1 a w → rest1.wp P (Exit.jumps (fun l' a' w' => J l' a' w' ∧ μ l' a' w' < μ 1 a w) Q) a w) : (Code.scope c).wp P Q a w := by
  have skip : ∀ (rest : Code) (Q : Exit → Act → World → Prop) a w, rest.wp P Q a w → (Code.skip.seq rest).wp P Q a w := fun rest Q a w h => wp_seq_k fun K hK => wp_skip (hK _ _ h)
  refine scope_labels J μ (fun l a w h => ?_) (first fun a w h => Code.wp_mono ?_ (pass0 a w h)) (fun l r a w h hr => ?_)
  · rcases hl l a w h with rfl | rfl
    · exact ⟨_, h0⟩
    · exact ⟨_, h1⟩
  · intro e a' w' hq
    cases e with
    | goto l' => exact hq.1
    | _ => exact hq
  · rcases hl l a w h with rfl | rfl
    · rw [h0] at hr
      cases hr
      exact skip _ _ _ _ (pass0 a w h)
    · rw [h1] at hr
      cases hr
      exact skip _ _ _ _ (pass1 a w h)

end Go.Proofs.YtngojlinfdokpaaGreat
namespace Go.Proofs.YtngojlinfdokpaaGreat
open Go.RowKit

theorem putRec_good (o : Bs) (x : RecS) (h : recOk x = 0) : (⟨o, 0⟩ : OutS).putRec x = ⟨o ++ encR x, 0⟩ := by
 unfold OutS.putRec
 rw [if_pos h]
 rfl
theorem recsC_ok : ∀ (l : List RecS), recsC l = 0 → ∀ x ∈ l, recOk x = 0
  | [], _, _, h => by cases h
  | r :: t, hh, x, hx => by
    have hh : (if recOk r = 0 then recsC t else recOk r) = 0 := hh
    by_cases h1 : recOk r = 0
    · rw [if_pos h1] at hh
      rcases List.mem_cons.1 hx with rfl | hx
      · exact h1
      · exact recsC_ok t hh x hx
    · rw [if_neg h1] at hh; exact absurd hh h1
theorem encAll_small {l : List (RecS × Value)} (h : FitB l) : (encAll l).length ≤ 40000000 * l.length := by
 have : ∀ (l : List (RecS × Value)), (∀ x ∈ l, (encR x.1).length ≤ 40000000) → (encAll l).length ≤ 40000000 * l.length := by
  intro l
  induction l with
  | nil => intro _; simp [encAll]
  | cons x t ih =>
   intro hh
   have h1 := ih (fun y hy => hh y (by simp [hy]))
   have h2 := hh x (by simp)
   have e : encAll (x :: t) = encR x.1 ++ encAll t := rfl
   rw [e, List.length_append, List.length_cons]
   omega
 refine this l fun x hx => ?_
 obtain ⟨a, _, c⟩ := h x hx
 have h1 := recF_le x.1 a c
 unfold encR encV
 rw [List.length_append]
 have h2 : (putU (foldN (BlobS.len ⟨false, recF x.1⟩))).length ≤ 10 := putU_len _ (foldN_lt (by simp [BlobS.len] <;> omega) (by simp [BlobS.len] <;> omega))
 simp only at *
 omega

end Go.Proofs.YtngojlinfdokpaaGreat
namespace Go.Proofs.YtngojlinfdokpaaGreat
open Go.RowKit

theorem sumItem_mod6 (n : Int) (h : fits (sumItem n) 4) : sumItem n % 4294967296 = n := by
 by_cases h0 : n < 0 ∨ 4294967295 < n
 · exact absurd h (sumItem_bad n h0)
 · unfold sumItem
   rw [if_neg h0]
   split <;> omega
theorem preX_enc6 (x : PreS) (hf : FitsAll x.items) : preX (encInts x.items) = (x, 2) := by
 have h1 := intsOf_enc x.items [] hf
 rw [List.append_nil] at h1
 have h2 : x.items.map (·.2) = preSizes := rfl
 rw [h2] at h1
 have h3 := sumItem_mod6 x.sum (hf (sumItem x.sum, 4) (by simp [PreS.items]))
 unfold preX
 rw [h1]
 simp only [PreS.items, List.map_cons, List.map_nil, preOfL, h3]
theorem items_len (x : PreS) : (encInts x.items).length = 61 := by rw [encInts_length]; rfl
theorem rePre_enc (x : PreS) (hf : FitsAll x.items) (hl : 49 ≤ x.len) (hc : 0 ≤ x.count) (t : Bs) : rePre (encInts x.items ++ t) = .ok x := by
 have h := rePre_take (encInts x.items ++ t) (by rw [List.length_append, items_len]; omega)
 rw [List.take_left' (items_len x)] at h
 rw [← h]
 unfold rePre
 rw [preX_enc6 x hf, if_neg (by rw [items_len]; omega), if_pos rfl, if_neg (by simp only; omega), if_neg (by simp only; omega)]
def BatS.rowsB (b : BatS) : Bs := b.recs.flatMap encR
def BatS.pre (b : BatS) (sum : Int) : PreS := ⟨b.base, 49 + b.rowsB.length, b.leader, sum, attrN b.app b.txn b.ctl 3, b.last, b.first, b.maxt, b.prod, b.epoch, b.seq, b.recs.length⟩
def BatS.front (b : BatS) (sum : Int) : Bs := encInts [(b.base, 8), (49 + b.rowsB.length, 4), (b.leader, 4), (2, 1), (sumItem sum, 4)]
def BatS.back (b : BatS) : Bs := encInts [(attrN b.app b.txn b.ctl 3, 2), (b.last, 4), (b.first, 8), (b.maxt, 8), (b.prod, 8), (b.epoch, 2), (b.seq, 4), (b.recs.length, 4)]
def BatS.crc (b : BatS) : Nat := (crcMore 0#32 (b.back ++ b.rowsB)).toNat
def BatS.enc (b : BatS) : Bs := encInts (b.pre b.crc).items ++ b.rowsB
theorem BatS.pre_split (b : BatS) (s : Int) : encInts (b.pre s).items = b.front s ++ b.back := by
 have h : (b.pre s).items = [(b.base, 8), (49 + (b.rowsB.length : Int), 4), (b.leader, 4), (2, 1), (sumItem s, 4)] ++ [(attrN b.app b.txn b.ctl 3, 2), (b.last, 4), (b.first, 8), (b.maxt, 8), (b.prod, 8), (b.epoch, 2), (b.seq, 4), ((b.recs.length : Int), 4)] := rfl
 rw [h, encInts_append]
 rfl
theorem BatS.front_len (b : BatS) (s : Int) : (b.front s).length = 21 := by unfold BatS.front; rw [encInts_length]; rfl
theorem BatS.pre_drop (b : BatS) (s : Int) : (encInts (b.pre s).items).drop 21 = b.back := by rw [b.pre_split, List.drop_left' (b.front_len s)]
theorem BatS.crc_lt (b : BatS) : b.crc < 4294967296 := (crcMore 0#32 (b.back ++ b.rowsB)).isLt
theorem fits_of {n : Int} {k : Nat} (h1 : 1 ≤ k) (h8 : k ≤ 8) (lo : -half k ≤ n) (hi : n < half k) : fits n k := by
 refine ⟨by omega, by omega, ?_, ?_⟩ <;> rw [Int.toNat_natCast] <;> assumption
theorem batErr_zero {b : BatS} (h : batErr b = 0) : b.placed = true ∧ (b.ctl = true → b.txn = true) ∧ b.signed = true ∧ recsC b.recs = 0 := by
 unfold batErr at h
 by_cases p1 : b.placed = false
 · rw [if_pos p1] at h; cases h
 rw [if_neg p1] at h
 by_cases p2 : b.ctl = true ∧ b.txn = false
 · rw [if_pos p2] at h; cases h
 rw [if_neg p2] at h
 by_cases p3 : b.signed = false
 · rw [if_pos p3] at h; cases h
 rw [if_neg p3] at h
 by_cases p4 : b.ctl = true ∧ b.recs.length ≠ 1
 · rw [if_pos p4] at h; cases h
 rw [if_neg p4] at h
 by_cases p5 : recsC b.recs ≠ 0
 · rw [if_pos p5] at h; exact absurd h p5
 refine ⟨by simpa using p1, fun hc => ?_, by simpa using p3, Classical.not_not.1 p5⟩
 cases ht : b.txn with
 | true => rfl
 | false => exact absurd ⟨hc, ht⟩ p2
theorem signed_rng {b : BatS} (h : b.signed = true) : -1 ≤ b.prod ∧ (-1 ≤ b.epoch ∧ b.epoch ≤ 32767) ∧ (-1 ≤ b.seq ∧ b.seq ≤ 2147483647) := by
 unfold BatS.signed at h
 by_cases p : b.prod = -1
 · rw [if_pos p] at h
   have := of_decide_eq_true h
   omega
 rw [if_neg p] at h
 by_cases q : b.prod < 0 ∨ ¬ (0 ≤ b.epoch ∧ b.epoch ≤ 32767)
 · rw [if_pos q] at h; cases h
 rw [if_neg q] at h
 cases hc : b.ctl with
 | true =>
   rw [hc] at h
   have h : decide (b.seq = -1) = true := h
   have := of_decide_eq_true h
   omega
 | false =>
   rw [hc] at h
   have h : decide (0 ≤ b.seq ∧ b.seq ≤ 2147483647) = true := h
   have := of_decide_eq_true h
   omega
theorem attr_facts (a t c : Bool) : (0 ≤ attrN a t c 3 ∧ attrN a t c 3 ≤ 63) ∧ bitAt (attrN a t c 3) 3 = a ∧ bitAt (attrN a t c 3) 4 = t ∧ bitAt (attrN a t c 3) 5 = c ∧ ((c = true → t = true) → chk (attrN a t c 3) = 0) := by
 cases a <;> cases t <;> cases c <;> decide
theorem BatS.fitsAll {b : BatS} (h : batErr b = 0) (hR : b.R) (s : Int) (hs : 0 ≤ s ∧ s ≤ 4294967295) (hz : b.rowsB.length ≤ 1000000) (hn : b.recs.length ≤ 1000000) : FitsAll (b.pre s).items := by
 obtain ⟨p1, p2, p3, p4⟩ := batErr_zero h
 have q1 := of_decide_eq_true p1
 obtain ⟨q2, q3, q4⟩ := signed_rng p3
 obtain ⟨r1, r2, r3, r4, r5, r6, r7, r8⟩ := hR
 unfold Rn at r1 r2 r3 r4 r5 r6 r7 r8
 have qa := (attr_facts b.app b.txn b.ctl).1
 have h8 : half 8 = 9223372036854775808 := by decide
 have h4 : half 4 = 2147483648 := by decide
 have h2 : half 2 = 32768 := by decide
 have h1 : half 1 = 128 := by decide
 intro x hx
 simp only [PreS.items, BatS.pre, List.mem_cons, List.not_mem_nil, or_false] at hx
 rcases hx with rfl | rfl | rfl | rfl | rfl | rfl | rfl | rfl | rfl | rfl | rfl | rfl | rfl
 · exact fits_of (by simp only; decide) (by simp only; decide) (by rw [h8]; simp only; omega) (by rw [h8]; simp only; omega)
 · exact fits_of (by simp only; decide) (by simp only; decide) (by rw [h4]; simp only; omega) (by rw [h4]; simp only; omega)
 · exact fits_of (by simp only; decide) (by simp only; decide) (by rw [h4]; simp only; omega) (by rw [h4]; simp only; omega)
 · exact fits_of (by simp only; decide) (by simp only; decide) (by rw [h1]; simp only; omega) (by rw [h1]; simp only; omega)
 · exact sumItem_fits s (by omega) (by omega)
 · exact fits_of (by simp only; decide) (by simp only; decide) (by rw [h2]; simp only; omega) (by rw [h2]; simp only; omega)
 · exact fits_of (by simp only; decide) (by simp only; decide) (by rw [h4]; simp only; omega) (by rw [h4]; simp only; omega)
 · exact fits_of (by simp only; decide) (by simp only; decide) (by rw [h8]; simp only; omega) (by rw [h8]; simp only; omega)
 · exact fits_of (by simp only; decide) (by simp only; decide) (by rw [h8]; simp only; omega) (by rw [h8]; simp only; omega)
 · exact fits_of (by simp only; decide) (by simp only; decide) (by rw [h8]; simp only; omega) (by rw [h8]; simp only; omega)
 · exact fits_of (by simp only; decide) (by simp only; decide) (by rw [h2]; simp only; omega) (by rw [h2]; simp only; omega)
 · exact fits_of (by simp only; decide) (by simp only; decide) (by rw [h4]; simp only; omega) (by rw [h4]; simp only; omega)
 · exact fits_of (by simp only; decide) (by simp only; decide) (by rw [h4]; simp only; omega) (by rw [h4]; simp only; omega)
theorem BatS.pre_R {b : BatS} (h : batErr b = 0) (hR : b.R) (s : Int) (hs : 0 ≤ s ∧ s ≤ 4294967295) (hz : b.rowsB.length ≤ 1000000) (hn : b.recs.length ≤ 1000000) : (b.pre s).R := by
 have qa := (attr_facts b.app b.txn b.ctl).1
 obtain ⟨r1, r2, r3, r4, r5, r6, r7, r8⟩ := hR
 unfold Rn at r1 r2 r3 r4 r5 r6 r7 r8
 intro n hn
 simp only [PreS.list, BatS.pre, List.mem_cons, List.not_mem_nil, or_false] at hn
 rcases hn with rfl | rfl | rfl | rfl | rfl | rfl | rfl | rfl | rfl | rfl | rfl | rfl <;> omega
theorem unp_back : ∀ (rs : List RecS) (rows : Bs) (pos : Nat), pos ≤ rows.length → rows.drop pos = rs.flatMap encR → (∀ x ∈ rs, x.R ∧ recOk x = 0 ∧ x.sum ≤ 1000000) → unp rs.length ⟨rows, pos, 0⟩ = .ok rs
  | [], rows, pos, hp, hd, _ => by
    have hz : rows.length - pos = 0 := by rw [← List.length_drop, hd]; rfl
    show (if (⟨rows, pos, 0⟩ : InS).left = 0 then Except.ok [] else Except.error (10 : Int)) = Except.ok []
    rw [if_pos (by simp only [InS.left]; exact hz)]
  | x :: t, rows, pos, hp, hd, hx => by
    obtain ⟨hR, ho, hs⟩ := hx x (by simp)
    rw [List.flatMap_cons] at hd
    have hr := reRec_back x hR ho hs (t.flatMap encR)
    rw [← hd] at hr
    obtain ⟨hpm, hf⟩ := rds_rec.ok rows pos x _ hp hr
    have hpos := (reRec_one hr).2.2.2.2.1
    show (if (⟨rows, pos, 0⟩ : InS).left = 0 then Except.error (10 : Int) else if (⟨rows, pos, 0⟩ : InS).record.2.err = 0 then consE (⟨rows, pos, 0⟩ : InS).record.1 (unp t.length (⟨rows, pos, 0⟩ : InS).record.2) else Except.error (⟨rows, pos, 0⟩ : InS).record.2.err) = Except.ok (x :: t)
    rw [if_neg (by simp only [InS.left]; omega), hf]
    simp only [if_true]
    rw [unp_back t rows _ hpm (by rw [← List.drop_drop, hd, List.drop_left]) (fun y hy => hx y (by simp [hy]))]
    rfl
theorem asmB_back {b : BatS} (h : batErr b = 0) (hf : ∀ x ∈ b.recs, x.R ∧ recOk x = 0 ∧ x.sum ≤ 1000000) : asmB (b.pre b.crc) (encInts (b.pre b.crc).items) b.rowsB = .ok b := by
 obtain ⟨_, p2, _, _⟩ := batErr_zero h
 obtain ⟨_, a3, a4, a5, a6⟩ := attr_facts b.app b.txn b.ctl
 have hu := unp_back b.recs b.rowsB 0 (Nat.zero_le _) rfl hf
 unfold asmB
 rw [b.pre_drop]
 have e1 : ((crcMore 0#32 (b.back ++ b.rowsB)).toNat : Int) = (b.pre b.crc).sum := rfl
 have e2 : (b.pre b.crc).attr = attrN b.app b.txn b.ctl 3 := rfl
 have e3 : (b.pre b.crc).count.toNat = b.recs.length := rfl
 rw [if_neg (fun hh => hh e1), e2, if_neg (fun hh => hh (a6 p2)), e3, hu]
 simp only [a3, a4, a5]
 obtain ⟨base, leader, app, txn, ctl, last, first, maxt, prod, epoch, sq, rs⟩ := b
 exact if_pos h
theorem reBat_back {b : BatS} (h : batErr b = 0) (hR : b.R) (hf : ∀ x ∈ b.recs, x.R ∧ recOk x = 0 ∧ x.sum ≤ 1000000) (hz : b.rowsB.length ≤ 1000000) (hn : b.recs.length ≤ 1000000) (t : Bs) : reBat (b.enc ++ t) = .ok (b, b.enc.length) := by
 have hc := b.crc_lt
 have hfa := BatS.fitsAll h hR b.crc (by omega) hz hn
 have hp := rePre_enc (b.pre b.crc) hfa (show (49 : Int) ≤ 49 + (b.rowsB.length : Int) by omega) (show (0 : Int) ≤ (b.recs.length : Int) by omega) (b.rowsB ++ t)
 rw [← List.append_assoc] at hp
 have hle : b.enc.length = 61 + b.rowsB.length := by unfold BatS.enc; rw [List.length_append, items_len]
 have hl : ((b.pre b.crc).len - 49).toNat = b.rowsB.length := by show ((49 + (b.rowsB.length : Int)) - 49).toNat = _; omega
 unfold reBat
 have hp2 : rePre (b.enc ++ t) = .ok (b.pre b.crc) := hp
 rw [hp2]
 simp only
 rw [hl, if_neg (by rw [List.length_append, hle]; omega)]
 have t1 : (b.enc ++ t).take 61 = encInts (b.pre b.crc).items := by
  unfold BatS.enc
  rw [List.append_assoc, List.take_left' (items_len _)]
 have t2 : ((b.enc ++ t).drop 61).take b.rowsB.length = b.rowsB := by
  unfold BatS.enc
  rw [List.append_assoc, List.drop_left' (items_len _), List.take_left]
 rw [t1, t2, asmB_back h hf]
 simp only
 rw [hle]

end Go.Proofs.YtngojlinfdokpaaGreat
namespace Go.Proofs.YtngojlinfdokpaaGreat
open Go.RowKit

def FitW (l : List (RecS × Value)) : Prop := ∀ x ∈ l, x.1.R ∧ x.1.hdrs.length ≤ 9223372036854775807 ∧ HFit x.1.hdrs ∧ x.1.key.data.length ≤ 140737488351232 ∧ x.1.val.data.length ≤ 140737488351232
def hAll : List HdrS → Bool
  | [] => true
  | h :: t => decide (h.key.length + h.val.data.length ≤ 100) && hAll t
def smallRec (x : RecS) : Bool := decide (x.key.data.length + x.val.data.length ≤ 100) && (decide (x.hdrs.length ≤ 6) && hAll x.hdrs)
def rAll : List RecS → Bool
  | [] => true
  | r :: t => smallRec r && rAll t
def smallB (l : List RecS) : Bool := decide (l.length ≤ 12) && rAll l
theorem hAll_sum : ∀ (l : List HdrS), hAll l = true → hsum l ≤ 101 * l.length
  | [], _ => by simp [hsum]
  | h :: t, hh => by
    simp only [hAll, Bool.and_eq_true, decide_eq_true_eq] at hh
    have := hAll_sum t hh.2
    simp only [hsum, List.length_cons, List.map_cons, List.sum_cons] at *
    omega
theorem rAll_mem : ∀ (l : List RecS), rAll l = true → ∀ x ∈ l, smallRec x = true
  | [], _, _, h => by cases h
  | r :: t, hh, x, hx => by
    simp only [rAll, Bool.and_eq_true] at hh
    rcases List.mem_cons.1 hx with rfl | hx
    · exact hh.1
    · exact rAll_mem t hh.2 x hx
theorem smallRec_sum {x : RecS} (h : smallRec x = true) : x.sum ≤ 1000 := by
 unfold smallRec at h
 simp only [Bool.and_eq_true, decide_eq_true_eq] at h
 have := hAll_sum _ h.2.2
 unfold RecS.sum
 omega
theorem FitW.fit {l : List (RecS × Value)} (h : FitW l) (hs : smallB (l.map (·.1)) = true) : FitB l := by
 intro x hx
 unfold smallB at hs
 simp only [Bool.and_eq_true] at hs
 have h1 := smallRec_sum (rAll_mem _ hs.2 x.1 (List.mem_map.2 ⟨x, hx, rfl⟩))
 obtain ⟨a, b, c, _⟩ := h x hx
 exact ⟨a, c, by omega⟩
theorem smallB_len {l : List (RecS × Value)} (hs : smallB (l.map (·.1)) = true) : l.length ≤ 12 := by
 unfold smallB at hs
 simp only [Bool.and_eq_true, decide_eq_true_eq, List.length_map] at hs
 exact hs.1
end Go.Proofs.YtngojlinfdokpaaGreat
namespace Go.Proofs.YtngojlinfdokpaaGreat
open Go.RowKit

set_option maxHeartbeats 1000000 in
set_option maxRecDepth 100000 in
theorem ref11_times (base leader : Int) (app txn ctl : Bool) (last first maxt prod epoch sq : Int) (l : List (RecS × Value)) (q : Option Addr) (cap : Nat) (G : Int) (hG : rowsC first last (l.map (·.1)) (-1) first = .ok G) (hf : 0 ≤ first ∧ first ≤ 9223372036854775807) (hfit : FitB l) (hll : l.length ≤ 1000000) {W0 w : World} {K : Know} {L : List Res} (hk : K.has (Know.recs (.slice q l.length cap) l)) (h : St W0 w K L) :
  Calls Tryz.prog 48 #[.agg #[.int .i64 base, .int .i64 leader, .bool app, .bool txn, .bool ctl, .int .i64 last, .int .i64 first, .int .i64 maxt, .int .i64 prod, .int .i64 epoch, .int .i64 sq, .slice q l.length cap]] w fun en w' => en = .returned (.int .i64 G) ∧ St W0 w' K L := by
 have HT := Lib.hid hG
 have HK := Lib.hid hk
 have HFT := Lib.hid hfit
 have HF := Lib.hid hf
 obtain ⟨nf, hnf⟩ : ∃ m, -first = m := ⟨_, rfl⟩
 obtain ⟨mf, hmf⟩ : ∃ m, 9223372036854775807 - first = m := ⟨_, rfl⟩
 have HNF := Lib.hid hnf
 have HMF := Lib.hid hmf
 have n1 : wrap64 (-first) = nf := by rw [← hnf]; unfold wrap64; omega
 have n2 : IntKind.i64.wrap (-first) = nf := by rw [← hnf]; exact IntWalk.i64_in _ (by omega)
 have m1 : wrap64 (9223372036854775807 - first) = mf := by rw [← hmf]; unfold wrap64; omega
 have m2 : IntKind.i64.wrap (9223372036854775807 - first) = mf := by rw [← hmf]; exact IntWalk.i64_in _ (by omega)
 have h1 := h.allocRaw #[.int .i64 base, .int .i64 leader, .bool app, .bool txn, .bool ctl, .int .i64 last, .int .i64 first, .int .i64 maxt, .int .i64 prod, .int .i64 epoch, .int .i64 sq, .slice q l.length cap] 43
 obtain ⟨hb, hhb⟩ : ∃ b, w.heap.size = b := ⟨_, rfl⟩
 rw [hhb] at h1
 obtain ⟨x0, x1, x2, x3, x4, x5, x6, x7, x8, x9, x10, x11, y0, y1, y2, y3, y4, y5, y6, y7, y8, y9, y10, y11⟩ := raw12 (b := hb) (h1)
 have H := Lib.hid h1
 clear h h1 hk hfit hG hnf hmf hf
 go_enter Tryz.func48, Tryz.ntmps48
 go_wp2
 clear x0 y0 x1 y1 x2 y2 x3 y3 x4 y4 x5 y5 x6 y6 x7 y7 x8 y8 x9 y9 x10 y10 x11 y11
 go_loopw [3, 4, 5] (fun gv iv _ wr => ∃ (k : Nat) (ah g : Int), k ≤ l.length ∧ gv = .int .i64 g ∧ iv = .int .i64 k ∧ Hid (rowsC first last ((l.map (·.1)).drop k) ah g = .ok G) ∧ St W0 wr K (.raw hb #[.int .i64 base, .int .i64 leader, .bool app, .bool txn, .bool ctl, .int .i64 last, .int .i64 first, .int .i64 maxt, .int .i64 prod, .int .i64 epoch, .int .i64 sq, .slice q l.length cap] 43 :: L)) (fun _ iv _ _ => l.length - (intOf iv).toNat)
 case atStart => exact ⟨0, -1, first, Nat.zero_le _, rfl, rfl, HT, H.out⟩
 case round =>
  obtain ⟨k, ah, g, hkl, rfl, rfl, HC, hst⟩ := hrel
  clear H
  have H := Lib.hid hst
  clear hst
  obtain ⟨x0, x1, x2, x3, x4, x5, x6, x7, x8, x9, x10, x11, y0, y1, y2, y3, y4, y5, y6, y7, y8, y9, y10, y11⟩ := raw12 (b := hb) (H.out)
  by_cases hlt : k < l.length
  · have hd := drop_recs l k hlt _ rfl
    obtain ⟨b, off, hqq⟩ := recs_at HK.out H.out (by omega)
    subst hqq
    obtain ⟨⟨x, vx⟩, hx⟩ : ∃ x, l[k] = x := ⟨_, rfl⟩
    have cc := recs_cell HK.out H.out k hlt (x, vx) hx
    have hmem : (x, vx) ∈ l := hx ▸ List.getElem_mem hlt
    have xf : x.R ∧ HFit x.hdrs ∧ x.sum ≤ 1000000 := HFT.out (x, vx) hmem
    have xk : K.has (Know.flat RHdr vx 3 x.hdrs) := recs_hdrs HK.out hmem
    obtain ⟨qx, capx, hvx⟩ := flat_form xk H.out
    subst hvx
    simp only at cc
    obtain ⟨c0, c1, c2, c3, c4, c5, c6⟩ := cc
    rw [← Nat.add_assoc] at c1 c2 c3 c4 c5 c6
    have hx1 : l[k].1 = x := by rw [hx]
    have XF := Lib.hid xf
    have XK := Lib.hid xk
    have HX := Lib.hid hx1
    clear xf xk hx1 hx hmem
    have hki : (k : Int) < (l.length : Int) := by omega
    rw [HX.out] at hd
    have hc := HC.out
    rw [hd, rowsC_cons] at hc
    by_cases c1 : x.off ≤ ah ∨ last < x.off
    · rw [if_pos c1] at hc; cases hc
    rw [if_neg c1] at hc
    by_cases c3 : x.time < -first ∨ 9223372036854775807 - first < x.time
    · rw [if_pos c3] at hc; cases hc
    rw [if_neg c3] at hc
    have d1 : decide (mf < x.time) = false := by rw [← HMF.out]; exact decide_eq_false (by omega)
    have d2 : decide (x.time < nf) = false := by rw [← HNF.out]; exact decide_eq_false (by omega)
    obtain ⟨ft, hft⟩ : ∃ t, first + x.time = t := ⟨_, rfl⟩
    have f1 : wrap64 (first + x.time) = ft := by have := HF.out; rw [← hft]; unfold wrap64; omega
    have f2 : IntKind.i64.wrap (first + x.time) = ft := by have := HF.out; rw [← hft]; exact IntWalk.i64_in _ (by omega)
    rw [hft] at hc
    by_cases c4 : g < ft
    · have d4 : decide (g < ft) = true := decide_eq_true c4
      have HC2 := Lib.hid (show rowsC first last ((l.map (·.1)).drop (k + 1)) x.off ft = .ok G by rw [Int.max_eq_right (by omega)] at hc; exact hc)
      clear hd hc c1 c3 c4 hft
      go_wp2
      go_roundw
      case rel => exact ⟨k + 1, x.off, ft, hlt, rfl, by go_num, HC2, H.out⟩
      case measure => first | (simp [intOf]; done) | (simp [intOf]; omega)
    · have d4 : decide (g < ft) = false := decide_eq_false c4
      have HC2 := Lib.hid (show rowsC first last ((l.map (·.1)).drop (k + 1)) x.off g = .ok G by rw [Int.max_eq_left (by omega)] at hc; exact hc)
      clear hd hc c1 c3 c4 hft
      go_wp2
      go_roundw
      case rel => exact ⟨k + 1, x.off, g, hlt, rfl, by go_num, HC2, H.out⟩
      case measure => first | (simp [intOf]; done) | (simp [intOf]; omega)
  · obtain rfl : l.length = k := by omega
    have hc := HC.out
    rw [List.drop_of_length_le (by simp)] at hc
    obtain rfl : g = G := by have hc : Except.ok g = Except.ok G := hc; cases hc; rfl
    clear hc
    go_wp2
    go_ret
    exact ⟨rfl, H.out.drop⟩

end Go.Proofs.YtngojlinfdokpaaGreat
namespace Go.Proofs.YtngojlinfdokpaaGreat
open Go.RowKit

def PrevIs (l : List (RecS × Value)) (k : Nat) (ah : Int) : Prop := (k = 0 ∧ ah = -1) ∨ (∃ (j : Nat) (h : j < l.length), k = j + 1 ∧ (l[j]'h).1.off = ah ∧ 0 ≤ ah)
set_option maxHeartbeats 1000000 in
set_option maxRecDepth 100000 in
theorem ref11_orders (base leader : Int) (app txn ctl : Bool) (last first maxt prod epoch sq : Int) (l : List (RecS × Value)) (q : Option Addr) (cap : Nat) (e : Int) (he : BatS.rows ⟨base, leader, app, txn, ctl, last, first, maxt, prod, epoch, sq, l.map (·.1)⟩ = e) (hf : 0 ≤ first ∧ first ≤ 9223372036854775807) (hfit : FitB l) (hll : l.length ≤ 1000000) {W0 w : World} {K : Know} {L : List Res} (hk : K.has (Know.recs (.slice q l.length cap) l)) (h : St W0 w K L) :
  Calls Tryz.prog 25 #[.agg #[.int .i64 base, .int .i64 leader, .bool app, .bool txn, .bool ctl, .int .i64 last, .int .i64 first, .int .i64 maxt, .int .i64 prod, .int .i64 epoch, .int .i64 sq, .slice q l.length cap]] w fun en w' => en = .returned (.int .i64 e) ∧ St W0 w' K L := by
 obtain ⟨tot, htot⟩ : ∃ t, rowsC first last (l.map (·.1)) (-1) first = t := ⟨_, rfl⟩
 have HE := Lib.hid (show rowsE app maxt tot = e by rw [← he, ← htot]; rfl)
 have HT := Lib.hid htot
 have HLL := Lib.hid hll
 have HK := Lib.hid hk
 have HFT := Lib.hid hfit
 have HF := Lib.hid hf
 obtain ⟨nf, hnf⟩ : ∃ m, -first = m := ⟨_, rfl⟩
 obtain ⟨mf, hmf⟩ : ∃ m, 9223372036854775807 - first = m := ⟨_, rfl⟩
 have HNF := Lib.hid hnf
 have HMF := Lib.hid hmf
 have n1 : wrap64 (-first) = nf := by rw [← hnf]; unfold wrap64; omega
 have n2 : IntKind.i64.wrap (-first) = nf := by rw [← hnf]; exact IntWalk.i64_in _ (by omega)
 have m1 : wrap64 (9223372036854775807 - first) = mf := by rw [← hmf]; unfold wrap64; omega
 have m2 : IntKind.i64.wrap (9223372036854775807 - first) = mf := by rw [← hmf]; exact IntWalk.i64_in _ (by omega)
 have h1 := h.allocRaw #[.int .i64 base, .int .i64 leader, .bool app, .bool txn, .bool ctl, .int .i64 last, .int .i64 first, .int .i64 maxt, .int .i64 prod, .int .i64 epoch, .int .i64 sq, .slice q l.length cap] 43
 obtain ⟨hb, hhb⟩ : ∃ b, w.heap.size = b := ⟨_, rfl⟩
 rw [hhb] at h1
 obtain ⟨x0, x1, x2, x3, x4, x5, x6, x7, x8, x9, x10, x11, y0, y1, y2, y3, y4, y5, y6, y7, y8, y9, y10, y11⟩ := raw12 (b := hb) (h1)
 have H := Lib.hid h1
 have HP := Lib.hid (show PrevIs l 0 (-1) from .inl ⟨rfl, rfl⟩)
 clear h h1 hk hfit he htot hnf hmf hf
 go_enter Tryz.func25, Tryz.ntmps25
 go_wp2
 clear x0 y0 x1 y1 x2 y2 x3 y3 x4 y4 x5 y5 x6 y6 x7 y7 x8 y8 x9 y9 x10 y10 x11 y11
 go_loopw [3, 4, 5] (fun iv _ _ wr => ∃ (k : Nat) (ah g : Int), k ≤ l.length ∧ iv = .int .i64 k ∧ Hid (rowsC first last ((l.map (·.1)).drop k) ah g = tot) ∧ Hid (PrevIs l k ah) ∧ St W0 wr K (.raw hb #[.int .i64 base, .int .i64 leader, .bool app, .bool txn, .bool ctl, .int .i64 last, .int .i64 first, .int .i64 maxt, .int .i64 prod, .int .i64 epoch, .int .i64 sq, .slice q l.length cap] 43 :: L)) (fun iv _ _ _ => l.length - (intOf iv).toNat)
 case atStart => exact ⟨0, -1, first, Nat.zero_le _, rfl, HT, HP, H.out⟩
 case round =>
  obtain ⟨k, ah, g, hkl, rfl, HC, PR, hst⟩ := hrel
  clear H
  have H := Lib.hid hst
  clear hst
  obtain ⟨x0, x1, x2, x3, x4, x5, x6, x7, x8, x9, x10, x11, y0, y1, y2, y3, y4, y5, y6, y7, y8, y9, y10, y11⟩ := raw12 (b := hb) (H.out)
  by_cases hlt : k < l.length
  · have hd := drop_recs l k hlt _ rfl
    obtain ⟨b, off, hqq⟩ := recs_at HK.out H.out (by omega)
    subst hqq
    obtain ⟨⟨x, vx⟩, hx⟩ : ∃ x, l[k] = x := ⟨_, rfl⟩
    have cc := recs_cell HK.out H.out k hlt (x, vx) hx
    have hmem : (x, vx) ∈ l := hx ▸ List.getElem_mem hlt
    have xf : x.R ∧ HFit x.hdrs ∧ x.sum ≤ 1000000 := HFT.out (x, vx) hmem
    have xk : K.has (Know.flat RHdr vx 3 x.hdrs) := recs_hdrs HK.out hmem
    obtain ⟨qx, capx, hvx⟩ := flat_form xk H.out
    subst hvx
    simp only at cc
    obtain ⟨c0, c1, c2, c3, c4, c5, c6⟩ := cc
    rw [← Nat.add_assoc] at c1 c2 c3 c4 c5 c6
    have hx1 : l[k].1 = x := by rw [hx]
    have XF := Lib.hid xf
    have XK := Lib.hid xk
    have HX := Lib.hid hx1
    clear xf xk hx1 hx hmem
    have hki : (k : Int) < (l.length : Int) := by omega
    rw [HX.out] at hd
    have hc := HC.out
    rw [hd, rowsC_cons] at hc
    clear hd
    by_cases c2 : last < x.off
    · have d2 : decide (last < x.off) = true := decide_eq_true c2
      rw [if_pos (.inr c2)] at hc
      clear c2
      obtain rfl : 13 = e := by have := HE.out; rw [← hc] at this; exact this
      go_wp2
      go_ret
      exact ⟨rfl, H.out.drop⟩
    · have d2 : decide (last < x.off) = false := decide_eq_false c2
      have PR2 := Lib.hid (show 0 ≤ x.off → PrevIs l (k + 1) x.off from fun h0 => .inr ⟨k, hlt, rfl, by rw [HX.out], h0⟩)
      rcases PR.out with ⟨hk0, rfl⟩ | ⟨j, hj, hk1, hjo, ha0⟩
      · have dk : decide ((0 : Int) < (k : Int)) = false := decide_eq_false (by omega)
        have dk2 : decide (0 < k) = false := decide_eq_false (by omega)
        clear hk0
        by_cases c5 : x.off < 0
        · have d5 : decide (x.off < 0) = true := decide_eq_true c5
          rw [if_pos (.inl (by omega))] at hc
          clear c2 c5
          obtain rfl : 13 = e := by have := HE.out; rw [← hc] at this; exact this
          go_wp2
          go_ret
          exact ⟨rfl, H.out.drop⟩
        · have d5 : decide (x.off < 0) = false := decide_eq_false c5
          rw [if_neg (by omega)] at hc
          replace PR2 := Lib.hid (PR2.out (by omega))
          clear c2 c5
          by_cases c3 : 9223372036854775807 - first < x.time
          · have d3 : decide (mf < x.time) = true := by rw [← HMF.out]; exact decide_eq_true c3
            rw [if_pos (.inr c3)] at hc
            obtain rfl : 11 = e := by have := HE.out; rw [← hc] at this; exact this
            clear c3 hc
            go_wp2
            go_ret
            exact ⟨rfl, H.out.drop⟩
          · have d3 : decide (mf < x.time) = false := by rw [← HMF.out]; exact decide_eq_false c3
            by_cases c4 : x.time < -first
            · have d4 : decide (x.time < nf) = true := by rw [← HNF.out]; exact decide_eq_true c4
              rw [if_pos (.inl c4)] at hc
              obtain rfl : 11 = e := by have := HE.out; rw [← hc] at this; exact this
              clear c3 c4 hc
              go_wp2
              go_ret
              exact ⟨rfl, H.out.drop⟩
            · have d4 : decide (x.time < nf) = false := by rw [← HNF.out]; exact decide_eq_false c4
              rw [if_neg (by omega)] at hc
              have HC2 := Lib.hid hc
              clear c3 c4 hc
              go_wp2
              go_roundw
              case rel => exact ⟨k + 1, x.off, _, hlt, by go_num, HC2, PR2, H.out⟩
              case measure => first | (simp [intOf]; done) | (simp [intOf]; omega)
      · have dk : decide ((0 : Int) < (k : Int)) = true := decide_eq_true (by omega)
        have dk2 : decide (0 < k) = true := decide_eq_true (by omega)
        have kj : (k : Int) - 1 = (j : Int) := by omega
        obtain ⟨⟨y, vy⟩, hy⟩ : ∃ y, l[j] = y := ⟨_, rfl⟩
        have cy := recs_cell HK.out H.out j hj (y, vy) hy
        rw [hy] at hjo
        simp only at cy hjo
        obtain ⟨_, g1, _⟩ := cy
        rw [← Nat.add_assoc, hjo] at g1
        have hjl : (j : Int) < (l.length : Int) := by omega
        have hj0 : (0 : Int) ≤ (j : Int) := by omega
        clear hy hk1 hj
        by_cases c1 : x.off ≤ ah
        · have d1 : decide (x.off ≤ ah) = true := decide_eq_true c1
          rw [if_pos (.inl c1)] at hc
          clear c1 c2
          obtain rfl : 13 = e := by have := HE.out; rw [← hc] at this; exact this
          go_wp2
          go_ret
          exact ⟨rfl, H.out.drop⟩
        · have d1 : decide (x.off ≤ ah) = false := decide_eq_false c1
          have d5 : decide (x.off < 0) = false := decide_eq_false (by omega)
          rw [if_neg (by omega)] at hc
          replace PR2 := Lib.hid (PR2.out (by omega))
          clear c1 c2
          by_cases c3 : 9223372036854775807 - first < x.time
          · have d3 : decide (mf < x.time) = true := by rw [← HMF.out]; exact decide_eq_true c3
            rw [if_pos (.inr c3)] at hc
            obtain rfl : 11 = e := by have := HE.out; rw [← hc] at this; exact this
            clear c3 hc
            go_wp2
            go_ret
            exact ⟨rfl, H.out.drop⟩
          · have d3 : decide (mf < x.time) = false := by rw [← HMF.out]; exact decide_eq_false c3
            by_cases c4 : x.time < -first
            · have d4 : decide (x.time < nf) = true := by rw [← HNF.out]; exact decide_eq_true c4
              rw [if_pos (.inl c4)] at hc
              obtain rfl : 11 = e := by have := HE.out; rw [← hc] at this; exact this
              clear c3 c4 hc
              go_wp2
              go_ret
              exact ⟨rfl, H.out.drop⟩
            · have d4 : decide (x.time < nf) = false := by rw [← HNF.out]; exact decide_eq_false c4
              rw [if_neg (by omega)] at hc
              have HC2 := Lib.hid hc
              clear c3 c4 hc
              go_wp2
              go_roundw
              case rel => exact ⟨k + 1, x.off, _, hlt, by go_num, HC2, PR2, H.out⟩
              case measure => first | (simp [intOf]; done) | (simp [intOf]; omega)
  · obtain rfl : l.length = k := by omega
    have hc := HC.out
    rw [List.drop_of_length_le (by simp)] at hc
    obtain rfl : Except.ok g = tot := hc
    have hee := HE.out
    simp only [rowsE] at hee
    cases app with
    | true =>
      obtain rfl : 0 = e := by rw [← hee]; rfl
      clear hee
      go_upto_region 10 with (fail)
      have hs := H.out.drew
      refine wp_region_held_drew (S := fun w' => w'.cell? ⟨hb, 0, none⟩ = some (.int .i64 base) ∧ w'.cell? ⟨hb, 1, none⟩ = some (.int .i64 leader) ∧ w'.cell? ⟨hb, 2, none⟩ = some (.bool true) ∧ w'.cell? ⟨hb, 3, none⟩ = some (.bool txn) ∧ w'.cell? ⟨hb, 4, none⟩ = some (.bool ctl) ∧ w'.cell? ⟨hb, 5, none⟩ = some (.int .i64 last) ∧ w'.cell? ⟨hb, 6, none⟩ = some (.int .i64 first) ∧ w'.cell? ⟨hb, 7, none⟩ = some (.int .i64 maxt) ∧ w'.cell? ⟨hb, 8, none⟩ = some (.int .i64 prod) ∧ w'.cell? ⟨hb, 9, none⟩ = some (.int .i64 epoch) ∧ w'.cell? ⟨hb, 10, none⟩ = some (.int .i64 sq) ∧ w'.cell? ⟨hb, 11, none⟩ = some (.slice q l.length cap)) (by kernel_rfl) (let ⟨x0, x1, x2, x3, x4, x5, x6, x7, x8, x9, x10, x11, _⟩ := raw12 (b := hb) hs; ⟨x0, x1, x2, x3, x4, x5, x6, x7, x8, x9, x10, x11⟩) (fun hHeld => ?_)
      refine tQ 0 ⟨some 60, .fieldAddr 43 (.tmp 1) 2, 0, "ref.go:60", #[], none⟩ ?_; simp only [Act.put, sA, sB, sC]
      refine tQ 1 ⟨some 61, .load 4 (.tmp 60), 4, "ref.go:60", #[.mk 0 .data], none⟩ ?_; simp only [Act.put, sA, sB, sC]
      refine tQ 2 ⟨some 62, .unOp UnOp.not 4 (.tmp 61), 4, "ref.go:60", #[.mk 1 .data], none⟩ ?_; simp only [Act.put, sA, sB, sC]
      refine tQ 3 ⟨some 63, .move (.tmp 62), 4, "ref.go:60", #[.mk 2 .data], none⟩ ?_; simp only [Act.put, sA, sB, sC]
      refine wpAnyH_take (i := 4) (oi := ⟨some 64, .load 43 (.tmp 1), 43, "ref.go:60", #[.mk 3 .guard], some (3, true)⟩) (v := undef) rfl (by kernel_rfl) (by kernel_rfl) (by kernel_rfl) (fun _ _ _ h => h) (Or.inr ⟨by rfl, rfl⟩) (by assumption) ?_
      simp only [Act.put, sA, sB, sC]
      refine wpAnyH_take (i := 5) (oi := ⟨some 65, .call { callee := .value (.func 48), args := #[.tmp 64], argTypes := #[43] }, 3, "ref.go:60", #[.mk 4 .data, .mk 3 .chain, .mk 3 .guard], some (3, true)⟩) (v := undef) rfl (by kernel_rfl) (by kernel_rfl) (by kernel_rfl) (fun _ _ _ h => h) (Or.inr ⟨by rfl, rfl⟩) (by assumption) ?_
      simp only [Act.put, sA, sB, sC]
      refine wpAnyH_take (i := 6) (oi := ⟨some 66, .fieldAddr 43 (.tmp 1) 7, 0, "ref.go:60", #[.mk 3 .guard], some (3, true)⟩) (v := undef) rfl (by kernel_rfl) (by kernel_rfl) (by kernel_rfl) (fun _ _ _ h => h) (Or.inr ⟨by rfl, rfl⟩) (by assumption) ?_
      simp only [Act.put, sA, sB, sC]
      refine wpAnyH_take (i := 7) (oi := ⟨some 67, .load 3 (.tmp 66), 3, "ref.go:60", #[.mk 6 .data, .mk 3 .guard], some (3, true)⟩) (v := undef) rfl (by kernel_rfl) (by kernel_rfl) (by kernel_rfl) (fun _ _ _ h => h) (Or.inr ⟨by rfl, rfl⟩) (by assumption) ?_
      simp only [Act.put, sA, sB, sC]
      refine wpAnyH_take (i := 8) (oi := ⟨some 68, .binOp .neq 3 (.tmp 65) (.tmp 67) 3, 4, "ref.go:60", #[.mk 5 .data, .mk 7 .data, .mk 3 .guard], some (3, true)⟩) (v := undef) rfl (by kernel_rfl) (by kernel_rfl) (by kernel_rfl) (fun _ _ _ h => h) (Or.inr ⟨by rfl, rfl⟩) (by assumption) ?_
      simp only [Act.put, sA, sB, sC]
      refine tQ 9 ⟨some 69, .pick (.tmp 63) (.tmp 68) (.const (Value.bool false)), 4, "ref.go:60", #[.mk 3 .data, .mk 8 .data], none⟩ ?_; simp only [Act.put, sA, sB, sC]
      refine wpAnyH_done (by kernel_rfl) ?_ _
      clear hHeld
      go_wp2_with fail
      go_ret
      exact ⟨rfl, hs.drop⟩
    | false =>
      have HG := Lib.hid (show rowsC first last (l.map (·.1)) (-1) first = .ok g from HT.out)
      by_cases c1 : maxt = g
      · subst c1
        obtain rfl : 0 = e := by rw [← hee]; simp
        clear hee
        go_upto_region 10 with (fail)
        have hs := H.out.drew
        refine wp_region_held_drew (S := fun w' => w'.cell? ⟨hb, 0, none⟩ = some (.int .i64 base) ∧ w'.cell? ⟨hb, 1, none⟩ = some (.int .i64 leader) ∧ w'.cell? ⟨hb, 2, none⟩ = some (.bool false) ∧ w'.cell? ⟨hb, 3, none⟩ = some (.bool txn) ∧ w'.cell? ⟨hb, 4, none⟩ = some (.bool ctl) ∧ w'.cell? ⟨hb, 5, none⟩ = some (.int .i64 last) ∧ w'.cell? ⟨hb, 6, none⟩ = some (.int .i64 first) ∧ w'.cell? ⟨hb, 7, none⟩ = some (.int .i64 maxt) ∧ w'.cell? ⟨hb, 8, none⟩ = some (.int .i64 prod) ∧ w'.cell? ⟨hb, 9, none⟩ = some (.int .i64 epoch) ∧ w'.cell? ⟨hb, 10, none⟩ = some (.int .i64 sq) ∧ w'.cell? ⟨hb, 11, none⟩ = some (.slice q l.length cap)) (by kernel_rfl) (let ⟨x0, x1, x2, x3, x4, x5, x6, x7, x8, x9, x10, x11, _⟩ := raw12 (b := hb) hs; ⟨x0, x1, x2, x3, x4, x5, x6, x7, x8, x9, x10, x11⟩) (fun hHeld => ?_)
        refine tQ 0 ⟨some 60, .fieldAddr 43 (.tmp 1) 2, 0, "ref.go:60", #[], none⟩ ?_; simp only [Act.put, sA, sB, sC]
        refine tQ 1 ⟨some 61, .load 4 (.tmp 60), 4, "ref.go:60", #[.mk 0 .data], none⟩ ?_; simp only [Act.put, sA, sB, sC]
        refine tQ 2 ⟨some 62, .unOp UnOp.not 4 (.tmp 61), 4, "ref.go:60", #[.mk 1 .data], none⟩ ?_; simp only [Act.put, sA, sB, sC]
        refine tQ 3 ⟨some 63, .move (.tmp 62), 4, "ref.go:60", #[.mk 2 .data], none⟩ ?_; simp only [Act.put, sA, sB, sC]
        refine tQ 4 ⟨some 64, .load 43 (.tmp 1), 43, "ref.go:60", #[.mk 3 .guard], some (3, true)⟩ ?_; simp only [Act.put, sA, sB, sC]
        refine tQ 6 ⟨some 66, .fieldAddr 43 (.tmp 1) 7, 0, "ref.go:60", #[.mk 3 .guard], some (3, true)⟩ ?_; simp only [Act.put, sA, sB, sC]
        refine tQ 7 ⟨some 67, .load 3 (.tmp 66), 3, "ref.go:60", #[.mk 6 .data, .mk 3 .guard], some (3, true)⟩ ?_; simp only [Act.put, sA, sB, sC]
        refine wpAnyH_ready (rs := [5]) (by kernel_rfl) (by simp) (AllReadyH.cons (o := ⟨some 65, .call { callee := .value (.func 48), args := #[.tmp 64], argTypes := #[43] }, 3, "ref.go:60", #[.mk 4 .data, .mk 3 .chain, .mk 3 .guard], some (3, true)⟩) rfl (fun KK hK => ?_) AllReadyH.nil)
        · go_simp
          go_at_call 48
          with_reducible refine (ref11_times base leader false txn ctl last first maxt prod epoch sq l _ _ _ HG.out HF.out HFT.out HLL.out HK.out hs).mono ?_
          rintro e wq ⟨rfl, hs⟩
          refine hK.out _ _ (let ⟨x0, x1, x2, x3, x4, x5, x6, x7, x8, x9, x10, x11, _⟩ := raw12 (b := hb) hs; ⟨x0, x1, x2, x3, x4, x5, x6, x7, x8, x9, x10, x11⟩) (fun hHeld => ?_)
          clear hK KK
          try simp only [Act.put, sA, sB, sC]
          refine tQ 8 ⟨some 68, .binOp .neq 3 (.tmp 65) (.tmp 67) 3, 4, "ref.go:60", #[.mk 5 .data, .mk 7 .data, .mk 3 .guard], some (3, true)⟩ ?_; simp only [Act.put, sA, sB, sC]
          refine tQ 9 ⟨some 69, .pick (.tmp 63) (.tmp 68) (.const (Value.bool false)), 4, "ref.go:60", #[.mk 3 .data, .mk 8 .data], none⟩ ?_; simp only [Act.put, sA, sB, sC]
          refine wpAnyH_done (by kernel_rfl) ?_ _
          clear hHeld
          go_wp2_with fail
          go_ret
          exact ⟨rfl, hs.drop⟩
      · obtain rfl : 11 = e := by rw [← hee]; simp [c1]
        have b1 : (g == maxt) = false := by rw [beq_eq_false_iff_ne]; exact fun h => c1 h.symm
        have b2 : (g != maxt) = true := by simp [bne, b1]
        clear hee c1
        go_upto_region 10 with (fail)
        have hs := H.out.drew
        refine wp_region_held_drew (S := fun w' => w'.cell? ⟨hb, 0, none⟩ = some (.int .i64 base) ∧ w'.cell? ⟨hb, 1, none⟩ = some (.int .i64 leader) ∧ w'.cell? ⟨hb, 2, none⟩ = some (.bool false) ∧ w'.cell? ⟨hb, 3, none⟩ = some (.bool txn) ∧ w'.cell? ⟨hb, 4, none⟩ = some (.bool ctl) ∧ w'.cell? ⟨hb, 5, none⟩ = some (.int .i64 last) ∧ w'.cell? ⟨hb, 6, none⟩ = some (.int .i64 first) ∧ w'.cell? ⟨hb, 7, none⟩ = some (.int .i64 maxt) ∧ w'.cell? ⟨hb, 8, none⟩ = some (.int .i64 prod) ∧ w'.cell? ⟨hb, 9, none⟩ = some (.int .i64 epoch) ∧ w'.cell? ⟨hb, 10, none⟩ = some (.int .i64 sq) ∧ w'.cell? ⟨hb, 11, none⟩ = some (.slice q l.length cap)) (by kernel_rfl) (let ⟨x0, x1, x2, x3, x4, x5, x6, x7, x8, x9, x10, x11, _⟩ := raw12 (b := hb) hs; ⟨x0, x1, x2, x3, x4, x5, x6, x7, x8, x9, x10, x11⟩) (fun hHeld => ?_)
        refine tQ 0 ⟨some 60, .fieldAddr 43 (.tmp 1) 2, 0, "ref.go:60", #[], none⟩ ?_; simp only [Act.put, sA, sB, sC]
        refine tQ 1 ⟨some 61, .load 4 (.tmp 60), 4, "ref.go:60", #[.mk 0 .data], none⟩ ?_; simp only [Act.put, sA, sB, sC]
        refine tQ 2 ⟨some 62, .unOp UnOp.not 4 (.tmp 61), 4, "ref.go:60", #[.mk 1 .data], none⟩ ?_; simp only [Act.put, sA, sB, sC]
        refine tQ 3 ⟨some 63, .move (.tmp 62), 4, "ref.go:60", #[.mk 2 .data], none⟩ ?_; simp only [Act.put, sA, sB, sC]
        refine tQ 4 ⟨some 64, .load 43 (.tmp 1), 43, "ref.go:60", #[.mk 3 .guard], some (3, true)⟩ ?_; simp only [Act.put, sA, sB, sC]
        refine tQ 6 ⟨some 66, .fieldAddr 43 (.tmp 1) 7, 0, "ref.go:60", #[.mk 3 .guard], some (3, true)⟩ ?_; simp only [Act.put, sA, sB, sC]
        refine tQ 7 ⟨some 67, .load 3 (.tmp 66), 3, "ref.go:60", #[.mk 6 .data, .mk 3 .guard], some (3, true)⟩ ?_; simp only [Act.put, sA, sB, sC]
        refine wpAnyH_ready (rs := [5]) (by kernel_rfl) (by simp) (AllReadyH.cons (o := ⟨some 65, .call { callee := .value (.func 48), args := #[.tmp 64], argTypes := #[43] }, 3, "ref.go:60", #[.mk 4 .data, .mk 3 .chain, .mk 3 .guard], some (3, true)⟩) rfl (fun KK hK => ?_) AllReadyH.nil)
        · go_simp
          go_at_call 48
          with_reducible refine (ref11_times base leader false txn ctl last first maxt prod epoch sq l _ _ _ HG.out HF.out HFT.out HLL.out HK.out hs).mono ?_
          rintro e wq ⟨rfl, hs⟩
          refine hK.out _ _ (let ⟨x0, x1, x2, x3, x4, x5, x6, x7, x8, x9, x10, x11, _⟩ := raw12 (b := hb) hs; ⟨x0, x1, x2, x3, x4, x5, x6, x7, x8, x9, x10, x11⟩) (fun hHeld => ?_)
          clear hK KK
          try simp only [Act.put, sA, sB, sC]
          refine tQ 8 ⟨some 68, .binOp .neq 3 (.tmp 65) (.tmp 67) 3, 4, "ref.go:60", #[.mk 5 .data, .mk 7 .data, .mk 3 .guard], some (3, true)⟩ ?_; simp only [Act.put, sA, sB, sC]
          refine tQ 9 ⟨some 69, .pick (.tmp 63) (.tmp 68) (.const (Value.bool false)), 4, "ref.go:60", #[.mk 3 .data, .mk 8 .data], none⟩ ?_; simp only [Act.put, sA, sB, sC]
          refine wpAnyH_done (by kernel_rfl) ?_ _
          clear hHeld
          go_wp2_with fail
          go_ret
          exact ⟨rfl, hs.drop⟩

end Go.Proofs.YtngojlinfdokpaaGreat
