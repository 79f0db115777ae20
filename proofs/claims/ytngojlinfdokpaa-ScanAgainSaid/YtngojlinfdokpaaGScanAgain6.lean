/- A text. -/
import Derived.Test.YtngojlinfdokpaaGScanAgain1
import Derived.Test.YtngojlinfdokpaaGScanAgain4
import Derived.Test.YtngojlinfdokpaaGScanAgain5
import Derived.Test.YtngojlinfdokpaaGScanAgain3
import Derived.RegionTactic
import Derived.Deep.RegionHeld3
import Derived.Deep.DeepCutAuto
import Derived.ScopeJumps
import Derived.Test.YtngojlinfdokpaaCtl3
import Derived.Test.YtngojlinfdokpaaHdr3
import Derived.Test.YtngojlinfdokpaaS1
import Derived.Test.YtngojlinfdokpaaBytesR
/- A text. -/
namespace Go.Proofs.Ytngojlinfdokpaa
open Go.RowKit

theorem peek_nil {W0 w : World} {K : Know} {L : List Res} (h : St W0 w K L) : Calls Try.prog 44 #[.string ⟨#[]⟩] w fun en w' => en = .returned (.tuple #[.int .i64 0, .int .i64 0]) ∧ St W0 w' K L := prefix_peek [] 0 0 rfl (by decide) h
theorem peek_short {R : Bs} (h : R.length < 61) : peekS R = (0, 0) := by unfold peekS; rw [if_pos h]
theorem peek_err {R : Bs} {e : Int} (h : ¬ R.length < 61) (hp : rePre R = .error e) : peekS (R.take 61) = (0, e) := by
 unfold peekS
 rw [if_neg (by rw [List.length_take]; omega), rePre_take R (by omega), hp]
theorem peek_ok {R : Bs} {x : PreS} (h : ¬ R.length < 61) (hp : rePre R = .ok x) : peekS (R.take 61) = (x.len + 12, 0) := by
 unfold peekS
 rw [if_neg (by rw [List.length_take]; omega), rePre_take R (by omega), hp]
theorem reBat_take {R : Bs} {x : PreS} (hp : rePre R = .ok x) (h : 61 + (x.len - 49).toNat ≤ R.length) : reBat ((R.take (61 + (x.len - 49).toNat)).drop 0) = match asmB x (R.take 61) ((R.drop 61).take (x.len - 49).toNat) with | .error e => .error e | .ok b => .ok (b, 61 + (x.len - 49).toNat) := by
 rw [List.drop_zero]
 have hl : (R.take (61 + (x.len - 49).toNat)).length = 61 + (x.len - 49).toNat := by rw [List.length_take]; omega
 have hpp := rePre_app (R.take (61 + (x.len - 49).toNat)) (R.drop (61 + (x.len - 49).toNat)) (by rw [hl]; omega)
 rw [List.take_append_drop] at hpp
 unfold reBat
 rw [← hpp, hp]
 simp only
 rw [if_neg (by rw [hl]; omega), List.take_take, Nat.min_eq_left (by omega), List.drop_take, Nat.add_sub_cancel_left, List.take_take, Nat.min_self]
 cases asmB x (R.take 61) ((R.drop 61).take (x.len - 49).toNat) <;> rfl

set_option maxHeartbeats 4000000 in
set_option maxRecDepth 100000 in
theorem first_none {v0 : Value} {n0 : Nat} {s0 : Bs}  {W0 w : World} {K : Know} {L : List Res} (h : St W0 w K (.row v0 5 1 n0 (bvals s0) :: L)) :
  Calls Try.prog 32 #[.slice none 0 0] w fun en w' => en = .returned (.tuple #[.agg #[.int .i64 0, .int .i64 0, .bool false, .bool false, .bool false, .int .i64 0, .int .i64 0, .int .i64 0, .int .i64 0, .int .i64 0, .int .i64 0, .slice none 0 0], .int .i64 0, .int .i64 0]) ∧ St W0 w' K (.row v0 5 1 n0 (bvals s0) :: L) := by
 obtain ⟨rb, hrb⟩ : ∃ b, w.heap.size = b := ⟨_, rfl⟩
 have g1 := (h.allocRaw #[.int .i64 0, .int .i64 0, .bool false, .bool false, .bool false, .int .i64 0, .int .i64 0, .int .i64 0, .int .i64 0, .int .i64 0, .int .i64 0, .slice none 0 0] 37).p1
 rw [hrb] at g1
 have H := Lib.hid g1
 have hc0 := conv_nil0 (w.alloc (.cells #[.int .i64 0, .int .i64 0, .bool false, .bool false, .bool false, .int .i64 0, .int .i64 0, .int .i64 0, .int .i64 0, .int .i64 0, .int .i64 0, .slice none 0 0] 37 (0, 0)))
 clear g1
 clear h 
 go_enter Try.func32, Try.ntmps32
 go_wp2_with (go_at_call 44; (with_reducible refine (peek_nil H.out).mono ?_); rintro e_ wn ⟨rfl, h⟩; obtain ⟨x0, x1, x2, x3, x4, x5, x6, x7, x8, x9, x10, x11, y0, y1, y2, y3, y4, y5, y6, y7, y8, y9, y10, y11⟩ := raw12 (b := rb) (h.p1); replace H := Lib.hid h; clear h)
 have hz : St W0 _ _ (.raw rb #[.int .i64 0, .int .i64 0, .bool false, .bool false, .bool false, .int .i64 0, .int .i64 0, .int .i64 0, .int .i64 0, .int .i64 0, .int .i64 0, .slice none 0 0] 37 :: _) := St.sets12 _ _ _ _ _ _ _ _ _ _ _ _ (H.out.p1)
 refine bodyPost_ret (rc_cell_tmp3S rfl _ _ rb [.int .i64 0, .int .i64 0, .bool false, .bool false, .bool false, .int .i64 0, .int .i64 0, .int .i64 0, .int .i64 0, .int .i64 0, .int .i64 0, .slice none 0 0] _ rfl (rc_range hz) Try.underlying37 rfl (by kernel_rfl)) rfl ?_
 exact ⟨rfl, hz.drop⟩

set_option maxHeartbeats 4000000 in
set_option maxRecDepth 100000 in
theorem first_short {v0 : Value} {n0 : Nat} {s0 : Bs} (ad : Addr) (m c : Nat) (R : Bs) (hm : m = R.length) (hmc : m ≤ c) (hr : R.length ≤ 1000000) (hcv : ∀ (W0 w : World) (K : Know) (L : List Res), St W0 w K (.row v0 5 1 n0 (bvals s0) :: L) → ∀ k, k ≤ m → ∀ c', (convert 33 9 (.slice (some ad) k c')).run Try.prog w = .ok (.string (bb (R.take k))) w) (h61 : R.length < 61) {W0 w : World} {K : Know} {L : List Res} (h : St W0 w K (.row v0 5 1 n0 (bvals s0) :: L)) :
  Calls Try.prog 32 #[.slice (some ad) m c] w fun en w' => en = .returned (.tuple #[.agg #[.int .i64 0, .int .i64 0, .bool false, .bool false, .bool false, .int .i64 0, .int .i64 0, .int .i64 0, .int .i64 0, .int .i64 0, .int .i64 0, .slice none 0 0], .int .i64 0, .int .i64 0]) ∧ St W0 w' K (.row v0 5 1 n0 (bvals s0) :: L) := by
 obtain ⟨rb, hrb⟩ : ∃ b, w.heap.size = b := ⟨_, rfl⟩
 have g1 := (h.allocRaw #[.int .i64 0, .int .i64 0, .bool false, .bool false, .bool false, .int .i64 0, .int .i64 0, .int .i64 0, .int .i64 0, .int .i64 0, .int .i64 0, .slice none 0 0] 37).p1
 rw [hrb] at g1
 have H := Lib.hid g1
 have hmi : (m : Int) ≤ 1000000 := by omega
 have hmci : (m : Int) ≤ (c : Int) := by omega
 have HCVH := Lib.hid hcv
 have hmin : min (m : Int) 61 = (m : Int) := by omega
 have hcw := hcv _ _ _ _ g1 m (Nat.le_refl _)
 have ht : R.take m = R := List.take_of_length_le (by omega)
 rw [ht] at hcw
 have HP := Lib.hid (peek_short h61)
 have HL := Lib.hid (show R.length ≤ 140737488355328 by omega)
 clear g1 ht h61
 clear h  hcv hm hr
 go_enter Try.func32, Try.ntmps32
 go_wp2_with (go_at_call 44; (with_reducible refine (prefix_peek R 0 0 HP.out HL.out H.out).mono ?_); rintro e_ wn ⟨rfl, h⟩; obtain ⟨x0, x1, x2, x3, x4, x5, x6, x7, x8, x9, x10, x11, y0, y1, y2, y3, y4, y5, y6, y7, y8, y9, y10, y11⟩ := raw12 (b := rb) (h.p1); replace H := Lib.hid h; clear h)
 have hz : St W0 _ _ (.raw rb #[.int .i64 0, .int .i64 0, .bool false, .bool false, .bool false, .int .i64 0, .int .i64 0, .int .i64 0, .int .i64 0, .int .i64 0, .int .i64 0, .slice none 0 0] 37 :: _) := St.sets12 _ _ _ _ _ _ _ _ _ _ _ _ (H.out.p1)
 refine bodyPost_ret (rc_cell_tmp3S rfl _ _ rb [.int .i64 0, .int .i64 0, .bool false, .bool false, .bool false, .int .i64 0, .int .i64 0, .int .i64 0, .int .i64 0, .int .i64 0, .int .i64 0, .slice none 0 0] _ rfl (rc_range hz) Try.underlying37 rfl (by kernel_rfl)) rfl ?_
 exact ⟨rfl, hz.drop⟩

set_option maxHeartbeats 4000000 in
set_option maxRecDepth 100000 in
theorem first_pre {v0 : Value} {n0 : Nat} {s0 : Bs} (ad : Addr) (m c : Nat) (R : Bs) (hm : m = R.length) (hmc : m ≤ c) (hr : R.length ≤ 1000000) (hcv : ∀ (W0 w : World) (K : Know) (L : List Res), St W0 w K (.row v0 5 1 n0 (bvals s0) :: L) → ∀ k, k ≤ m → ∀ c', (convert 33 9 (.slice (some ad) k c')).run Try.prog w = .ok (.string (bb (R.take k))) w) (h61 : ¬ R.length < 61) (e : Int) (hp : rePre R = .error e) {W0 w : World} {K : Know} {L : List Res} (h : St W0 w K (.row v0 5 1 n0 (bvals s0) :: L)) :
   Calls Try.prog 32 #[.slice (some ad) m c] w fun en w' => en = .returned (.tuple #[.agg #[.int .i64 0, .int .i64 0, .bool false, .bool false, .bool false, .int .i64 0, .int .i64 0, .int .i64 0, .int .i64 0, .int .i64 0, .int .i64 0, .slice none 0 0], .int .i64 0, .int .i64 e]) ∧ St W0 w' K (.row v0 5 1 n0 (bvals s0) :: L) := by
 obtain ⟨rb, hrb⟩ : ∃ b, w.heap.size = b := ⟨_, rfl⟩
 have g1 := (h.allocRaw #[.int .i64 0, .int .i64 0, .bool false, .bool false, .bool false, .int .i64 0, .int .i64 0, .int .i64 0, .int .i64 0, .int .i64 0, .int .i64 0, .slice none 0 0] 37).p1
 rw [hrb] at g1
 have H := Lib.hid g1
 have hmi : (m : Int) ≤ 1000000 := by omega
 have hmci : (m : Int) ≤ (c : Int) := by omega
 have HCVH := Lib.hid hcv
 have hm61 : (61 : Int) ≤ (m : Int) := by omega
 have HL := Lib.hid (show (R.take 61).length ≤ 140737488355328 by rw [List.length_take]; omega)
 have HP := Lib.hid (peek_err h61 hp)
 have h0 := rePre_err hp
 have g1e : (e == 0) = false := by rw [beq_eq_false_iff_ne]; exact h0
 have g2e : (e != 0) = true := by simp [bne, g1e]
 clear hp h0
 by_cases hA : m ≤ 61
 · skip
   have hAi : (m : Int) ≤ 61 := by omega
   have hcw := hcv _ _ _ _ g1 m (Nat.le_refl _)
   rw [show R.take m = R.take 61 by rw [show m = 61 by omega]] at hcw
   clear g1 hA h  hcv hm hr
   go_enter Try.func32, Try.ntmps32
   go_wp2_with (go_at_call 44; (with_reducible refine (prefix_peek (R.take 61) 0 e HP.out HL.out H.out).mono ?_); rintro e_ wn ⟨rfl, h⟩; obtain ⟨x0, x1, x2, x3, x4, x5, x6, x7, x8, x9, x10, x11, y0, y1, y2, y3, y4, y5, y6, y7, y8, y9, y10, y11⟩ := raw12 (b := rb) (h.p1); replace H := Lib.hid h; clear h)
   have hz : St W0 _ _ (.raw rb #[.int .i64 0, .int .i64 0, .bool false, .bool false, .bool false, .int .i64 0, .int .i64 0, .int .i64 0, .int .i64 0, .int .i64 0, .int .i64 0, .slice none 0 0] 37 :: _) := St.sets12 _ _ _ _ _ _ _ _ _ _ _ _ (H.out.p1)
   refine bodyPost_ret (rc_cell_tmp3S rfl _ _ rb [.int .i64 0, .int .i64 0, .bool false, .bool false, .bool false, .int .i64 0, .int .i64 0, .int .i64 0, .int .i64 0, .int .i64 0, .int .i64 0, .slice none 0 0] _ rfl (rc_range hz) Try.underlying37 rfl (by kernel_rfl)) rfl ?_
   exact ⟨rfl, hz.drop⟩
 · skip
   have hAi : ¬ (m : Int) ≤ 61 := by omega
   have hcw := hcv _ _ _ _ g1 61 (by omega)
   clear g1 hA h  hcv hm hr
   go_enter Try.func32, Try.ntmps32
   go_wp2_with (go_at_call 44; (with_reducible refine (prefix_peek (R.take 61) 0 e HP.out HL.out H.out).mono ?_); rintro e_ wn ⟨rfl, h⟩; obtain ⟨x0, x1, x2, x3, x4, x5, x6, x7, x8, x9, x10, x11, y0, y1, y2, y3, y4, y5, y6, y7, y8, y9, y10, y11⟩ := raw12 (b := rb) (h.p1); replace H := Lib.hid h; clear h)
   have hz : St W0 _ _ (.raw rb #[.int .i64 0, .int .i64 0, .bool false, .bool false, .bool false, .int .i64 0, .int .i64 0, .int .i64 0, .int .i64 0, .int .i64 0, .int .i64 0, .slice none 0 0] 37 :: _) := St.sets12 _ _ _ _ _ _ _ _ _ _ _ _ (H.out.p1)
   refine bodyPost_ret (rc_cell_tmp3S rfl _ _ rb [.int .i64 0, .int .i64 0, .bool false, .bool false, .bool false, .int .i64 0, .int .i64 0, .int .i64 0, .int .i64 0, .int .i64 0, .int .i64 0, .slice none 0 0] _ rfl (rc_range hz) Try.underlying37 rfl (by kernel_rfl)) rfl ?_
   exact ⟨rfl, hz.drop⟩

set_option maxHeartbeats 4000000 in
set_option maxRecDepth 100000 in
theorem first_torn {v0 : Value} {n0 : Nat} {s0 : Bs} (ad : Addr) (m c : Nat) (R : Bs) (hm : m = R.length) (hmc : m ≤ c) (hr : R.length ≤ 1000000) (hcv : ∀ (W0 w : World) (K : Know) (L : List Res), St W0 w K (.row v0 5 1 n0 (bvals s0) :: L) → ∀ k, k ≤ m → ∀ c', (convert 33 9 (.slice (some ad) k c')).run Try.prog w = .ok (.string (bb (R.take k))) w) (h61 : ¬ R.length < 61) (x : PreS) (hp : rePre R = .ok x) (ht : R.length < 61 + (x.len - 49).toNat) {W0 w : World} {K : Know} {L : List Res} (h : St W0 w K (.row v0 5 1 n0 (bvals s0) :: L)) :
   Calls Try.prog 32 #[.slice (some ad) m c] w fun en w' => en = .returned (.tuple #[.agg #[.int .i64 0, .int .i64 0, .bool false, .bool false, .bool false, .int .i64 0, .int .i64 0, .int .i64 0, .int .i64 0, .int .i64 0, .int .i64 0, .slice none 0 0], .int .i64 0, .int .i64 0]) ∧ St W0 w' K (.row v0 5 1 n0 (bvals s0) :: L) := by
 obtain ⟨rb, hrb⟩ : ∃ b, w.heap.size = b := ⟨_, rfl⟩
 have g1 := (h.allocRaw #[.int .i64 0, .int .i64 0, .bool false, .bool false, .bool false, .int .i64 0, .int .i64 0, .int .i64 0, .int .i64 0, .int .i64 0, .int .i64 0, .slice none 0 0] 37).p1
 rw [hrb] at g1
 have H := Lib.hid g1
 have hmi : (m : Int) ≤ 1000000 := by omega
 have hmci : (m : Int) ≤ (c : Int) := by omega
 have HCVH := Lib.hid hcv
 have hm61 : (61 : Int) ≤ (m : Int) := by omega
 have HL := Lib.hid (show (R.take 61).length ≤ 140737488355328 by rw [List.length_take]; omega)
 have hpl := (rePre_ok hp).2.2.2.1
 obtain ⟨nl, hnl⟩ : ∃ nl, x.len + 12 = nl := ⟨_, rfl⟩
 have HP := Lib.hid (peek_ok h61 hp)
 rw [hnl] at HP
 have hlt : (m : Int) < nl := by omega
 clear hp ht hpl hnl
 by_cases hA : m ≤ 61
 · skip
   have hAi : (m : Int) ≤ 61 := by omega
   have hcw := hcv _ _ _ _ g1 m (Nat.le_refl _)
   rw [show R.take m = R.take 61 by rw [show m = 61 by omega]] at hcw
   clear g1 hA h  hcv hm hr
   go_enter Try.func32, Try.ntmps32
   go_wp2_with (go_at_call 44; (with_reducible refine (prefix_peek (R.take 61) nl 0 HP.out HL.out H.out).mono ?_); rintro e_ wn ⟨rfl, h⟩; obtain ⟨x0, x1, x2, x3, x4, x5, x6, x7, x8, x9, x10, x11, y0, y1, y2, y3, y4, y5, y6, y7, y8, y9, y10, y11⟩ := raw12 (b := rb) (h.p1); replace H := Lib.hid h; clear h)
   have hz : St W0 _ _ (.raw rb #[.int .i64 0, .int .i64 0, .bool false, .bool false, .bool false, .int .i64 0, .int .i64 0, .int .i64 0, .int .i64 0, .int .i64 0, .int .i64 0, .slice none 0 0] 37 :: _) := St.sets12 _ _ _ _ _ _ _ _ _ _ _ _ (H.out.p1)
   refine bodyPost_ret (rc_cell_tmp3S rfl _ _ rb [.int .i64 0, .int .i64 0, .bool false, .bool false, .bool false, .int .i64 0, .int .i64 0, .int .i64 0, .int .i64 0, .int .i64 0, .int .i64 0, .slice none 0 0] _ rfl (rc_range hz) Try.underlying37 rfl (by kernel_rfl)) rfl ?_
   exact ⟨rfl, hz.drop⟩
 · skip
   have hAi : ¬ (m : Int) ≤ 61 := by omega
   have hcw := hcv _ _ _ _ g1 61 (by omega)
   clear g1 hA h  hcv hm hr
   go_enter Try.func32, Try.ntmps32
   go_wp2_with (go_at_call 44; (with_reducible refine (prefix_peek (R.take 61) nl 0 HP.out HL.out H.out).mono ?_); rintro e_ wn ⟨rfl, h⟩; obtain ⟨x0, x1, x2, x3, x4, x5, x6, x7, x8, x9, x10, x11, y0, y1, y2, y3, y4, y5, y6, y7, y8, y9, y10, y11⟩ := raw12 (b := rb) (h.p1); replace H := Lib.hid h; clear h)
   have hz : St W0 _ _ (.raw rb #[.int .i64 0, .int .i64 0, .bool false, .bool false, .bool false, .int .i64 0, .int .i64 0, .int .i64 0, .int .i64 0, .int .i64 0, .int .i64 0, .slice none 0 0] 37 :: _) := St.sets12 _ _ _ _ _ _ _ _ _ _ _ _ (H.out.p1)
   refine bodyPost_ret (rc_cell_tmp3S rfl _ _ rb [.int .i64 0, .int .i64 0, .bool false, .bool false, .bool false, .int .i64 0, .int .i64 0, .int .i64 0, .int .i64 0, .int .i64 0, .int .i64 0, .slice none 0 0] _ rfl (rc_range hz) Try.underlying37 rfl (by kernel_rfl)) rfl ?_
   exact ⟨rfl, hz.drop⟩

end Go.Proofs.Ytngojlinfdokpaa

/- A text. -/
namespace Go.Proofs.Ytngojlinfdokpaa
open Go.RowKit

set_option maxHeartbeats 4000000 in
set_option maxRecDepth 100000 in
theorem first_good {v0 : Value} {n0 : Nat} {s0 : Bs} (ad : Addr) (m c : Nat) (R : Bs) (hm : m = R.length) (hmc : m ≤ c) (hr : R.length ≤ 1000000) (hcv : ∀ (W0 w : World) (K : Know) (L : List Res), St W0 w K (.row v0 5 1 n0 (bvals s0) :: L) → ∀ k, k ≤ m → ∀ c', (convert 33 9 (.slice (some ad) k c')).run Try.prog w = .ok (.string (bb (R.take k))) w) (h61 : ¬ R.length < 61) (x : PreS) (hp : rePre R = .ok x) (nn : Nat) (hnn : nn = 61 + (x.len - 49).toNat) (ht : nn ≤ R.length) (b : BatS) (hrb : reBat ((R.take nn).drop 0) = .ok (b, nn)) {W0 w : World} {K : Know} {L : List Res} (h : St W0 w K (.row v0 5 1 n0 (bvals s0) :: L)) :
   Calls Try.prog 32 #[.slice (some ad) m c] w fun en w' => ∃ (q : Option Addr) (l : List (RecS × Value)) (cap2 : Nat), en = .returned (.tuple #[.agg #[.int .i64 b.base, .int .i64 b.leader, .bool b.app, .bool b.txn, .bool b.ctl, .int .i64 b.last, .int .i64 b.first, .int .i64 b.maxt, .int .i64 b.prod, .int .i64 b.epoch, .int .i64 b.seq, .slice q l.length cap2], .int .i64 nn, .int .i64 0]) ∧ l.map (·.1) = b.recs ∧ St W0 w' (K.and (Know.recs (.slice q l.length cap2) l)) (.row v0 5 1 n0 (bvals s0) :: L) := by
 obtain ⟨rb, hrb0⟩ : ∃ b, w.heap.size = b := ⟨_, rfl⟩
 have g1 := (h.allocRaw #[.int .i64 0, .int .i64 0, .bool false, .bool false, .bool false, .int .i64 0, .int .i64 0, .int .i64 0, .int .i64 0, .int .i64 0, .int .i64 0, .slice none 0 0] 37).p1
 rw [hrb0] at g1
 have H := Lib.hid g1
 have hmi : (m : Int) ≤ 1000000 := by omega
 have hmci : (m : Int) ≤ (c : Int) := by omega
 have HCVH := Lib.hid hcv
 have hm61 : (61 : Int) ≤ (m : Int) := by omega
 have HL := Lib.hid (show (R.take 61).length ≤ 140737488355328 by rw [List.length_take]; omega)
 have hpl := (rePre_ok hp).2.2.2.1
 have hnl : x.len + 12 = (nn : Int) := by omega
 have HP := Lib.hid (peek_ok h61 hp)
 rw [hnl] at HP
 have hlt : ¬ (m : Int) < (nn : Int) := by omega
 have hle : (nn : Int) ≤ (m : Int) := by omega
 have hn61 : (61 : Int) ≤ (nn : Int) := by omega
 have g0n : ((nn : Int) == 0) = false := by rw [beq_eq_false_iff_ne]; omega
 have g0m : ((nn : Int) != 0) = true := by simp [bne, g0n]
 have hnm : nn ≤ m := by omega
 have HNM := Lib.hid hnm
 have HT := Lib.hid (show (R.take nn).length ≤ 1000000 by rw [List.length_take]; omega)
 have HT2 := Lib.hid (show (R.take nn).length ≤ 140737488355328 by rw [List.length_take]; omega)
 have HRB := Lib.hid hrb
 clear hp hpl hnl ht hnm hrb
 by_cases hA : m ≤ 61
 · skip
   have hAi : (m : Int) ≤ 61 := by omega
   have hcw := hcv _ _ _ _ g1 m (Nat.le_refl _)
   rw [show R.take m = R.take 61 by rw [show m = 61 by omega]] at hcw
   clear g1 hA h hnn h61 hcv hm hr
   go_enter Try.func32, Try.ntmps32
   go_wp2_with (first
     | (go_at_call 44; (with_reducible refine (prefix_peek (R.take 61) nn 0 HP.out HL.out H.out).mono ?_); rintro e_ wn ⟨rfl, h⟩; have hcx := HCVH.out _ _ _ _ h nn HNM.out; replace H := Lib.hid h; clear h)
     | (go_at_call 45; (with_reducible refine (s_new (R.take nn) HT2.out H.out).mono ?_); rintro e_ wn ⟨bi, rfl, h⟩; replace H := Lib.hid h; clear h)
     | (go_at_call 46; (with_reducible refine (bat_read_good bi (R.take nn) 0 HT.out (Nat.zero_le _) b nn HRB.out H.out).mono ?_); rintro e_ wn ⟨q, l, cap2, rfl, hlr, h⟩; have HLR := Lib.hid hlr; clear hlr; obtain ⟨xb, hxb⟩ : ∃ b, wn.heap.size = b := ⟨_, rfl⟩; have h := h.allocRaw #[.int .i64 b.base, .int .i64 b.leader, .bool b.app, .bool b.txn, .bool b.ctl, .int .i64 b.last, .int .i64 b.first, .int .i64 b.maxt, .int .i64 b.prod, .int .i64 b.epoch, .int .i64 b.seq, .slice q l.length cap2] 37; rw [hxb] at h; replace H := Lib.hid h; clear h))
   have hs := H.out.drew
   refine wp_region_held_drew (S := fun w' => w'.cell? ⟨xb, 0, none⟩ = some (.int .i64 b.base) ∧ w'.cell? ⟨xb, 1, none⟩ = some (.int .i64 b.leader) ∧ w'.cell? ⟨xb, 2, none⟩ = some (.bool b.app) ∧ w'.cell? ⟨xb, 3, none⟩ = some (.bool b.txn) ∧ w'.cell? ⟨xb, 4, none⟩ = some (.bool b.ctl) ∧ w'.cell? ⟨xb, 5, none⟩ = some (.int .i64 b.last) ∧ w'.cell? ⟨xb, 6, none⟩ = some (.int .i64 b.first) ∧ w'.cell? ⟨xb, 7, none⟩ = some (.int .i64 b.maxt) ∧ w'.cell? ⟨xb, 8, none⟩ = some (.int .i64 b.prod) ∧ w'.cell? ⟨xb, 9, none⟩ = some (.int .i64 b.epoch) ∧ w'.cell? ⟨xb, 10, none⟩ = some (.int .i64 b.seq) ∧ w'.cell? ⟨xb, 11, none⟩ = some (.slice q l.length cap2)) (by kernel_rfl) (let ⟨x0, x1, x2, x3, x4, x5, x6, x7, x8, x9, x10, x11, _⟩ := raw12 (b := xb) (hs); ⟨x0, x1, x2, x3, x4, x5, x6, x7, x8, x9, x10, x11⟩) (fun hHeld => ?_)
   refine wpAnyH_take (i := 0) (oi := ⟨some 42, .load 37 (.tmp 9), 37, "scan.go:70", #[], none⟩) (v := ?_) rfl (by kernel_rfl) (by kernel_rfl) (by kernel_rfl) (fun _ _ _ h => h) (Or.inl ⟨by rfl, ?_⟩) (by assumption) ?_
   rotate_left
   · intro w hSw; (try dsimp only at hSw); go_simp; try with_reducible rfl
   simp only [Act.put, sA, sB, sC]
   refine wpAnyH_take (i := 1) (oi := ⟨some 43, .move (.tmp 6), 3, "scan.go:70", #[{ on := 4, ground := Ground.gcOnly Departure.lateStores }], none⟩) (v := ?_) rfl (by kernel_rfl) (by kernel_rfl) (by kernel_rfl) (fun _ _ _ h => h) (Or.inl ⟨by rfl, ?_⟩) (by assumption) ?_
   rotate_left
   · intro w hSw; (try dsimp only at hSw); go_simp; try with_reducible rfl
   simp only [Act.put, sA, sB, sC]
   refine wpAnyH_take (i := 2) (oi := ⟨some 44, .move (.tmp 8), 95, "scan.go:70", #[], none⟩) (v := ?_) rfl (by kernel_rfl) (by kernel_rfl) (by kernel_rfl) (fun _ _ _ h => h) (Or.inl ⟨by rfl, ?_⟩) (by assumption) ?_
   rotate_left
   · intro w hSw; (try dsimp only at hSw); go_simp; try with_reducible rfl
   simp only [Act.put, sA, sB, sC]
   refine wpAnyH_ready (rs := [3]) (by kernel_rfl) (by simp) (AllReadyH.cons (o := ⟨some 45, .call { callee := .value (.func 47), args := #[.tmp 44], argTypes := #[95] }, 24, "scan.go:70", #[.mk 2 .data], none⟩) rfl (fun KK hK => ?_) AllReadyH.nil)
   · go_simp
     go_at_call 47
     with_reducible refine (s_errS bi _ 0 rfl hs.p1).mono ?_
     rintro e wq ⟨rfl, hs⟩
     refine hK.out _ _ (let ⟨x0, x1, x2, x3, x4, x5, x6, x7, x8, x9, x10, x11, _⟩ := raw12 (b := xb) (hs.p1); ⟨x0, x1, x2, x3, x4, x5, x6, x7, x8, x9, x10, x11⟩) (fun hHeld => ?_)
     clear hK KK
     try simp only [Act.put, sA, sB, sC]
     refine wpAnyH_ready (rs := [4]) (by kernel_rfl) (by simp) (AllReadyH.cons (o := ⟨none, .store 37 (.tmp 2) (.tmp 42), 0, "scan.go:70", #[.mk 0 .data, .mk 3 .chain, .mk 0 .phase, { on := 1, ground := Ground.textOnly Departure.lateStores }, { on := 2, ground := Ground.textOnly Departure.lateStores }, { on := 3, ground := Ground.textOnly Departure.lateStoresUnsure }], none⟩) rfl (fun KK hK => ?_) AllReadyH.nil)
     · have hs := hs.p3
       rw [if_pos (by rfl)]
       refine wp_store_mid 37 (.tmp 2) (.tmp 42) rfl rb 0 #[.int .i64 b.base, .int .i64 b.leader, .bool b.app, .bool b.txn, .bool b.ctl, .int .i64 b.last, .int .i64 b.first, .int .i64 b.maxt, .int .i64 b.prod, .int .i64 b.epoch, .int .i64 b.seq, .slice q l.length cap2] (by rfl) (by rfl) hs.there (by kernel_rfl) (by simp [Value.oneCell']) ?_
       obtain ⟨wz, ez, hs⟩ := hs.storeEx #[.int .i64 b.base, .int .i64 b.leader, .bool b.app, .bool b.txn, .bool b.ctl, .int .i64 b.last, .int .i64 b.first, .int .i64 b.maxt, .int .i64 b.prod, .int .i64 b.epoch, .int .i64 b.seq, .slice q l.length cap2]
       rw [ez]
       clear ez
       rw [setAll_allV] at hs
       rotate_left
       · rfl
       refine hK.out _ _ (let ⟨x0, x1, x2, x3, x4, x5, x6, x7, x8, x9, x10, x11, _⟩ := raw12 (b := xb) (hs.p2); ⟨x0, x1, x2, x3, x4, x5, x6, x7, x8, x9, x10, x11⟩) (fun hHeld => ?_)
       clear hK KK
       try simp only [Act.put, sA, sB, sC]
       refine wpAnyH_take (i := 5) (oi := ⟨some 3, .assign (.tmp 43), 3, "scan.go:70", #[.mk 1 .data, .mk 4 .chain, .mk 0 .phase, .mk 1 .phase, { on := 2, ground := Ground.textOnly Departure.lateStores }, { on := 3, ground := Ground.textOnly Departure.lateStoresUnsure }, .mk 4 .phase], none⟩) (v := ?_) rfl (by kernel_rfl) (by kernel_rfl) (by kernel_rfl) (fun _ _ _ h => h) (Or.inl ⟨by rfl, ?_⟩) (by assumption) ?_
       rotate_left
       · intro w hSw; (try dsimp only at hSw); go_simp; try with_reducible rfl
       simp only [Act.put, sA, sB, sC]
       refine wpAnyH_take (i := 6) (oi := ⟨some 4, .assign (.tmp 45), 24, "scan.go:70", #[.mk 3 .data, .mk 5 .chain, .mk 0 .phase, .mk 1 .phase, .mk 2 .phase, .mk 3 .phase, .mk 4 .phase, .mk 5 .phase], none⟩) (v := ?_) rfl (by kernel_rfl) (by kernel_rfl) (by kernel_rfl) (fun _ _ _ h => h) (Or.inl ⟨by rfl, ?_⟩) (by assumption) ?_
       rotate_left
       · intro w hSw; (try dsimp only at hSw); go_simp; try with_reducible rfl
       simp only [Act.put, sA, sB, sC]
       refine wpAnyH_done (by kernel_rfl) ?_ _
       clear hHeld
       go_wp2_with fail
       refine bodyPost_ret (rc_cell_tmp3S rfl _ _ rb [.int .i64 b.base, .int .i64 b.leader, .bool b.app, .bool b.txn, .bool b.ctl, .int .i64 b.last, .int .i64 b.first, .int .i64 b.maxt, .int .i64 b.prod, .int .i64 b.epoch, .int .i64 b.seq, .slice q l.length cap2] _ rfl (rc_range hs) Try.underlying37 rfl (by kernel_rfl)) rfl ?_
       exact ⟨q, l, cap2, rfl, HLR.out, hs.drop.drop.drop⟩
 · skip
   have hAi : ¬ (m : Int) ≤ 61 := by omega
   have hcw := hcv _ _ _ _ g1 61 (by omega)
   clear g1 hA h hnn h61 hcv hm hr
   go_enter Try.func32, Try.ntmps32
   go_wp2_with (first
     | (go_at_call 44; (with_reducible refine (prefix_peek (R.take 61) nn 0 HP.out HL.out H.out).mono ?_); rintro e_ wn ⟨rfl, h⟩; have hcx := HCVH.out _ _ _ _ h nn HNM.out; replace H := Lib.hid h; clear h)
     | (go_at_call 45; (with_reducible refine (s_new (R.take nn) HT2.out H.out).mono ?_); rintro e_ wn ⟨bi, rfl, h⟩; replace H := Lib.hid h; clear h)
     | (go_at_call 46; (with_reducible refine (bat_read_good bi (R.take nn) 0 HT.out (Nat.zero_le _) b nn HRB.out H.out).mono ?_); rintro e_ wn ⟨q, l, cap2, rfl, hlr, h⟩; have HLR := Lib.hid hlr; clear hlr; obtain ⟨xb, hxb⟩ : ∃ b, wn.heap.size = b := ⟨_, rfl⟩; have h := h.allocRaw #[.int .i64 b.base, .int .i64 b.leader, .bool b.app, .bool b.txn, .bool b.ctl, .int .i64 b.last, .int .i64 b.first, .int .i64 b.maxt, .int .i64 b.prod, .int .i64 b.epoch, .int .i64 b.seq, .slice q l.length cap2] 37; rw [hxb] at h; replace H := Lib.hid h; clear h))
   have hs := H.out.drew
   refine wp_region_held_drew (S := fun w' => w'.cell? ⟨xb, 0, none⟩ = some (.int .i64 b.base) ∧ w'.cell? ⟨xb, 1, none⟩ = some (.int .i64 b.leader) ∧ w'.cell? ⟨xb, 2, none⟩ = some (.bool b.app) ∧ w'.cell? ⟨xb, 3, none⟩ = some (.bool b.txn) ∧ w'.cell? ⟨xb, 4, none⟩ = some (.bool b.ctl) ∧ w'.cell? ⟨xb, 5, none⟩ = some (.int .i64 b.last) ∧ w'.cell? ⟨xb, 6, none⟩ = some (.int .i64 b.first) ∧ w'.cell? ⟨xb, 7, none⟩ = some (.int .i64 b.maxt) ∧ w'.cell? ⟨xb, 8, none⟩ = some (.int .i64 b.prod) ∧ w'.cell? ⟨xb, 9, none⟩ = some (.int .i64 b.epoch) ∧ w'.cell? ⟨xb, 10, none⟩ = some (.int .i64 b.seq) ∧ w'.cell? ⟨xb, 11, none⟩ = some (.slice q l.length cap2)) (by kernel_rfl) (let ⟨x0, x1, x2, x3, x4, x5, x6, x7, x8, x9, x10, x11, _⟩ := raw12 (b := xb) (hs); ⟨x0, x1, x2, x3, x4, x5, x6, x7, x8, x9, x10, x11⟩) (fun hHeld => ?_)
   refine wpAnyH_take (i := 0) (oi := ⟨some 42, .load 37 (.tmp 9), 37, "scan.go:70", #[], none⟩) (v := ?_) rfl (by kernel_rfl) (by kernel_rfl) (by kernel_rfl) (fun _ _ _ h => h) (Or.inl ⟨by rfl, ?_⟩) (by assumption) ?_
   rotate_left
   · intro w hSw; (try dsimp only at hSw); go_simp; try with_reducible rfl
   simp only [Act.put, sA, sB, sC]
   refine wpAnyH_take (i := 1) (oi := ⟨some 43, .move (.tmp 6), 3, "scan.go:70", #[{ on := 4, ground := Ground.gcOnly Departure.lateStores }], none⟩) (v := ?_) rfl (by kernel_rfl) (by kernel_rfl) (by kernel_rfl) (fun _ _ _ h => h) (Or.inl ⟨by rfl, ?_⟩) (by assumption) ?_
   rotate_left
   · intro w hSw; (try dsimp only at hSw); go_simp; try with_reducible rfl
   simp only [Act.put, sA, sB, sC]
   refine wpAnyH_take (i := 2) (oi := ⟨some 44, .move (.tmp 8), 95, "scan.go:70", #[], none⟩) (v := ?_) rfl (by kernel_rfl) (by kernel_rfl) (by kernel_rfl) (fun _ _ _ h => h) (Or.inl ⟨by rfl, ?_⟩) (by assumption) ?_
   rotate_left
   · intro w hSw; (try dsimp only at hSw); go_simp; try with_reducible rfl
   simp only [Act.put, sA, sB, sC]
   refine wpAnyH_ready (rs := [3]) (by kernel_rfl) (by simp) (AllReadyH.cons (o := ⟨some 45, .call { callee := .value (.func 47), args := #[.tmp 44], argTypes := #[95] }, 24, "scan.go:70", #[.mk 2 .data], none⟩) rfl (fun KK hK => ?_) AllReadyH.nil)
   · go_simp
     go_at_call 47
     with_reducible refine (s_errS bi _ 0 rfl hs.p1).mono ?_
     rintro e wq ⟨rfl, hs⟩
     refine hK.out _ _ (let ⟨x0, x1, x2, x3, x4, x5, x6, x7, x8, x9, x10, x11, _⟩ := raw12 (b := xb) (hs.p1); ⟨x0, x1, x2, x3, x4, x5, x6, x7, x8, x9, x10, x11⟩) (fun hHeld => ?_)
     clear hK KK
     try simp only [Act.put, sA, sB, sC]
     refine wpAnyH_ready (rs := [4]) (by kernel_rfl) (by simp) (AllReadyH.cons (o := ⟨none, .store 37 (.tmp 2) (.tmp 42), 0, "scan.go:70", #[.mk 0 .data, .mk 3 .chain, .mk 0 .phase, { on := 1, ground := Ground.textOnly Departure.lateStores }, { on := 2, ground := Ground.textOnly Departure.lateStores }, { on := 3, ground := Ground.textOnly Departure.lateStoresUnsure }], none⟩) rfl (fun KK hK => ?_) AllReadyH.nil)
     · have hs := hs.p3
       rw [if_pos (by rfl)]
       refine wp_store_mid 37 (.tmp 2) (.tmp 42) rfl rb 0 #[.int .i64 b.base, .int .i64 b.leader, .bool b.app, .bool b.txn, .bool b.ctl, .int .i64 b.last, .int .i64 b.first, .int .i64 b.maxt, .int .i64 b.prod, .int .i64 b.epoch, .int .i64 b.seq, .slice q l.length cap2] (by rfl) (by rfl) hs.there (by kernel_rfl) (by simp [Value.oneCell']) ?_
       obtain ⟨wz, ez, hs⟩ := hs.storeEx #[.int .i64 b.base, .int .i64 b.leader, .bool b.app, .bool b.txn, .bool b.ctl, .int .i64 b.last, .int .i64 b.first, .int .i64 b.maxt, .int .i64 b.prod, .int .i64 b.epoch, .int .i64 b.seq, .slice q l.length cap2]
       rw [ez]
       clear ez
       rw [setAll_allV] at hs
       rotate_left
       · rfl
       refine hK.out _ _ (let ⟨x0, x1, x2, x3, x4, x5, x6, x7, x8, x9, x10, x11, _⟩ := raw12 (b := xb) (hs.p2); ⟨x0, x1, x2, x3, x4, x5, x6, x7, x8, x9, x10, x11⟩) (fun hHeld => ?_)
       clear hK KK
       try simp only [Act.put, sA, sB, sC]
       refine wpAnyH_take (i := 5) (oi := ⟨some 3, .assign (.tmp 43), 3, "scan.go:70", #[.mk 1 .data, .mk 4 .chain, .mk 0 .phase, .mk 1 .phase, { on := 2, ground := Ground.textOnly Departure.lateStores }, { on := 3, ground := Ground.textOnly Departure.lateStoresUnsure }, .mk 4 .phase], none⟩) (v := ?_) rfl (by kernel_rfl) (by kernel_rfl) (by kernel_rfl) (fun _ _ _ h => h) (Or.inl ⟨by rfl, ?_⟩) (by assumption) ?_
       rotate_left
       · intro w hSw; (try dsimp only at hSw); go_simp; try with_reducible rfl
       simp only [Act.put, sA, sB, sC]
       refine wpAnyH_take (i := 6) (oi := ⟨some 4, .assign (.tmp 45), 24, "scan.go:70", #[.mk 3 .data, .mk 5 .chain, .mk 0 .phase, .mk 1 .phase, .mk 2 .phase, .mk 3 .phase, .mk 4 .phase, .mk 5 .phase], none⟩) (v := ?_) rfl (by kernel_rfl) (by kernel_rfl) (by kernel_rfl) (fun _ _ _ h => h) (Or.inl ⟨by rfl, ?_⟩) (by assumption) ?_
       rotate_left
       · intro w hSw; (try dsimp only at hSw); go_simp; try with_reducible rfl
       simp only [Act.put, sA, sB, sC]
       refine wpAnyH_done (by kernel_rfl) ?_ _
       clear hHeld
       go_wp2_with fail
       refine bodyPost_ret (rc_cell_tmp3S rfl _ _ rb [.int .i64 b.base, .int .i64 b.leader, .bool b.app, .bool b.txn, .bool b.ctl, .int .i64 b.last, .int .i64 b.first, .int .i64 b.maxt, .int .i64 b.prod, .int .i64 b.epoch, .int .i64 b.seq, .slice q l.length cap2] _ rfl (rc_range hs) Try.underlying37 rfl (by kernel_rfl)) rfl ?_
       exact ⟨q, l, cap2, rfl, HLR.out, hs.drop.drop.drop⟩

set_option maxHeartbeats 4000000 in
set_option maxRecDepth 100000 in
theorem first_bad {v0 : Value} {n0 : Nat} {s0 : Bs} (ad : Addr) (m c : Nat) (R : Bs) (hm : m = R.length) (hmc : m ≤ c) (hr : R.length ≤ 1000000) (hcv : ∀ (W0 w : World) (K : Know) (L : List Res), St W0 w K (.row v0 5 1 n0 (bvals s0) :: L) → ∀ k, k ≤ m → ∀ c', (convert 33 9 (.slice (some ad) k c')).run Try.prog w = .ok (.string (bb (R.take k))) w) (h61 : ¬ R.length < 61) (x : PreS) (hp : rePre R = .ok x) (nn : Nat) (hnn : nn = 61 + (x.len - 49).toNat) (ht : nn ≤ R.length) (e : Int) (hrb : reBat ((R.take nn).drop 0) = .error e) {W0 w : World} {K : Know} {L : List Res} (h : St W0 w K (.row v0 5 1 n0 (bvals s0) :: L)) :
   Calls Try.prog 32 #[.slice (some ad) m c] w fun en w' => en = .returned (.tuple #[.agg #[.int .i64 0, .int .i64 0, .bool false, .bool false, .bool false, .int .i64 0, .int .i64 0, .int .i64 0, .int .i64 0, .int .i64 0, .int .i64 0, .slice none 0 0], .int .i64 nn, .int .i64 e]) ∧ St W0 w' K (.row v0 5 1 n0 (bvals s0) :: L) := by
 obtain ⟨rb, hrb0⟩ : ∃ b, w.heap.size = b := ⟨_, rfl⟩
 have g1 := (h.allocRaw #[.int .i64 0, .int .i64 0, .bool false, .bool false, .bool false, .int .i64 0, .int .i64 0, .int .i64 0, .int .i64 0, .int .i64 0, .int .i64 0, .slice none 0 0] 37).p1
 rw [hrb0] at g1
 have H := Lib.hid g1
 have hmi : (m : Int) ≤ 1000000 := by omega
 have hmci : (m : Int) ≤ (c : Int) := by omega
 have HCVH := Lib.hid hcv
 have hm61 : (61 : Int) ≤ (m : Int) := by omega
 have HL := Lib.hid (show (R.take 61).length ≤ 140737488355328 by rw [List.length_take]; omega)
 have hpl := (rePre_ok hp).2.2.2.1
 have hnl : x.len + 12 = (nn : Int) := by omega
 have HP := Lib.hid (peek_ok h61 hp)
 rw [hnl] at HP
 have hlt : ¬ (m : Int) < (nn : Int) := by omega
 have hle : (nn : Int) ≤ (m : Int) := by omega
 have hn61 : (61 : Int) ≤ (nn : Int) := by omega
 have g0n : ((nn : Int) == 0) = false := by rw [beq_eq_false_iff_ne]; omega
 have g0m : ((nn : Int) != 0) = true := by simp [bne, g0n]
 have hnm : nn ≤ m := by omega
 have HNM := Lib.hid hnm
 have HT := Lib.hid (show (R.take nn).length ≤ 1000000 by rw [List.length_take]; omega)
 have HT2 := Lib.hid (show (R.take nn).length ≤ 140737488355328 by rw [List.length_take]; omega)
 have HRB := Lib.hid hrb
 clear hp hpl hnl ht hnm hrb
 by_cases hA : m ≤ 61
 · skip
   have hAi : (m : Int) ≤ 61 := by omega
   have hcw := hcv _ _ _ _ g1 m (Nat.le_refl _)
   rw [show R.take m = R.take 61 by rw [show m = 61 by omega]] at hcw
   clear g1 hA h hnn h61 hcv hm hr
   go_enter Try.func32, Try.ntmps32
   go_wp2_with (first
     | (go_at_call 44; (with_reducible refine (prefix_peek (R.take 61) nn 0 HP.out HL.out H.out).mono ?_); rintro e_ wn ⟨rfl, h⟩; have hcx := HCVH.out _ _ _ _ h nn HNM.out; replace H := Lib.hid h; clear h)
     | (go_at_call 45; (with_reducible refine (s_new (R.take nn) HT2.out H.out).mono ?_); rintro e_ wn ⟨bi, rfl, h⟩; replace H := Lib.hid h; clear h)
     | (go_at_call 46; (with_reducible refine (bat_read_bad bi (R.take nn) 0 HT.out (Nat.zero_le _) e HRB.out H.out).mono ?_); rintro e_ wn ⟨rfl, qq, _, h⟩; obtain ⟨xb, hxb⟩ : ∃ b, wn.heap.size = b := ⟨_, rfl⟩; have h := h.allocRaw #[.int .i64 0, .int .i64 0, .bool false, .bool false, .bool false, .int .i64 0, .int .i64 0, .int .i64 0, .int .i64 0, .int .i64 0, .int .i64 0, .slice none 0 0] 37; rw [hxb] at h; replace H := Lib.hid h; clear h))
   have hs := H.out.drew
   refine wp_region_held_drew (S := fun w' => w'.cell? ⟨xb, 0, none⟩ = some (.int .i64 0) ∧ w'.cell? ⟨xb, 1, none⟩ = some (.int .i64 0) ∧ w'.cell? ⟨xb, 2, none⟩ = some (.bool false) ∧ w'.cell? ⟨xb, 3, none⟩ = some (.bool false) ∧ w'.cell? ⟨xb, 4, none⟩ = some (.bool false) ∧ w'.cell? ⟨xb, 5, none⟩ = some (.int .i64 0) ∧ w'.cell? ⟨xb, 6, none⟩ = some (.int .i64 0) ∧ w'.cell? ⟨xb, 7, none⟩ = some (.int .i64 0) ∧ w'.cell? ⟨xb, 8, none⟩ = some (.int .i64 0) ∧ w'.cell? ⟨xb, 9, none⟩ = some (.int .i64 0) ∧ w'.cell? ⟨xb, 10, none⟩ = some (.int .i64 0) ∧ w'.cell? ⟨xb, 11, none⟩ = some (.slice none 0 0)) (by kernel_rfl) (let ⟨x0, x1, x2, x3, x4, x5, x6, x7, x8, x9, x10, x11, _⟩ := raw12 (b := xb) (hs); ⟨x0, x1, x2, x3, x4, x5, x6, x7, x8, x9, x10, x11⟩) (fun hHeld => ?_)
   refine wpAnyH_take (i := 0) (oi := ⟨some 42, .load 37 (.tmp 9), 37, "scan.go:70", #[], none⟩) (v := ?_) rfl (by kernel_rfl) (by kernel_rfl) (by kernel_rfl) (fun _ _ _ h => h) (Or.inl ⟨by rfl, ?_⟩) (by assumption) ?_
   rotate_left
   · intro w hSw; (try dsimp only at hSw); go_simp; try with_reducible rfl
   simp only [Act.put, sA, sB, sC]
   refine wpAnyH_take (i := 1) (oi := ⟨some 43, .move (.tmp 6), 3, "scan.go:70", #[{ on := 4, ground := Ground.gcOnly Departure.lateStores }], none⟩) (v := ?_) rfl (by kernel_rfl) (by kernel_rfl) (by kernel_rfl) (fun _ _ _ h => h) (Or.inl ⟨by rfl, ?_⟩) (by assumption) ?_
   rotate_left
   · intro w hSw; (try dsimp only at hSw); go_simp; try with_reducible rfl
   simp only [Act.put, sA, sB, sC]
   refine wpAnyH_take (i := 2) (oi := ⟨some 44, .move (.tmp 8), 95, "scan.go:70", #[], none⟩) (v := ?_) rfl (by kernel_rfl) (by kernel_rfl) (by kernel_rfl) (fun _ _ _ h => h) (Or.inl ⟨by rfl, ?_⟩) (by assumption) ?_
   rotate_left
   · intro w hSw; (try dsimp only at hSw); go_simp; try with_reducible rfl
   simp only [Act.put, sA, sB, sC]
   refine wpAnyH_ready (rs := [3]) (by kernel_rfl) (by simp) (AllReadyH.cons (o := ⟨some 45, .call { callee := .value (.func 47), args := #[.tmp 44], argTypes := #[95] }, 24, "scan.go:70", #[.mk 2 .data], none⟩) rfl (fun KK hK => ?_) AllReadyH.nil)
   · go_simp
     go_at_call 47
     with_reducible refine (s_errS bi _ e rfl hs.p1).mono ?_
     rintro e wq ⟨rfl, hs⟩
     refine hK.out _ _ (let ⟨x0, x1, x2, x3, x4, x5, x6, x7, x8, x9, x10, x11, _⟩ := raw12 (b := xb) (hs.p1); ⟨x0, x1, x2, x3, x4, x5, x6, x7, x8, x9, x10, x11⟩) (fun hHeld => ?_)
     clear hK KK
     try simp only [Act.put, sA, sB, sC]
     refine wpAnyH_ready (rs := [4]) (by kernel_rfl) (by simp) (AllReadyH.cons (o := ⟨none, .store 37 (.tmp 2) (.tmp 42), 0, "scan.go:70", #[.mk 0 .data, .mk 3 .chain, .mk 0 .phase, { on := 1, ground := Ground.textOnly Departure.lateStores }, { on := 2, ground := Ground.textOnly Departure.lateStores }, { on := 3, ground := Ground.textOnly Departure.lateStoresUnsure }], none⟩) rfl (fun KK hK => ?_) AllReadyH.nil)
     · have hs := hs.p3
       rw [if_pos (by rfl)]
       refine wp_store_mid 37 (.tmp 2) (.tmp 42) rfl rb 0 #[.int .i64 0, .int .i64 0, .bool false, .bool false, .bool false, .int .i64 0, .int .i64 0, .int .i64 0, .int .i64 0, .int .i64 0, .int .i64 0, .slice none 0 0] (by rfl) (by rfl) hs.there (by kernel_rfl) (by simp [Value.oneCell']) ?_
       obtain ⟨wz, ez, hs⟩ := hs.storeEx #[.int .i64 0, .int .i64 0, .bool false, .bool false, .bool false, .int .i64 0, .int .i64 0, .int .i64 0, .int .i64 0, .int .i64 0, .int .i64 0, .slice none 0 0]
       rw [ez]
       clear ez
       rw [setAll_allV] at hs
       rotate_left
       · rfl
       refine hK.out _ _ (let ⟨x0, x1, x2, x3, x4, x5, x6, x7, x8, x9, x10, x11, _⟩ := raw12 (b := xb) (hs.p2); ⟨x0, x1, x2, x3, x4, x5, x6, x7, x8, x9, x10, x11⟩) (fun hHeld => ?_)
       clear hK KK
       try simp only [Act.put, sA, sB, sC]
       refine wpAnyH_take (i := 5) (oi := ⟨some 3, .assign (.tmp 43), 3, "scan.go:70", #[.mk 1 .data, .mk 4 .chain, .mk 0 .phase, .mk 1 .phase, { on := 2, ground := Ground.textOnly Departure.lateStores }, { on := 3, ground := Ground.textOnly Departure.lateStoresUnsure }, .mk 4 .phase], none⟩) (v := ?_) rfl (by kernel_rfl) (by kernel_rfl) (by kernel_rfl) (fun _ _ _ h => h) (Or.inl ⟨by rfl, ?_⟩) (by assumption) ?_
       rotate_left
       · intro w hSw; (try dsimp only at hSw); go_simp; try with_reducible rfl
       simp only [Act.put, sA, sB, sC]
       refine wpAnyH_take (i := 6) (oi := ⟨some 4, .assign (.tmp 45), 24, "scan.go:70", #[.mk 3 .data, .mk 5 .chain, .mk 0 .phase, .mk 1 .phase, .mk 2 .phase, .mk 3 .phase, .mk 4 .phase, .mk 5 .phase], none⟩) (v := ?_) rfl (by kernel_rfl) (by kernel_rfl) (by kernel_rfl) (fun _ _ _ h => h) (Or.inl ⟨by rfl, ?_⟩) (by assumption) ?_
       rotate_left
       · intro w hSw; (try dsimp only at hSw); go_simp; try with_reducible rfl
       simp only [Act.put, sA, sB, sC]
       refine wpAnyH_done (by kernel_rfl) ?_ _
       clear hHeld
       go_wp2_with fail
       refine bodyPost_ret (rc_cell_tmp3S rfl _ _ rb [.int .i64 0, .int .i64 0, .bool false, .bool false, .bool false, .int .i64 0, .int .i64 0, .int .i64 0, .int .i64 0, .int .i64 0, .int .i64 0, .slice none 0 0] _ rfl (rc_range hs) Try.underlying37 rfl (by kernel_rfl)) rfl ?_
       exact ⟨rfl, hs.drop.drop.drop⟩
 · skip
   have hAi : ¬ (m : Int) ≤ 61 := by omega
   have hcw := hcv _ _ _ _ g1 61 (by omega)
   clear g1 hA h hnn h61 hcv hm hr
   go_enter Try.func32, Try.ntmps32
   go_wp2_with (first
     | (go_at_call 44; (with_reducible refine (prefix_peek (R.take 61) nn 0 HP.out HL.out H.out).mono ?_); rintro e_ wn ⟨rfl, h⟩; have hcx := HCVH.out _ _ _ _ h nn HNM.out; replace H := Lib.hid h; clear h)
     | (go_at_call 45; (with_reducible refine (s_new (R.take nn) HT2.out H.out).mono ?_); rintro e_ wn ⟨bi, rfl, h⟩; replace H := Lib.hid h; clear h)
     | (go_at_call 46; (with_reducible refine (bat_read_bad bi (R.take nn) 0 HT.out (Nat.zero_le _) e HRB.out H.out).mono ?_); rintro e_ wn ⟨rfl, qq, _, h⟩; obtain ⟨xb, hxb⟩ : ∃ b, wn.heap.size = b := ⟨_, rfl⟩; have h := h.allocRaw #[.int .i64 0, .int .i64 0, .bool false, .bool false, .bool false, .int .i64 0, .int .i64 0, .int .i64 0, .int .i64 0, .int .i64 0, .int .i64 0, .slice none 0 0] 37; rw [hxb] at h; replace H := Lib.hid h; clear h))
   have hs := H.out.drew
   refine wp_region_held_drew (S := fun w' => w'.cell? ⟨xb, 0, none⟩ = some (.int .i64 0) ∧ w'.cell? ⟨xb, 1, none⟩ = some (.int .i64 0) ∧ w'.cell? ⟨xb, 2, none⟩ = some (.bool false) ∧ w'.cell? ⟨xb, 3, none⟩ = some (.bool false) ∧ w'.cell? ⟨xb, 4, none⟩ = some (.bool false) ∧ w'.cell? ⟨xb, 5, none⟩ = some (.int .i64 0) ∧ w'.cell? ⟨xb, 6, none⟩ = some (.int .i64 0) ∧ w'.cell? ⟨xb, 7, none⟩ = some (.int .i64 0) ∧ w'.cell? ⟨xb, 8, none⟩ = some (.int .i64 0) ∧ w'.cell? ⟨xb, 9, none⟩ = some (.int .i64 0) ∧ w'.cell? ⟨xb, 10, none⟩ = some (.int .i64 0) ∧ w'.cell? ⟨xb, 11, none⟩ = some (.slice none 0 0)) (by kernel_rfl) (let ⟨x0, x1, x2, x3, x4, x5, x6, x7, x8, x9, x10, x11, _⟩ := raw12 (b := xb) (hs); ⟨x0, x1, x2, x3, x4, x5, x6, x7, x8, x9, x10, x11⟩) (fun hHeld => ?_)
   refine wpAnyH_take (i := 0) (oi := ⟨some 42, .load 37 (.tmp 9), 37, "scan.go:70", #[], none⟩) (v := ?_) rfl (by kernel_rfl) (by kernel_rfl) (by kernel_rfl) (fun _ _ _ h => h) (Or.inl ⟨by rfl, ?_⟩) (by assumption) ?_
   rotate_left
   · intro w hSw; (try dsimp only at hSw); go_simp; try with_reducible rfl
   simp only [Act.put, sA, sB, sC]
   refine wpAnyH_take (i := 1) (oi := ⟨some 43, .move (.tmp 6), 3, "scan.go:70", #[{ on := 4, ground := Ground.gcOnly Departure.lateStores }], none⟩) (v := ?_) rfl (by kernel_rfl) (by kernel_rfl) (by kernel_rfl) (fun _ _ _ h => h) (Or.inl ⟨by rfl, ?_⟩) (by assumption) ?_
   rotate_left
   · intro w hSw; (try dsimp only at hSw); go_simp; try with_reducible rfl
   simp only [Act.put, sA, sB, sC]
   refine wpAnyH_take (i := 2) (oi := ⟨some 44, .move (.tmp 8), 95, "scan.go:70", #[], none⟩) (v := ?_) rfl (by kernel_rfl) (by kernel_rfl) (by kernel_rfl) (fun _ _ _ h => h) (Or.inl ⟨by rfl, ?_⟩) (by assumption) ?_
   rotate_left
   · intro w hSw; (try dsimp only at hSw); go_simp; try with_reducible rfl
   simp only [Act.put, sA, sB, sC]
   refine wpAnyH_ready (rs := [3]) (by kernel_rfl) (by simp) (AllReadyH.cons (o := ⟨some 45, .call { callee := .value (.func 47), args := #[.tmp 44], argTypes := #[95] }, 24, "scan.go:70", #[.mk 2 .data], none⟩) rfl (fun KK hK => ?_) AllReadyH.nil)
   · go_simp
     go_at_call 47
     with_reducible refine (s_errS bi _ e rfl hs.p1).mono ?_
     rintro e wq ⟨rfl, hs⟩
     refine hK.out _ _ (let ⟨x0, x1, x2, x3, x4, x5, x6, x7, x8, x9, x10, x11, _⟩ := raw12 (b := xb) (hs.p1); ⟨x0, x1, x2, x3, x4, x5, x6, x7, x8, x9, x10, x11⟩) (fun hHeld => ?_)
     clear hK KK
     try simp only [Act.put, sA, sB, sC]
     refine wpAnyH_ready (rs := [4]) (by kernel_rfl) (by simp) (AllReadyH.cons (o := ⟨none, .store 37 (.tmp 2) (.tmp 42), 0, "scan.go:70", #[.mk 0 .data, .mk 3 .chain, .mk 0 .phase, { on := 1, ground := Ground.textOnly Departure.lateStores }, { on := 2, ground := Ground.textOnly Departure.lateStores }, { on := 3, ground := Ground.textOnly Departure.lateStoresUnsure }], none⟩) rfl (fun KK hK => ?_) AllReadyH.nil)
     · have hs := hs.p3
       rw [if_pos (by rfl)]
       refine wp_store_mid 37 (.tmp 2) (.tmp 42) rfl rb 0 #[.int .i64 0, .int .i64 0, .bool false, .bool false, .bool false, .int .i64 0, .int .i64 0, .int .i64 0, .int .i64 0, .int .i64 0, .int .i64 0, .slice none 0 0] (by rfl) (by rfl) hs.there (by kernel_rfl) (by simp [Value.oneCell']) ?_
       obtain ⟨wz, ez, hs⟩ := hs.storeEx #[.int .i64 0, .int .i64 0, .bool false, .bool false, .bool false, .int .i64 0, .int .i64 0, .int .i64 0, .int .i64 0, .int .i64 0, .int .i64 0, .slice none 0 0]
       rw [ez]
       clear ez
       rw [setAll_allV] at hs
       rotate_left
       · rfl
       refine hK.out _ _ (let ⟨x0, x1, x2, x3, x4, x5, x6, x7, x8, x9, x10, x11, _⟩ := raw12 (b := xb) (hs.p2); ⟨x0, x1, x2, x3, x4, x5, x6, x7, x8, x9, x10, x11⟩) (fun hHeld => ?_)
       clear hK KK
       try simp only [Act.put, sA, sB, sC]
       refine wpAnyH_take (i := 5) (oi := ⟨some 3, .assign (.tmp 43), 3, "scan.go:70", #[.mk 1 .data, .mk 4 .chain, .mk 0 .phase, .mk 1 .phase, { on := 2, ground := Ground.textOnly Departure.lateStores }, { on := 3, ground := Ground.textOnly Departure.lateStoresUnsure }, .mk 4 .phase], none⟩) (v := ?_) rfl (by kernel_rfl) (by kernel_rfl) (by kernel_rfl) (fun _ _ _ h => h) (Or.inl ⟨by rfl, ?_⟩) (by assumption) ?_
       rotate_left
       · intro w hSw; (try dsimp only at hSw); go_simp; try with_reducible rfl
       simp only [Act.put, sA, sB, sC]
       refine wpAnyH_take (i := 6) (oi := ⟨some 4, .assign (.tmp 45), 24, "scan.go:70", #[.mk 3 .data, .mk 5 .chain, .mk 0 .phase, .mk 1 .phase, .mk 2 .phase, .mk 3 .phase, .mk 4 .phase, .mk 5 .phase], none⟩) (v := ?_) rfl (by kernel_rfl) (by kernel_rfl) (by kernel_rfl) (fun _ _ _ h => h) (Or.inl ⟨by rfl, ?_⟩) (by assumption) ?_
       rotate_left
       · intro w hSw; (try dsimp only at hSw); go_simp; try with_reducible rfl
       simp only [Act.put, sA, sB, sC]
       refine wpAnyH_done (by kernel_rfl) ?_ _
       clear hHeld
       go_wp2_with fail
       refine bodyPost_ret (rc_cell_tmp3S rfl _ _ rb [.int .i64 0, .int .i64 0, .bool false, .bool false, .bool false, .int .i64 0, .int .i64 0, .int .i64 0, .int .i64 0, .int .i64 0, .int .i64 0, .slice none 0 0] _ rfl (rc_range hs) Try.underlying37 rfl (by kernel_rfl)) rfl ?_
       exact ⟨rfl, hs.drop.drop.drop⟩

end Go.Proofs.Ytngojlinfdokpaa

/- A text. -/
namespace Go.Proofs.Ytngojlinfdokpaa
open Go.RowKit

open Go
def Exit.jumps (J : Nat → Act → World → Prop) (Q : Exit → Act → World → Prop) : Exit → Act → World → Prop
  | .goto l, a, w => J l a w
  | e, a, w => Q e a w
theorem scope_labels {P : Program} {a : Act} {w : World} {Q : Exit → Act → World → Prop} {c : Code} (J : Nat → Act → World → Prop) (μ : Nat → Act → World → Nat) (hf : ∀ l a w, J l a w → ∃ r, findLabel c l = some r)
    (first : c.wp P (Exit.jumps J Q) a w)
    (pass : ∀ l r a w, J l a w → findLabel c l = some r → r.wp P (Exit.jumps (fun l' a' w' => J l' a' w' ∧ μ l' a' w' < μ l a w) Q) a w) : (Code.scope c).wp P Q a w := by
  intro b k cs
  have go : ∀ n l a w, μ l a w = n → J l a w → ∃ r, findLabel c l = some r ∧ ∃ e a' w', Q e a' w' ∧ Arrives P (lone (b.at a (.code r :: .inScope c :: k)) cs w) b k cs e a' w' := by
    intro n
    induction n using Nat.strongRecOn with
    | _ n ih =>
      intro l a w hn hJ
      obtain ⟨r, hr⟩ := hf l a w hJ
      refine ⟨r, hr, ?_⟩
      obtain ⟨e, a₁, w₁, hq, hto⟩ := pass l r a w hJ hr b (.inScope c :: k) cs
      match e, hq, hto with
      | .normal, hq, hto => exact ⟨.normal, a₁, w₁, hq, Steps.trans hto (.one step_inScope)⟩
      | .exit id, hq, hto => exact ⟨.exit id, a₁, w₁, hq, fun k' hk => hto k' (by simp [exitTo, hk])⟩
      | .goto l', hq, hto =>
        obtain ⟨hJ', hlt⟩ := hq
        obtain ⟨r2, hr2, e₂, a₂, w₂, hq₂, hto₂⟩ := ih _ (by omega) l' a₁ w₁ rfl hJ'
        exact ⟨e₂, a₂, w₂, hq₂, .of_steps (hto _ (by simp [gotoIn, hr2])) hto₂⟩
      | .ret, hq, hto => exact ⟨_, a₁, w₁, hq, hto⟩
      | .panic ch, hq, hto => exact ⟨_, a₁, w₁, hq, hto⟩
      | .outgrown, hq, hto => exact ⟨_, a₁, w₁, hq, hto⟩
  obtain ⟨e, a₁, w₁, hq, hto⟩ := first b (.inScope c :: k) cs
  match e, hq, hto with
  | .normal, hq, hto => exact ⟨.normal, a₁, w₁, hq, .head step_scope (Steps.trans hto (.one step_inScope))⟩
  | .exit id, hq, hto => exact ⟨.exit id, a₁, w₁, hq, fun k' hk => .head step_scope (hto k' (by simp [exitTo, hk]))⟩
  | .goto l', hq, hto =>
    obtain ⟨r2, hr2, e₂, a₂, w₂, hq₂, hto₂⟩ := go _ l' a₁ w₁ rfl hq
    exact ⟨e₂, a₂, w₂, hq₂, .of_steps (.head step_scope (hto _ (by simp [gotoIn, hr2]))) hto₂⟩
  | .ret, hq, hto => exact ⟨_, a₁, w₁, hq, .of_steps (.one step_scope) hto⟩
  | .panic ch, hq, hto => exact ⟨_, a₁, w₁, hq, .of_steps (.one step_scope) hto⟩
  | .outgrown, hq, hto => exact ⟨_, a₁, w₁, hq, .of_steps (.one step_scope) hto⟩
theorem scope_two {P : Program} {a : Act} {w : World} {Q : Exit → Act → World → Prop} {c rest0 rest1 : Code} (J : Nat → Act → World → Prop) (μ : Nat → Act → World → Nat) (hl : ∀ l a w, J l a w → l = 0 ∨ l = 1) (h0 : findLabel c 0 = some (Code.skip.seq rest0)) (h1 : findLabel c 1 = some (Code.skip.seq rest1))
    (first : (∀ a w, J 0 a w → rest0.wp P (Exit.jumps J Q) a w) → c.wp P (Exit.jumps J Q) a w)
    (pass0 : ∀ a w, J 0 a w → rest0.wp P (Exit.jumps (fun l' a' w' => J l' a' w' ∧ μ l' a' w' < μ 0 a w) Q) a w)
    (pass1 : ∀ a w, J 1 a w → rest1.wp P (Exit.jumps (fun l' a' w' => J l' a' w' ∧ μ l' a' w' < μ 1 a w) Q) a w) : (Code.scope c).wp P Q a w := by
  have skip : ∀ (rest : Code) (Q : Exit → Act → World → Prop) a w, rest.wp P Q a w → (Code.skip.seq rest).wp P Q a w := fun rest Q a w h => wp_seq_k fun K hK => wp_skip (hK _ _ h)
  refine scope_labels J μ (fun l a w h => ?_) (first fun a w h => Code.wp_mono ?_ (pass0 a w h)) (fun l r a w h hr => ?_)
  · rcases hl l a w h with rfl | rfl
    · exact ⟨_, h0⟩
    · exact ⟨_, h1⟩
  · intro e a' w' hq
    cases e with
    | goto l' => exact hq.1
    | _ => exact hq
  · rcases hl l a w h with rfl | rfl
    · rw [h0] at hr
      cases hr
      exact skip _ _ _ _ (pass0 a w h)
    · rw [h1] at hr
      cases hr
      exact skip _ _ _ _ (pass1 a w h)

end Go.Proofs.Ytngojlinfdokpaa

/- A text. -/
namespace Go.Proofs.Ytngojlinfdokpaa
open Go.RowKit

theorem putRec_good (o : Bs) (x : RecS) (h : recOk x = 0) : (⟨o, 0⟩ : OutS).putRec x = ⟨o ++ encR x, 0⟩ := by
 unfold OutS.putRec
 rw [if_pos h]
 rfl
theorem recsC_ok : ∀ (l : List RecS), recsC l = 0 → ∀ x ∈ l, recOk x = 0
  | [], _, _, h => by cases h
  | r :: t, hh, x, hx => by
    have hh : (if recOk r = 0 then recsC t else recOk r) = 0 := hh
    by_cases h1 : recOk r = 0
    · rw [if_pos h1] at hh
      rcases List.mem_cons.1 hx with rfl | hx
      · exact h1
      · exact recsC_ok t hh x hx
    · rw [if_neg h1] at hh; exact absurd hh h1
theorem encAll_small {l : List (RecS × Value)} (h : FitB l) : (encAll l).length ≤ 40000000 * l.length := by
 have : ∀ (l : List (RecS × Value)), (∀ x ∈ l, (encR x.1).length ≤ 40000000) → (encAll l).length ≤ 40000000 * l.length := by
  intro l
  induction l with
  | nil => intro _; simp [encAll]
  | cons x t ih =>
   intro hh
   have h1 := ih (fun y hy => hh y (by simp [hy]))
   have h2 := hh x (by simp)
   have e : encAll (x :: t) = encR x.1 ++ encAll t := rfl
   rw [e, List.length_append, List.length_cons]
   omega
 refine this l fun x hx => ?_
 obtain ⟨a, _, c⟩ := h x hx
 have h1 := recF_le x.1 a c
 unfold encR encV
 rw [List.length_append]
 have h2 : (putU (foldN (BlobS.len ⟨false, recF x.1⟩))).length ≤ 10 := putU_len _ (foldN_lt (by simp [BlobS.len] <;> omega) (by simp [BlobS.len] <;> omega))
 simp only at *
 omega

end Go.Proofs.Ytngojlinfdokpaa

/- A text. -/
namespace Go.Proofs.Ytngojlinfdokpaa
open Go.RowKit

theorem sumItem_mod6 (n : Int) (h : fits (sumItem n) 4) : sumItem n % 4294967296 = n := by
 by_cases h0 : n < 0 ∨ 4294967295 < n
 · exact absurd h (sumItem_bad n h0)
 · unfold sumItem
   rw [if_neg h0]
   split <;> omega
theorem preX_enc6 (x : PreS) (hf : FitsAll x.items) : preX (encInts x.items) = (x, 2) := by
 have h1 := intsOf_enc x.items [] hf
 rw [List.append_nil] at h1
 have h2 : x.items.map (·.2) = preSizes := rfl
 rw [h2] at h1
 have h3 := sumItem_mod6 x.sum (hf (sumItem x.sum, 4) (by simp [PreS.items]))
 unfold preX
 rw [h1]
 simp only [PreS.items, List.map_cons, List.map_nil, preOfL, h3]
theorem items_len (x : PreS) : (encInts x.items).length = 61 := by rw [encInts_length]; rfl
theorem rePre_enc (x : PreS) (hf : FitsAll x.items) (hl : 49 ≤ x.len) (hc : 0 ≤ x.count) (t : Bs) : rePre (encInts x.items ++ t) = .ok x := by
 have h := rePre_take (encInts x.items ++ t) (by rw [List.length_append, items_len]; omega)
 rw [List.take_left' (items_len x)] at h
 rw [← h]
 unfold rePre
 rw [preX_enc6 x hf, if_neg (by rw [items_len]; omega), if_pos rfl, if_neg (by simp only; omega), if_neg (by simp only; omega)]
def BatS.rowsB (b : BatS) : Bs := b.recs.flatMap encR
def BatS.pre (b : BatS) (sum : Int) : PreS := ⟨b.base, 49 + b.rowsB.length, b.leader, sum, attrN b.app b.txn b.ctl 3, b.last, b.first, b.maxt, b.prod, b.epoch, b.seq, b.recs.length⟩
def BatS.front (b : BatS) (sum : Int) : Bs := encInts [(b.base, 8), (49 + b.rowsB.length, 4), (b.leader, 4), (2, 1), (sumItem sum, 4)]
def BatS.back (b : BatS) : Bs := encInts [(attrN b.app b.txn b.ctl 3, 2), (b.last, 4), (b.first, 8), (b.maxt, 8), (b.prod, 8), (b.epoch, 2), (b.seq, 4), (b.recs.length, 4)]
def BatS.crc (b : BatS) : Nat := (crcMore 0#32 (b.back ++ b.rowsB)).toNat
def BatS.enc (b : BatS) : Bs := encInts (b.pre b.crc).items ++ b.rowsB
theorem BatS.pre_split (b : BatS) (s : Int) : encInts (b.pre s).items = b.front s ++ b.back := by
 have h : (b.pre s).items = [(b.base, 8), (49 + (b.rowsB.length : Int), 4), (b.leader, 4), (2, 1), (sumItem s, 4)] ++ [(attrN b.app b.txn b.ctl 3, 2), (b.last, 4), (b.first, 8), (b.maxt, 8), (b.prod, 8), (b.epoch, 2), (b.seq, 4), ((b.recs.length : Int), 4)] := rfl
 rw [h, encInts_append]
 rfl
theorem BatS.front_len (b : BatS) (s : Int) : (b.front s).length = 21 := by unfold BatS.front; rw [encInts_length]; rfl
theorem BatS.pre_drop (b : BatS) (s : Int) : (encInts (b.pre s).items).drop 21 = b.back := by rw [b.pre_split, List.drop_left' (b.front_len s)]
theorem BatS.crc_lt (b : BatS) : b.crc < 4294967296 := (crcMore 0#32 (b.back ++ b.rowsB)).isLt
theorem fits_of {n : Int} {k : Nat} (h1 : 1 ≤ k) (h8 : k ≤ 8) (lo : -half k ≤ n) (hi : n < half k) : fits n k := by
 refine ⟨by omega, by omega, ?_, ?_⟩ <;> rw [Int.toNat_natCast] <;> assumption
theorem batErr_zero {b : BatS} (h : batErr b = 0) : b.placed = true ∧ (b.ctl = true → b.txn = true) ∧ b.signed = true ∧ recsC b.recs = 0 := by
 unfold batErr at h
 by_cases p1 : b.placed = false
 · rw [if_pos p1] at h; cases h
 rw [if_neg p1] at h
 by_cases p2 : b.ctl = true ∧ b.txn = false
 · rw [if_pos p2] at h; cases h
 rw [if_neg p2] at h
 by_cases p3 : b.signed = false
 · rw [if_pos p3] at h; cases h
 rw [if_neg p3] at h
 by_cases p4 : b.ctl = true ∧ b.recs.length ≠ 1
 · rw [if_pos p4] at h; cases h
 rw [if_neg p4] at h
 by_cases p5 : recsC b.recs ≠ 0
 · rw [if_pos p5] at h; exact absurd h p5
 refine ⟨by simpa using p1, fun hc => ?_, by simpa using p3, Classical.not_not.1 p5⟩
 cases ht : b.txn with
 | true => rfl
 | false => exact absurd ⟨hc, ht⟩ p2
theorem signed_rng {b : BatS} (h : b.signed = true) : -1 ≤ b.prod ∧ (-1 ≤ b.epoch ∧ b.epoch ≤ 32767) ∧ (-1 ≤ b.seq ∧ b.seq ≤ 2147483647) := by
 unfold BatS.signed at h
 by_cases p : b.prod = -1
 · rw [if_pos p] at h
   have := of_decide_eq_true h
   omega
 rw [if_neg p] at h
 by_cases q : b.prod < 0 ∨ ¬ (0 ≤ b.epoch ∧ b.epoch ≤ 32767)
 · rw [if_pos q] at h; cases h
 rw [if_neg q] at h
 cases hc : b.ctl with
 | true =>
   rw [hc] at h
   have h : decide (b.seq = -1) = true := h
   have := of_decide_eq_true h
   omega
 | false =>
   rw [hc] at h
   have h : decide (0 ≤ b.seq ∧ b.seq ≤ 2147483647) = true := h
   have := of_decide_eq_true h
   omega
theorem attr_facts (a t c : Bool) : (0 ≤ attrN a t c 3 ∧ attrN a t c 3 ≤ 63) ∧ bitAt (attrN a t c 3) 3 = a ∧ bitAt (attrN a t c 3) 4 = t ∧ bitAt (attrN a t c 3) 5 = c ∧ ((c = true → t = true) → chk (attrN a t c 3) = 0) := by
 cases a <;> cases t <;> cases c <;> decide
theorem BatS.fitsAll {b : BatS} (h : batErr b = 0) (hR : b.R) (s : Int) (hs : 0 ≤ s ∧ s ≤ 4294967295) (hz : b.rowsB.length ≤ 1000000) (hn : b.recs.length ≤ 1000000) : FitsAll (b.pre s).items := by
 obtain ⟨p1, p2, p3, p4⟩ := batErr_zero h
 have q1 := of_decide_eq_true p1
 obtain ⟨q2, q3, q4⟩ := signed_rng p3
 obtain ⟨r1, r2, r3, r4, r5, r6, r7, r8⟩ := hR
 unfold Rn at r1 r2 r3 r4 r5 r6 r7 r8
 have qa := (attr_facts b.app b.txn b.ctl).1
 have h8 : half 8 = 9223372036854775808 := by decide
 have h4 : half 4 = 2147483648 := by decide
 have h2 : half 2 = 32768 := by decide
 have h1 : half 1 = 128 := by decide
 intro x hx
 simp only [PreS.items, BatS.pre, List.mem_cons, List.not_mem_nil, or_false] at hx
 rcases hx with rfl | rfl | rfl | rfl | rfl | rfl | rfl | rfl | rfl | rfl | rfl | rfl | rfl
 · exact fits_of (by simp only; decide) (by simp only; decide) (by rw [h8]; simp only; omega) (by rw [h8]; simp only; omega)
 · exact fits_of (by simp only; decide) (by simp only; decide) (by rw [h4]; simp only; omega) (by rw [h4]; simp only; omega)
 · exact fits_of (by simp only; decide) (by simp only; decide) (by rw [h4]; simp only; omega) (by rw [h4]; simp only; omega)
 · exact fits_of (by simp only; decide) (by simp only; decide) (by rw [h1]; simp only; omega) (by rw [h1]; simp only; omega)
 · exact sumItem_fits s (by omega) (by omega)
 · exact fits_of (by simp only; decide) (by simp only; decide) (by rw [h2]; simp only; omega) (by rw [h2]; simp only; omega)
 · exact fits_of (by simp only; decide) (by simp only; decide) (by rw [h4]; simp only; omega) (by rw [h4]; simp only; omega)
 · exact fits_of (by simp only; decide) (by simp only; decide) (by rw [h8]; simp only; omega) (by rw [h8]; simp only; omega)
 · exact fits_of (by simp only; decide) (by simp only; decide) (by rw [h8]; simp only; omega) (by rw [h8]; simp only; omega)
 · exact fits_of (by simp only; decide) (by simp only; decide) (by rw [h8]; simp only; omega) (by rw [h8]; simp only; omega)
 · exact fits_of (by simp only; decide) (by simp only; decide) (by rw [h2]; simp only; omega) (by rw [h2]; simp only; omega)
 · exact fits_of (by simp only; decide) (by simp only; decide) (by rw [h4]; simp only; omega) (by rw [h4]; simp only; omega)
 · exact fits_of (by simp only; decide) (by simp only; decide) (by rw [h4]; simp only; omega) (by rw [h4]; simp only; omega)
theorem BatS.pre_R {b : BatS} (h : batErr b = 0) (hR : b.R) (s : Int) (hs : 0 ≤ s ∧ s ≤ 4294967295) (hz : b.rowsB.length ≤ 1000000) (hn : b.recs.length ≤ 1000000) : (b.pre s).R := by
 have qa := (attr_facts b.app b.txn b.ctl).1
 obtain ⟨r1, r2, r3, r4, r5, r6, r7, r8⟩ := hR
 unfold Rn at r1 r2 r3 r4 r5 r6 r7 r8
 intro n hn
 simp only [PreS.list, BatS.pre, List.mem_cons, List.not_mem_nil, or_false] at hn
 rcases hn with rfl | rfl | rfl | rfl | rfl | rfl | rfl | rfl | rfl | rfl | rfl | rfl <;> omega
theorem unp_back : ∀ (rs : List RecS) (rows : Bs) (pos : Nat), pos ≤ rows.length → rows.drop pos = rs.flatMap encR → (∀ x ∈ rs, x.R ∧ recOk x = 0 ∧ x.sum ≤ 1000000) → unp rs.length ⟨rows, pos, 0⟩ = .ok rs
  | [], rows, pos, hp, hd, _ => by
    have hz : rows.length - pos = 0 := by rw [← List.length_drop, hd]; rfl
    show (if (⟨rows, pos, 0⟩ : InS).left = 0 then Except.ok [] else Except.error (10 : Int)) = Except.ok []
    rw [if_pos (by simp only [InS.left]; exact hz)]
  | x :: t, rows, pos, hp, hd, hx => by
    obtain ⟨hR, ho, hs⟩ := hx x (by simp)
    rw [List.flatMap_cons] at hd
    have hr := reRec_back x hR ho hs (t.flatMap encR)
    rw [← hd] at hr
    obtain ⟨hpm, hf⟩ := rds_rec.ok rows pos x _ hp hr
    have hpos := (reRec_one hr).2.2.2.2.1
    show (if (⟨rows, pos, 0⟩ : InS).left = 0 then Except.error (10 : Int) else if (⟨rows, pos, 0⟩ : InS).record.2.err = 0 then consE (⟨rows, pos, 0⟩ : InS).record.1 (unp t.length (⟨rows, pos, 0⟩ : InS).record.2) else Except.error (⟨rows, pos, 0⟩ : InS).record.2.err) = Except.ok (x :: t)
    rw [if_neg (by simp only [InS.left]; omega), hf]
    simp only [if_true]
    rw [unp_back t rows _ hpm (by rw [← List.drop_drop, hd, List.drop_left]) (fun y hy => hx y (by simp [hy]))]
    rfl
theorem asmB_back {b : BatS} (h : batErr b = 0) (hf : ∀ x ∈ b.recs, x.R ∧ recOk x = 0 ∧ x.sum ≤ 1000000) : asmB (b.pre b.crc) (encInts (b.pre b.crc).items) b.rowsB = .ok b := by
 obtain ⟨_, p2, _, _⟩ := batErr_zero h
 obtain ⟨_, a3, a4, a5, a6⟩ := attr_facts b.app b.txn b.ctl
 have hu := unp_back b.recs b.rowsB 0 (Nat.zero_le _) rfl hf
 unfold asmB
 rw [b.pre_drop]
 have e1 : ((crcMore 0#32 (b.back ++ b.rowsB)).toNat : Int) = (b.pre b.crc).sum := rfl
 have e2 : (b.pre b.crc).attr = attrN b.app b.txn b.ctl 3 := rfl
 have e3 : (b.pre b.crc).count.toNat = b.recs.length := rfl
 rw [if_neg (fun hh => hh e1), e2, if_neg (fun hh => hh (a6 p2)), e3, hu]
 simp only [a3, a4, a5]
 obtain ⟨base, leader, app, txn, ctl, last, first, maxt, prod, epoch, sq, rs⟩ := b
 exact if_pos h
theorem reBat_back {b : BatS} (h : batErr b = 0) (hR : b.R) (hf : ∀ x ∈ b.recs, x.R ∧ recOk x = 0 ∧ x.sum ≤ 1000000) (hz : b.rowsB.length ≤ 1000000) (hn : b.recs.length ≤ 1000000) (t : Bs) : reBat (b.enc ++ t) = .ok (b, b.enc.length) := by
 have hc := b.crc_lt
 have hfa := BatS.fitsAll h hR b.crc (by omega) hz hn
 have hp := rePre_enc (b.pre b.crc) hfa (show (49 : Int) ≤ 49 + (b.rowsB.length : Int) by omega) (show (0 : Int) ≤ (b.recs.length : Int) by omega) (b.rowsB ++ t)
 rw [← List.append_assoc] at hp
 have hle : b.enc.length = 61 + b.rowsB.length := by unfold BatS.enc; rw [List.length_append, items_len]
 have hl : ((b.pre b.crc).len - 49).toNat = b.rowsB.length := by show ((49 + (b.rowsB.length : Int)) - 49).toNat = _; omega
 unfold reBat
 have hp2 : rePre (b.enc ++ t) = .ok (b.pre b.crc) := hp
 rw [hp2]
 simp only
 rw [hl, if_neg (by rw [List.length_append, hle]; omega)]
 have t1 : (b.enc ++ t).take 61 = encInts (b.pre b.crc).items := by
  unfold BatS.enc
  rw [List.append_assoc, List.take_left' (items_len _)]
 have t2 : ((b.enc ++ t).drop 61).take b.rowsB.length = b.rowsB := by
  unfold BatS.enc
  rw [List.append_assoc, List.drop_left' (items_len _), List.take_left]
 rw [t1, t2, asmB_back h hf]
 simp only
 rw [hle]

end Go.Proofs.Ytngojlinfdokpaa

/- A text. -/
namespace Go.Proofs.Ytngojlinfdokpaa
open Go.RowKit

def FitW (l : List (RecS × Value)) : Prop := ∀ x ∈ l, x.1.R ∧ x.1.hdrs.length ≤ 9223372036854775807 ∧ HFit x.1.hdrs ∧ x.1.key.data.length ≤ 140737488351232 ∧ x.1.val.data.length ≤ 140737488351232
def hAll : List HdrS → Bool
  | [] => true
  | h :: t => decide (h.key.length + h.val.data.length ≤ 100) && hAll t
def smallRec (x : RecS) : Bool := decide (x.key.data.length + x.val.data.length ≤ 100) && (decide (x.hdrs.length ≤ 6) && hAll x.hdrs)
def rAll : List RecS → Bool
  | [] => true
  | r :: t => smallRec r && rAll t
def smallB (l : List RecS) : Bool := decide (l.length ≤ 12) && rAll l
theorem hAll_sum : ∀ (l : List HdrS), hAll l = true → hsum l ≤ 101 * l.length
  | [], _ => by simp [hsum]
  | h :: t, hh => by
    simp only [hAll, Bool.and_eq_true, decide_eq_true_eq] at hh
    have := hAll_sum t hh.2
    simp only [hsum, List.length_cons, List.map_cons, List.sum_cons] at *
    omega
theorem rAll_mem : ∀ (l : List RecS), rAll l = true → ∀ x ∈ l, smallRec x = true
  | [], _, _, h => by cases h
  | r :: t, hh, x, hx => by
    simp only [rAll, Bool.and_eq_true] at hh
    rcases List.mem_cons.1 hx with rfl | hx
    · exact hh.1
    · exact rAll_mem t hh.2 x hx
theorem smallRec_sum {x : RecS} (h : smallRec x = true) : x.sum ≤ 1000 := by
 unfold smallRec at h
 simp only [Bool.and_eq_true, decide_eq_true_eq] at h
 have := hAll_sum _ h.2.2
 unfold RecS.sum
 omega
theorem FitW.fit {l : List (RecS × Value)} (h : FitW l) (hs : smallB (l.map (·.1)) = true) : FitB l := by
 intro x hx
 unfold smallB at hs
 simp only [Bool.and_eq_true] at hs
 have h1 := smallRec_sum (rAll_mem _ hs.2 x.1 (List.mem_map.2 ⟨x, hx, rfl⟩))
 obtain ⟨a, b, c, _⟩ := h x hx
 exact ⟨a, c, by omega⟩
theorem smallB_len {l : List (RecS × Value)} (hs : smallB (l.map (·.1)) = true) : l.length ≤ 12 := by
 unfold smallB at hs
 simp only [Bool.and_eq_true, decide_eq_true_eq, List.length_map] at hs
 exact hs.1
end Go.Proofs.Ytngojlinfdokpaa

/- A text. -/
namespace Go.Proofs.Ytngojlinfdokpaa
open Go.RowKit

end Go.Proofs.Ytngojlinfdokpaa

/- A text. -/
namespace Go.Proofs.Ytngojlinfdokpaa
open Go.RowKit

end Go.Proofs.Ytngojlinfdokpaa

/- A text. -/
namespace Go.Proofs.Ytngojlinfdokpaa
open Go.RowKit

end Go.Proofs.Ytngojlinfdokpaa

/- A text. -/
namespace Go.Proofs.Ytngojlinfdokpaa
open Go.RowKit

end Go.Proofs.Ytngojlinfdokpaa

/- A text. -/
namespace Go.Proofs.Ytngojlinfdokpaa
open Go.RowKit

end Go.Proofs.Ytngojlinfdokpaa

/- A text. -/
namespace Go.Proofs.Ytngojlinfdokpaa
open Go.RowKit

theorem encR_small (x : RecS) (hx : x.R) (hs : x.sum ≤ 1000) : (encR x).length ≤ 33000 := by
 have h1 := recF_le x hx (by omega)
 have h2 := encV_le ⟨false, recF x⟩ (by simp only; omega)
 simp only at h2
 unfold encR
 omega
theorem rows_small : ∀ (l : List RecS) (n : Nat), (∀ x ∈ l, (encR x).length ≤ n) → (l.flatMap encR).length ≤ n * l.length
  | [], _, _ => by simp
  | x :: t, n, h => by
    rw [List.flatMap_cons, List.length_append, List.length_cons, Nat.mul_succ]
    have h1 := rows_small t n (fun y hy => h y (by simp [hy]))
    have h2 := h x (by simp)
    omega
theorem encAll_rows : ∀ (l : List (RecS × Value)), encAll l = (l.map (·.1)).flatMap encR
  | [] => rfl
  | x :: t => by
    have := encAll_rows t
    unfold encAll at *
    rw [List.flatMap_cons, List.map_cons, List.flatMap_cons, this]
structure SmallOk (b : BatS) : Prop where
  fit : ∀ x ∈ b.recs, x.R ∧ recOk x = 0 ∧ x.sum ≤ 1000
  len : b.recs.length ≤ 12
  err : batErr b = 0
  rng : b.R
theorem SmallOk.rows {b : BatS} (h : SmallOk b) : b.rowsB.length ≤ 400000 := by
 have := rows_small b.recs 33000 (fun x hx => encR_small x (h.fit x hx).1 (h.fit x hx).2.2)
 have h2 := h.len
 unfold BatS.rowsB
 omega
theorem SmallOk.recs {b : BatS} (h : SmallOk b) : ∀ x ∈ b.recs, x.R ∧ recOk x = 0 ∧ x.sum ≤ 1000000 := fun x hx => ⟨(h.fit x hx).1, (h.fit x hx).2.1, by have := (h.fit x hx).2.2; omega⟩
theorem SmallOk.back {b : BatS} (h : SmallOk b) (t : Bs) : reBat (b.enc ++ t) = .ok (b, b.enc.length) :=
 reBat_back h.err h.rng h.recs (by have := h.rows; omega) (by have := h.len; omega) t
theorem BatS.enc_len (b : BatS) : b.enc.length = 61 + b.rowsB.length := by unfold BatS.enc; rw [List.length_append, items_len]
theorem SmallOk.elen {b : BatS} (h : SmallOk b) : b.enc.length ≤ 401000 := by rw [b.enc_len]; have := h.rows; omega
theorem SmallOk.of {b : BatS} {l : List (RecS × Value)} (hl : b.recs = l.map (·.1)) (hw : FitW l) (hs : smallB (l.map (·.1)) = true) (he : batErr b = 0) (hR : b.R) : SmallOk b where
 fit := by
  intro x hx
  rw [hl] at hx
  have hf := hw.fit hs
  obtain ⟨y, hy, rfl⟩ := List.mem_map.1 hx
  have hr := recsC_ok _ (batErr_zero he).2.2.2
  have hss := hs
  unfold smallB at hss
  simp only [Bool.and_eq_true] at hss
  exact ⟨(hf y hy).1, hr y.1 (by rw [hl]; exact hx), smallRec_sum (rAll_mem _ hss.2 y.1 hx)⟩
 len := by rw [hl, List.length_map]; exact smallB_len hs
 err := he
 rng := hR
theorem ints_items {x : PreS} (h : FitsAll x.items) : (⟨[], 0⟩ : OutS).ints x.items = ⟨encInts x.items, 0⟩ := by
 rw [OutS.ints_put _ _ h]
 rfl

end Go.Proofs.Ytngojlinfdokpaa

/- A text. -/
namespace Go.Proofs.Ytngojlinfdokpaa
open Go.RowKit

theorem SmallOk.preX {b : BatS} (so : SmallOk b) : (Go.Proofs.Ytngojlinfdokpaa.preX b.enc).1 = b.pre b.crc ∧ (Go.Proofs.Ytngojlinfdokpaa.preX b.enc).2 = 2 ∧ rePre b.enc = .ok (b.pre b.crc) := by
 have hb := so.back []
 rw [List.append_nil] at hb
 obtain ⟨x, hx, _⟩ := reBat_ok hb
 have hrow := so.rows
 have hlen := so.len
 have hcr := b.crc_lt
 have f1 := BatS.fitsAll so.err so.rng b.crc (by omega) (by omega) (by omega)
 have hp := rePre_enc (b.pre b.crc) f1 (show (49 : Int) ≤ 49 + (b.rowsB.length : Int) by omega) (show (0 : Int) ≤ (b.recs.length : Int) by omega) b.rowsB
 have hp : rePre b.enc = .ok (b.pre b.crc) := hp
 obtain ⟨_, h2, h3, _⟩ := rePre_ok hp
 exact ⟨h2, h3, hp⟩
end Go.Proofs.Ytngojlinfdokpaa

/- A text. -/
namespace Go.Proofs.Ytngojlinfdokpaa
open Go.RowKit

theorem so_textE (p : Nat) (o : OutS) (s : Bs) (e : Int) (hx : o.text = (s, e)) {W0 w : World} {K : Know} {L : List Res} (h : St W0 w K (.out p o :: L)) :
  Calls Try.prog 20 #[outPtr p] w fun en w' => en = .returned (.tuple #[.string (bb s), .int .i64 e]) ∧ St W0 w' K (.out p o :: L) := by
 have := so_text p o h; rw [hx] at this; exact this
theorem prefix_writeE (p : Nat) (o o2 : OutS) (a0 a1 a2 a3 a4 a5 a6 a7 a8 a9 a10 a11 : Int) (hx : PreS.R ⟨a0, a1, a2, a3, a4, a5, a6, a7, a8, a9, a10, a11⟩) (ho : o.ints (PreS.items ⟨a0, a1, a2, a3, a4, a5, a6, a7, a8, a9, a10, a11⟩) = o2) (hr : o.ok 200) {W0 w : World} {K : Know} {L : List Res} (h : St W0 w K (.out p o :: L)) :
  Calls Try.prog 41 #[outPtr p, .agg #[.int .i64 a0, .int .i64 a1, .int .i64 a2, .int .i64 a3, .int .i64 a4, .int .i64 a5, .int .i64 a6, .int .i64 a7, .int .i64 a8, .int .i64 a9, .int .i64 a10, .int .i64 a11]] w fun en w' => en = .returned (.tuple #[]) ∧ St W0 w' K (.out p o2 :: L) := by
 subst ho
 exact prefix_write p o ⟨a0, a1, a2, a3, a4, a5, a6, a7, a8, a9, a10, a11⟩ hx h hr
set_option maxHeartbeats 1000000 in
set_option maxRecDepth 100000 in
theorem bat_written (a0 a1 a2 a3 a4 a5 a6 a7 a8 a9 a10 a11 : Int) (hx : PreS.R ⟨a0, a1, a2, a3, a4, a5, a6, a7, a8, a9, a10, a11⟩) (o2 : OutS) (s : Bs) (e : Int) (ho : (⟨[], 0⟩ : OutS).ints (PreS.items ⟨a0, a1, a2, a3, a4, a5, a6, a7, a8, a9, a10, a11⟩) = o2) (ht : o2.text = (s, e)) {W0 w : World} {K : Know} {L : List Res} (h : St W0 w K L) :
  Calls Try.prog 30 #[.agg #[.int .i64 a0, .int .i64 a1, .int .i64 a2, .int .i64 a3, .int .i64 a4, .int .i64 a5, .int .i64 a6, .int .i64 a7, .int .i64 a8, .int .i64 a9, .int .i64 a10, .int .i64 a11]] w fun en w' => en = .returned (.tuple #[.string (bb s), .int .i64 e]) ∧ St W0 w' K L := by
 have g1 := h.allocRaw #[.int .i64 a0, .int .i64 a1, .int .i64 a2, .int .i64 a3, .int .i64 a4, .int .i64 a5, .int .i64 a6, .int .i64 a7, .int .i64 a8, .int .i64 a9, .int .i64 a10, .int .i64 a11] 73
 have g2 := g1.allocOut
 obtain ⟨hb, hhb⟩ : ∃ b, w.heap.size = b := ⟨_, rfl⟩
 obtain ⟨po, hpo⟩ : ∃ b, hb + 1 = b := ⟨_, rfl⟩
 simp only [World.size_alloc, hhb, hpo] at g2
 obtain ⟨x0, x1, x2, x3, x4, x5, x6, x7, x8, x9, x10, x11, y0, y1, y2, y3, y4, y5, y6, y7, y8, y9, y10, y11⟩ := raw12 (b := hb) (g2.p1)
 have H := Lib.hid g2
 have HX := Lib.hid hx
 have HO := Lib.hid ho
 have HT := Lib.hid ht
 have HR := Lib.hid (show (⟨[], 0⟩ : OutS).ok 200 by simp [OutS.ok])
 clear g1 g2 h hx ho ht
 go_enter Try.func30, Try.ntmps30
 go_wp2_with (first
  | (go_at_call 41; (with_reducible refine (prefix_writeE po _ _ _ _ _ _ _ _ _ _ _ _ _ _ HX.out HO.out HR.out H.out).mono ?_); rintro e_ wn ⟨rfl, h⟩; replace H := Lib.hid h; clear h)
  | (go_at_call 20; (with_reducible refine (so_textE po _ _ _ HT.out H.out).mono ?_); rintro e_ wn ⟨rfl, h⟩; replace H := Lib.hid h; clear h))
 go_ret2
 exact ⟨rfl, H.out.drop.drop⟩

end Go.Proofs.Ytngojlinfdokpaa

/- A text. -/
namespace Go.Proofs.Ytngojlinfdokpaa
open Go.RowKit

set_option maxHeartbeats 1000000 in
set_option maxRecDepth 100000 in
theorem bat_pack (l : List (RecS × Value)) (q : Option Addr) (cap : Nat) (rows : Bs) (hrows : encAll l = rows) (hc : recsC (l.map (·.1)) = 0) (hfit : FitB l) (hll : l.length ≤ 1000) {W0 w : World} {K : Know} {L : List Res} (hk : K.has (Know.recs (.slice q l.length cap) l)) (h : St W0 w K L) :
  Calls Try.prog 28 #[.slice q l.length cap] w fun en w' => en = .returned (.tuple #[.string (bb rows), .int .i64 0]) ∧ St W0 w' K L := by
 have g1 := h.allocOut
 obtain ⟨po, hpo⟩ : ∃ b, w.heap.size = b := ⟨_, rfl⟩
 rw [hpo] at g1
 have H := Lib.hid g1
 have HK := Lib.hid hk
 have HFT := Lib.hid hfit
 have HC := Lib.hid hc
 have HRW := Lib.hid hrows
 have HLL := Lib.hid hll
 clear h g1 hk hfit hc hrows hll
 go_enter Try.func28, Try.ntmps28
 go_wp2
 go_loopw [6, 9] (fun _ iv wr => ∃ k : Nat, k ≤ l.length ∧ iv = .int .i64 k ∧ St W0 wr K (.out po ⟨encAll (l.take k), 0⟩ :: L)) (fun _ iv _ => l.length - (intOf iv).toNat)
 case atStart => exact ⟨0, Nat.zero_le _, rfl, H.out⟩
 case round =>
  obtain ⟨k, hkl, rfl, hst⟩ := hrel
  clear H
  have H := Lib.hid hst
  clear hst
  by_cases hlt : k < l.length
  · have OK := Lib.hid (show (⟨encAll (l.take k), 0⟩ : OutS).ok 40000000 by
     have h1 := encAll_small (l := l.take k) (fun y hy => HFT.out y (List.mem_of_mem_take hy))
     have h2 := HLL.out
     rw [List.length_take] at h1
     unfold OutS.ok
     simp only
     omega)
    have hok := recsC_ok _ HC.out l[k].1 (List.mem_map.2 ⟨_, List.getElem_mem hlt, rfl⟩)
    have het := encAll_take l k hlt
    have hll2 := HLL.out
    obtain ⟨b, off, hqq⟩ := recs_at HK.out H.out (by omega)
    subst hqq
    obtain ⟨⟨x, vx⟩, hx⟩ : ∃ x, l[k] = x := ⟨_, rfl⟩
    have cc := recs_cell HK.out H.out k hlt (x, vx) hx
    have hmem : (x, vx) ∈ l := hx ▸ List.getElem_mem hlt
    have xf : x.R ∧ HFit x.hdrs ∧ x.sum ≤ 1000000 := HFT.out (x, vx) hmem
    have xk : K.has (Know.flat RHdr vx 3 x.hdrs) := recs_hdrs HK.out hmem
    obtain ⟨qx, capx, hvx⟩ := flat_form xk H.out
    subst hvx
    simp only at cc
    obtain ⟨c0, c1, c2, c3, c4, c5, c6⟩ := cc
    rw [← Nat.add_assoc] at c1 c2 c3 c4 c5 c6
    have hx1 : l[k].1 = x := by rw [hx]
    have XF := Lib.hid xf
    have XK := Lib.hid xk
    have HX := Lib.hid hx1
    clear xf xk hx1 hx hmem
    obtain ⟨wE, hwE⟩ : ∃ b, wr.heap.size = b := ⟨_, rfl⟩
    have hki : (k : Int) < (l.length : Int) := by omega
    have h := H.out.allocRaw #[.int .i64 x.time, .int .i64 x.off, .bool x.key.null, .string (bb x.key.data), .bool x.val.null, .string (bb x.val.data), .slice qx x.hdrs.length capx] 63
    rw [hwE] at h
    clear H
    have H := Lib.hid h
    clear h
    rw [HX.out] at hok het
    have EO := Lib.hid (show (⟨encAll (l.take k), 0⟩ : OutS).putRec x = ⟨encAll (l.take (k + 1)), 0⟩ by rw [putRec_good _ _ hok, het])
    have hll3 : (l.length : Int) ≤ 1000 := by omega
    obtain ⟨ec0, ec1, ec2, ec3, ec4, ec5, ec6, ef0, ef1, ef2, ef3, ef4, ef5, ef6⟩ := raw7 (b := wE) (H.out)
    clear hok het hll2
    go_wp2_with (go_at_call 39; (with_reducible refine (rec_write po _ _ x (.slice qx x.hdrs.length capx) XF.out.1 XF.out.2.2 EO.out OK.out XK.out H.out.p1).mono ?_); rintro e_ wn ⟨rfl, h⟩; replace H := Lib.hid h; clear h)
    go_roundw
    case rel => exact ⟨k + 1, hlt, by go_num, H.out.p1.drop⟩
    case measure => first | (simp [intOf]; done) | (simp [intOf]; omega)
  · obtain rfl : l.length = k := by omega
    have h := H.out
    rw [List.take_length, HRW.out] at h
    clear H
    have H := Lib.hid h
    clear h
    have HT := Lib.hid (show (⟨rows, 0⟩ : OutS).text = (rows, 0) from rfl)
    go_wp2_with (go_at_call 20; (with_reducible refine (so_textE po _ _ _ HT.out H.out).mono ?_); rintro e_ wn ⟨rfl, h⟩; replace H := Lib.hid h; clear h)
    go_ret2
    exact ⟨rfl, H.out.drop⟩

end Go.Proofs.Ytngojlinfdokpaa

/- A text. -/
namespace Go.Proofs.Ytngojlinfdokpaa
open Go.RowKit

set_option maxHeartbeats 2000000 in
set_option maxRecDepth 100000 in
theorem bat_encode_ok (base leader : Int) (app txn ctl : Bool) (last first maxt prod epoch sq : Int) (l : List (RecS × Value)) (q : Option Addr) (cap : Nat) (he : batErr ⟨base, leader, app, txn, ctl, last, first, maxt, prod, epoch, sq, l.map (·.1)⟩ = 0) (hmx : first ≤ 9223372036854775807) (hfit : FitB l) (hll : l.length ≤ 1000) (rows said0 said1 all : Bs) (x : Nat) (at_ : Int) (hrc : recsC (l.map (·.1)) = 0) (hrw : encAll l = rows) (hrl : rows.length ≤ 100000000) (hat : attrN app txn ctl 3 = at_)
    (r0 : PreS.R ⟨base, 49 + rows.length, leader, 0, at_, last, first, maxt, prod, epoch, sq, l.length⟩) (r1 : PreS.R ⟨base, 49 + rows.length, leader, x, at_, last, first, maxt, prod, epoch, sq, l.length⟩) (o0 : (⟨[], 0⟩ : OutS).ints (PreS.items ⟨base, 49 + rows.length, leader, 0, at_, last, first, maxt, prod, epoch, sq, l.length⟩) = ⟨said0, 0⟩) (o1 : (⟨[], 0⟩ : OutS).ints (PreS.items ⟨base, 49 + rows.length, leader, x, at_, last, first, maxt, prod, epoch, sq, l.length⟩) = ⟨said1, 0⟩) (l0 : said0.length = 61) (l1 : said1.length = 61) (hx : (crcMore 0#32 (said0.drop 21 ++ rows)).toNat = x) (hall : said1 ++ rows = all) {W0 w : World} {K : Know} {L : List Res} (hk : K.has (Know.recs (.slice q l.length cap) l)) (h : St W0 w K L) :
    Calls Try.prog 15 #[.agg #[.int .i64 base, .int .i64 leader, .bool app, .bool txn, .bool ctl, .int .i64 last, .int .i64 first, .int .i64 maxt, .int .i64 prod, .int .i64 epoch, .int .i64 sq, .slice q l.length cap]] w fun en w' => en = .returned (.tuple #[.string (bb all), .int .i64 0]) ∧ St W0 w' K L := by
  have HK := Lib.hid hk
  have HFT := Lib.hid hfit
  have HLL := Lib.hid (show l.length ≤ 1000000 by omega)
  have HL1 := Lib.hid hll
  have HMX := Lib.hid hmx
  have HE := Lib.hid he
  have HRW := Lib.hid hrw
  have HRC := Lib.hid hrc
  have AT := Lib.hid hat
  have HSZ := Lib.hid (show rows.length ≤ 140737488355328 by omega)
  have R0 := Lib.hid r0
  have R1 := Lib.hid r1
  have O0 := Lib.hid o0
  have O1 := Lib.hid o1
  have T0 := Lib.hid (show (⟨said0, 0⟩ : OutS).text = (said0, 0) from rfl)
  have T1 := Lib.hid (show (⟨said1, 0⟩ : OutS).text = (said1, 0) from rfl)
  have HX := Lib.hid hx
  have HS21 := Lib.hid (show 21 ≤ said0.length by omega)
  have HS2 := Lib.hid (show said0.length ≤ 140737488355328 by omega)
  have HR2 := Lib.hid (show rows.length ≤ 140737488355328 by omega)
  have HALL := Lib.hid hall
  have hcat : bb said1 ++ bb rows = bb all := by rw [← hall]; exact bb_append _ _
  have hg : ¬ (9223372036854775807 < said1.length + rows.length) := by omega
  have t1 : True := trivial
  have h1 := h.allocRaw #[.int .i64 base, .int .i64 leader, .bool app, .bool txn, .bool ctl, .int .i64 last, .int .i64 first, .int .i64 maxt, .int .i64 prod, .int .i64 epoch, .int .i64 sq, .slice q l.length cap] 37
  obtain ⟨hb, hhb⟩ : ∃ b, w.heap.size = b := ⟨_, rfl⟩
  rw [hhb] at h1
  obtain ⟨x0, x1, x2, x3, x4, x5, x6, x7, x8, x9, x10, x11, y0, y1, y2, y3, y4, y5, y6, y7, y8, y9, y10, y11⟩ := raw12 (b := hb) (h1)
  have H := Lib.hid h1
  clear h h1 hk hfit hll hmx he hrw hrc hat r0 r1 o0 o1 l0 l1 hx hall hrl
  go_enter Try.func15, Try.ntmps15
  go_wp2_with (first
    | (go_at_call 12; (with_reducible refine (bat_check _ _ _ _ _ _ _ _ _ _ _ l _ _ 0 HE.out HMX.out HFT.out HLL.out HK.out H.out).mono ?_); rintro e_ wn ⟨rfl, h⟩; replace H := Lib.hid h; clear h; obtain ⟨x0, x1, x2, x3, x4, x5, x6, x7, x8, x9, x10, x11, y0, y1, y2, y3, y4, y5, y6, y7, y8, y9, y10, y11⟩ := raw12 (b := hb) (H.out))
    | (go_at_call 28; (with_reducible refine (bat_pack l _ _ rows HRW.out HRC.out HFT.out HL1.out HK.out H.out).mono ?_); rintro e_ wn ⟨rfl, h⟩; replace H := Lib.hid h; clear h; obtain ⟨x0, x1, x2, x3, x4, x5, x6, x7, x8, x9, x10, x11, y0, y1, y2, y3, y4, y5, y6, y7, y8, y9, y10, y11⟩ := raw12 (b := hb) (H.out))
    | (go_at_call 29; (with_reducible refine (bat_head _ _ _ _ _ _ _ _ _ _ _ l _ _ rows.length HSZ.out H.out).mono ?_); rw [AT.out]; rintro e_ wn ⟨rfl, h⟩; have h := h.allocRaw #[.int .i64 base, .int .i64 (49 + rows.length), .int .i64 leader, .int .i64 0, .int .i64 at_, .int .i64 last, .int .i64 first, .int .i64 maxt, .int .i64 prod, .int .i64 epoch, .int .i64 sq, .int .i64 l.length] 73; obtain ⟨pb, hpb⟩ : ∃ b, wn.heap.size = b := ⟨_, rfl⟩; rw [hpb] at h; replace H := Lib.hid h; clear h; obtain ⟨p0, p1, p2, p3, p4, p5, p6, p7, p8, p9, p10, p11, u0, u1, u2, u3, u4, u5, u6, u7, u8, u9, u10, u11⟩ := raw12 (b := pb) (H.out))
    | (go_at_call 30; have _t := t1; clear _t; (with_reducible refine (bat_written _ _ _ _ _ _ _ _ _ _ _ _ R0.out _ _ _ O0.out T0.out H.out).mono ?_); rintro e_ wn ⟨rfl, h⟩; replace H := Lib.hid h; clear h; obtain ⟨p0, p1, p2, p3, p4, p5, p6, p7, p8, p9, p10, p11, u0, u1, u2, u3, u4, u5, u6, u7, u8, u9, u10, u11⟩ := raw12 (b := pb) (H.out); have t2 : True := trivial; clear t1)
    | (go_at_call 31; (with_reducible refine (bat_sum said0 rows x HX.out HS21.out HS2.out HR2.out H.out).mono ?_); rintro e_ wn ⟨rfl, h⟩; replace H := Lib.hid h; clear h; obtain ⟨p0, p1, p2, p3, p4, p5, p6, p7, p8, p9, p10, p11, u0, u1, u2, u3, u4, u5, u6, u7, u8, u9, u10, u11⟩ := raw12 (b := pb) (H.out); have h3 : St W0 _ K (.raw pb #[.int .i64 base, .int .i64 (49 + rows.length), .int .i64 leader, .int .i64 x, .int .i64 at_, .int .i64 last, .int .i64 first, .int .i64 maxt, .int .i64 prod, .int .i64 epoch, .int .i64 sq, .int .i64 l.length] 73 :: _) := H.out.rawSet 3 (.int .i64 x); obtain ⟨a0, a1, a2, a3, a4, a5, a6, a7, a8, a9, a10, a11, f0, f1, f2, f3, f4, f5, f6, f7, f8, f9, f10, f11⟩ := raw12 (b := pb) (h3); clear h3)
    | (go_at_call 30; have _t := t2; clear _t; (with_reducible refine (bat_written _ _ _ _ _ _ _ _ _ _ _ _ R1.out _ _ _ O1.out T1.out (H.out.rawSet 3 (.int .i64 x))).mono ?_); rintro e_ wn ⟨rfl, h⟩; replace H := Lib.hid h; clear h; clear t2))
  go_ret2
  exact ⟨rfl, H.out.drop.drop⟩

end Go.Proofs.Ytngojlinfdokpaa

/- A text. -/
namespace Go.Proofs.Ytngojlinfdokpaa
open Go.RowKit

theorem bat_encode_enc (b : BatS) (l : List (RecS × Value)) (q : Option Addr) (cap : Nat) (hl : l.map (·.1) = b.recs) (so : SmallOk b) {W0 w : World} {K : Know} {L : List Res} (hk : K.has (Know.recs (.slice q l.length cap) l)) (h : St W0 w K L) :
  Calls Try.prog 15 #[.agg #[.int .i64 b.base, .int .i64 b.leader, .bool b.app, .bool b.txn, .bool b.ctl, .int .i64 b.last, .int .i64 b.first, .int .i64 b.maxt, .int .i64 b.prod, .int .i64 b.epoch, .int .i64 b.seq, .slice q l.length cap]] w fun en w' => en = .returned (.tuple #[.string (bb b.enc), .int .i64 0]) ∧ St W0 w' K L := by
 have hrow := so.rows
 have hlen := so.len
 have hcr := b.crc_lt
 have hml : l.length = b.recs.length := by rw [← hl, List.length_map]
 have f0 := BatS.fitsAll so.err so.rng 0 (by decide) (by omega) (by omega)
 have f1 := BatS.fitsAll so.err so.rng b.crc (by omega) (by omega) (by omega)
 have r0 := BatS.pre_R so.err so.rng 0 (by decide) (by omega) (by omega)
 have r1 := BatS.pre_R so.err so.rng b.crc (by omega) (by omega) (by omega)
 have hmx : b.first ≤ 9223372036854775807 := by have := so.rng.2.2.2.1.2; omega
 have e0 : b.pre 0 = (⟨b.base, 49 + (b.rowsB.length : Int), b.leader, 0, attrN b.app b.txn b.ctl 3, b.last, b.first, b.maxt, b.prod, b.epoch, b.seq, (l.length : Int)⟩ : PreS) := by unfold BatS.pre; rw [hml]
 have e1 : b.pre b.crc = (⟨b.base, 49 + (b.rowsB.length : Int), b.leader, (b.crc : Int), attrN b.app b.txn b.ctl 3, b.last, b.first, b.maxt, b.prod, b.epoch, b.seq, (l.length : Int)⟩ : PreS) := by unfold BatS.pre; rw [hml]
 have i0 := ints_items f0
 have i1 := ints_items f1
 have hd0 := b.pre_drop 0
 have l0 := items_len (b.pre 0)
 have l1 := items_len (b.pre b.crc)
 have he : batErr ⟨b.base, b.leader, b.app, b.txn, b.ctl, b.last, b.first, b.maxt, b.prod, b.epoch, b.seq, l.map (·.1)⟩ = 0 := by rw [hl]; exact so.err
 have hrc : recsC (l.map (·.1)) = 0 := by rw [hl]; exact (batErr_zero so.err).2.2.2
 have hrw : encAll l = b.rowsB := by rw [encAll_rows, hl]; rfl
 have hfb : FitB l := by
  intro x hx
  obtain ⟨a, c, d⟩ := so.fit x.1 (by rw [← hl]; exact List.mem_map.2 ⟨x, hx, rfl⟩)
  have := hsum_fit x.1.hdrs 1000 (by unfold RecS.sum at d; omega)
  exact ⟨a, fun y hy => by have := this y hy; omega, by omega⟩
 have hall : encInts (b.pre b.crc).items ++ b.rowsB = b.enc := rfl
 have hx : (crcMore 0#32 ((encInts (b.pre 0).items).drop 21 ++ b.rowsB)).toNat = b.crc := by rw [hd0]; rfl
 rw [e0] at r0 i0
 rw [e1] at r1 i1
 obtain ⟨s0, hs0⟩ : ∃ s, encInts (b.pre 0).items = s := ⟨_, rfl⟩
 obtain ⟨s1, hs1⟩ : ∃ s, encInts (b.pre b.crc).items = s := ⟨_, rfl⟩
 have g0 : encInts (⟨b.base, 49 + (b.rowsB.length : Int), b.leader, 0, attrN b.app b.txn b.ctl 3, b.last, b.first, b.maxt, b.prod, b.epoch, b.seq, (l.length : Int)⟩ : PreS).items = s0 := e0 ▸ hs0
 have g1 : encInts (⟨b.base, 49 + (b.rowsB.length : Int), b.leader, (b.crc : Int), attrN b.app b.txn b.ctl 3, b.last, b.first, b.maxt, b.prod, b.epoch, b.seq, (l.length : Int)⟩ : PreS).items = s1 := e1 ▸ hs1
 rw [g0] at i0
 rw [g1] at i1
 rw [hs0] at hx l0
 rw [hs1] at hall l1
 exact bat_encode_ok b.base b.leader b.app b.txn b.ctl b.last b.first b.maxt b.prod b.epoch b.seq l q cap he hmx hfb (by omega) b.rowsB s0 s1 b.enc b.crc (attrN b.app b.txn b.ctl 3) hrc hrw (by omega) rfl r0 r1 i0 i1 l0 l1 hx hall hk h

end Go.Proofs.Ytngojlinfdokpaa

/- A text. -/
namespace Go.Proofs.Ytngojlinfdokpaa
open Go.RowKit

def AgreeB (a b : Bs) (first n : Nat) : Prop := b.take 21 = a.take 21 ∧ ∀ i, (i < first ∨ first + n ≤ i) → (bitsOf (a.drop 21)).getD i false = (bitsOf (b.drop 21)).getD i false
theorem AgreeB.refl (a : Bs) (f : Nat) : AgreeB a a f 0 := ⟨rfl, fun _ _ => rfl⟩
theorem AgreeB.step {a b : Bs} {f n : Nat} (h : AgreeB a b f n) : AgreeB a b f (n + 1) := ⟨h.1, fun i hi => h.2 i (by omega)⟩
end Go.Proofs.Ytngojlinfdokpaa
