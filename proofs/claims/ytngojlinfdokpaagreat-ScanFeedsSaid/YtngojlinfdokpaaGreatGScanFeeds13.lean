/- A text. -/
import Derived.Test.YtngojlinfdokpaaGreatGScanFeeds12
import Derived.Test.YtngojlinfdokpaaGreatGScanFeeds6
import Derived.Test.YtngojlinfdokpaaGreatGScanFeeds8
import Derived.Test.YtngojlinfdokpaaGreatS1
import Derived.Test.YtngojlinfdokpaaGreatCtl2
import Derived.Test.YtngojlinfdokpaaGreatGScanFeeds4
import Derived.Test.YtngojlinfdokpaaGreatGScanFeeds1
import Derived.Deep.RegionHeld3
import Derived.Deep.DeepCutAuto
import Derived.Test.YtngojlinfdokpaaGreatGScanFeeds7
import Derived.RegionTactic
import Derived.Test.YtngojlinfdokpaaGreatGScanFeeds10
/- A text. -/
namespace Go.Proofs.YtngojlinfdokpaaGreat
open Go.RowKit

theorem raw14 {W0 w : World} {K : Know} {L : List Res} {b : Nat} {T : TypeId} {v0 v1 v2 v3 v4 v5 v6 v7 v8 v9 v10 v11 v12 v13 : Value} (h : St W0 w K (.raw b #[v0, v1, v2, v3, v4, v5, v6, v7, v8, v9, v10, v11, v12, v13] T :: L)) :
  w.cell? ⟨b, 0, none⟩ = some v0 ∧ w.cell? ⟨b, 1, none⟩ = some v1 ∧ w.cell? ⟨b, 2, none⟩ = some v2 ∧ w.cell? ⟨b, 3, none⟩ = some v3 ∧ w.cell? ⟨b, 4, none⟩ = some v4 ∧ w.cell? ⟨b, 5, none⟩ = some v5 ∧ w.cell? ⟨b, 6, none⟩ = some v6 ∧ w.cell? ⟨b, 7, none⟩ = some v7 ∧ w.cell? ⟨b, 8, none⟩ = some v8 ∧ w.cell? ⟨b, 9, none⟩ = some v9 ∧ w.cell? ⟨b, 10, none⟩ = some v10 ∧ w.cell? ⟨b, 11, none⟩ = some v11 ∧ w.cell? ⟨b, 12, none⟩ = some v12 ∧ w.cell? ⟨b, 13, none⟩ = some v13 ∧
  w.frozen? ⟨b, 0, none⟩ = false ∧ w.frozen? ⟨b, 1, none⟩ = false ∧ w.frozen? ⟨b, 2, none⟩ = false ∧ w.frozen? ⟨b, 3, none⟩ = false ∧ w.frozen? ⟨b, 4, none⟩ = false ∧ w.frozen? ⟨b, 5, none⟩ = false ∧ w.frozen? ⟨b, 6, none⟩ = false ∧ w.frozen? ⟨b, 7, none⟩ = false ∧ w.frozen? ⟨b, 8, none⟩ = false ∧ w.frozen? ⟨b, 9, none⟩ = false ∧ w.frozen? ⟨b, 10, none⟩ = false ∧ w.frozen? ⟨b, 11, none⟩ = false ∧ w.frozen? ⟨b, 12, none⟩ = false ∧ w.frozen? ⟨b, 13, none⟩ = false :=
 ⟨h.rawCell 0, h.rawCell 1, h.rawCell 2, h.rawCell 3, h.rawCell 4, h.rawCell 5, h.rawCell 6, h.rawCell 7, h.rawCell 8, h.rawCell 9, h.rawCell 10, h.rawCell 11, h.rawCell 12, h.rawCell 13, h.rawFree 0, h.rawFree 1, h.rawFree 2, h.rawFree 3, h.rawFree 4, h.rawFree 5, h.rawFree 6, h.rawFree 7, h.rawFree 8, h.rawFree 9, h.rawFree 10, h.rawFree 11, h.rawFree 12, h.rawFree 13⟩
set_option maxHeartbeats 1000000 in
set_option maxRecDepth 100000 in
theorem St.sets14 {W0 w : World} {K : Know} {L : List Res} {b : Nat} {T : TypeId} {a0 a1 a2 a3 a4 a5 a6 a7 a8 a9 a10 a11 a12 a13 : Value} (v0 v1 v2 v3 v4 v5 v6 v7 v8 v9 v10 v11 v12 v13 : Value) (h : St W0 w K (.raw b #[a0, a1, a2, a3, a4, a5, a6, a7, a8, a9, a10, a11, a12, a13] T :: L)) : St W0 ((((((((((((((w.setCell ⟨b, 0, none⟩ v0).setCell ⟨b, 1, none⟩ v1).setCell ⟨b, 2, none⟩ v2).setCell ⟨b, 3, none⟩ v3).setCell ⟨b, 4, none⟩ v4).setCell ⟨b, 5, none⟩ v5).setCell ⟨b, 6, none⟩ v6).setCell ⟨b, 7, none⟩ v7).setCell ⟨b, 8, none⟩ v8).setCell ⟨b, 9, none⟩ v9).setCell ⟨b, 10, none⟩ v10).setCell ⟨b, 11, none⟩ v11).setCell ⟨b, 12, none⟩ v12).setCell ⟨b, 13, none⟩ v13) K (.raw b #[v0, v1, v2, v3, v4, v5, v6, v7, v8, v9, v10, v11, v12, v13] T :: L) := by
 have h : St W0 _ K (.raw b #[v0, a1, a2, a3, a4, a5, a6, a7, a8, a9, a10, a11, a12, a13] T :: L) := h.rawSet 0 v0
 have h : St W0 _ K (.raw b #[v0, v1, a2, a3, a4, a5, a6, a7, a8, a9, a10, a11, a12, a13] T :: L) := h.rawSet 1 v1
 have h : St W0 _ K (.raw b #[v0, v1, v2, a3, a4, a5, a6, a7, a8, a9, a10, a11, a12, a13] T :: L) := h.rawSet 2 v2
 have h : St W0 _ K (.raw b #[v0, v1, v2, v3, a4, a5, a6, a7, a8, a9, a10, a11, a12, a13] T :: L) := h.rawSet 3 v3
 have h : St W0 _ K (.raw b #[v0, v1, v2, v3, v4, a5, a6, a7, a8, a9, a10, a11, a12, a13] T :: L) := h.rawSet 4 v4
 have h : St W0 _ K (.raw b #[v0, v1, v2, v3, v4, v5, a6, a7, a8, a9, a10, a11, a12, a13] T :: L) := h.rawSet 5 v5
 have h : St W0 _ K (.raw b #[v0, v1, v2, v3, v4, v5, v6, a7, a8, a9, a10, a11, a12, a13] T :: L) := h.rawSet 6 v6
 have h : St W0 _ K (.raw b #[v0, v1, v2, v3, v4, v5, v6, v7, a8, a9, a10, a11, a12, a13] T :: L) := h.rawSet 7 v7
 have h : St W0 _ K (.raw b #[v0, v1, v2, v3, v4, v5, v6, v7, v8, a9, a10, a11, a12, a13] T :: L) := h.rawSet 8 v8
 have h : St W0 _ K (.raw b #[v0, v1, v2, v3, v4, v5, v6, v7, v8, v9, a10, a11, a12, a13] T :: L) := h.rawSet 9 v9
 have h : St W0 _ K (.raw b #[v0, v1, v2, v3, v4, v5, v6, v7, v8, v9, v10, a11, a12, a13] T :: L) := h.rawSet 10 v10
 have h : St W0 _ K (.raw b #[v0, v1, v2, v3, v4, v5, v6, v7, v8, v9, v10, v11, a12, a13] T :: L) := h.rawSet 11 v11
 have h : St W0 _ K (.raw b #[v0, v1, v2, v3, v4, v5, v6, v7, v8, v9, v10, v11, v12, a13] T :: L) := h.rawSet 12 v12
 have h : St W0 _ K (.raw b #[v0, v1, v2, v3, v4, v5, v6, v7, v8, v9, v10, v11, v12, v13] T :: L) := h.rawSet 13 v13
 exact h
def unpT : Nat → Bs → Except Int (List RecS)
  | 0, s => if s = [] then .ok [] else .error 10
  | n + 1, s => if s = [] then .error 10 else match reRec s with
    | .error e => .error e
    | .ok y => consE y.1 (unpT n (s.drop y.2))
theorem unp_unpT : ∀ (n : Nat) (rows : Bs) (pos : Nat), pos ≤ rows.length → unp n ⟨rows, pos, 0⟩ = unpT n (rows.drop pos)
  | 0, rows, pos, hp => by
    show (if (⟨rows, pos, 0⟩ : InS).left = 0 then Except.ok [] else Except.error (10 : Int)) = if rows.drop pos = [] then Except.ok [] else Except.error (10 : Int)
    have e : (⟨rows, pos, 0⟩ : InS).left = rows.length - pos := rfl
    by_cases c : rows.length - pos = 0
    · rw [if_pos (by rw [e]; exact c), if_pos (List.drop_of_length_le (by omega))]
    · have hne : rows.drop pos ≠ [] := by
        intro hh
        have := congrArg List.length hh
        rw [List.length_drop, List.length_nil] at this
        exact c this
      rw [if_neg (by rw [e]; exact c), if_neg hne]
  | n + 1, rows, pos, hp => by
    show (if (⟨rows, pos, 0⟩ : InS).left = 0 then Except.error (10 : Int) else if (⟨rows, pos, 0⟩ : InS).record.2.err = 0 then consE (⟨rows, pos, 0⟩ : InS).record.1 (unp n (⟨rows, pos, 0⟩ : InS).record.2) else .error (⟨rows, pos, 0⟩ : InS).record.2.err) = if rows.drop pos = [] then Except.error (10 : Int) else match reRec (rows.drop pos) with
      | .error e => Except.error e
      | .ok y => consE y.1 (unpT n ((rows.drop pos).drop y.2))
    have e : (⟨rows, pos, 0⟩ : InS).left = rows.length - pos := rfl
    by_cases c : rows.length - pos = 0
    · rw [if_pos (by rw [e]; exact c), if_pos (List.drop_of_length_le (by omega))]
    have hne : rows.drop pos ≠ [] := by
      intro hh
      have := congrArg List.length hh
      rw [List.length_drop, List.length_nil] at this
      exact c this
    rw [if_neg (by rw [e]; exact c), if_neg hne]
    cases hr : reRec (rows.drop pos) with
    | error e =>
      obtain ⟨he, q, _, hf⟩ := rds_rec.err rows pos e hp hr
      rw [hf]
      simp only
      rw [if_neg he]
    | ok y =>
      obtain ⟨x, m⟩ := y
      obtain ⟨hpm, hf⟩ := rds_rec.ok rows pos x m hp hr
      rw [hf]
      simp only [if_true]
      rw [unp_unpT n rows (pos + m) hpm, List.drop_drop]
theorem unpT_nil (n : Nat) : unpT (n + 1) [] = .error 10 := rfl
theorem unpT_err {n : Nat} {s : Bs} {e : Int} (h0 : s ≠ []) (h : reRec s = .error e) : unpT (n + 1) s = .error e := by
 show (if s = [] then Except.error (10 : Int) else match reRec s with
  | .error e => Except.error e
  | .ok y => consE y.1 (unpT n (s.drop y.2))) = _
 rw [if_neg h0, h]
theorem unpT_ok {n : Nat} {s : Bs} {x : RecS} {m : Nat} (h0 : s ≠ []) (h : reRec s = .ok (x, m)) : unpT (n + 1) s = consE x (unpT n (s.drop m)) := by
 show (if s = [] then Except.error (10 : Int) else match reRec s with
  | .error e => Except.error e
  | .ok y => consE y.1 (unpT n (s.drop y.2))) = _
 rw [if_neg h0, h]
theorem unpT_zero (s : Bs) : unpT 0 s = if s = [] then .ok [] else .error 10 := rfl
theorem chk8_low (n : Int) : chk n = 9 ↔ ¬ n % 8 = 0 := by
 unfold chk bitAt
 constructor
 · intro h hh
   rw [if_neg (by simp; omega)] at h
   split at h <;> cases h
 · intro h
   rw [if_pos (by simp; omega)]
theorem chk8_doc (n : Int) (h8 : n % 8 = 0) : chk n = if n < 0 ∨ 63 < n ∨ (32 ≤ n ∧ n % 32 < 16) then 8 else 0 := by
 unfold chk
 rw [if_neg (by unfold bitAt; simp; omega)]
 by_cases c : n < 0 ∨ 63 < n
 · rw [if_pos (by simp only [Bool.or_eq_true, decide_eq_true_eq]; exact .inl c), if_pos (by omega)]
 · have h1 : (decide (n < 0) || decide (63 < n)) = false := by simp; omega
   rw [h1, Bool.false_or]
   by_cases d : 32 ≤ n ∧ n % 32 < 16
   · rw [if_pos (by unfold bitAt; simp; omega), if_pos (by omega)]
   · rw [if_neg (by unfold bitAt; simp; omega), if_neg (by omega)]
theorem two_bytes (n : Int) : ∃ c0 c1 : UInt8, beBytes n 2 = [c0, c1] ∧ (c1.toNat : Int) = n % 256 := by
 have hl := beBytes_length n 2
 have h1 := beBytes_get n 2 1 (by decide)
 rcases hb : beBytes n 2 with _ | ⟨c0, _ | ⟨c1, t⟩⟩
 · rw [hb] at hl; cases hl
 · rw [hb] at hl; cases hl
 · rw [hb] at hl
   obtain rfl : t = [] := by simp at hl; exact hl
   refine ⟨c0, c1, rfl, ?_⟩
   simp only [hb] at h1
   simpa using h1.symm
set_option maxHeartbeats 1000000 in
set_option maxRecDepth 100000 in
theorem ref11_fault (e : Int) {W0 w : World} {K : Know} {L : List Res} (h : St W0 w K L) :
  Calls Tryz.prog 36 #[.int .i64 e] w fun en w' => en = .returned (.agg #[.int .i64 0, .int .i64 0, .bool false, .bool false, .bool false, .int .i64 0, .int .i64 0, .int .i64 0, .int .i64 0, .int .i64 0, .int .i64 0, .slice none 0 0, .int .i64 0, .int .i64 e]) ∧ St W0 w' K L := by
 obtain ⟨rb, hrb⟩ : ∃ b, w.heap.size = b := ⟨_, rfl⟩
 have g1 := h.allocRaw #[.int .i64 0, .int .i64 0, .bool false, .bool false, .bool false, .int .i64 0, .int .i64 0, .int .i64 0, .int .i64 0, .int .i64 0, .int .i64 0, .slice none 0 0, .int .i64 0, .int .i64 0] 56
 rw [hrb] at g1
 obtain ⟨z0, z1, z2, z3, z4, z5, z6, z7, z8, z9, z10, z11, z12, z13, zf0, zf1, zf2, zf3, zf4, zf5, zf6, zf7, zf8, zf9, zf10, zf11, zf12, zf13⟩ := raw14 (b := rb) (g1)
 have g2 := h.allocRaw #[.int .i64 0, .int .i64 0, .bool false, .bool false, .bool false, .int .i64 0, .int .i64 0, .int .i64 0, .int .i64 0, .int .i64 0, .int .i64 0, .slice none 0 0, .int .i64 0, .int .i64 e] 56
 rw [hrb] at g2
 have H := Lib.hid g2
 clear h g1 g2
 go_enter Tryz.func36, Tryz.ntmps36
 go_wp2
 have hz := H.out
 refine bodyPost_ret (rc_cell_only rfl _ _ rb [.int .i64 0, .int .i64 0, .bool false, .bool false, .bool false, .int .i64 0, .int .i64 0, .int .i64 0, .int .i64 0, .int .i64 0, .int .i64 0, .slice none 0 0, .int .i64 0, .int .i64 e] _ rfl (rc_range hz) Tryz.underlying56 rfl (by kernel_rfl)) rfl ?_
 exact ⟨rfl, hz.drop⟩
theorem sr_bytes2T (n : Int) (hn : -9223372036854775808 ≤ n ∧ n < 9223372036854775808) (c0 c1 : UInt8) (hb : beBytes n 2 = [c0, c1]) {W0 w : World} {K : Know} {L : List Res} (h : St W0 w K L) :
  Calls Tryz.prog 37 #[.int .i64 n, .int .i64 2] w fun en w' => en = .returned (.string (bb [c0, c1])) ∧ St W0 w' K L := by
 rw [← hb]
 exact sr_bytes n 2 (by decide) hn h
set_option maxHeartbeats 1000000 in
set_option maxRecDepth 100000 in
theorem ref10_fields_short (s : Bs) (hs : s.length < 61) {W0 w : World} {K : Know} {L : List Res} (h : St W0 w K L) :
  Calls Tryz.prog 17 #[.string (bb s)] w fun en w' => en = .returned (.tuple #[.slice none 0 0, .int .i64 1]) ∧ St W0 w' K L := by
 have H := Lib.hid h
 have hd : decide ((s.length : Int) < 61) = true := decide_eq_true (by omega)
 clear h hs
 go_enter Tryz.func17, Tryz.ntmps17
 go_wp2
 go_ret2
 exact ⟨rfl, H.out⟩
theorem preX_fields (s : Bs) : (preX s).1.len = sInt ((s.drop 8).take 4) ∧ (preX s).1.count = sInt ((s.drop 57).take 4) ∧ (preX s).2 = sInt ((s.drop 16).take 1) := by
 rw [preX_eq]; exact ⟨rfl, rfl, rfl⟩
theorem ref10_fields_err (s : Bs) (e : Int) (he : rePre s = .error e) (hl : s.length ≤ 140737488355328) {W0 w : World} {K : Know} {L : List Res} (h : St W0 w K L) :
   Calls Tryz.prog 17 #[.string (bb s)] w fun en w' => en = .returned (.tuple #[.slice none 0 0, .int .i64 e]) ∧ St W0 w' K L := by
 unfold rePre at he
 by_cases h1 : s.length < 61
 · rw [if_pos h1] at he
   cases he
   exact ref10_fields_short s h1 h
 rw [if_neg h1] at he
 obtain ⟨g1, g2, g3⟩ := preX_fields s
 rw [g1, g2, g3] at he
 have h4 := (sInt_range4 ((s.drop 17).take 4) (by rw [List.length_take]; omega)).1
 by_cases hm : sInt ((s.drop 16).take 1) = 2
 · rw [if_pos hm] at he
   by_cases hq : sInt ((s.drop 8).take 4) < 49
   · rw [if_pos hq] at he
     cases he
     by_cases h0 : sInt ((s.drop 17).take 4) < 0
     · exact ref10_fields_l1 s (sInt ((s.drop 0).take 8)) (sInt ((s.drop 8).take 4)) (sInt ((s.drop 12).take 4)) (sInt ((s.drop 16).take 1)) (sInt ((s.drop 17).take 4)) (sInt ((s.drop 21).take 2)) (sInt ((s.drop 23).take 4)) (sInt ((s.drop 27).take 8)) (sInt ((s.drop 35).take 8)) (sInt ((s.drop 43).take 8)) (sInt ((s.drop 51).take 2)) (sInt ((s.drop 53).take 4)) (sInt ((s.drop 57).take 4)) rfl rfl rfl rfl rfl rfl rfl rfl rfl rfl rfl rfl rfl (by omega) hl h4 h0 (by simpa using hm) hq h
     · exact ref10_fields_l0 s (sInt ((s.drop 0).take 8)) (sInt ((s.drop 8).take 4)) (sInt ((s.drop 12).take 4)) (sInt ((s.drop 16).take 1)) (sInt ((s.drop 17).take 4)) (sInt ((s.drop 21).take 2)) (sInt ((s.drop 23).take 4)) (sInt ((s.drop 27).take 8)) (sInt ((s.drop 35).take 8)) (sInt ((s.drop 43).take 8)) (sInt ((s.drop 51).take 2)) (sInt ((s.drop 53).take 4)) (sInt ((s.drop 57).take 4)) rfl rfl rfl rfl rfl rfl rfl rfl rfl rfl rfl rfl rfl (by omega) hl h4 h0 (by simpa using hm) hq h
   · rw [if_neg hq] at he
     by_cases hc : sInt ((s.drop 57).take 4) < 0
     · rw [if_pos hc] at he
       cases he
       by_cases h0 : sInt ((s.drop 17).take 4) < 0
       · exact ref10_fields_c1 s (sInt ((s.drop 0).take 8)) (sInt ((s.drop 8).take 4)) (sInt ((s.drop 12).take 4)) (sInt ((s.drop 16).take 1)) (sInt ((s.drop 17).take 4)) (sInt ((s.drop 21).take 2)) (sInt ((s.drop 23).take 4)) (sInt ((s.drop 27).take 8)) (sInt ((s.drop 35).take 8)) (sInt ((s.drop 43).take 8)) (sInt ((s.drop 51).take 2)) (sInt ((s.drop 53).take 4)) (sInt ((s.drop 57).take 4)) rfl rfl rfl rfl rfl rfl rfl rfl rfl rfl rfl rfl rfl (by omega) hl h4 h0 (by simpa using hm) hq hc h
       · exact ref10_fields_c0 s (sInt ((s.drop 0).take 8)) (sInt ((s.drop 8).take 4)) (sInt ((s.drop 12).take 4)) (sInt ((s.drop 16).take 1)) (sInt ((s.drop 17).take 4)) (sInt ((s.drop 21).take 2)) (sInt ((s.drop 23).take 4)) (sInt ((s.drop 27).take 8)) (sInt ((s.drop 35).take 8)) (sInt ((s.drop 43).take 8)) (sInt ((s.drop 51).take 2)) (sInt ((s.drop 53).take 4)) (sInt ((s.drop 57).take 4)) rfl rfl rfl rfl rfl rfl rfl rfl rfl rfl rfl rfl rfl (by omega) hl h4 h0 (by simpa using hm) hq hc h
     · rw [if_neg hc] at he
       cases he
 · rw [if_neg hm] at he
   cases he
   by_cases h0 : sInt ((s.drop 17).take 4) < 0
   · exact ref10_fields_m1 s (sInt ((s.drop 0).take 8)) (sInt ((s.drop 8).take 4)) (sInt ((s.drop 12).take 4)) (sInt ((s.drop 16).take 1)) (sInt ((s.drop 17).take 4)) (sInt ((s.drop 21).take 2)) (sInt ((s.drop 23).take 4)) (sInt ((s.drop 27).take 8)) (sInt ((s.drop 35).take 8)) (sInt ((s.drop 43).take 8)) (sInt ((s.drop 51).take 2)) (sInt ((s.drop 53).take 4)) (sInt ((s.drop 57).take 4)) rfl rfl rfl rfl rfl rfl rfl rfl rfl rfl rfl rfl rfl (by omega) hl h4 h0 (by simpa using hm) h
   · exact ref10_fields_m0 s (sInt ((s.drop 0).take 8)) (sInt ((s.drop 8).take 4)) (sInt ((s.drop 12).take 4)) (sInt ((s.drop 16).take 1)) (sInt ((s.drop 17).take 4)) (sInt ((s.drop 21).take 2)) (sInt ((s.drop 23).take 4)) (sInt ((s.drop 27).take 8)) (sInt ((s.drop 35).take 8)) (sInt ((s.drop 43).take 8)) (sInt ((s.drop 51).take 2)) (sInt ((s.drop 53).take 4)) (sInt ((s.drop 57).take 4)) rfl rfl rfl rfl rfl rfl rfl rfl rfl rfl rfl rfl rfl (by omega) hl h4 h0 (by simpa using hm) h
theorem ref10_fields_ok (s : Bs) (x : PreS) (he : rePre s = .ok x) (hl : s.length ≤ 140737488355328) {W0 w : World} {K : Know} {L : List Res} (h : St W0 w K L) :
   Calls Tryz.prog 17 #[.string (bb s)] w fun en w' => ∃ bl, en = .returned (.tuple #[.slice (some ⟨bl, 0, none⟩) 12 12, .int .i64 0]) ∧ St W0 w' K (.raw bl #[.int .i64 x.base, .int .i64 x.len, .int .i64 x.leader, .int .i64 x.sum, .int .i64 x.attr, .int .i64 x.last, .int .i64 x.first, .int .i64 x.maxt, .int .i64 x.prod, .int .i64 x.epoch, .int .i64 x.seq, .int .i64 x.count] 3 :: L) := by
 obtain ⟨h1, hx, h2, h3, h5⟩ := rePre_ok he
 obtain ⟨g1, g2, g3⟩ := preX_fields s
 subst hx
 rw [g3] at h2
 rw [g1] at h3
 rw [g2] at h5
 have h4 := (sInt_range4 ((s.drop 17).take 4) (by rw [List.length_take]; omega))
 rw [preX_eq]
 simp only
 by_cases h0 : sInt ((s.drop 17).take 4) < 0
 · have := ref10_fields_ok1 s (sInt ((s.drop 0).take 8)) (sInt ((s.drop 8).take 4)) (sInt ((s.drop 12).take 4)) (sInt ((s.drop 16).take 1)) (sInt ((s.drop 17).take 4)) (sInt ((s.drop 21).take 2)) (sInt ((s.drop 23).take 4)) (sInt ((s.drop 27).take 8)) (sInt ((s.drop 35).take 8)) (sInt ((s.drop 43).take 8)) (sInt ((s.drop 51).take 2)) (sInt ((s.drop 53).take 4)) (sInt ((s.drop 57).take 4)) rfl rfl rfl rfl rfl rfl rfl rfl rfl rfl rfl rfl rfl (by omega) hl h4.1 h0 (by simpa using h2) (by omega) (by omega) h
   rw [show sInt ((s.drop 17).take 4) + 4294967296 = sInt ((s.drop 17).take 4) % 4294967296 by omega] at this
   exact this
 · have := ref10_fields_ok0 s (sInt ((s.drop 0).take 8)) (sInt ((s.drop 8).take 4)) (sInt ((s.drop 12).take 4)) (sInt ((s.drop 16).take 1)) (sInt ((s.drop 17).take 4)) (sInt ((s.drop 21).take 2)) (sInt ((s.drop 23).take 4)) (sInt ((s.drop 27).take 8)) (sInt ((s.drop 35).take 8)) (sInt ((s.drop 43).take 8)) (sInt ((s.drop 51).take 2)) (sInt ((s.drop 53).take 4)) (sInt ((s.drop 57).take 4)) rfl rfl rfl rfl rfl rfl rfl rfl rfl rfl rfl rfl rfl (by omega) hl h4.1 h0 (by simpa using h2) (by omega) (by omega) h
   rw [show (.int .i64 (sInt ((s.drop 17).take 4)) : Value) = .int .i64 (sInt ((s.drop 17).take 4) % 4294967296) by rw [show sInt ((s.drop 17).take 4) % 4294967296 = sInt ((s.drop 17).take 4) by omega]] at this
   exact this
set_option maxHeartbeats 4000000 in
set_option maxRecDepth 100000 in
theorem r11_fields (s : Bs) (hs : s.length ≤ 1000000) (e : Int) (hp : rePre s = .error e) {W0 w : World} {K : Know} {L : List Res} (h : St W0 w K L) :
  Calls Tryz.prog 18 #[.string (bb s)] w fun en w' => en = .returned (.agg #[.int .i64 0, .int .i64 0, .bool false, .bool false, .bool false, .int .i64 0, .int .i64 0, .int .i64 0, .int .i64 0, .int .i64 0, .int .i64 0, .slice none 0 0, .int .i64 0, .int .i64 e]) ∧ St W0 w' K L := by
 obtain ⟨rb, hrb⟩ : ∃ b, w.heap.size = b := ⟨_, rfl⟩
 have g1 := h.allocRaw #[.int .i64 0, .int .i64 0, .bool false, .bool false, .bool false, .int .i64 0, .int .i64 0, .int .i64 0, .int .i64 0, .int .i64 0, .int .i64 0, .slice none 0 0, .int .i64 0, .int .i64 0] 56
 rw [hrb] at g1
 obtain ⟨z0, z1, z2, z3, z4, z5, z6, z7, z8, z9, z10, z11, z12, z13, zf0, zf1, zf2, zf3, zf4, zf5, zf6, zf7, zf8, zf9, zf10, zf11, zf12, zf13⟩ := raw14 (b := rb) (g1)
 have H := Lib.hid g1
 have HL := Lib.hid (show s.length ≤ 140737488355328 by omega)
 have HP := Lib.hid hp
 have g0 := rePre_err hp
 have g1e : (e == 0) = false := by rw [beq_eq_false_iff_ne]; exact g0
 have g2e : (e != 0) = true := by simp [bne, g1e]
 clear g0
 clear h g1 hp hs
 go_enter Tryz.func18, Tryz.ntmps18
 go_wp2_with (first
  | (go_at_call 17; clear z0 zf0 z1 zf1 z2 zf2 z3 zf3 z4 zf4 z5 zf5 z6 zf6 z7 zf7 z8 zf8 z9 zf9 z10 zf10 z11 zf11 z12 zf12 z13 zf13; (with_reducible refine (ref10_fields_err s e HP.out HL.out H.out).mono ?_); rintro e_ wn ⟨rfl, h⟩; obtain ⟨z0, z1, z2, z3, z4, z5, z6, z7, z8, z9, z10, z11, z12, z13, zf0, zf1, zf2, zf3, zf4, zf5, zf6, zf7, zf8, zf9, zf10, zf11, zf12, zf13⟩ := raw14 (b := rb) (h); replace H := Lib.hid h; clear h)
  | (go_at_call 36; clear z0 zf0 z1 zf1 z2 zf2 z3 zf3 z4 zf4 z5 zf5 z6 zf6 z7 zf7 z8 zf8 z9 zf9 z10 zf10 z11 zf11 z12 zf12 z13 zf13; (with_reducible refine (ref11_fault e H.out).mono ?_); rintro e_ wn ⟨rfl, h⟩; obtain ⟨z0, z1, z2, z3, z4, z5, z6, z7, z8, z9, z10, z11, z12, z13, zf0, zf1, zf2, zf3, zf4, zf5, zf6, zf7, zf8, zf9, zf10, zf11, zf12, zf13⟩ := raw14 (b := rb) (h); replace H := Lib.hid h; clear h))
 have hz : St W0 _ _ (.raw rb #[.int .i64 0, .int .i64 0, .bool false, .bool false, .bool false, .int .i64 0, .int .i64 0, .int .i64 0, .int .i64 0, .int .i64 0, .int .i64 0, .slice none 0 0, .int .i64 0, .int .i64 e] 56 :: _) := St.sets14 _ _ _ _ _ _ _ _ _ _ _ _ _ _ (H.out)
 refine bodyPost_ret (rc_cell_only rfl _ _ rb [.int .i64 0, .int .i64 0, .bool false, .bool false, .bool false, .int .i64 0, .int .i64 0, .int .i64 0, .int .i64 0, .int .i64 0, .int .i64 0, .slice none 0 0, .int .i64 0, .int .i64 e] _ rfl (rc_range hz) Tryz.underlying56 rfl (by kernel_rfl)) rfl ?_
 exact ⟨rfl, hz.drop⟩

set_option maxHeartbeats 4000000 in
set_option maxRecDepth 100000 in
theorem r11_short (s : Bs) (hs : s.length ≤ 1000000) (x : PreS) (hp : rePre s = .ok x) (nn : Nat) (hnn : 61 + (x.len - 49).toNat = nn) (hlt : s.length < nn) {W0 w : World} {K : Know} {L : List Res} (h : St W0 w K L) :
  Calls Tryz.prog 18 #[.string (bb s)] w fun en w' => en = .returned (.agg #[.int .i64 0, .int .i64 0, .bool false, .bool false, .bool false, .int .i64 0, .int .i64 0, .int .i64 0, .int .i64 0, .int .i64 0, .int .i64 0, .slice none 0 0, .int .i64 0, .int .i64 1]) ∧ St W0 w' K L := by
 obtain ⟨rb, hrb⟩ : ∃ b, w.heap.size = b := ⟨_, rfl⟩
 have g1 := h.allocRaw #[.int .i64 0, .int .i64 0, .bool false, .bool false, .bool false, .int .i64 0, .int .i64 0, .int .i64 0, .int .i64 0, .int .i64 0, .int .i64 0, .slice none 0 0, .int .i64 0, .int .i64 0] 56
 rw [hrb] at g1
 obtain ⟨z0, z1, z2, z3, z4, z5, z6, z7, z8, z9, z10, z11, z12, z13, zf0, zf1, zf2, zf3, zf4, zf5, zf6, zf7, zf8, zf9, zf10, zf11, zf12, zf13⟩ := raw14 (b := rb) (g1)
 have H := Lib.hid g1
 have HL := Lib.hid (show s.length ≤ 140737488355328 by omega)
 have HP := Lib.hid hp
 obtain ⟨r1, r2, r3, r4, r5, r6⟩ := pre_ranges hp
 have hln : x.len + 12 = (nn : Int) := by omega
 have hsl : (s.length : Int) ≤ 1000000 := by omega
 have g9 : (s.length : Int) < (nn : Int) := by omega
 clear h g1 hp hs hnn hlt r3 r4 r5 r6
 go_enter Tryz.func18, Tryz.ntmps18
 go_wp2_with (first
  | (go_at_call 17; clear z0 zf0 z1 zf1 z2 zf2 z3 zf3 z4 zf4 z5 zf5 z6 zf6 z7 zf7 z8 zf8 z9 zf9 z10 zf10 z11 zf11 z12 zf12 z13 zf13; (with_reducible refine (ref10_fields_ok s x HP.out HL.out H.out).mono ?_); rintro e_ wn ⟨bl, rfl, h⟩; have p0 := h.rawCell 0; have p1 := h.rawCell 1; have p2 := h.rawCell 2; have p3 := h.rawCell 3; have p4 := h.rawCell 4; have p5 := h.rawCell 5; have p6 := h.rawCell 6; have p7 := h.rawCell 7; have p8 := h.rawCell 8; have p9 := h.rawCell 9; have p10 := h.rawCell 10; have p11 := h.rawCell 11; simp at p0 p1 p2 p3 p4 p5 p6 p7 p8 p9 p10 p11; obtain ⟨z0, z1, z2, z3, z4, z5, z6, z7, z8, z9, z10, z11, z12, z13, zf0, zf1, zf2, zf3, zf4, zf5, zf6, zf7, zf8, zf9, zf10, zf11, zf12, zf13⟩ := raw14 (b := rb) (h.p1); replace H := Lib.hid h; clear h)
  | (go_at_call 36; clear z0 zf0 z1 zf1 z2 zf2 z3 zf3 z4 zf4 z5 zf5 z6 zf6 z7 zf7 z8 zf8 z9 zf9 z10 zf10 z11 zf11 z12 zf12 z13 zf13; clear p0 p1 p2 p3 p4 p5 p6 p7 p8 p9 p10 p11; (with_reducible refine (ref11_fault 1 H.out).mono ?_); rintro e_ wn ⟨rfl, h⟩; obtain ⟨z0, z1, z2, z3, z4, z5, z6, z7, z8, z9, z10, z11, z12, z13, zf0, zf1, zf2, zf3, zf4, zf5, zf6, zf7, zf8, zf9, zf10, zf11, zf12, zf13⟩ := raw14 (b := rb) (h.p1); replace H := Lib.hid h; clear h))
 have hz : St W0 _ _ (.raw rb #[.int .i64 0, .int .i64 0, .bool false, .bool false, .bool false, .int .i64 0, .int .i64 0, .int .i64 0, .int .i64 0, .int .i64 0, .int .i64 0, .slice none 0 0, .int .i64 0, .int .i64 1] 56 :: _) := St.sets14 _ _ _ _ _ _ _ _ _ _ _ _ _ _ (H.out.p1)
 refine bodyPost_ret (rc_cell_only rfl _ _ rb [.int .i64 0, .int .i64 0, .bool false, .bool false, .bool false, .int .i64 0, .int .i64 0, .int .i64 0, .int .i64 0, .int .i64 0, .int .i64 0, .slice none 0 0, .int .i64 0, .int .i64 1] _ rfl (rc_range hz) Tryz.underlying56 rfl (by kernel_rfl)) rfl ?_
 exact ⟨rfl, hz.drop.drop⟩
set_option maxHeartbeats 4000000 in
set_option maxRecDepth 100000 in
theorem r11_sum (s : Bs) (hs : s.length ≤ 1000000) (x : PreS) (hp : rePre s = .ok x) (nn : Nat) (hnn : 61 + (x.len - 49).toNat = nn) (hge0 : nn ≤ s.length) (sd : Bs) (hsd : (s.drop 21).take (nn - 21) = sd) (X : Nat) (hX : (crcMore 0#32 sd).toNat = X) (hne : (X : Int) ≠ x.sum) {W0 w : World} {K : Know} {L : List Res} (h : St W0 w K L) :
   Calls Tryz.prog 18 #[.string (bb s)] w fun en w' => en = .returned (.agg #[.int .i64 0, .int .i64 0, .bool false, .bool false, .bool false, .int .i64 0, .int .i64 0, .int .i64 0, .int .i64 0, .int .i64 0, .int .i64 0, .slice none 0 0, .int .i64 0, .int .i64 5]) ∧ St W0 w' K L := by
 obtain ⟨rb, hrb⟩ : ∃ b, w.heap.size = b := ⟨_, rfl⟩
 have g1 := h.allocRaw #[.int .i64 0, .int .i64 0, .bool false, .bool false, .bool false, .int .i64 0, .int .i64 0, .int .i64 0, .int .i64 0, .int .i64 0, .int .i64 0, .slice none 0 0, .int .i64 0, .int .i64 0] 56
 rw [hrb] at g1
 obtain ⟨z0, z1, z2, z3, z4, z5, z6, z7, z8, z9, z10, z11, z12, z13, zf0, zf1, zf2, zf3, zf4, zf5, zf6, zf7, zf8, zf9, zf10, zf11, zf12, zf13⟩ := raw14 (b := rb) (g1)
 have H := Lib.hid g1
 have HL := Lib.hid (show s.length ≤ 140737488355328 by omega)
 have HP := Lib.hid hp
 obtain ⟨r1, r2, r3, r4, r5, r6⟩ := pre_ranges hp
 have hln : x.len + 12 = (nn : Int) := by omega
 have hsl : (s.length : Int) ≤ 1000000 := by omega
 have HSD := Lib.hid hsd
 have HX := Lib.hid hX
 have HSL := Lib.hid (show sd.length ≤ 1000000 by rw [← hsd, List.length_take, List.length_drop]; omega)
 have hX4 : (X : Int) < 4294967296 := by rw [← hX]; have := (crcMore 0#32 sd).isLt; omega
 have hwX : IntKind.i64.wrap (X : Int) = (X : Int) := by rw [IntKind.wrap_i64]; omega
 clear hX4
 have hge : (nn : Int) ≤ (s.length : Int) := by omega
 have h21 : (21 : Int) ≤ (nn : Int) := by omega
 have h61 : (61 : Int) ≤ (nn : Int) := by omega
 have hg9 : ¬ (s.length : Int) < (nn : Int) := by omega
 have g5 : ((X : Int) == x.sum) = false := by rw [beq_eq_false_iff_ne]; exact hne
 have g6 : ((X : Int) != x.sum) = true := by simp [bne, g5]
 clear h g1 hp hs hnn r3 r4 r5 r6 hsd hX hge0 hne
 go_enter Tryz.func18, Tryz.ntmps18
 go_upto_region 7 with (first
   | (go_at_call 17; clear z0 zf0 z1 zf1 z2 zf2 z3 zf3 z4 zf4 z5 zf5 z6 zf6 z7 zf7 z8 zf8 z9 zf9 z10 zf10 z11 zf11 z12 zf12 z13 zf13; (with_reducible refine (ref10_fields_ok s x HP.out HL.out H.out).mono ?_); rintro e_ wn ⟨bl, rfl, h⟩; have p0 := h.rawCell 0; have p1 := h.rawCell 1; have p2 := h.rawCell 2; have p3 := h.rawCell 3; have p4 := h.rawCell 4; have p5 := h.rawCell 5; have p6 := h.rawCell 6; have p7 := h.rawCell 7; have p8 := h.rawCell 8; have p9 := h.rawCell 9; have p10 := h.rawCell 10; have p11 := h.rawCell 11; simp at p0 p1 p2 p3 p4 p5 p6 p7 p8 p9 p10 p11; obtain ⟨z0, z1, z2, z3, z4, z5, z6, z7, z8, z9, z10, z11, z12, z13, zf0, zf1, zf2, zf3, zf4, zf5, zf6, zf7, zf8, zf9, zf10, zf11, zf12, zf13⟩ := raw14 (b := rb) (h.p1); replace H := Lib.hid h; clear h))
 clear z0 zf0 z1 zf1 z2 zf2 z3 zf3 z4 zf4 z5 zf5 z6 zf6 z7 zf7 z8 zf8 z9 zf9 z10 zf10 z11 zf11 z12 zf12 z13 zf13
 clear p0 p1 p2 p3 p4 p5 p6 p7 p8 p9 p10 p11
 have hs := H.out.drew
 refine wp_region_held_drew (S := fun w' => w'.cell? ⟨bl, 0, none⟩ = some (.int .i64 x.base) ∧ w'.cell? ⟨bl, 1, none⟩ = some (.int .i64 x.len) ∧ w'.cell? ⟨bl, 2, none⟩ = some (.int .i64 x.leader) ∧ w'.cell? ⟨bl, 3, none⟩ = some (.int .i64 x.sum) ∧ w'.cell? ⟨bl, 4, none⟩ = some (.int .i64 x.attr) ∧ w'.cell? ⟨bl, 5, none⟩ = some (.int .i64 x.last) ∧ w'.cell? ⟨bl, 6, none⟩ = some (.int .i64 x.first) ∧ w'.cell? ⟨bl, 7, none⟩ = some (.int .i64 x.maxt) ∧ w'.cell? ⟨bl, 8, none⟩ = some (.int .i64 x.prod) ∧ w'.cell? ⟨bl, 9, none⟩ = some (.int .i64 x.epoch) ∧ w'.cell? ⟨bl, 10, none⟩ = some (.int .i64 x.seq) ∧ w'.cell? ⟨bl, 11, none⟩ = some (.int .i64 x.count)) (by kernel_rfl) (⟨hs.rawCell 0, hs.rawCell 1, hs.rawCell 2, hs.rawCell 3, hs.rawCell 4, hs.rawCell 5, hs.rawCell 6, hs.rawCell 7, hs.rawCell 8, hs.rawCell 9, hs.rawCell 10, hs.rawCell 11⟩) (fun hHeld => ?_)
 refine tQ 0 ⟨some 30, .move (.tmp 0), 9, "ref.go:141", #[], none⟩ ?_; simp only [Act.put, sA, sB, sC]
 refine tQ 1 ⟨some 31, .move (.tmp 5), 3, "ref.go:141", #[], none⟩ ?_; simp only [Act.put, sA, sB, sC]
 refine tQ 2 ⟨some 32, .slice 9 (.tmp 30) (some (.const (Value.int IntKind.i64 21))) (some (.tmp 31)) none, 9, "ref.go:141", #[.mk 0 .data, .mk 1 .data], none⟩ ?_; simp only [Act.put, sA, sB, sC]
 refine tQ 5 ⟨some 35, .move (.tmp 3), 40, "ref.go:141", #[], none⟩ ?_; simp only [Act.put, sA, sB, sC]
 refine tQ 6 ⟨some 36, .indexAddr 40 (.tmp 35) (.const (Value.int IntKind.i64 3)), 0, "ref.go:141", #[.mk 5 .data], none⟩ ?_; simp only [Act.put, sA, sB, sC]
 refine tQ 7 ⟨some 37, .load 3 (.tmp 36), 3, "ref.go:141", #[.mk 6 .data], none⟩ ?_; simp only [Act.put, sA, sB, sC]
 refine wpAnyH_ready (rs := [3]) (by kernel_rfl) (by simp) (AllReadyH.cons (o := ⟨some 33, .call { callee := .value (.func 29), args := #[.tmp 32], argTypes := #[9] }, 76, "ref.go:141", #[.mk 2 .data], none⟩) rfl (fun KK hK => ?_) AllReadyH.nil)
 · go_simp
   (try rw [HSD.out])
   go_at_call 29
   with_reducible refine (ref05_sumX sd HSL.out X HX.out hs).mono ?_
   rintro e wq ⟨rfl, hs⟩
   refine hK.out _ _ (⟨hs.rawCell 0, hs.rawCell 1, hs.rawCell 2, hs.rawCell 3, hs.rawCell 4, hs.rawCell 5, hs.rawCell 6, hs.rawCell 7, hs.rawCell 8, hs.rawCell 9, hs.rawCell 10, hs.rawCell 11⟩) (fun hHeld => ?_)
   clear hK KK
   try simp only [Act.put, sA, sB, sC]
   refine tQ 4 ⟨some 34, .convert 76 3 (.tmp 33), 3, "ref.go:141", #[.mk 3 .data], none⟩ ?_; simp only [Act.put, sA, sB, sC]
   refine tQ 8 ⟨some 38, .binOp .neq 3 (.tmp 34) (.tmp 37) 3, 4, "ref.go:141", #[.mk 4 .data, .mk 7 .data], none⟩ ?_; simp only [Act.put, sA, sB, sC]
   refine wpAnyH_done (by kernel_rfl) ?_ _
   clear hHeld
   have H := Lib.hid hs
   clear hs
   have p0 := H.out.rawCell 0
   have p1 := H.out.rawCell 1
   have p2 := H.out.rawCell 2
   have p3 := H.out.rawCell 3
   have p4 := H.out.rawCell 4
   have p5 := H.out.rawCell 5
   have p6 := H.out.rawCell 6
   have p7 := H.out.rawCell 7
   have p8 := H.out.rawCell 8
   have p9 := H.out.rawCell 9
   have p10 := H.out.rawCell 10
   have p11 := H.out.rawCell 11
   simp at p0 p1 p2 p3 p4 p5 p6 p7 p8 p9 p10 p11
   obtain ⟨z0, z1, z2, z3, z4, z5, z6, z7, z8, z9, z10, z11, z12, z13, zf0, zf1, zf2, zf3, zf4, zf5, zf6, zf7, zf8, zf9, zf10, zf11, zf12, zf13⟩ := raw14 (b := rb) (H.out.p1)
   go_wp2_with (go_at_call 36; clear z0 zf0 z1 zf1 z2 zf2 z3 zf3 z4 zf4 z5 zf5 z6 zf6 z7 zf7 z8 zf8 z9 zf9 z10 zf10 z11 zf11 z12 zf12 z13 zf13; clear p0 p1 p2 p3 p4 p5 p6 p7 p8 p9 p10 p11; (with_reducible refine (ref11_fault 5 H.out).mono ?_); rintro e_ wn ⟨rfl, h⟩; obtain ⟨z0, z1, z2, z3, z4, z5, z6, z7, z8, z9, z10, z11, z12, z13, zf0, zf1, zf2, zf3, zf4, zf5, zf6, zf7, zf8, zf9, zf10, zf11, zf12, zf13⟩ := raw14 (b := rb) (h.p1); replace H := Lib.hid h; clear h)
   have hz : St W0 _ _ (.raw rb #[.int .i64 0, .int .i64 0, .bool false, .bool false, .bool false, .int .i64 0, .int .i64 0, .int .i64 0, .int .i64 0, .int .i64 0, .int .i64 0, .slice none 0 0, .int .i64 0, .int .i64 5] 56 :: _) := St.sets14 _ _ _ _ _ _ _ _ _ _ _ _ _ _ (H.out.p1)
   refine bodyPost_ret (rc_cell_only rfl _ _ rb [.int .i64 0, .int .i64 0, .bool false, .bool false, .bool false, .int .i64 0, .int .i64 0, .int .i64 0, .int .i64 0, .int .i64 0, .int .i64 0, .slice none 0 0, .int .i64 0, .int .i64 5] _ rfl (rc_range hz) Tryz.underlying56 rfl (by kernel_rfl)) rfl ?_
   exact ⟨rfl, hz.drop.drop⟩
set_option maxHeartbeats 4000000 in
set_option maxRecDepth 100000 in
theorem r11_low (s : Bs) (hs : s.length ≤ 1000000) (x : PreS) (hp : rePre s = .ok x) (nn : Nat) (hnn : 61 + (x.len - 49).toNat = nn) (hge0 : nn ≤ s.length) (sd : Bs) (hsd : (s.drop 21).take (nn - 21) = sd) (X : Nat) (hX : (crcMore 0#32 sd).toNat = X) (heq : (X : Int) = x.sum) (h8 : ¬ x.attr % 8 = 0) {W0 w : World} {K : Know} {L : List Res} (h : St W0 w K L) :
  Calls Tryz.prog 18 #[.string (bb s)] w fun en w' => en = .returned (.agg #[.int .i64 0, .int .i64 0, .bool false, .bool false, .bool false, .int .i64 0, .int .i64 0, .int .i64 0, .int .i64 0, .int .i64 0, .int .i64 0, .slice none 0 0, .int .i64 0, .int .i64 9]) ∧ St W0 w' K L := by
 obtain ⟨rb, hrb⟩ : ∃ b, w.heap.size = b := ⟨_, rfl⟩
 have g1 := h.allocRaw #[.int .i64 0, .int .i64 0, .bool false, .bool false, .bool false, .int .i64 0, .int .i64 0, .int .i64 0, .int .i64 0, .int .i64 0, .int .i64 0, .slice none 0 0, .int .i64 0, .int .i64 0] 56
 rw [hrb] at g1
 obtain ⟨z0, z1, z2, z3, z4, z5, z6, z7, z8, z9, z10, z11, z12, z13, zf0, zf1, zf2, zf3, zf4, zf5, zf6, zf7, zf8, zf9, zf10, zf11, zf12, zf13⟩ := raw14 (b := rb) (g1)
 have H := Lib.hid g1
 have HL := Lib.hid (show s.length ≤ 140737488355328 by omega)
 have HP := Lib.hid hp
 obtain ⟨r1, r2, r3, r4, r5, r6⟩ := pre_ranges hp
 have hln : x.len + 12 = (nn : Int) := by omega
 have hsl : (s.length : Int) ≤ 1000000 := by omega
 have HSD := Lib.hid hsd
 have HX := Lib.hid hX
 have HSL := Lib.hid (show sd.length ≤ 1000000 by rw [← hsd, List.length_take, List.length_drop]; omega)
 have hX4 : (X : Int) < 4294967296 := by rw [← hX]; have := (crcMore 0#32 sd).isLt; omega
 have hwX : IntKind.i64.wrap (X : Int) = (X : Int) := by rw [IntKind.wrap_i64]; omega
 clear hX4
 have hge : (nn : Int) ≤ (s.length : Int) := by omega
 have h21 : (21 : Int) ≤ (nn : Int) := by omega
 have h61 : (61 : Int) ≤ (nn : Int) := by omega
 have hg9 : ¬ (s.length : Int) < (nn : Int) := by omega
 have g5 : ((X : Int) == x.sum) = true := by rw [heq]; exact beq_self_eq_true _
 have g6 : ((X : Int) != x.sum) = false := by simp [bne, g5]
 obtain ⟨c0, c1, hb2, hc1⟩ := two_bytes x.attr
 have HB2 := Lib.hid hb2
 have HA := Lib.hid (show -9223372036854775808 ≤ x.attr ∧ x.attr < 9223372036854775808 from r3)
 have hc8 : ¬ (c1.toNat : Int) % 8 = 0 := by rw [hc1]; omega
 have e9 : (((([c0, c1] : List UInt8)[1]'(by simp)).toNat : Int) % 8 != 0) = true := by show ((c1.toNat : Int) % 8 != 0) = true; simp [bne, hc8]
 have e8 : (((([c0, c1] : List UInt8)[1]'(by simp)).toNat : Int) % 8 == 0) = false := by show ((c1.toNat : Int) % 8 == 0) = false; simp [hc8]
 clear hc8 hc1
 clear h8
 clear h g1 hp hs hnn r3 r4 r5 r6 hsd hX hge0 heq hb2
 go_enter Tryz.func18, Tryz.ntmps18
 go_upto_region 7 with (first
  | (go_at_call 17; clear z0 zf0 z1 zf1 z2 zf2 z3 zf3 z4 zf4 z5 zf5 z6 zf6 z7 zf7 z8 zf8 z9 zf9 z10 zf10 z11 zf11 z12 zf12 z13 zf13; (with_reducible refine (ref10_fields_ok s x HP.out HL.out H.out).mono ?_); rintro e_ wn ⟨bl, rfl, h⟩; have p0 := h.rawCell 0; have p1 := h.rawCell 1; have p2 := h.rawCell 2; have p3 := h.rawCell 3; have p4 := h.rawCell 4; have p5 := h.rawCell 5; have p6 := h.rawCell 6; have p7 := h.rawCell 7; have p8 := h.rawCell 8; have p9 := h.rawCell 9; have p10 := h.rawCell 10; have p11 := h.rawCell 11; simp at p0 p1 p2 p3 p4 p5 p6 p7 p8 p9 p10 p11; obtain ⟨z0, z1, z2, z3, z4, z5, z6, z7, z8, z9, z10, z11, z12, z13, zf0, zf1, zf2, zf3, zf4, zf5, zf6, zf7, zf8, zf9, zf10, zf11, zf12, zf13⟩ := raw14 (b := rb) (h.p1); replace H := Lib.hid h; clear h))
 clear z0 zf0 z1 zf1 z2 zf2 z3 zf3 z4 zf4 z5 zf5 z6 zf6 z7 zf7 z8 zf8 z9 zf9 z10 zf10 z11 zf11 z12 zf12 z13 zf13
 clear p0 p1 p2 p3 p4 p5 p6 p7 p8 p9 p10 p11
 go_cut [38] (fun s38 wx => s38 = .bool false ∧ St W0 wx K (.raw bl #[.int .i64 x.base, .int .i64 x.len, .int .i64 x.leader, .int .i64 x.sum, .int .i64 x.attr, .int .i64 x.last, .int .i64 x.first, .int .i64 x.maxt, .int .i64 x.prod, .int .i64 x.epoch, .int .i64 x.seq, .int .i64 x.count] 3 :: .raw rb #[.int .i64 0, .int .i64 0, .bool false, .bool false, .bool false, .int .i64 0, .int .i64 0, .int .i64 0, .int .i64 0, .int .i64 0, .int .i64 0, .slice none 0 0, .int .i64 0, .int .i64 0] 56 :: L))
 case first =>
  have hs := H.out.drew
  refine wp_region_held_drew (S := fun w' => w'.cell? ⟨bl, 0, none⟩ = some (.int .i64 x.base) ∧ w'.cell? ⟨bl, 1, none⟩ = some (.int .i64 x.len) ∧ w'.cell? ⟨bl, 2, none⟩ = some (.int .i64 x.leader) ∧ w'.cell? ⟨bl, 3, none⟩ = some (.int .i64 x.sum) ∧ w'.cell? ⟨bl, 4, none⟩ = some (.int .i64 x.attr) ∧ w'.cell? ⟨bl, 5, none⟩ = some (.int .i64 x.last) ∧ w'.cell? ⟨bl, 6, none⟩ = some (.int .i64 x.first) ∧ w'.cell? ⟨bl, 7, none⟩ = some (.int .i64 x.maxt) ∧ w'.cell? ⟨bl, 8, none⟩ = some (.int .i64 x.prod) ∧ w'.cell? ⟨bl, 9, none⟩ = some (.int .i64 x.epoch) ∧ w'.cell? ⟨bl, 10, none⟩ = some (.int .i64 x.seq) ∧ w'.cell? ⟨bl, 11, none⟩ = some (.int .i64 x.count)) (by kernel_rfl) (⟨hs.rawCell 0, hs.rawCell 1, hs.rawCell 2, hs.rawCell 3, hs.rawCell 4, hs.rawCell 5, hs.rawCell 6, hs.rawCell 7, hs.rawCell 8, hs.rawCell 9, hs.rawCell 10, hs.rawCell 11⟩) (fun hHeld => ?_)
  refine tQ 0 ⟨some 30, .move (.tmp 0), 9, "ref.go:141", #[], none⟩ ?_; simp only [Act.put, sA, sB, sC]
  refine tQ 1 ⟨some 31, .move (.tmp 5), 3, "ref.go:141", #[], none⟩ ?_; simp only [Act.put, sA, sB, sC]
  refine tQ 2 ⟨some 32, .slice 9 (.tmp 30) (some (.const (Value.int IntKind.i64 21))) (some (.tmp 31)) none, 9, "ref.go:141", #[.mk 0 .data, .mk 1 .data], none⟩ ?_; simp only [Act.put, sA, sB, sC]
  refine tQ 5 ⟨some 35, .move (.tmp 3), 40, "ref.go:141", #[], none⟩ ?_; simp only [Act.put, sA, sB, sC]
  refine tQ 6 ⟨some 36, .indexAddr 40 (.tmp 35) (.const (Value.int IntKind.i64 3)), 0, "ref.go:141", #[.mk 5 .data], none⟩ ?_; simp only [Act.put, sA, sB, sC]
  refine tQ 7 ⟨some 37, .load 3 (.tmp 36), 3, "ref.go:141", #[.mk 6 .data], none⟩ ?_; simp only [Act.put, sA, sB, sC]
  refine wpAnyH_ready (rs := [3]) (by kernel_rfl) (by simp) (AllReadyH.cons (o := ⟨some 33, .call { callee := .value (.func 29), args := #[.tmp 32], argTypes := #[9] }, 76, "ref.go:141", #[.mk 2 .data], none⟩) rfl (fun KK hK => ?_) AllReadyH.nil)
  · go_simp
    (try rw [HSD.out])
    go_at_call 29
    with_reducible refine (ref05_sumX sd HSL.out X HX.out hs).mono ?_
    rintro e wq ⟨rfl, hs⟩
    refine hK.out _ _ (⟨hs.rawCell 0, hs.rawCell 1, hs.rawCell 2, hs.rawCell 3, hs.rawCell 4, hs.rawCell 5, hs.rawCell 6, hs.rawCell 7, hs.rawCell 8, hs.rawCell 9, hs.rawCell 10, hs.rawCell 11⟩) (fun hHeld => ?_)
    clear hK KK
    try simp only [Act.put, sA, sB, sC]
    refine tQ 4 ⟨some 34, .convert 76 3 (.tmp 33), 3, "ref.go:141", #[.mk 3 .data], none⟩ ?_; simp only [Act.put, sA, sB, sC]
    refine tQ 8 ⟨some 38, .binOp .neq 3 (.tmp 34) (.tmp 37) 3, 4, "ref.go:141", #[.mk 4 .data, .mk 7 .data], none⟩ ?_; simp only [Act.put, sA, sB, sC]
    refine wpAnyH_done (by kernel_rfl) ?_ _
    clear hHeld
    go_wp2_with fail
    go_meet
    exact ⟨rfl, hs⟩
 obtain ⟨rfl, h⟩ := hcut
 clear H
 have p0 := h.rawCell 0; have p1 := h.rawCell 1; have p2 := h.rawCell 2; have p3 := h.rawCell 3; have p4 := h.rawCell 4; have p5 := h.rawCell 5; have p6 := h.rawCell 6; have p7 := h.rawCell 7; have p8 := h.rawCell 8; have p9 := h.rawCell 9; have p10 := h.rawCell 10; have p11 := h.rawCell 11; simp at p0 p1 p2 p3 p4 p5 p6 p7 p8 p9 p10 p11
 obtain ⟨z0, z1, z2, z3, z4, z5, z6, z7, z8, z9, z10, z11, z12, z13, zf0, zf1, zf2, zf3, zf4, zf5, zf6, zf7, zf8, zf9, zf10, zf11, zf12, zf13⟩ := raw14 (b := rb) (h.p1)
 have H := Lib.hid h
 clear h
 go_wp2_with (first
  | (go_at_call 37; clear z0 zf0 z1 zf1 z2 zf2 z3 zf3 z4 zf4 z5 zf5 z6 zf6 z7 zf7 z8 zf8 z9 zf9 z10 zf10 z11 zf11 z12 zf12 z13 zf13; clear p0 p1 p2 p3 p4 p5 p6 p7 p8 p9 p10 p11; (with_reducible refine (sr_bytes2T x.attr HA.out c0 c1 HB2.out H.out).mono ?_); rintro e_ wn ⟨rfl, h⟩; have p0 := h.rawCell 0; have p1 := h.rawCell 1; have p2 := h.rawCell 2; have p3 := h.rawCell 3; have p4 := h.rawCell 4; have p5 := h.rawCell 5; have p6 := h.rawCell 6; have p7 := h.rawCell 7; have p8 := h.rawCell 8; have p9 := h.rawCell 9; have p10 := h.rawCell 10; have p11 := h.rawCell 11; simp at p0 p1 p2 p3 p4 p5 p6 p7 p8 p9 p10 p11; obtain ⟨z0, z1, z2, z3, z4, z5, z6, z7, z8, z9, z10, z11, z12, z13, zf0, zf1, zf2, zf3, zf4, zf5, zf6, zf7, zf8, zf9, zf10, zf11, zf12, zf13⟩ := raw14 (b := rb) (h.p1); replace H := Lib.hid h; clear h)
  | (go_at_call 36; clear z0 zf0 z1 zf1 z2 zf2 z3 zf3 z4 zf4 z5 zf5 z6 zf6 z7 zf7 z8 zf8 z9 zf9 z10 zf10 z11 zf11 z12 zf12 z13 zf13; clear p0 p1 p2 p3 p4 p5 p6 p7 p8 p9 p10 p11; (with_reducible refine (ref11_fault 9 H.out).mono ?_); rintro e_ wn ⟨rfl, h⟩; obtain ⟨z0, z1, z2, z3, z4, z5, z6, z7, z8, z9, z10, z11, z12, z13, zf0, zf1, zf2, zf3, zf4, zf5, zf6, zf7, zf8, zf9, zf10, zf11, zf12, zf13⟩ := raw14 (b := rb) (h.p1); replace H := Lib.hid h; clear h))
 have hz : St W0 _ _ (.raw rb #[.int .i64 0, .int .i64 0, .bool false, .bool false, .bool false, .int .i64 0, .int .i64 0, .int .i64 0, .int .i64 0, .int .i64 0, .int .i64 0, .slice none 0 0, .int .i64 0, .int .i64 9] 56 :: _) := St.sets14 _ _ _ _ _ _ _ _ _ _ _ _ _ _ (H.out.p1)
 refine bodyPost_ret (rc_cell_only rfl _ _ rb [.int .i64 0, .int .i64 0, .bool false, .bool false, .bool false, .int .i64 0, .int .i64 0, .int .i64 0, .int .i64 0, .int .i64 0, .int .i64 0, .slice none 0 0, .int .i64 0, .int .i64 9] _ rfl (rc_range hz) Tryz.underlying56 rfl (by kernel_rfl)) rfl ?_
 exact ⟨rfl, hz.drop.drop⟩
set_option maxHeartbeats 4000000 in
set_option maxRecDepth 100000 in
theorem r11_hi0 (s : Bs) (hs : s.length ≤ 1000000) (x : PreS) (hp : rePre s = .ok x) (nn : Nat) (hnn : 61 + (x.len - 49).toNat = nn) (hge0 : nn ≤ s.length) (sd : Bs) (hsd : (s.drop 21).take (nn - 21) = sd) (X : Nat) (hX : (crcMore 0#32 sd).toNat = X) (heq : (X : Int) = x.sum) (h8 : x.attr % 8 = 0) (hn0 : x.attr < 0) {W0 w : World} {K : Know} {L : List Res} (h : St W0 w K L) :
  Calls Tryz.prog 18 #[.string (bb s)] w fun en w' => en = .returned (.agg #[.int .i64 0, .int .i64 0, .bool false, .bool false, .bool false, .int .i64 0, .int .i64 0, .int .i64 0, .int .i64 0, .int .i64 0, .int .i64 0, .slice none 0 0, .int .i64 0, .int .i64 8]) ∧ St W0 w' K L := by
 obtain ⟨rb, hrb⟩ : ∃ b, w.heap.size = b := ⟨_, rfl⟩
 have g1 := h.allocRaw #[.int .i64 0, .int .i64 0, .bool false, .bool false, .bool false, .int .i64 0, .int .i64 0, .int .i64 0, .int .i64 0, .int .i64 0, .int .i64 0, .slice none 0 0, .int .i64 0, .int .i64 0] 56
 rw [hrb] at g1
 obtain ⟨z0, z1, z2, z3, z4, z5, z6, z7, z8, z9, z10, z11, z12, z13, zf0, zf1, zf2, zf3, zf4, zf5, zf6, zf7, zf8, zf9, zf10, zf11, zf12, zf13⟩ := raw14 (b := rb) (g1)
 have H := Lib.hid g1
 have HL := Lib.hid (show s.length ≤ 140737488355328 by omega)
 have HP := Lib.hid hp
 obtain ⟨r1, r2, r3, r4, r5, r6⟩ := pre_ranges hp
 have hln : x.len + 12 = (nn : Int) := by omega
 have hsl : (s.length : Int) ≤ 1000000 := by omega
 have HSD := Lib.hid hsd
 have HX := Lib.hid hX
 have HSL := Lib.hid (show sd.length ≤ 1000000 by rw [← hsd, List.length_take, List.length_drop]; omega)
 have hX4 : (X : Int) < 4294967296 := by rw [← hX]; have := (crcMore 0#32 sd).isLt; omega
 have hwX : IntKind.i64.wrap (X : Int) = (X : Int) := by rw [IntKind.wrap_i64]; omega
 clear hX4
 have hge : (nn : Int) ≤ (s.length : Int) := by omega
 have h21 : (21 : Int) ≤ (nn : Int) := by omega
 have h61 : (61 : Int) ≤ (nn : Int) := by omega
 have hg9 : ¬ (s.length : Int) < (nn : Int) := by omega
 have g5 : ((X : Int) == x.sum) = true := by rw [heq]; exact beq_self_eq_true _
 have g6 : ((X : Int) != x.sum) = false := by simp [bne, g5]
 obtain ⟨c0, c1, hb2, hc1⟩ := two_bytes x.attr
 have HB2 := Lib.hid hb2
 have HA := Lib.hid (show -9223372036854775808 ≤ x.attr ∧ x.attr < 9223372036854775808 from r3)
 have hc8 : (c1.toNat : Int) % 8 = 0 := by rw [hc1]; omega
 have e9 : (((([c0, c1] : List UInt8)[1]'(by simp)).toNat : Int) % 8 != 0) = false := by show ((c1.toNat : Int) % 8 != 0) = false; simp [bne, hc8]
 have e8 : (((([c0, c1] : List UInt8)[1]'(by simp)).toNat : Int) % 8 == 0) = true := by show ((c1.toNat : Int) % 8 == 0) = true; simp [hc8]
 clear hc8 hc1
 have d0 : decide (x.attr < 0) = true := decide_eq_true hn0
 clear h8 hn0
 clear h g1 hp hs hnn r3 r4 r5 r6 hsd hX hge0 heq hb2
 go_enter Tryz.func18, Tryz.ntmps18
 go_upto_region 7 with (first
  | (go_at_call 17; clear z0 zf0 z1 zf1 z2 zf2 z3 zf3 z4 zf4 z5 zf5 z6 zf6 z7 zf7 z8 zf8 z9 zf9 z10 zf10 z11 zf11 z12 zf12 z13 zf13; (with_reducible refine (ref10_fields_ok s x HP.out HL.out H.out).mono ?_); rintro e_ wn ⟨bl, rfl, h⟩; have p0 := h.rawCell 0; have p1 := h.rawCell 1; have p2 := h.rawCell 2; have p3 := h.rawCell 3; have p4 := h.rawCell 4; have p5 := h.rawCell 5; have p6 := h.rawCell 6; have p7 := h.rawCell 7; have p8 := h.rawCell 8; have p9 := h.rawCell 9; have p10 := h.rawCell 10; have p11 := h.rawCell 11; simp at p0 p1 p2 p3 p4 p5 p6 p7 p8 p9 p10 p11; obtain ⟨z0, z1, z2, z3, z4, z5, z6, z7, z8, z9, z10, z11, z12, z13, zf0, zf1, zf2, zf3, zf4, zf5, zf6, zf7, zf8, zf9, zf10, zf11, zf12, zf13⟩ := raw14 (b := rb) (h.p1); replace H := Lib.hid h; clear h))
 clear z0 zf0 z1 zf1 z2 zf2 z3 zf3 z4 zf4 z5 zf5 z6 zf6 z7 zf7 z8 zf8 z9 zf9 z10 zf10 z11 zf11 z12 zf12 z13 zf13
 clear p0 p1 p2 p3 p4 p5 p6 p7 p8 p9 p10 p11
 go_cut [38] (fun s38 wx => s38 = .bool false ∧ St W0 wx K (.raw bl #[.int .i64 x.base, .int .i64 x.len, .int .i64 x.leader, .int .i64 x.sum, .int .i64 x.attr, .int .i64 x.last, .int .i64 x.first, .int .i64 x.maxt, .int .i64 x.prod, .int .i64 x.epoch, .int .i64 x.seq, .int .i64 x.count] 3 :: .raw rb #[.int .i64 0, .int .i64 0, .bool false, .bool false, .bool false, .int .i64 0, .int .i64 0, .int .i64 0, .int .i64 0, .int .i64 0, .int .i64 0, .slice none 0 0, .int .i64 0, .int .i64 0] 56 :: L))
 case first =>
  have hs := H.out.drew
  refine wp_region_held_drew (S := fun w' => w'.cell? ⟨bl, 0, none⟩ = some (.int .i64 x.base) ∧ w'.cell? ⟨bl, 1, none⟩ = some (.int .i64 x.len) ∧ w'.cell? ⟨bl, 2, none⟩ = some (.int .i64 x.leader) ∧ w'.cell? ⟨bl, 3, none⟩ = some (.int .i64 x.sum) ∧ w'.cell? ⟨bl, 4, none⟩ = some (.int .i64 x.attr) ∧ w'.cell? ⟨bl, 5, none⟩ = some (.int .i64 x.last) ∧ w'.cell? ⟨bl, 6, none⟩ = some (.int .i64 x.first) ∧ w'.cell? ⟨bl, 7, none⟩ = some (.int .i64 x.maxt) ∧ w'.cell? ⟨bl, 8, none⟩ = some (.int .i64 x.prod) ∧ w'.cell? ⟨bl, 9, none⟩ = some (.int .i64 x.epoch) ∧ w'.cell? ⟨bl, 10, none⟩ = some (.int .i64 x.seq) ∧ w'.cell? ⟨bl, 11, none⟩ = some (.int .i64 x.count)) (by kernel_rfl) (⟨hs.rawCell 0, hs.rawCell 1, hs.rawCell 2, hs.rawCell 3, hs.rawCell 4, hs.rawCell 5, hs.rawCell 6, hs.rawCell 7, hs.rawCell 8, hs.rawCell 9, hs.rawCell 10, hs.rawCell 11⟩) (fun hHeld => ?_)
  refine tQ 0 ⟨some 30, .move (.tmp 0), 9, "ref.go:141", #[], none⟩ ?_; simp only [Act.put, sA, sB, sC]
  refine tQ 1 ⟨some 31, .move (.tmp 5), 3, "ref.go:141", #[], none⟩ ?_; simp only [Act.put, sA, sB, sC]
  refine tQ 2 ⟨some 32, .slice 9 (.tmp 30) (some (.const (Value.int IntKind.i64 21))) (some (.tmp 31)) none, 9, "ref.go:141", #[.mk 0 .data, .mk 1 .data], none⟩ ?_; simp only [Act.put, sA, sB, sC]
  refine tQ 5 ⟨some 35, .move (.tmp 3), 40, "ref.go:141", #[], none⟩ ?_; simp only [Act.put, sA, sB, sC]
  refine tQ 6 ⟨some 36, .indexAddr 40 (.tmp 35) (.const (Value.int IntKind.i64 3)), 0, "ref.go:141", #[.mk 5 .data], none⟩ ?_; simp only [Act.put, sA, sB, sC]
  refine tQ 7 ⟨some 37, .load 3 (.tmp 36), 3, "ref.go:141", #[.mk 6 .data], none⟩ ?_; simp only [Act.put, sA, sB, sC]
  refine wpAnyH_ready (rs := [3]) (by kernel_rfl) (by simp) (AllReadyH.cons (o := ⟨some 33, .call { callee := .value (.func 29), args := #[.tmp 32], argTypes := #[9] }, 76, "ref.go:141", #[.mk 2 .data], none⟩) rfl (fun KK hK => ?_) AllReadyH.nil)
  · go_simp
    (try rw [HSD.out])
    go_at_call 29
    with_reducible refine (ref05_sumX sd HSL.out X HX.out hs).mono ?_
    rintro e wq ⟨rfl, hs⟩
    refine hK.out _ _ (⟨hs.rawCell 0, hs.rawCell 1, hs.rawCell 2, hs.rawCell 3, hs.rawCell 4, hs.rawCell 5, hs.rawCell 6, hs.rawCell 7, hs.rawCell 8, hs.rawCell 9, hs.rawCell 10, hs.rawCell 11⟩) (fun hHeld => ?_)
    clear hK KK
    try simp only [Act.put, sA, sB, sC]
    refine tQ 4 ⟨some 34, .convert 76 3 (.tmp 33), 3, "ref.go:141", #[.mk 3 .data], none⟩ ?_; simp only [Act.put, sA, sB, sC]
    refine tQ 8 ⟨some 38, .binOp .neq 3 (.tmp 34) (.tmp 37) 3, 4, "ref.go:141", #[.mk 4 .data, .mk 7 .data], none⟩ ?_; simp only [Act.put, sA, sB, sC]
    refine wpAnyH_done (by kernel_rfl) ?_ _
    clear hHeld
    go_wp2_with fail
    go_meet
    exact ⟨rfl, hs⟩
 obtain ⟨rfl, h⟩ := hcut
 clear H
 have p0 := h.rawCell 0; have p1 := h.rawCell 1; have p2 := h.rawCell 2; have p3 := h.rawCell 3; have p4 := h.rawCell 4; have p5 := h.rawCell 5; have p6 := h.rawCell 6; have p7 := h.rawCell 7; have p8 := h.rawCell 8; have p9 := h.rawCell 9; have p10 := h.rawCell 10; have p11 := h.rawCell 11; simp at p0 p1 p2 p3 p4 p5 p6 p7 p8 p9 p10 p11
 obtain ⟨z0, z1, z2, z3, z4, z5, z6, z7, z8, z9, z10, z11, z12, z13, zf0, zf1, zf2, zf3, zf4, zf5, zf6, zf7, zf8, zf9, zf10, zf11, zf12, zf13⟩ := raw14 (b := rb) (h.p1)
 have H := Lib.hid h
 clear h
 go_wp2_with (first
  | (go_at_call 37; clear z0 zf0 z1 zf1 z2 zf2 z3 zf3 z4 zf4 z5 zf5 z6 zf6 z7 zf7 z8 zf8 z9 zf9 z10 zf10 z11 zf11 z12 zf12 z13 zf13; clear p0 p1 p2 p3 p4 p5 p6 p7 p8 p9 p10 p11; (with_reducible refine (sr_bytes2T x.attr HA.out c0 c1 HB2.out H.out).mono ?_); rintro e_ wn ⟨rfl, h⟩; have p0 := h.rawCell 0; have p1 := h.rawCell 1; have p2 := h.rawCell 2; have p3 := h.rawCell 3; have p4 := h.rawCell 4; have p5 := h.rawCell 5; have p6 := h.rawCell 6; have p7 := h.rawCell 7; have p8 := h.rawCell 8; have p9 := h.rawCell 9; have p10 := h.rawCell 10; have p11 := h.rawCell 11; simp at p0 p1 p2 p3 p4 p5 p6 p7 p8 p9 p10 p11; obtain ⟨z0, z1, z2, z3, z4, z5, z6, z7, z8, z9, z10, z11, z12, z13, zf0, zf1, zf2, zf3, zf4, zf5, zf6, zf7, zf8, zf9, zf10, zf11, zf12, zf13⟩ := raw14 (b := rb) (h.p1); replace H := Lib.hid h; clear h)
  | (go_at_call 36; clear z0 zf0 z1 zf1 z2 zf2 z3 zf3 z4 zf4 z5 zf5 z6 zf6 z7 zf7 z8 zf8 z9 zf9 z10 zf10 z11 zf11 z12 zf12 z13 zf13; clear p0 p1 p2 p3 p4 p5 p6 p7 p8 p9 p10 p11; (with_reducible refine (ref11_fault 8 H.out).mono ?_); rintro e_ wn ⟨rfl, h⟩; obtain ⟨z0, z1, z2, z3, z4, z5, z6, z7, z8, z9, z10, z11, z12, z13, zf0, zf1, zf2, zf3, zf4, zf5, zf6, zf7, zf8, zf9, zf10, zf11, zf12, zf13⟩ := raw14 (b := rb) (h.p1); replace H := Lib.hid h; clear h))
 have hz : St W0 _ _ (.raw rb #[.int .i64 0, .int .i64 0, .bool false, .bool false, .bool false, .int .i64 0, .int .i64 0, .int .i64 0, .int .i64 0, .int .i64 0, .int .i64 0, .slice none 0 0, .int .i64 0, .int .i64 8] 56 :: _) := St.sets14 _ _ _ _ _ _ _ _ _ _ _ _ _ _ (H.out.p1)
 refine bodyPost_ret (rc_cell_only rfl _ _ rb [.int .i64 0, .int .i64 0, .bool false, .bool false, .bool false, .int .i64 0, .int .i64 0, .int .i64 0, .int .i64 0, .int .i64 0, .int .i64 0, .slice none 0 0, .int .i64 0, .int .i64 8] _ rfl (rc_range hz) Tryz.underlying56 rfl (by kernel_rfl)) rfl ?_
 exact ⟨rfl, hz.drop.drop⟩

set_option maxHeartbeats 4000000 in
set_option maxRecDepth 100000 in
theorem r11_hi1 (s : Bs) (hs : s.length ≤ 1000000) (x : PreS) (hp : rePre s = .ok x) (nn : Nat) (hnn : 61 + (x.len - 49).toNat = nn) (hge0 : nn ≤ s.length) (sd : Bs) (hsd : (s.drop 21).take (nn - 21) = sd) (X : Nat) (hX : (crcMore 0#32 sd).toNat = X) (heq : (X : Int) = x.sum) (h8 : x.attr % 8 = 0) (hn0 : ¬ x.attr < 0) (hn1 : 63 < x.attr) {W0 w : World} {K : Know} {L : List Res} (h : St W0 w K L) :
  Calls Tryz.prog 18 #[.string (bb s)] w fun en w' => en = .returned (.agg #[.int .i64 0, .int .i64 0, .bool false, .bool false, .bool false, .int .i64 0, .int .i64 0, .int .i64 0, .int .i64 0, .int .i64 0, .int .i64 0, .slice none 0 0, .int .i64 0, .int .i64 8]) ∧ St W0 w' K L := by
 obtain ⟨rb, hrb⟩ : ∃ b, w.heap.size = b := ⟨_, rfl⟩
 have g1 := h.allocRaw #[.int .i64 0, .int .i64 0, .bool false, .bool false, .bool false, .int .i64 0, .int .i64 0, .int .i64 0, .int .i64 0, .int .i64 0, .int .i64 0, .slice none 0 0, .int .i64 0, .int .i64 0] 56
 rw [hrb] at g1
 obtain ⟨z0, z1, z2, z3, z4, z5, z6, z7, z8, z9, z10, z11, z12, z13, zf0, zf1, zf2, zf3, zf4, zf5, zf6, zf7, zf8, zf9, zf10, zf11, zf12, zf13⟩ := raw14 (b := rb) (g1)
 have H := Lib.hid g1
 have HL := Lib.hid (show s.length ≤ 140737488355328 by omega)
 have HP := Lib.hid hp
 obtain ⟨r1, r2, r3, r4, r5, r6⟩ := pre_ranges hp
 have hln : x.len + 12 = (nn : Int) := by omega
 have hsl : (s.length : Int) ≤ 1000000 := by omega
 have HSD := Lib.hid hsd
 have HX := Lib.hid hX
 have HSL := Lib.hid (show sd.length ≤ 1000000 by rw [← hsd, List.length_take, List.length_drop]; omega)
 have hX4 : (X : Int) < 4294967296 := by rw [← hX]; have := (crcMore 0#32 sd).isLt; omega
 have hwX : IntKind.i64.wrap (X : Int) = (X : Int) := by rw [IntKind.wrap_i64]; omega
 clear hX4
 have hge : (nn : Int) ≤ (s.length : Int) := by omega
 have h21 : (21 : Int) ≤ (nn : Int) := by omega
 have h61 : (61 : Int) ≤ (nn : Int) := by omega
 have hg9 : ¬ (s.length : Int) < (nn : Int) := by omega
 have g5 : ((X : Int) == x.sum) = true := by rw [heq]; exact beq_self_eq_true _
 have g6 : ((X : Int) != x.sum) = false := by simp [bne, g5]
 obtain ⟨c0, c1, hb2, hc1⟩ := two_bytes x.attr
 have HB2 := Lib.hid hb2
 have HA := Lib.hid (show -9223372036854775808 ≤ x.attr ∧ x.attr < 9223372036854775808 from r3)
 have hc8 : (c1.toNat : Int) % 8 = 0 := by rw [hc1]; omega
 have e9 : (((([c0, c1] : List UInt8)[1]'(by simp)).toNat : Int) % 8 != 0) = false := by show ((c1.toNat : Int) % 8 != 0) = false; simp [bne, hc8]
 have e8 : (((([c0, c1] : List UInt8)[1]'(by simp)).toNat : Int) % 8 == 0) = true := by show ((c1.toNat : Int) % 8 == 0) = true; simp [hc8]
 clear hc8 hc1
 have d0 : decide (x.attr < 0) = false := decide_eq_false hn0
 have d1 : decide (63 < x.attr) = true := decide_eq_true hn1
 clear h8 hn0 hn1
 clear h g1 hp hs hnn r3 r4 r5 r6 hsd hX hge0 heq hb2
 go_enter Tryz.func18, Tryz.ntmps18
 go_upto_region 7 with (first
  | (go_at_call 17; clear z0 zf0 z1 zf1 z2 zf2 z3 zf3 z4 zf4 z5 zf5 z6 zf6 z7 zf7 z8 zf8 z9 zf9 z10 zf10 z11 zf11 z12 zf12 z13 zf13; (with_reducible refine (ref10_fields_ok s x HP.out HL.out H.out).mono ?_); rintro e_ wn ⟨bl, rfl, h⟩; have p0 := h.rawCell 0; have p1 := h.rawCell 1; have p2 := h.rawCell 2; have p3 := h.rawCell 3; have p4 := h.rawCell 4; have p5 := h.rawCell 5; have p6 := h.rawCell 6; have p7 := h.rawCell 7; have p8 := h.rawCell 8; have p9 := h.rawCell 9; have p10 := h.rawCell 10; have p11 := h.rawCell 11; simp at p0 p1 p2 p3 p4 p5 p6 p7 p8 p9 p10 p11; obtain ⟨z0, z1, z2, z3, z4, z5, z6, z7, z8, z9, z10, z11, z12, z13, zf0, zf1, zf2, zf3, zf4, zf5, zf6, zf7, zf8, zf9, zf10, zf11, zf12, zf13⟩ := raw14 (b := rb) (h.p1); replace H := Lib.hid h; clear h))
 clear z0 zf0 z1 zf1 z2 zf2 z3 zf3 z4 zf4 z5 zf5 z6 zf6 z7 zf7 z8 zf8 z9 zf9 z10 zf10 z11 zf11 z12 zf12 z13 zf13
 clear p0 p1 p2 p3 p4 p5 p6 p7 p8 p9 p10 p11
 go_cut [38] (fun s38 wx => s38 = .bool false ∧ St W0 wx K (.raw bl #[.int .i64 x.base, .int .i64 x.len, .int .i64 x.leader, .int .i64 x.sum, .int .i64 x.attr, .int .i64 x.last, .int .i64 x.first, .int .i64 x.maxt, .int .i64 x.prod, .int .i64 x.epoch, .int .i64 x.seq, .int .i64 x.count] 3 :: .raw rb #[.int .i64 0, .int .i64 0, .bool false, .bool false, .bool false, .int .i64 0, .int .i64 0, .int .i64 0, .int .i64 0, .int .i64 0, .int .i64 0, .slice none 0 0, .int .i64 0, .int .i64 0] 56 :: L))
 case first =>
  have hs := H.out.drew
  refine wp_region_held_drew (S := fun w' => w'.cell? ⟨bl, 0, none⟩ = some (.int .i64 x.base) ∧ w'.cell? ⟨bl, 1, none⟩ = some (.int .i64 x.len) ∧ w'.cell? ⟨bl, 2, none⟩ = some (.int .i64 x.leader) ∧ w'.cell? ⟨bl, 3, none⟩ = some (.int .i64 x.sum) ∧ w'.cell? ⟨bl, 4, none⟩ = some (.int .i64 x.attr) ∧ w'.cell? ⟨bl, 5, none⟩ = some (.int .i64 x.last) ∧ w'.cell? ⟨bl, 6, none⟩ = some (.int .i64 x.first) ∧ w'.cell? ⟨bl, 7, none⟩ = some (.int .i64 x.maxt) ∧ w'.cell? ⟨bl, 8, none⟩ = some (.int .i64 x.prod) ∧ w'.cell? ⟨bl, 9, none⟩ = some (.int .i64 x.epoch) ∧ w'.cell? ⟨bl, 10, none⟩ = some (.int .i64 x.seq) ∧ w'.cell? ⟨bl, 11, none⟩ = some (.int .i64 x.count)) (by kernel_rfl) (⟨hs.rawCell 0, hs.rawCell 1, hs.rawCell 2, hs.rawCell 3, hs.rawCell 4, hs.rawCell 5, hs.rawCell 6, hs.rawCell 7, hs.rawCell 8, hs.rawCell 9, hs.rawCell 10, hs.rawCell 11⟩) (fun hHeld => ?_)
  refine tQ 0 ⟨some 30, .move (.tmp 0), 9, "ref.go:141", #[], none⟩ ?_; simp only [Act.put, sA, sB, sC]
  refine tQ 1 ⟨some 31, .move (.tmp 5), 3, "ref.go:141", #[], none⟩ ?_; simp only [Act.put, sA, sB, sC]
  refine tQ 2 ⟨some 32, .slice 9 (.tmp 30) (some (.const (Value.int IntKind.i64 21))) (some (.tmp 31)) none, 9, "ref.go:141", #[.mk 0 .data, .mk 1 .data], none⟩ ?_; simp only [Act.put, sA, sB, sC]
  refine tQ 5 ⟨some 35, .move (.tmp 3), 40, "ref.go:141", #[], none⟩ ?_; simp only [Act.put, sA, sB, sC]
  refine tQ 6 ⟨some 36, .indexAddr 40 (.tmp 35) (.const (Value.int IntKind.i64 3)), 0, "ref.go:141", #[.mk 5 .data], none⟩ ?_; simp only [Act.put, sA, sB, sC]
  refine tQ 7 ⟨some 37, .load 3 (.tmp 36), 3, "ref.go:141", #[.mk 6 .data], none⟩ ?_; simp only [Act.put, sA, sB, sC]
  refine wpAnyH_ready (rs := [3]) (by kernel_rfl) (by simp) (AllReadyH.cons (o := ⟨some 33, .call { callee := .value (.func 29), args := #[.tmp 32], argTypes := #[9] }, 76, "ref.go:141", #[.mk 2 .data], none⟩) rfl (fun KK hK => ?_) AllReadyH.nil)
  · go_simp
    (try rw [HSD.out])
    go_at_call 29
    with_reducible refine (ref05_sumX sd HSL.out X HX.out hs).mono ?_
    rintro e wq ⟨rfl, hs⟩
    refine hK.out _ _ (⟨hs.rawCell 0, hs.rawCell 1, hs.rawCell 2, hs.rawCell 3, hs.rawCell 4, hs.rawCell 5, hs.rawCell 6, hs.rawCell 7, hs.rawCell 8, hs.rawCell 9, hs.rawCell 10, hs.rawCell 11⟩) (fun hHeld => ?_)
    clear hK KK
    try simp only [Act.put, sA, sB, sC]
    refine tQ 4 ⟨some 34, .convert 76 3 (.tmp 33), 3, "ref.go:141", #[.mk 3 .data], none⟩ ?_; simp only [Act.put, sA, sB, sC]
    refine tQ 8 ⟨some 38, .binOp .neq 3 (.tmp 34) (.tmp 37) 3, 4, "ref.go:141", #[.mk 4 .data, .mk 7 .data], none⟩ ?_; simp only [Act.put, sA, sB, sC]
    refine wpAnyH_done (by kernel_rfl) ?_ _
    clear hHeld
    go_wp2_with fail
    go_meet
    exact ⟨rfl, hs⟩
 obtain ⟨rfl, h⟩ := hcut
 clear H
 have p0 := h.rawCell 0; have p1 := h.rawCell 1; have p2 := h.rawCell 2; have p3 := h.rawCell 3; have p4 := h.rawCell 4; have p5 := h.rawCell 5; have p6 := h.rawCell 6; have p7 := h.rawCell 7; have p8 := h.rawCell 8; have p9 := h.rawCell 9; have p10 := h.rawCell 10; have p11 := h.rawCell 11; simp at p0 p1 p2 p3 p4 p5 p6 p7 p8 p9 p10 p11
 obtain ⟨z0, z1, z2, z3, z4, z5, z6, z7, z8, z9, z10, z11, z12, z13, zf0, zf1, zf2, zf3, zf4, zf5, zf6, zf7, zf8, zf9, zf10, zf11, zf12, zf13⟩ := raw14 (b := rb) (h.p1)
 have H := Lib.hid h
 clear h
 go_wp2_with (first
  | (go_at_call 37; clear z0 zf0 z1 zf1 z2 zf2 z3 zf3 z4 zf4 z5 zf5 z6 zf6 z7 zf7 z8 zf8 z9 zf9 z10 zf10 z11 zf11 z12 zf12 z13 zf13; clear p0 p1 p2 p3 p4 p5 p6 p7 p8 p9 p10 p11; (with_reducible refine (sr_bytes2T x.attr HA.out c0 c1 HB2.out H.out).mono ?_); rintro e_ wn ⟨rfl, h⟩; have p0 := h.rawCell 0; have p1 := h.rawCell 1; have p2 := h.rawCell 2; have p3 := h.rawCell 3; have p4 := h.rawCell 4; have p5 := h.rawCell 5; have p6 := h.rawCell 6; have p7 := h.rawCell 7; have p8 := h.rawCell 8; have p9 := h.rawCell 9; have p10 := h.rawCell 10; have p11 := h.rawCell 11; simp at p0 p1 p2 p3 p4 p5 p6 p7 p8 p9 p10 p11; obtain ⟨z0, z1, z2, z3, z4, z5, z6, z7, z8, z9, z10, z11, z12, z13, zf0, zf1, zf2, zf3, zf4, zf5, zf6, zf7, zf8, zf9, zf10, zf11, zf12, zf13⟩ := raw14 (b := rb) (h.p1); replace H := Lib.hid h; clear h)
  | (go_at_call 36; clear z0 zf0 z1 zf1 z2 zf2 z3 zf3 z4 zf4 z5 zf5 z6 zf6 z7 zf7 z8 zf8 z9 zf9 z10 zf10 z11 zf11 z12 zf12 z13 zf13; clear p0 p1 p2 p3 p4 p5 p6 p7 p8 p9 p10 p11; (with_reducible refine (ref11_fault 8 H.out).mono ?_); rintro e_ wn ⟨rfl, h⟩; obtain ⟨z0, z1, z2, z3, z4, z5, z6, z7, z8, z9, z10, z11, z12, z13, zf0, zf1, zf2, zf3, zf4, zf5, zf6, zf7, zf8, zf9, zf10, zf11, zf12, zf13⟩ := raw14 (b := rb) (h.p1); replace H := Lib.hid h; clear h))
 have hz : St W0 _ _ (.raw rb #[.int .i64 0, .int .i64 0, .bool false, .bool false, .bool false, .int .i64 0, .int .i64 0, .int .i64 0, .int .i64 0, .int .i64 0, .int .i64 0, .slice none 0 0, .int .i64 0, .int .i64 8] 56 :: _) := St.sets14 _ _ _ _ _ _ _ _ _ _ _ _ _ _ (H.out.p1)
 refine bodyPost_ret (rc_cell_only rfl _ _ rb [.int .i64 0, .int .i64 0, .bool false, .bool false, .bool false, .int .i64 0, .int .i64 0, .int .i64 0, .int .i64 0, .int .i64 0, .int .i64 0, .slice none 0 0, .int .i64 0, .int .i64 8] _ rfl (rc_range hz) Tryz.underlying56 rfl (by kernel_rfl)) rfl ?_
 exact ⟨rfl, hz.drop.drop⟩

set_option maxHeartbeats 4000000 in
set_option maxRecDepth 100000 in
theorem r11_hi2 (s : Bs) (hs : s.length ≤ 1000000) (x : PreS) (hp : rePre s = .ok x) (nn : Nat) (hnn : 61 + (x.len - 49).toNat = nn) (hge0 : nn ≤ s.length) (sd : Bs) (hsd : (s.drop 21).take (nn - 21) = sd) (X : Nat) (hX : (crcMore 0#32 sd).toNat = X) (heq : (X : Int) = x.sum) (h8 : x.attr % 8 = 0) (hn0 : ¬ x.attr < 0) (hn1 : ¬ 63 < x.attr) (hn2 : 32 ≤ x.attr) (hn3 : x.attr % 32 < 16) {W0 w : World} {K : Know} {L : List Res} (h : St W0 w K L) :
  Calls Tryz.prog 18 #[.string (bb s)] w fun en w' => en = .returned (.agg #[.int .i64 0, .int .i64 0, .bool false, .bool false, .bool false, .int .i64 0, .int .i64 0, .int .i64 0, .int .i64 0, .int .i64 0, .int .i64 0, .slice none 0 0, .int .i64 0, .int .i64 8]) ∧ St W0 w' K L := by
 obtain ⟨rb, hrb⟩ : ∃ b, w.heap.size = b := ⟨_, rfl⟩
 have g1 := h.allocRaw #[.int .i64 0, .int .i64 0, .bool false, .bool false, .bool false, .int .i64 0, .int .i64 0, .int .i64 0, .int .i64 0, .int .i64 0, .int .i64 0, .slice none 0 0, .int .i64 0, .int .i64 0] 56
 rw [hrb] at g1
 obtain ⟨z0, z1, z2, z3, z4, z5, z6, z7, z8, z9, z10, z11, z12, z13, zf0, zf1, zf2, zf3, zf4, zf5, zf6, zf7, zf8, zf9, zf10, zf11, zf12, zf13⟩ := raw14 (b := rb) (g1)
 have H := Lib.hid g1
 have HL := Lib.hid (show s.length ≤ 140737488355328 by omega)
 have HP := Lib.hid hp
 obtain ⟨r1, r2, r3, r4, r5, r6⟩ := pre_ranges hp
 have hln : x.len + 12 = (nn : Int) := by omega
 have hsl : (s.length : Int) ≤ 1000000 := by omega
 have HSD := Lib.hid hsd
 have HX := Lib.hid hX
 have HSL := Lib.hid (show sd.length ≤ 1000000 by rw [← hsd, List.length_take, List.length_drop]; omega)
 have hX4 : (X : Int) < 4294967296 := by rw [← hX]; have := (crcMore 0#32 sd).isLt; omega
 have hwX : IntKind.i64.wrap (X : Int) = (X : Int) := by rw [IntKind.wrap_i64]; omega
 clear hX4
 have hge : (nn : Int) ≤ (s.length : Int) := by omega
 have h21 : (21 : Int) ≤ (nn : Int) := by omega
 have h61 : (61 : Int) ≤ (nn : Int) := by omega
 have hg9 : ¬ (s.length : Int) < (nn : Int) := by omega
 have g5 : ((X : Int) == x.sum) = true := by rw [heq]; exact beq_self_eq_true _
 have g6 : ((X : Int) != x.sum) = false := by simp [bne, g5]
 obtain ⟨c0, c1, hb2, hc1⟩ := two_bytes x.attr
 have HB2 := Lib.hid hb2
 have HA := Lib.hid (show -9223372036854775808 ≤ x.attr ∧ x.attr < 9223372036854775808 from r3)
 have hc8 : (c1.toNat : Int) % 8 = 0 := by rw [hc1]; omega
 have e9 : (((([c0, c1] : List UInt8)[1]'(by simp)).toNat : Int) % 8 != 0) = false := by show ((c1.toNat : Int) % 8 != 0) = false; simp [bne, hc8]
 have e8 : (((([c0, c1] : List UInt8)[1]'(by simp)).toNat : Int) % 8 == 0) = true := by show ((c1.toNat : Int) % 8 == 0) = true; simp [hc8]
 clear hc8 hc1
 have d0 : decide (x.attr < 0) = false := decide_eq_false hn0
 have d1 : decide (63 < x.attr) = false := decide_eq_false hn1
 have d2 : decide (32 ≤ x.attr) = true := decide_eq_true hn2
 have d3 : decide (x.attr % 32 < 16) = true := decide_eq_true hn3
 have ha0 : 0 ≤ x.attr := by omega
 have d4 : decide (x.attr.tmod 32 < 16) = true := decide_eq_true (by rw [Int.tmod_eq_emod_of_nonneg ha0]; exact hn3)
 clear h8 hn0 hn1 hn2 hn3
 clear h g1 hp hs hnn r3 r4 r5 r6 hsd hX hge0 heq hb2
 go_enter Tryz.func18, Tryz.ntmps18
 go_upto_region 7 with (first
  | (go_at_call 17; clear z0 zf0 z1 zf1 z2 zf2 z3 zf3 z4 zf4 z5 zf5 z6 zf6 z7 zf7 z8 zf8 z9 zf9 z10 zf10 z11 zf11 z12 zf12 z13 zf13; (with_reducible refine (ref10_fields_ok s x HP.out HL.out H.out).mono ?_); rintro e_ wn ⟨bl, rfl, h⟩; have p0 := h.rawCell 0; have p1 := h.rawCell 1; have p2 := h.rawCell 2; have p3 := h.rawCell 3; have p4 := h.rawCell 4; have p5 := h.rawCell 5; have p6 := h.rawCell 6; have p7 := h.rawCell 7; have p8 := h.rawCell 8; have p9 := h.rawCell 9; have p10 := h.rawCell 10; have p11 := h.rawCell 11; simp at p0 p1 p2 p3 p4 p5 p6 p7 p8 p9 p10 p11; obtain ⟨z0, z1, z2, z3, z4, z5, z6, z7, z8, z9, z10, z11, z12, z13, zf0, zf1, zf2, zf3, zf4, zf5, zf6, zf7, zf8, zf9, zf10, zf11, zf12, zf13⟩ := raw14 (b := rb) (h.p1); replace H := Lib.hid h; clear h))
 clear z0 zf0 z1 zf1 z2 zf2 z3 zf3 z4 zf4 z5 zf5 z6 zf6 z7 zf7 z8 zf8 z9 zf9 z10 zf10 z11 zf11 z12 zf12 z13 zf13
 clear p0 p1 p2 p3 p4 p5 p6 p7 p8 p9 p10 p11
 go_cut [38] (fun s38 wx => s38 = .bool false ∧ St W0 wx K (.raw bl #[.int .i64 x.base, .int .i64 x.len, .int .i64 x.leader, .int .i64 x.sum, .int .i64 x.attr, .int .i64 x.last, .int .i64 x.first, .int .i64 x.maxt, .int .i64 x.prod, .int .i64 x.epoch, .int .i64 x.seq, .int .i64 x.count] 3 :: .raw rb #[.int .i64 0, .int .i64 0, .bool false, .bool false, .bool false, .int .i64 0, .int .i64 0, .int .i64 0, .int .i64 0, .int .i64 0, .int .i64 0, .slice none 0 0, .int .i64 0, .int .i64 0] 56 :: L))
 case first =>
  have hs := H.out.drew
  refine wp_region_held_drew (S := fun w' => w'.cell? ⟨bl, 0, none⟩ = some (.int .i64 x.base) ∧ w'.cell? ⟨bl, 1, none⟩ = some (.int .i64 x.len) ∧ w'.cell? ⟨bl, 2, none⟩ = some (.int .i64 x.leader) ∧ w'.cell? ⟨bl, 3, none⟩ = some (.int .i64 x.sum) ∧ w'.cell? ⟨bl, 4, none⟩ = some (.int .i64 x.attr) ∧ w'.cell? ⟨bl, 5, none⟩ = some (.int .i64 x.last) ∧ w'.cell? ⟨bl, 6, none⟩ = some (.int .i64 x.first) ∧ w'.cell? ⟨bl, 7, none⟩ = some (.int .i64 x.maxt) ∧ w'.cell? ⟨bl, 8, none⟩ = some (.int .i64 x.prod) ∧ w'.cell? ⟨bl, 9, none⟩ = some (.int .i64 x.epoch) ∧ w'.cell? ⟨bl, 10, none⟩ = some (.int .i64 x.seq) ∧ w'.cell? ⟨bl, 11, none⟩ = some (.int .i64 x.count)) (by kernel_rfl) (⟨hs.rawCell 0, hs.rawCell 1, hs.rawCell 2, hs.rawCell 3, hs.rawCell 4, hs.rawCell 5, hs.rawCell 6, hs.rawCell 7, hs.rawCell 8, hs.rawCell 9, hs.rawCell 10, hs.rawCell 11⟩) (fun hHeld => ?_)
  refine tQ 0 ⟨some 30, .move (.tmp 0), 9, "ref.go:141", #[], none⟩ ?_; simp only [Act.put, sA, sB, sC]
  refine tQ 1 ⟨some 31, .move (.tmp 5), 3, "ref.go:141", #[], none⟩ ?_; simp only [Act.put, sA, sB, sC]
  refine tQ 2 ⟨some 32, .slice 9 (.tmp 30) (some (.const (Value.int IntKind.i64 21))) (some (.tmp 31)) none, 9, "ref.go:141", #[.mk 0 .data, .mk 1 .data], none⟩ ?_; simp only [Act.put, sA, sB, sC]
  refine tQ 5 ⟨some 35, .move (.tmp 3), 40, "ref.go:141", #[], none⟩ ?_; simp only [Act.put, sA, sB, sC]
  refine tQ 6 ⟨some 36, .indexAddr 40 (.tmp 35) (.const (Value.int IntKind.i64 3)), 0, "ref.go:141", #[.mk 5 .data], none⟩ ?_; simp only [Act.put, sA, sB, sC]
  refine tQ 7 ⟨some 37, .load 3 (.tmp 36), 3, "ref.go:141", #[.mk 6 .data], none⟩ ?_; simp only [Act.put, sA, sB, sC]
  refine wpAnyH_ready (rs := [3]) (by kernel_rfl) (by simp) (AllReadyH.cons (o := ⟨some 33, .call { callee := .value (.func 29), args := #[.tmp 32], argTypes := #[9] }, 76, "ref.go:141", #[.mk 2 .data], none⟩) rfl (fun KK hK => ?_) AllReadyH.nil)
  · go_simp
    (try rw [HSD.out])
    go_at_call 29
    with_reducible refine (ref05_sumX sd HSL.out X HX.out hs).mono ?_
    rintro e wq ⟨rfl, hs⟩
    refine hK.out _ _ (⟨hs.rawCell 0, hs.rawCell 1, hs.rawCell 2, hs.rawCell 3, hs.rawCell 4, hs.rawCell 5, hs.rawCell 6, hs.rawCell 7, hs.rawCell 8, hs.rawCell 9, hs.rawCell 10, hs.rawCell 11⟩) (fun hHeld => ?_)
    clear hK KK
    try simp only [Act.put, sA, sB, sC]
    refine tQ 4 ⟨some 34, .convert 76 3 (.tmp 33), 3, "ref.go:141", #[.mk 3 .data], none⟩ ?_; simp only [Act.put, sA, sB, sC]
    refine tQ 8 ⟨some 38, .binOp .neq 3 (.tmp 34) (.tmp 37) 3, 4, "ref.go:141", #[.mk 4 .data, .mk 7 .data], none⟩ ?_; simp only [Act.put, sA, sB, sC]
    refine wpAnyH_done (by kernel_rfl) ?_ _
    clear hHeld
    go_wp2_with fail
    go_meet
    exact ⟨rfl, hs⟩
 obtain ⟨rfl, h⟩ := hcut
 clear H
 have p0 := h.rawCell 0; have p1 := h.rawCell 1; have p2 := h.rawCell 2; have p3 := h.rawCell 3; have p4 := h.rawCell 4; have p5 := h.rawCell 5; have p6 := h.rawCell 6; have p7 := h.rawCell 7; have p8 := h.rawCell 8; have p9 := h.rawCell 9; have p10 := h.rawCell 10; have p11 := h.rawCell 11; simp at p0 p1 p2 p3 p4 p5 p6 p7 p8 p9 p10 p11
 obtain ⟨z0, z1, z2, z3, z4, z5, z6, z7, z8, z9, z10, z11, z12, z13, zf0, zf1, zf2, zf3, zf4, zf5, zf6, zf7, zf8, zf9, zf10, zf11, zf12, zf13⟩ := raw14 (b := rb) (h.p1)
 have H := Lib.hid h
 clear h
 go_wp2_with (first
  | (go_at_call 37; clear z0 zf0 z1 zf1 z2 zf2 z3 zf3 z4 zf4 z5 zf5 z6 zf6 z7 zf7 z8 zf8 z9 zf9 z10 zf10 z11 zf11 z12 zf12 z13 zf13; clear p0 p1 p2 p3 p4 p5 p6 p7 p8 p9 p10 p11; (with_reducible refine (sr_bytes2T x.attr HA.out c0 c1 HB2.out H.out).mono ?_); rintro e_ wn ⟨rfl, h⟩; have p0 := h.rawCell 0; have p1 := h.rawCell 1; have p2 := h.rawCell 2; have p3 := h.rawCell 3; have p4 := h.rawCell 4; have p5 := h.rawCell 5; have p6 := h.rawCell 6; have p7 := h.rawCell 7; have p8 := h.rawCell 8; have p9 := h.rawCell 9; have p10 := h.rawCell 10; have p11 := h.rawCell 11; simp at p0 p1 p2 p3 p4 p5 p6 p7 p8 p9 p10 p11; obtain ⟨z0, z1, z2, z3, z4, z5, z6, z7, z8, z9, z10, z11, z12, z13, zf0, zf1, zf2, zf3, zf4, zf5, zf6, zf7, zf8, zf9, zf10, zf11, zf12, zf13⟩ := raw14 (b := rb) (h.p1); replace H := Lib.hid h; clear h)
  | (go_at_call 36; clear z0 zf0 z1 zf1 z2 zf2 z3 zf3 z4 zf4 z5 zf5 z6 zf6 z7 zf7 z8 zf8 z9 zf9 z10 zf10 z11 zf11 z12 zf12 z13 zf13; clear p0 p1 p2 p3 p4 p5 p6 p7 p8 p9 p10 p11; (with_reducible refine (ref11_fault 8 H.out).mono ?_); rintro e_ wn ⟨rfl, h⟩; obtain ⟨z0, z1, z2, z3, z4, z5, z6, z7, z8, z9, z10, z11, z12, z13, zf0, zf1, zf2, zf3, zf4, zf5, zf6, zf7, zf8, zf9, zf10, zf11, zf12, zf13⟩ := raw14 (b := rb) (h.p1); replace H := Lib.hid h; clear h))
 have hz : St W0 _ _ (.raw rb #[.int .i64 0, .int .i64 0, .bool false, .bool false, .bool false, .int .i64 0, .int .i64 0, .int .i64 0, .int .i64 0, .int .i64 0, .int .i64 0, .slice none 0 0, .int .i64 0, .int .i64 8] 56 :: _) := St.sets14 _ _ _ _ _ _ _ _ _ _ _ _ _ _ (H.out.p1)
 refine bodyPost_ret (rc_cell_only rfl _ _ rb [.int .i64 0, .int .i64 0, .bool false, .bool false, .bool false, .int .i64 0, .int .i64 0, .int .i64 0, .int .i64 0, .int .i64 0, .int .i64 0, .slice none 0 0, .int .i64 0, .int .i64 8] _ rfl (rc_range hz) Tryz.underlying56 rfl (by kernel_rfl)) rfl ?_
 exact ⟨rfl, hz.drop.drop⟩

end Go.Proofs.YtngojlinfdokpaaGreat
