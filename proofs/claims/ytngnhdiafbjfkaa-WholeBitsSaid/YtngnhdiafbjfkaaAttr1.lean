/- Contracts of package attr. -/
import Derived.Test.YtngnhdiafbjfkaaS1
import Derived.Test.YtngnhdiafbjfkaaAttrP
namespace Go.Proofs.Ytngnhdiafbjfkaa
open Go.RowKit

theorem and8 (n : Int) : (bits .and .i64 n 8 != 0) = bitAt n 3 := and_pow n 3 (by decide) 8 (by decide)
theorem and16 (n : Int) : (bits .and .i64 n 16 != 0) = bitAt n 4 := and_pow n 4 (by decide) 16 (by decide)
theorem and32 (n : Int) : (bits .and .i64 n 32 != 0) = bitAt n 5 := and_pow n 5 (by decide) 32 (by decide)
theorem and16z (n : Int) : (bits .and .i64 n 16 == 0) = !bitAt n 4 := by rw [← and16]; simp [bne]
set_option maxHeartbeats 1000000 in
set_option maxRecDepth 100000 in
theorem attr_read (n : Int) (w : World) :
    Calls Try.prog 13 #[.int .i64 n] w fun en w' => en = .returned (.tuple #[.bool (bitAt n 3), .bool (bitAt n 4), .bool (bitAt n 5)]) ∧ w = w' := by
  have h1 := and8 n
  have h2 := and16 n
  have h3 := and32 n
  go_enter Try.func13, Try.ntmps13
  go_wp2
  go_ret3
  rw [← h1, ← h2, ← h3]
  exact ⟨rfl, rfl⟩
set_option maxHeartbeats 1000000 in
set_option maxRecDepth 100000 in
theorem attr_check (n : Int) (hn : R64 n) (w : World) :
    Calls Try.prog 14 #[.int .i64 n] w fun en w' => en = .returned (.int .i64 (chk n)) ∧ w = w' := by
  have a7 := and7 n
  have a56 := andNot56 n hn
  have a16 := and16z n
  have a32 := and32 n
  clear hn
  have hc : chk n = chk n := rfl
  conv at hc => rhs; unfold chk
  cases hb : (bitAt n 0 || bitAt n 1 || bitAt n 2)
  · rw [hb] at a7 hc
    rw [hb] at a56
    replace a56 := a56 rfl
    cases hd : (decide (n < 0) || decide (63 < n))
    · rw [hd] at a56 hc
      cases h5 : bitAt n 5
      · rw [h5] at a32 hc
        have HC := Lib.hid (show chk n = 0 from hc)
        clear hc hd hb h5
        go_enter Try.func14, Try.ntmps14
        go_wp2
        go_ret
        rw [HC.out]
        exact ⟨rfl, rfl⟩
      · rw [h5] at a32 hc
        cases h4 : bitAt n 4
        · rw [h4] at a16 hc
          have HC := Lib.hid (show chk n = 8 from hc)
          clear hc hd hb h5 h4
          go_enter Try.func14, Try.ntmps14
          go_wp2
          go_ret
          rw [HC.out]
          exact ⟨rfl, rfl⟩
        · rw [h4] at a16 hc
          have HC := Lib.hid (show chk n = 0 from hc)
          clear hc hd hb h5 h4
          go_enter Try.func14, Try.ntmps14
          go_wp2
          go_ret
          rw [HC.out]
          exact ⟨rfl, rfl⟩
    · rw [hd] at a56 hc
      have HC := Lib.hid (show chk n = 8 from hc)
      clear hc hd hb
      go_enter Try.func14, Try.ntmps14
      go_wp2
      go_ret
      rw [HC.out]
      exact ⟨rfl, rfl⟩
  · rw [hb] at a7 hc
    have HC := Lib.hid (show chk n = 9 from hc)
    clear hc hb a56
    go_enter Try.func14, Try.ntmps14
    go_wp2
    go_ret
    rw [HC.out]
    exact ⟨rfl, rfl⟩

set_option maxHeartbeats 1000000 in
set_option maxRecDepth 100000 in
theorem law_bit (n : Int) (i : Nat) (hi : i ≤ 6) (hn : R64 n) (w : World) :
    Calls Try.prog 12 #[.int .i64 n, .int .i64 (i : Int)] w fun en w' => en = .returned (.bool (bitAt n i)) ∧ w = w' := by
  go_enter Try.func12, Try.ntmps12
  go_wp2
  go_loop [0, 6] (fun xv kv => ∃ (k : Nat) (x : Int), k ≤ i ∧ kv = .int .i64 k ∧ xv = .int .i64 x ∧ R64 x ∧ x = n / 2 ^ k) (fun _ kv => i - (intOf kv).toNat)
  case atStart => exact ⟨0, n, by omega, rfl, rfl, hn, by simp⟩
  case round =>
    obtain ⟨k, x, hk, rfl, rfl, hx, hx2⟩ := hrel
    have HX := Lib.hid hx2
    clear hx2
    have hx3 := hx.1
    have hx4 := hx.2
    clear hn
    by_cases h8 : k < i
    · go_wp2
      go_round
      case rel =>
        refine ⟨k + 1, x / 2, by omega, by go_num, congrArg (Value.int .i64) ?_, ⟨by omega, by omega⟩, ?_⟩
        · rw [tmod2 x]
          exact halve hx
        · rw [HX.out, Int.pow_succ, Int.ediv_ediv_of_nonneg (Int.le_of_lt (Int.pow_pos (by decide)))]
      case measure => first | (simp [intOf]; done) | (simp [intOf]; omega)
    · have hk8 : k = i := by omega
      subst hk8
      go_wp2
      go_ret
      refine ⟨congrArg (fun b => Ending.returned (Value.bool b)) ?_, rfl⟩
      unfold bitAt
      rw [← HX.out, tmod2 x, Bool.eq_iff_iff]
      simp
      split <;> omega
theorem attrN_3 (a t c : Bool) : attrN a t c 3 = attrN a t c 3 := rfl
abbrev aBatch (base leader : Int) (a t c : Bool) (last first max prod epoch sq : Int) (ro : Option Addr) (e k : Nat) : Value :=
  .agg #[.int .i64 base, .int .i64 leader, .bool a, .bool t, .bool c, .int .i64 last, .int .i64 first, .int .i64 max, .int .i64 prod, .int .i64 epoch, .int .i64 sq, .slice ro e k]
set_option maxHeartbeats 1000000 in
set_option maxRecDepth 100000 in
theorem attr_of (base leader : Int) (a t c : Bool) (last first max prod epoch sq : Int) (ro : Option Addr) (e k : Nat) {W0 w : World} {K : Know} {L : List Res} (h : St W0 w K L) :
    Calls Try.prog 15 #[aBatch base leader a t c last first max prod epoch sq ro e k] w fun en w' => en = .returned (.int .i64 (attrN a t c 3)) ∧ St W0 w' K L := by
  have H := Lib.hid h
  clear h
  go_enter Try.func15, Try.ntmps15
  go_wp2
  go_loop [4, 15] (fun nv kv => ∃ (k : Nat), k ≤ 3 ∧ kv = .int .i64 k ∧ nv = .int .i64 (attrN a t c k)) (fun _ kv => 3 - (intOf kv).toNat)
  case atStart => exact ⟨0, by decide, rfl, by simp [attrN]⟩
  case round =>
    obtain ⟨k, hk, rfl, rfl⟩ := hrel
    have e1 : attrN true t c 1 = bits .or .i64 (attrN true t c 0) 8 := by cases t <;> cases c <;> decide
    have e2 : attrN a true c 2 = bits .or .i64 (attrN a true c 1) 16 := by cases a <;> cases c <;> decide
    have e3 : attrN a t true 3 = bits .or .i64 (attrN a t true 2) 32 := by cases a <;> cases t <;> decide
    have f1 : attrN false t c 1 = attrN false t c 0 := by cases t <;> cases c <;> decide
    have f2 : attrN a false c 2 = attrN a false c 1 := by cases a <;> cases c <;> decide
    have f3 : attrN a t false 3 = attrN a t false 2 := by cases a <;> cases t <;> decide
    have E := Lib.hid (And.intro e1 (And.intro e2 (And.intro e3 (And.intro f1 (And.intro f2 f3)))))
    clear e1 e2 e3 f1 f2 f3
    have i0 : ∀ w : World, (Instr.index 62 (.agg #[.bool a, .bool t, .bool c]) (.int .i64 0)).run Try.prog w = .ok (.bool a) w := fun _ => by kernel_rfl
    have i1 : ∀ w : World, (Instr.index 62 (.agg #[.bool a, .bool t, .bool c]) (.int .i64 1)).run Try.prog w = .ok (.bool t) w := fun _ => by kernel_rfl
    have i2 : ∀ w : World, (Instr.index 62 (.agg #[.bool a, .bool t, .bool c]) (.int .i64 2)).run Try.prog w = .ok (.bool c) w := fun _ => by kernel_rfl
    rcases (by omega : k = 0 ∨ k = 1 ∨ k = 2 ∨ k = 3) with h | h | h | h
    · subst h
      cases a
      all_goals
        go_wp2
        go_round
        case rel => exact ⟨1, by decide, rfl, congrArg (Value.int .i64) (by first | exact E.out.2.2.2.1.symm | exact E.out.1.symm)⟩
        case measure => decide
    · subst h
      cases t
      all_goals
        go_wp2
        go_round
        case rel => exact ⟨2, by decide, rfl, congrArg (Value.int .i64) (by first | exact E.out.2.2.2.2.1.symm | exact E.out.2.1.symm)⟩
        case measure => decide
    · subst h
      cases c
      all_goals
        go_wp2
        go_round
        case rel => exact ⟨3, by decide, rfl, congrArg (Value.int .i64) (by first | exact E.out.2.2.2.2.2.symm | exact E.out.2.2.1.symm)⟩
        case measure => decide
    · subst h
      go_wp2
      go_ret
      exact ⟨rfl, (H.out.alloc _).alloc _⟩

end Go.Proofs.Ytngnhdiafbjfkaa
