/- Rows of numbers, and whether two are one. -/
import Derived.Test.YtbcfnfcmghbelaaRef01
import Derived.Test.YtbcfnfcmghbelaaAppend
import Derived.Test.YtbcfnfcmghbelaaArgs
namespace Go.Proofs.Ytbcfnfcmghbelaa
open Go.RowKit

def RInt (_ : World) (cs : List Value) (x : Int) : Prop := cs = [.int .i64 x] ∧ -9223372036854775808 ≤ x ∧ x < 9223372036854775808

/-- The cell of a row of things of one cell each. -/
theorem RowsOf.int {D : Nat → Prop} {w : World} {v : Value} {l : List Int} (h : RowsOf RInt D w v 1 l) :
    ∃ p cap, v = .slice p l.length cap ∧ (0 < l.length → ∃ b off, p = some ⟨b, off, none⟩ ∧ D b ∧ b < w.heap.size ∧ ∀ i (h : i < l.length), w.cell? ⟨b, off + i, none⟩ = some (.int .i64 l[i])) := by
  obtain ⟨p, cap, rfl, h⟩ := h
  refine ⟨p, cap, rfl, fun h0 => ?_⟩
  obtain ⟨b, off, rfl, hd, hb, hc⟩ := h h0
  refine ⟨b, off, rfl, hd, hb, fun i hi => ?_⟩
  obtain ⟨cs, _, ⟨rfl, _⟩, h3⟩ := hc i hi
  have := h3 0 _ rfl
  simpa using this

theorem owns_rows {w : World} {T : TypeId} {v : Value} {l : List Int} (h : w.ownsRow 0 T 1 v l.length (l.map (Value.int .i64))) (hr : ∀ x ∈ l, -9223372036854775808 ≤ x ∧ x < 9223372036854775808) :
    RowsOf RInt (fun b => v.ownBlock = some b) w v 1 l := by
  have h' := h
  rcases h.2 with ⟨rfl, h0⟩ | ⟨g, cap, cur, rfl, _, hg, _⟩
  · exact ⟨none, 0, by rw [h0], fun hh => absurd hh (by omega)⟩
  · refine ⟨_, cap, rfl, fun _ => ⟨g, 0, rfl, rfl, heap_lt hg, fun i hi => ⟨_, rfl, ⟨rfl, hr _ (List.getElem_mem hi)⟩, ?_⟩⟩⟩
    intro f u hu
    cases f with
    | zero =>
      simp at hu
      subst hu
      have := h'.cells (g := g) rfl i (.int .i64 l[i]) (by simp [hi])
      have ha : (⟨g, 0, none⟩ : Addr).add i = ⟨g, 0 + (i * 1 + 0), none⟩ := by unfold Addr.add; split <;> simp_all
      rwa [ha] at this
    | succ f => simp at hu

set_option maxHeartbeats 1000000 in
set_option maxRecDepth 100000 in
theorem ref_same (a b : List Int) (va vb : Value) (D : Nat → Prop) (w : World) (ha : RowsOf RInt D w va 1 a) (hb : RowsOf RInt D w vb 1 b) (hl : a.length ≤ 140737488355328) :
    Calls Try.prog 27 #[va, vb] w fun en w' => en = .returned (.bool (decide (a = b))) ∧ ∃ n, w' = w.drewN n := by
  obtain ⟨p, cap, rfl, hpa⟩ := ha.int
  obtain ⟨q, cap', rfl, hqb⟩ := hb.int
  have HA := Lib.hid hpa
  have HB := Lib.hid hqb
  have HL := Lib.hid hl
  have hl2 : a.length ≤ 9223372036854775807 := by omega
  clear ha hb hpa hqb hl
  by_cases hlen : a.length = b.length
  · have HLEN := Lib.hid hlen
    rw [← hlen]
    clear hlen
    go_enter Try.func27, Try.ntmps27
    go_wp2
    go_loopw [5] (fun iv wr => ∃ k n : Nat, k ≤ a.length ∧ iv = .int .i64 k ∧ a.take k = b.take k ∧ wr = w.drewN n) (fun iv _ => a.length - (intOf iv).toNat)
    case atStart => exact ⟨0, 0, Nat.zero_le _, rfl, by simp, rfl⟩
    case round =>
      obtain ⟨k, n, hk, rfl, heq, rfl⟩ := hrel
      have HEQ := Lib.hid heq
      clear heq
      by_cases hlt : k < a.length
      · obtain ⟨ba, oa, rfl, _, _, hca⟩ := HA.out (by omega)
        obtain ⟨bb', ob, rfl, _, _, hcb⟩ := HB.out (by have := HLEN.out; omega)
        have hltb : k < b.length := by have := HLEN.out; omega
        have c1 := hca k hlt
        have c2 := hcb k hltb
        have ea : a.take (k + 1) = a.take k ++ [a[k]] := List.take_succ_eq_append_getElem hlt
        have eb : b.take (k + 1) = b.take k ++ [b[k]] := List.take_succ_eq_append_getElem hltb
        have hne : a[k] ≠ b[k] → a ≠ b := by rintro h rfl; exact h rfl
        have EA := Lib.hid (And.intro ea (And.intro eb hne))
        clear ea eb hca hcb hne
        obtain ⟨x, hx⟩ : ∃ x, a[k] = x := ⟨_, rfl⟩
        obtain ⟨y, hy⟩ : ∃ y, b[k] = y := ⟨_, rfl⟩
        rw [hx] at c1 EA
        rw [hy] at c2 EA
        clear hx hy hltb
        by_cases hxy : x = y
        · subst hxy
          go_wp2
          go_quiet (fail)
          go_wp2
          go_roundw
          case rel =>
            exact ⟨k + 1, _, hlt, by go_num, by rw [EA.out.1, EA.out.2.1, HEQ.out], rfl⟩
          case measure => first | (simp [intOf]; done) | (simp [intOf]; omega)
        · go_wp2
          go_quiet (fail)
          go_wp2
          go_ret
          exact ⟨ret_bool (decide_eq_false (EA.out.2.2 hxy)).symm, _, World.drewN_drewN _ _ _⟩
      · go_wp2
        go_ret
        refine ⟨ret_bool (decide_eq_true ?_).symm, _, rfl⟩
        have h := HEQ.out
        rw [List.take_of_length_le (by omega), List.take_of_length_le (by have := HLEN.out; omega)] at h
        exact h
  · go_enter Try.func27, Try.ntmps27
    go_wp2
    go_ret
    exact ⟨ret_bool (decide_eq_false (by rintro rfl; exact hlen rfl)).symm, 0, rfl⟩

end Go.Proofs.Ytbcfnfcmghbelaa
