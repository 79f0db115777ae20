/- The elements of arguments, opened, with their reach: rows of records. -/
import Derived.Test.YtedbadkfbkecbaaGTallyPoints7
import Derived.Test.YtedbadkfbkecbaaGTallyPoints2
import Derived.Laws.FloatArith
import Derived.Test.YtedbadkfbkecbaaGTallyPoints4
import Derived.ChangeKeysEq
import Derived.Deep.RegionHeld3
import Derived.Deep.DeepCutAuto
import Derived.Test.YtedbadkfbkecbaaArgs
import Derived.SizedLaws
import Derived.Deep.Slices
import Derived.Test.YtedbadkfbkecbaaL06F
import Derived.Test.YtedbadkfbkecbaaGTallyPoints6
import Derived.Test.YtedbadkfbkecbaaRec8
import Derived.Lib.SmallJoins
import Derived.Test.YtedbadkfbkecbaaRecs
/- Sums of sizes, turned: four of them. -/
namespace Go.Proofs.Ytedbadkfbkecbaa
open Go.RowKit

set_option maxHeartbeats 1000000 in
set_option maxRecDepth 100000 in
theorem tal_quarters (l : List Int) (q0 : Option Addr) (cap : Nat) (hl : Lim 2147483648 l) (hn : l.length ≤ 1000) {W0 w : World} {K : Know} {L : List Res} (hk : K.has (Know.flat RIt (.slice q0 l.length cap) 1 l)) (h : St W0 w K L) :
    Calls Try.prog 14 #[.slice q0 l.length cap] w fun en w' => ∃ z : Nat → Nat × Nat, en = .returned (.agg #[.complex .f64 (z 0).1 (z 0).2, .complex .f64 (z 1).1 (z 1).2, .complex .f64 (z 2).1 (z 2).2, .complex .f64 (z 3).1 (z 3).2]) ∧ (∀ j, j < 4 → FI (z j).1 (qa j l l.length).1 ∧ FI (z j).2 (qa j l l.length).2) ∧ St W0 w' K L := by
  obtain ⟨rb, hrb⟩ : ∃ b, w.heap.size = b := ⟨_, rfl⟩
  obtain ⟨fb, hfb⟩ : ∃ b, rb + 1 = b := ⟨_, rfl⟩
  have h1 := (h.allocRaw #[.complex .f64 0 0, .complex .f64 0 0, .complex .f64 0 0, .complex .f64 0 0] 38).allocRaw #[.complex .f64 0 0, .complex .f64 0 0, .complex .f64 0 0, .complex .f64 0 0] 38
  rw [World.size_alloc, hrb, hfb] at h1
  have H := Lib.hid h1
  have HK := Lib.hid hk
  have HL := Lib.hid hl
  have HN := Lib.hid hn
  have hstc : ∀ (a : Addr) (x y : Nat) (m : Mode) (w : World), (store a (.complex .f64 x y) m).run Try.prog w = stored Try.prog w a (.complex .f64 x y) m := fun a x y m w => run_store Try.prog w a _ m rfl
  clear h h1 hk hl hn
  go_enter Try.func14, Try.ntmps14
  go_wp2
  go_loopw [4, 5] (fun _ iv wr => ∃ (i : Nat) (z : Nat → Nat × Nat), i ≤ 4 ∧ iv = .int .i64 i ∧ Hid (∀ j, j < i → FI (z j).1 (qa j l l.length).1 ∧ FI (z j).2 (qa j l l.length).2) ∧ St W0 wr K (.raw fb #[.complex .f64 (z 0).1 (z 0).2, .complex .f64 (z 1).1 (z 1).2, .complex .f64 (z 2).1 (z 2).2, .complex .f64 (z 3).1 (z 3).2] 38 :: .raw rb #[.complex .f64 0 0, .complex .f64 0 0, .complex .f64 0 0, .complex .f64 0 0] 38 :: L)) (fun _ iv _ => 4 - (intOf iv).toNat)
  case atStart => exact ⟨0, fun _ => (0, 0), by decide, rfl, Lib.hid (fun j hj => by omega), H.out⟩
  case round =>
    obtain ⟨i, z, hi, rfl, HZ, hst⟩ := hrel
    clear H
    have H := Lib.hid hst
    clear hst
    by_cases hlt : i < 4
    · rcases (by omega : i = 0 ∨ i = 1 ∨ i = 2 ∨ i = 3) with rfl | rfl | rfl | rfl
      · as_aux_lemma =>
        go_wp2_with (go_at_call 11; (with_reducible refine (tal_quarter 0 l q0 cap HL.out HN.out HK.out H.out).mono ?_); rintro e_ wn ⟨x, y, rfl, hx, hy, h⟩; have FX := Lib.hid hx; have FY := Lib.hid hy; clear hx hy; have c0 : wn.cell? ⟨fb, 0, none⟩ = some (.complex .f64 (z 0).1 (z 0).2) := h.rawCell 0; have f0 : wn.frozen? ⟨fb, 0, none⟩ = false := h.rawFree 0; replace H := Lib.hid h; clear h)
        have hs := H.out.rawSet 0 (.complex .f64 x y)
        go_roundw
        case rel =>
          refine ⟨1, fun j => if j = 0 then (x, y) else z j, by decide, rfl, Lib.hid (fun j hj => ?_), hs⟩
          by_cases hjk : j = 0
          · subst hjk; exact ⟨FX.out, FY.out⟩
          · simp only [if_neg hjk]; exact HZ.out j (by omega)
        case measure => first | (simp [intOf]; done) | (simp [intOf]; omega)
      · as_aux_lemma =>
        go_wp2_with (go_at_call 11; (with_reducible refine (tal_quarter 1 l q0 cap HL.out HN.out HK.out H.out).mono ?_); rintro e_ wn ⟨x, y, rfl, hx, hy, h⟩; have FX := Lib.hid hx; have FY := Lib.hid hy; clear hx hy; have c0 : wn.cell? ⟨fb, 1, none⟩ = some (.complex .f64 (z 1).1 (z 1).2) := h.rawCell 1; have f0 : wn.frozen? ⟨fb, 1, none⟩ = false := h.rawFree 1; replace H := Lib.hid h; clear h)
        have hs := H.out.rawSet 1 (.complex .f64 x y)
        go_roundw
        case rel =>
          refine ⟨2, fun j => if j = 1 then (x, y) else z j, by decide, rfl, Lib.hid (fun j hj => ?_), hs⟩
          by_cases hjk : j = 1
          · subst hjk; exact ⟨FX.out, FY.out⟩
          · simp only [if_neg hjk]; exact HZ.out j (by omega)
        case measure => first | (simp [intOf]; done) | (simp [intOf]; omega)
      · as_aux_lemma =>
        go_wp2_with (go_at_call 11; (with_reducible refine (tal_quarter 2 l q0 cap HL.out HN.out HK.out H.out).mono ?_); rintro e_ wn ⟨x, y, rfl, hx, hy, h⟩; have FX := Lib.hid hx; have FY := Lib.hid hy; clear hx hy; have c0 : wn.cell? ⟨fb, 2, none⟩ = some (.complex .f64 (z 2).1 (z 2).2) := h.rawCell 2; have f0 : wn.frozen? ⟨fb, 2, none⟩ = false := h.rawFree 2; replace H := Lib.hid h; clear h)
        have hs := H.out.rawSet 2 (.complex .f64 x y)
        go_roundw
        case rel =>
          refine ⟨3, fun j => if j = 2 then (x, y) else z j, by decide, rfl, Lib.hid (fun j hj => ?_), hs⟩
          by_cases hjk : j = 2
          · subst hjk; exact ⟨FX.out, FY.out⟩
          · simp only [if_neg hjk]; exact HZ.out j (by omega)
        case measure => first | (simp [intOf]; done) | (simp [intOf]; omega)
      · as_aux_lemma =>
        go_wp2_with (go_at_call 11; (with_reducible refine (tal_quarter 3 l q0 cap HL.out HN.out HK.out H.out).mono ?_); rintro e_ wn ⟨x, y, rfl, hx, hy, h⟩; have FX := Lib.hid hx; have FY := Lib.hid hy; clear hx hy; have c0 : wn.cell? ⟨fb, 3, none⟩ = some (.complex .f64 (z 3).1 (z 3).2) := h.rawCell 3; have f0 : wn.frozen? ⟨fb, 3, none⟩ = false := h.rawFree 3; replace H := Lib.hid h; clear h)
        have hs := H.out.rawSet 3 (.complex .f64 x y)
        go_roundw
        case rel =>
          refine ⟨4, fun j => if j = 3 then (x, y) else z j, by decide, rfl, Lib.hid (fun j hj => ?_), hs⟩
          by_cases hjk : j = 3
          · subst hjk; exact ⟨FX.out, FY.out⟩
          · simp only [if_neg hjk]; exact HZ.out j (by omega)
        case measure => first | (simp [intOf]; done) | (simp [intOf]; omega)
    · obtain rfl : i = 4 := by omega
      have c0 : wr.cell? ⟨fb, 0, none⟩ = some (.complex .f64 (z 0).1 (z 0).2) := H.out.rawCell 0
      have d0 : wr.cell? ⟨rb, 0, none⟩ = some (.complex .f64 0 0) := H.out.p1.rawCell 0
      have e0 : wr.frozen? ⟨rb, 0, none⟩ = false := H.out.p1.rawFree 0
      have c1 : wr.cell? ⟨fb, 1, none⟩ = some (.complex .f64 (z 1).1 (z 1).2) := H.out.rawCell 1
      have d1 : wr.cell? ⟨rb, 1, none⟩ = some (.complex .f64 0 0) := H.out.p1.rawCell 1
      have e1 : wr.frozen? ⟨rb, 1, none⟩ = false := H.out.p1.rawFree 1
      have c2 : wr.cell? ⟨fb, 2, none⟩ = some (.complex .f64 (z 2).1 (z 2).2) := H.out.rawCell 2
      have d2 : wr.cell? ⟨rb, 2, none⟩ = some (.complex .f64 0 0) := H.out.p1.rawCell 2
      have e2 : wr.frozen? ⟨rb, 2, none⟩ = false := H.out.p1.rawFree 2
      have c3 : wr.cell? ⟨fb, 3, none⟩ = some (.complex .f64 (z 3).1 (z 3).2) := H.out.rawCell 3
      have d3 : wr.cell? ⟨rb, 3, none⟩ = some (.complex .f64 0 0) := H.out.p1.rawCell 3
      have e3 : wr.frozen? ⟨rb, 3, none⟩ = false := H.out.p1.rawFree 3
      go_wp2_with fail
      have hz : St W0 _ K (.raw rb #[.complex .f64 (z 0).1 (z 0).2, .complex .f64 (z 1).1 (z 1).2, .complex .f64 (z 2).1 (z 2).2, .complex .f64 (z 3).1 (z 3).2] 38 :: .raw fb #[.complex .f64 (z 0).1 (z 0).2, .complex .f64 (z 1).1 (z 1).2, .complex .f64 (z 2).1 (z 2).2, .complex .f64 (z 3).1 (z 3).2] 38 :: L) := (((H.out.p1.rawSet 0 (.complex .f64 (z 0).1 (z 0).2)).rawSet 1 (.complex .f64 (z 1).1 (z 1).2)).rawSet 2 (.complex .f64 (z 2).1 (z 2).2)).rawSet 3 (.complex .f64 (z 3).1 (z 3).2)
      refine bodyPost_ret (rc_cell_only rfl _ _ rb [.complex .f64 (z 0).1 (z 0).2, .complex .f64 (z 1).1 (z 1).2, .complex .f64 (z 2).1 (z 2).2, .complex .f64 (z 3).1 (z 3).2] _ rfl (rc_range hz) Try.underlying38 rfl (by kernel_rfl)) rfl ?_
      exact ⟨z, rfl, HZ.out, hz.drop.drop⟩

end Go.Proofs.Ytedbadkfbkecbaa

/- Quarters, back (pure). -/
namespace Go.Proofs.Ytedbadkfbkecbaa
open Go.RowKit

/-- The sum of the first quarters, each turned back by so many places more. -/
def bq (A B : Nat → Int) (p : Nat) : Nat → Int × Int
  | 0 => (0, 0)
  | k + 1 => ((bq A B p k).1 + (turnI ((-(k : Int) * p) % 4) (A k) (B k)).1, (bq A B p k).2 + (turnI ((-(k : Int) * p) % 4) (A k) (B k)).2)
theorem turnI_lim2 (r a b M : Int) (h : -M ≤ a ∧ a ≤ M) (h2 : -M ≤ b ∧ b ≤ M) : (-M ≤ (turnI r a b).1 ∧ (turnI r a b).1 ≤ M) ∧ (-M ≤ (turnI r a b).2 ∧ (turnI r a b).2 ≤ M) := by
  unfold turnI
  split
  · simp only; omega
  · split
    · simp only; omega
    · split
      · simp only; omega
      · simp only; omega
def Lim4 (A B : Nat → Int) : Prop := ∀ j, j < 4 → (-281474976710656 ≤ A j ∧ A j ≤ 281474976710656) ∧ (-281474976710656 ≤ B j ∧ B j ≤ 281474976710656)
theorem bq_lim (A B : Nat → Int) (h : Lim4 A B) (p k : Nat) (hk : k ≤ 4) : (-(281474976710656 * (k : Int)) ≤ (bq A B p k).1 ∧ (bq A B p k).1 ≤ 281474976710656 * k) ∧ (-(281474976710656 * (k : Int)) ≤ (bq A B p k).2 ∧ (bq A B p k).2 ≤ 281474976710656 * k) := by
  induction k with
  | zero => simp [bq]
  | succ k ih =>
    have ih := ih (by omega)
    have ht := turnI_lim2 ((-(k : Int) * p) % 4) (A k) (B k) 281474976710656 (h k (by omega)).1 (h k (by omega)).2
    show (-(281474976710656 * ((k + 1 : Nat) : Int)) ≤ (bq A B p k).1 + _ ∧ (bq A B p k).1 + _ ≤ 281474976710656 * ((k + 1 : Nat) : Int)) ∧ (-(281474976710656 * ((k + 1 : Nat) : Int)) ≤ (bq A B p k).2 + _ ∧ (bq A B p k).2 + _ ≤ 281474976710656 * ((k + 1 : Nat) : Int))
    omega
theorem bq_wh (A B : Nat → Int) (h : Lim4 A B) (p k : Nat) (hk : k ≤ 4) : Wh (bq A B p k).1 ∧ Wh (bq A B p k).2 := by
  have h := bq_lim A B h p k hk
  unfold Wh
  omega

end Go.Proofs.Ytedbadkfbkecbaa

/- Quarters of sizes, and back (pure). -/
namespace Go.Proofs.Ytedbadkfbkecbaa
open Go.RowKit

/-- The sum of every fourth one. -/
def sm (l : List Int) (p : Nat) : Nat → Int
  | 0 => 0
  | i + 1 => sm l p i + if i % 4 = p then l.getD i 0 else 0
theorem turnI_add (r a b a' b' : Int) : turnI r (a + a') (b + b') = ((turnI r a b).1 + (turnI r a' b').1, (turnI r a b).2 + (turnI r a' b').2) := by
  by_cases h1 : r = 1
  · subst h1; simp [turnI]; omega
  · by_cases h2 : r = 2
    · subst h2; simp [turnI]; omega
    · by_cases h3 : r = 3
      · subst h3; simp [turnI]; omega
      · simp [turnI, h1, h2, h3]
theorem turnI_turn (r q s : Int) (h0 : 0 ≤ r) (h1 : r < 4) (h2 : 0 ≤ q) (h3 : q < 4) : turnI r (turnI q s 0).1 (turnI q s 0).2 = turnI ((r + q) % 4) s 0 := by
  rcases (by omega : r = 0 ∨ r = 1 ∨ r = 2 ∨ r = 3) with rfl | rfl | rfl | rfl <;> rcases (by omega : q = 0 ∨ q = 1 ∨ q = 2 ∨ q = 3) with rfl | rfl | rfl | rfl <;> simp [turnI]
theorem turn_kp (k p n : Nat) (s : Int) : turnI ((-(k : Int) * p) % 4) (turnI (((k : Int) * n) % 4) s 0).1 (turnI (((k : Int) * n) % 4) s 0).2 = turnI (((k : Int) * (n - p)) % 4) s 0 := by
  rw [turnI_turn _ _ _ (by omega) (by omega) (by omega) (by omega)]
  congr 1
  rw [Int.mul_sub, Int.neg_mul]
  generalize (k : Int) * p = x
  generalize (k : Int) * n = y
  omega
theorem bq_step (l : List Int) (p n : Nat) (hp : p < 4) : (bq (fun j => (qa j l (n + 1)).1) (fun j => (qa j l (n + 1)).2) p 4).1 = (bq (fun j => (qa j l n).1) (fun j => (qa j l n).2) p 4).1 + if n % 4 = p then 4 * l.getD n 0 else 0 := by
  obtain ⟨s, hs⟩ : ∃ s, l.getD n 0 = s := ⟨_, rfl⟩
  have e : ∀ k : Nat, (turnI ((-(k : Int) * p) % 4) (qa k l (n + 1)).1 (qa k l (n + 1)).2).1 = (turnI ((-(k : Int) * p) % 4) (qa k l n).1 (qa k l n).2).1 + (turnI (((k : Int) * (n - p)) % 4) s 0).1 := fun k => by
    show (turnI _ (_ + _) (_ + _)).1 = _
    rw [turnI_add, hs]
    show _ + _ = _
    rw [turn_kp]
  have u : ∀ m, (bq (fun j => (qa j l m).1) (fun j => (qa j l m).2) p 4).1 = 0 + (turnI ((-((0 : Nat) : Int) * p) % 4) (qa (0 : Nat) l m).1 (qa (0 : Nat) l m).2).1 + (turnI ((-((1 : Nat) : Int) * p) % 4) (qa (1 : Nat) l m).1 (qa (1 : Nat) l m).2).1 + (turnI ((-((2 : Nat) : Int) * p) % 4) (qa (2 : Nat) l m).1 (qa (2 : Nat) l m).2).1 + (turnI ((-((3 : Nat) : Int) * p) % 4) (qa (3 : Nat) l m).1 (qa (3 : Nat) l m).2).1 := fun m => rfl
  rw [u, u, e, e, e, e, hs]
  have g0 : (((0 : Nat) : Int) * (n - p)) % 4 = 0 := by omega
  have g : (turnI ((((0 : Nat) : Int) * (n - p)) % 4) s 0).1 + (turnI ((((1 : Nat) : Int) * (n - p)) % 4) s 0).1 + (turnI ((((2 : Nat) : Int) * (n - p)) % 4) s 0).1 + (turnI ((((3 : Nat) : Int) * (n - p)) % 4) s 0).1 = if n % 4 = p then 4 * s else 0 := by
    obtain ⟨d, hd⟩ : ∃ d, (((n : Int) - p)) % 4 = d := ⟨_, rfl⟩
    have g1 : (((1 : Nat) : Int) * (n - p)) % 4 = d := by omega
    have g2 : (((2 : Nat) : Int) * (n - p)) % 4 = (2 * d) % 4 := by omega
    have g3 : (((3 : Nat) : Int) * (n - p)) % 4 = (3 * d) % 4 := by omega
    rw [g0, g1, g2, g3]
    rcases (by omega : d = 0 ∨ d = 1 ∨ d = 2 ∨ d = 3) with rfl | rfl | rfl | rfl
    · rw [if_pos (by omega)]; simp [turnI]; omega
    · rw [if_neg (by omega)]; simp [turnI]; omega
    · rw [if_neg (by omega)]; simp [turnI]; omega
    · rw [if_neg (by omega)]; simp [turnI]; omega
  omega
theorem bq_qa (l : List Int) (p n : Nat) (hp : p < 4) : (bq (fun j => (qa j l n).1) (fun j => (qa j l n).2) p 4).1 = 4 * sm l p n := by
  induction n with
  | zero => simp [bq, qa, turnI, sm]
  | succ n ih =>
    rw [bq_step l p n hp, ih]
    show _ = 4 * (sm l p n + _)
    split <;> omega

theorem qa_lim4 (l : List Int) (hl : Lim 2147483648 l) (hn : l.length ≤ 1000) : Lim4 (fun j => (qa j l l.length).1) (fun j => (qa j l l.length).2) := by
  intro j _
  have h := qa_lim (j : Int) 2147483648 l hl (by decide) l.length
  have e : (2147483648 : Int) * (l.length : Int) ≤ 2147483648000 := by omega
  simp only
  omega
theorem bq_div (l : List Int) (p : Nat) (hp : p < 4) : Int.tdiv (bq (fun j => (qa j l l.length).1) (fun j => (qa j l l.length).2) p 4).1 4 = sm l p l.length := by
  rw [bq_qa l p _ hp]
  exact Int.mul_tdiv_cancel_left _ (by decide)
end Go.Proofs.Ytedbadkfbkecbaa

/- Quarters, back. -/
namespace Go.Proofs.Ytedbadkfbkecbaa
open Go.RowKit

/-- Four ints. -/
def cells4 (t : Nat → Int) : Array Value := #[.int .i64 (t 0), .int .i64 (t 1), .int .i64 (t 2), .int .i64 (t 3)]
theorem cells4_set (t : Nat → Int) (p : Nat) (hp : p < 4) (v : Int) : (cells4 t).setIfInBounds p (.int .i64 v) = cells4 (fun j => if j = p then v else t j) := by
  rcases (by omega : p = 0 ∨ p = 1 ∨ p = 2 ∨ p = 3) with rfl | rfl | rfl | rfl <;> rfl
theorem cells4_get (t : Nat → Int) (p : Nat) (hp : p < 4) : (cells4 t)[p]? = some (.int .i64 (t p)) := by
  rcases (by omega : p = 0 ∨ p = 1 ∨ p = 2 ∨ p = 3) with rfl | rfl | rfl | rfl <;> rfl
set_option maxHeartbeats 1000000 in
set_option maxRecDepth 100000 in
theorem index4 (z : Nat → Nat × Nat) (k : Nat) (hk : k < 4) : ∀ w, (Instr.index 38 (.agg #[.complex .f64 (z 0).1 (z 0).2, .complex .f64 (z 1).1 (z 1).2, .complex .f64 (z 2).1 (z 2).2, .complex .f64 (z 3).1 (z 3).2]) (.int .i64 k)).run Try.prog w = .ok (.complex .f64 (z k).1 (z k).2) w := by
  rcases (by omega : k = 0 ∨ k = 1 ∨ k = 2 ∨ k = 3) with rfl | rfl | rfl | rfl <;> exact fun _ => by kernel_rfl
theorem convI (x : Nat) (a : Int) (h : FI x a) (ha : Wh a) (w : World) : (convert 61 3 (.float .f64 x)).run Try.prog w = .ok (.int .i64 a) w := by
  refine run_convert_float_int w _ _ .f64 .i64 x a (by kernel_rfl) (by kernel_rfl) ?_
  unfold floatToIntVal
  rw [FI.toInt h]
  simp only
  unfold Wh at ha
  rw [if_pos]
  show -9223372036854775808 ≤ a ∧ a ≤ 9223372036854775807
  omega

set_option maxHeartbeats 1000000 in
set_option maxRecDepth 100000 in
theorem tal_back (z : Nat → Nat × Nat) (A B s : Nat → Int) (hz : ∀ j, j < 4 → FI (z j).1 (A j) ∧ FI (z j).2 (B j)) (hl : Lim4 A B) (hs : ∀ p, p < 4 → Int.tdiv (bq A B p 4).1 4 = s p) {W0 w : World} {K : Know} {L : List Res} (h : St W0 w K L) :
    Calls Try.prog 13 #[.agg #[.complex .f64 (z 0).1 (z 0).2, .complex .f64 (z 1).1 (z 1).2, .complex .f64 (z 2).1 (z 2).2, .complex .f64 (z 3).1 (z 3).2]] w fun en w' => en = .returned (.agg (cells4 s)) ∧ St W0 w' K L := by
  obtain ⟨fb, hfb⟩ : ∃ b, w.heap.size = b := ⟨_, rfl⟩
  obtain ⟨rb, hrb⟩ : ∃ b, fb + 1 = b := ⟨_, rfl⟩
  obtain ⟨sb, hsb⟩ : ∃ b, rb + 1 = b := ⟨_, rfl⟩
  have h1 := ((h.allocRaw #[.complex .f64 (z 0).1 (z 0).2, .complex .f64 (z 1).1 (z 1).2, .complex .f64 (z 2).1 (z 2).2, .complex .f64 (z 3).1 (z 3).2] 38).allocRaw #[.int .i64 0, .int .i64 0, .int .i64 0, .int .i64 0] 36).allocRaw #[.int .i64 0, .int .i64 0, .int .i64 0, .int .i64 0] 36
  simp only [World.size_alloc, hfb, hrb, hsb] at h1
  have H := Lib.hid h1
  have HZ := Lib.hid hz
  have HL := Lib.hid hl
  have HS := Lib.hid hs
  clear h h1 hz hl hs
  go_enter Try.func13, Try.ntmps13
  go_wp2
  go_loopw [4, 5, 6, 7, 8, 12] (fun _ _ _ _ iv _ wr => ∃ (p : Nat) (t : Nat → Int), p ≤ 4 ∧ iv = .int .i64 p ∧ Hid (∀ j, j < p → t j = s j) ∧ St W0 wr K (.raw sb (cells4 t) 36 :: .raw rb #[.int .i64 0, .int .i64 0, .int .i64 0, .int .i64 0] 36 :: .raw fb #[.complex .f64 (z 0).1 (z 0).2, .complex .f64 (z 1).1 (z 1).2, .complex .f64 (z 2).1 (z 2).2, .complex .f64 (z 3).1 (z 3).2] 38 :: L)) (fun _ _ _ _ iv _ _ => 4 - (intOf iv).toNat)
  case atStart => exact ⟨0, fun _ => 0, by decide, rfl, Lib.hid (fun j hj => by omega), H.out⟩
  case round =>
    obtain ⟨p, t, hp, rfl, HT, hst⟩ := hrel
    clear H
    have H := Lib.hid hst
    clear hst
    by_cases hlt : p < 4
    · have c0 : wr.cell? ⟨fb, 0, none⟩ = some (.complex .f64 (z 0).1 (z 0).2) := H.out.p2.rawCell 0
      have c1 : wr.cell? ⟨fb, 1, none⟩ = some (.complex .f64 (z 1).1 (z 1).2) := H.out.p2.rawCell 1
      have c2 : wr.cell? ⟨fb, 2, none⟩ = some (.complex .f64 (z 2).1 (z 2).2) := H.out.p2.rawCell 2
      have c3 : wr.cell? ⟨fb, 3, none⟩ = some (.complex .f64 (z 3).1 (z 3).2) := H.out.p2.rawCell 3
      have hpi : (p : Int) < 4 := by omega
      have hp0 : (0 : Int) ≤ (p : Int) := by omega
      go_wp2
      clear c0 c1 c2 c3
      go_loopw [5, 6, 7, 12] (fun sv _ _ iv wr => ∃ (k x y : Nat), k ≤ 4 ∧ iv = .int .i64 k ∧ sv = .complex .f64 x y ∧ Hid (FI x (bq A B p k).1) ∧ Hid (FI y (bq A B p k).2) ∧ St W0 wr K (.raw sb (cells4 t) 36 :: .raw rb #[.int .i64 0, .int .i64 0, .int .i64 0, .int .i64 0] 36 :: .raw fb #[.complex .f64 (z 0).1 (z 0).2, .complex .f64 (z 1).1 (z 1).2, .complex .f64 (z 2).1 (z 2).2, .complex .f64 (z 3).1 (z 3).2] 38 :: L)) (fun _ _ _ iv _ => 4 - (intOf iv).toNat)
      case atStart => exact ⟨0, 0, 0, by decide, rfl, rfl, Lib.hid FI.zero, Lib.hid FI.zero, H.out⟩
      case round =>
        obtain ⟨k, x, y, hk, rfl, rfl, FX, FY, hst⟩ := hrel
        clear H
        have H := Lib.hid hst
        clear hst
        by_cases hlk : k < 4
        · have hix := index4 z k hlk
          have hki : (k : Int) < 4 := by omega
          have hk0 : (0 : Int) ≤ (k : Int) := by omega
          obtain ⟨x1, hx1⟩ : ∃ x1, (z k).1 = x1 := ⟨_, rfl⟩
          obtain ⟨y1, hy1⟩ : ∃ y1, (z k).2 = y1 := ⟨_, rfl⟩
          rw [hx1, hy1] at hix
          have ZK := HZ.out k hlk
          rw [hx1, hy1] at ZK
          have FZ1 := Lib.hid ZK.1
          have FZ2 := Lib.hid ZK.2
          obtain ⟨m, hm⟩ : ∃ m, -(k : Int) = m := ⟨_, rfl⟩
          have hneg : IntKind.i64.wrap (-(k : Int)) = m := by rw [hm]; exact IntWalk.i64_in _ (by omega)
          have hneg2 : wrap64 (-(k : Int)) = m := by unfold wrap64; omega
          obtain ⟨r, hr⟩ : ∃ r, (m * (p : Int)) % 4 = r := ⟨_, rfl⟩
          obtain ⟨q, hq⟩ : ∃ q, IntKind.i64.wrap (m * (p : Int)) = q := ⟨_, rfl⟩
          have HQ := Lib.hid (show q % 4 = r by rw [← hr, ← hq, IntKind.wrap_i64]; generalize m * (p : Int) = z; omega)
          have hst1 : (bq A B p (k + 1)).1 = (bq A B p k).1 + (turnI r (A k) (B k)).1 := by rw [← hr, ← hm]; rfl
          have hst2 : (bq A B p (k + 1)).2 = (bq A B p k).2 + (turnI r (A k) (B k)).2 := by rw [← hr, ← hm]; rfl
          have hw := bq_wh A B HL.out p (k + 1) (by omega)
          have WX := Lib.hid (show Wh ((bq A B p k).1 + (turnI r (A k) (B k)).1) by rw [← hst1]; exact hw.1)
          have WY := Lib.hid (show Wh ((bq A B p k).2 + (turnI r (A k) (B k)).2) by rw [← hst2]; exact hw.2)
          have S1 := Lib.hid hst1
          have S2 := Lib.hid hst2
          clear hx1 hy1 ZK hm hr hst1 hst2 hw
          go_wp2_with (go_at_call 12; (with_reducible refine (tal_turn x1 y1 (A k) (B k) FZ1.out FZ2.out q r HQ.out H.out).mono ?_); rintro e_ wn ⟨x2, y2, rfl, hx2, hy2, h⟩; obtain ⟨x3, ex, fx⟩ := FI.add FX.out hx2 WX.out; obtain ⟨y3, ey, fy⟩ := FI.add FY.out hy2 WY.out; have hadd := run_cadd 29 ex ey; have FX3 := Lib.hid fx; have FY3 := Lib.hid fy; clear ex ey fx fy hx2 hy2; replace H := Lib.hid h; clear h)
          go_roundw
          case rel => exact ⟨k + 1, x3, y3, hlk, by go_num, rfl, Lib.hid (by rw [S1.out]; exact FX3.out), Lib.hid (by rw [S2.out]; exact FY3.out), H.out⟩
          case measure => first | (simp [intOf]; done) | (simp [intOf]; omega)
        · obtain rfl : k = 4 := by omega
          obtain ⟨N, hN⟩ : ∃ N, (bq A B p 4).1 = N := ⟨_, rfl⟩
          have hNl := (bq_lim A B HL.out p 4 (by omega)).1
          have hSp := HS.out p hlt
          rw [hN] at hNl hSp
          have hF := FX.out
          rw [hN] at hF
          have hcv := convI x N hF (by unfold Wh; omega)
          have hab : (s p).natAbs = N.natAbs / 4 := by rw [← hSp]; exact Int.natAbs_tdiv N 4
          have hsb : -1125899906842624 ≤ s p ∧ s p ≤ 1125899906842624 := by
            omega
          have hq1 : IntKind.i64.wrap (N.tdiv 4) = s p := by rw [hSp]; exact IntWalk.i64_in _ (by omega)
          have hq2 : wrap64 (N.tdiv 4) = s p := by rw [hSp]; unfold wrap64; omega
          have hf := H.out.rawFree p
          have hc := (H.out.rawCell p).trans (cells4_get t p hlt)
          have HN := Lib.hid hN
          clear hN hNl hF hSp hab hsb
          go_wp2
          go_roundw
          case rel => exact ⟨p + 1, fun j => if j = p then s p else t j, hlt, by go_num, Lib.hid (fun j hj => by
              by_cases hjp : j = p
              · rw [hjp]; simp
              · simp only [if_neg hjp]; exact HT.out j (by omega)), by rw [← cells4_set t p hlt]; exact H.out.rawSet p _⟩
          case measure => first | (simp [intOf]; done) | (simp [intOf]; omega)
    · obtain rfl : p = 4 := by omega
      have c0 : wr.cell? ⟨sb, 0, none⟩ = some (.int .i64 (t 0)) := H.out.rawCell 0
      have c1 : wr.cell? ⟨sb, 1, none⟩ = some (.int .i64 (t 1)) := H.out.rawCell 1
      have c2 : wr.cell? ⟨sb, 2, none⟩ = some (.int .i64 (t 2)) := H.out.rawCell 2
      have c3 : wr.cell? ⟨sb, 3, none⟩ = some (.int .i64 (t 3)) := H.out.rawCell 3
      have d0 : wr.cell? ⟨rb, 0, none⟩ = some (.int .i64 0) := H.out.p1.rawCell 0
      have d1 : wr.cell? ⟨rb, 1, none⟩ = some (.int .i64 0) := H.out.p1.rawCell 1
      have d2 : wr.cell? ⟨rb, 2, none⟩ = some (.int .i64 0) := H.out.p1.rawCell 2
      have d3 : wr.cell? ⟨rb, 3, none⟩ = some (.int .i64 0) := H.out.p1.rawCell 3
      have e0 : wr.frozen? ⟨rb, 0, none⟩ = false := H.out.p1.rawFree 0
      have e1 : wr.frozen? ⟨rb, 1, none⟩ = false := H.out.p1.rawFree 1
      have e2 : wr.frozen? ⟨rb, 2, none⟩ = false := H.out.p1.rawFree 2
      have e3 : wr.frozen? ⟨rb, 3, none⟩ = false := H.out.p1.rawFree 3
      go_wp2_with fail
      have hz : St W0 _ K (.raw rb #[.int .i64 (t 0), .int .i64 (t 1), .int .i64 (t 2), .int .i64 (t 3)] 36 :: .raw sb (cells4 t) 36 :: .raw fb #[.complex .f64 (z 0).1 (z 0).2, .complex .f64 (z 1).1 (z 1).2, .complex .f64 (z 2).1 (z 2).2, .complex .f64 (z 3).1 (z 3).2] 38 :: L) := (((H.out.p1.rawSet 0 (.int .i64 (t 0))).rawSet 1 (.int .i64 (t 1))).rawSet 2 (.int .i64 (t 2))).rawSet 3 (.int .i64 (t 3))
      refine bodyPost_ret (rc_cell_only rfl _ _ rb [.int .i64 (t 0), .int .i64 (t 1), .int .i64 (t 2), .int .i64 (t 3)] _ rfl (rc_range hz) Try.underlying36 rfl (by kernel_rfl)) rfl ?_
      refine ⟨?_, hz.drop.drop.drop⟩
      unfold cells4
      rw [← HT.out 0 (by decide), ← HT.out 1 (by decide), ← HT.out 2 (by decide), ← HT.out 3 (by decide)]

end Go.Proofs.Ytedbadkfbkecbaa

/- Layer 24: points, turned. -/
namespace Go.Proofs.Ytedbadkfbkecbaa
open Go.RowKit

set_option maxHeartbeats 1000000 in
set_option maxRecDepth 100000 in
theorem l24_whole (x y : Int) {W0 w : World} {K : Know} {L : List Res} (h : St W0 w K L) :
    Calls Try.prog 9 #[.int .i64 x, .int .i64 y] w fun en w' => en = .returned (.complex .f64 (floatOfInt .f64 x) (floatOfInt .f64 y)) ∧ St W0 w' K L := by
  have H := Lib.hid h
  clear h
  go_enter Try.func9, Try.ntmps9
  go_wp2
  go_ret
  exact ⟨rfl, H.out⟩
theorem ceq_run (T : TypeId) {a b c d : Nat} {p q u v : Int} (ha : FI a p) (hb : FI b q) (hc : FI c u) (hd : FI d v) (t : Bool) (h : decide (p = u ∧ q = v) = t) (w : World) : (binOp .eql T (.complex .f64 a b) (.complex .f64 c d)).run Try.prog w = .ok (.bool t) w := by
  show (Op.complexOp .eql .f64 a b c d).run Try.prog w = _
  have h1 : (FloatKind.f64.format.order a c == some .eq) = decide (p = u) := FI.eq ha hc
  have h2 : (FloatKind.f64.format.order b d == some .eq) = decide (q = v) := FI.eq hb hd
  have e : t = (decide (p = u) && decide (q = v)) := by rw [← h]; simp
  simp [Op.complexOp, Op.Complex.cmp, Op.floatCmp, h1, h2, e, asBool]
theorem cne_run (T : TypeId) {a b c d : Nat} {p q u v : Int} (ha : FI a p) (hb : FI b q) (hc : FI c u) (hd : FI d v) (t : Bool) (h : (!decide (p = u ∧ q = v)) = t) (w : World) : (binOp .neq T (.complex .f64 a b) (.complex .f64 c d)).run Try.prog w = .ok (.bool t) w := by
  show (Op.complexOp .neq .f64 a b c d).run Try.prog w = _
  have h1 : (FloatKind.f64.format.order a c == some .eq) = decide (p = u) := FI.eq ha hc
  have h2 : (FloatKind.f64.format.order b d == some .eq) = decide (q = v) := FI.eq hb hd
  have e : t = !(decide (p = u) && decide (q = v)) := by rw [← h]; simp
  simp [Op.complexOp, Op.Complex.cmp, Op.floatCmp, h1, h2, e, asBool]
theorem FI_3 : FI 4613937818241073152 3 := FI.conv 3 (by unfold Wh; decide)
theorem FI_1 : FI 4607182418800017408 1 := FI.conv 1 (by unfold Wh; decide)
theorem FI_m1 : FI 13830554455654793216 (-1) := FI.neg FI_1

end Go.Proofs.Ytedbadkfbkecbaa

/- Sizes of batches. -/
namespace Go.Proofs.Ytedbadkfbkecbaa
open Go.RowKit

theorem small_b (b : BatS) (l : List (RecS × Value)) (q : Option Addr) (cap : Nat) (hl : l.map (·.1) = b.recs) (r : Bool) (hr : smallB b.recs = r) (hf : FitW l) {W0 w : World} {K : Know} {L : List Res} (hk : K.has (Know.recs (.slice q l.length cap) l)) (h : St W0 w K L) :
    Calls Try.prog 5 #[.agg #[.int .i64 b.base, .int .i64 b.leader, .bool b.app, .bool b.txn, .bool b.ctl, .int .i64 b.last, .int .i64 b.first, .int .i64 b.maxt, .int .i64 b.prod, .int .i64 b.epoch, .int .i64 b.seq, .slice q l.length cap]] w fun en w' => en = .returned (.int .i64 (if r then 1 else 0)) ∧ St W0 w' K L := by
  exact l11_small b.base b.leader b.app b.txn b.ctl b.last b.first b.maxt b.prod b.epoch b.seq l q cap r (by rw [hl]; exact hr) hf hk h
theorem rcheck_b (b : BatS) (l : List (RecS × Value)) (q : Option Addr) (cap : Nat) (hl : l.map (·.1) = b.recs) (e : Int) (he : batErr b = e) (hR : b.R) (hf : FitW l) (hs : smallB b.recs = true) {W0 w : World} {K : Know} {L : List Res} (hk : K.has (Know.recs (.slice q l.length cap) l)) (h : St W0 w K L) :
    Calls Try.prog 6 #[.agg #[.int .i64 b.base, .int .i64 b.leader, .bool b.app, .bool b.txn, .bool b.ctl, .int .i64 b.last, .int .i64 b.first, .int .i64 b.maxt, .int .i64 b.prod, .int .i64 b.epoch, .int .i64 b.seq, .slice q l.length cap]] w fun en w' => en = .returned (.int .i64 e) ∧ St W0 w' K L := by
  rw [← hl] at hs
  exact ref11_check b.base b.leader b.app b.txn b.ctl b.last b.first b.maxt b.prod b.epoch b.seq l q cap e (by rw [hl]; exact he) (by have := hR.2.2.2.1.2; omega) hR.1 (FitW.fit hf hs) (by have := smallB_len hs; omega) hk h
theorem renc_b (b : BatS) (l : List (RecS × Value)) (q : Option Addr) (cap : Nat) (hl : l.map (·.1) = b.recs) (s : Bs) (hs : b.enc = s) (so : SmallOk b) {W0 w : World} {K : Know} {L : List Res} (hk : K.has (Know.recs (.slice q l.length cap) l)) (h : St W0 w K L) :
    Calls Try.prog 7 #[.agg #[.int .i64 b.base, .int .i64 b.leader, .bool b.app, .bool b.txn, .bool b.ctl, .int .i64 b.last, .int .i64 b.first, .int .i64 b.maxt, .int .i64 b.prod, .int .i64 b.epoch, .int .i64 b.seq, .slice q l.length cap]] w fun en w' => en = .returned (.string (bb s)) ∧ St W0 w' K L := by
  exact ref11_encodeX b.base b.leader b.app b.txn b.ctl b.last b.first b.maxt b.prod b.epoch b.seq b.recs l hl q cap s hs so hk h
theorem enc_bad_b (b : BatS) (l : List (RecS × Value)) (q : Option Addr) (cap : Nat) (hl : l.map (·.1) = b.recs) (e : Int) (he : batErr b = e) (h0 : e ≠ 0) (hR : b.R) (hf : FitW l) (hs : smallB b.recs = true) {W0 w : World} {K : Know} {L : List Res} (hk : K.has (Know.recs (.slice q l.length cap) l)) (h : St W0 w K L) :
    Calls Try.prog 24 #[.agg #[.int .i64 b.base, .int .i64 b.leader, .bool b.app, .bool b.txn, .bool b.ctl, .int .i64 b.last, .int .i64 b.first, .int .i64 b.maxt, .int .i64 b.prod, .int .i64 b.epoch, .int .i64 b.seq, .slice q l.length cap]] w fun en w' => en = .returned (.tuple #[.string ⟨#[]⟩, .int .i64 e]) ∧ St W0 w' K L := by
  rw [← hl] at hs
  exact bat_encode_bad b.base b.leader b.app b.txn b.ctl b.last b.first b.maxt b.prod b.epoch b.seq l q cap e (by rw [hl]; exact he) h0 (by have := hR.2.2.2.1.2; omega) (FitW.fit hf hs) (by have := smallB_len hs; omega) hk h
theorem enc_ok_b (b : BatS) (l : List (RecS × Value)) (q : Option Addr) (cap : Nat) (hl : l.map (·.1) = b.recs) (s : Bs) (hs : b.enc = s) (so : SmallOk b) {W0 w : World} {K : Know} {L : List Res} (hk : K.has (Know.recs (.slice q l.length cap) l)) (h : St W0 w K L) :
    Calls Try.prog 24 #[.agg #[.int .i64 b.base, .int .i64 b.leader, .bool b.app, .bool b.txn, .bool b.ctl, .int .i64 b.last, .int .i64 b.first, .int .i64 b.maxt, .int .i64 b.prod, .int .i64 b.epoch, .int .i64 b.seq, .slice q l.length cap]] w fun en w' => en = .returned (.tuple #[.string (bb s), .int .i64 0]) ∧ St W0 w' K L := by
  subst hs
  exact bat_encode_enc b l q cap hl so hk h
set_option maxHeartbeats 4000000 in
set_option maxRecDepth 100000 in
theorem tal_point_ok (b : BatS) (l : List (RecS × Value)) (q : Option Addr) (cap : Nat) (hl : l.map (·.1) = b.recs) (so : SmallOk b) {W0 w : World} {K : Know} {L : List Res} (hk : K.has (Know.recs (.slice q l.length cap) l)) (h : St W0 w K L) :
    Calls Try.prog 8 #[.agg #[.int .i64 b.base, .int .i64 b.leader, .bool b.app, .bool b.txn, .bool b.ctl, .int .i64 b.last, .int .i64 b.first, .int .i64 b.maxt, .int .i64 b.prod, .int .i64 b.epoch, .int .i64 b.seq, .slice q l.length cap]] w fun en w' => ∃ x y : Nat, en = .returned (.complex .f64 x y) ∧ FI x (ptP b) ∧ FI y (ptQ b) ∧ St W0 w' K L := by
  have H := Lib.hid (h.allocRaw #[.int .i64 b.base, .int .i64 b.leader, .bool b.app, .bool b.txn, .bool b.ctl, .int .i64 b.last, .int .i64 b.first, .int .i64 b.maxt, .int .i64 b.prod, .int .i64 b.epoch, .int .i64 b.seq, .slice q l.length cap] 26)
  have HK := Lib.hid hk
  have HL := Lib.hid hl
  have HSO := Lib.hid so
  obtain ⟨s, hs⟩ : ∃ s, b.enc = s := ⟨_, rfl⟩
  have HS := Lib.hid hs
  have hp : ptP b = (s.length : Int) := by unfold ptP; rw [if_pos so.err, hs]
  have hq : ptQ b = (l.length : Int) := by unfold ptQ; rw [if_pos so.err]; exact recs_len hl
  rw [hp, hq]
  have hw1 : Wh (s.length : Int) := by have := so.elen; rw [hs] at this; unfold Wh; omega
  have hw2 : Wh (l.length : Int) := by have h1 := so.len; have h2 := recs_len hl; unfold Wh; omega
  have F1 := Lib.hid (FI.conv _ hw1)
  have F2 := Lib.hid (FI.conv _ hw2)
  clear h hk hl so hs hp hq hw1 hw2
  go_enter Try.func8, Try.ntmps8
  go_wp2_with (go_at_call 24; (with_reducible refine (enc_ok_b b l q cap HL.out s HS.out HSO.out HK.out H.out).mono ?_); rintro e_ wn ⟨rfl, h⟩; have c11 := h.rawCell 11; simp at c11; replace H := Lib.hid h; clear h)
  go_ret
  exact ⟨_, _, rfl, F1.out, F2.out, H.out.drop⟩
set_option maxHeartbeats 4000000 in
set_option maxRecDepth 100000 in
theorem tal_point_bad (b : BatS) (l : List (RecS × Value)) (q : Option Addr) (cap : Nat) (hl : l.map (·.1) = b.recs) (he : batErr b ≠ 0) (hR : b.R) (hf : FitW l) (hs : smallB b.recs = true) {W0 w : World} {K : Know} {L : List Res} (hk : K.has (Know.recs (.slice q l.length cap) l)) (h : St W0 w K L) :
    Calls Try.prog 8 #[.agg #[.int .i64 b.base, .int .i64 b.leader, .bool b.app, .bool b.txn, .bool b.ctl, .int .i64 b.last, .int .i64 b.first, .int .i64 b.maxt, .int .i64 b.prod, .int .i64 b.epoch, .int .i64 b.seq, .slice q l.length cap]] w fun en w' => ∃ x y : Nat, en = .returned (.complex .f64 x y) ∧ FI x (ptP b) ∧ FI y (ptQ b) ∧ St W0 w' K L := by
  have H := Lib.hid (h.allocRaw #[.int .i64 b.base, .int .i64 b.leader, .bool b.app, .bool b.txn, .bool b.ctl, .int .i64 b.last, .int .i64 b.first, .int .i64 b.maxt, .int .i64 b.prod, .int .i64 b.epoch, .int .i64 b.seq, .slice q l.length cap] 26)
  have HK := Lib.hid hk
  have HL := Lib.hid hl
  have HE0 := Lib.hid he
  have HR := Lib.hid hR
  have HF := Lib.hid hf
  have HS := Lib.hid hs
  obtain ⟨e, hee⟩ : ∃ e, batErr b = e := ⟨_, rfl⟩
  have HE := Lib.hid hee
  have h0 : e ≠ 0 := by rw [← hee]; exact he
  have H0 := Lib.hid h0
  have hp : ptP b = 0 := by unfold ptP; rw [if_neg he]
  have hq : ptQ b = 0 := by unfold ptQ; rw [if_neg he]
  rw [hp, hq]
  have g1 : (e == 0) = false := by rw [beq_eq_false_iff_ne]; exact h0
  have g2 : (e != 0) = true := by simp [bne, g1]
  clear h hk hl he hR hf hs hee h0 hp hq
  go_enter Try.func8, Try.ntmps8
  go_wp2_with (go_at_call 24; (with_reducible refine (enc_bad_b b l q cap HL.out e HE.out H0.out HR.out HF.out HS.out HK.out H.out).mono ?_); rintro e_ wn ⟨rfl, h⟩; replace H := Lib.hid h; clear h)
  go_ret
  exact ⟨_, _, rfl, FI.zero, FI.zero, H.out.drop⟩
theorem tal_point (b : BatS) (l : List (RecS × Value)) (q : Option Addr) (cap : Nat) (hl : l.map (·.1) = b.recs) (hR : b.R) (hf : FitW l) (hs : smallB b.recs = true) {W0 w : World} {K : Know} {L : List Res} (hk : K.has (Know.recs (.slice q l.length cap) l)) (h : St W0 w K L) :
    Calls Try.prog 8 #[.agg #[.int .i64 b.base, .int .i64 b.leader, .bool b.app, .bool b.txn, .bool b.ctl, .int .i64 b.last, .int .i64 b.first, .int .i64 b.maxt, .int .i64 b.prod, .int .i64 b.epoch, .int .i64 b.seq, .slice q l.length cap]] w fun en w' => ∃ x y : Nat, en = .returned (.complex .f64 x y) ∧ FI x (ptP b) ∧ FI y (ptQ b) ∧ St W0 w' K L := by
  by_cases he : batErr b = 0
  · exact tal_point_ok b l q cap hl (SmallOk.of hl.symm hf (by rw [hl]; exact hs) he hR) hk h
  · exact tal_point_bad b l q cap hl he hR hf hs hk h
theorem wholeV (x y : Int) (hx : Wh x) (hy : Wh y) {W0 w : World} {K : Know} {L : List Res} (h : St W0 w K L) :
    Calls Try.prog 9 #[.int .i64 x, .int .i64 y] w fun en w' => ∃ a c : Nat, en = .returned (.complex .f64 a c) ∧ FI a x ∧ FI c y ∧ St W0 w' K L := by
  refine (l24_whole x y h).mono ?_
  rintro e_ wn ⟨rfl, h2⟩
  exact ⟨_, _, rfl, FI.conv x hx, FI.conv y hy, h2⟩

end Go.Proofs.Ytedbadkfbkecbaa

/- Sizes of all batches. -/
namespace Go.Proofs.Ytedbadkfbkecbaa
open Go.RowKit

set_option maxHeartbeats 8000000 in
set_option maxRecDepth 100000 in
theorem tal_total (l : List BatR) (q : Option Addr) (cap : Nat) (hs : ∀ x ∈ l, SmB x) (hn : l.length ≤ 8) {W0 w : World} {K : Know} {L : List Res} (hk : K.has (Know.bats (.slice q l.length cap) l)) (h : St W0 w K L) :
    Calls Try.prog 10 #[.slice q l.length cap] w fun en w' => ∃ x y : Nat, en = .returned (.complex .f64 x y) ∧ FI x (sP l) ∧ FI y (sQ l) ∧ St W0 w' K L := by
  have H := Lib.hid h
  have HK := Lib.hid hk
  have HS := Lib.hid hs
  have hni : (l.length : Int) ≤ 8 := by omega
  clear h hk hs
  go_enter Try.func10, Try.ntmps10
  go_wp2
  go_loopw [3, 5, 8] (fun sv _ iv wr => ∃ (k X Y : Nat), k ≤ l.length ∧ iv = .int .i64 k ∧ sv = .complex .f64 X Y ∧ Hid (FI X (sP (l.take k))) ∧ Hid (FI Y (sQ (l.take k))) ∧ St W0 wr K L) (fun _ _ iv _ => l.length - (intOf iv).toNat)
  case atStart => exact ⟨0, 0, 0, Nat.zero_le _, rfl, rfl, Lib.hid FI.zero, Lib.hid FI.zero, H.out⟩
  case round =>
    obtain ⟨k, X, Y, hkl, rfl, rfl, FX, FY, hst⟩ := hrel
    clear H
    have H := Lib.hid hst
    clear hst
    by_cases hlt : k < l.length
    · as_aux_lemma =>
      obtain ⟨b0, off, hqq⟩ := bats_at HK.out H.out (by omega)
      subst hqq
      obtain ⟨x, hx⟩ : ∃ x, l[k] = x := ⟨_, rfl⟩
      have hmem : x ∈ l := hx ▸ List.getElem_mem hlt
      have hxk := bats_recs HK.out hmem
      have hcell := bats_cell HK.out H.out k hlt x hx
      obtain ⟨st1, st2, st3⟩ := sP_step l k hlt x hx
      have hfit := HS.out x hmem
      obtain ⟨b, xl, xq, xcap⟩ := x
      obtain ⟨c0, c1, c2, c3, c4, c5, c6, c7, c8, c9, c10, c11⟩ : wr.cell? ⟨b0, off + k * 12, none⟩ = some (.int .i64 b.base) ∧ wr.cell? ⟨b0, off + k * 12 + 1, none⟩ = some (.int .i64 b.leader) ∧ wr.cell? ⟨b0, off + k * 12 + 2, none⟩ = some (.bool b.app) ∧ wr.cell? ⟨b0, off + k * 12 + 3, none⟩ = some (.bool b.txn) ∧ wr.cell? ⟨b0, off + k * 12 + 4, none⟩ = some (.bool b.ctl) ∧ wr.cell? ⟨b0, off + k * 12 + 5, none⟩ = some (.int .i64 b.last) ∧ wr.cell? ⟨b0, off + k * 12 + 6, none⟩ = some (.int .i64 b.first) ∧ wr.cell? ⟨b0, off + k * 12 + 7, none⟩ = some (.int .i64 b.maxt) ∧ wr.cell? ⟨b0, off + k * 12 + 8, none⟩ = some (.int .i64 b.prod) ∧ wr.cell? ⟨b0, off + k * 12 + 9, none⟩ = some (.int .i64 b.epoch) ∧ wr.cell? ⟨b0, off + k * 12 + 10, none⟩ = some (.int .i64 b.seq) ∧ wr.cell? ⟨b0, off + k * 12 + 11, none⟩ = some (.slice xq xl.length xcap) := hcell
      have HXK := Lib.hid (show K.has (Know.recs (.slice xq xl.length xcap) xl) from hxk)
      have hkn : (k : Int) < (l.length : Int) := by omega
      obtain ⟨tb, htb⟩ : ∃ b, wr.heap.size = b := ⟨_, rfl⟩
      have h := H.out.allocRaw #[.int .i64 b.base, .int .i64 b.leader, .bool b.app, .bool b.txn, .bool b.ctl, .int .i64 b.last, .int .i64 b.first, .int .i64 b.maxt, .int .i64 b.prod, .int .i64 b.epoch, .int .i64 b.seq, .slice xq xl.length xcap] 26
      rw [htb] at h
      have d0 := h.rawCell 0; have d1 := h.rawCell 1; have d2 := h.rawCell 2; have d3 := h.rawCell 3; have d4 := h.rawCell 4; have d5 := h.rawCell 5; have d6 := h.rawCell 6; have d7 := h.rawCell 7; have d8 := h.rawCell 8; have d9 := h.rawCell 9; have d10 := h.rawCell 10; have d11 := h.rawCell 11; simp at d0 d1 d2 d3 d4 d5 d6 d7 d8 d9 d10 d11
      clear H
      have H := Lib.hid h
      have HRR := Lib.hid (show b.R from hfit.1.1)
      have HFW := Lib.hid (show FitW xl from hfit.1.2.1)
      have HXL := Lib.hid (show xl.map (·.1) = b.recs from hfit.1.2.2)
      have HSM := Lib.hid (show smallB b.recs = true by have h1 : smallB (xl.map (·.1)) = true := hfit.2; rw [HXL.out] at h1; exact h1)
      have hrg := sP_rng (l.take (k + 1)) (fun y hy => HS.out y (List.mem_of_mem_take hy))
      have hlen : (l.take (k + 1)).length ≤ 8 := by rw [List.length_take]; omega
      have S1 := Lib.hid st1
      have S2 := Lib.hid st2
      have WX := Lib.hid (show Wh (sP (l.take k) + ptP b) by have h1 : sP (l.take (k + 1)) = sP (l.take k) + ptP b := st1; rw [← h1]; unfold Wh; omega)
      have WY := Lib.hid (show Wh (sQ (l.take k) + ptQ b) by have h1 : sQ (l.take (k + 1)) = sQ (l.take k) + ptQ b := st2; rw [← h1]; unfold Wh; omega)
      clear h hx hmem hxk st1 st2 st3 hfit hrg hlen
      go_wp2_with (go_at_call 8; (with_reducible refine (tal_point b xl xq xcap HXL.out HRR.out HFW.out HSM.out HXK.out H.out).mono ?_); rintro e_ wn ⟨x2, y2, rfl, hx2, hy2, h⟩; obtain ⟨x3, ex, fx⟩ := FI.add FX.out hx2 WX.out; obtain ⟨y3, ey, fy⟩ := FI.add FY.out hy2 WY.out; have hadd := run_cadd 29 ex ey; have FX3 := Lib.hid fx; have FY3 := Lib.hid fy; clear ex ey fx fy hx2 hy2; replace H := Lib.hid h; clear h)
      go_roundw
      case rel => exact ⟨k + 1, x3, y3, hlt, by go_num, rfl, Lib.hid (by rw [S1.out]; exact FX3.out), Lib.hid (by rw [S2.out]; exact FY3.out), H.out.drop⟩
      case measure => first | (simp [intOf]; done) | (simp [intOf]; omega)
    · obtain rfl : k = l.length := by omega
      have e := List.take_length (l := l)
      have h1 := FX.out
      have h2 := FY.out
      rw [e] at h1 h2
      have FX2 := Lib.hid h1
      have FY2 := Lib.hid h2
      clear h1 h2 e
      go_wp2
      go_ret
      exact ⟨X, Y, rfl, FX2.out, FY2.out, H.out⟩

end Go.Proofs.Ytedbadkfbkecbaa

/- Layer 24: three sizes. -/
namespace Go.Proofs.Ytedbadkfbkecbaa
open Go.RowKit

theorem tal_quarterN (k : Int) (l : List Int) (n : Nat) (hn : l.length = n) (q0 : Option Addr) (cap : Nat) (hl : Lim 2147483648 l) (hn2 : n ≤ 1000) {W0 w : World} {K : Know} {L : List Res} (hk : K.has (Know.flat RIt (.slice q0 n cap) 1 l)) (h : St W0 w K L) :
    Calls Try.prog 11 #[.int .i64 k, .slice q0 n cap] w fun en w' => ∃ x y, en = .returned (.complex .f64 x y) ∧ FI x (qa k l n).1 ∧ FI y (qa k l n).2 ∧ St W0 w' K L := by
  subst hn
  exact tal_quarter k l q0 cap hl hn2 hk h
theorem tal_quartersN (l : List Int) (n : Nat) (hn : l.length = n) (q0 : Option Addr) (cap : Nat) (hl : Lim 2147483648 l) (hn2 : n ≤ 1000) {W0 w : World} {K : Know} {L : List Res} (hk : K.has (Know.flat RIt (.slice q0 n cap) 1 l)) (h : St W0 w K L) :
    Calls Try.prog 14 #[.slice q0 n cap] w fun en w' => ∃ z : Nat → Nat × Nat, en = .returned (.agg #[.complex .f64 (z 0).1 (z 0).2, .complex .f64 (z 1).1 (z 1).2, .complex .f64 (z 2).1 (z 2).2, .complex .f64 (z 3).1 (z 3).2]) ∧ (∀ j, j < 4 → FI (z j).1 (qa j l n).1 ∧ FI (z j).2 (qa j l n).2) ∧ St W0 w' K L := by
  subst hn
  exact tal_quarters l q0 cap hl hn2 hk h
theorem tal_backN (l : List Int) (n : Nat) (hn : l.length = n) (z : Nat → Nat × Nat) (c : Array Value) (hc : cells4 (fun p => sm l p n) = c) (hl : Lim 2147483648 l) (hn2 : n ≤ 1000) (hz : ∀ j, j < 4 → FI (z j).1 (qa j l n).1 ∧ FI (z j).2 (qa j l n).2) {W0 w : World} {K : Know} {L : List Res} (h : St W0 w K L) :
    Calls Try.prog 13 #[.agg #[.complex .f64 (z 0).1 (z 0).2, .complex .f64 (z 1).1 (z 1).2, .complex .f64 (z 2).1 (z 2).2, .complex .f64 (z 3).1 (z 3).2]] w fun en w' => en = .returned (.agg c) ∧ St W0 w' K L := by
  subst hn
  subst hc
  exact tal_back z _ _ (fun p => sm l p l.length) hz (qa_lim4 l hl hn2) (fun p hp => bq_div l p hp) h
set_option maxHeartbeats 1000000 in
set_option maxRecDepth 100000 in
theorem eq4_run (a b c d : Int) (w : World) : (Op.equalIn 10000 36 (.agg #[.int .i64 a, .int .i64 b, .int .i64 c, .int .i64 d]) (.agg #[.int .i64 a, .int .i64 b, .int .i64 c, .int .i64 d])).run Try.prog w = .ok true w := by
  obtain ⟨i, hi⟩ : ∃ i, Try.prog.info? 3 = some i := Option.isSome_iff_exists.1 (by kernel_rfl)
  have hc : Try.prog.cellsOf 3 = 1 := by kernel_rfl
  have r4 : List.range 4 = [0, 1, 2, 3] := rfl
  rw [run_equalIn_array w 9999 _ _ Try.underlying36 hi, hc, r4]
  simp [Op.eqItems, part, isAgg, run_underlying Try.underlying3, run_equalIn_int _ _ _ .i64 .i64 _ _ Try.underlying3]
theorem s24_q : qa 1 [5, 3, 2] 3 = (3, 3) := by decide
theorem s24_lim1 : Lim 2147483648 [5, 3, 2] := by unfold Lim; decide
theorem s24_lim2 : Lim 2147483648 [5, 3, 2, 0, 4] := by unfold Lim; decide
theorem s24_b : cells4 (fun p => sm [5, 3, 2, 0, 4] p 5) = #[.int .i64 9, .int .i64 3, .int .i64 2, .int .i64 0] := rfl
set_option maxHeartbeats 1000000 in
set_option maxRecDepth 100000 in
theorem speaks24 {W0 w : World} {K : Know} {L : List Res} (h : St W0 w K L) :
    Calls Try.prog 4 #[] w fun en w' => en = .returned (.bool true) ∧ ∃ K2 : Know, K2.has K ∧ St W0 w' K2 L := by
  have h1 := (show St W0 _ (Know.and _ (Know.flat RIt (.slice (some ⟨_, 0, none⟩) 3 3) 1 [5, 3, 2])) _ from (h.rowLit [.int .i64 5, .int .i64 3, .int .i64 2] 3 1 3 rfl (by decide)).freezeRow (R := RIt) (l := [5, 3, 2]) (f := fun x => [.int .i64 x]) (fun x _ => ⟨rfl, rfl⟩))
  have H := Lib.hid h1
  have he4 := eq4_run 9 3 2 0
  clear h h1
  go_enter Try.func4, Try.ntmps4
  go_wp2_with (first
    | (go_at_call 11; (with_reducible refine (tal_quarterN 1 [5, 3, 2] 3 rfl _ _ s24_lim1 (by decide) (Know.has_right (Know.has_refl _)) H.out).mono ?_); rintro e_ wn ⟨x, y, rfl, hx, hy, h⟩; rw [s24_q] at hx hy; have hc1 := ceq_run 29 hx hy FI_3 FI_3 true rfl; clear hx hy; replace H := Lib.hid h; clear h)
    | (go_at_call 12; (with_reducible refine (tal_turn 4607182418800017408 0 1 0 FI_1 FI.zero (-1) 3 (by decide) H.out).mono ?_); rintro e_ wn ⟨x, y, rfl, hx, hy, h⟩; have hc2 := ceq_run 29 hx hy FI.zero FI_m1 true rfl; clear hx hy; have h := (show St W0 _ (Know.and _ (Know.flat RIt (.slice (some ⟨_, 0, none⟩) 5 5) 1 [5, 3, 2, 0, 4])) _ from (h.rowLit [.int .i64 5, .int .i64 3, .int .i64 2, .int .i64 0, .int .i64 4] 3 1 5 rfl (by decide)).freezeRow (R := RIt) (l := [5, 3, 2, 0, 4]) (f := fun x => [.int .i64 x]) (fun x _ => ⟨rfl, rfl⟩)); replace H := Lib.hid h; clear h)
    | (go_at_call 14; (with_reducible refine (tal_quartersN [5, 3, 2, 0, 4] 5 rfl _ _ s24_lim2 (by decide) (Know.has_right (Know.has_refl _)) H.out).mono ?_); rintro e_ wn ⟨z, rfl, hz, h⟩; have HZ := Lib.hid hz; clear hz; replace H := Lib.hid h; clear h)
    | (go_at_call 13; (with_reducible refine (tal_backN [5, 3, 2, 0, 4] 5 rfl z _ s24_b s24_lim2 (by decide) HZ.out H.out).mono ?_); rintro e_ wn ⟨rfl, h⟩; replace H := Lib.hid h; clear h))
  go_ret
  exact ⟨rfl, _, Know.has_left (Know.has_left (Know.has_refl _)), H.out⟩

end Go.Proofs.Ytedbadkfbkecbaa

/- TallyPoints, any. -/
namespace Go.Proofs.Ytedbadkfbkecbaa
open Go.RowKit

set_option maxHeartbeats 12000000 in
set_option maxRecDepth 100000 in
theorem tp_long (l : List BatR) (q : Option Addr) (cap : Nat) (hn : 8 < l.length) {W0 w : World} {K : Know} {L : List Res} (hk : K.has (Know.bats (.slice q l.length cap) l)) (h : St W0 w K L) :
    Calls Try.prog 3 #[.slice q l.length cap] w fun en w' => en = .returned (.bool true) ∧ Below W0.heap.size W0 w' := by
  have H := Lib.hid h
  have hni : 8 < (l.length : Int) := by omega
  clear h hk
  go_enter Try.func3, Try.ntmps3
  go_wp2_with (go_at_call 4; (with_reducible refine (speaks24 H.out).mono ?_); rintro e_ wn ⟨rfl, K2, hk2, h⟩; replace h := h.know hk2; clear hk2; replace H := Lib.hid h; clear h)
  go_ret
  exact ⟨rfl, H.out.below⟩
set_option maxHeartbeats 12000000 in
set_option maxRecDepth 100000 in
theorem tp_main (l : List BatR) (q : Option Addr) (cap : Nat) (hn : l.length ≤ 8) (hf : ∀ x ∈ l, x.Fit) {W0 w : World} {K : Know} {L : List Res} (hk : K.has (Know.bats (.slice q l.length cap) l)) (h : St W0 w K L) :
    Calls Try.prog 3 #[.slice q l.length cap] w fun en w' => en = .returned (.bool true) ∧ Below W0.heap.size W0 w' := by
  have H := Lib.hid h
  have HK := Lib.hid hk
  have HF := Lib.hid hf
  have hni : ¬ 8 < (l.length : Int) := by omega
  have hnj : (l.length : Int) ≤ 8 := by omega
  clear h hk hf
  go_enter Try.func3, Try.ntmps3
  go_wp2_with (go_at_call 4; (with_reducible refine (speaks24 H.out).mono ?_); rintro e_ wn ⟨rfl, K2, hk2, h⟩; replace h := h.know hk2; clear hk2; replace H := Lib.hid h; clear h)
  go_loopw [3, 4, 6, 7, 8, 16] (fun xv yv _ _ _ iv wr => ∃ (k : Nat) (X Y : Int), k ≤ l.length ∧ iv = .int .i64 k ∧ xv = .int .i64 X ∧ yv = .int .i64 Y ∧ Hid (X = sP (l.take k)) ∧ Hid (Y = sQ (l.take k)) ∧ Hid (∀ x ∈ l.take k, SmB x) ∧ St W0 wr K L) (fun _ _ _ _ _ iv _ => l.length - (intOf iv).toNat)
  case atStart => exact ⟨0, 0, 0, Nat.zero_le _, rfl, rfl, rfl, Lib.hid rfl, Lib.hid rfl, Lib.hid (fun x hx => by rw [List.take_zero] at hx; cases hx), H.out⟩
  case round =>
    obtain ⟨k, X, Y, hkl, rfl, rfl, rfl, HXX, HYY, HA, hst⟩ := hrel
    clear H
    have H := Lib.hid hst
    clear hst
    have hrg := sP_rng (l.take k) HA.out
    have hlen : (l.take k).length ≤ 8 := by rw [List.length_take]; omega
    have hXr : 0 ≤ X ∧ X ≤ 4000000 := by have := HXX.out; omega
    have hYr : 0 ≤ Y ∧ Y ≤ 4000000 := by have := HYY.out; omega
    have WXY := Lib.hid (show Wh X ∧ Wh Y by unfold Wh; omega)
    clear hrg hlen
    by_cases hlt : k < l.length
    · as_aux_lemma =>
      obtain ⟨b0, off, hqq⟩ := bats_at HK.out H.out (by omega)
      subst hqq
      obtain ⟨x, hx⟩ : ∃ x, l[k] = x := ⟨_, rfl⟩
      have hmem : x ∈ l := hx ▸ List.getElem_mem hlt
      have hxk := bats_recs HK.out hmem
      have hcell := bats_cell HK.out H.out k hlt x hx
      obtain ⟨st1, st2, st3⟩ := sP_step l k hlt x hx
      have hfit := HF.out x hmem
      obtain ⟨b, xl, xq, xcap⟩ := x
      obtain ⟨c0, c1, c2, c3, c4, c5, c6, c7, c8, c9, c10, c11⟩ : wr.cell? ⟨b0, off + k * 12, none⟩ = some (.int .i64 b.base) ∧ wr.cell? ⟨b0, off + k * 12 + 1, none⟩ = some (.int .i64 b.leader) ∧ wr.cell? ⟨b0, off + k * 12 + 2, none⟩ = some (.bool b.app) ∧ wr.cell? ⟨b0, off + k * 12 + 3, none⟩ = some (.bool b.txn) ∧ wr.cell? ⟨b0, off + k * 12 + 4, none⟩ = some (.bool b.ctl) ∧ wr.cell? ⟨b0, off + k * 12 + 5, none⟩ = some (.int .i64 b.last) ∧ wr.cell? ⟨b0, off + k * 12 + 6, none⟩ = some (.int .i64 b.first) ∧ wr.cell? ⟨b0, off + k * 12 + 7, none⟩ = some (.int .i64 b.maxt) ∧ wr.cell? ⟨b0, off + k * 12 + 8, none⟩ = some (.int .i64 b.prod) ∧ wr.cell? ⟨b0, off + k * 12 + 9, none⟩ = some (.int .i64 b.epoch) ∧ wr.cell? ⟨b0, off + k * 12 + 10, none⟩ = some (.int .i64 b.seq) ∧ wr.cell? ⟨b0, off + k * 12 + 11, none⟩ = some (.slice xq xl.length xcap) := hcell
      have HXK := Lib.hid (show K.has (Know.recs (.slice xq xl.length xcap) xl) from hxk)
      have hkn : (k : Int) < (l.length : Int) := by omega
      obtain ⟨tb, htb⟩ : ∃ b, wr.heap.size = b := ⟨_, rfl⟩
      have h := H.out.allocRaw #[.int .i64 b.base, .int .i64 b.leader, .bool b.app, .bool b.txn, .bool b.ctl, .int .i64 b.last, .int .i64 b.first, .int .i64 b.maxt, .int .i64 b.prod, .int .i64 b.epoch, .int .i64 b.seq, .slice xq xl.length xcap] 26
      rw [htb] at h
      have d0 := h.rawCell 0; have d1 := h.rawCell 1; have d2 := h.rawCell 2; have d3 := h.rawCell 3; have d4 := h.rawCell 4; have d5 := h.rawCell 5; have d6 := h.rawCell 6; have d7 := h.rawCell 7; have d8 := h.rawCell 8; have d9 := h.rawCell 9; have d10 := h.rawCell 10; have d11 := h.rawCell 11; simp at d0 d1 d2 d3 d4 d5 d6 d7 d8 d9 d10 d11
      clear H
      have H := Lib.hid h
      have HRR := Lib.hid (show b.R from hfit.1)
      have HFW := Lib.hid (show FitW xl from hfit.2.1)
      have HXL := Lib.hid (show xl.map (·.1) = b.recs from hfit.2.2)
      have S1 := Lib.hid st1
      have S2 := Lib.hid st2
      have S3 := Lib.hid st3
      cases hsm : smallB b.recs with
      | false =>
        have HSM := Lib.hid hsm
        clear h hx hmem hxk st1 st2 st3 hfit hsm
        go_wp2_with (go_at_call 5; clear d0 d1 d2 d3 d4 d5 d6 d7 d8 d9 d10 d11; (with_reducible refine (small_b b xl xq xcap HXL.out false HSM.out HFW.out HXK.out H.out).mono ?_); rintro e_ wn ⟨rfl, h⟩; have d0 := h.rawCell 0; have d1 := h.rawCell 1; have d2 := h.rawCell 2; have d3 := h.rawCell 3; have d4 := h.rawCell 4; have d5 := h.rawCell 5; have d6 := h.rawCell 6; have d7 := h.rawCell 7; have d8 := h.rawCell 8; have d9 := h.rawCell 9; have d10 := h.rawCell 10; have d11 := h.rawCell 11; simp at d0 d1 d2 d3 d4 d5 d6 d7 d8 d9 d10 d11; replace H := Lib.hid h; clear h)
        go_ret
        exact ⟨rfl, H.out.below⟩
      | true =>
        have HSM := Lib.hid hsm
        have hsb : SmB ⟨b, xl, xq, xcap⟩ := ⟨hfit, by show smallB (xl.map (·.1)) = true; rw [HXL.out]; exact hsm⟩
        have HSB := Lib.hid hsb
        have hpr := pt_rng _ hsb
        obtain ⟨e, he⟩ : ∃ e, batErr b = e := ⟨_, rfl⟩
        have HE := Lib.hid he
        by_cases h0 : e = 0
        · as_aux_lemma =>
          subst h0
          have so : SmallOk b := SmallOk.of HXL.out.symm HFW.out (by rw [HXL.out]; exact hsm) he HRR.out
          have HSO := Lib.hid so
          obtain ⟨s, hs⟩ : ∃ s, b.enc = s := ⟨_, rfl⟩
          have HS := Lib.hid hs
          have hp : ptP b = (s.length : Int) := by unfold ptP; rw [if_pos he, hs]
          have hq : ptQ b = (xl.length : Int) := by unfold ptQ; rw [if_pos he]; exact recs_len HXL.out
          have HPP := Lib.hid hp
          have HQQ := Lib.hid hq
          have hpr2 : (s.length : Int) ≤ 401000 ∧ (xl.length : Int) ≤ 12 := by have h1 : (0 ≤ ptP b ∧ ptP b ≤ 401000) ∧ (0 ≤ ptQ b ∧ ptQ b ≤ 12) := hpr; rw [hp, hq] at h1; omega
          have WP := Lib.hid (show Wh (s.length : Int) by unfold Wh; omega)
          have WQ := Lib.hid (show Wh (xl.length : Int) by unfold Wh; omega)
          have hs1 : (s.length : Int) ≤ 401000 := hpr2.1
          have hs2 : (xl.length : Int) ≤ 12 := hpr2.2
          have hwx : IntKind.i64.wrap (X + (s.length : Int)) = X + (s.length : Int) := by rw [IntKind.wrap_i64]; omega
          have hwy : IntKind.i64.wrap (Y + (xl.length : Int)) = Y + (xl.length : Int) := by rw [IntKind.wrap_i64]; omega
          clear h hx hmem hxk st1 st2 st3 hfit hsm hsb hpr he so hs hp hq hpr2
          go_upto_region 13 with (first
    | (go_at_call 5; clear d0 d1 d2 d3 d4 d5 d6 d7 d8 d9 d10 d11; (with_reducible refine (small_b b xl xq xcap HXL.out true HSM.out HFW.out HXK.out H.out).mono ?_); rintro e_ wn ⟨rfl, h⟩; have d0 := h.rawCell 0; have d1 := h.rawCell 1; have d2 := h.rawCell 2; have d3 := h.rawCell 3; have d4 := h.rawCell 4; have d5 := h.rawCell 5; have d6 := h.rawCell 6; have d7 := h.rawCell 7; have d8 := h.rawCell 8; have d9 := h.rawCell 9; have d10 := h.rawCell 10; have d11 := h.rawCell 11; simp at d0 d1 d2 d3 d4 d5 d6 d7 d8 d9 d10 d11; replace H := Lib.hid h; clear h)
    | (go_at_call 6; clear d0 d1 d2 d3 d4 d5 d6 d7 d8 d9 d10 d11; (with_reducible refine (rcheck_b b xl xq xcap HXL.out 0 HE.out HRR.out HFW.out HSM.out HXK.out H.out).mono ?_); rintro e_ wn ⟨rfl, h⟩; have d0 := h.rawCell 0; have d1 := h.rawCell 1; have d2 := h.rawCell 2; have d3 := h.rawCell 3; have d4 := h.rawCell 4; have d5 := h.rawCell 5; have d6 := h.rawCell 6; have d7 := h.rawCell 7; have d8 := h.rawCell 8; have d9 := h.rawCell 9; have d10 := h.rawCell 10; have d11 := h.rawCell 11; simp at d0 d1 d2 d3 d4 d5 d6 d7 d8 d9 d10 d11; replace H := Lib.hid h; clear h))
          clear d0 d1 d2 d3 d4 d5 d6 d7 d8 d9 d10 d11
          have hs := H.out.drew
          have HKQ := Lib.hid (show ∀ w', St W0 w' K (.raw tb #[.int .i64 b.base, .int .i64 b.leader, .bool b.app, .bool b.txn, .bool b.ctl, .int .i64 b.last, .int .i64 b.first, .int .i64 b.maxt, .int .i64 b.prod, .int .i64 b.epoch, .int .i64 b.seq, .slice xq xl.length xcap] 26 :: L) → (w'.cell? ⟨tb, 0, none⟩ = some (.int .i64 b.base) ∧ w'.cell? ⟨tb, 1, none⟩ = some (.int .i64 b.leader) ∧ w'.cell? ⟨tb, 2, none⟩ = some (.bool b.app) ∧ w'.cell? ⟨tb, 3, none⟩ = some (.bool b.txn) ∧ w'.cell? ⟨tb, 4, none⟩ = some (.bool b.ctl) ∧ w'.cell? ⟨tb, 5, none⟩ = some (.int .i64 b.last) ∧ w'.cell? ⟨tb, 6, none⟩ = some (.int .i64 b.first) ∧ w'.cell? ⟨tb, 7, none⟩ = some (.int .i64 b.maxt) ∧ w'.cell? ⟨tb, 8, none⟩ = some (.int .i64 b.prod) ∧ w'.cell? ⟨tb, 9, none⟩ = some (.int .i64 b.epoch) ∧ w'.cell? ⟨tb, 10, none⟩ = some (.int .i64 b.seq) ∧ w'.cell? ⟨tb, 11, none⟩ = some (.slice xq xl.length xcap)) from fun w' hs => ⟨hs.rawCell 0, hs.rawCell 1, hs.rawCell 2, hs.rawCell 3, hs.rawCell 4, hs.rawCell 5, hs.rawCell 6, hs.rawCell 7, hs.rawCell 8, hs.rawCell 9, hs.rawCell 10, hs.rawCell 11⟩)
          refine wp_region_held_drew (S := fun w' => w'.cell? ⟨tb, 0, none⟩ = some (.int .i64 b.base) ∧ w'.cell? ⟨tb, 1, none⟩ = some (.int .i64 b.leader) ∧ w'.cell? ⟨tb, 2, none⟩ = some (.bool b.app) ∧ w'.cell? ⟨tb, 3, none⟩ = some (.bool b.txn) ∧ w'.cell? ⟨tb, 4, none⟩ = some (.bool b.ctl) ∧ w'.cell? ⟨tb, 5, none⟩ = some (.int .i64 b.last) ∧ w'.cell? ⟨tb, 6, none⟩ = some (.int .i64 b.first) ∧ w'.cell? ⟨tb, 7, none⟩ = some (.int .i64 b.maxt) ∧ w'.cell? ⟨tb, 8, none⟩ = some (.int .i64 b.prod) ∧ w'.cell? ⟨tb, 9, none⟩ = some (.int .i64 b.epoch) ∧ w'.cell? ⟨tb, 10, none⟩ = some (.int .i64 b.seq) ∧ w'.cell? ⟨tb, 11, none⟩ = some (.slice xq xl.length xcap)) (by kernel_rfl) (HKQ.out _ hs) (fun hHeld => ?_)
          refine wpAnyH_take (i := 0) (oi := { dst := some 26, op := Op.load 26 (Operand.tmp 6), type := 26, pos := "law.go:45", after := #[], guard := none }) (v := ?_) rfl (by kernel_rfl) (by kernel_rfl) (by kernel_rfl) (fun _ _ _ h => h) (Or.inl ⟨by rfl, ?_⟩) (by assumption) ?_
          rotate_left
          · intro w hSw; (try dsimp only at hSw); go_simp; try with_reducible rfl
          simp only [Act.put, List.setIfInBounds_toArray, List.set_cons_zero, List.set_cons_succ]
          refine wpAnyH_take (i := 3) (oi := { dst := some 29, op := Op.fieldAddr 26 (Operand.tmp 6) 11, type := 0, pos := "law.go:45", after := #[], guard := none }) (v := ?_) rfl (by kernel_rfl) (by kernel_rfl) (by kernel_rfl) (fun _ _ _ h => h) (Or.inl ⟨by rfl, ?_⟩) (by assumption) ?_
          rotate_left
          · intro w hSw; (try dsimp only at hSw); go_simp; try with_reducible rfl
          simp only [Act.put, List.setIfInBounds_toArray, List.set_cons_zero, List.set_cons_succ]
          refine wpAnyH_take (i := 4) (oi := { dst := some 30, op := Op.load 24 (Operand.tmp 29), type := 24, pos := "law.go:45", after := #[{ on := 3, ground := Ground.data }], guard := none }) (v := ?_) rfl (by kernel_rfl) (by kernel_rfl) (by kernel_rfl) (fun _ _ _ h => h) (Or.inl ⟨by rfl, ?_⟩) (by assumption) ?_
          rotate_left
          · intro w hSw; (try dsimp only at hSw); go_simp; try with_reducible rfl
          simp only [Act.put, List.setIfInBounds_toArray, List.set_cons_zero, List.set_cons_succ]
          refine wpAnyH_take (i := 5) (oi := { dst := some 31, op := Op.call { callee := Callee.builtin Builtin.len, args := #[Operand.tmp 30], argTypes := #[24] }, type := 3, pos := "law.go:45", after := #[{ on := 4, ground := Ground.data }], guard := none }) (v := ?_) rfl (by kernel_rfl) (by kernel_rfl) (by kernel_rfl) (fun _ _ _ h => h) (Or.inl ⟨by rfl, ?_⟩) (by assumption) ?_
          rotate_left
          · intro w hSw; (try dsimp only at hSw); go_simp; try with_reducible rfl
          simp only [Act.put, List.setIfInBounds_toArray, List.set_cons_zero, List.set_cons_succ]
          refine wpAnyH_ready (rs := [1]) (by kernel_rfl) (by simp) (AllReadyH.cons (o := { dst := some 27, op := Op.call { callee := Callee.value (Operand.func 7), args := #[Operand.tmp 26], argTypes := #[26] }, type := 9, pos := "law.go:45", after := #[{ on := 0, ground := Ground.data }], guard := none }) rfl (fun KK hK => ?_) AllReadyH.nil)
          · go_simp
            go_at_call 7
            with_reducible refine (renc_b b xl xq xcap HXL.out s HS.out HSO.out HXK.out hs).mono ?_
            rintro e wq ⟨rfl, hs⟩
            refine hK.out _ _ (HKQ.out _ hs) (fun hHeld => ?_)
            clear hK KK
            try simp only [Act.put, List.setIfInBounds_toArray, List.set_cons_zero, List.set_cons_succ]
            refine wpAnyH_take (i := 2) (oi := { dst := some 28, op := Op.call { callee := Callee.builtin Builtin.len, args := #[Operand.tmp 27], argTypes := #[9] }, type := 3, pos := "law.go:45", after := #[{ on := 1, ground := Ground.data }], guard := none }) (v := ?_) rfl (by kernel_rfl) (by kernel_rfl) (by kernel_rfl) (fun _ _ _ h => h) (Or.inl ⟨by rfl, ?_⟩) (by assumption) ?_
            rotate_left
            · intro w hSw; (try dsimp only at hSw); go_simp; try with_reducible rfl
            simp only [Act.put, List.setIfInBounds_toArray, List.set_cons_zero, List.set_cons_succ]
            refine wpAnyH_take (i := 6) (oi := { dst := some 7, op := Op.assign (Operand.tmp 28), type := 3, pos := "law.go:45", after := #[{ on := 2, ground := Ground.data }, { on := 1, ground := Ground.chain }, { on := 0, ground := Ground.phase }, { on := 1, ground := Ground.phase }, { on := 2, ground := Ground.phase }, { on := 3, ground := Ground.textOnly Departure.lateStores }, { on := 4, ground := Ground.textOnly Departure.lateStores }, { on := 5, ground := Ground.textOnly Departure.lateStoresUnsure }], guard := none }) (v := ?_) rfl (by kernel_rfl) (by kernel_rfl) (by kernel_rfl) (fun _ _ _ h => h) (Or.inl ⟨by rfl, ?_⟩) (by assumption) ?_
            rotate_left
            · intro w hSw; (try dsimp only at hSw); go_simp; try with_reducible rfl
            simp only [Act.put, List.setIfInBounds_toArray, List.set_cons_zero, List.set_cons_succ]
            refine wpAnyH_take (i := 7) (oi := { dst := some 8, op := Op.assign (Operand.tmp 31), type := 3, pos := "law.go:45", after := #[{ on := 5, ground := Ground.data }, { on := 6, ground := Ground.chain }, { on := 0, ground := Ground.phase }, { on := 1, ground := Ground.phase }, { on := 2, ground := Ground.phase }, { on := 3, ground := Ground.phase }, { on := 4, ground := Ground.phase }, { on := 5, ground := Ground.phase }, { on := 6, ground := Ground.phase }], guard := none }) (v := ?_) rfl (by kernel_rfl) (by kernel_rfl) (by kernel_rfl) (fun _ _ _ h => h) (Or.inl ⟨by rfl, ?_⟩) (by assumption) ?_
            rotate_left
            · intro w hSw; (try dsimp only at hSw); go_simp; try with_reducible rfl
            simp only [Act.put, List.setIfInBounds_toArray, List.set_cons_zero, List.set_cons_succ]
            refine wpAnyH_done (by kernel_rfl) ?_ _
            clear hHeld
            have d0 := hs.rawCell 0
            have d1 := hs.rawCell 1
            have d2 := hs.rawCell 2
            have d3 := hs.rawCell 3
            have d4 := hs.rawCell 4
            have d5 := hs.rawCell 5
            have d6 := hs.rawCell 6
            have d7 := hs.rawCell 7
            have d8 := hs.rawCell 8
            have d9 := hs.rawCell 9
            have d10 := hs.rawCell 10
            have d11 := hs.rawCell 11
            simp at d0 d1 d2 d3 d4 d5 d6 d7 d8 d9 d10 d11
            have H := Lib.hid hs
            clear hs
            go_wp2_with (first
    | (go_at_call 8; (with_reducible refine (tal_point b xl xq xcap HXL.out HRR.out HFW.out HSM.out HXK.out H.out).mono ?_); rintro e_ wn ⟨x2, y2, rfl, hx2, hy2, h⟩; rw [HPP.out] at hx2; rw [HQQ.out] at hy2; have FX2 := Lib.hid hx2; have FY2 := Lib.hid hy2; clear hx2 hy2; replace H := Lib.hid h; clear h)
    | (go_at_call 9; (with_reducible refine (wholeV (s.length : Int) (xl.length : Int) WP.out WQ.out H.out).mono ?_); rintro e_ wn ⟨x3, y3, rfl, hx3, hy3, h⟩; have cn := cne_run 29 FX2.out FY2.out hx3 hy3 false (by simp); clear hx3 hy3; replace H := Lib.hid h; clear h))
            go_roundw
            case rel => exact ⟨k + 1, X + (s.length : Int), Y + (xl.length : Int), hlt, by go_num, by first | rfl | go_num, by first | rfl | go_num, Lib.hid (by rw [S1.out, HXX.out, HPP.out]), Lib.hid (by rw [S2.out, HYY.out, HQQ.out]), Lib.hid (by
              rw [S3.out]
              intro y hy
              rcases List.mem_append.1 hy with hy | hy
              · exact HA.out y hy
              · rw [List.mem_singleton.1 hy]; exact HSB.out), H.out.drop⟩
            case measure => first | (simp [intOf]; done) | (simp [intOf]; omega)
        · as_aux_lemma =>
          have hp : ptP b = 0 := by unfold ptP; rw [if_neg (by rw [he]; exact h0)]
          have hq : ptQ b = 0 := by unfold ptQ; rw [if_neg (by rw [he]; exact h0)]
          have HPP := Lib.hid hp
          have HQQ := Lib.hid hq
          have g1 : (e == 0) = false := by rw [beq_eq_false_iff_ne]; exact h0
          have g2 : (e != 0) = true := by simp [bne, g1]
          have WP := Lib.hid (show Wh 0 by unfold Wh; omega)
          have WQ := Lib.hid (show Wh 0 by unfold Wh; omega)
          have hwx : IntKind.i64.wrap X = X := by rw [IntKind.wrap_i64]; omega
          have hwy : IntKind.i64.wrap Y = Y := by rw [IntKind.wrap_i64]; omega
          clear h hx hmem hxk st1 st2 st3 hfit hsm hsb hpr he h0 hp hq
          go_wp2_with (first
    | (go_at_call 5; clear d0 d1 d2 d3 d4 d5 d6 d7 d8 d9 d10 d11; (with_reducible refine (small_b b xl xq xcap HXL.out true HSM.out HFW.out HXK.out H.out).mono ?_); rintro e_ wn ⟨rfl, h⟩; have d0 := h.rawCell 0; have d1 := h.rawCell 1; have d2 := h.rawCell 2; have d3 := h.rawCell 3; have d4 := h.rawCell 4; have d5 := h.rawCell 5; have d6 := h.rawCell 6; have d7 := h.rawCell 7; have d8 := h.rawCell 8; have d9 := h.rawCell 9; have d10 := h.rawCell 10; have d11 := h.rawCell 11; simp at d0 d1 d2 d3 d4 d5 d6 d7 d8 d9 d10 d11; replace H := Lib.hid h; clear h)
    | (go_at_call 6; clear d0 d1 d2 d3 d4 d5 d6 d7 d8 d9 d10 d11; (with_reducible refine (rcheck_b b xl xq xcap HXL.out e HE.out HRR.out HFW.out HSM.out HXK.out H.out).mono ?_); rintro e_ wn ⟨rfl, h⟩; have d0 := h.rawCell 0; have d1 := h.rawCell 1; have d2 := h.rawCell 2; have d3 := h.rawCell 3; have d4 := h.rawCell 4; have d5 := h.rawCell 5; have d6 := h.rawCell 6; have d7 := h.rawCell 7; have d8 := h.rawCell 8; have d9 := h.rawCell 9; have d10 := h.rawCell 10; have d11 := h.rawCell 11; simp at d0 d1 d2 d3 d4 d5 d6 d7 d8 d9 d10 d11; replace H := Lib.hid h; clear h)
    | (go_at_call 8; (with_reducible refine (tal_point b xl xq xcap HXL.out HRR.out HFW.out HSM.out HXK.out H.out).mono ?_); rintro e_ wn ⟨x2, y2, rfl, hx2, hy2, h⟩; rw [HPP.out] at hx2; rw [HQQ.out] at hy2; have FX2 := Lib.hid hx2; have FY2 := Lib.hid hy2; clear hx2 hy2; replace H := Lib.hid h; clear h)
    | (go_at_call 9; (with_reducible refine (wholeV 0 0 WP.out WQ.out H.out).mono ?_); rintro e_ wn ⟨x3, y3, rfl, hx3, hy3, h⟩; have cn := cne_run 29 FX2.out FY2.out hx3 hy3 false (by simp); clear hx3 hy3; replace H := Lib.hid h; clear h))
          go_roundw
          case rel => exact ⟨k + 1, X + 0, Y + 0, hlt, by go_num, by first | rfl | go_num, by first | rfl | go_num, Lib.hid (by rw [S1.out, HXX.out, HPP.out]), Lib.hid (by rw [S2.out, HYY.out, HQQ.out]), Lib.hid (by
            rw [S3.out]
            intro y hy
            rcases List.mem_append.1 hy with hy | hy
            · exact HA.out y hy
            · rw [List.mem_singleton.1 hy]; exact HSB.out), H.out.drop⟩
          case measure => first | (simp [intOf]; done) | (simp [intOf]; omega)
    · as_aux_lemma =>
      obtain rfl : k = l.length := by omega
      have e := List.take_length (l := l)
      have h1 := HXX.out
      have h2 := HYY.out
      have h3 := HA.out
      rw [e] at h1 h2 h3
      have HX2 := Lib.hid h1.symm
      have HY2 := Lib.hid h2.symm
      have HA2 := Lib.hid h3
      have HN := Lib.hid hn
      clear h1 h2 h3 e hn
      go_wp2_with (first
    | (go_at_call 10; (with_reducible refine (tal_total l q cap HA2.out HN.out HK.out H.out).mono ?_); rintro e_ wn ⟨x2, y2, rfl, hx2, hy2, h⟩; rw [HX2.out] at hx2; rw [HY2.out] at hy2; have FX2 := Lib.hid hx2; have FY2 := Lib.hid hy2; clear hx2 hy2; replace H := Lib.hid h; clear h)
    | (go_at_call 9; (with_reducible refine (wholeV X Y WXY.out.1 WXY.out.2 H.out).mono ?_); rintro e_ wn ⟨x3, y3, rfl, hx3, hy3, h⟩; have cq := ceq_run 29 FX2.out FY2.out hx3 hy3 true (by simp); clear hx3 hy3; replace H := Lib.hid h; clear h))
      go_ret
      exact ⟨rfl, H.out.below⟩
theorem tallyPoints_any (l : List BatR) (v : Value) (W : World) (hf : ∀ x ∈ l, x.Fit) (hst : St W W (Know.bats v l) []) :
    Calls Try.prog 3 #[v] W fun en w' => en = .returned (.bool true) ∧ Below W.heap.size W w' := by
  obtain ⟨F, hF, _⟩ := hst.get
  obtain ⟨q, cap, hv, _⟩ := (bats_flat (Know.has_refl (Know.bats v l)) _ _ hF).at
  subst hv
  by_cases hn : l.length ≤ 8
  · exact tp_main l q cap hn hf (Know.has_refl _) hst
  · exact tp_long l q cap (by omega) (Know.has_refl _) hst

end Go.Proofs.Ytedbadkfbkecbaa

/- Lists of cells. -/
namespace Go.Proofs.Ytedbadkfbkecbaa
open Go.RowKit

theorem cells_int : Try.prog.cellsOf 3 = 1 := by kernel_rfl
theorem cells_str : Try.prog.cellsOf 9 = 1 := by kernel_rfl
theorem len2 {α : Type} {l : List α} (h : l.length = 2) : ∃ a b, l = [a, b] := by
  match l, h with
  | [a, b], _ => exact ⟨a, b, rfl⟩
theorem len3 {α : Type} {l : List α} (h : l.length = 3) : ∃ a b c, l = [a, b, c] := by
  match l, h with
  | [a, b, c], _ => exact ⟨a, b, c, rfl⟩
end Go.Proofs.Ytedbadkfbkecbaa

/- What arguments are made of, with the reach of each part. -/
namespace Go.Proofs.Ytedbadkfbkecbaa
open Go.RowKit
open Go.ChangeShapes Go.WideShapes Go.ChangeAt Go.Deep

/-- No part is beyond all reach. -/
def Light {H : Type} (t : TypeId) (d : DataW H) : Prop := ∀ k ∈ d.weights Try.prog t, k ≤ reachBytes
theorem reach_eq : reachBytes = 140737488351232 := rfl

section
variable {H : Type} {enc : TypeId × Value → H} {w : World} {spare : Nat → Bool} {held : Bool}

theorem light_arg {ts : List TypeId} {ds : List (DataW H)} (h : (DataW.weightsEach Try.prog ts ds).all (· ≤ reachBytes) = true) {j : Nat} {t : TypeId} {d : DataW H} (ht : ts[j]? = some t) (hd : ds[j]? = some d) : Light t d := by
  intro k hk
  have := List.all_eq_true.1 h k (DataW.weights_mem_each ht hd k hk)
  simpa using this

theorem opens_field {t : TypeId} {fs : Array Field} {n N : Nat} {cs : List Value} {y : DataW H × List MemPlace} (ht : Try.prog.underlying t = some (.struct fs)) (h : DataW.trod enc Try.prog w 0 spare held n t cs = some y) (hl : Light t y.1) (hN : ∀ x ∈ y.2, x.block < N) :
    cs.length = Try.prog.cellsOf t ∧ ∃ m, ∀ (i : Nat) (f : Field), fs[i]? = some f → ∃ z, DataW.trod enc Try.prog w 0 spare held m f.type ((cs.drop f.offset).take (Try.prog.cellsOf f.type)) = some z ∧ Light f.type z.1 ∧ ∀ x ∈ z.2, x.block < N := by
  obtain ⟨xs, m, _, rfl, hc, hxl, hg⟩ := DataW.trod_struct ht h
  refine ⟨hc, m, fun i f hf => ?_⟩
  have hi : i < fs.size := (Array.getElem?_eq_some_iff.1 hf).1
  have hx : xs[i]? = some (xs[i]'(by omega)) := List.getElem?_eq_getElem (by omega)
  refine ⟨_, (hg i f hf).trans hx, ?_, fun x hxx => hN x (List.mem_flatMap.2 ⟨_, List.getElem_mem _, hxx⟩)⟩
  intro k hk
  refine hl k ?_
  simp only [DataW.weights, ht]
  exact DataW.weights_mem_each (j := i) (by rw [List.getElem?_map, Array.getElem?_toList, hf]; rfl) (by rw [List.getElem?_map, hx]; rfl) k hk

theorem opens_str {t : TypeId} {n : Nat} {cs : List Value} {y : DataW H × List MemPlace} (ht : Try.prog.underlying t = some .string) (h : DataW.trod enc Try.prog w 0 spare held n t cs = some y) (hl : Light t y.1) : ∃ s : Bs, cs = [.string (bb s)] ∧ s.length ≤ 140737488351232 := by
  obtain ⟨s, e, e2, q⟩ := DataW.trod_string ht h
  refine ⟨s.data.toList, e, ?_⟩
  subst e2
  have := hl s.data.toList.length (by simp [DataW.weights])
  rw [reach_eq] at this
  exact this
theorem opens_i64 {t : TypeId} {n : Nat} {cs : List Value} {y : DataW H × List MemPlace} (ht : Try.prog.underlying t = some (.int .i64)) (h : DataW.trod enc Try.prog w 0 spare held n t cs = some y) : ∃ x : Int, cs = [.int .i64 x] ∧ -9223372036854775808 ≤ x ∧ x < 9223372036854775808 := by
  obtain ⟨x, e, _, q⟩ := DataW.trod_int ht h
  exact ⟨x, e, wf_i64 q⟩
theorem opens_bool {t : TypeId} {n : Nat} {cs : List Value} {y : DataW H × List MemPlace} (ht : Try.prog.underlying t = some .bool) (h : DataW.trod enc Try.prog w 0 spare held n t cs = some y) : ∃ x : Bool, cs = [.bool x] := by
  obtain ⟨x, e, _⟩ := DataW.trod_bool ht h
  exact ⟨x, e⟩

theorem weightsAll_mem' {P : Program} {e : TypeId} : ∀ {l : List (DataW H)} {d : DataW H}, d ∈ l → ∀ k ∈ d.weights P e, k ∈ DataW.weightsAll P e l
  | a :: l, d, hd, k, hk => by
    simp only [DataW.weightsAll, List.mem_append]
    rcases List.mem_cons.1 hd with rfl | hd
    · exact .inl hk
    · exact .inr (weightsAll_mem' hd k hk)

theorem opens_rows {α : Type} {R : World → List Value → α → Prop} {t e : TypeId} {sz N : Nat} (ht : Try.prog.underlying t = some (.slice e)) (hC : Try.prog.cellsOf e = sz) (hsz : 0 < sz)
    (hR : ∀ n cs y, DataW.trod enc Try.prog w 0 spare held n e cs = some y → Light e y.1 → (∀ x ∈ y.2, x.block < N) → ∃ x, R w cs x)
    {fuel : Nat} {cs : List Value} {x : DataW H × List MemPlace} (h : DataW.trod enc Try.prog w 0 spare held fuel t cs = some x) (hl : Light t x.1) (hlt : ∀ y ∈ x.2, y.block < N) (hN : N ≤ w.heap.size) :
    ∃ v l, cs = [v] ∧ RowsOf R (· < N) w v sz l ∧ l.length * Try.prog.bytesOf e ≤ 140737488351232 ∧ l.length ≤ maxLen := by
  rcases open_slice ht h with ⟨rfl, rfl⟩ | ⟨a, len, cap, m, n, D, Pl, rfl, hb, hlc, hm, hmm, hx, hi⟩
  · exact ⟨_, [], rfl, ⟨none, 0, rfl, fun h => absurd h (by simp)⟩, by simp, by simp⟩
  · have hlm : len ≤ m := by rw [hmm]; split <;> omega
    have hp2 : x.2 = MemPlace.row a (m * Try.prog.cellsOf e) ++ (List.range m).flatMap Pl := by rw [hx]
    have hx1 : x.1 = .slice ((List.range len).map D) ((List.range (m - len)).map fun j => D (len + j)) := by rw [hx]
    have hsum : len * Try.prog.bytesOf e ≤ 140737488351232 := by
      have := hl (((List.range len).map D).length * Try.prog.bytesOf e + ((List.range (m - len)).map fun j => D (len + j)).length * Try.prog.bytesOf e) (by rw [hx1]; simp [DataW.weights, ht, Nat.add_mul])
      rw [reach_eq] at this
      simp only [List.length_map, List.length_range] at this
      omega
    have hle : ∀ i, i < len → Light e (D i) := by
      intro i hil k hk
      refine hl k ?_
      rw [hx1]
      simp only [DataW.weights, ht, List.mem_cons, List.mem_append]
      exact .inr (.inl (weightsAll_mem' (List.mem_map.2 ⟨i, List.mem_range.2 hil, rfl⟩) k hk))
    have key : ∀ i, i < len → ∃ y : α, ∃ cs', cs'.length = sz ∧ R w cs' y ∧ (∀ f u, cs'[f]? = some u → w.cell? ((a.add (i * sz)).add f) = some u) := by
      intro i hil
      obtain ⟨cs', hc, htr⟩ := hi i (by omega)
      obtain ⟨_, hcl, hat⟩ := World.cells?_some hc
      obtain ⟨y, hy⟩ := hR n cs' _ htr (hle i hil) (fun z hz => hlt z (by rw [hp2, List.mem_append]; exact .inr (List.mem_flatMap.2 ⟨i, by simp; omega, hz⟩)))
      rw [hC] at hcl hat
      refine ⟨y, cs', hcl, hy, fun f u hu => ?_⟩
      have hf : f < sz := by rw [← hcl]; exact (List.getElem?_eq_some_iff.1 hu).1
      rw [hat f hf, hu]
    obtain ⟨l, hll, hq⟩ := list_of len _ key
    refine ⟨_, l, rfl, ⟨some a, cap, by rw [hll], fun h0 => ?_⟩, by rw [hll]; exact hsum, by omega⟩
    obtain ⟨cs0, h1, h2, h3⟩ := hq 0 h0
    have hc0 : w.cell? a = some (cs0[0]'(by omega)) := by
      have := h3 0 _ (List.getElem?_eq_getElem (by omega))
      simpa [Addr.add] using this
    have hsp : a.spot = none := by
      cases hs : a.spot with
      | none => rfl
      | some s =>
        unfold World.cell? at hc0
        split at hc0 <;> simp_all
    obtain ⟨ab, ao, asp⟩ := a
    simp only at hsp
    subst hsp
    have hlt0 : ab < N := hlt (.cell ab ao) (by
      rw [hp2, List.mem_append]
      left
      simp only [MemPlace.row, List.mem_map, List.mem_range]
      exact ⟨0, by rw [hC]; exact Nat.mul_pos (by omega) hsz, by simp⟩)
    refine ⟨ab, ao, rfl, hlt0, Nat.lt_of_lt_of_le hlt0 hN, fun i hi => ?_⟩
    obtain ⟨cs', g1, g2, g3⟩ := hq i hi
    refine ⟨cs', g1, g2, fun f u hu => ?_⟩
    have := g3 f u hu
    have e1 : ∀ (o q : Nat), (⟨ab, o, none⟩ : Addr).add q = ⟨ab, o + q, none⟩ := by intro o q; unfold Addr.add; split <;> simp_all
    rw [e1, e1, Nat.add_assoc] at this
    exact this
end

/-- Of a row's things, what is said of each, apart. -/
theorem RowsOf.part {α : Type} {R : World → List Value → α → Prop} {Q : α → Prop} {D : Nat → Prop} {w : World} {v : Value} {sz : Nat} {l : List α} (h : RowsOf (fun w cs x => R w cs x ∧ Q x) D w v sz l) : RowsOf R D w v sz l ∧ ∀ x ∈ l, Q x := by
  refine ⟨h.mono (fun _ _ h => h) (fun _ _ h => h.1), fun x hx => ?_⟩
  obtain ⟨i, hi, rfl⟩ := List.mem_iff_getElem.1 hx
  obtain ⟨p, cap, rfl, h⟩ := h
  obtain ⟨b, off, rfl, _, _, hc⟩ := h (by omega)
  obtain ⟨cs, _, h2, _⟩ := hc i hi
  exact h2.2

end Go.Proofs.Ytedbadkfbkecbaa

/- The elements of arguments, opened: headers. -/
namespace Go.Proofs.Ytedbadkfbkecbaa
open Go.RowKit

open Go.ChangeShapes Go.WideShapes Go.ChangeAt Go.Deep

theorem cells_hdr : Try.prog.cellsOf 46 = 3 := by kernel_rfl
theorem cells_blob : Try.prog.cellsOf 41 = 2 := by kernel_rfl
theorem cells_bool : Try.prog.cellsOf 4 = 1 := by kernel_rfl
section
variable {H : Type} {enc : TypeId × Value → H} {w : World} {spare : Nat → Bool} {held : Bool}
end

end Go.Proofs.Ytedbadkfbkecbaa

/- The elements of arguments, opened, with their reach: headers. -/
namespace Go.Proofs.Ytedbadkfbkecbaa
open Go.RowKit
open Go.ChangeShapes Go.WideShapes Go.ChangeAt Go.Deep

section
variable {H : Type} {enc : TypeId × Value → H} {w : World} {spare : Nat → Bool} {held : Bool}
set_option maxRecDepth 100000 in
theorem blob_opens {N : Nat} : ∀ n cs y, DataW.trod enc Try.prog w 0 spare held n 41 cs = some y → Light 41 y.1 → (∀ x ∈ y.2, x.block < N) → ∃ x : BlobS, cs = [.bool x.null, .string (bb x.data)] ∧ x.data.length ≤ 140737488351232 := by
  intro n cs y h hl hN
  obtain ⟨hc, m, hf⟩ := opens_field Try.underlying41 h hl hN
  rw [cells_blob] at hc
  obtain ⟨a, b, rfl⟩ := len2 hc
  obtain ⟨z0, g0, l0, _⟩ := hf 0 _ rfl
  obtain ⟨z1, g1, l1, _⟩ := hf 1 _ rfl
  have g0 : DataW.trod enc Try.prog w 0 spare held m 4 (List.take (Try.prog.cellsOf 4) (List.drop 0 [a, b])) = some z0 := g0
  have g1 : DataW.trod enc Try.prog w 0 spare held m 9 (List.take (Try.prog.cellsOf 9) (List.drop 1 [a, b])) = some z1 := g1
  rw [cells_bool] at g0
  rw [cells_str] at g1
  obtain ⟨x, e0⟩ := opens_bool Try.underlying4 g0
  obtain ⟨s, e1, hs⟩ := opens_str Try.underlying9 g1 l1
  simp at e0 e1
  subst e0 e1
  exact ⟨⟨x, s⟩, rfl, hs⟩
set_option maxRecDepth 100000 in
theorem rhdr_opens {N : Nat} : ∀ n cs y, DataW.trod enc Try.prog w 0 spare held n 46 cs = some y → Light 46 y.1 → (∀ x ∈ y.2, x.block < N) → ∃ x : HdrS, RHdr cs x ∧ (x.key.length ≤ 140737488351232 ∧ x.val.data.length ≤ 140737488351232) := by
  intro n cs y h hl hN
  obtain ⟨hc, m, hf⟩ := opens_field Try.underlying46 h hl hN
  rw [cells_hdr] at hc
  obtain ⟨a, b, c, rfl⟩ := len3 hc
  obtain ⟨z0, g0, l0, n0⟩ := hf 0 _ rfl
  obtain ⟨z1, g1, l1, n1⟩ := hf 1 _ rfl
  have g0 : DataW.trod enc Try.prog w 0 spare held m 9 (List.take (Try.prog.cellsOf 9) (List.drop 0 [a, b, c])) = some z0 := g0
  have g1 : DataW.trod enc Try.prog w 0 spare held m 41 (List.take (Try.prog.cellsOf 41) (List.drop 1 [a, b, c])) = some z1 := g1
  rw [cells_str] at g0
  rw [cells_blob] at g1
  obtain ⟨s, e0, hs⟩ := opens_str Try.underlying9 g0 l0
  obtain ⟨x, e1, hx⟩ := blob_opens _ _ _ g1 l1 n1
  simp at e0 e1
  obtain ⟨e1, e2⟩ := e1
  subst e0 e1 e2
  exact ⟨⟨s, x⟩, rfl, hs, hx⟩
end

end Go.Proofs.Ytedbadkfbkecbaa

/- Layer 7, walked: RecordEncodes. -/
namespace Go.Proofs.Ytedbadkfbkecbaa
open Go.RowKit

end Go.Proofs.Ytedbadkfbkecbaa

/- The elements of arguments, opened, with their reach: a record. -/
namespace Go.Proofs.Ytedbadkfbkecbaa
open Go.Joins Go.RowKit
open Go.ChangeShapes Go.WideShapes Go.ChangeAt Go.Deep

theorem cells_rec : Try.prog.cellsOf 44 = 7 := by kernel_rfl
theorem cells_hdrs : Try.prog.cellsOf 42 = 1 := by kernel_rfl
section
variable {H : Type} {enc : TypeId × Value → H} {w : World} {spare : Nat → Bool} {held : Bool}
end
end Go.Proofs.Ytedbadkfbkecbaa

/- Layer 7, walked: RecordRows: what it stands on. -/
namespace Go.Proofs.Ytedbadkfbkecbaa
open Go.RowKit

def GoodR (l : List (RecS × Value)) : Prop := ∀ x ∈ l, smallR x.1 = 1 ∧ recOk x.1 = 0
theorem GoodR.nil : GoodR [] := fun _ h => by cases h
/-- What is known of records that came in. -/
def FitR (l : List (RecS × Value)) : Prop := ∀ x ∈ l, x.1.R ∧ x.1.hdrs.length ≤ 9223372036854775807 ∧ HFit x.1.hdrs ∧ x.1.key.data.length ≤ 140737488351232 ∧ x.1.val.data.length ≤ 140737488351232
end Go.Proofs.Ytedbadkfbkecbaa

/- The elements of arguments, opened, with their reach: rows of records. -/
namespace Go.Proofs.Ytedbadkfbkecbaa
open Go.Joins Go.RowKit
open Go.ChangeShapes Go.WideShapes Go.ChangeAt Go.Deep

/-- What is known of a record that came in. -/
def QRec (W : World) (x : RecS × Value) : Prop := RowsOf (fun _ cs x => RHdr cs x) (· < W.heap.size) W x.2 3 x.1.hdrs ∧ x.1.R ∧ x.1.hdrs.length ≤ 9223372036854775807 ∧ HFit x.1.hdrs ∧ x.1.key.data.length ≤ 140737488351232 ∧ x.1.val.data.length ≤ 140737488351232
theorem QRec.fit {W : World} {l : List (RecS × Value)} (h : ∀ x ∈ l, QRec W x) : FitR l := fun x hx => (h x hx).2
theorem QRec.start {W : World} {v : Value} {l : List (RecS × Value)} (hr : RowsOf (fun _ cs x => RRec cs x) (· < W.heap.size) W v 7 l) (h : ∀ x ∈ l, QRec W x) : St W W (Know.recs v l) [] := St.start ⟨hr, fun x hx => (h x hx).1⟩
section
variable {H : Type} {enc : TypeId × Value → H} {w : World} {spare : Nat → Bool} {held : Bool}
set_option maxHeartbeats 1000000 in
set_option maxRecDepth 100000 in
theorem rrec_opens : ∀ n cs y, DataW.trod enc Try.prog w 0 spare held n 44 cs = some y → Light 44 y.1 → (∀ x ∈ y.2, x.block < w.heap.size) → ∃ x : RecS × Value, RRec cs x ∧ QRec w x := by
  intro n cs y hf hl hN
  have hNw : w.heap.size ≤ w.heap.size := Nat.le_refl _
  obtain ⟨hc, m, hg⟩ := opens_field Try.underlying44 hf hl hN
  rw [cells_rec] at hc
  match cs, hc with
  | [c0, c1, c2, c3, c4, c5, c6], _ =>
    obtain ⟨z0, g0, l0, n0⟩ := hg 0 _ rfl
    have g0 : DataW.trod enc Try.prog w 0 spare held m 3 (List.take (Try.prog.cellsOf 3) (List.drop 0 [c0, c1, c2, c3, c4, c5, c6])) = some z0 := g0
    rw [cells_int] at g0
    obtain ⟨z1, g1, l1, n1⟩ := hg 1 _ rfl
    have g1 : DataW.trod enc Try.prog w 0 spare held m 3 (List.take (Try.prog.cellsOf 3) (List.drop 1 [c0, c1, c2, c3, c4, c5, c6])) = some z1 := g1
    rw [cells_int] at g1
    obtain ⟨z2, g2, l2, n2⟩ := hg 2 _ rfl
    have g2 : DataW.trod enc Try.prog w 0 spare held m 41 (List.take (Try.prog.cellsOf 41) (List.drop 2 [c0, c1, c2, c3, c4, c5, c6])) = some z2 := g2
    rw [cells_blob] at g2
    obtain ⟨z3, g3, l3, n3⟩ := hg 3 _ rfl
    have g3 : DataW.trod enc Try.prog w 0 spare held m 41 (List.take (Try.prog.cellsOf 41) (List.drop 4 [c0, c1, c2, c3, c4, c5, c6])) = some z3 := g3
    rw [cells_blob] at g3
    obtain ⟨z4, g4, l4, n4⟩ := hg 4 _ rfl
    have g4 : DataW.trod enc Try.prog w 0 spare held m 42 (List.take (Try.prog.cellsOf 42) (List.drop 6 [c0, c1, c2, c3, c4, c5, c6])) = some z4 := g4
    rw [cells_hdrs] at g4
    obtain ⟨x0, e0, r0⟩ := opens_i64 Try.underlying3 g0
    obtain ⟨x1, e1, r1⟩ := opens_i64 Try.underlying3 g1
    obtain ⟨x2, e2, s2⟩ := blob_opens _ _ _ g2 l2 n2
    obtain ⟨x3, e3, s3⟩ := blob_opens _ _ _ g3 l3 n3
    obtain ⟨v6, x4, e4, hr, _, hm⟩ := opens_rows (R := fun w cs x => (fun _ cs x => RHdr cs x) w cs x ∧ (fun x : HdrS => x.key.length ≤ 140737488351232 ∧ x.val.data.length ≤ 140737488351232) x) (N := w.heap.size) Try.underlying42 cells_hdr (by decide) rhdr_opens g4 l4 n4 hNw
    obtain ⟨hr1, hq⟩ := hr.part
    simp at e0 e1 e2 e3 e4
    obtain ⟨e2a, e2b⟩ := e2
    obtain ⟨e3a, e3b⟩ := e3
    subst e0 e1 e2a e2b e3a e3b e4
    have hm2 : x4.length ≤ 9223372036854775807 := hm
    exact ⟨(⟨x0, x1, x2, x3, x4⟩, _), rfl, hr1, ⟨r0, r1⟩, hm2, hq, s2, s3⟩
end
end Go.Proofs.Ytedbadkfbkecbaa
