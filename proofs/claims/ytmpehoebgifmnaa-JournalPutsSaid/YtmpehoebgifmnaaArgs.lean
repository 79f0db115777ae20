/- A text. -/
import Derived.Test.YtmpehoebgifmnaaLaw
import Derived.Deep.Slices
namespace Go.Proofs.Ytmpehoebgifmnaa
open Go.ChangeShapes Go.WideShapes Go.ChangeAt Go.RowKit Go.Deep

theorem wf_i64 {n : Int} (h : (Lit.int .i64 n).wf = true) : -9223372036854775808 ≤ n ∧ n < 9223372036854775808 := by
 simp [Lit.wf, IntKind.min, IntKind.max, IntKind.signed, IntKind.bits] at h
 omega
def RowsOf {α : Type} (R : World → List Value → α → Prop) (D : Nat → Prop) (w : World) (v : Value) (sz : Nat) (l : List α) : Prop :=
  ∃ p cap, v = .slice p l.length cap ∧ (0 < l.length → ∃ b off, p = some ⟨b, off, none⟩ ∧ D b ∧ b < w.heap.size ∧
    ∀ i (h : i < l.length), ∃ cs, cs.length = sz ∧ R w cs l[i] ∧ ∀ f u, cs[f]? = some u → w.cell? ⟨b, off + (i * sz + f), none⟩ = some u)

theorem RowsOf.keeps {α : Type} {R : World → List Value → α → Prop} {D : Nat → Prop} {w w' : World} {v : Value} {sz : Nat} {l : List α} {M : Nat → Prop}
    (h : RowsOf R D w v sz l) (k : Keeps M w w') (hd : ∀ b, D b → b < w.heap.size → ¬ M b) (hR : ∀ cs x, R w cs x → R w' cs x) : RowsOf R D w' v sz l := by
  obtain ⟨p, cap, rfl, h⟩ := h; refine ⟨p, cap, rfl, fun h0 => ?_⟩; obtain ⟨b, off, rfl, hb, hs, hc⟩ := h h0; refine ⟨b, off, rfl, hb, Nat.lt_of_lt_of_le hs k.size, fun i hi => ?_⟩; obtain ⟨cs, h1, h2, h3⟩ := hc i hi; exact ⟨cs, h1, hR _ _ h2, fun f u hu => (k.cell b _ hs (hd b hb hs)).trans (h3 f u hu)⟩

theorem RowsOf.mono {α : Type} {R R' : World → List Value → α → Prop} {D D' : Nat → Prop} {w : World} {v : Value} {sz : Nat} {l : List α}
    (h : RowsOf R D w v sz l) (hd : ∀ b, b < w.heap.size → D b → D' b) (hR : ∀ cs x, R w cs x → R' w cs x) : RowsOf R' D' w v sz l := by
  obtain ⟨p, cap, rfl, h⟩ := h; refine ⟨p, cap, rfl, fun h0 => ?_⟩; obtain ⟨b, off, rfl, hb, hs, hc⟩ := h h0; refine ⟨b, off, rfl, hd b hs hb, hs, fun i hi => ?_⟩; obtain ⟨cs, h1, h2, h3⟩ := hc i hi; exact ⟨cs, h1, hR _ _ h2, h3⟩

section
variable {H : Type} {enc : TypeId × Value → H} {P : Program} {w : World} {spare : Nat → Bool} {held : Bool}

theorem list_of {α : Type} (n : Nat) (Q : Nat → α → Prop) (h : ∀ i, i < n → ∃ x, Q i x) : ∃ l : List α, l.length = n ∧ ∀ i (hi : i < l.length), Q i l[i] := by
 induction n with
 | zero => exact ⟨[], rfl, fun i hi => absurd hi (by simp)⟩
 | succ n ih =>
  obtain ⟨l, hl, hq⟩ := ih (fun i hi => h i (by omega)); obtain ⟨x, hx⟩ := h n (by omega); refine ⟨l ++ [x], by simp [hl], fun i hi => ?_⟩
  by_cases hin : i < l.length
  · rw [List.getElem_append_left hin]; exact hq i hin
  · have : i = n := by simp at hi; omega
    subst this; rw [List.getElem_append_right (by omega)]
    simpa [hl] using hx

end

end Go.Proofs.Ytmpehoebgifmnaa
