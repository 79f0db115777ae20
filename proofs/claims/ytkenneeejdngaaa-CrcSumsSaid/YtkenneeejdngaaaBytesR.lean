/- Bytes of one's own, made of a text. -/
import Derived.Test.YtkenneeejdngaaaSel
namespace Go.Proofs.Ytkenneeejdngaaa
open Go.RowKit

def bRow (b : Nat) (s : Bs) : Gen where
  p w S := (∃ (C : Array Value) (fz : Nat × Nat), w.heap[b]? = some (.cells C 5 fz) ∧ s.length ≤ C.size ∧ s.length ≤ fz.1 ∧ ∀ j (h : j < s.length), C[j]? = some (.int .u8 (s[j].toNat : Int))) ∧ ∀ k, S k ↔ k = b
  keep := by
    rintro w w' S ⟨⟨C, fz, h1, h2, h3, h4⟩, h5⟩ hs hk
    exact ⟨⟨C, fz, (hk b (heap_lt h1) ((h5 b).2 rfl)).trans h1, h2, h3, h4⟩, h5⟩
theorem St.bytesGet {W0 w : World} {K : Know} {L : List Res} {b : Nat} {s : Bs} (h : St W0 w K (.gen (bRow b s) :: L)) : ∃ (C : Array Value) (fz : Nat × Nat), w.heap[b]? = some (.cells C 5 fz) ∧ s.length ≤ C.size ∧ s.length ≤ fz.1 ∧ ∀ j (h : j < s.length), C[j]? = some (.int .u8 (s[j].toNat : Int)) := by
  obtain ⟨_, S, F, ⟨S1, S2, h1, _⟩, _⟩ := h
  exact h1.1
theorem St.bytesNew {W0 w : World} {K : Know} {L : List Res} (h : St W0 w K L) {C : Array Value} {s : Bs} (hs : s.length ≤ C.size) (hC : ∀ j (h : j < s.length), C[j]? = some (.int .u8 (s[j].toNat : Int))) : St W0 (w.alloc (.cells C 5 (C.size, C.size + 1))) K (.gen (bRow w.heap.size s) :: L) :=
  h.new (S1 := fun k => k = w.heap.size) ((Keeps.refl _ _).alloc _) ⟨⟨C, _, heap_alloc_new w _, hs, hs, hC⟩, fun _ => Iff.rfl⟩ (by rintro j rfl; simp)
theorem St.bytesCell {W0 w : World} {K : Know} {L : List Res} {b : Nat} {s : Bs} (h : St W0 w K (.gen (bRow b s) :: L)) (j : Nat) (hj : j < s.length) : w.cell? ⟨b, j, none⟩ = some (.int .u8 (s[j].toNat : Int)) ∧ w.frozen? ⟨b, j, none⟩ = false := by
  obtain ⟨C, fz, h1, h2, h3, h4⟩ := h.bytesGet
  refine ⟨(cell_at h1 j).trans (h4 j hj), ?_⟩
  have : ¬ fz.1 ≤ j := by omega
  simp [World.frozen?, h1, this]
theorem St.bytesSet {W0 w : World} {K : Know} {L : List Res} {b : Nat} {s : Bs} (h : St W0 w K (.gen (bRow b s) :: L)) (j : Nat) (c : UInt8) (v : Int) (hv : v = (c.toNat : Int)) : St W0 (w.setCell ⟨b, j, none⟩ (.int .u8 v)) K (.gen (bRow b (s.set j c)) :: L) := by
  subst hv
  refine h.step fun S1 h1 => ?_
  obtain ⟨⟨C, fz, g1, g2, g3, g4⟩, g5⟩ := h1
  refine ⟨S1, ⟨⟨C.setIfInBounds j (.int .u8 (c.toNat : Int)), fz, heap_setCell_self g1 _, by simpa using g2, by simpa using g3, ?_⟩, g5⟩, (Keeps.refl _ _).setCell _ _ (.inl ((g5 b).2 rfl)), fun k hk => ⟨.inl hk, ?_⟩⟩
  · intro i hi
    have hi' : i < s.length := by simpa using hi
    rw [Array.getElem?_setIfInBounds]
    by_cases hij : j = i
    · subst hij
      rw [if_pos rfl, if_pos (by omega)]
      simp
    · rw [if_neg hij, g4 i hi', List.getElem_set_ne hij]
  · have := (g5 k).1 hk
    subst this
    simpa using heap_lt g1
theorem St.bytesText {W0 w : World} {K : Know} {L : List Res} {b : Nat} {s : Bs} (h : St W0 w K (.gen (bRow b s) :: L)) (n : Nat) (hn : n = s.length) (cap : Nat) : (convert 32 9 (.slice (some ⟨b, 0, none⟩) n cap)).run Try.prog w = .ok (.string (bb s)) w := by
  subst hn
  refine run_convert_bytes_back (P := Try.prog) w 32 9 5 ⟨b, 0, none⟩ cap s Try.underlying32 Try.underlying5 Try.underlying9 (fun j hj => ?_)
  have ha : (⟨b, 0, none⟩ : Addr).add j = ⟨b, j, none⟩ := by unfold Addr.add; split <;> simp_all
  rw [ha]
  exact (h.bytesCell j hj).1
theorem conv_bytes' (w : World) (s : Bs) :
    ∃ C cap, s.length ≤ C.size ∧ (∀ j (h : j < s.length), C[j]? = some (.int .u8 (s[j].toNat : Int))) ∧
      (convert 9 32 (.string (bb s))).run Try.prog w = .ok (.slice (some ⟨w.heap.size, 0, none⟩) s.length cap) (w.drew.alloc (.cells C 5 (C.size, C.size + 1))) := by
  obtain ⟨C, cap, hC, hr⟩ := conv_bytes (P := Try.prog) w 9 32 5 s Try.underlying9 Try.underlying32 Try.underlying5
  refine ⟨C, cap, ?_, hC, hr⟩
  rcases Nat.eq_zero_or_pos s.length with h0 | h0
  · omega
  · have h1 := hC (s.length - 1) (by omega)
    have := (Array.getElem?_eq_some_iff.1 h1).1
    omega

end Go.Proofs.Ytkenneeejdngaaa
