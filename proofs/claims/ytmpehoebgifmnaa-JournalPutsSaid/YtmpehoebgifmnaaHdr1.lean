/- A text. -/
import Derived.Test.YtmpehoebgifmnaaBlobP
namespace Go.Proofs.Ytmpehoebgifmnaa
open Go.RowKit

def FlatRows {α : Type} (R : List Value → α → Prop) (F : Nat → Prop) (w : World) (v : Value) (sz : Nat) (l : List α) : Prop := RowsOf (fun _ cs x => R cs x) F w v sz l
theorem flat_keep {α : Type} {R : List Value → α → Prop} {F : Nat → Prop} {w w' : World} {v : Value} {sz : Nat} {l : List α} (h : FlatRows R F w v sz l) (hs : w.heap.size ≤ w'.heap.size) (hk : ∀ k, k < w.heap.size → F k → w'.heap[k]? = w.heap[k]?) : FlatRows R F w' v sz l := by
 obtain ⟨p, cap, rfl, h⟩ := h; refine ⟨p, cap, rfl, fun h0 => ?_⟩; obtain ⟨b, off, rfl, hb, hlt, hc⟩ := h h0; refine ⟨b, off, rfl, hb, Nat.lt_of_lt_of_le hlt hs, fun i hi => ?_⟩; obtain ⟨cs, h1, h2, h3⟩ := hc i hi; exact ⟨cs, h1, h2, fun f u hu => (World.cell?_of_block (w := w) (a := ⟨b, off + (i * sz + f), none⟩) (hk b hlt hb)).trans (h3 f u hu)⟩
def Know.flat {α : Type} (R : List Value → α → Prop) (v : Value) (sz : Nat) (l : List α) : Know := ⟨fun w F => FlatRows R F w v sz l, fun _ _ _ h hs hk => flat_keep h hs hk, fun _ _ _ h hs => RowsOf.mono h (fun _ _ h => hs _ h) (fun _ _ h => h)⟩
theorem FlatRows.at {α : Type} {R : List Value → α → Prop} {F : Nat → Prop} {w : World} {v : Value} {sz : Nat} {l : List α} (h : FlatRows R F w v sz l) :
  ∃ p cap, v = .slice p l.length cap ∧ (0 < l.length → ∃ b off, p = some ⟨b, off, none⟩ ∧ ∀ i (h : i < l.length), ∃ cs, cs.length = sz ∧ R cs l[i] ∧ ∀ f u, cs[f]? = some u → w.cell? ⟨b, off + (i * sz + f), none⟩ = some u) := by
 obtain ⟨p, cap, rfl, h⟩ := h; refine ⟨p, cap, rfl, fun h0 => ?_⟩; obtain ⟨b, off, rfl, _, _, hc⟩ := h h0; exact ⟨b, off, rfl, hc⟩
theorem flatMap_get {α : Type} : ∀ (l : List α) (f : α → List Value) (sz : Nat), (∀ x ∈ l, (f x).length = sz) → ∀ (i : Nat) (hi : i < l.length) (q : Nat), q < sz → (l.flatMap f)[i * sz + q]? = (f l[i])[q]?
  | [], _, _, _, i, hi, _, _ => by simp at hi
  | x :: t, f, sz, h, 0, _, q, hq => by
    rw [List.flatMap_cons, Nat.zero_mul, Nat.zero_add, List.getElem?_append_left (by rw [h x (by simp)]; exact hq)]
    rfl
  | x :: t, f, sz, h, i + 1, hi, q, hq => by
    have hx := h x (by simp); rw [List.flatMap_cons, List.getElem?_append_right (by rw [hx, Nat.add_mul]; omega), hx, show (i + 1) * sz + q - sz = i * sz + q by rw [Nat.add_mul]; omega]; exact flatMap_get t f sz (fun y hy => h y (by simp [hy])) i (by simpa using hi) q hq
theorem St.freezeRow {α : Type} {W0 w : World} {K : Know} {L : List Res} {R : List Value → α → Prop} {v : Value} {T : TypeId} {sz : Nat} {l : List α} {f : α → List Value} (h : St W0 w K (.row v T sz l.length (l.flatMap f) :: L)) (hf : ∀ x ∈ l, (f x).length = sz ∧ R (f x) x) :
   St W0 w (K.and (Know.flat R v sz l)) L := by
 refine h.freeze fun F S1 _ h1 => ?_
 obtain ⟨⟨g1, g2⟩, g3⟩ := h1
 rcases g2 with ⟨rfl, h0⟩ | ⟨g, cap, cur, rfl, _, hg, hn, hcm, hcs, htake⟩
 · exact ⟨none, 0, by rw [h0], fun hh => absurd hh (by omega)⟩
 · have hS : S1 g := (g3 g).2 rfl; have hlt := heap_lt hg; refine ⟨_, cap, rfl, fun _ => ⟨g, 0, rfl, .inr ⟨hS, hlt⟩, hlt, fun i hi => ?_⟩⟩; obtain ⟨h2, h3⟩ := hf l[i] (List.getElem_mem hi); refine ⟨f l[i], h2, h3, fun q u hu => ?_⟩; rw [cell_at hg, Nat.zero_add]; have hq : q < sz := by rw [← h2]; exact (List.getElem?_eq_some_iff.1 hu).1
   have e : (l.flatMap f)[i * sz + q]? = some u := by
    rw [flatMap_get l f sz (fun x hx => (hf x hx).1) i hi q hq]; exact hu
   rw [← htake, List.getElem?_take_of_lt (by have := Nat.mul_le_mul_right sz (show i + 1 ≤ l.length by omega); rw [Nat.add_mul, Nat.one_mul] at this; omega)] at e
   simpa using e

structure HdrS where
  key : Bs
  val : BlobS
deriving DecidableEq
def RHdr (cs : List Value) (h : HdrS) : Prop := cs = [.string (bb h.key), .bool h.val.null, .string (bb h.val.data)]
def HdrS.size (h : HdrS) : Nat := h.key.length + h.val.data.length + 32
def hsize (l : List HdrS) : Nat := (l.map HdrS.size).sum
end Go.Proofs.Ytmpehoebgifmnaa
