/- Contracts of package header: writing. -/
import Derived.Test.YtenojajfacacoaaDoorBlobP
namespace Go.Proofs.YtenojajfacacoaaDoor
open Go.RowKit

/-- Rows of things whose cells say all. -/
def FlatRows {α : Type} (R : List Value → α → Prop) (F : Nat → Prop) (w : World) (v : Value) (sz : Nat) (l : List α) : Prop := RowsOf (fun _ cs x => R cs x) F w v sz l
theorem flat_keep {α : Type} {R : List Value → α → Prop} {F : Nat → Prop} {w w' : World} {v : Value} {sz : Nat} {l : List α} (h : FlatRows R F w v sz l) (hs : w.heap.size ≤ w'.heap.size) (hk : ∀ k, k < w.heap.size → F k → w'.heap[k]? = w.heap[k]?) : FlatRows R F w' v sz l := by
  obtain ⟨p, cap, rfl, h⟩ := h
  refine ⟨p, cap, rfl, fun h0 => ?_⟩
  obtain ⟨b, off, rfl, hb, hlt, hc⟩ := h h0
  refine ⟨b, off, rfl, hb, Nat.lt_of_lt_of_le hlt hs, fun i hi => ?_⟩
  obtain ⟨cs, h1, h2, h3⟩ := hc i hi
  exact ⟨cs, h1, h2, fun f u hu => (World.cell?_of_block (w := w) (a := ⟨b, off + (i * sz + f), none⟩) (hk b hlt hb)).trans (h3 f u hu)⟩
def Know.flat {α : Type} (R : List Value → α → Prop) (v : Value) (sz : Nat) (l : List α) : Know := ⟨fun w F => FlatRows R F w v sz l, fun _ _ _ h hs hk => flat_keep h hs hk, fun _ _ _ h hs => RowsOf.mono h (fun _ _ h => hs _ h) (fun _ _ h => h)⟩
theorem FlatRows.at {α : Type} {R : List Value → α → Prop} {F : Nat → Prop} {w : World} {v : Value} {sz : Nat} {l : List α} (h : FlatRows R F w v sz l) :
    ∃ p cap, v = .slice p l.length cap ∧ (0 < l.length → ∃ b off, p = some ⟨b, off, none⟩ ∧ ∀ i (h : i < l.length), ∃ cs, cs.length = sz ∧ R cs l[i] ∧ ∀ f u, cs[f]? = some u → w.cell? ⟨b, off + (i * sz + f), none⟩ = some u) := by
  obtain ⟨p, cap, rfl, h⟩ := h
  refine ⟨p, cap, rfl, fun h0 => ?_⟩
  obtain ⟨b, off, rfl, _, _, hc⟩ := h h0
  exact ⟨b, off, rfl, hc⟩
theorem flatMap_get {α : Type} : ∀ (l : List α) (f : α → List Value) (sz : Nat), (∀ x ∈ l, (f x).length = sz) → ∀ (i : Nat) (hi : i < l.length) (q : Nat), q < sz → (l.flatMap f)[i * sz + q]? = (f l[i])[q]?
  | [], _, _, _, i, hi, _, _ => by simp at hi
  | x :: t, f, sz, h, 0, _, q, hq => by
    rw [List.flatMap_cons, Nat.zero_mul, Nat.zero_add, List.getElem?_append_left (by rw [h x (by simp)]; exact hq)]
    rfl
  | x :: t, f, sz, h, i + 1, hi, q, hq => by
    have hx := h x (by simp)
    rw [List.flatMap_cons, List.getElem?_append_right (by rw [hx, Nat.add_mul]; omega), hx, show (i + 1) * sz + q - sz = i * sz + q by rw [Nat.add_mul]; omega]
    exact flatMap_get t f sz (fun y hy => h y (by simp [hy])) i (by simpa using hi) q hq
/-- A row of one's own, left as it is, is known for good. -/
theorem St.freezeRow {α : Type} {W0 w : World} {K : Know} {L : List Res} {R : List Value → α → Prop} {v : Value} {T : TypeId} {sz : Nat} {l : List α} {f : α → List Value} (h : St W0 w K (.row v T sz l.length (l.flatMap f) :: L)) (hf : ∀ x ∈ l, (f x).length = sz ∧ R (f x) x) :
    St W0 w (K.and (Know.flat R v sz l)) L := by
  refine h.freeze fun F S1 _ h1 => ?_
  obtain ⟨⟨g1, g2⟩, g3⟩ := h1
  rcases g2 with ⟨rfl, h0⟩ | ⟨g, cap, cur, rfl, _, hg, hn, hcm, hcs, htake⟩
  · exact ⟨none, 0, by rw [h0], fun hh => absurd hh (by omega)⟩
  · have hS : S1 g := (g3 g).2 rfl
    have hlt := heap_lt hg
    refine ⟨_, cap, rfl, fun _ => ⟨g, 0, rfl, .inr ⟨hS, hlt⟩, hlt, fun i hi => ?_⟩⟩
    obtain ⟨h2, h3⟩ := hf l[i] (List.getElem_mem hi)
    refine ⟨f l[i], h2, h3, fun q u hu => ?_⟩
    rw [cell_at hg, Nat.zero_add]
    have hq : q < sz := by rw [← h2]; exact (List.getElem?_eq_some_iff.1 hu).1
    have e : (l.flatMap f)[i * sz + q]? = some u := by
      rw [flatMap_get l f sz (fun x hx => (hf x hx).1) i hi q hq]
      exact hu
    rw [← htake, List.getElem?_take_of_lt (by have := Nat.mul_le_mul_right sz (show i + 1 ≤ l.length by omega); rw [Nat.add_mul, Nat.one_mul] at this; omega)] at e
    simpa using e

/-- A name and a value. -/
structure HdrS where
  key : Bs
  val : BlobS
deriving DecidableEq
def RHdr (cs : List Value) (h : HdrS) : Prop := cs = [.string (bb h.key), .bool h.val.null, .string (bb h.val.data)]
def hcells (h : HdrS) : List Value := [.string (bb h.key), .bool h.val.null, .string (bb h.val.data)]
def HdrS.size (h : HdrS) : Nat := h.key.length + h.val.data.length + 32
def hsize (l : List HdrS) : Nat := (l.map HdrS.size).sum
def OutS.putHdr (o : OutS) (h : HdrS) : OutS := (o.putName h.key).putVaried h.val
def OutS.putHdrs (o : OutS) (l : List HdrS) : OutS := l.foldl OutS.putHdr (o.putInt l.length)
theorem OutS.len_putVaried (o : OutS) (b : BlobS) (h : b.data.length ≤ 140737488355328) : (o.putVaried b).bytes.length ≤ o.bytes.length + (b.data.length + 16) := by
  unfold OutS.putVaried OutS.putData
  have h1 := o.len_putInt b.len (b.len_range h)
  split
  · have := (o.putInt b.len).len_put b.data; omega
  · have := ((o.putInt b.len).fail 4).len_put b.data
    rw [OutS.len_fail] at this
    omega
theorem OutS.len_putHdr (o : OutS) (h : HdrS) (hl : h.size ≤ 140737488355328) : (o.putHdr h).bytes.length ≤ o.bytes.length + h.size := by
  unfold HdrS.size at *
  have h1 := o.len_putVaried ⟨false, h.key⟩ (by simp only; omega)
  have h2 := (o.putName h.key).len_putVaried h.val (by omega)
  unfold OutS.putHdr
  unfold OutS.putName at *
  simp only at h1
  omega
theorem hsize_split (l : List HdrS) (k : Nat) (h : k < l.length) : hsize (l.take k) + l[k].size ≤ hsize l := by
  have h1 : hsize l = hsize (l.take k) + hsize (l.drop k) := by
    unfold hsize
    rw [← List.sum_append, ← List.map_append, List.take_append_drop]
  have h2 : hsize (l.drop k) = l[k].size + hsize (l.drop (k + 1)) := by
    unfold hsize
    rw [List.drop_eq_getElem_cons h]
    rfl
  omega
theorem OutS.len_hdrs : ∀ (l : List HdrS) (o : OutS), hsize l ≤ 140737488355328 → (l.foldl OutS.putHdr o).bytes.length ≤ o.bytes.length + hsize l
  | [], o, _ => by simp [hsize]
  | h :: t, o, hl => by
    have e : hsize (h :: t) = h.size + hsize t := rfl
    have h1 := o.len_putHdr h (by omega)
    have h2 := OutS.len_hdrs t (o.putHdr h) (by omega)
    show (t.foldl OutS.putHdr (o.putHdr h)).bytes.length ≤ _
    omega

end Go.Proofs.YtenojajfacacoaaDoor
