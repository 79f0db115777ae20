/- What a world holds: things that are apart, and what is known for good. -/
import Derived.Test.YtenojajfacacoaaDoorOut
import Derived.Test.YtenojajfacacoaaDoorArgs
namespace Go.Proofs.YtenojajfacacoaaDoor
open Go.RowKit

/-- A fact of memory that stands while the blocks of F are as they were. -/
structure Know where
  p : World → (Nat → Prop) → Prop
  keep : ∀ (w w' : World) F, p w F → w.heap.size ≤ w'.heap.size → (∀ k, k < w.heap.size → F k → w'.heap[k]? = w.heap[k]?) → p w' F
  mono : ∀ (w : World) F F', p w F → (∀ k, F k → F' k) → p w F'

def Know.none : Know := ⟨fun _ _ => True, fun _ _ _ _ _ _ => trivial, fun _ _ _ _ _ => trivial⟩
def Know.and (a b : Know) : Know := ⟨fun w F => a.p w F ∧ b.p w F, fun w w' F h hs hk => ⟨a.keep w w' F h.1 hs hk, b.keep w w' F h.2 hs hk⟩, fun w F F' h hs => ⟨a.mono w F F' h.1 hs, b.mono w F F' h.2 hs⟩⟩
def Know.has (a b : Know) : Prop := ∀ w F, a.p w F → b.p w F
theorem Know.has_refl (a : Know) : a.has a := fun _ _ h => h
theorem Know.has_left {a b c : Know} (h : a.has c) : (a.and b).has c := fun w F x => h w F x.1
theorem Know.has_right {a b c : Know} (h : b.has c) : (a.and b).has c := fun w F x => h w F x.2
theorem Know.has_trans {a b c : Know} (h : a.has b) (k : b.has c) : a.has c := fun w F x => k w F (h w F x)
theorem Know.has_and {a b c : Know} (h : a.has b) (k : a.has c) : a.has (b.and c) := fun w F x => ⟨h w F x, k w F x⟩
theorem Know.has_none (a : Know) : a.has Know.none := fun _ _ _ => trivial

/-- A thing of one's own. -/
structure Gen where
  p : World → (Nat → Prop) → Prop
  keep : ∀ (w w' : World) S, p w S → w.heap.size ≤ w'.heap.size → (∀ k, k < w.heap.size → S k → w'.heap[k]? = w.heap[k]?) → p w' S

inductive Res
  | inp (b : Nat) (i : InS)
  | out (b : Nat) (o : OutS)
  | raw (b : Nat) (c : Array Value) (T : TypeId)
  | row (v : Value) (T : TypeId) (sz n : Nat) (xs : List Value)
  | gen (g : Gen)

def Res.holds : Res → World → (Nat → Prop) → Prop
  | .inp b i, w, S => IsIn w b i ∧ ∀ k, S k ↔ k = b
  | .out b o, w, S => ∃ g, IsOut w b g o ∧ ∀ k, S k ↔ OutM b g k
  | .raw b c T, w, S => w.heap[b]? = some (.cells c T (0, 0)) ∧ ∀ k, S k ↔ k = b
  | .row v T sz n xs, w, S => w.ownsRow 0 T sz v n xs ∧ ∀ k, S k ↔ v.ownBlock = some k
  | .gen g, w, S => g.p w S

theorem Res.keep {r : Res} {w w' : World} {S : Nat → Prop} (h : r.holds w S) (hs : w.heap.size ≤ w'.heap.size) (hk : ∀ k, k < w.heap.size → S k → w'.heap[k]? = w.heap[k]?) : r.holds w' S := by
  cases r with
  | inp b i => exact ⟨⟨(hk b h.1.lt ((h.2 b).2 rfl)).trans h.1.1, h.1.2⟩, h.2⟩
  | out b o =>
    obtain ⟨g, h1, h2⟩ := h
    refine ⟨g, ?_, h2⟩
    have hl := h1.lt
    have hgl := h1.glt
    obtain ⟨v, g1, g2, g3, g4⟩ := h1
    refine ⟨v, (hk b hl ((h2 b).2 (.inl rfl))).trans g1, ?_, g3, g4⟩
    obtain ⟨a1, a2⟩ := g2
    refine ⟨a1, ?_⟩
    rcases a2 with a2 | ⟨x, cap, cur, rfl, hb, hg, rest⟩
    · exact .inl a2
    · have hx : some x = g := g3
      exact .inr ⟨x, cap, cur, rfl, hb, by rw [hk x (hgl x hx.symm) ((h2 x).2 (.inr hx))]; exact hg, rest⟩
  | raw b c T => exact ⟨(hk b (heap_lt h.1) ((h.2 b).2 rfl)).trans h.1, h.2⟩
  | row v T sz n xs =>
    obtain ⟨⟨a1, a2⟩, h2⟩ := h
    refine ⟨⟨a1, ?_⟩, h2⟩
    rcases a2 with a2 | ⟨x, cap, cur, rfl, hb, hg, rest⟩
    · exact .inl a2
    · exact .inr ⟨x, cap, cur, rfl, hb, by rw [hk x (heap_lt hg) ((h2 x).2 rfl)]; exact hg, rest⟩
  | gen g => exact g.keep w w' S h hs hk

def Holds : List Res → World → (Nat → Prop) → Prop
  | [], _, S => ∀ k, ¬ S k
  | r :: L, w, S => ∃ S1 S2, r.holds w S1 ∧ Holds L w S2 ∧ (∀ k, S1 k → ¬ S2 k) ∧ ∀ k, S k ↔ S1 k ∨ S2 k

theorem Holds.keep {w w' : World} (hs : w.heap.size ≤ w'.heap.size) : ∀ {L : List Res} {S : Nat → Prop}, Holds L w S → (∀ k, k < w.heap.size → S k → w'.heap[k]? = w.heap[k]?) → Holds L w' S
  | [], _, h, _ => h
  | r :: _, _, ⟨S1, S2, h1, h2, h3, h4⟩, hk => ⟨S1, S2, Res.keep (r := r) h1 hs (fun k hl hx => hk k hl ((h4 k).2 (.inl hx))), h2.keep hs (fun k hl hx => hk k hl ((h4 k).2 (.inr hx))), h3, h4⟩

theorem Holds.swap {w : World} {a b : Res} {L : List Res} {S : Nat → Prop} (h : Holds (a :: b :: L) w S) : Holds (b :: a :: L) w S := by
  obtain ⟨S1, S2, h1, ⟨S3, S4, h2, h3, d2, e2⟩, d1, e1⟩ := h
  refine ⟨S3, fun k => S1 k ∨ S4 k, h2, ⟨S1, S4, h1, h3, fun k hk => fun h => d1 k hk ((e2 k).2 (.inr h)), fun k => Iff.rfl⟩, ?_, ?_⟩
  · rintro k hk (h | h)
    · exact d1 k h ((e2 k).2 (.inl hk))
    · exact d2 k hk h
  · intro k
    rw [e1, e2]
    constructor
    · rintro (h | h | h)
      · exact .inr (.inl h)
      · exact .inl h
      · exact .inr (.inr h)
    · rintro (h | h | h)
      · exact .inr (.inl h)
      · exact .inl h
      · exact .inr (.inr h)
theorem Holds.cons {w : World} {a : Res} {L L' : List Res} {S : Nat → Prop} (h : Holds (a :: L) w S) (hL : ∀ S, Holds L w S → Holds L' w S) : Holds (a :: L') w S := by
  obtain ⟨S1, S2, h1, h2, h3, h4⟩ := h
  exact ⟨S1, S2, h1, hL _ h2, h3, h4⟩

/-- A block of cells that may be written. -/
def Unf (w : World) (k : Nat) : Prop := ∃ c T, w.heap[k]? = some (.cells c T (0, 0))
theorem Unf.same {w w' : World} {k : Nat} (h : Unf w k) (e : w'.heap[k]? = w.heap[k]?) : Unf w' k := by
  obtain ⟨c, T, h⟩ := h
  exact ⟨c, T, e.trans h⟩
/-- Since W0 nothing that was there has turned; the things of L are apart; K is known. -/
def St (W0 w : World) (K : Know) (L : List Res) : Prop :=
  Below W0.heap.size W0 w ∧ ∃ S F : Nat → Prop, Holds L w S ∧ (∀ k, S k → W0.heap.size ≤ k ∧ k < w.heap.size) ∧ K.p w F ∧ ∀ k, F k → k < w.heap.size ∧ ¬ S k ∧ (W0.heap.size ≤ k → Unf w k)

theorem St.below {W0 w : World} {K : Know} {L : List Res} (h : St W0 w K L) : Below W0.heap.size W0 w := h.1
theorem St.get {W0 w : World} {K : Know} {L : List Res} (h : St W0 w K L) : ∃ F, K.p w F ∧ ∀ k, F k → k < w.heap.size := by
  obtain ⟨_, S, F, _, _, hk, hf⟩ := h
  exact ⟨F, hk, fun k h => (hf k h).1⟩
theorem St.start {W0 : World} {K : Know} (h : K.p W0 (· < W0.heap.size)) : St W0 W0 K [] :=
  ⟨Below.refl _ _, fun _ => False, (· < W0.heap.size), fun _ h => h, fun _ h => h.elim, h, fun _ h => ⟨h, fun h => h, fun h2 => absurd h (Nat.not_lt.2 h2)⟩⟩
theorem St.know {W0 w : World} {K K' : Know} {L : List Res} (h : St W0 w K L) (hk : K.has K') : St W0 w K' L := by
  obtain ⟨a, S, F, b, c, d, e⟩ := h
  exact ⟨a, S, F, b, c, hk _ _ d, e⟩

theorem St.quiet {W0 w w' : World} {K : Know} {L : List Res} {M : Nat → Prop} (h : St W0 w K L) (k : Keeps M w w') (hM : ∀ k, k < w.heap.size → ¬ M k) : St W0 w' K L := by
  obtain ⟨a, S, F, b, c, d, e⟩ := h
  have hb : ∀ j, j < w.heap.size → w'.heap[j]? = w.heap[j]? := fun j hj => k.block j hj (hM j hj)
  exact ⟨a.trans ⟨k.os, k.tape, k.output, k.size, fun j hj => hb j (Nat.lt_of_lt_of_le hj a.size)⟩, S, F, b.keep k.size (fun j hj _ => hb j hj), fun j hj => ⟨(c j hj).1, Nat.lt_of_lt_of_le (c j hj).2 k.size⟩, K.keep w w' F d k.size (fun j hj _ => hb j hj), fun j hj => ⟨Nat.lt_of_lt_of_le (e j hj).1 k.size, (e j hj).2.1, fun h2 => ((e j hj).2.2 h2).same (hb j (e j hj).1)⟩⟩
theorem St.drewN {W0 w : World} {K : Know} {L : List Res} (h : St W0 w K L) (n : Nat) : St W0 (w.drewN n) K L := h.quiet (M := fun _ => False) ((Keeps.refl _ _).drewN n) (fun _ _ h => h)
theorem St.drew {W0 w : World} {K : Know} {L : List Res} (h : St W0 w K L) : St W0 w.drew K L := h.quiet (M := fun _ => False) ((Keeps.refl _ _).drew) (fun _ _ h => h)
theorem St.alloc {W0 w : World} {K : Know} {L : List Res} (h : St W0 w K L) (o : Obj) : St W0 (w.alloc o) K L := h.quiet (M := fun _ => False) ((Keeps.refl _ _).alloc o) (fun _ _ h => h)

theorem St.step {W0 w w' : World} {K : Know} {r r' : Res} {L : List Res} (h : St W0 w K (r :: L))
    (hr : ∀ S1, r.holds w S1 → ∃ S1', r'.holds w' S1' ∧ Keeps S1 w w' ∧ ∀ k, S1' k → (S1 k ∨ w.heap.size ≤ k) ∧ k < w'.heap.size) : St W0 w' K (r' :: L) := by
  obtain ⟨a, S, F, ⟨S1, S2, h1, h2, h3, h4⟩, c, d, e⟩ := h
  obtain ⟨S1', g1, k, g2⟩ := hr S1 h1
  have hS1 : ∀ j, S1 j → W0.heap.size ≤ j := fun j hj => (c j ((h4 j).2 (.inl hj))).1
  refine ⟨a.trans ⟨k.os, k.tape, k.output, k.size, fun j hj => k.block j (Nat.lt_of_lt_of_le hj a.size) (fun h => by have := hS1 j h; omega)⟩, fun k => S1' k ∨ S2 k, F, ⟨S1', S2, g1, h2.keep k.size (fun j hj hs => k.block j hj (fun h => h3 j h hs)), ?_, fun k => Iff.rfl⟩, ?_, K.keep w w' F d k.size (fun j hj hF => k.block j hj (fun h => (e j hF).2.1 ((h4 j).2 (.inl h)))), ?_⟩
  · intro j hj hs
    rcases (g2 j hj).1 with h | h
    · exact h3 j h hs
    · have := (c j ((h4 j).2 (.inr hs))).2; omega
  · rintro j (hj | hj)
    · obtain ⟨h | h, h'⟩ := g2 j hj
      · exact ⟨hS1 j h, h'⟩
      · exact ⟨Nat.le_trans a.size h, h'⟩
    · have := c j ((h4 j).2 (.inr hj))
      exact ⟨this.1, Nat.lt_of_lt_of_le this.2 k.size⟩
  · intro j hF
    refine ⟨Nat.lt_of_lt_of_le (e j hF).1 k.size, ?_, fun h2 => ((e j hF).2.2 h2).same (k.block j (e j hF).1 (fun h => (e j hF).2.1 ((h4 j).2 (.inl h))))⟩
    rintro (hj | hj)
    · rcases (g2 j hj).1 with h | h
      · exact (e j hF).2.1 ((h4 j).2 (.inl h))
      · have := (e j hF).1; omega
    · exact (e j hF).2.1 ((h4 j).2 (.inr hj))

theorem St.new {W0 w w' : World} {K : Know} {r : Res} {L : List Res} {S1 : Nat → Prop} (h : St W0 w K L) (k : Keeps (fun _ => False) w w') (hr : r.holds w' S1) (hS : ∀ j, S1 j → w.heap.size ≤ j ∧ j < w'.heap.size) : St W0 w' K (r :: L) := by
  obtain ⟨a, S, F, b, c, d, e⟩ := h.quiet k (fun _ _ h => h)
  obtain ⟨h0, S', F', b', c', d', e'⟩ := h
  have hb : ∀ j, j < w.heap.size → w'.heap[j]? = w.heap[j]? := fun j hj => k.block j hj (fun h => h)
  refine ⟨a, fun k => S1 k ∨ S' k, F', ⟨S1, S', hr, b'.keep k.size (fun j hj _ => hb j hj), ?_, fun k => Iff.rfl⟩, ?_, K.keep w w' F' d' k.size (fun j hj _ => hb j hj), ?_⟩
  · intro j hj hs
    have := (hS j hj).1
    have := (c' j hs).2
    omega
  · rintro j (hj | hj)
    · have h1 := hS j hj
      exact ⟨Nat.le_trans h0.size h1.1, h1.2⟩
    · exact ⟨(c' j hj).1, Nat.lt_of_lt_of_le (c' j hj).2 k.size⟩
  · intro j hF
    refine ⟨Nat.lt_of_lt_of_le (e' j hF).1 k.size, ?_, fun h2 => ((e' j hF).2.2 h2).same (hb j (e' j hF).1)⟩
    rintro (hj | hj)
    · have := (hS j hj).1
      have := (e' j hF).1
      omega
    · exact (e' j hF).2.1 hj

theorem St.drop {W0 w : World} {K : Know} {r : Res} {L : List Res} (h : St W0 w K (r :: L)) : St W0 w K L := by
  obtain ⟨a, S, F, ⟨S1, S2, h1, h2, h3, h4⟩, c, d, e⟩ := h
  exact ⟨a, S2, F, h2, fun k hk => c k ((h4 k).2 (.inr hk)), d, fun k hk => ⟨(e k hk).1, fun h => (e k hk).2.1 ((h4 k).2 (.inr h)), (e k hk).2.2⟩⟩
theorem St.map {W0 w : World} {K : Know} {L L' : List Res} (h : St W0 w K L) (hL : ∀ S, Holds L w S → Holds L' w S) : St W0 w K L' := by
  obtain ⟨a, S, F, b, c⟩ := h
  exact ⟨a, S, F, hL _ b, c⟩
theorem St.p1 {W0 w : World} {K : Know} {a b : Res} {L : List Res} (h : St W0 w K (a :: b :: L)) : St W0 w K (b :: a :: L) := h.map fun _ => Holds.swap
theorem St.p2 {W0 w : World} {K : Know} {a b c : Res} {L : List Res} (h : St W0 w K (a :: b :: c :: L)) : St W0 w K (c :: a :: b :: L) := St.p1 (h.map fun _ h => h.cons fun _ => Holds.swap)
theorem St.p3 {W0 w : World} {K : Know} {a b c d : Res} {L : List Res} (h : St W0 w K (a :: b :: c :: d :: L)) : St W0 w K (d :: a :: b :: c :: L) := St.p2 (h.map fun _ h => h.cons fun _ h => h.cons fun _ => Holds.swap)
theorem St.p4 {W0 w : World} {K : Know} {a b c d e : Res} {L : List Res} (h : St W0 w K (a :: b :: c :: d :: e :: L)) : St W0 w K (e :: a :: b :: c :: d :: L) := St.p3 (h.map fun _ h => h.cons fun _ h => h.cons fun _ h => h.cons fun _ => Holds.swap)
theorem St.p5 {W0 w : World} {K : Know} {a b c d e f : Res} {L : List Res} (h : St W0 w K (a :: b :: c :: d :: e :: f :: L)) : St W0 w K (f :: a :: b :: c :: d :: e :: L) := St.p4 (h.map fun _ h => h.cons fun _ h => h.cons fun _ h => h.cons fun _ h => h.cons fun _ => Holds.swap)

theorem St.allocRaw {W0 w : World} {K : Know} {L : List Res} (h : St W0 w K L) (c : Array Value) (T : TypeId) : St W0 (w.alloc (.cells c T (0, 0))) K (.raw w.heap.size c T :: L) :=
  h.new (S1 := fun k => k = w.heap.size) ((Keeps.refl _ _).alloc _) ⟨heap_alloc_new w _, fun _ => Iff.rfl⟩ (by rintro j rfl; simp)
theorem St.allocOut {W0 w : World} {K : Know} {L : List Res} (h : St W0 w K L) : St W0 (w.alloc (.cells #[.slice none 0 0, .int .i64 0] 0 (0, 0))) K (.out w.heap.size ⟨[], 0⟩ :: L) :=
  h.new (S1 := fun k => k = w.heap.size) ((Keeps.refl _ _).alloc _) ⟨none, ⟨_, heap_alloc_new w _, World.ownsRow_nil _ _ _ _, rfl, by simp⟩, fun k => by simp [OutM]⟩ (by rintro j rfl; simp)
theorem St.nilRow {W0 w : World} {K : Know} {L : List Res} (h : St W0 w K L) (T : TypeId) (sz : Nat) : St W0 w K (.row (.slice none 0 0) T sz 0 [] :: L) :=
  h.new (S1 := fun _ => False) (Keeps.refl _ _) ⟨World.ownsRow_nil _ _ _ _, fun k => by simp [Value.ownBlock]⟩ (fun _ h => h.elim)

theorem St.rawGet {W0 w : World} {K : Know} {L : List Res} {b : Nat} {c : Array Value} {T : TypeId} (h : St W0 w K (.raw b c T :: L)) : w.heap[b]? = some (.cells c T (0, 0)) := by
  obtain ⟨_, S, F, ⟨S1, S2, h1, _⟩, _⟩ := h
  exact h1.1
theorem St.rawCell {W0 w : World} {K : Know} {L : List Res} {b : Nat} {c : Array Value} {T : TypeId} (h : St W0 w K (.raw b c T :: L)) (j : Nat) : w.cell? ⟨b, j, none⟩ = c[j]? := cell_at h.rawGet j
theorem St.rawFree {W0 w : World} {K : Know} {L : List Res} {b : Nat} {c : Array Value} {T : TypeId} (h : St W0 w K (.raw b c T :: L)) (j : Nat) : w.frozen? ⟨b, j, none⟩ = false := free_at h.rawGet j
theorem St.rawSet {W0 w : World} {K : Know} {L : List Res} {b : Nat} {c : Array Value} {T : TypeId} (h : St W0 w K (.raw b c T :: L)) (j : Nat) (v : Value) : St W0 (w.setCell ⟨b, j, none⟩ v) K (.raw b (c.setIfInBounds j v) T :: L) := by
  refine h.step fun S1 h1 => ⟨S1, ⟨heap_setCell_self h1.1 v, h1.2⟩, (Keeps.refl _ _).setCell _ _ (.inl ((h1.2 b).2 rfl)), fun k hk => ⟨.inl hk, ?_⟩⟩
  have := (h1.2 k).1 hk
  subst this
  simpa using heap_lt h1.1
theorem St.inpGet {W0 w : World} {K : Know} {L : List Res} {b : Nat} {i : InS} (h : St W0 w K (.inp b i :: L)) : IsIn w b i := by
  obtain ⟨_, S, F, ⟨S1, S2, h1, _⟩, _⟩ := h
  exact h1.1
theorem St.outGet {W0 w : World} {K : Know} {L : List Res} {b : Nat} {o : OutS} (h : St W0 w K (.out b o :: L)) : ∃ g, IsOut w b g o := by
  obtain ⟨_, S, F, ⟨S1, S2, ⟨g, h1, _⟩, _⟩, _⟩ := h
  exact ⟨g, h1⟩
theorem St.rowGet {W0 w : World} {K : Know} {L : List Res} {v : Value} {T : TypeId} {sz n : Nat} {xs : List Value} (h : St W0 w K (.row v T sz n xs :: L)) : w.ownsRow 0 T sz v n xs := by
  obtain ⟨_, S, F, ⟨S1, S2, h1, _⟩, _⟩ := h
  exact h1.1

theorem St.inp {W0 w w' : World} {K : Know} {L : List Res} {b : Nat} {i i' : InS} (h : St W0 w K (.inp b i :: L)) (h' : IsIn w' b i') (k : Keeps (· = b) w w') : St W0 w' K (.inp b i' :: L) :=
  h.step fun S1 h1 => ⟨S1, ⟨h', h1.2⟩, k.mono (fun k _ hk => (h1.2 k).2 hk), fun k hk => ⟨.inl hk, by have := (h1.2 k).1 hk; subst this; exact h'.lt⟩⟩
theorem IsOut.same {w : World} {b : Nat} {g g' : Option Nat} {o o' : OutS} (h : IsOut w b g o) (h' : IsOut w b g' o') : g = g' := by
  obtain ⟨v, h1, _, h2, _⟩ := h
  obtain ⟨v', h1', _, h2', _⟩ := h'
  rw [h1] at h1'
  simp at h1'
  rw [← h2, ← h2', h1'.1]
theorem St.out {W0 w w' : World} {K : Know} {L : List Res} {b : Nat} {o o' : OutS} {g g' : Option Nat} (h : St W0 w K (.out b o :: L)) (hg : IsOut w b g o) (h' : IsOut w' b g' o') (k : Keeps (OutM b g) w w') (n : Newer w g g') : St W0 w' K (.out b o' :: L) := by
  refine h.step fun S1 h1 => ?_
  obtain ⟨g2, h1, h2⟩ := h1
  obtain rfl := h1.same hg
  refine ⟨OutM b g', ⟨g', h', fun _ => Iff.rfl⟩, k.mono (fun k _ hk => (h2 k).2 hk), ?_⟩
  rintro j (rfl | hj)
  · exact ⟨.inl ((h2 _).2 (.inl rfl)), h'.lt⟩
  · refine ⟨?_, h'.glt j hj.symm⟩
    rcases n with rfl | ⟨x, rfl, hx⟩
    · exact .inl ((h2 _).2 (.inr hj))
    · simp at hj; subst hj; exact .inr hx
/-- A new Input. -/
theorem St.newInp {W0 w w' : World} {K : Know} {L : List Res} {b : Nat} {i : InS} (h : St W0 w K L) (h' : IsIn w' b i) (k : Keeps (fun _ => False) w w') (hb : w.heap.size ≤ b) : St W0 w' K (.inp b i :: L) :=
  h.new (S1 := (· = b)) k ⟨h', fun _ => Iff.rfl⟩ (by rintro j rfl; exact ⟨hb, h'.lt⟩)
/-- A row that was appended to. -/
theorem St.rowGrown {W0 w w' : World} {K : Know} {L : List Res} {v v' : Value} {T : TypeId} {sz n n' : Nat} {xs xs' : List Value} (h : St W0 w K (.row v T sz n xs :: L)) (h' : w'.ownsRow 0 T sz v' n' xs') (k : w.grownBy w' v.ownBlock) (hn : Newer w v.ownBlock v'.ownBlock) :
    St W0 w' K (.row v' T sz n' xs' :: L) := by
  refine h.step fun S1 h1 => ⟨fun k => v'.ownBlock = some k, ⟨h', fun _ => Iff.rfl⟩, (Keeps.of_grown k).mono (fun k _ hk => (h1.2 k).2 hk.symm), ?_⟩
  intro j hj
  refine ⟨?_, (h'.lt j hj).2⟩
  rcases hn with e | ⟨x, e, hx⟩
  · exact .inl ((h1.2 _).2 (e ▸ hj))
  · rw [e] at hj; simp at hj; subst hj; exact .inr hx
/-- What was made is left as it is. -/
def Res.plain : Res → Prop
  | .raw _ _ _ => True
  | .row _ _ _ _ _ => True
  | _ => False
theorem Res.unf {r : Res} {w : World} {S : Nat → Prop} (hp : r.plain) (h : r.holds w S) {k : Nat} (hk : S k) : Unf w k := by
  cases r with
  | raw b c T => obtain ⟨h1, h2⟩ := h; rw [(h2 k).1 hk]; exact ⟨c, T, h1⟩
  | row v T sz n xs =>
    obtain ⟨⟨_, h1⟩, h2⟩ := h
    have h3 := (h2 k).1 hk
    rcases h1 with ⟨rfl, _⟩ | ⟨x, cap, cur, rfl, _, hg, _⟩
    · cases h3
    · injection h3 with h3; subst h3; exact ⟨cur, T, hg⟩
  | inp _ _ => exact hp.elim
  | out _ _ => exact hp.elim
  | gen _ => exact hp.elim
theorem St.freeze {W0 w : World} {K K' : Know} {L : List Res} {r : Res} (h : St W0 w K (r :: L)) (hk : ∀ F S1, K.p w F → r.holds w S1 → K'.p w (fun k => F k ∨ (S1 k ∧ k < w.heap.size))) (hp : r.plain := by trivial) : St W0 w (K.and K') L := by
  obtain ⟨a, S, F, ⟨S1, S2, h1, h2, h3, h4⟩, c, d, e⟩ := h
  refine ⟨a, S2, fun k => F k ∨ (S1 k ∧ k < w.heap.size), h2, fun k hk => c k ((h4 k).2 (.inr hk)), ⟨K.mono _ _ _ d (fun k hk => .inl hk), hk F S1 d h1⟩, ?_⟩
  rintro k (hF | ⟨hF, hl⟩)
  · exact ⟨(e k hF).1, fun h => (e k hF).2.1 ((h4 k).2 (.inr h)), (e k hF).2.2⟩
  · exact ⟨hl, h3 k hF, fun _ => Res.unf hp h1 hF⟩

end Go.Proofs.YtenojajfacacoaaDoor
