/- Contracts of package output. -/
import Derived.Test.YtenojajfacacoaaDoorRef01
import Derived.Test.YtenojajfacacoaaDoorAppend
namespace Go.Proofs.YtenojajfacacoaaDoor
open Go.RowKit

/-- What an Output is. -/
structure OutS where
  bytes : Bs
  err : Int
deriving DecidableEq

def OutS.fail (o : OutS) (e : Int) : OutS := if o.err = 0 then { o with err := e } else o
def OutS.put (o : OutS) (s : Bs) : OutS := if o.err = 0 then { o with bytes := o.bytes ++ s } else o
def OutS.int (o : OutS) (n size : Int) : OutS := if fits n size then o.put (beBytes n size.toNat) else o.fail 11
def OutS.text (o : OutS) : Bs × Int := if o.err = 0 then (o.bytes, 0) else ([], o.err)

/-- The cells of bytes. -/
def bvals (s : Bs) : List Value := s.map fun c => Value.int .u8 c.toNat

theorem bvals_length (s : Bs) : (bvals s).length = s.length := by simp [bvals]
theorem bvals_snoc (s : Bs) (c : UInt8) : bvals s ++ [Value.int .u8 (c.toNat : Int)] = bvals (s ++ [c]) := by simp [bvals]
theorem bvals_append (s t : Bs) : bvals (s ++ t) = bvals s ++ bvals t := by simp [bvals]

/-- Which blocks an Output has. -/
def OutM (b : Nat) (g : Option Nat) (k : Nat) : Prop := k = b ∨ some k = g

def IsOut (w : World) (b : Nat) (g : Option Nat) (o : OutS) : Prop :=
  ∃ v, w.heap[b]? = some (.cells #[v, .int .i64 o.err] 0 (0, 0)) ∧ w.ownsRow 0 5 1 v o.bytes.length (bvals o.bytes) ∧ v.ownBlock = g ∧ g ≠ some b

theorem out_M {n b : Nat} {g : Option Nat} (h : n ≤ b) (hg : ∀ k, g = some k → n ≤ k) : ∀ i, OutM b g i → n ≤ i := by
  rintro i (rfl | e)
  · exact h
  · exact hg i e.symm
theorem out_M0 {n b : Nat} (h : n ≤ b) : ∀ i, OutM b none i → n ≤ i := out_M h (by simp)
theorem IsOut.lt {w : World} {b : Nat} {g : Option Nat} {o : OutS} (h : IsOut w b g o) : b < w.heap.size := by
  obtain ⟨v, h, _⟩ := h
  exact heap_lt h
theorem IsOut.glt {w : World} {b : Nat} {g : Option Nat} {o : OutS} (h : IsOut w b g o) : ∀ k, g = some k → k < w.heap.size := by
  obtain ⟨v, _, h, rfl, _⟩ := h
  exact fun k hk => (h.lt k hk).2

theorem ownsRow_keeps {w w' : World} {T : TypeId} {sz : Nat} {v : Value} {n : Nat} {xs : List Value} {M : Nat → Prop} (h : w.ownsRow 0 T sz v n xs) (k : Keeps M w w') (hm : ∀ g, v.ownBlock = some g → ¬ M g) : w'.ownsRow 0 T sz v n xs := by
  obtain ⟨h1, h2⟩ := h
  refine ⟨h1, ?_⟩
  rcases h2 with h2 | ⟨g, cap, cur, rfl, hb, hg, rest⟩
  · exact .inl h2
  · exact .inr ⟨g, cap, cur, rfl, hb, by rw [k.block g (heap_lt hg) (hm g rfl)]; exact hg, rest⟩

theorem IsOut.keeps {w w' : World} {b : Nat} {g : Option Nat} {o : OutS} {M : Nat → Prop} (h : IsOut w b g o) (k : Keeps M w w') (hb : ¬ M b) (hg : ∀ x, g = some x → ¬ M x) : IsOut w' b g o := by
  have hl := h.lt
  obtain ⟨v, h1, h2, h3, h4⟩ := h
  exact ⟨v, (k.block b hl hb).trans h1, ownsRow_keeps h2 k (fun x hx => hg x (h3 ▸ hx)), h3, h4⟩
theorem IsOut.drewN {w : World} {b : Nat} {g : Option Nat} {o : OutS} (h : IsOut w b g o) (n : Nat) : IsOut (w.drewN n) b g o := by
  obtain ⟨v, h1, h2, h3, h4⟩ := h
  exact ⟨v, h1, ownsRow_keeps h2 ((Keeps.refl (fun _ => False) w).drewN n) (by simp), h3, h4⟩

theorem Keeps.of_grown {w w' : World} {row : Option Nat} (h : w.grownBy w' row) : Keeps (fun k => some k = row) w w' :=
  ⟨h.os, h.tape, h.output, h.size, fun k hk hn => h.block k hk hn⟩

theorem OutM.newer {w : World} {b : Nat} {g g' : Option Nat} (h : Newer w g g') : ∀ i, i < w.heap.size → OutM b g' i → OutM b g i := by
  intro i hi hm
  rcases hm with hm | hm
  · exact .inl hm
  · rcases h with rfl | ⟨k, rfl, hk⟩
    · exact .inr hm
    · simp at hm; omega

theorem IsOut.notM {w : World} {b : Nat} {g : Option Nat} {o : OutS} (h : IsOut w b g o) {k : Nat} (hk : w.heap.size ≤ k) : ¬ OutM b g k := by
  rintro (rfl | e)
  · have := h.lt; omega
  · have := h.glt k e.symm; omega
theorem IsOut.alloc {w : World} {b : Nat} {g : Option Nat} {o : OutS} (h : IsOut w b g o) (x : Obj) : IsOut (w.alloc x) b g o :=
  h.keeps (M := fun _ => False) ((Keeps.refl _ _).alloc _) (by simp) (by simp)
/-- A row of other things lies apart. -/
theorem IsOut.apart {w : World} {b : Nat} {g : Option Nat} {o : OutS} {B : Nat} {T : TypeId} {sz n : Nat} {v : Value} {xs : List Value} (h : IsOut w b g o) (k : w.ownsRow B T sz v n xs)
    (h1 : T ≠ 0) (h2 : T ≠ 5) : ∀ x, v.ownBlock = some x → ¬ OutM b g x := by
  intro x hx hm
  obtain ⟨u, hb, ho, hg, hne⟩ := h
  rcases k.2 with ⟨rfl, _⟩ | ⟨g1, cap, cur, rfl, _, hg1, _⟩
  · simp [Value.ownBlock] at hx
  · simp [Value.ownBlock] at hx
    subst hx
    rcases hm with rfl | hm
    · rw [hb] at hg1
      simp at hg1
      exact h1 hg1.2.symm
    · rcases ho.2 with ⟨rfl, _⟩ | ⟨g2, cap2, cur2, rfl, _, hg2, _⟩
      · rw [← hg] at hm; simp [Value.ownBlock] at hm
      · rw [← hg] at hm
        simp [Value.ownBlock] at hm
        subst hm
        rw [hg2] at hg1
        simp at hg1
        exact h2 hg1.2.symm

abbrev outPtr (b : Nat) : Value := .pointer (some ⟨b, 0, none⟩)

theorem info_u8' : (Tryd.prog.info? 5).map (fun i => (i.zero, i.size, i.bytes)) = some (some (.int .u8 0), 1, 1) := by kernel_rfl

theorem strCells_bb (s : Bs) : Lib.strCells (bb s) = bvals s := by simp [Lib.strCells, bvals]

/-- Behind an append and the store of what it made. -/
theorem out_grown {w w1 : World} {b : Nat} {g : Option Nat} {o : OutS} {v v' : Value} {s : Bs}
    (hb : w.heap[b]? = some (.cells #[v, .int .i64 o.err] 0 (0, 0))) (hg : v.ownBlock = g) (hne : g ≠ some b) (he : o.err = 0)
    (hown' : w1.ownsRow 0 5 1 v' (o.bytes.length + s.length) (bvals (o.bytes ++ s))) (hgrow : w.grownBy w1 v.ownBlock) (hn : Newer w v.ownBlock v'.ownBlock) :
    ∃ g', IsOut (w1.setCell ⟨b, 0, none⟩ v') b g' (o.put s) ∧ Keeps (OutM b g) w (w1.setCell ⟨b, 0, none⟩ v') ∧ Newer w g g' := by
  subst hg
  have hk := Keeps.of_grown hgrow
  have hlt := heap_lt hb
  have hb1 : w1.heap[b]? = some (.cells #[v, .int .i64 o.err] 0 (0, 0)) := (hk.block b hlt (fun h => hne h.symm)).trans hb
  have hne' : v'.ownBlock ≠ some b := by
    rcases hn with h | ⟨k, h, hk2⟩
    · rw [h]; exact hne
    · rw [h]; intro h2; simp at h2; omega
  refine ⟨v'.ownBlock, ⟨v', ?_, ?_, rfl, hne'⟩, ?_, hn⟩
  · rw [heap_setCell_self hb1]
    simp [OutS.put, he]
  · have e1 : (o.put s).bytes = o.bytes ++ s := by simp [OutS.put, he]
    rw [e1, List.length_append]
    exact ownsRow_keeps hown' ((Keeps.refl (· = b) w1).setCell _ _ (.inl rfl)) (fun x hx => by rintro rfl; exact hne' hx)
  · exact (hk.mono (fun k _ h => .inr h)).trans ((Keeps.refl (OutM b v.ownBlock) w1).setCell _ _ (.inl (.inl rfl)))

theorem owns_slice {w : World} {B : Nat} {T : TypeId} {sz : Nat} {v : Value} {n : Nat} {xs : List Value} (h : w.ownsRow B T sz v n xs) : ∃ p n' c, v = .slice p n' c := by
  rcases h.2 with ⟨rfl, _⟩ | ⟨_, _, _, rfl, _⟩ <;> exact ⟨_, _, _, rfl⟩

theorem owns_text {w : World} {v : Value} {s : Bs} (h : w.ownsRow 0 5 1 v s.length (bvals s)) :
    (convert 56 9 v).run Tryd.prog w = .ok (.string (bb s)) w := by
  have h' := h
  rcases h.2 with ⟨rfl, h0⟩ | ⟨g, cap, cur, rfl, _⟩
  · have : s = [] := List.length_eq_zero_iff.1 h0
    subst this
    exact run_convert_bytes_nil (P := Tryd.prog) w 56 5 Tryd.underlying56 Tryd.underlying5 0 0 9 Tryd.underlying9
  · exact run_convert_bytes_back (P := Tryd.prog) w 56 9 5 ⟨g, 0, none⟩ cap s Tryd.underlying56 Tryd.underlying5 Tryd.underlying9 (fun j hj => h'.cells (g := g) rfl j _ (by simp [bvals, hj]))

theorem fits_shift (n size : Int) (h0 : -9223372036854775808 ≤ n) (h1 : n < 9223372036854775808) (h2 : 1 ≤ size) (h3 : size ≤ 8) :
    fits n size ↔ wrap64 (n * 2 ^ (64 - 8 * size).toNat) / 2 ^ (64 - 8 * size).toNat = n := by
  have hc : size = 1 ∨ size = 2 ∨ size = 3 ∨ size = 4 ∨ size = 5 ∨ size = 6 ∨ size = 7 ∨ size = 8 := by omega
  unfold fits half wrap64
  rcases hc with rfl | rfl | rfl | rfl | rfl | rfl | rfl | rfl <;> simp <;> omega

theorem beBytes_get (n : Int) (k j : Nat) (h : j < k) : n / 2 ^ (8 * (k - 1 - j)) % 256 = (((beBytes n k)[j]'(by rw [beBytes_length]; exact h)).toNat : Int) := by
  induction k generalizing n with
  | zero => omega
  | succ k ih =>
    have e : beBytes n (k + 1) = beBytes (n / 256) k ++ [UInt8.ofNat (n % 256).toNat] := rfl
    by_cases hj : j = k
    · subst hj
      have h256 : (n % 256).toNat < 256 := by omega
      simp only [e, beBytes_length, List.getElem_append_right, Nat.le_refl, Nat.sub_self, List.getElem_cons_zero]
      simp [Nat.mod_eq_of_lt h256]
      omega
    · have hjk : j < k := by omega
      have h2 := ih (n / 256) hjk
      have h3 : (beBytes n (k + 1))[j]'(by rw [beBytes_length]; exact h) = (beBytes (n / 256) k)[j]'(by rw [beBytes_length]; exact hjk) := by
        simp only [e]
        exact List.getElem_append_left _
      rw [h3, ← h2]
      have h4 : 8 * (k + 1 - 1 - j) = 8 + 8 * (k - 1 - j) := by omega
      rw [h4, Int.pow_add, show (2 : Int) ^ 8 = 256 from rfl, Int.ediv_ediv, if_neg (by omega)]; simp

theorem OutS.put_nil (o : OutS) : o.put [] = o := by unfold OutS.put; simp
theorem OutS.put_put (o : OutS) (s t : Bs) : (o.put s).put t = o.put (s ++ t) := by unfold OutS.put; split <;> simp_all

def OutS.ok (o : OutS) (n : Nat) : Prop := o.bytes.length + n ≤ 140737488355328

end Go.Proofs.YtenojajfacacoaaDoor
