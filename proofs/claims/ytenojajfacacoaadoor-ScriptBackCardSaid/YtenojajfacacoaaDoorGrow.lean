/- Rows of one's own that grow. -/
import Derived.Test.YtenojajfacacoaaDoorS1
namespace Go.Proofs.YtenojajfacacoaaDoor
open Go.RowKit

/-- What a type's elements are. -/
def ElemT (P : Program) (e : TypeId) (z : Value) (size bytes : Nat) : Prop :=
  (∃ i, P.info? e = some i ∧ i.zero = some z ∧ i.size = size ∧ i.bytes = bytes) ∧ z.cells.size = size ∧ 0 < size
theorem elemT_of {P : Program} {e : TypeId} {z : Value} {size bytes : Nat} (h : (P.info? e).map (fun i => (i.zero, i.size, i.bytes)) = some (some z, size, bytes)) (h1 : z.cells.size = size) (h2 : 0 < size) : ElemT P e z size bytes := by
  obtain ⟨i, a, b, c, d⟩ := info_parts h
  exact ⟨⟨i, a, b, c, d⟩, h1, h2⟩

theorem cells_new (w : World) (c : List Value) (T : TypeId) : ∀ j u, c[j]? = some u → (w.alloc (.cells c.toArray T)).cell? ((⟨w.heap.size, 0, none⟩ : Addr).add j) = some u := by
  intro j u hj
  have ha : (⟨w.heap.size, 0, none⟩ : Addr).add j = ⟨w.heap.size, j, none⟩ := by unfold Addr.add; split <;> simp_all
  rw [ha, cell_at (heap_alloc_new w _) j]
  simpa using hj

theorem St.rowLit {W0 w : World} {K : Know} {L : List Res} (h : St W0 w K L) (c : List Value) (T : TypeId) (sz n : Nat) (hc : c.length = n * sz) (hn : n ≤ maxLen) :
    St W0 (w.alloc (.cells c.toArray T)) K (.row (.slice (some ⟨w.heap.size, 0, none⟩) n n) T sz n c :: L) :=
  h.new (S1 := fun k => k = w.heap.size) ((Keeps.refl _ _).alloc _)
    ⟨⟨hc, .inr ⟨w.heap.size, n, c.toArray, rfl, Nat.zero_le _, heap_alloc_new w _, Nat.le_refl _, hn, by simpa using hc, by simp [← hc]⟩⟩, fun k => by simp [Value.ownBlock]; exact eq_comm⟩ (by rintro j rfl; simp)

theorem wpl_app_st {W0 w : World} {K : Know} {L : List Res} {ops : Array Oper} {rest : List Oper} {o : Oper} {a : Act} {Q : Exit → Act → World → Prop} (hgd : o.guard = none) (sl x : Operand) (t : TypeId)
    (ho : o.op = .call { callee := .builtin .append, args := #[sl, x], argTypes := #[t, t] })
    (e : TypeId) {z : Value} {size bytes : Nat} (ht : Tryd.prog.underlying t = some (.slice e)) (he : ElemT Tryd.prog e z size bytes)
    (v : Value) (n : Nat) (xs : List Value) (hs : a.eval sl = v) (hst : St W0 w K (.row v e size n xs :: L))
    (ad : Addr) (m c : Nat) (news : List Value) (hx : a.eval x = .slice (some ad) m c) (hl : news.length = m * size) (hnews : ∀ j u, news[j]? = some u → w.cell? (ad.add j) = some u) (h1 : ∀ u ∈ news, u.oneCell' = true)
    (h63 : n + m ≤ maxLen) (hbytes : (n + m) * bytes ≤ 140737488355328)
    (h : ∀ v' w', St W0 w' K (.row v' e size (n + m) (xs ++ news) :: L) → wpList Tryd.prog ops Q rest (a.put o.dst v') w') : wpList Tryd.prog ops Q (o :: rest) a w := by
  obtain ⟨⟨i, g1, g2, g3, g4⟩, g5, g6⟩ := he
  exact wpl_app_val hgd sl x t ho e i z size bytes ht g1 g2 g3 g4 g5 g6 v n xs hs hst.rowGet ad m c news hx hl hnews h1 h63 hbytes
    fun v' w' k1 k2 k3 => h v' w' (hst.rowGrown k1 k2 k3)
theorem wpl_app1_st {W0 w : World} {K : Know} {L : List Res} {ops : Array Oper} {rest : List Oper} {o : Oper} {a : Act} {Q : Exit → Act → World → Prop} (hgd : o.guard = none) (sl x : Operand) (t : TypeId)
    (ho : o.op = .call { callee := .builtin .append, args := #[sl, x], argTypes := #[t, t] })
    (e : TypeId) {z : Value} {size bytes : Nat} (ht : Tryd.prog.underlying t = some (.slice e)) (he : ElemT Tryd.prog e z size bytes)
    (v : Value) (n : Nat) (xs : List Value) (hs : a.eval sl = v) (hst : St W0 w K (.row v e size n xs :: L))
    (news : List Value) (T : TypeId) (hx : a.eval x = .slice (some ⟨w.heap.size, 0, none⟩) 1 1) (hl : news.length = size) (h1 : ∀ u ∈ news, u.oneCell' = true)
    (h63 : n + 1 ≤ maxLen) (hbytes : (n + 1) * bytes ≤ 140737488355328)
    (h : ∀ v' w', St W0 w' K (.row v' e size (n + 1) (xs ++ news) :: L) → wpList Tryd.prog ops Q rest (a.put o.dst v') w') : wpList Tryd.prog ops Q (o :: rest) a (w.alloc (.cells news.toArray T)) :=
  wpl_app_st hgd sl x t ho e ht he v n xs hs (hst.alloc _) ⟨w.heap.size, 0, none⟩ 1 1 news hx (by omega) (cells_new w news T) h1 h63 hbytes h
theorem St.rowSlice {W0 w : World} {K : Know} {L : List Res} {v : Value} {T : TypeId} {sz n : Nat} {xs : List Value} (h : St W0 w K (.row v T sz n xs :: L)) (hn : 0 < n) : ∃ g cap, v = .slice (some ⟨g, 0, none⟩) n cap := by
  rcases h.rowGet.2 with ⟨_, h0⟩ | ⟨g, cap, _, rfl, _⟩
  · omega
  · exact ⟨g, cap, rfl⟩
theorem St.rowAny {W0 w : World} {K : Know} {L : List Res} {v : Value} {T : TypeId} {sz n : Nat} {xs : List Value} (h : St W0 w K (.row v T sz n xs :: L)) : ∃ p cap, v = .slice p n cap := by
  rcases h.rowGet.2 with ⟨rfl, h0⟩ | ⟨g, cap, _, rfl, _⟩
  · exact ⟨none, 0, by rw [h0]⟩
  · exact ⟨_, cap, rfl⟩
theorem St.rowCell {W0 w : World} {K : Know} {L : List Res} {g cap : Nat} {T : TypeId} {sz n : Nat} {xs : List Value} (h : St W0 w K (.row (.slice (some ⟨g, 0, none⟩) n cap) T sz n xs :: L)) (j : Nat) (hj : j < n * sz) : w.cell? ⟨g, j, none⟩ = xs[j]? := h.rowGet.cellAt j hj
theorem St.rowFree {W0 w : World} {K : Know} {L : List Res} {g cap : Nat} {T : TypeId} {sz n : Nat} {xs : List Value} (h : St W0 w K (.row (.slice (some ⟨g, 0, none⟩) n cap) T sz n xs :: L)) (j : Nat) : w.frozen? ⟨g, j, none⟩ = false := h.rowGet.frozenAt j
theorem St.rowSet {W0 w : World} {K : Know} {L : List Res} {g cap : Nat} {T : TypeId} {sz n : Nat} {xs : List Value} (h : St W0 w K (.row (.slice (some ⟨g, 0, none⟩) n cap) T sz n xs :: L)) (j : Nat) (u : Value) :
    St W0 (w.setCell ⟨g, j, none⟩ u) K (.row (.slice (some ⟨g, 0, none⟩) n cap) T sz n (xs.set j u) :: L) := by
  refine h.step fun S1 h1 => ⟨S1, ⟨(h1.1.stored j u).1, h1.2⟩, (Keeps.refl _ _).setCell _ _ (.inl ((h1.2 g).2 rfl)), fun k hk => ⟨.inl hk, ?_⟩⟩
  have := (h1.1.lt k ((h1.2 k).1 hk)).2
  simpa using this
theorem St.rowText {W0 w : World} {K : Know} {L : List Res} {v : Value} {s : Bs} {n : Nat} (h : St W0 w K (.row v 5 1 n (bvals s) :: L)) (hn : n = s.length) : (convert 56 9 v).run Tryd.prog w = .ok (.string (bb s)) w := by
  subst hn
  exact owns_text h.rowGet

theorem elem_u8 : ElemT Tryd.prog 5 (.int .u8 0) 1 1 := elemT_of (by kernel_rfl) rfl (by decide)

end Go.Proofs.YtenojajfacacoaaDoor
