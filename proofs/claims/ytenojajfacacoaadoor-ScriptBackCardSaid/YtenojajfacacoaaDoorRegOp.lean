/- Operations of regions that draw their order. -/
import Derived.Test.YtenojajfacacoaaDoorGrow
import Derived.Test.YtenojajfacacoaaDoorStore
namespace Go.Proofs.YtenojajfacacoaaDoor
open Go.RowKit

theorem op_value {P : Program} {o : Oper} {a : Act} {w w' : World} {v : Value} {KK : Act → World → Prop} {Q : Exit → Act → World → Prop} (hr : (execOp a.eval o).run P w = .ok (.value v) w') (h : KK (a.put o.dst v) w') : o.wp P a w KK Q := by
  unfold Oper.wp
  rw [hr]
  exact h
/-- One element appended, which lies in a block of one's own, inside a region that draws its order. -/
theorem op_app1 {W0 w : World} {K : Know} {L : List Res} {o : Oper} {a : Act} {KK : Act → World → Prop} {Q : Exit → Act → World → Prop} (sl x : Operand) (t : TypeId)
    (ho : o.op = .call { callee := .builtin .append, args := #[sl, x], argTypes := #[t, t] })
    (e : TypeId) {z : Value} {size bytes : Nat} (ht : Tryd.prog.underlying t = some (.slice e)) (he : ElemT Tryd.prog e z size bytes)
    (v : Value) (n : Nat) (xs : List Value) (hs : a.eval sl = v) (bS : Nat) (cs : Array Value) (T : TypeId) (hst : St W0 w K (.raw bS cs T :: .row v e size n xs :: L))
    (hx : a.eval x = .slice (some ⟨bS, 0, none⟩) 1 1) (hl : cs.toList.length = size) (h1 : ∀ u ∈ cs.toList, u.oneCell' = true)
    (h63 : n + 1 ≤ maxLen) (hbytes : (n + 1) * bytes ≤ 140737488355328)
    (h : ∀ v' w', St W0 w' K (.row v' e size (n + 1) (xs ++ cs.toList) :: L) → KK (a.put o.dst v') w') : o.wp Tryd.prog a w KK Q := by
  have hc := hst.rawCell
  have hst2 := hst.p1
  obtain ⟨⟨i, g1, g2, g3, g4⟩, g5, g6⟩ := he
  obtain ⟨v', w', hr, h2, h3, h4⟩ := app_val (P := Tryd.prog) w t o.type e i z size bytes ht g1 g2 g3 g4 g5 g6 v n xs hst2.rowGet ⟨bS, 0, none⟩ 1 1 cs.toList (by omega) (fun j u hj => by
    have ha : (⟨bS, 0, none⟩ : Addr).add j = ⟨bS, j, none⟩ := by unfold Addr.add; split <;> simp_all
    rw [ha, hc j]
    simpa using hj) h1 h63 hbytes
  unfold Oper.wp execOp
  simp only [ho, resolve, invoke, builtin, Sem.run_bind, Sem.run_pure, Result.andThen_ok, List.map_toArray, List.map_cons, List.map_nil, hs, hx, hr]
  exact h v' w' (hst2.rowGrown h2 h3 h4).p1.drop
theorem op_skip {P : Program} {o : Oper} {a : Act} {w w' : World} {KK : Act → World → Prop} {Q : Exit → Act → World → Prop} (hr : (execOp a.eval o).run P w = .ok .skip w') (h : KK (a.put o.dst undef) w') : o.wp P a w KK Q := by
  unfold Oper.wp
  rw [hr]
  exact h
theorem St.setEx {W0 w : World} {K : Know} {L : List Res} {b : Nat} {c : Array Value} {T : TypeId} (h : St W0 w K (.raw b c T :: L)) (j : Nat) (v : Value) : ∃ wz, w.setCell ⟨b, j, none⟩ v = wz ∧ St W0 wz K (.raw b (c.setIfInBounds j v) T :: L) := ⟨_, rfl, h.rawSet j v⟩

end Go.Proofs.YtenojajfacacoaaDoor
