/- Lines of scripts (pure). -/
import Derived.Test.YtenojajfacacoaaDoorSc8
namespace Go.Proofs.YtenojajfacacoaaDoor
open Go.RowKit

theorem elem_batS : ElemT Tryd.prog 45 (.agg #[.int .i64 0, .int .i64 0, .bool false, .bool false, .bool false, .int .i64 0, .int .i64 0, .int .i64 0, .int .i64 0, .int .i64 0, .int .i64 0, .slice none 0 0]) 12 96 := elemT_of (by kernel_rfl) rfl (by decide)
set_option maxRecDepth 100000 in
theorem buildB (n0 n1 n2 n3 n4 n5 n6 n7 : Int) (va vt vc : Bool) (w : World) : (Instr.buildSlice 22 1 #[(0, .agg #[.int .i64 n0, .int .i64 n1, .bool va, .bool vt, .bool vc, .int .i64 n2, .int .i64 n3, .int .i64 n4, .int .i64 n5, .int .i64 n6, .int .i64 n7, .slice none 0 0])]).run Tryd.prog w = .ok (.slice (some ⟨w.heap.size, 0, none⟩) 1 1) (w.alloc (.cells #[.int .i64 n0, .int .i64 n1, .bool va, .bool vt, .bool vc, .int .i64 n2, .int .i64 n3, .int .i64 n4, .int .i64 n5, .int .i64 n6, .int .i64 n7, .slice none 0 0] 45 (0, 0))) := by go_simp
theorem exec_buildB {o : Oper} {ρ : Operand → Value} (ps : Array (Nat × Value)) (v : Value) (w w' : World) (ho : execOp ρ o = (do pure (Next.value (← Instr.buildSlice 22 1 ps)))) (hb : (Instr.buildSlice 22 1 ps).run Tryd.prog w = .ok v w') : (execOp ρ o).run Tryd.prog w = .ok (.value v) w' := by
  rw [ho]
  simp [hb, Result.andThen]
theorem St.setExS {W0 w : World} {K : Know} {L : List Res} {b : Nat} {c : Array Value} {T : TypeId} (h : St W0 w K (.raw b c T :: L)) (j : Nat) (v : Value) : ∃ wz, w.setCell ⟨b, j, none⟩ v = wz ∧ St W0 wz K (.raw b (c.setIfInBounds j v) T :: L) := ⟨_, rfl, h.rawSet j v⟩

end Go.Proofs.YtenojajfacacoaaDoor
