/- A digit of a word, by definition. -/
import Derived.Test.YtenojajfacacoaaDoorSc1P
import Derived.Test.YtenojajfacacoaaDoorSb1
import Derived.Test.YtenojajfacacoaaDoorRegOp
import Derived.RegionTactic
import Derived.WalkMore
namespace Go.Proofs.YtenojajfacacoaaDoor
open Go.RowKit

theorem op_appm {W0 w : World} {K : Know} {L : List Res} {o : Oper} {a : Act} {KK : Act → World → Prop} {Q : Exit → Act → World → Prop} (sl x : Operand) (t : TypeId)
    (ho : o.op = .call { callee := .builtin .append, args := #[sl, x], argTypes := #[t, t] })
    (e : TypeId) {z : Value} {size bytes : Nat} (ht : Tryd.prog.underlying t = some (.slice e)) (he : ElemT Tryd.prog e z size bytes)
    (v : Value) (n : Nat) (xs : List Value) (hs : a.eval sl = v) (bS m : Nat) (cs : Array Value) (T : TypeId) (hst : St W0 w K (.raw bS cs T :: .row v e size n xs :: L))
    (hx : a.eval x = .slice (some ⟨bS, 0, none⟩) m m) (hl : cs.toList.length = m * size) (h1 : ∀ u ∈ cs.toList, u.oneCell' = true)
    (h63 : n + m ≤ maxLen) (hbytes : (n + m) * bytes ≤ 140737488355328)
    (h : ∀ v' w', St W0 w' K (.row v' e size (n + m) (xs ++ cs.toList) :: L) → KK (a.put o.dst v') w') : o.wp Tryd.prog a w KK Q := by
  have hc := hst.rawCell
  have hst2 := hst.p1
  obtain ⟨⟨i, g1, g2, g3, g4⟩, g5, g6⟩ := he
  obtain ⟨v', w', hr, h2, h3, h4⟩ := app_val (P := Tryd.prog) w t o.type e i z size bytes ht g1 g2 g3 g4 g5 g6 v n xs hst2.rowGet ⟨bS, 0, none⟩ m m cs.toList hl (fun j u hj => by
    have ha : (⟨bS, 0, none⟩ : Addr).add j = ⟨bS, j, none⟩ := by unfold Addr.add; split <;> simp_all
    rw [ha, hc j]
    simpa using hj) h1 h63 hbytes
  unfold Oper.wp execOp
  simp only [ho, resolve, invoke, builtin, Sem.run_bind, Sem.run_pure, Result.andThen_ok, List.map_toArray, List.map_cons, List.map_nil, hs, hx, hr]
  exact h v' w' (hst2.rowGrown h2 h3 h4).p1.drop
theorem build2 (a b : Int) (w : World) : (Instr.buildSlice 56 2 #[(0, .int .u8 a), (1, .int .u8 b)]).run Tryd.prog w = .ok (.slice (some ⟨w.heap.size, 0, none⟩) 2 2) (w.alloc (.cells #[.int .u8 a, .int .u8 b] 5 (0, 0))) := by go_simp
theorem exec_build2 {o : Oper} {ρ : Operand → Value} (ps : Array (Nat × Value)) (v : Value) (w w' : World) (ho : execOp ρ o = (do pure (Next.value (← Instr.buildSlice 56 2 ps)))) (hb : (Instr.buildSlice 56 2 ps).run Tryd.prog w = .ok v w') : (execOp ρ o).run Tryd.prog w = .ok (.value v) w' := by
  rw [ho]
  simp [hb, Result.andThen]
set_option maxHeartbeats 4000000 in
set_option maxRecDepth 100000 in
theorem rs_digit (n : Nat) (hn : n < 16) {W0 w : World} {K : Know} {L : List Res} (h : St W0 w K L) :
    Calls Tryd.prog 37 #[.int .i64 n] w fun en w' => en = .returned (.int .u8 (hexD n).toNat) ∧ St W0 w' K L := by
  have H := Lib.hid h
  have hn1 : (n : Int) < 16 := by omega
  have HE := Lib.hid (show (hexD n).toNat = if n < 10 then 48 + n else 87 + n by unfold hexD; split <;> (rw [UInt8.toNat_ofNat']; omega))
  clear h hn
  by_cases h1 : n < 10
  · have h2 : (n : Int) < 10 := by omega
    have h3 : decide ((n : Int) < 10) = true := decide_eq_true h2
    rw [if_pos h1] at HE
    have h4 : (48 + (n : Int)) % 256 = (((hexD n).toNat : Nat) : Int) := by rw [HE.out]; omega
    clear h1
    go_enter Tryd.func37, Tryd.ntmps37
    go_wp2
    go_ret
    exact ⟨by rw [HE.out]; rfl, H.out⟩
  · have h2 : ¬ (n : Int) < 10 := by omega
    have h3 : decide ((n : Int) < 10) = false := decide_eq_false h2
    rw [if_neg h1] at HE
    clear h1
    go_enter Tryd.func37, Tryd.ntmps37
    go_wp2
    go_ret
    have e9 : (97 + (n : Int) - 10) = ((87 + n : Nat) : Int) := by omega
    exact ⟨by rw [HE.out, ← e9]; rfl, H.out⟩

theorem rs_digitE (v : Int) (n : Nat) (d : UInt8) (hv : v = n) (hn : n < 16) (hd : hexD n = d) {W0 w : World} {K : Know} {L : List Res} (h : St W0 w K L) :
    Calls Tryd.prog 37 #[.int .i64 v] w fun en w' => en = .returned (.int .u8 d.toNat) ∧ St W0 w' K L := by
  subst hv hd; exact rs_digit n hn h

end Go.Proofs.YtenojajfacacoaaDoor
