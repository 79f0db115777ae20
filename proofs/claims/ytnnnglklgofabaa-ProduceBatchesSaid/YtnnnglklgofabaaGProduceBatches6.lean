/- A text. -/
import Derived.Test.YtnnnglklgofabaaGProduceBatches4
import Derived.Test.YtnnnglklgofabaaGProduceBatches5
import Derived.Test.YtnnnglklgofabaaGrow
import Derived.Test.YtnnnglklgofabaaGProduceBatches3
import Derived.Test.YtnnnglklgofabaaBlob2
import Derived.Test.YtnnnglklgofabaaS1
import Derived.Test.YtnnnglklgofabaaBlobP
import Derived.Test.YtnnnglklgofabaaHdr1
import Derived.Test.YtnnnglklgofabaaGProduceBatches1
import Derived.Test.YtnnnglklgofabaaBlob1
import Derived.Test.YtnnnglklgofabaaRecs
import Derived.RegionTactic
import Derived.Test.YtnnnglklgofabaaOut
import Derived.Test.YtnnnglklgofabaaGProduceBatches2
import Derived.Deep.RegionHeld3
import Derived.Deep.DeepCutAuto
import Derived.WalkMore
/- A text. -/
namespace Go.Proofs.Ytnnnglklgofabaa
open Go.RowKit

theorem bat_read_good (p : Nat) (s : Bs) (pos : Nat) (hsl : s.length ≤ 1000000) (hp : pos ≤ s.length) (b : BatS) (n : Nat) (hr : reBat (s.drop pos) = .ok (b, n)) {W0 w : World} {K : Know} {L : List Res} (h : St W0 w K (.inp p ⟨s, pos, 0⟩ :: L)) :
  Calls Try.prog 30 #[inPtr p] w fun en w' => ∃ (q : Option Addr) (l : List (RecS × Value)) (cap : Nat), en = .returned (.agg #[.int .i64 b.base, .int .i64 b.leader, .bool b.app, .bool b.txn, .bool b.ctl, .int .i64 b.last, .int .i64 b.first, .int .i64 b.maxt, .int .i64 b.prod, .int .i64 b.epoch, .int .i64 b.seq, .slice q l.length cap]) ∧ l.map (·.1) = b.recs ∧ St W0 w' (K.and (Know.recs (.slice q l.length cap) l)) (.inp p ⟨s, pos + n, 0⟩ :: L) := by
 obtain ⟨x, hx, rfl, hn, ha⟩ := reBat_ok hr
 obtain ⟨r1, r2, r3, r4, r5, r6⟩ := pre_ranges hx
 have h61 := (rePre_ok hx).1
 rw [List.length_drop] at hn h61
 have hl61 : ((s.drop pos).take 61).length = 61 := by rw [List.length_take, List.length_drop]; omega
 have hrl : (((s.drop pos).drop 61).take (x.len - 49).toNat).length ≤ 1000000 := by rw [List.length_take, List.length_drop, List.length_drop]; omega
 have ht1 : (⟨s, pos, 0⟩ : InS).take 61 = ((s.drop pos).take 61, ⟨s, pos + 61, 0⟩) := InS.take_ok rfl (by omega) (by simp only [InS.left]; omega)
 have ht2 : (⟨s, pos + 61, 0⟩ : InS).take (x.len - 49) = (((s.drop pos).drop 61).take (x.len - 49).toNat, ⟨s, pos + 61 + (x.len - 49).toNat, 0⟩) := by
  rw [InS.take_ok rfl (by omega) (by simp only [InS.left]; omega), List.drop_drop]
 have hpre := pre_okA ((s.drop pos).take 61) 0 (by omega)
 rw [List.drop_zero, rePre_take _ (by rw [List.length_drop]; omega), hx] at hpre
 rw [← Nat.add_assoc]
 exact bat_read_ok p _ _ _ _ _ _ x r1 (by rw [hl61]; omega) (by rw [hl61]; omega) hrl r3 r4 r5 r6 ht1 hpre rfl ht2 rfl b ha h
theorem bat_read_bad (p : Nat) (s : Bs) (pos : Nat) (hsl : s.length ≤ 1000000) (hp : pos ≤ s.length) (e : Int) (hr : reBat (s.drop pos) = .error e) {W0 w : World} {K : Know} {L : List Res} (h : St W0 w K (.inp p ⟨s, pos, 0⟩ :: L)) :
   Calls Try.prog 30 #[inPtr p] w fun en w' => en = .returned (.agg #[.int .i64 0, .int .i64 0, .bool false, .bool false, .bool false, .int .i64 0, .int .i64 0, .int .i64 0, .int .i64 0, .int .i64 0, .int .i64 0, .slice none 0 0]) ∧ ∃ q, q ≤ s.length ∧ St W0 w' K (.inp p ⟨s, q, e⟩ :: L) := by
 have hne := reBat_ne hr
 by_cases h61 : s.length < pos + 61
 · unfold reBat at hr
   rw [rePre_short (by rw [List.length_drop]; omega)] at hr
   cases hr
   have ht1 : (⟨s, pos, 0⟩ : InS).take 61 = ([], ⟨s, pos, 1⟩) := InS.take_short (by omega) (by simp only [InS.left]; omega)
   obtain ⟨q, _, hpre⟩ := pre_shortA [] 0 (Nat.le_refl _) (by decide)
   exact (bat_read_pre p _ _ ⟨s, pos, 1⟩ _ [] PreS.zero 1 1 (by decide) (by decide) ht1 hpre rfl (by decide) rfl rfl (by decide) h).mono fun _ _ hh => ⟨hh.1, pos, hp, hh.2⟩
 have hl61 : ((s.drop pos).take 61).length = 61 := by rw [List.length_take, List.length_drop]; omega
 have ht1 : (⟨s, pos, 0⟩ : InS).take 61 = ((s.drop pos).take 61, ⟨s, pos + 61, 0⟩) := InS.take_ok rfl (by omega) (by simp only [InS.left]; omega)
 have hpre := pre_okA ((s.drop pos).take 61) 0 (by omega)
 rw [List.drop_zero, rePre_take _ (by rw [List.length_drop]; omega)] at hpre
 unfold reBat at hr
 cases hx : rePre (s.drop pos) with
 | error f =>
   rw [hx] at hr hpre
   simp only at hr hpre
   cases hr
   exact (bat_read_pre p _ _ ⟨s, pos + 61, e⟩ _ _ PreS.zero e e (by decide) (by rw [hl61]; omega) ht1 hpre rfl hne rfl rfl hne h).mono fun _ _ hh => ⟨hh.1, pos + 61, by omega, hh.2⟩
 | ok x =>
   rw [hx] at hr hpre
   simp only at hr hpre
   obtain ⟨r1, r2, r3, r4, r5, r6⟩ := pre_ranges hx
   by_cases hlen : (s.drop pos).length < 61 + (x.len - 49).toNat
   · rw [if_pos hlen] at hr
     cases hr
     rw [List.length_drop] at hlen
     have ht2 : (⟨s, pos + 61, 0⟩ : InS).take (x.len - 49) = ([], ⟨s, pos + 61, 1⟩) := InS.take_short (by omega) (by simp only [InS.left]; omega)
     exact (bat_read_take p _ _ _ _ _ _ x 1 r1 (by rw [hl61]; omega) ht1 hpre rfl ht2 rfl (by decide) h).mono fun _ _ hh => ⟨hh.1, pos + 61, by omega, hh.2⟩
   · rw [if_neg hlen] at hr
     rw [List.length_drop] at hlen
     have hrl : (((s.drop pos).drop 61).take (x.len - 49).toNat).length ≤ 1000000 := by rw [List.length_take, List.length_drop, List.length_drop]; omega
     have ht2 : (⟨s, pos + 61, 0⟩ : InS).take (x.len - 49) = (((s.drop pos).drop 61).take (x.len - 49).toNat, ⟨s, pos + 61 + (x.len - 49).toNat, 0⟩) := by
      rw [InS.take_ok rfl (by omega) (by simp only [InS.left]; omega), List.drop_drop]
     cases ha : asmB x ((s.drop pos).take 61) (((s.drop pos).drop 61).take (x.len - 49).toNat) with
     | ok b => rw [ha] at hr; cases hr
     | error f =>
      rw [ha] at hr
      simp only at hr
      cases hr
      exact (bat_read_asm p _ _ _ _ _ _ x r1 (by rw [hl61]; omega) (by rw [hl61]; omega) hrl r3 r4 r5 r6 ht1 hpre rfl ht2 rfl ⟨s, pos + 61 + (x.len - 49).toNat, e⟩ e ha rfl h).mono fun _ _ hh => ⟨hh.1, _, by omega, hh.2⟩
theorem op_value {P : Program} {o : Oper} {a : Act} {w w' : World} {v : Value} {KK : Act → World → Prop} {Q : Exit → Act → World → Prop} (hr : (execOp a.eval o).run P w = .ok (.value v) w') (h : KK (a.put o.dst v) w') : o.wp P a w KK Q := by
 unfold Oper.wp
 rw [hr]
 exact h
theorem op_app1 {W0 w : World} {K : Know} {L : List Res} {o : Oper} {a : Act} {KK : Act → World → Prop} {Q : Exit → Act → World → Prop} (sl x : Operand) (t : TypeId)
    (ho : o.op = .call { callee := .builtin .append, args := #[sl, x], argTypes := #[t, t] })
    (e : TypeId) {z : Value} {size bytes : Nat} (ht : Try.prog.underlying t = some (.slice e)) (he : ElemT Try.prog e z size bytes)
    (v : Value) (n : Nat) (xs : List Value) (hs : a.eval sl = v) (bS : Nat) (cs : Array Value) (T : TypeId) (hst : St W0 w K (.raw bS cs T :: .row v e size n xs :: L))
    (hx : a.eval x = .slice (some ⟨bS, 0, none⟩) 1 1) (hl : cs.toList.length = size) (h1 : ∀ u ∈ cs.toList, u.oneCell' = true)
    (h63 : n + 1 ≤ maxLen) (hbytes : (n + 1) * bytes ≤ 140737488355328)
    (h : ∀ v' w', St W0 w' K (.row v' e size (n + 1) (xs ++ cs.toList) :: L) → KK (a.put o.dst v') w') : o.wp Try.prog a w KK Q := by
  have hc := hst.rawCell
  have hst2 := hst.p1
  obtain ⟨⟨i, g1, g2, g3, g4⟩, g5, g6⟩ := he
  obtain ⟨v', w', hr, h2, h3, h4⟩ := app_val (P := Try.prog) w t o.type e i z size bytes ht g1 g2 g3 g4 g5 g6 v n xs hst2.rowGet ⟨bS, 0, none⟩ 1 1 cs.toList (by omega) (fun j u hj => by
    have ha : (⟨bS, 0, none⟩ : Addr).add j = ⟨bS, j, none⟩ := by unfold Addr.add; split <;> simp_all
    rw [ha, hc j]
    simpa using hj) h1 h63 hbytes
  unfold Oper.wp execOp
  simp only [ho, resolve, invoke, builtin, Sem.run_bind, Sem.run_pure, Result.andThen_ok, List.map_toArray, List.map_cons, List.map_nil, hs, hx, hr]
  exact h v' w' (hst2.rowGrown h2 h3 h4).p1.drop
theorem op_skip {P : Program} {o : Oper} {a : Act} {w w' : World} {KK : Act → World → Prop} {Q : Exit → Act → World → Prop} (hr : (execOp a.eval o).run P w = .ok .skip w') (h : KK (a.put o.dst undef) w') : o.wp P a w KK Q := by
 unfold Oper.wp
 rw [hr]
 exact h
theorem rc_cell_onlyP {P : Program} {fn : Func} {p : Tmp} {ty : TypeId} (h : fn.results = #[.cell p ty]) (tmps : Array Value) (w : World) (b : Nat) (cs : List Value) (d : TypeDesc)
    (hp : tmps.getD p undef = .pointer (some ⟨b, 0, none⟩)) (hc : w.rangeAt b 0 cs) (hu : P.underlying ty = some d) (hd : d.isRow = true) (hi : (P.info? ty).map (·.size) = some cs.length) :
    (results fn tmps).run P w = .ok (.agg cs.toArray) w := by
  have hp' : tmps[p]?.getD undef = .pointer (some ⟨b, 0, none⟩) := by simpa using hp
  simp [results, h, hp', asAddr, run_loadVar_mid w b 0 ty cs d hc hu hd hi]
theorem rc_rangeP {W0 w : World} {K : Know} {L : List Res} {b : Nat} {c : List Value} {T : TypeId} (h : St W0 w K (.raw b c.toArray T :: L)) : w.rangeAt b 0 c := by
 intro j v hv
 rw [Nat.zero_add, h.rawCell j]
 simpa using hv
theorem St.setExP {W0 w : World} {K : Know} {L : List Res} {b : Nat} {c : Array Value} {T : TypeId} (h : St W0 w K (.raw b c T :: L)) (j : Nat) (v : Value) : ∃ wz, w.setCell ⟨b, j, none⟩ v = wz ∧ St W0 wz K (.raw b (c.setIfInBounds j v) T :: L) := ⟨_, rfl, h.rawSet j v⟩
theorem nob_lend {W0 w : World} {K : Know} {L : List Res} (n b p t : Nat) {T1 T2 T3 : TypeId} (h : St W0 w K (.raw b ((List.replicate n nobR).flatMap nobCells).toArray T1 :: .raw p #[.int .i64 0, .slice (some ⟨b, 0, none⟩) n n] T2 :: .raw t #[.string (bb [97]), .slice (some ⟨p, 0, none⟩) 1 1] T3 :: L)) :
  ∃ Kp : Know, Kp.has K ∧ Kp.has (Know.ptops (.slice (some ⟨t, 0, none⟩) 1 1) [nobTop n b p]) ∧ St W0 w Kp L ∧ ∀ (w' : World) (L' : List Res), St W0 w' Kp L' → St W0 w' K (.raw b ((List.replicate n nobR).flatMap nobCells).toArray T1 :: .raw p #[.int .i64 0, .slice (some ⟨b, 0, none⟩) n n] T2 :: .raw t #[.string (bb [97]), .slice (some ⟨p, 0, none⟩) 1 1] T3 :: L') := by
 obtain ⟨K1, a1, a2, a3, a4⟩ := h.lend (Kr := Know.flat RBat (.slice (some ⟨b, 0, none⟩) (List.replicate n nobR).length n) 12 (List.replicate n nobR)) (fun S1 h1 _ => raw_rows (List.replicate n nobR) nobCells (fun x _ => ⟨rfl, rfl⟩) rfl S1 h1)
 obtain ⟨K2, b1, b2, b3, b4⟩ := a3.lend (Kr := Know.flat RPart (.slice (some ⟨p, 0, none⟩) [nobPart n b].length 1) 2 [nobPart n b]) (fun S1 h1 _ => raw_rows [nobPart n b] pcells (fun x _ => ⟨rfl, rfl⟩) (by show _ = #[Value.int .i64 0, .slice (some ⟨b, 0, none⟩) (List.replicate n nobR).length n]; rw [List.length_replicate]) S1 h1)
 obtain ⟨K3, c1, c2, c3, c4⟩ := b3.lend (Kr := Know.flat RPTop (.slice (some ⟨t, 0, none⟩) [nobTop n b p].length 1) 2 [nobTop n b p]) (fun S1 h1 _ => raw_rows [nobTop n b p] ptcells (fun x _ => ⟨rfl, rfl⟩) rfl S1 h1)
 refine ⟨K3, Know.has_trans c1 (Know.has_trans b1 a1), ?_, c3, fun w' L' h' => a4 w' _ K1 (Know.has_refl _) (b4 w' _ K2 (Know.has_refl _) (c4 w' _ K3 (Know.has_refl _) h'))⟩
 intro w' F' hF
 have hbats : (Know.bats (.slice (some ⟨b, 0, none⟩) (List.replicate n nobR).length n) (List.replicate n nobR)).p w' F' := by
  refine ⟨a2 _ _ (b1 _ _ (c1 _ _ hF)), fun x hx => ?_⟩
  rw [List.eq_of_mem_replicate hx]
  exact ⟨⟨none, 0, rfl, fun hh => absurd hh (by decide)⟩, fun y hy => by cases hy⟩
 refine ⟨c2 _ _ hF, fun x hx => ?_⟩
 rw [List.mem_singleton.1 hx]
 refine ⟨b2 _ _ (c1 _ _ hF), fun y hy => ?_⟩
 rw [List.mem_singleton.1 hy]
 exact hbats
theorem pso_text (p : Nat) (e : Bs) {W0 w : World} {K : Know} {L : List Res} (h : St W0 w K (.out p ⟨e, 0⟩ :: L)) :
 Calls Try.prog 17 #[outPtr p] w fun en w' => en = .returned (.tuple #[.string (bb e), .int .i64 0]) ∧ St W0 w' K (.out p ⟨e, 0⟩ :: L) := so_text p ⟨e, 0⟩ h
theorem buildNob2 (w : World) : (Instr.buildSlice 34 2 #[(0, .agg #[.int .i64 0, .int .i64 0, .bool false, .bool false, .bool false, .int .i64 0, .int .i64 0, .int .i64 0, .int .i64 (-1), .int .i64 (-1), .int .i64 (-1), .slice none 0 0]), (1, .agg #[.int .i64 0, .int .i64 0, .bool false, .bool false, .bool false, .int .i64 0, .int .i64 0, .int .i64 0, .int .i64 (-1), .int .i64 (-1), .int .i64 (-1), .slice none 0 0])]).run Try.prog w = .ok (.slice (some ⟨w.heap.size, 0, none⟩) 2 2) (w.alloc (.cells #[.int .i64 0, .int .i64 0, .bool false, .bool false, .bool false, .int .i64 0, .int .i64 0, .int .i64 0, .int .i64 (-1), .int .i64 (-1), .int .i64 (-1), .slice none 0 0, .int .i64 0, .int .i64 0, .bool false, .bool false, .bool false, .int .i64 0, .int .i64 0, .int .i64 0, .int .i64 (-1), .int .i64 (-1), .int .i64 (-1), .slice none 0 0] 39 (0, 0))) := by go_simp
theorem exec_buildP {o : Oper} {ρ : Operand → Value} (ps : Array (Nat × Value)) (v : Value) (w w' : World) (ho : execOp ρ o = (do pure (Next.value (← Instr.buildSlice 34 2 ps)))) (hb : (Instr.buildSlice 34 2 ps).run Try.prog w = .ok v w') : (execOp ρ o).run Try.prog w = .ok (.value v) w' := by
 rw [ho]
 simp [hb]
def pbcells (x : BatR) : List Value := [.int .i64 x.b.base, .int .i64 x.b.leader, .bool x.b.app, .bool x.b.txn, .bool x.b.ctl, .int .i64 x.b.last, .int .i64 x.b.first, .int .i64 x.b.maxt, .int .i64 x.b.prod, .int .i64 x.b.epoch, .int .i64 x.b.seq, .slice x.q x.l.length x.cap]
theorem elem_batP : ElemT Try.prog 39 (.agg #[.int .i64 0, .int .i64 0, .bool false, .bool false, .bool false, .int .i64 0, .int .i64 0, .int .i64 0, .int .i64 0, .int .i64 0, .int .i64 0, .slice none 0 0]) 12 96 := elemT_of (by kernel_rfl) rfl (by decide)
def consB (b : BatS) (r : Except Int (List BatS)) : Except Int (List BatS) := match r with | .ok t => .ok (b :: t) | .error e => .error e
def preB (acc : List BatS) (r : Except Int (List BatS)) : Except Int (List BatS) := match r with | .ok t => .ok (acc ++ t) | .error e => .error e
theorem preB_nil (r : Except Int (List BatS)) : preB [] r = r := by cases r <;> rfl
theorem preB_snoc (acc : List BatS) (b : BatS) (r : Except Int (List BatS)) : preB (acc ++ [b]) r = preB acc (consB b r) := by
 cases r with
 | error e => rfl
 | ok t => simp [preB, consB]
def batsE : Nat → Bs → Except Int (List BatS)
  | 0, _ => .ok []
  | f + 1, s => if s = [] then .ok [] else match reBat s with
    | .error e => .error e
    | .ok y => consB y.1 (batsE f (s.drop y.2))
theorem batsE_fuel : ∀ (f g : Nat) (s : Bs), s.length ≤ f → s.length ≤ g → batsE f s = batsE g s
  | 0, 0, _, _, _ => rfl
  | 0, g + 1, s, h, _ => by
    obtain rfl : s = [] := List.eq_nil_of_length_eq_zero (by omega)
    rfl
  | f + 1, 0, s, _, h => by
    obtain rfl : s = [] := List.eq_nil_of_length_eq_zero (by omega)
    rfl
  | f + 1, g + 1, s, h1, h2 => by
    show (if s = [] then Except.ok [] else match reBat s with
      | .error e => Except.error e
      | .ok y => consB y.1 (batsE f (s.drop y.2))) = if s = [] then Except.ok [] else match reBat s with
      | .error e => Except.error e
      | .ok y => consB y.1 (batsE g (s.drop y.2))
    by_cases c : s = []
    · rw [if_pos c, if_pos c]
    rw [if_neg c, if_neg c]
    cases hr : reBat s with
    | error e => rfl
    | ok y =>
      obtain ⟨b, n⟩ := y
      obtain ⟨x, _, hn, hl, _⟩ := reBat_ok hr
      simp only
      rw [batsE_fuel f g (s.drop n) (by rw [List.length_drop]; omega) (by rw [List.length_drop]; omega)]
def batsS (s : Bs) : Except Int (List BatS) := batsE s.length s
theorem batsS_nil : batsS [] = .ok [] := rfl
theorem batsS_step (s : Bs) (h0 : s ≠ []) : batsS s = match reBat s with
    | .error e => Except.error e
    | .ok y => consB y.1 (batsS (s.drop y.2)) := by
  have h1 : batsS s = batsE (s.length + 1) s := batsE_fuel _ _ s (Nat.le_refl _) (by omega)
  rw [h1]
  show (if s = [] then Except.ok [] else match reBat s with
      | .error e => Except.error e
      | .ok y => consB y.1 (batsE s.length (s.drop y.2))) = _
  rw [if_neg h0]
  cases hr : reBat s with
  | error e => rfl
  | ok y =>
    simp only
    rw [batsE_fuel s.length _ (s.drop y.2) (by rw [List.length_drop]; omega) (Nat.le_refl _)]
    rfl
theorem batsS_err {s : Bs} {e : Int} (h0 : s ≠ []) (h : reBat s = .error e) : batsS s = .error e := by rw [batsS_step s h0, h]
theorem batsS_ok {s : Bs} {b : BatS} {n : Nat} (h0 : s ≠ []) (h : reBat s = .ok (b, n)) : batsS s = consB b (batsS (s.drop n)) := by rw [batsS_step s h0, h]
def InS.ppart (i : InS) : (Int × List BatS) × InS :=
  let a := i.int 4
  let b := a.2.fixed 4
  let c := if b.1.null = true then b.2.fail 4 else b.2
  match batsS b.1.data with
  | .ok l => ((a.1, l), c)
  | .error e => ((a.1, []), c.fail e)
theorem p_int (p : Nat) (i j : InS) (x : Int) (size : Int) (hx : i.int size = (x, j)) {W0 w : World} {K : Know} {L : List Res} (h : St W0 w K (.inp p i :: L)) :
  Calls Try.prog 20 #[inPtr p, .int .i64 size] w fun en w' => en = .returned (.int .i64 x) ∧ St W0 w' K (.inp p j :: L) := by
 have h2 := s_int p i size h
 rw [hx] at h2
 exact h2
theorem p_fixed (p : Nat) (i j : InS) (k : Int) (u : Bool) (d : Bs) (hx : i.fixed k = (⟨u, d⟩, j)) {W0 w : World} {K : Know} {L : List Res} (h : St W0 w K (.inp p i :: L)) :
  Calls Try.prog 19 #[inPtr p, .int .i64 k] w fun en w' => en = .returned (.agg #[.bool u, .string (bb d)]) ∧ St W0 w' K (.inp p j :: L) := by
 have h2 := blob_fixed p i k h
 rw [hx] at h2
 exact h2
theorem p_err (p : Nat) (i : InS) (e : Int) (hx : i.err = e) {W0 w : World} {K : Know} {L : List Res} (h : St W0 w K (.inp p i :: L)) :
  Calls Try.prog 23 #[inPtr p] w fun en w' => en = .returned (.int .i64 e) ∧ St W0 w' K (.inp p i :: L) := by
 subst hx; exact s_err p i h
theorem p_left (p : Nat) (i : InS) (n : Nat) (hx : i.left = n) {W0 w : World} {K : Know} {L : List Res} (h : St W0 w K (.inp p i :: L)) :
  Calls Try.prog 48 #[inPtr p] w fun en w' => en = .returned (.int .i64 n) ∧ St W0 w' K (.inp p i :: L) := by
 subst hx; exact s_left p i h
theorem p_fail (p : Nat) (i j : InS) (e : Int) (hx : i.fail e = j) {W0 w : World} {K : Know} {L : List Res} (h : St W0 w K (.inp p i :: L)) :
  Calls Try.prog 24 #[inPtr p, .int .i64 e] w fun en w' => en = .returned (.tuple #[]) ∧ St W0 w' K (.inp p j :: L) := by
 subst hx; exact s_fail p i e h
def PInM (b n : Nat) (w : World) : Nat := if intOf ((w.cell? ⟨b, 2, none⟩).getD undef) ≠ 0 then 0 else n + 1 - (intOf ((w.cell? ⟨b, 1, none⟩).getD undef)).toNat
theorem pinM {W0 w : World} {K : Know} {L : List Res} {b n : Nat} {i : InS} (h : St W0 w K (.inp b i :: L)) : PInM b n w = if i.err ≠ 0 then 0 else n + 1 - i.pos := by
 have h1 := cell_at h.inpGet.1 1
 have h2 := cell_at h.inpGet.1 2
 unfold PInM
 rw [h1, h2]
 rfl
def PartJ (K2 : Know) (d : Bs) (n : Nat) (xs : List Value) (pos : Nat) (er : Int) : Prop :=
  (er = 0 ∧ pos ≤ d.length ∧ 61 * n ≤ pos ∧ ∃ acc : List BatR, n = acc.length ∧ xs = acc.flatMap pbcells ∧ preB (acc.map BatR.b) (batsS (d.drop pos)) = batsS d ∧ (∀ x ∈ acc, K2.has (Know.recs (.slice x.q x.l.length x.cap) x.l)) ∧ ∀ x ∈ acc, x.l.map (·.1) = x.b.recs) ∨
  (er ≠ 0 ∧ batsS d = .error er)
theorem St.freezeBatsP {W0 w : World} {K : Know} {L : List Res} {v : Value} {T : TypeId} {l : List BatR} (h : St W0 w K (.row v T 12 l.length (l.flatMap pbcells) :: L)) (ht : ∀ x ∈ l, K.has (Know.recs (.slice x.q x.l.length x.cap) x.l)) : St W0 w (K.and (Know.bats v l)) L := by
 have hf := h.freezeRow (R := RBat) (fun x _ => ⟨rfl, rfl⟩)
 exact hf.know (K' := K.and (Know.bats v l)) (fun w F hh => ⟨hh.1, hh.2, fun x hx => ht x hx _ _ hh.1⟩)
theorem fail_ne {i j : InS} {e : Int} (h : i.fail e = j) (h0 : e ≠ 0) : j.err ≠ 0 := by
 subst h
 unfold InS.fail
 split
 · exact h0
 · assumption
structure Ext {α : Type} (p : Bs → Except Int (α × Nat)) : Prop where
  ok : ∀ (t r : Bs) (x : α × Nat), p t = .ok x → p (t ++ r) = .ok x
  err : ∀ (t r : Bs) (e : Int), p t = .error e → e ≠ 1 → p (t ++ r) = .error e
  le : ∀ (t : Bs) (x : α) (k : Nat), p t = .ok (x, k) → k ≤ t.length
theorem Ext.short {α : Type} {p : Bs → Except Int (α × Nat)} (h : Ext p) {e : Bs} {x : α} (hb : p e = .ok (x, e.length)) (j : Nat) (hj : j < e.length) : p (e.take j) = .error 1 := by
 have hs : e.take j ++ e.drop j = e := List.take_append_drop _ _
 cases hp : p (e.take j) with
 | ok y =>
  obtain ⟨y, k⟩ := y
  have h1 := h.ok _ (e.drop j) _ hp
  rw [hs, hb] at h1
  cases h1
  have h2 := h.le _ _ _ hp
  rw [List.length_take] at h2
  omega
 | error f =>
  by_cases hf : f = 1
  · rw [hf]
  · have h1 := h.err _ (e.drop j) _ hp hf
    rw [hs, hb] at h1
    cases h1
theorem ext_vgetF (top : Nat) : ∀ (t : Bs) (f r n : Nat) (rest : Bs), (∀ x, vgetF top f r n t = .ok x → vgetF top f r n (t ++ rest) = .ok x) ∧ (∀ e, vgetF top f r n t = .error e → e ≠ 1 → vgetF top f r n (t ++ rest) = .error e)
  | [], f, r, n, rest => ⟨fun x h => (by rw [vg_none] at h; cases h), fun e h h1 => (by rw [vg_none] at h; cases h; exact absurd rfl h1)⟩
  | c :: t, 0, r, n, rest => ⟨fun x h => (by cases h), fun e h h1 => (by cases h; rfl)⟩
  | c :: t, f + 1, r, n, rest => by
    have ih := ext_vgetF top t f (r + 1) (n + c.toNat % 128 * 128 ^ r) rest
    constructor
    · intro x h
      simp only [vgetF, List.cons_append] at h ⊢
      split at h
      · cases h
      · rename_i h1
        rw [if_neg h1]
        split at h
        · rename_i h2
          rw [if_pos h2]
          exact ih.1 x h
        · rename_i h2
          rw [if_neg h2]
          exact h
    · intro e h he
      simp only [vgetF, List.cons_append] at h ⊢
      split at h
      · rename_i h1
        rw [if_pos h1]
        exact h
      · rename_i h1
        rw [if_neg h1]
        split at h
        · rename_i h2
          rw [if_pos h2]
          exact ih.2 e h he
        · cases h
theorem ext_vgetL : Ext vgetL := by
 refine ⟨fun t r x h => ?_, fun t r e h he => ?_, fun t x k h => (vgetL_one h).2.2.1⟩
 · unfold vgetL at h ⊢
   cases hv : vgetF 1 10 0 0 t with
   | error e => rw [hv] at h; cases h
   | ok y => rw [hv] at h; rw [(ext_vgetF 1 t 10 0 0 r).1 _ hv]; exact h
 · unfold vgetL at h ⊢
   cases hv : vgetF 1 10 0 0 t with
   | error e2 => rw [hv] at h; cases h; rw [(ext_vgetF 1 t 10 0 0 r).2 _ hv he]
   | ok y => rw [hv] at h; cases h
theorem ext_vgetI : Ext vgetI := by
 refine ⟨fun t r x h => ?_, fun t r e h he => ?_, fun t x k h => (vgetI_one h).2.2.1⟩
 · unfold vgetI at h ⊢
   cases hv : vgetF 15 5 0 0 t with
   | error e => rw [hv] at h; cases h
   | ok y => rw [hv] at h; rw [(ext_vgetF 15 t 5 0 0 r).1 _ hv]; exact h
 · unfold vgetI at h ⊢
   cases hv : vgetF 15 5 0 0 t with
   | error e2 => rw [hv] at h; cases h; rw [(ext_vgetF 15 t 5 0 0 r).2 _ hv he]
   | ok y => rw [hv] at h; cases h
theorem gotS_ok {t : Bs} {k : Nat} {n : Int} {x : BlobS × Nat} (hk : k ≤ t.length) (h : gotS t k n = .ok x) (r : Bs) : gotS (t ++ r) k n = .ok x ∧ x.2 ≤ t.length := by
 unfold gotS at h ⊢
 by_cases h1 : n = -1
 · rw [if_pos h1] at h ⊢; cases h; exact ⟨rfl, hk⟩
 rw [if_neg h1] at h ⊢
 by_cases h2 : n < 0
 · rw [if_pos h2] at h; cases h
 rw [if_neg h2] at h ⊢
 by_cases h3 : (t.length : Int) - k < n
 · rw [if_pos h3] at h; cases h
 rw [if_neg h3] at h
 cases h
 rw [if_neg (by rw [List.length_append]; omega)]
 refine ⟨?_, by simp only; omega⟩
 rw [List.drop_append_of_le_length hk, List.take_append_of_le_length (by rw [List.length_drop]; omega)]
theorem gotS_er {t : Bs} {k : Nat} {n : Int} {e : Int} (h : gotS t k n = .error e) (he : e ≠ 1) (r : Bs) : gotS (t ++ r) k n = .error e := by
 unfold gotS at h ⊢
 by_cases h1 : n = -1
 · rw [if_pos h1] at h; cases h
 rw [if_neg h1] at h ⊢
 by_cases h2 : n < 0
 · rw [if_pos h2] at h ⊢; exact h
 rw [if_neg h2] at h
 by_cases h3 : (t.length : Int) - k < n
 · rw [if_pos h3] at h; cases h; exact absurd rfl he
 · rw [if_neg h3] at h; cases h
theorem ext_varied : Ext revaried := by
 refine ⟨fun t r x h => ?_, fun t r e h he => ?_, fun t x k h => ?_⟩
 · unfold revaried at h ⊢
   cases hv : vgetI t with
   | error e => rw [hv] at h; cases h
   | ok y => rw [hv] at h; rw [ext_vgetI.ok _ r _ hv]; exact (gotS_ok (ext_vgetI.le _ _ _ hv) h r).1
 · unfold revaried at h ⊢
   cases hv : vgetI t with
   | error e2 => rw [hv] at h; cases h; rw [ext_vgetI.err _ r _ hv he]
   | ok y => rw [hv] at h; rw [ext_vgetI.ok _ r _ hv]; exact gotS_er h he r
 · unfold revaried at h
   cases hv : vgetI t with
   | error e => rw [hv] at h; cases h
   | ok y => rw [hv] at h; exact (gotS_ok (ext_vgetI.le _ _ _ hv) h []).2
theorem ext_fixed (size : Nat) : Ext (refixed size) := by
 refine ⟨fun t r x h => ?_, fun t r e h he => ?_, fun t x k h => ?_⟩
 · unfold refixed at h ⊢
   by_cases h1 : t.length < size
   · rw [if_pos h1] at h; cases h
   · rw [if_neg h1] at h
     rw [if_neg (by rw [List.length_append]; omega), List.take_append_of_le_length (by omega)]
     exact (gotS_ok (by omega) h r).1
 · unfold refixed at h ⊢
   by_cases h1 : t.length < size
   · rw [if_pos h1] at h; cases h; exact absurd rfl he
   · rw [if_neg h1] at h
     rw [if_neg (by rw [List.length_append]; omega), List.take_append_of_le_length (by omega)]
     exact gotS_er h he r
 · unfold refixed at h
   by_cases h1 : t.length < size
   · rw [if_pos h1] at h; cases h
   · rw [if_neg h1] at h
     exact (gotS_ok (by omega) h []).2

def rdL (z : Bool × InS) (n : Int) : Bool × InS := (decide (z.2.vlong.1 = n) && z.1, z.2.vlong.2)
def rdV (z : Bool × InS) (b : BlobS) : Bool × InS := (decide (z.2.varied.1 = b) && z.1, z.2.varied.2)
def rdF (z : Bool × InS) (b : BlobS) : Bool × InS := (decide ((z.2.fixed 2).1 = b) && z.1, (z.2.fixed 2).2)
def rdB (z : Bool × InS) (b : BlobS) : Bool × InS := rdF (rdV z b) b
def encN (n : Int) : Bs := putU (foldN n)
def encBl (b : BlobS) : Bs := encV b ++ encF 2 b
def At (s : Bs) (c : Nat) (z : Bool × InS) (a : Nat) : Prop := (a ≤ c ∧ z.2 = ⟨s.take c, a, 0⟩ ∧ (z.1 = true)) ∨ (c < a ∧ z.2.err = 1)
theorem At.read {α : Type} [DecidableEq α] {f : InS → α × InS} {p : Bs → Except Int (α × Nat)} {d : α} (hr : Rds f p d) (he : Ext p) {s r : Bs} {c a : Nat} {z : Bool × InS} (hc : c ≤ s.length) (h : At s c z a) {e : Bs} {x : α} (hp : p e = .ok (x, e.length)) (hs : s.drop a = e ++ r) :
   At s c (decide ((f z.2).1 = x) && z.1, (f z.2).2) (a + e.length) := by
 have hl : (s.take c).length = c := by rw [List.length_take]; omega
 rcases h with ⟨h1, h2, h3⟩ | ⟨h1, h2⟩
 · rw [h2, h3]
   have hd : (s.take c).drop a = (e ++ r).take (c - a) := by rw [← hs, List.drop_take]
   by_cases hlt : a + e.length ≤ c
   · have h4 : p ((s.take c).drop a) = .ok (x, e.length) := by
      rw [hd, List.take_append, List.take_of_length_le (by omega)]
      exact he.ok _ _ _ hp
     have h5 := (hr.ok (s.take c) a x e.length (by omega) h4).2
     rw [h5]
     exact .inl ⟨hlt, rfl, by simp⟩
   · have h4 : p ((s.take c).drop a) = .error 1 := by
      rw [hd, List.take_append_of_le_length (by omega)]
      exact he.short hp _ (by omega)
     obtain ⟨_, q, _, h5⟩ := hr.err (s.take c) a 1 (by omega) h4
     rw [h5]
     exact .inr ⟨by omega, rfl⟩
 · have h4 := hr.stuck z.2 (by rw [h2]; decide)
   rw [h4]
   exact .inr ⟨by omega, h2⟩
theorem At.long {s r : Bs} {c a : Nat} {z : Bool × InS} (hc : c ≤ s.length) (h : At s c z a) (n : Int) (h0 : -9223372036854775808 ≤ n) (h1 : n < 9223372036854775808) (hs : s.drop a = encN n ++ r) : At s c (rdL z n) (a + (encN n).length) := by
 have hp : vgetL (encN n) = .ok (n, (encN n).length) := by
  have := vgetL_put n h0 h1 []
  rwa [List.append_nil] at this
 exact At.read rds_long ext_vgetL hc h hp hs
theorem At.varied {s r : Bs} {c a : Nat} {z : Bool × InS} (hc : c ≤ s.length) (h : At s c z a) (b : BlobS) (hb : b.right = true) (hl : b.data.length ≤ 2147483647) (hs : s.drop a = encV b ++ r) : At s c (rdV z b) (a + (encV b).length) := by
 have hp : revaried (encV b) = .ok (b, (encV b).length) := by
  have := revaried_back b hb hl []
  rwa [List.append_nil] at this
 exact At.read rds_varied ext_varied hc h hp hs
theorem At.fixed {s r : Bs} {c a : Nat} {z : Bool × InS} (hc : c ≤ s.length) (h : At s c z a) (b : BlobS) (hb : b.right = true) (hf : fits b.len 2) (hs : s.drop a = encF 2 b ++ r) : At s c (rdF z b) (a + (encF 2 b).length) := by
 have hp : refixed 2 (encF 2 b) = .ok (b, (encF 2 b).length) := by
  have := refixed_back 2 b hb hf []
  rwa [List.append_nil] at this
 exact At.read (rds_fixed 2 (by decide) (by decide)) (ext_fixed 2) hc h hp hs
def BOk (b : BlobS) : Prop := b.right = true ∧ b.data.length ≤ 200
theorem BOk.fits {b : BlobS} (h : BOk b) : fits b.len 2 := by
 have h128 : half 2 = 32768 := by decide
 have hl := h.2
 refine ⟨by decide, by decide, ?_, ?_⟩ <;> unfold BlobS.len <;> split <;> simp [h128] <;> omega
theorem At.blob {s r : Bs} {c a : Nat} {z : Bool × InS} (hc : c ≤ s.length) (h : At s c z a) (b : BlobS) (hb : BOk b) (hs : s.drop a = encBl b ++ r) : At s c (rdB z b) (a + (encBl b).length) := by
 unfold encBl at hs ⊢
 rw [List.append_assoc] at hs
 have h1 := h.varied hc b hb.1 (by have := hb.2; omega) hs
 have h2 : s.drop (a + (encV b).length) = encF 2 b ++ r := by rw [← List.drop_drop, hs, List.drop_left]
 have h3 := h1.fixed hc b hb.1 hb.fits h2
 rw [List.length_append, ← Nat.add_assoc]
 exact h3
def RI (cs : List Value) (x : Int) : Prop := cs = [.int .i64 x]
structure TopS where
  name : Bs
  parts : List Int
deriving DecidableEq
def RTop (cs : List Value) (x : TopS × Value) : Prop := cs = [.string (bb x.1.name), x.2]
def Know.tops (v : Value) (l : List (TopS × Value)) : Know := (Know.flat RTop v 2 l).and (Know.all l fun x => Know.flat RI x.2 1 x.1.parts)
def allN (n : Nat) (p : Nat → Bool) : Bool := (List.range n).all p
def upI (l : List Int) (k : Nat) : Bool := k == 0 || decide (l.getD (k - 1) 0 < l.getD k 0)
def upS (l : List Bs) (k : Nat) : Bool := k == 0 || Op.bytesLess (l.getD (k - 1) []) (l.getD k [])
def riseS (l : List Bs) : Bool := allN l.length (upS l)
def pRise (l : List Int) : Bool := !l.isEmpty && allN l.length (fun k => decide (0 ≤ l.getD k 0 ∧ l.getD k 0 ≤ 2147483647) && upI l k)
def tOk (t : TopS) : Bool := !t.name.isEmpty && decide (t.name.length ≤ 32767) && pRise t.parts
def tRise (l : List TopS) : Bool := l.all tOk && riseS (l.map (·.name))
structure ValS where
  prod : Int
  epoch : Int
  timeout : Int
  state : Int
  tops : List TopS
  upd : Int
  started : Int
deriving DecidableEq
def ValS.ranged (v : ValS) : Bool := decide (0 ≤ v.prod) && (decide (0 ≤ v.epoch) && (decide (v.epoch ≤ 32767) && (decide (0 ≤ v.timeout) && (decide (v.timeout ≤ 2147483647) && (decide (0 ≤ v.upd) && decide (-1 ≤ v.started))))))
def idle (s : Int) : Bool := !(s == 1) && (!(s == 2) && !(s == 3))
def ValS.err (v : ValS) : Int :=
  if v.ranged = false then 11
  else if v.state < 0 ∨ 7 ≤ v.state then 12
  else if (idle v.state != v.tops.isEmpty) = true ∨ ((v.state == 0) != (v.started == -1)) = true then 10
  else if tRise v.tops = false then 13 else 0
def pk (l : List Int) (k : Nat) : Bool := decide (0 ≤ l.getD k 0 ∧ l.getD k 0 ≤ 2147483647) && upI l k
def be4s (l : List Int) : Bs := l.flatMap fun n => beBytes n 4
def encT (t : TopS) : Bs := encF 2 ⟨false, t.name⟩ ++ (beBytes t.parts.length 4 ++ be4s t.parts)
def encTs (l : List TopS) : Bs := beBytes l.length 4 ++ l.flatMap encT
def ValS.enc (v : ValS) : Bs := beBytes 0 2 ++ beBytes v.prod 8 ++ beBytes v.epoch 2 ++ beBytes v.timeout 4 ++ beBytes v.state 1 ++ encTs v.tops ++ beBytes v.upd 8 ++ beBytes v.started 8
def TopS.Fit (t : TopS) : Prop := t.name.length ≤ 32767 ∧ t.parts.length ≤ 1000000 ∧ ∀ n ∈ t.parts, -2147483648 ≤ n ∧ n < 2147483648
def InS.cnt (i : InS) (each : Nat) : Nat × InS := ((i.count 4 each).1.toNat, (i.count 4 each).2)
theorem int_stuck (i : InS) (hi : i.err ≠ 0) : i.int 4 = (0, i) := (rds_intN 4 (by decide) (by decide)).stuck i hi
def InS.partsN : Nat → List Int → InS → List Int × InS
  | 0, acc, i => (acc, i)
  | n + 1, acc, i => InS.partsN n (acc ++ [(i.int 4).1]) (i.int 4).2
def InS.parts (i : InS) : List Int × InS := InS.partsN (i.cnt 4).1 [] (i.cnt 4).2
def InS.topsN : Nat → List TopS → InS → List TopS × InS
  | 0, acc, i => (acc, i)
  | n + 1, acc, i => if i.text.2.parts.2.err = 0 then InS.topsN n (acc ++ [⟨i.text.1, i.text.2.parts.1⟩]) i.text.2.parts.2 else ([], i.text.2.parts.2)
def InS.tops (i : InS) : List TopS × InS := InS.topsN (i.cnt 6).1 [] (i.cnt 6).2
theorem cnt_nat12 (i : InS) (each : Nat) : (i.count 4 each).1 = ((i.cnt each).1 : Int) ∧ (i.cnt each).1 ≤ 2147483647 := by
 have hr : -2147483648 ≤ (i.int 4).1 ∧ (i.int 4).1 < 2147483648 := by
  have e4 : half (4 : Int).toNat = 2147483648 := by decide
  by_cases hi : i.err = 0
  · obtain ⟨s, pos, er⟩ := i
    simp only at hi
    subst hi
    unfold InS.int
    rw [if_neg (by decide)]
    simp only
    unfold InS.take
    split
    · show -2147483648 ≤ sInt [] ∧ sInt [] < 2147483648; decide
    · split
      · show -2147483648 ≤ sInt [] ∧ sInt [] < 2147483648; decide
      · split
        · show -2147483648 ≤ sInt [] ∧ sInt [] < 2147483648; decide
        · rename_i h1 h2 h3
          have hl : (((s.drop pos)).take (4 : Int).toNat).length = 4 := by
           rw [List.length_take, List.length_drop]
           simp only [InS.left] at h3
           have : (4 : Int).toNat = 4 := rfl
           omega
          have h6 := sInt_fits _ 4 (by decide) (by decide) hl
          have h7 := h6.2.2
          have e5 : half ((4 : Nat) : Int).toNat = 2147483648 := by decide
          rw [e5] at h7
          exact h7
  · rw [int_stuck i hi]; show (-2147483648 : Int) ≤ 0 ∧ (0 : Int) < 2147483648; decide
 have h0 : 0 ≤ (i.count 4 each).1 ∧ (i.count 4 each).1 < 2147483648 := by
  unfold InS.count
  simp only
  split
  · simp
  · split
    · simp
    · omega
 unfold InS.cnt
 simp only
 omega

theorem take_s12 (i : InS) (n : Int) : (i.take n).2.s = i.s ∧ (i.take n).1.length ≤ i.s.length := by
 unfold InS.take
 split
 · exact ⟨rfl, Nat.zero_le _⟩
 · split
   · exact ⟨rfl, Nat.zero_le _⟩
   · split
     · exact ⟨rfl, Nat.zero_le _⟩
     · refine ⟨rfl, ?_⟩
       rw [List.length_take, List.length_drop]
       omega
theorem fail_s12 (i : InS) (e : Int) : (i.fail e).s = i.s := by unfold InS.fail; split <;> rfl
theorem int_s12 (i : InS) (k : Int) : (i.int k).2.s = i.s := by
 unfold InS.int
 split
 · exact fail_s12 _ _
 · exact (take_s12 _ _).1
theorem tk_s12 (i : InS) (n : Int) : (i.tk n).2.s = i.s ∧ (i.tk n).1.data.length ≤ i.s.length := by
 unfold InS.tk
 split
 · exact ⟨rfl, Nat.zero_le _⟩
 · exact take_s12 _ _
theorem fixed_s12 (i : InS) (k : Int) : (i.fixed k).2.s = i.s ∧ (i.fixed k).1.data.length ≤ i.s.length := by
 unfold InS.fixed
 have h := tk_s12 (i.int k).2 (i.int k).1
 rw [int_s12] at h
 exact h
theorem text_s12 (i : InS) : i.text.2.s = i.s := by
 unfold InS.text InS.bytes
 simp only
 split
 · rw [fail_s12]; exact (fixed_s12 i 2).1
 · exact (fixed_s12 i 2).1
theorem cnt_s12 (i : InS) (each : Nat) : (i.cnt each).2.s = i.s := by
 unfold InS.cnt InS.count
 simp only
 split
 · rw [fail_s12]; exact int_s12 i 4
 · split
   · rw [fail_s12]; exact int_s12 i 4
   · exact int_s12 i 4
theorem part_len12 (i : InS) : (((i.int 4).2.fixed 4).1.data).length ≤ i.s.length := by
 have h := (fixed_s12 (i.int 4).2 4).2
 rw [int_s12] at h
 exact h
theorem ppart_s12 (i : InS) : i.ppart.2.s = i.s := by
 have h1 : ((i.int 4).2.fixed 4).2.s = i.s := by rw [(fixed_s12 _ 4).1, int_s12]
 have h2 : (if ((i.int 4).2.fixed 4).1.null = true then ((i.int 4).2.fixed 4).2.fail 4 else ((i.int 4).2.fixed 4).2).s = i.s := by
  split
  · rw [fail_s12]; exact h1
  · exact h1
 unfold InS.ppart
 simp only
 split
 · exact h2
 · rw [fail_s12]; exact h2
def PartR.pb (x : PartR) : Int × List BatS := (x.idx, x.l.map BatR.b)
def InS.ppartsN : Nat → List (Int × List BatS) → InS → List (Int × List BatS) × InS
  | 0, acc, i => (acc, i)
  | n + 1, acc, i => if i.ppart.2.err = 0 then InS.ppartsN n (acc ++ [i.ppart.1]) i.ppart.2 else ([], i.ppart.2)
def InS.ptop (i : InS) : (Bs × List (Int × List BatS)) × InS :=
  ((i.text.1, (InS.ppartsN (i.text.2.cnt 8).1 [] (i.text.2.cnt 8).2).1), (InS.ppartsN (i.text.2.cnt 8).1 [] (i.text.2.cnt 8).2).2)
theorem ppartsN_s12 : ∀ (n : Nat) (acc : List (Int × List BatS)) (i : InS), (InS.ppartsN n acc i).2.s = i.s
  | 0, _, _ => rfl
  | n + 1, acc, i => by
    show (if i.ppart.2.err = 0 then InS.ppartsN n (acc ++ [i.ppart.1]) i.ppart.2 else ([], i.ppart.2)).2.s = i.s
    split
    · rw [ppartsN_s12 n]; exact ppart_s12 i
    · exact ppart_s12 i
theorem ptop_s12 (i : InS) : i.ptop.2.s = i.s := by
 unfold InS.ptop
 simp only
 rw [ppartsN_s12, cnt_s12, text_s12]
theorem p_cnt (p : Nat) (i j : InS) (each n : Nat) (ei : Int) (he : ei = each) (hx : i.cnt each = (n, j)) {W0 w : World} {K : Know} {L : List Res} (h : St W0 w K (.inp p i :: L)) :
  Calls Try.prog 21 #[inPtr p, .int .i64 4, .int .i64 ei] w fun en w' => en = .returned (.int .i64 n) ∧ St W0 w' K (.inp p j :: L) := by
 subst he
 have h2 := s_count p i 4 each h
 have hm := (cnt_nat12 i each).1
 rw [hx] at hm
 have h4 : (i.count 4 each).2 = j := by have := congrArg Prod.snd hx; exact this
 rw [hm, h4] at h2
 exact h2
theorem p_text (p : Nat) (i j : InS) (s : Bs) (hx : i.text = (s, j)) {W0 w : World} {K : Know} {L : List Res} (h : St W0 w K (.inp p i :: L)) :
  Calls Try.prog 49 #[inPtr p] w fun en w' => en = .returned (.string (bb s)) ∧ St W0 w' K (.inp p j :: L) := by
 have h2 := blob_text p i h
 rw [hx] at h2
 exact h2
theorem elem_partP : ElemT Try.prog 36 (.agg #[.int .i64 0, .slice none 0 0]) 2 32 := elemT_of (by kernel_rfl) rfl (by decide)
theorem St.freezeParts {W0 w : World} {K : Know} {L : List Res} {v : Value} {T : TypeId} {l : List PartR} (h : St W0 w K (.row v T 2 l.length (l.flatMap pcells) :: L)) (ht : ∀ x ∈ l, K.has (Know.bats (.slice x.q x.l.length x.cap) x.l)) : St W0 w (K.and (Know.pparts v l)) L := by
 have hf := h.freezeRow (R := RPart) (fun x _ => ⟨rfl, rfl⟩)
 exact hf.know (K' := K.and (Know.pparts v l)) (fun w F hh => ⟨hh.1, hh.2, fun x hx => ht x hx _ _ hh.1⟩)
theorem reBat_ck {s : Bs} {b : BatS} {n : Nat} (h : reBat s = .ok (b, n)) (hs : s.length ≤ 1000000) (x : BatR) (hb : x.b = b) (hl : x.l.map (·.1) = x.b.recs) : CkR x := by
 obtain ⟨y, hy, _, hn, ha⟩ := reBat_ok h
 obtain ⟨_, _, _, _, _, r6⟩ := pre_ranges hy
 obtain ⟨_, _, rs, hu, _, hbb⟩ := asmB_ok ha
 have hr : b.recs = rs := by rw [hbb]
 have hf : b.first = y.first := by rw [hbb]
 have hrl : (((s.drop 61).take (y.len - 49).toNat)).length ≤ 1000000 := by rw [List.length_take, List.length_drop]; omega
 obtain ⟨f1, f2⟩ := unp_fitB (l := x.l) hu (by rw [hl, hb, hr]) hrl
 exact ⟨hl, by rw [hb, hf]; exact r6, f1, f2⟩
def BsOk (M : Nat) (l : List BatS) : Prop := l.length ≤ M ∧ ∀ b ∈ l, ∃ t n, reBat t = .ok (b, n) ∧ t.length ≤ M
def PpOk (M : Nat) (x : Int × List BatS) : Prop := BsOk M x.2
def PtOk (M : Nat) (x : Bs × List (Int × List BatS)) : Prop := x.1.length ≤ M ∧ x.2.length ≤ M ∧ ∀ y ∈ x.2, PpOk M y
theorem batsE_of {M : Nat} : ∀ (f : Nat) (s : Bs) (l : List BatS), batsE f s = .ok l → s.length ≤ M → 61 * l.length ≤ s.length ∧ ∀ b ∈ l, ∃ t n, reBat t = .ok (b, n) ∧ t.length ≤ M
  | 0, s, l, h, _ => by
    have h : Except.ok [] = Except.ok l := h
    injection h with h
    subst h
    exact ⟨Nat.zero_le _, fun b hb => by cases hb⟩
  | f + 1, s, l, h, hs => by
    have h : (if s = [] then Except.ok [] else match reBat s with
      | .error e => Except.error e
      | .ok y => consB y.1 (batsE f (s.drop y.2))) = .ok l := h
    by_cases c : s = []
    · rw [if_pos c] at h
      injection h with h
      subst h
      exact ⟨Nat.zero_le _, fun b hb => by cases hb⟩
    · rw [if_neg c] at h
      cases hr : reBat s with
      | error e => rw [hr] at h; cases h
      | ok y =>
        obtain ⟨b, n⟩ := y
        rw [hr] at h
        have h : consB b (batsE f (s.drop n)) = .ok l := h
        obtain ⟨x, _, hn, hl, _⟩ := reBat_ok hr
        cases ht : batsE f (s.drop n) with
        | error e => rw [ht] at h; cases h
        | ok t =>
          rw [ht] at h
          have h : Except.ok (b :: t) = Except.ok l := h
          injection h with h
          subst h
          obtain ⟨g1, g2⟩ := batsE_of (M := M) f (s.drop n) t ht (by rw [List.length_drop]; omega)
          rw [List.length_drop] at g1
          refine ⟨by rw [List.length_cons]; omega, fun z hz => ?_⟩
          rcases List.mem_cons.1 hz with hz | hz
          · subst hz; exact ⟨s, n, hr, hs⟩
          · exact g2 z hz
theorem ppart_ok {M : Nat} (i : InS) (hd : i.s.length ≤ M) : PpOk M i.ppart.1 := by
 have h1 := part_len12 i
 unfold InS.ppart
 simp only
 split
 · rename_i l hl
   obtain ⟨g1, g2⟩ := batsE_of (M := M) _ _ l hl (by omega)
   exact ⟨by show l.length ≤ M; omega, g2⟩
 · exact ⟨Nat.zero_le _, fun b hb => by cases hb⟩
theorem ppartsN_ok {M : Nat} : ∀ (n : Nat) (acc : List (Int × List BatS)) (i : InS), i.s.length ≤ M → (∀ x ∈ acc, PpOk M x) → (InS.ppartsN n acc i).1.length ≤ acc.length + n ∧ ∀ x ∈ (InS.ppartsN n acc i).1, PpOk M x
  | 0, acc, i, _, ha => ⟨Nat.le_refl _, ha⟩
  | n + 1, acc, i, hd, ha => by
    show (if i.ppart.2.err = 0 then InS.ppartsN n (acc ++ [i.ppart.1]) i.ppart.2 else ([], i.ppart.2)).1.length ≤ acc.length + (n + 1) ∧ ∀ x ∈ (if i.ppart.2.err = 0 then InS.ppartsN n (acc ++ [i.ppart.1]) i.ppart.2 else ([], i.ppart.2)).1, PpOk M x
    split
    · obtain ⟨g1, g2⟩ := ppartsN_ok n (acc ++ [i.ppart.1]) i.ppart.2 (by rw [ppart_s12]; exact hd) (fun x hx => by
        rcases List.mem_append.1 hx with hx | hx
        · exact ha x hx
        · rw [List.mem_singleton.1 hx]; exact ppart_ok i hd)
      rw [List.length_append, List.length_singleton] at g1
      exact ⟨by omega, g2⟩
    · exact ⟨Nat.zero_le _, fun x hx => by cases hx⟩
theorem cnt_le13 (i : InS) (each : Nat) (he : 1 ≤ each) : (i.cnt each).1 ≤ i.s.length := by
 unfold InS.cnt InS.count
 simp only
 split
 · exact Nat.zero_le _
 · split
   · exact Nat.zero_le _
   · rename_i h1 h2
     have h3 : (i.int 4).1 ≤ (((i.int 4).2.left : Nat) : Int) / each := by omega
     have h4 : (((i.int 4).2.left : Nat) : Int) / each ≤ ((i.int 4).2.left : Nat) := Int.ediv_le_self _ (by omega)
     have h5 : (i.int 4).2.left ≤ i.s.length := by unfold InS.left; rw [int_s12]; omega
     omega
theorem ptop_ok {M : Nat} (i : InS) (hd : i.s.length ≤ M) : PtOk M i.ptop.1 := by
 have h0 : i.text.1.length ≤ i.s.length := (fixed_s12 i 2).2
 have h1 := cnt_le13 i.text.2 8 (by decide)
 have h2 := cnt_s12 i.text.2 8
 rw [text_s12] at h1 h2
 obtain ⟨g1, g2⟩ := ppartsN_ok (i.text.2.cnt 8).1 [] (i.text.2.cnt 8).2 (by rw [h2]; exact hd) (fun x hx => by cases hx)
 rw [List.length_nil] at g1
 exact ⟨by show i.text.1.length ≤ M; omega, by show (InS.ppartsN (i.text.2.cnt 8).1 [] (i.text.2.cnt 8).2).1.length ≤ M; omega, g2⟩
def PTop.pt (x : PTop) : Bs × List (Int × List BatS) := (x.name, x.l.map PartR.pb)
theorem ck_top {M : Nat} (hM : M ≤ 1000000) (x : PTop) (h : PtOk M x.pt) (hm : ∀ y ∈ x.l, ∀ z ∈ y.l, z.l.map (·.1) = z.b.recs) : CkT x := by
 obtain ⟨h1, h2, h3⟩ := h
 have h2 : (x.l.map PartR.pb).length ≤ M := h2
 rw [List.length_map] at h2
 have h1 : x.name.length ≤ M := h1
 refine ⟨by omega, by omega, fun y hy => ?_⟩
 obtain ⟨g1, g2⟩ := h3 y.pb (List.mem_map_of_mem hy)
 have g1 : (y.l.map BatR.b).length ≤ M := g1
 rw [List.length_map] at g1
 refine ⟨by omega, fun z hz => ?_⟩
 obtain ⟨t, n, hr, ht⟩ := g2 z.b (List.mem_map_of_mem hz)
 exact reBat_ck hr (by omega) z rfl (hm y hy z hz)
def InS.ptopsN : Nat → List (Bs × List (Int × List BatS)) → InS → List (Bs × List (Int × List BatS)) × InS
  | 0, acc, i => (acc, i)
  | n + 1, acc, i => if i.ptop.2.err = 0 then InS.ptopsN n (acc ++ [i.ptop.1]) i.ptop.2 else ([], i.ptop.2)
theorem ptopsN_ok {M : Nat} : ∀ (n : Nat) (acc : List (Bs × List (Int × List BatS))) (i : InS), i.s.length ≤ M → (∀ x ∈ acc, PtOk M x) → (InS.ptopsN n acc i).1.length ≤ acc.length + n ∧ ∀ x ∈ (InS.ptopsN n acc i).1, PtOk M x
  | 0, acc, i, _, ha => ⟨Nat.le_refl _, ha⟩
  | n + 1, acc, i, hd, ha => by
    show (if i.ptop.2.err = 0 then InS.ptopsN n (acc ++ [i.ptop.1]) i.ptop.2 else ([], i.ptop.2)).1.length ≤ acc.length + (n + 1) ∧ ∀ x ∈ (if i.ptop.2.err = 0 then InS.ptopsN n (acc ++ [i.ptop.1]) i.ptop.2 else ([], i.ptop.2)).1, PtOk M x
    split
    · obtain ⟨g1, g2⟩ := ptopsN_ok n (acc ++ [i.ptop.1]) i.ptop.2 (by rw [ptop_s12]; exact hd) (fun x hx => by
        rcases List.mem_append.1 hx with hx | hx
        · exact ha x hx
        · rw [List.mem_singleton.1 hx]; exact ptop_ok i hd)
      rw [List.length_append, List.length_singleton] at g1
      exact ⟨by omega, g2⟩
    · exact ⟨Nat.zero_le _, fun x hx => by cases hx⟩

theorem elem_topP : ElemT Try.prog 33 (.agg #[.string ⟨#[]⟩, .slice none 0 0]) 2 40 := elemT_of (by kernel_rfl) rfl (by decide)
theorem St.freezeTopsP {W0 w : World} {K : Know} {L : List Res} {v : Value} {T : TypeId} {l : List PTop} (h : St W0 w K (.row v T 2 l.length (l.flatMap ptcells) :: L)) (ht : ∀ x ∈ l, K.has (Know.pparts (.slice x.q x.l.length x.cap) x.l)) : St W0 w (K.and (Know.ptops v l)) L := by
 have hf := h.freezeRow (R := RPTop) (fun x _ => ⟨rfl, rfl⟩)
 exact hf.know (K' := K.and (Know.ptops v l)) (fun w F hh => ⟨hh.1, hh.2, fun x hx => ht x hx _ _ hh.1⟩)
theorem attr_one (a : Int) (h : chk a = 0) : attrN (bitAt a 3) (bitAt a 4) (bitAt a 5) 3 = a ∧ (bitAt a 5 = true → bitAt a 4 = true) := by
 have hr : 0 ≤ a ∧ a ≤ 63 := by
  unfold chk at h
  split at h
  · cases h
  · split at h
    · cases h
    · rename_i _ h2
      simp only [Bool.or_eq_true, decide_eq_true_eq, not_or] at h2
      omega
 have key : ∀ k : Fin 64, chk (k.val : Int) = 0 → attrN (bitAt k.val 3) (bitAt k.val 4) (bitAt k.val 5) 3 = k.val ∧ (bitAt k.val 5 = true → bitAt k.val 4 = true) := by decide
 have := key ⟨a.toNat, by omega⟩
 simp only at this
 rw [show ((a.toNat : Nat) : Int) = a by omega] at this
 exact this h
theorem sumItem_back (v : Int) (h : -2147483648 ≤ v ∧ v < 2147483648) : sumItem (v % 4294967296) = v := by
 unfold sumItem
 rw [if_neg (by omega)]
 split <;> omega
theorem preX_bytes {s : Bs} (h : 61 ≤ s.length) (h2 : (preX s).2 = 2) : encInts (preX s).1.items = s.take 61 := by
 have e := enc_intsOf preSizes s h
 have hs : preSizes.sum = 61 := rfl
 rw [hs] at e
 rw [← e]
 have h4 := sInt_range4 ((s.drop 17).take 4) (by rw [List.length_take]; omega)
 have h5 := sumItem_back _ h4
 have e2 : intsOf preSizes s = [sInt (s.take 8), sInt ((s.drop 8).take 4), sInt ((s.drop 12).take 4), sInt ((s.drop 16).take 1), sInt ((s.drop 17).take 4), sInt ((s.drop 21).take 2), sInt ((s.drop 23).take 4), sInt ((s.drop 27).take 8), sInt ((s.drop 35).take 8), sInt ((s.drop 43).take 8), sInt ((s.drop 51).take 2), sInt ((s.drop 53).take 4), sInt ((s.drop 57).take 4)] := by
  unfold preSizes
  simp only [intsOf, List.drop_drop, Nat.reduceAdd]
 unfold preX at h2 ⊢
 rw [e2] at h2 ⊢
 have h3 : sInt ((s.drop 16).take 1) = 2 := h2
 rw [h3]
 show encInts (PreS.items ⟨_, _, _, sInt ((s.drop 17).take 4) % 4294967296, _, _, _, _, _, _, _, _⟩) = _
 unfold PreS.items
 simp only [h5]
 rfl
theorem unp_enc : ∀ (n : Nat) (rows : Bs) (pos : Nat) (rs : List RecS), pos ≤ rows.length → unp n ⟨rows, pos, 0⟩ = .ok rs → rows.drop pos = rs.flatMap encR
  | 0, rows, pos, rs, hp, h => by
    have h : (if (⟨rows, pos, 0⟩ : InS).left = 0 then Except.ok [] else Except.error (10 : Int)) = Except.ok rs := h
    by_cases c1 : (⟨rows, pos, 0⟩ : InS).left = 0
    · rw [if_pos c1] at h
      cases h
      have c2 : rows.length - pos = 0 := c1
      rw [List.drop_of_length_le (by omega)]
      rfl
    · rw [if_neg c1] at h; cases h
  | n + 1, rows, pos, rs, hp, h => by
    have h : (if (⟨rows, pos, 0⟩ : InS).left = 0 then .error 10 else if (⟨rows, pos, 0⟩ : InS).record.2.err = 0 then consE (⟨rows, pos, 0⟩ : InS).record.1 (unp n (⟨rows, pos, 0⟩ : InS).record.2) else .error (⟨rows, pos, 0⟩ : InS).record.2.err) = .ok rs := h
    by_cases c1 : (⟨rows, pos, 0⟩ : InS).left = 0
    · rw [if_pos c1] at h; cases h
    rw [if_neg c1] at h
    cases hr : reRec (rows.drop pos) with
    | error e =>
      obtain ⟨he, q, _, hf⟩ := rds_rec.err rows pos e hp hr
      rw [hf] at h
      simp only at h
      rw [if_neg he] at h
      cases h
    | ok y =>
      obtain ⟨x, m⟩ := y
      obtain ⟨hpm, hf⟩ := rds_rec.ok rows pos x m hp hr
      rw [hf] at h
      simp only [if_true] at h
      cases hu : unp n ⟨rows, pos + m, 0⟩ with
      | error e => rw [hu] at h; cases h
      | ok t =>
        rw [hu] at h
        have h : Except.ok (x :: t) = Except.ok rs := h
        injection h with h
        subst h
        have i1 := unp_enc n rows (pos + m) t hpm hu
        have j1 := (reRec_one hr).1
        rw [List.flatMap_cons, ← i1, j1, ← List.drop_drop, List.take_append_drop]
theorem reBat_one {s : Bs} {b : BatS} {n : Nat} (h : reBat s = .ok (b, n)) : b.enc = s.take n ∧ batErr b = 0 ∧ b.rowsB.length ≤ s.length ∧ b.recs.length ≤ s.length ∧ ∀ x ∈ b.recs, x.R ∧ recOk x = 0 ∧ x.sum ≤ s.length := by
 obtain ⟨x, hp, hn, hns, ha⟩ := reBat_ok h
 obtain ⟨p1, p2, p3, p4, p5⟩ := rePre_ok hp
 obtain ⟨a1, a2, rs, a3, a4, a5⟩ := asmB_ok ha
 obtain ⟨k, hk⟩ : ∃ k, (x.len - 49).toNat = k := ⟨_, rfl⟩
 rw [hk] at hn a1 a3
 obtain ⟨rows, hrw⟩ : ∃ r, (s.drop 61).take k = r := ⟨_, rfl⟩
 rw [hrw] at a1 a3
 have hrl : rows.length = k := by rw [← hrw, List.length_take, List.length_drop]; omega
 have u1 := unp_enc _ _ _ _ (Nat.zero_le _) a3
 obtain ⟨u2, u3, u4⟩ := unp_fit _ _ _ _ (Nat.zero_le _) a3
 rw [List.drop_zero] at u1
 have hrb : b.rowsB = rows := by rw [u1, a5]; rfl
 have hrc : b.recs = rs := by rw [a5]
 obtain ⟨at1, at2⟩ := attr_one x.attr a2
 have hpre : b.pre x.sum = x := by
   unfold BatS.pre
   rw [hrb, hrc, hrl, u2]
   rw [a5]
   simp only
   rw [at1, show 49 + ((k : Nat) : Int) = x.len by omega, show ((x.count.toNat : Nat) : Int) = x.count by omega]
 have hby := preX_bytes p1 p3
 rw [p2] at hby
 have hbk : (s.take 61).drop 21 = b.back := by rw [← hby, ← hpre, b.pre_drop]
 have hcr : (b.crc : Int) = x.sum := by
   unfold BatS.crc
   rw [← hbk, hrb]
   exact a1
 refine ⟨?_, by rw [a5]; exact a4, by rw [hrb, hrl]; omega, by rw [hrc]; omega, fun y hy => ?_⟩
 · unfold BatS.enc
   rw [hcr, hpre, hby, hrb, ← hrw, hn, List.take_add]
 · rw [hrc] at hy
   obtain ⟨v1, v2, v3⟩ := u4 y hy
   exact ⟨v1, v2, by omega⟩
theorem pre_R64 {s : Bs} {x : PreS} (h : rePre s = .ok x) : Rn x.base ∧ Rn x.leader ∧ Rn x.last ∧ Rn x.first ∧ Rn x.maxt ∧ Rn x.prod ∧ Rn x.epoch ∧ Rn x.seq := by
 obtain ⟨h1, h2, _, h3, h4⟩ := rePre_ok h
 rw [preX_eq] at h2
 have h2 := h2.symm
 subst h2
 have r : ∀ (k m : Nat), m ≤ 8 → Rn (sInt ((s.drop k).take m)) := fun k m hm => sInt_range _ (by rw [List.length_take]; omega)
 exact ⟨r 0 8 (by decide), r 12 4 (by decide), r 23 4 (by decide), r 27 8 (by decide), r 35 8 (by decide), r 43 8 (by decide), r 51 2 (by decide), r 53 4 (by decide)⟩
structure MidOk (b : BatS) : Prop where
  fit : ∀ x ∈ b.recs, x.R ∧ recOk x = 0 ∧ x.sum ≤ 2000
  len : b.recs.length ≤ 1000
  err : batErr b = 0
  rng : b.R
  rows : b.rowsB.length ≤ 2000
theorem rows_two : ∀ (l : List RecS), 2 * l.length ≤ (l.flatMap encR).length
  | [] => by simp
  | x :: t => by
    have h1 := rows_two t
    have h2 : 2 ≤ (encR x).length := by
      have h3 := encV_pos x.key
      have h4 : 2 ≤ (recF x).length := by unfold recF; simp only [List.length_append, List.length_cons, List.length_nil]; omega
      show 2 ≤ (putU _ ++ recF x).length
      rw [List.length_append]
      omega
    rw [List.flatMap_cons, List.length_append, List.length_cons]
    omega
theorem MidOk.of {s : Bs} {b : BatS} {n : Nat} (h : reBat s = .ok (b, n)) (hl : s.length ≤ 1500) : MidOk b := by
 obtain ⟨h1, h2, h3, h4, h5⟩ := reBat_one h
 obtain ⟨x, hp, _, _, ha⟩ := reBat_ok h
 obtain ⟨_, _, rs, _, _, hb⟩ := asmB_ok ha
 have hr := pre_R64 hp
 have h6 := rows_two b.recs
 have h7 : (b.recs.flatMap encR).length = b.rowsB.length := rfl
 refine ⟨fun y hy => ?_, by omega, h2, ?_, by omega⟩
 · obtain ⟨v1, v2, v3⟩ := h5 y hy
   exact ⟨v1, v2, by omega⟩
 · rw [hb]; exact hr
theorem MidOk.of2 {s : Bs} {b : BatS} {n : Nat} (h : reBat s = .ok (b, n)) (hl : s.length ≤ 2000) : MidOk b := by
 obtain ⟨h1, h2, h3, h4, h5⟩ := reBat_one h
 obtain ⟨x, hp, _, _, ha⟩ := reBat_ok h
 obtain ⟨_, _, rs, _, _, hb⟩ := asmB_ok ha
 have hr := pre_R64 hp
 have h6 := rows_two b.recs
 have h7 : (b.recs.flatMap encR).length = b.rowsB.length := rfl
 refine ⟨fun y hy => ?_, by omega, h2, ?_, by omega⟩
 · obtain ⟨v1, v2, v3⟩ := h5 y hy
   exact ⟨v1, v2, by omega⟩
 · rw [hb]; exact hr
theorem batD_mid {b : BatS} (so : MidOk b) : batD b.enc = .ok b := by
 have h := reBat_back so.err so.rng (fun x hx => ⟨(so.fit x hx).1, (so.fit x hx).2.1, Nat.le_trans (so.fit x hx).2.2 (by omega)⟩) (Nat.le_trans so.rows (by omega)) (Nat.le_trans so.len (by omega)) []
 rw [List.append_nil] at h
 unfold batD
 rw [h]
 simp only
 rw [if_neg (by omega)]
theorem errBs_zero (txn : Bool) : ∀ (l : List BatR), errBs txn l = 0 → ∀ x ∈ l, x.b.ctl = false ∧ x.b.txn = txn
  | [], _ => fun x hx => by cases hx
  | y :: t, h => by
    rw [errBs_cons] at h
    intro x hx
    by_cases c1 : batErr y.b = 0
    · rw [if_neg (by simp [c1])] at h
      by_cases c2 : y.b.ctl = true
      · rw [if_pos c2] at h; cases h
      · rw [if_neg c2] at h
        by_cases c3 : y.b.txn = txn
        · rw [if_neg (by simp [c3])] at h
          rcases List.mem_cons.1 hx with hx | hx
          · subst hx; exact ⟨by simpa using c2, c3⟩
          · exact errBs_zero txn t h x hx
        · rw [if_pos c3] at h; cases h
    · rw [if_pos c1] at h; exact absurd h c1
theorem errPs_zero (txn : Bool) (v : Int) : ∀ (l : List PartR), errPs txn v l = 0 → ∀ x ∈ l, errBs txn x.l = 0
  | [], _ => fun x hx => by cases hx
  | y :: t, h => by
    rw [errPs_cons] at h
    intro x hx
    by_cases c1 : y.l.length = 0 ∨ (v = 3 ∧ 1 < y.l.length)
    · rw [if_pos c1] at h; cases h
    · rw [if_neg c1] at h
      by_cases c2 : errBs txn y.l = 0
      · rw [if_neg (by simp [c2])] at h
        rcases List.mem_cons.1 hx with hx | hx
        · subst hx; exact c2
        · exact errPs_zero txn v t h x hx
      · rw [if_pos c2] at h; exact absurd h c2
theorem errPT_zero (txn : Bool) (v : Int) : ∀ (l : List PTop), errPT txn v l = 0 → ∀ x ∈ l, errPs txn v x.l = 0
  | [], _ => fun x hx => by cases hx
  | y :: t, h => by
    rw [errPT_cons] at h
    intro x hx
    by_cases c2 : errPs txn v y.l = 0
    · rw [if_neg (by simp [c2])] at h
      rcases List.mem_cons.1 hx with hx | hx
      · subst hx; exact c2
      · exact errPT_zero txn v t h x hx
    · rw [if_pos c2] at h; exact absurd h c2
theorem errReq_zero {id : BlobS} {ac tm v : Int} {l : List PTop} (h : errReq id ac tm v l = 0) : errPT (!id.null) v l = 0 := by
 unfold errReq at h
 split at h
 · cases h
 · split at h
   · cases h
   · split at h
     · rename_i h9; exact absurd h h9
     · exact h
structure LawOk (nl : Bool) (x : BatR) : Prop where
  mid : MidOk x.b
  recs : x.l.map (·.1) = x.b.recs
  ctl : x.b.ctl = false
  txn : x.b.txn = !nl
theorem law_ok {nl : Bool} {dd : Bs} {ac tm v : Int} {l : List PTop} {M : Nat} (hM : M ≤ 2000) (h : errReq ⟨nl, dd⟩ ac tm v l = 0) (hp : ∀ x ∈ l, PtOk M x.pt ∧ ∀ y ∈ x.l, ∀ z ∈ y.l, z.l.map (·.1) = z.b.recs) : ∀ x ∈ l, ∀ y ∈ x.l, ∀ z ∈ y.l, LawOk nl z := by
 intro x hx y hy z hz
 obtain ⟨⟨_, _, h3⟩, h4⟩ := hp x hx
 obtain ⟨_, g2⟩ := h3 y.pb (List.mem_map_of_mem hy)
 obtain ⟨t, n, hr, ht⟩ := g2 z.b (List.mem_map_of_mem hz)
 obtain ⟨c1, c2⟩ := errBs_zero _ _ (errPs_zero _ _ _ (errPT_zero _ _ _ (errReq_zero h) x hx) y hy) z hz
 exact ⟨MidOk.of2 hr (by omega), h4 y hy z hz, c1, c2⟩
set_option maxHeartbeats 1000000 in
set_option maxRecDepth 100000 in
theorem parts_rise (l : List PartR) (q : Option Addr) (cap : Nat) (r : Bool) (hr : riseP (-1) l = r) (hll : l.length ≤ 1000000) {W0 w : World} {K : Know} {L : List Res} (hk : K.has (Know.pparts (.slice q l.length cap) l)) (h : St W0 w K L) :
  Calls Try.prog 72 #[.slice q l.length cap] w fun en w' => en = .returned (.bool r) ∧ St W0 w' K L := by
 have H := Lib.hid h
 have HK := Lib.hid hk
 have HR := Lib.hid (show riseP (-1) (l.drop 0) = r by rw [List.drop_zero]; exact hr)
 have hni : (l.length : Int) ≤ 1000000 := by omega
 clear h hk hr hll
 go_enter Try.func72, Try.ntmps72
 go_wp2
 go_loopw [3, 8] (fun av iv wr => ∃ (k : Nat) (a : Int), k ≤ l.length ∧ iv = .int .i64 k ∧ av = .int .i64 a ∧ Hid (riseP a (l.drop k) = r) ∧ St W0 wr K L) (fun _ iv _ => l.length - (intOf iv).toNat)
 case atStart => exact ⟨0, -1, Nat.zero_le _, rfl, rfl, HR, H.out⟩
 case round =>
  obtain ⟨k, a, hkl, rfl, rfl, HC, hst⟩ := hrel
  clear H HR
  have H := Lib.hid hst
  clear hst
  by_cases hlt : k < l.length
  · obtain ⟨bk, off, hqq⟩ := pparts_at HK.out H.out (by omega)
    subst hqq
    obtain ⟨x, hx⟩ : ∃ x, l[k] = x := ⟨_, rfl⟩
    obtain ⟨c0, c1⟩ := pparts_cell HK.out H.out k hlt x hx
    have hc := HC.out
    rw [List.drop_eq_getElem_cons hlt, hx, riseP_cons] at hc
    have hkn : (k : Int) < (l.length : Int) := by omega
    obtain ⟨i, hi⟩ : ∃ i, x.idx = i := ⟨_, rfl⟩
    rw [hi] at c0 hc
    by_cases c2 : a < i
    · have d1 : decide (i ≤ a) = false := decide_eq_false (by omega)
      by_cases c3 : i ≤ 2147483647
      · have d2 : decide (2147483647 < i) = false := decide_eq_false (by omega)
        rw [decide_eq_true c2, decide_eq_true c3, Bool.true_and, Bool.true_and] at hc
        have HC2 := Lib.hid hc
        clear hc hx hi c2 c3
        go_wp2_with fail
        go_roundw
        case rel =>
         refine ⟨k + 1, i, hlt, by go_num, rfl, HC2, ?_⟩
         first | exact H.out | exact H.out.alloc _
        case measure => first | (simp [intOf]; done) | (simp [intOf]; omega)
      · have d2 : decide (2147483647 < i) = true := decide_eq_true (by omega)
        rw [decide_eq_false c3, Bool.and_false, Bool.false_and] at hc
        subst hc
        clear hx hi c2 c3
        go_wp2_with fail
        go_ret
        exact ⟨rfl, by first | exact H.out | exact H.out.alloc _⟩
    · have d1 : decide (i ≤ a) = true := decide_eq_true (by omega)
      rw [decide_eq_false c2, Bool.false_and, Bool.false_and] at hc
      subst hc
      clear hx hi c2
      go_wp2_with fail
      go_ret
      exact ⟨rfl, by first | exact H.out | exact H.out.alloc _⟩
  · obtain rfl : k = l.length := by omega
    have hc := HC.out
    rw [List.drop_length] at hc
    have hc : true = r := hc
    subst hc
    go_wp2_with fail
    go_ret
    exact ⟨rfl, H.out⟩

set_option maxHeartbeats 2000000 in
set_option maxRecDepth 100000 in
theorem check_batches (txn : Bool) (l : List BatR) (q : Option Addr) (cap : Nat) (e : Int) (he : errBs txn l = e) (hf : ∀ x ∈ l, CkR x) (hll : l.length ≤ 1000000) {W0 w : World} {K : Know} {L : List Res} (hk : K.has (Know.bats (.slice q l.length cap) l)) (h : St W0 w K L) :
  Calls Try.prog 73 #[.slice q l.length cap, .bool txn] w fun en w' => en = .returned (.int .i64 e) ∧ St W0 w' K L := by
 have H := Lib.hid h
 have HK := Lib.hid hk
 have HF := Lib.hid hf
 have HR := Lib.hid (show errBs txn (l.drop 0) = e by rw [List.drop_zero]; exact he)
 have hni : (l.length : Int) ≤ 1000000 := by omega
 clear h hk he hll hf
 go_enter Try.func73, Try.ntmps73
 go_wp2
 go_loopw [10] (fun iv wr => ∃ (k : Nat), k ≤ l.length ∧ iv = .int .i64 k ∧ Hid (errBs txn (l.drop k) = e) ∧ St W0 wr K L) (fun iv _ => l.length - (intOf iv).toNat)
 case atStart => exact ⟨0, Nat.zero_le _, rfl, HR, H.out⟩
 case round =>
  obtain ⟨k, hkl, rfl, HC, hst⟩ := hrel
  clear H HR
  have H := Lib.hid hst
  clear hst
  by_cases hlt : k < l.length
  · obtain ⟨bk, off, hqq⟩ := bats_at HK.out H.out (by omega)
    subst hqq
    obtain ⟨x, hx⟩ : ∃ x, l[k] = x := ⟨_, rfl⟩
    have hmem : x ∈ l := hx ▸ List.getElem_mem hlt
    have hck := HF.out x hmem
    have hcell0 := bats_cell HK.out H.out k hlt x hx
    have HXK0 := bats_recs HK.out hmem
    have hc := HC.out
    rw [List.drop_eq_getElem_cons hlt, hx, errBs_cons] at hc
    have hkn : (k : Int) < (l.length : Int) := by omega
    obtain ⟨⟨base, leader, app, txn2, ctl, last, first, maxt, prod, epoch, sq, rcs⟩, xl, xq, xcap⟩ := x
    have hcell : wr.cell? ⟨bk, off + k * 12, none⟩ = some (.int .i64 base) ∧ wr.cell? ⟨bk, off + k * 12 + 1, none⟩ = some (.int .i64 leader) ∧ wr.cell? ⟨bk, off + k * 12 + 2, none⟩ = some (.bool app) ∧ wr.cell? ⟨bk, off + k * 12 + 3, none⟩ = some (.bool txn2) ∧ wr.cell? ⟨bk, off + k * 12 + 4, none⟩ = some (.bool ctl) ∧ wr.cell? ⟨bk, off + k * 12 + 5, none⟩ = some (.int .i64 last) ∧ wr.cell? ⟨bk, off + k * 12 + 6, none⟩ = some (.int .i64 first) ∧ wr.cell? ⟨bk, off + k * 12 + 7, none⟩ = some (.int .i64 maxt) ∧ wr.cell? ⟨bk, off + k * 12 + 8, none⟩ = some (.int .i64 prod) ∧ wr.cell? ⟨bk, off + k * 12 + 9, none⟩ = some (.int .i64 epoch) ∧ wr.cell? ⟨bk, off + k * 12 + 10, none⟩ = some (.int .i64 sq) ∧ wr.cell? ⟨bk, off + k * 12 + 11, none⟩ = some (.slice xq xl.length xcap) := hcell0
    obtain ⟨c0, c1, c2, c3, c4, c5, c6, c7, c8, c9, c10, c11⟩ := hcell
    have HXK := Lib.hid (show K.has (Know.recs (.slice xq xl.length xcap) xl) from HXK0)
    have HFI := Lib.hid (show first ≤ 9223372036854775807 from hck.first)
    have HFB := Lib.hid (show FitB xl from hck.fit)
    have HLN := Lib.hid (show xl.length ≤ 1000000 from hck.len)
    obtain ⟨be, hbe⟩ : ∃ n, batErr ⟨base, leader, app, txn2, ctl, last, first, maxt, prod, epoch, sq, rcs⟩ = n := ⟨_, rfl⟩
    have HBE := Lib.hid (show batErr ⟨base, leader, app, txn2, ctl, last, first, maxt, prod, epoch, sq, xl.map (·.1)⟩ = be by rw [show xl.map (·.1) = rcs from hck.recs]; exact hbe)
    have hc : (if be ≠ 0 then be else if ctl = true then 12 else if txn2 ≠ txn then 8 else errBs txn (l.drop (k + 1))) = e := by rw [← hbe]; exact hc
    clear hx hmem hck hcell0 HXK0 hbe
    by_cases b0 : be = 0
    · subst b0
      rw [if_neg (by simp)] at hc
      cases ctl with
      | true =>
       rw [if_pos rfl] at hc
       subst hc
       go_wp2_with (go_at_call 25; (with_reducible refine (bat_check base leader app txn2 true last first maxt prod epoch sq xl xq xcap 0 HBE.out HFI.out HFB.out HLN.out HXK.out (H.out.allocRaw #[.int .i64 base, .int .i64 leader, .bool app, .bool txn2, .bool true, .int .i64 last, .int .i64 first, .int .i64 maxt, .int .i64 prod, .int .i64 epoch, .int .i64 sq, .slice xq xl.length xcap] 39)).mono ?_); rintro e_ wn ⟨rfl, h⟩; have y3 := h.rawCell 3; have y4 := h.rawCell 4; simp at y3 y4; replace H := Lib.hid h; clear h)
       go_ret
       exact ⟨rfl, H.out.drop⟩
      | false =>
       rw [if_neg (by simp)] at hc
       cases txn2 with
       | true =>
        cases txn with
        | true =>
         rw [if_neg (by simp)] at hc
         have HC2 := Lib.hid hc
         clear hc
         go_wp2_with (go_at_call 25; (with_reducible refine (bat_check base leader app true false last first maxt prod epoch sq xl xq xcap 0 HBE.out HFI.out HFB.out HLN.out HXK.out (H.out.allocRaw #[.int .i64 base, .int .i64 leader, .bool app, .bool true, .bool false, .int .i64 last, .int .i64 first, .int .i64 maxt, .int .i64 prod, .int .i64 epoch, .int .i64 sq, .slice xq xl.length xcap] 39)).mono ?_); rintro e_ wn ⟨rfl, h⟩; have y3 := h.rawCell 3; have y4 := h.rawCell 4; simp at y3 y4; replace H := Lib.hid h; clear h)
         go_roundw
         case rel =>
          refine ⟨k + 1, hlt, by go_num, HC2, ?_⟩
          exact H.out.drop
         case measure => first | (simp [intOf]; done) | (simp [intOf]; omega)
        | false =>
         rw [if_pos (by simp)] at hc
         subst hc
         go_wp2_with (go_at_call 25; (with_reducible refine (bat_check base leader app true false last first maxt prod epoch sq xl xq xcap 0 HBE.out HFI.out HFB.out HLN.out HXK.out (H.out.allocRaw #[.int .i64 base, .int .i64 leader, .bool app, .bool true, .bool false, .int .i64 last, .int .i64 first, .int .i64 maxt, .int .i64 prod, .int .i64 epoch, .int .i64 sq, .slice xq xl.length xcap] 39)).mono ?_); rintro e_ wn ⟨rfl, h⟩; have y3 := h.rawCell 3; have y4 := h.rawCell 4; simp at y3 y4; replace H := Lib.hid h; clear h)
         go_ret
         exact ⟨rfl, H.out.drop⟩
       | false =>
        cases txn with
        | true =>
         rw [if_pos (by simp)] at hc
         subst hc
         go_wp2_with (go_at_call 25; (with_reducible refine (bat_check base leader app false false last first maxt prod epoch sq xl xq xcap 0 HBE.out HFI.out HFB.out HLN.out HXK.out (H.out.allocRaw #[.int .i64 base, .int .i64 leader, .bool app, .bool false, .bool false, .int .i64 last, .int .i64 first, .int .i64 maxt, .int .i64 prod, .int .i64 epoch, .int .i64 sq, .slice xq xl.length xcap] 39)).mono ?_); rintro e_ wn ⟨rfl, h⟩; have y3 := h.rawCell 3; have y4 := h.rawCell 4; simp at y3 y4; replace H := Lib.hid h; clear h)
         go_ret
         exact ⟨rfl, H.out.drop⟩
        | false =>
         rw [if_neg (by simp)] at hc
         have HC2 := Lib.hid hc
         clear hc
         go_wp2_with (go_at_call 25; (with_reducible refine (bat_check base leader app false false last first maxt prod epoch sq xl xq xcap 0 HBE.out HFI.out HFB.out HLN.out HXK.out (H.out.allocRaw #[.int .i64 base, .int .i64 leader, .bool app, .bool false, .bool false, .int .i64 last, .int .i64 first, .int .i64 maxt, .int .i64 prod, .int .i64 epoch, .int .i64 sq, .slice xq xl.length xcap] 39)).mono ?_); rintro e_ wn ⟨rfl, h⟩; have y3 := h.rawCell 3; have y4 := h.rawCell 4; simp at y3 y4; replace H := Lib.hid h; clear h)
         go_roundw
         case rel =>
          refine ⟨k + 1, hlt, by go_num, HC2, ?_⟩
          exact H.out.drop
         case measure => first | (simp [intOf]; done) | (simp [intOf]; omega)
    · rw [if_pos b0] at hc
      subst hc
      have g1 : (be == 0) = false := by rw [beq_eq_false_iff_ne]; exact b0
      have g2 : (be != 0) = true := by simp [bne, g1]
      clear b0
      go_wp2_with (go_at_call 25; (with_reducible refine (bat_check base leader app txn2 ctl last first maxt prod epoch sq xl xq xcap be HBE.out HFI.out HFB.out HLN.out HXK.out (H.out.allocRaw #[.int .i64 base, .int .i64 leader, .bool app, .bool txn2, .bool ctl, .int .i64 last, .int .i64 first, .int .i64 maxt, .int .i64 prod, .int .i64 epoch, .int .i64 sq, .slice xq xl.length xcap] 39)).mono ?_); rintro e_ wn ⟨rfl, h⟩; have y3 := h.rawCell 3; have y4 := h.rawCell 4; simp at y3 y4; replace H := Lib.hid h; clear h)
      go_ret
      exact ⟨rfl, H.out.drop⟩
  · obtain rfl : k = l.length := by omega
    have hc := HC.out
    rw [List.drop_length] at hc
    have hc : 0 = e := hc
    subst hc
    go_wp2_with fail
    go_ret
    exact ⟨rfl, H.out⟩
set_option maxHeartbeats 2000000 in
set_option maxRecDepth 100000 in
theorem check_topics (l : List PTop) (q : Option Addr) (cap : Nat) (e : Int) (he : errTops l = e) (hf : ∀ x ∈ l, x.name.length ≤ 140737488355328 ∧ x.l.length ≤ 1000000) (hll : l.length ≤ 1000000) {W0 w : World} {K : Know} {L : List Res} (hk : K.has (Know.ptops (.slice q l.length cap) l)) (h : St W0 w K L) :
   Calls Try.prog 44 #[.slice q l.length cap] w fun en w' => en = .returned (.int .i64 e) ∧ St W0 w' K L := by
 have H := Lib.hid h
 have HK := Lib.hid hk
 have HF := Lib.hid hf
 have hni : (l.length : Int) ≤ 1000000 := by omega
 unfold errTops at he
 clear h hk hf
 by_cases h0 : l.length = 0
 · rw [if_pos h0] at he
   subst he
   rw [h0]
   clear hni hll h0
   go_enter Try.func44, Try.ntmps44
   go_wp2
   go_ret
   exact ⟨rfl, H.out⟩
 rw [if_neg h0] at he
 have HR := Lib.hid (show errT [] (l.drop 0) = e by rw [List.drop_zero]; exact he)
 have hz : ((l.length : Int) == 0) = false := by rw [beq_eq_false_iff_ne]; omega
 have hz2 : ¬ l.length = 0 := h0
 clear he hll h0
 go_enter Try.func44, Try.ntmps44
 go_wp2
 go_loopw [3, 11] (fun av iv wr => ∃ (k : Nat) (a : Bs), k ≤ l.length ∧ iv = .int .i64 k ∧ av = .string (bb a) ∧ Hid (errT a (l.drop k) = e) ∧ St W0 wr K L) (fun _ iv _ => l.length - (intOf iv).toNat)
 case atStart => exact ⟨0, [], Nat.zero_le _, rfl, rfl, HR, H.out⟩
 case round =>
   obtain ⟨k, a, hkl, rfl, rfl, HC, hst⟩ := hrel
   clear H HR
   have H := Lib.hid hst
   clear hst
   by_cases hlt : k < l.length
   · obtain ⟨bk, off, hqq⟩ := ptops_at HK.out H.out (by omega)
     subst hqq
     obtain ⟨x, hx⟩ : ∃ x, l[k] = x := ⟨_, rfl⟩
     have hmem : x ∈ l := hx ▸ List.getElem_mem hlt
     obtain ⟨hn1, hn2⟩ := HF.out x hmem
     obtain ⟨c0, c1⟩ := ptops_cell HK.out H.out k hlt x hx
     have HXK0 := ptops_parts HK.out hmem
     have hc := HC.out
     rw [List.drop_eq_getElem_cons hlt, hx, errT_cons] at hc
     have hkn : (k : Int) < (l.length : Int) := by omega
     obtain ⟨nm, xl, xq, xcap⟩ := x
     simp only at c0 c1 hc hn1 hn2 HXK0
     have HXK := Lib.hid HXK0
     have HNM := Lib.hid hn1
     have HLN := Lib.hid hn2
     clear hx hmem hn1 HXK0
     by_cases z : xl.length = 0
     · rw [if_pos z] at hc
       subst hc
       rw [z] at c1
       clear z hn2
       go_wp2_with fail
       go_ret
       exact ⟨rfl, H.out.alloc _⟩
     rw [if_neg z] at hc
     have z1 : ((xl.length : Int) == 0) = false := by rw [beq_eq_false_iff_ne]; omega
     have z2 : ¬ xl.length = 0 := z
     obtain ⟨kr, hkr⟩ : ∃ r, keyRight nm = r := ⟨_, rfl⟩
     obtain ⟨rp, hrp⟩ : ∃ r, riseP (-1) xl = r := ⟨_, rfl⟩
     rw [hkr, hrp] at hc
     have HKR := Lib.hid hkr
     have HRP := Lib.hid hrp
     clear z hn2 hkr hrp
     cases kr with
     | false =>
       simp only [Bool.false_and, Bool.false_eq_true, if_false] at hc
       subst hc
       go_wp2_with (first
   | (go_at_call 43; (with_reducible refine (key_rightQ nm false HKR.out HNM.out (H.out.allocRaw #[.string (bb nm), .slice xq xl.length xcap] 33)).mono ?_); rintro e_ wn ⟨rfl, h⟩; have y0 := h.rawCell 0; have y1 := h.rawCell 1; simp at y0 y1; replace H := Lib.hid h; clear h))
       go_ret
       exact ⟨rfl, H.out.drop⟩
     | true =>
       simp only [Bool.true_and] at hc
       cases hp : Op.bytesLess a nm with
       | false =>
        rw [hp] at hc
        simp only [Bool.false_and, Bool.false_eq_true, if_false] at hc
        subst hc
        rcases leq_cases nm a hp with g1 | ⟨g1, g2⟩
        · clear hp
          go_wp2_with (first
   | (go_at_call 43; (with_reducible refine (key_rightQ nm true HKR.out HNM.out (H.out.allocRaw #[.string (bb nm), .slice xq xl.length xcap] 33)).mono ?_); rintro e_ wn ⟨rfl, h⟩; have y0 := h.rawCell 0; have y1 := h.rawCell 1; simp at y0 y1; replace H := Lib.hid h; clear h))
          go_ret
          exact ⟨rfl, H.out.drop⟩
        · clear hp
          go_wp2_with (first
   | (go_at_call 43; (with_reducible refine (key_rightQ nm true HKR.out HNM.out (H.out.allocRaw #[.string (bb nm), .slice xq xl.length xcap] 33)).mono ?_); rintro e_ wn ⟨rfl, h⟩; have y0 := h.rawCell 0; have y1 := h.rawCell 1; simp at y0 y1; replace H := Lib.hid h; clear h))
          go_ret
          exact ⟨rfl, H.out.drop⟩
       | true =>
        rw [hp] at hc
        simp only [Bool.true_and] at hc
        obtain ⟨g1, g2⟩ := leq_parts nm a hp
        clear hp
        cases rp with
        | false =>
          simp only [Bool.false_eq_true, if_false] at hc
          subst hc
          go_wp2_with (first
   | (go_at_call 43; (with_reducible refine (key_rightQ nm true HKR.out HNM.out (H.out.allocRaw #[.string (bb nm), .slice xq xl.length xcap] 33)).mono ?_); rintro e_ wn ⟨rfl, h⟩; have y0 := h.rawCell 0; have y1 := h.rawCell 1; simp at y0 y1; replace H := Lib.hid h; clear h)
   | (go_at_call 72; clear y0 y1; (with_reducible refine (parts_rise xl xq xcap false HRP.out HLN.out HXK.out H.out).mono ?_); rintro e_ wn ⟨rfl, h⟩; have y0 := h.rawCell 0; simp at y0; replace H := Lib.hid h; clear h))
          go_ret
          exact ⟨rfl, H.out.drop⟩
        | true =>
          rw [if_pos rfl] at hc
          have HC2 := Lib.hid hc
          clear hc
          go_wp2_with (first
   | (go_at_call 43; (with_reducible refine (key_rightQ nm true HKR.out HNM.out (H.out.allocRaw #[.string (bb nm), .slice xq xl.length xcap] 33)).mono ?_); rintro e_ wn ⟨rfl, h⟩; have y0 := h.rawCell 0; have y1 := h.rawCell 1; simp at y0 y1; replace H := Lib.hid h; clear h)
   | (go_at_call 72; clear y0 y1; (with_reducible refine (parts_rise xl xq xcap true HRP.out HLN.out HXK.out H.out).mono ?_); rintro e_ wn ⟨rfl, h⟩; have y0 := h.rawCell 0; simp at y0; replace H := Lib.hid h; clear h))
          go_roundw
          case rel =>
           refine ⟨k + 1, nm, hlt, by go_num, rfl, HC2, ?_⟩
           exact H.out.drop
          case measure => first | (simp [intOf]; done) | (simp [intOf]; omega)
   · obtain rfl : k = l.length := by omega
     have hc := HC.out
     rw [List.drop_length] at hc
     have hc : 0 = e := hc
     subst hc
     go_wp2_with fail
     go_ret
     exact ⟨rfl, H.out⟩
set_option maxHeartbeats 4000000 in
set_option maxRecDepth 100000 in
theorem check_parts (nl : Bool) (dd : Bs) (ac tm v : Int) (l : List PTop) (q : Option Addr) (cap : Nat) (e : Int) (he : errPT (!nl) v l = e) (hf : ∀ x ∈ l, CkT x) (hll : l.length ≤ 1000000) {W0 w : World} {K : Know} {L : List Res} (hk : K.has (Know.ptops (.slice q l.length cap) l)) (h : St W0 w K L) :
  Calls Try.prog 45 #[.agg #[.bool nl, .string (bb dd), .int .i64 ac, .int .i64 tm, .slice q l.length cap], .int .i64 v] w fun en w' => en = .returned (.int .i64 e) ∧ St W0 w' K L := by
 obtain ⟨rb, hrb⟩ : ∃ b, w.heap.size = b := ⟨_, rfl⟩
 have g1 := h.allocRaw #[.bool nl, .string (bb dd), .int .i64 ac, .int .i64 tm, .slice q l.length cap] 29
 rw [hrb] at g1
 have z0 := g1.rawCell 0
 have z3 := g1.rawCell 4
 simp at z0 z3
 have H := Lib.hid g1
 have HK := Lib.hid hk
 have HF := Lib.hid hf
 have HR := Lib.hid (show errPT (!nl) v (l.drop 0) = e by rw [List.drop_zero]; exact he)
 have hni : (l.length : Int) ≤ 1000000 := by omega
 clear h g1 hk hf he hll
 go_enter Try.func45, Try.ntmps45
 go_wp2
 clear z0 z3
 go_loopw [13] (fun iv wr => ∃ (k : Nat), k ≤ l.length ∧ iv = .int .i64 k ∧ Hid (errPT (!nl) v (l.drop k) = e) ∧ St W0 wr K (.raw rb #[.bool nl, .string (bb dd), .int .i64 ac, .int .i64 tm, .slice q l.length cap] 29 :: L)) (fun iv _ => l.length - (intOf iv).toNat)
 case atStart => exact ⟨0, Nat.zero_le _, rfl, HR, H.out⟩
 case round =>
  obtain ⟨k, hkl, rfl, HC, hst⟩ := hrel
  clear H HR
  have H := Lib.hid hst
  clear hst
  by_cases hlt : k < l.length
  · obtain ⟨bk, off, hqq⟩ := ptops_at HK.out H.out (by omega)
    obtain ⟨x, hx⟩ : ∃ x, l[k] = x := ⟨_, rfl⟩
    have hmem : x ∈ l := hx ▸ List.getElem_mem hlt
    have hck := HF.out x hmem
    have HK' := HK.out
    rw [hqq] at HK'
    obtain ⟨c0, c1⟩ := ptops_cell HK' H.out k hlt x hx
    have HXK0 := ptops_parts HK.out hmem
    have hc := HC.out
    rw [List.drop_eq_getElem_cons hlt, hx, errPT_cons] at hc
    have hkn : (k : Int) < (l.length : Int) := by omega
    obtain ⟨nm, xl, xq, xcap⟩ := x
    simp only at c0 c1 hc HXK0
    have HXK := Lib.hid HXK0
    have HPF := Lib.hid (show ∀ y ∈ xl, CkP y from hck.parts)
    have hxl : xl.length ≤ 1000000 := hck.len
    have hxi : (xl.length : Int) ≤ 1000000 := by omega
    have HIR := Lib.hid (show (if errPs (!nl) v (xl.drop 0) ≠ 0 then errPs (!nl) v (xl.drop 0) else errPT (!nl) v (l.drop (k + 1))) = e by rw [List.drop_zero]; exact hc)
    have HS := Lib.hid (H.out.alloc (.cells #[.string (bb nm), .slice xq xl.length xcap] 33 (0, 0)))
    subst hqq
    clear hx hmem hck HK' HXK0 hc hxl
    go_wp2_with fail
    go_loopw [20] (fun jv wr => ∃ (j : Nat), j ≤ xl.length ∧ jv = .int .i64 j ∧ Hid ((if errPs (!nl) v (xl.drop j) ≠ 0 then errPs (!nl) v (xl.drop j) else errPT (!nl) v (l.drop (k + 1))) = e) ∧ St W0 wr K (.raw rb #[.bool nl, .string (bb dd), .int .i64 ac, .int .i64 tm, .slice (some ⟨bk, off, none⟩) l.length cap] 29 :: L)) (fun jv _ => xl.length - (intOf jv).toNat)
    case atStart => exact ⟨0, Nat.zero_le _, rfl, HIR, HS.out⟩
    case round =>
     obtain ⟨j, hjl, rfl, HIC, hst⟩ := hrel
     clear H HIR HS c0 c1
     have H := Lib.hid hst
     clear hst
     by_cases hjt : j < xl.length
     · obtain ⟨pk, poff, hpq⟩ := pparts_at HXK.out H.out (by omega)
       subst hpq
       obtain ⟨y, hy⟩ : ∃ y, xl[j] = y := ⟨_, rfl⟩
       have hmem : y ∈ xl := hy ▸ List.getElem_mem hjt
       have hck := HPF.out y hmem
       obtain ⟨d0, d1⟩ := pparts_cell HXK.out H.out j hjt y hy
       have HYK0 := pparts_bats HXK.out hmem
       have hc := HIC.out
       rw [List.drop_eq_getElem_cons hjt, hy] at hc
       obtain ⟨ep, hep⟩ : ∃ ep, errPs (!nl) v (y :: xl.drop (j + 1)) = ep := ⟨_, rfl⟩
       rw [hep] at hc
       rw [errPs_cons] at hep
       have hjn : (j : Int) < (xl.length : Int) := by omega
       obtain ⟨yi, yl, yq, ycap⟩ := y
       simp only at d0 d1 hep HYK0
       have HYK := Lib.hid HYK0
       have HCK := Lib.hid (show ∀ z ∈ yl, CkR z from hck.bats)
       have HYL := Lib.hid (show yl.length ≤ 1000000 from hck.len)
       have z0 := (H.out.alloc (.cells #[.int .i64 yi, .slice yq yl.length ycap] 36 (0, 0))).rawCell 0
       simp at z0
       clear hy hmem hck HYK0
       by_cases n0 : yl.length = 0
       · rw [if_pos (Or.inl n0)] at hep
         subst hep
         rw [if_pos (by decide)] at hc
         subst hc
         rw [n0] at d1 z0
         clear n0 HCK HYL HYK
         go_wp2_with fail
         go_ret
         exact ⟨rfl, by first | exact H.out.drop | exact (H.out.alloc _).drop⟩
       have n1 : ((yl.length : Int) == 0) = false := by rw [beq_eq_false_iff_ne]; omega
       have n2 : ¬ yl.length = 0 := n0
       by_cases hv : v = 3 ∧ 1 < yl.length
       · rw [if_pos (Or.inr hv)] at hep
         subst hep
         rw [if_pos (by decide)] at hc
         subst hc
         have v4 : (v == 3) = true := by rw [hv.1]; rfl
         have g2 : (1 : Int) < (yl.length : Int) := by omega
         clear n0 hv
         go_wp2_with fail
         go_ret
         exact ⟨rfl, by first | exact H.out.drop | exact (H.out.alloc _).drop⟩
       rw [if_neg (by intro hh; rcases hh with hh | hh; exact n0 hh; exact hv hh)] at hep
       obtain ⟨e2, he2⟩ : ∃ e2, errBs (!nl) yl = e2 := ⟨_, rfl⟩
       rw [he2] at hep
       have HBE := Lib.hid he2
       by_cases v3 : v = 3
       · have v4 : (v == 3) = true := by rw [v3]; rfl
         have g2 : ¬ (1 : Int) < (yl.length : Int) := by intro hh; exact hv ⟨v3, by omega⟩
         clear n0 he2 hv v3
         by_cases e0 : e2 = 0
         · subst e0
           rw [if_neg (by simp)] at hep
           rw [← hep] at hc
           have HC2 := Lib.hid hc
           clear hc
           go_wp2_with (go_at_call 73; (with_reducible refine (check_batches (!nl) yl yq ycap 0 HBE.out HCK.out HYL.out HYK.out (H.out.allocRaw #[.int .i64 yi, .slice yq yl.length ycap] 36)).mono ?_); rintro e_ wn ⟨rfl, h⟩; have h := h.drop; replace H := Lib.hid h; clear h)
           go_roundw
           case rel =>
            refine ⟨j + 1, hjt, by go_num, HC2, ?_⟩
            exact H.out
           case measure => first | (simp [intOf]; done) | (simp [intOf]; omega)
         · rw [if_pos e0] at hep
           subst hep
           rw [if_pos e0] at hc
           subst hc
           have e1 : (e2 == 0) = false := by rw [beq_eq_false_iff_ne]; exact e0
           have e3 : (e2 != 0) = true := by simp [bne, e1]
           clear e0
           go_wp2_with (go_at_call 73; (with_reducible refine (check_batches (!nl) yl yq ycap e2 HBE.out HCK.out HYL.out HYK.out (H.out.allocRaw #[.int .i64 yi, .slice yq yl.length ycap] 36)).mono ?_); rintro e_ wn ⟨rfl, h⟩; have h := h.drop; replace H := Lib.hid h; clear h)
           go_ret
           exact ⟨rfl, H.out.drop⟩
       · have v4 : (v == 3) = false := by rw [beq_eq_false_iff_ne]; exact v3
         clear n0 he2 hv v3
         by_cases e0 : e2 = 0
         · subst e0
           rw [if_neg (by simp)] at hep
           rw [← hep] at hc
           have HC2 := Lib.hid hc
           clear hc
           go_wp2_with (go_at_call 73; (with_reducible refine (check_batches (!nl) yl yq ycap 0 HBE.out HCK.out HYL.out HYK.out (H.out.allocRaw #[.int .i64 yi, .slice yq yl.length ycap] 36)).mono ?_); rintro e_ wn ⟨rfl, h⟩; have h := h.drop; replace H := Lib.hid h; clear h)
           go_roundw
           case rel =>
            refine ⟨j + 1, hjt, by go_num, HC2, ?_⟩
            exact H.out
           case measure => first | (simp [intOf]; done) | (simp [intOf]; omega)
         · rw [if_pos e0] at hep
           subst hep
           rw [if_pos e0] at hc
           subst hc
           have e1 : (e2 == 0) = false := by rw [beq_eq_false_iff_ne]; exact e0
           have e3 : (e2 != 0) = true := by simp [bne, e1]
           clear e0
           go_wp2_with (go_at_call 73; (with_reducible refine (check_batches (!nl) yl yq ycap e2 HBE.out HCK.out HYL.out HYK.out (H.out.allocRaw #[.int .i64 yi, .slice yq yl.length ycap] 36)).mono ?_); rintro e_ wn ⟨rfl, h⟩; have h := h.drop; replace H := Lib.hid h; clear h)
           go_ret
           exact ⟨rfl, H.out.drop⟩
     · obtain rfl : j = xl.length := by omega
       have hc := HIC.out
       rw [List.drop_length] at hc
       have hc : (if (0 : Int) ≠ 0 then 0 else errPT (!nl) v (l.drop (k + 1))) = e := hc
       rw [if_neg (by simp)] at hc
       have HC2 := Lib.hid hc
       clear hc
       go_wp2_with fail
       go_roundw
       case rel =>
         refine ⟨k + 1, hlt, by go_num, HC2, ?_⟩
         exact H.out
       case measure => first | (simp [intOf]; done) | (simp [intOf]; omega)
  · obtain rfl : k = l.length := by omega
    have hc := HC.out
    rw [List.drop_length] at hc
    have hc : 0 = e := hc
    subst hc
    go_wp2_with fail
    go_ret
    exact ⟨rfl, H.out.drop⟩

end Go.Proofs.Ytnnnglklgofabaa
