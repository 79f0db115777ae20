/- Builders of texts. -/
import Derived.Lib.Builder
import Derived.Lib.UnsafeStr
import Derived.Laws.Externs
import Derived.Shelf.RegionOpenPlain
import Derived.Test.YtenojajfacacoaaDoorGrow
namespace Go.Proofs.YtenojajfacacoaaDoor
open Go.RowKit

theorem sb_size : (Tryd.prog.info? 58).map (·.size) = some 2 := by kernel_rfl
theorem sb_lies : liesAt Tryd.prog Tryd.prog.depth 58 (2 / Tryd.prog.cellsOf 58) 0 58 1 = true := by kernel_rfl
/-- A strings.Builder of one's own. -/
structure SbAt (w : World) (b : Nat) (p v : Value) (l : Bs) : Prop where
  ptr : p = .pointer none ∨ p = .pointer (some ⟨b, 0, none⟩)
  blk : w.heap[b]? = some (.cells #[p, v] 58 (0, 0))
  row : w.ownsRow 0 5 1 v l.length (Lib.byteCells l)
  ne : v.ownBlock ≠ some b
def sbG (b : Nat) (l : Bs) : Gen where
  p w S := ∃ p v, SbAt w b p v l ∧ ∀ k, S k ↔ k = b ∨ v.ownBlock = some k
  keep w w' S h hs hk := by
    obtain ⟨p, v, ⟨h1, h2, h3, h4⟩, h5⟩ := h
    refine ⟨p, v, ⟨h1, (hk b (heap_lt h2) ((h5 b).2 (.inl rfl))).trans h2, ?_, h4⟩, h5⟩
    exact (Res.keep (r := .row v 5 1 l.length (Lib.byteCells l)) (w := w) (w' := w') (S := fun k => v.ownBlock = some k) ⟨h3, fun k => Iff.rfl⟩ hs (fun k hl hx => hk k hl ((h5 k).2 (.inr hx)))).1
theorem St.sbOpen {W0 w : World} {K : Know} {L : List Res} {b : Nat} {l : Bs} (h : St W0 w K (.gen (sbG b l) :: L)) : ∃ p v, (p = .pointer none ∨ p = .pointer (some ⟨b, 0, none⟩)) ∧ St W0 w K (.raw b #[p, v] 58 :: .row v 5 1 l.length (Lib.byteCells l) :: L) := by
  obtain ⟨a, S, F, ⟨S1, S2, ⟨p, v, ⟨h1, h2, h3, h4⟩, h5⟩, hL, hd, he⟩, c⟩ := h
  refine ⟨p, v, h1, a, S, F, ⟨fun k => k = b, fun k => v.ownBlock = some k ∨ S2 k, ⟨h2, fun _ => Iff.rfl⟩, ⟨fun k => v.ownBlock = some k, S2, ⟨h3, fun _ => Iff.rfl⟩, hL, fun k hk => hd k ((h5 k).2 (.inr hk)), fun _ => Iff.rfl⟩, ?_, fun k => ?_⟩, c⟩
  · rintro k rfl (hk | hk)
    · exact h4 hk
    · exact hd k ((h5 k).2 (.inl rfl)) hk
  · rw [he, h5, or_assoc]
theorem St.sbShut {W0 w : World} {K : Know} {L : List Res} {b : Nat} {p v : Value} {l : Bs} {n : Nat} {cs : List Value} (hp : p = .pointer none ∨ p = .pointer (some ⟨b, 0, none⟩)) (hn : n = l.length) (hc : cs = Lib.byteCells l) (h : St W0 w K (.raw b #[p, v] 58 :: .row v 5 1 n cs :: L)) : St W0 w K (.gen (sbG b l) :: L) := by
  subst hn hc
  obtain ⟨a, S, F, ⟨S1, S2, ⟨h2, e1⟩, ⟨S3, S4, ⟨h3, e3⟩, hL, d2, e2⟩, d1, e⟩, c⟩ := h
  refine ⟨a, S, F, ⟨fun k => S1 k ∨ S3 k, S4, ⟨p, v, ⟨hp, h2, h3, fun h => d1 b ((e1 b).2 rfl) ((e2 b).2 (.inl ((e3 b).2 h)))⟩, fun k => by show S1 k ∨ S3 k ↔ _; rw [e1, e3]⟩, hL, ?_, fun k => ?_⟩, c⟩
  · rintro k (hk | hk) h4
    · exact d1 k hk ((e2 k).2 (.inr h4))
    · exact d2 k hk h4
  · rw [e, e2, or_assoc]
theorem St.sbNew {W0 w : World} {K : Know} {L : List Res} (h : St W0 w K L) : St W0 (w.alloc (.cells #[.pointer none, .slice none 0 0] 58 (0, 0))) K (.gen (sbG w.heap.size []) :: L) :=
  St.sbShut (.inl rfl) rfl rfl (((h.allocRaw #[.pointer none, .slice none 0 0] 58).nilRow 5 1).p1)

set_option maxHeartbeats 4000000 in
set_option maxRecDepth 100000 in
theorem sb_check (b : Nat) (p v : Value) (hp : p = .pointer none ∨ p = .pointer (some ⟨b, 0, none⟩)) {W0 w : World} {K : Know} {L : List Res} (h : St W0 w K (.raw b #[p, v] 58 :: L)) :
    Calls Tryd.prog 51 #[.pointer (some ⟨b, 0, none⟩)] w fun en w' => en = .returned (.tuple #[]) ∧ St W0 w' K (.raw b #[.pointer (some ⟨b, 0, none⟩), v] 58 :: L) := by
  obtain ⟨j, hj, hjs⟩ := Option.map_eq_some_iff.1 sb_size
  rcases hp with rfl | rfl
  · have hsh : w.shape? b = some (58, 2) := by have h9 := h.rawGet; simp [World.shape?, h9]
    have c0 := (h).rawCell 0; have c1 := (h).rawCell 1; simp at c0 c1; have r0 := (h).rawFree 0; have r1 := (h).rawFree 1
    have H := Lib.hid h
    clear h
    go_enter Tryd.func51, Tryd.ntmps51
    go_wp2
    rw [Lib.run_to_unsafe w ⟨b, 0, none⟩ Tryd.underlying55 Tryd.underlying105 hj (by rw [hjs]; decide) hsh (Nat.zero_lt_succ 1)]
    simp only [Result.andThen]
    rw [Oper.upon_value]
    go_wp2
    rw [run_callFunc_extern Tryd.func63 (by kernel_rfl) (by kernel_rfl) (by kernel_rfl) (e := Extern.AbiNoEscape.same) (by kernel_rfl)]
    rw [Lib.run_noEscape]
    simp only [Result.andThen]
    rw [Oper.upon_value]
    go_wp2
    rw [Lib.run_from_unsafe w ⟨b, 0, none⟩ Tryd.underlying105 Tryd.underlying55 hj hsh sb_lies]
    simp only [Result.andThen]
    rw [Oper.upon_value]
    go_wp2
    go_end0
    exact ⟨rfl, H.out.rawSet 0 _⟩
  · have c0 := (h).rawCell 0; have c1 := (h).rawCell 1; simp at c0 c1; have r0 := (h).rawFree 0; have r1 := (h).rawFree 1
    have H := Lib.hid h
    clear h
    go_enter Tryd.func51, Tryd.ntmps51
    go_wp2
    rw [Lib.run_neq_ptr_same w _ Tryd.underlying55 hj]
    go_wp2
    go_end0
    exact ⟨rfl, H.out⟩

theorem byteCells_snoc (l : Bs) (x : UInt8) : Lib.byteCells l ++ [.int .u8 x.toNat] = Lib.byteCells (l ++ [x]) := by simp [Lib.byteCells]
theorem byteCells_app (l : Bs) (s : Bs) : Lib.byteCells l ++ Lib.strCells (bb s) = Lib.byteCells (l ++ s) := by simp [Lib.byteCells, Lib.strCells]
theorem wpl_appS_st {W0 w : World} {K : Know} {L : List Res} {ops : Array Oper} {rest : List Oper} {o : Oper} {a : Act} {Q : Exit → Act → World → Prop} (hgd : o.guard = none) (sl x : Operand) (t u : TypeId)
    (ho : o.op = .call { callee := .builtin .append, args := #[sl, x], argTypes := #[t, u] }) (ht : Tryd.prog.underlying t = some (.slice 5)) (hu : Tryd.prog.underlying u = some .string)
    (v : Value) (n : Nat) (xs : List Value) (hs : a.eval sl = v) (hst : St W0 w K (.row v 5 1 n xs :: L)) (s : ByteArray) (hx : a.eval x = .string s) (hbytes : n + s.size ≤ 140737488355328)
    (h : ∀ v' w', St W0 w' K (.row v' 5 1 (n + s.size) (xs ++ Lib.strCells s) :: L) → wpList Tryd.prog ops Q rest (a.put o.dst v') w') : wpList Tryd.prog ops Q (o :: rest) a w := by
  obtain ⟨⟨i, g1, g2, g3, g4⟩, g5, g6⟩ := elem_u8
  exact wpl_app_str hgd sl x t u ho 5 i ht hu g1 g2 g3 g4 v n xs hs hst.rowGet s hx hbytes fun v' w' k1 k2 k3 => h v' w' (hst.rowGrown k1 k2 k3)
set_option maxHeartbeats 4000000 in
set_option maxRecDepth 100000 in
theorem sb_byte (b : Nat) (l : Bs) (x : UInt8) (hl : l.length ≤ 1000000000000) {W0 w : World} {K : Know} {L : List Res} (h : St W0 w K (.gen (sbG b l) :: L)) :
    Calls Tryd.prog 35 #[.pointer (some ⟨b, 0, none⟩), .int .u8 x.toNat] w fun en w' => en = .returned .nilIface ∧ St W0 w' K (.gen (sbG b (l ++ [x])) :: L) := by
  obtain ⟨p, v, hp, h⟩ := h.sbOpen
  obtain ⟨qv, cv, hv⟩ := h.p1.rowAny
  subst hv
  have c0 := (h).rawCell 0; have c1 := (h).rawCell 1; simp at c0 c1; have r0 := (h).rawFree 0; have r1 := (h).rawFree 1
  have H := Lib.hid h
  have HP := Lib.hid hp
  have HL := Lib.hid hl
  clear h hp hl
  go_enter Tryd.func35, Tryd.ntmps35
  go_wp2_with (first
    | (go_at_call 51; (try clear c0 c1 r0 r1); (with_reducible refine (sb_check b p _ HP.out H.out).mono ?_); rintro e_ wn ⟨rfl, h⟩; have c0 := (h).rawCell 0; have c1 := (h).rawCell 1; simp at c0 c1; have r0 := (h).rawFree 0; have r1 := (h).rawFree 1; have h := h.p1; replace H := Lib.hid h; clear h)
    | (at_builtin; refine wpl_app1_st rfl _ _ 56 rfl 5 Tryd.underlying56 elem_u8 _ _ _ rfl H.out [.int .u8 x.toNat] 5 (by first | rfl | (rw [World.size_alloc]; rfl)) rfl (by simp [Value.oneCell'];done) (by have := HL.out; unfold maxLen; omega) (by have := HL.out; omega) ?_; intro v' w' h; obtain ⟨qw, cw, hw⟩ := h.rowAny; subst hw; have h := h.p1; have c0 := (h).rawCell 0; have c1 := (h).rawCell 1; simp at c0 c1; have r0 := (h).rawFree 0; have r1 := (h).rawFree 1; replace H := Lib.hid h; clear h))
  go_ret
  exact ⟨rfl, St.sbShut (.inr rfl) (by simp) (byteCells_snoc l x) (H.out.rawSet 1 _)⟩
set_option maxHeartbeats 4000000 in
set_option maxRecDepth 100000 in
theorem sb_str (b : Nat) (l s : Bs) (hl : l.length + s.length ≤ 1000000000000) {W0 w : World} {K : Know} {L : List Res} (h : St W0 w K (.gen (sbG b l) :: L)) :
    Calls Tryd.prog 34 #[.pointer (some ⟨b, 0, none⟩), .string (bb s)] w fun en w' => en = .returned (.tuple #[.int .i64 s.length, .nilIface]) ∧ St W0 w' K (.gen (sbG b (l ++ s)) :: L) := by
  obtain ⟨p, v, hp, h⟩ := h.sbOpen
  obtain ⟨qv, cv, hv⟩ := h.p1.rowAny
  subst hv
  have c0 := (h).rawCell 0; have c1 := (h).rawCell 1; simp at c0 c1; have r0 := (h).rawFree 0; have r1 := (h).rawFree 1
  have H := Lib.hid h
  have HP := Lib.hid hp
  have HL := Lib.hid hl
  clear h hp hl
  go_enter Tryd.func34, Tryd.ntmps34
  go_wp2_with (first
    | (go_at_call 51; (try clear c0 c1 r0 r1); (with_reducible refine (sb_check b p _ HP.out H.out).mono ?_); rintro e_ wn ⟨rfl, h⟩; have c0 := (h).rawCell 0; have c1 := (h).rawCell 1; simp at c0 c1; have r0 := (h).rawFree 0; have r1 := (h).rawFree 1; have h := h.p1; replace H := Lib.hid h; clear h)
    | (at_builtin; refine wpl_appS_st rfl _ _ 56 9 rfl Tryd.underlying56 Tryd.underlying9 _ _ _ rfl H.out (bb s) rfl (by have h8 := HL.out; have h9 : (bb s).size = s.length := (by simp); omega) ?_; intro v' w' h; obtain ⟨qw, cw, hw⟩ := h.rowAny; subst hw; have h := h.p1; have c0 := (h).rawCell 0; have c1 := (h).rawCell 1; simp at c0 c1; have r0 := (h).rawFree 0; have r1 := (h).rawFree 1; replace H := Lib.hid h; clear h))
  go_ret2
  exact ⟨by simp, St.sbShut (.inr rfl) (by simp) (byteCells_app l s) (H.out.rawSet 1 _)⟩
theorem keeps_freeze (w : World) (g n : Nat) : Keeps (· = g) w (w.freeze ⟨g, 0, none⟩ n) := by
  unfold World.freeze
  split
  · exact Keeps.refl _ _
  · refine ⟨rfl, rfl, rfl, by simp, fun k hk hne => ?_⟩
    simp only [Array.getElem?_modify]
    rw [if_neg (fun e => hne e.symm)]
theorem St.gone {W0 w : World} {K : Know} {L : List Res} {w' : World} {r : Res} (h : St W0 w K (r :: L)) (hr : ∀ S1, r.holds w S1 → Keeps S1 w w') : St W0 w' K L :=
  St.drop (r := .gen ⟨fun _ S => ∀ k, ¬ S k, fun _ _ _ h _ _ => h⟩) (h.step fun S1 h1 => ⟨fun _ => False, fun _ h => h, hr S1 h1, fun _ h => h.elim⟩)
set_option maxHeartbeats 4000000 in
set_option maxRecDepth 100000 in
theorem sb_text (b : Nat) (l : Bs) (h0 : l ≠ []) {W0 w : World} {K : Know} {L : List Res} (h : St W0 w K (.gen (sbG b l) :: L)) :
    Calls Tryd.prog 24 #[.pointer (some ⟨b, 0, none⟩)] w fun en w' => en = .returned (.string (bb l)) ∧ St W0 w' K L := by
  obtain ⟨p, v, hp, h⟩ := h.sbOpen
  have hl : 0 < l.length := List.length_pos_iff.2 h0
  obtain ⟨g, cap, hv⟩ := h.p1.rowSlice hl
  subst hv
  have h1 := h.drew
  have c0 := (h1).rawCell 0; have c1 := (h1).rawCell 1; simp at c0 c1
  obtain ⟨hlc, hcap, cur, hg⟩ : l.length ≤ cap ∧ cap ≤ maxLen ∧ ∃ cur, w.heap[g]? = some (.cells cur 5 (0, 0)) ∧ cur.size = cap := by
    rcases h.p1.rowGet.2 with ⟨h2, _⟩ | ⟨g2, cap2, cur, h2, _, h3, h4, h5, h6, _⟩
    · cases h2
    · injection h2 with e1 e2 e3
      injection e1 with e1
      injection e1 with e1
      subst e1 e3
      exact ⟨h4, h5, cur, h3, by omega⟩
  have hSD : (Builtin.unsafeSliceData_ #[56] 86 #[.slice (some ⟨g, 0, none⟩) l.length cap]).run Tryd.prog w.drew = .ok (.pointer (some ⟨g, 0, none⟩)) w.drew :=
    Lib.run_unsafeSliceData_row _ _ _ _ _ _ (by omega)
  have hUS : (Builtin.unsafeString_ #[86, 3] 9 #[.pointer (some ⟨g, 0, none⟩), .int .i64 l.length]).run Tryd.prog w.drew = .ok (.string (bb l)) (w.drew.freeze ⟨g, 0, none⟩ l.length) := by
    refine Lib.run_unsafeString_row w.drew 86 3 9 5 Tryd.underlying86 (by kernel_rfl) g cur.size (by have hg' : w.drew.heap[g]? = some (.cells cur 5 (0, 0)) := hg.1; simp [World.shape?, hg']) l h0 (by omega) (by unfold maxLen at hcap; omega) ?_
    intro j x hx
    exact h1.p1.rowGet.cells (g := g) rfl j (.int .u8 x.toNat) (by simp [Lib.byteCells, hx])
  have hz : St W0 (w.drew.freeze ⟨g, 0, none⟩ l.length) K L := (h1.p1.gone fun S1 hr => (keeps_freeze _ g _).mono (fun k _ hk => by rw [hk]; exact (hr.2 g).2 rfl)).drop
  have H := Lib.hid hz
  clear h h1 hz hp hg
  go_enter Tryd.func24, Tryd.ntmps24
  go_wp2
  go_region
  go_wp2
  go_ret
  exact ⟨rfl, H.out⟩

end Go.Proofs.YtenojajfacacoaaDoor
