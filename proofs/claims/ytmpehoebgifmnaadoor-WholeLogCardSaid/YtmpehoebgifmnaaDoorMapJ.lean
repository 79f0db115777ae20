/- Maps of texts, of one's own. -/
import Derived.Maps.OwnSet
import Derived.Maps.StringElems
import Derived.Test.YtmpehoebgifmnaaDoorGrow
namespace Go.Proofs.YtmpehoebgifmnaaDoor
open Go.RowKit Go.ChangeMaps

theorem keyedS : Maps.Keyed Tryd.prog 9 := Maps.string_keyed (by kernel_rfl)
theorem keyS (id : Bs) (hl : id.length ≤ 9223372036854775807) : keyOf Tryd.prog 9 (.string (bb id)) = some (.string id) := by
  have h9 := WideMaps.keyOf_string_mk (P := Tryd.prog) (k := 9) (by kernel_rfl) (s := bb id) (by show (bb id).size ≤ maxLen; simpa [maxLen] using hl)
  simpa using h9
theorem elemS (s : Bs) (hl : s.length ≤ 9223372036854775807) : (plainElem (H := Unit) Tryd.prog 9) (.string (bb s)) = some (.lit (.string s), []) := by
  have h9 := plainElem_string (H := Unit) (P := Tryd.prog) (e := 9) (by kernel_rfl) (s := bb s) (by show (bb s).size ≤ maxLen; simpa [maxLen] using hl)
  simpa using h9
theorem zeroS (w : World) : (zeroValue 9).run Tryd.prog w = .ok (.string (bb [])) w := by kernel_rfl

/-- What is kept, as a function. -/
abbrev JF := Bs → Option Bs
def jset (f : JF) (id : Bs) (o : Option Bs) : JF := fun x => if x = id then o else f x
def litS : DataW Unit → Bs
  | .lit (.string s) => s
  | _ => []
def look (D : DataW Unit) (id : Bs) : Option Bs := if Maps.has D (.string id) = true then some (litS (D.atKey (.string id) (.lit (.string [])))) else none
theorem look_new (id : Bs) : look (.map []) id = none := rfl
theorem look_put {D : DataW Unit} (hD : Maps.IsMap D) (id s x : Bs) : look (D.put (.string id) (.lit (.string s))) x = jset (look D) id (some s) x := by
  unfold look jset
  by_cases hx : x = id
  · subst hx
    rw [if_pos (Maps.has_put_same hD (show WideAt.IsKeyLit (.string x) from trivial) _), Maps.atKey_put_same hD (show WideAt.IsKeyLit (.string x) from trivial), if_pos rfl]
    rfl
  · have hne : (Lit.string x) ≠ .string id := fun h => hx (by injection h)
    rw [Maps.has_put_other hne, Maps.atKey_put_other hne, if_neg hx]
theorem look_del {D : DataW Unit} (id x : Bs) : look (D.del (.string id)) x = jset (look D) id none x := by
  unfold look jset
  by_cases hx : x = id
  · subst hx
    rw [Maps.has_del_same, if_neg (by simp), if_pos rfl]
  · have hne : (Lit.string x) ≠ .string id := fun h => hx (by injection h)
    rw [Maps.has_del_other hne, Maps.atKey_del_other hne, if_neg hx]

/-- A map of one's own. -/
def jmap (b n : Nat) (f : JF) : Gen where
  p w S := (∃ D, World.ownsMap w Tryd.prog 9 (plainElem (H := Unit) Tryd.prog 9) b n D ∧ ∀ id, look D id = f id) ∧ ∀ k, S k ↔ k = b
  keep w w' S h hs hk := by
    obtain ⟨⟨D, ⟨es, clock, hb, F, h1, hD⟩, hf⟩, h2⟩ := h
    exact ⟨⟨D, ⟨es, clock, (hk b (heap_lt hb) ((h2 b).2 rfl)).trans hb, F, h1, hD⟩, hf⟩, h2⟩
theorem St.jget {b n : Nat} {f : JF} {W0 w : World} {K : Know} {L : List Res} (h : St W0 w K (.gen (jmap b n f) :: L)) : ∃ D, World.ownsMap w Tryd.prog 9 (plainElem (H := Unit) Tryd.prog 9) b n D ∧ ∀ id, look D id = f id := by
  obtain ⟨_, S, F, ⟨S1, S2, h1, _⟩, _⟩ := h
  exact h1.1
theorem St.jput {b n n' : Nat} {f f' : JF} {D' : DataW Unit} {w' : World} {W0 w : World} {K : Know} {L : List Res} (h : St W0 w K (.gen (jmap b n f) :: L)) (h' : World.ownsMap w' Tryd.prog 9 (plainElem (H := Unit) Tryd.prog 9) b n' D') (hf : ∀ id, look D' id = f' id) (g : w.mapTurned w' b) : St W0 w' K (.gen (jmap b n' f') :: L) :=
  h.step fun S1 hr => ⟨S1, ⟨⟨D', h', hf⟩, hr.2⟩, (Keeps.of_grown g.grown).mono (fun k _ hk => (hr.2 k).2 (by injection hk with hk)), fun k hk => ⟨.inl hk, by rw [(hr.2 k).1 hk]; exact h'.lt⟩⟩
theorem St.jnew {W0 w : World} {K : Know} {L : List Res} (h : St W0 w K L) : St W0 (w.alloc (.map #[] 0)) K (.gen (jmap w.heap.size 0 (fun _ => none)) :: L) :=
  h.new (S1 := fun k => k = w.heap.size) ((Keeps.refl _ _).alloc _) ⟨⟨_, World.ownsMap_made w Tryd.prog 9 (plainElem (H := Unit) Tryd.prog 9), look_new⟩, fun k => Iff.rfl⟩ (fun j hj => by subst hj; rw [World.size_alloc]; exact ⟨Nat.le_refl _, Nat.lt_succ_self _⟩)

/-- What the operations do. -/
theorem jlook_run {W0 w : World} {K : Know} {L : List Res} {b n : Nat} {f : JF} (hst : St W0 w K (.gen (jmap b n f) :: L)) (t : TypeId) (ht : Tryd.prog.underlying t = some (.map 9 9)) (id : Bs) (hl : id.length ≤ 9223372036854775807) :
    (Instr.lookup t (.map (some b)) (.string (bb id)) true).run Tryd.prog w = .ok (.tuple #[.string (bb ((f id).getD [])), .bool (f id).isSome]) w := by
  obtain ⟨D, h1, h2⟩ := hst.jget
  obtain ⟨v, ps, hrun, hv⟩ := h1.look_ok keyedS ht (zeroS w) (elemS [] (by decide)) (keyS id hl)
  rw [hrun]
  obtain ⟨s, rfl, h3, _⟩ := plainElem_string_inv (by kernel_rfl) hv
  have h4 : D.atKey (.string id) (.lit (.string [])) = .lit (.string s.data.toList) := congrArg Prod.fst h3
  have h5 := h2 id
  unfold look at h5
  by_cases hh : Maps.has D (.string id) = true
  · rw [if_pos hh, h4] at h5
    rw [← h5, hh]
    have h6 : bb ((some (litS (.lit (.string s.data.toList)))).getD []) = s := by show (⟨s.data.toList.toArray⟩ : ByteArray) = s; simp
    rw [h6]
    rfl
  · rw [if_neg hh] at h5
    rw [← h5]
    have hf : Maps.has D (.string id) = false := Bool.eq_false_iff.2 hh
    have h7 := Maps.atKey_of_not_has hf (.lit (.string []))
    rw [h4] at h7
    have h8 : s.data.toList = [] := congrArg litS h7
    have h9 : bb ((none : Option Bs).getD []) = s := by show (⟨([] : Bs).toArray⟩ : ByteArray) = s; rw [← h8]
    rw [h9, hf]
    rfl
theorem jlook_none {W0 w : World} {K : Know} {L : List Res} {b n : Nat} {f : JF} (hst : St W0 w K (.gen (jmap b n f) :: L)) (t : TypeId) (ht : Tryd.prog.underlying t = some (.map 9 9)) (id : Bs) (hl : id.length ≤ 9223372036854775807) (hf : f id = none) :
    (Instr.lookup t (.map (some b)) (.string (bb id)) true).run Tryd.prog w = .ok (.tuple #[.string (bb []), .bool false]) w := by
  have h := jlook_run hst t ht id hl
  rw [hf] at h
  exact h
theorem jlook_some {W0 w : World} {K : Know} {L : List Res} {b n : Nat} {f : JF} (hst : St W0 w K (.gen (jmap b n f) :: L)) (t : TypeId) (ht : Tryd.prog.underlying t = some (.map 9 9)) (id S : Bs) (hl : id.length ≤ 9223372036854775807) (hf : f id = some S) :
    (Instr.lookup t (.map (some b)) (.string (bb id)) true).run Tryd.prog w = .ok (.tuple #[.string (bb S), .bool true]) w := by
  have h := jlook_run hst t ht id hl
  rw [hf] at h
  exact h
theorem jdrop_run {W0 w : World} {K : Know} {L : List Res} {b n : Nat} {f : JF} (hst : St W0 w K (.gen (jmap b n f) :: L)) (t ty : TypeId) (ht : Tryd.prog.underlying t = some (.map 9 9)) (id : Bs) (hl : id.length ≤ 9223372036854775807) :
    ∃ w', (Builtin.delete_ #[t, 9] ty #[.map (some b), .string (bb id)]).run Tryd.prog w = .ok (.tuple #[]) w' ∧ St W0 w' K (.gen (jmap b n (jset f id none)) :: L) := by
  obtain ⟨D, h1, h2⟩ := hst.jget
  obtain ⟨w', hrun, g1, g2⟩ := h1.drop keyedS ht (keyS id hl) ty
  refine ⟨w', hrun, hst.jput g1 (fun y => ?_) g2⟩
  rw [look_del]
  unfold jset
  rw [h2]
theorem jstore_run {W0 w : World} {K : Know} {L : List Res} {b n : Nat} {f : JF} (hst : St W0 w K (.gen (jmap b n f) :: L)) (hn : n < 1000000) (t : TypeId) (ht : Tryd.prog.underlying t = some (.map 9 9)) (id s : Bs) (hl : id.length ≤ 9223372036854775807) (hl2 : s.length ≤ 9223372036854775807) :
    ∃ w', (Instr.mapUpdate t (.map (some b)) (.string (bb id)) (.string (bb s))).run Tryd.prog w = .ok () w' ∧ St W0 w' K (.gen (jmap b (n + 1) (jset f id (some s))) :: L) := by
  obtain ⟨D, h1, h2⟩ := hst.jget
  obtain ⟨w', hrun, g1, g2⟩ := h1.store keyedS ht (by unfold maxLen; omega) (keyS id hl) (elemS s hl2)
  refine ⟨w', hrun, hst.jput g1 (fun y => ?_) g2⟩
  rw [look_put h1.isMap]
  unfold jset
  rw [h2]

end Go.Proofs.YtmpehoebgifmnaaDoor
