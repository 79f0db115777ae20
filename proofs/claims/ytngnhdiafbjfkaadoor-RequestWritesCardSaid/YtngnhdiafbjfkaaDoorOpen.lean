/- What arguments are made of, with the reach of each part. -/
import Derived.Test.YtngnhdiafbjfkaaDoorOp00
import Derived.SizedLaws
import Derived.Deep.Slices
namespace Go.Proofs.YtngnhdiafbjfkaaDoor
open Go.RowKit
open Go.ChangeShapes Go.WideShapes Go.ChangeAt Go.Deep

/-- No part is beyond all reach. -/
def Light {H : Type} (t : TypeId) (d : DataW H) : Prop := ∀ k ∈ d.weights Tryd.prog t, k ≤ reachBytes
theorem reach_eq : reachBytes = 140737488351232 := rfl

section
variable {H : Type} {enc : TypeId × Value → H} {w : World} {spare : Nat → Bool} {held : Bool}

theorem light_arg {ts : List TypeId} {ds : List (DataW H)} (h : (DataW.weightsEach Tryd.prog ts ds).all (· ≤ reachBytes) = true) {j : Nat} {t : TypeId} {d : DataW H} (ht : ts[j]? = some t) (hd : ds[j]? = some d) : Light t d := by
  intro k hk
  have := List.all_eq_true.1 h k (DataW.weights_mem_each ht hd k hk)
  simpa using this

theorem opens_field {t : TypeId} {fs : Array Field} {n N : Nat} {cs : List Value} {y : DataW H × List MemPlace} (ht : Tryd.prog.underlying t = some (.struct fs)) (h : DataW.trod enc Tryd.prog w 0 spare held n t cs = some y) (hl : Light t y.1) (hN : ∀ x ∈ y.2, x.block < N) :
    cs.length = Tryd.prog.cellsOf t ∧ ∃ m, ∀ (i : Nat) (f : Field), fs[i]? = some f → ∃ z, DataW.trod enc Tryd.prog w 0 spare held m f.type ((cs.drop f.offset).take (Tryd.prog.cellsOf f.type)) = some z ∧ Light f.type z.1 ∧ ∀ x ∈ z.2, x.block < N := by
  obtain ⟨xs, m, _, rfl, hc, hxl, hg⟩ := DataW.trod_struct ht h
  refine ⟨hc, m, fun i f hf => ?_⟩
  have hi : i < fs.size := (Array.getElem?_eq_some_iff.1 hf).1
  have hx : xs[i]? = some (xs[i]'(by omega)) := List.getElem?_eq_getElem (by omega)
  refine ⟨_, (hg i f hf).trans hx, ?_, fun x hxx => hN x (List.mem_flatMap.2 ⟨_, List.getElem_mem _, hxx⟩)⟩
  intro k hk
  refine hl k ?_
  simp only [DataW.weights, ht]
  exact DataW.weights_mem_each (j := i) (by rw [List.getElem?_map, Array.getElem?_toList, hf]; rfl) (by rw [List.getElem?_map, hx]; rfl) k hk

theorem opens_str {t : TypeId} {n : Nat} {cs : List Value} {y : DataW H × List MemPlace} (ht : Tryd.prog.underlying t = some .string) (h : DataW.trod enc Tryd.prog w 0 spare held n t cs = some y) (hl : Light t y.1) : ∃ s : Bs, cs = [.string (bb s)] ∧ s.length ≤ 140737488351232 := by
  obtain ⟨s, e, e2, q⟩ := DataW.trod_string ht h
  refine ⟨s.data.toList, e, ?_⟩
  subst e2
  have := hl s.data.toList.length (by simp [DataW.weights])
  rw [reach_eq] at this
  exact this
theorem opens_i64 {t : TypeId} {n : Nat} {cs : List Value} {y : DataW H × List MemPlace} (ht : Tryd.prog.underlying t = some (.int .i64)) (h : DataW.trod enc Tryd.prog w 0 spare held n t cs = some y) : ∃ x : Int, cs = [.int .i64 x] ∧ -9223372036854775808 ≤ x ∧ x < 9223372036854775808 := by
  obtain ⟨x, e, _, q⟩ := DataW.trod_int ht h
  exact ⟨x, e, wf_i64 q⟩
theorem opens_bool {t : TypeId} {n : Nat} {cs : List Value} {y : DataW H × List MemPlace} (ht : Tryd.prog.underlying t = some .bool) (h : DataW.trod enc Tryd.prog w 0 spare held n t cs = some y) : ∃ x : Bool, cs = [.bool x] := by
  obtain ⟨x, e, _⟩ := DataW.trod_bool ht h
  exact ⟨x, e⟩

theorem weightsAll_mem' {P : Program} {e : TypeId} : ∀ {l : List (DataW H)} {d : DataW H}, d ∈ l → ∀ k ∈ d.weights P e, k ∈ DataW.weightsAll P e l
  | a :: l, d, hd, k, hk => by
    simp only [DataW.weightsAll, List.mem_append]
    rcases List.mem_cons.1 hd with rfl | hd
    · exact .inl hk
    · exact .inr (weightsAll_mem' hd k hk)

theorem opens_rows {α : Type} {R : World → List Value → α → Prop} {t e : TypeId} {sz N : Nat} (ht : Tryd.prog.underlying t = some (.slice e)) (hC : Tryd.prog.cellsOf e = sz) (hsz : 0 < sz)
    (hR : ∀ n cs y, DataW.trod enc Tryd.prog w 0 spare held n e cs = some y → Light e y.1 → (∀ x ∈ y.2, x.block < N) → ∃ x, R w cs x)
    {fuel : Nat} {cs : List Value} {x : DataW H × List MemPlace} (h : DataW.trod enc Tryd.prog w 0 spare held fuel t cs = some x) (hl : Light t x.1) (hlt : ∀ y ∈ x.2, y.block < N) (hN : N ≤ w.heap.size) :
    ∃ v l, cs = [v] ∧ RowsOf R (· < N) w v sz l ∧ l.length * Tryd.prog.bytesOf e ≤ 140737488351232 ∧ l.length ≤ maxLen := by
  rcases open_slice ht h with ⟨rfl, rfl⟩ | ⟨a, len, cap, m, n, D, Pl, rfl, hb, hlc, hm, hmm, hx, hi⟩
  · exact ⟨_, [], rfl, ⟨none, 0, rfl, fun h => absurd h (by simp)⟩, by simp, by simp⟩
  · have hlm : len ≤ m := by rw [hmm]; split <;> omega
    have hp2 : x.2 = MemPlace.row a (m * Tryd.prog.cellsOf e) ++ (List.range m).flatMap Pl := by rw [hx]
    have hx1 : x.1 = .slice ((List.range len).map D) ((List.range (m - len)).map fun j => D (len + j)) := by rw [hx]
    have hsum : len * Tryd.prog.bytesOf e ≤ 140737488351232 := by
      have := hl (((List.range len).map D).length * Tryd.prog.bytesOf e + ((List.range (m - len)).map fun j => D (len + j)).length * Tryd.prog.bytesOf e) (by rw [hx1]; simp [DataW.weights, ht, Nat.add_mul])
      rw [reach_eq] at this
      simp only [List.length_map, List.length_range] at this
      omega
    have hle : ∀ i, i < len → Light e (D i) := by
      intro i hil k hk
      refine hl k ?_
      rw [hx1]
      simp only [DataW.weights, ht, List.mem_cons, List.mem_append]
      exact .inr (.inl (weightsAll_mem' (List.mem_map.2 ⟨i, List.mem_range.2 hil, rfl⟩) k hk))
    have key : ∀ i, i < len → ∃ y : α, ∃ cs', cs'.length = sz ∧ R w cs' y ∧ (∀ f u, cs'[f]? = some u → w.cell? ((a.add (i * sz)).add f) = some u) := by
      intro i hil
      obtain ⟨cs', hc, htr⟩ := hi i (by omega)
      obtain ⟨_, hcl, hat⟩ := World.cells?_some hc
      obtain ⟨y, hy⟩ := hR n cs' _ htr (hle i hil) (fun z hz => hlt z (by rw [hp2, List.mem_append]; exact .inr (List.mem_flatMap.2 ⟨i, by simp; omega, hz⟩)))
      rw [hC] at hcl hat
      refine ⟨y, cs', hcl, hy, fun f u hu => ?_⟩
      have hf : f < sz := by rw [← hcl]; exact (List.getElem?_eq_some_iff.1 hu).1
      rw [hat f hf, hu]
    obtain ⟨l, hll, hq⟩ := list_of len _ key
    refine ⟨_, l, rfl, ⟨some a, cap, by rw [hll], fun h0 => ?_⟩, by rw [hll]; exact hsum, by omega⟩
    obtain ⟨cs0, h1, h2, h3⟩ := hq 0 h0
    have hc0 : w.cell? a = some (cs0[0]'(by omega)) := by
      have := h3 0 _ (List.getElem?_eq_getElem (by omega))
      simpa [Addr.add] using this
    have hsp : a.spot = none := by
      cases hs : a.spot with
      | none => rfl
      | some s =>
        unfold World.cell? at hc0
        split at hc0 <;> simp_all
    obtain ⟨ab, ao, asp⟩ := a
    simp only at hsp
    subst hsp
    have hlt0 : ab < N := hlt (.cell ab ao) (by
      rw [hp2, List.mem_append]
      left
      simp only [MemPlace.row, List.mem_map, List.mem_range]
      exact ⟨0, by rw [hC]; exact Nat.mul_pos (by omega) hsz, by simp⟩)
    refine ⟨ab, ao, rfl, hlt0, Nat.lt_of_lt_of_le hlt0 hN, fun i hi => ?_⟩
    obtain ⟨cs', g1, g2, g3⟩ := hq i hi
    refine ⟨cs', g1, g2, fun f u hu => ?_⟩
    have := g3 f u hu
    have e1 : ∀ (o q : Nat), (⟨ab, o, none⟩ : Addr).add q = ⟨ab, o + q, none⟩ := by intro o q; unfold Addr.add; split <;> simp_all
    rw [e1, e1, Nat.add_assoc] at this
    exact this
end

/-- Of a row's things, what is said of each, apart. -/
theorem RowsOf.part {α : Type} {R : World → List Value → α → Prop} {Q : α → Prop} {D : Nat → Prop} {w : World} {v : Value} {sz : Nat} {l : List α} (h : RowsOf (fun w cs x => R w cs x ∧ Q x) D w v sz l) : RowsOf R D w v sz l ∧ ∀ x ∈ l, Q x := by
  refine ⟨h.mono (fun _ _ h => h) (fun _ _ h => h.1), fun x hx => ?_⟩
  obtain ⟨i, hi, rfl⟩ := List.mem_iff_getElem.1 hx
  obtain ⟨p, cap, rfl, h⟩ := h
  obtain ⟨b, off, rfl, _, _, hc⟩ := h (by omega)
  obtain ⟨cs, _, h2, _⟩ := hc i hi
  exact h2.2

end Go.Proofs.YtngnhdiafbjfkaaDoor
