/- The library, asked. -/
import Derived.Test.YtenojajfacacoaaDoorSc2
import Derived.Test.YtenojajfacacoaaDoorShl
import Derived.Lib.AtoiErrMem
import Derived.Lib.AtoiAll
import Derived.Sort.Grow
namespace Go.Proofs.YtenojajfacacoaaDoor
open Go.RowKit

/-- What a block of the program's own holds. -/
def Know.blk (g : Nat) (P : Obj → Prop) : Know := ⟨fun w F => F g ∧ ∃ o, w.heap[g]? = some o ∧ P o,
  fun w w' F h hs hk => ⟨h.1, by obtain ⟨o, h1, h2⟩ := h.2; exact ⟨o, (hk g (by rcases Nat.lt_or_ge g w.heap.size with h3 | h3; exact h3; rw [Array.getElem?_eq_none h3] at h1; cases h1) h.1).trans h1, h2⟩⟩,
  fun _ _ _ h hs => ⟨hs _ h.1, h.2⟩⟩
def isMax (o : Obj) : Prop := ∃ m c T fz, o = .cells c T fz ∧ c[0]? = some (.int .i64 m)
def isErr (o : Obj) : Prop := ∃ te pe T fz, o = .cells #[.iface te pe] T fz
def isPow (o : Obj) : Prop := ∃ T fz, o = .cells (Lib.pow10Tab.map fun z => Value.int .u64 z).toArray T fz
/-- The library's own variables. -/
def Know.lib : Know := ((Know.blk 0 isMax).and (Know.blk 1 isPow)).and ((Know.blk 6 isErr).and (Know.blk 7 isErr))
theorem lib_max {W0 w : World} {K : Know} {L : List Res} (hk : K.has Know.lib) (h : St W0 w K L) : ∃ m, w.cell? ⟨0, 0, none⟩ = some (.int .i64 m) := by
  obtain ⟨F, hF, _⟩ := h.get
  obtain ⟨_, o, h1, m, c, T, fz, rfl, hc⟩ := (hk _ _ hF).1.1
  exact ⟨m, by simp [World.cell?, h1, hc]⟩
theorem lib_pow {W0 w : World} {K : Know} {L : List Res} (hk : K.has Know.lib) (h : St W0 w K L) : Lib.TabIs Tryd.prog w "internal/strconv.uint64pow10" .u64 Lib.pow10Tab := by
  obtain ⟨F, hF, _⟩ := h.get
  obtain ⟨_, o, h1, T, fz, rfl⟩ := (hk _ _ hF).1.2
  have hg : Tryd.prog.globalNamed "internal/strconv.uint64pow10" = some 1 := by kernel_rfl
  unfold Lib.TabIs World.var?
  rw [hg, Option.bind_some, h1]
theorem lib_syn {W0 w : World} {K : Know} {L : List Res} (hk : K.has Know.lib) (h : St W0 w K L) : ∃ ev, w.cell? ⟨6, 0, none⟩ = some ev ∧ (ev = .nilIface ∨ ∃ te pe, ev = .iface te pe) := by
  obtain ⟨F, hF, _⟩ := h.get
  obtain ⟨_, o, h1, te, pe, T, fz, rfl⟩ := (hk _ _ hF).2.1
  exact ⟨_, by simp [World.cell?, h1], .inr ⟨te, pe, rfl⟩⟩
theorem lib_rng {W0 w : World} {K : Know} {L : List Res} (hk : K.has Know.lib) (h : St W0 w K L) : ∃ ev, w.cell? ⟨7, 0, none⟩ = some ev ∧ (ev = .nilIface ∨ ∃ te pe, ev = .iface te pe) := by
  obtain ⟨F, hF, _⟩ := h.get
  obtain ⟨_, o, h1, te, pe, T, fz, rfl⟩ := (hk _ _ hF).2.2
  exact ⟨_, by simp [World.cell?, h1], .inr ⟨te, pe, rfl⟩⟩
theorem St.below' {W0 w : World} {K : Know} {L : List Res} {w' : World} (h : St W0 w K L) (hb : Below w.heap.size w w') : St W0 w' K L :=
  h.quiet (M := fun _ => False) ⟨hb.os, hb.tape, hb.output, hb.size, fun k hk _ => hb.block k hk⟩ (fun _ _ h => h)
theorem St.grown {W0 w : World} {K : Know} {L : List Res} (h : St W0 w K L) (os : Array Obj) : St W0 (Sort.grow w os) K L :=
  h.quiet (M := fun _ => False) ⟨rfl, rfl, rfl, by simp, fun k hk _ => Sort.heap_grow_old w os hk⟩ (fun _ _ h => h)
theorem St.bytesW {W0 w : World} {K : Know} {L : List Res} (h : St W0 w K L) (t : ByteArray) : St W0 (Lib.bytesWorld w 5 t) K L := h.below' (Lib.bytesWorld_below w 5 t)
/-- The number that is read of a word, whatever that is. -/
def atoiV (s : Bs) : Int := match Lib.atoiAll s with
  | .ok v => v
  | .range => Lib.atoiSat s
  | _ => 0
theorem sl_itoa (n : Int) (h0 : -9223372036854775808 ≤ n) (h1 : n ≤ 9223372036854775807) {W0 w : World} {K : Know} {L : List Res} (hk : K.has Know.lib) (h : St W0 w K L) :
    Calls Tryd.prog 22 #[.int .i64 n] w fun e w' => e = .returned (.string (bb (Lib.itoa n))) ∧ St W0 w' K L :=
  (Tryd.strconv_Itoa n h0 h1 w (lib_pow hk h)).mono (by rintro e w' ⟨rfl, k, os, rfl⟩; exact ⟨rfl, (h.drewN k).grown os⟩)
theorem sl_atoi (s : Bs) (hs : s.length ≤ 1000000) {W0 w : World} {K : Know} {L : List Res} (hk : K.has Know.lib) (h : St W0 w K L) :
    Calls Tryd.prog 73 #[.string (bb s)] w fun e w' => ∃ ev, e = .returned (.tuple #[.int .i64 (atoiV s), ev]) ∧ St W0 w' K L := by
  have hz : (bb s).size = s.length := by simp
  have hd : (bb s).data.toList = s := by simp
  cases hv : Lib.atoiAll s with
  | ok v =>
    have e : atoiV s = v := by unfold atoiV; rw [hv]
    rw [e]
    exact (Tryd.strconv_Atoi_ok (bb s) (by omega) v (by rw [hd]; exact hv) w).mono (by rintro e w' ⟨rfl, rfl | ⟨t, rfl⟩⟩; exact ⟨_, rfl, h⟩; exact ⟨_, rfl, h.bytesW t⟩)
  | range =>
    have e : atoiV s = Lib.atoiSat s := by unfold atoiV; rw [hv]
    rw [e]
    obtain ⟨ev, h1, h2⟩ := lib_rng hk h
    have h3 := (Tryd.strconv_Atoi_range (bb s) (by omega) (by rw [hd]; exact hv) ev w h1 h2)
    rw [hd] at h3
    exact h3.mono (by rintro e w' ⟨N, rfl, _, _, hb⟩; exact ⟨_, rfl, h.below' hb⟩)
  | _ =>
    have e : atoiV s = 0 := by unfold atoiV; rw [hv]
    rw [e]
    obtain ⟨ev, h1, h2⟩ := lib_syn hk h
    exact (Tryd.strconv_Atoi_syntax (bb s) (by omega) (by rw [hd]; exact hv) ev w h1 h2).mono (by rintro e w' ⟨N, rfl, _, _, hb⟩; exact ⟨_, rfl, h.below' hb⟩)
theorem sl_cut (s sp a b : Bs) (f : Bool) (hc : Lib.cut s sp = (a, b, f)) (hs : s.length ≤ 1000000) {W0 w : World} {K : Know} {L : List Res} (hk : K.has Know.lib) (h : St W0 w K L) :
    Calls Tryd.prog 25 #[.string (bb s), .string (bb sp)] w fun e w' => e = .returned (.tuple #[.string (bb a), .string (bb b), .bool f]) ∧ St W0 w' K L := by
  obtain ⟨m, hm⟩ := lib_max hk h
  have h1 := Tryd.strings_Cut (bb s) (bb sp) m w (by have hz : (bb s).size = s.length := (by simp); omega) hm
  have d1 : (bb s).data.toList = s := by simp
  have d2 : (bb sp).data.toList = sp := by simp
  rw [d1, d2, hc] at h1
  exact h1.mono (by rintro e w' ⟨rfl, n, rfl⟩; exact ⟨rfl, h.drewN n⟩)
theorem sl_has (s : Bs) (c : UInt8) (v : Bool) (hv : decide (0 ≤ Lib.indexByte s c) = v) {W0 w : World} {K : Know} {L : List Res} (h : St W0 w K L) :
    Calls Tryd.prog 74 #[.string (bb s), .string ⟨#[c]⟩] w fun e w' => e = .returned (.bool v) ∧ St W0 w' K L := by
  have h1 := Tryd.strings_Contains_one (bb s) c w
  have d1 : (bb s).data.toList = s := by simp
  rw [d1, hv] at h1
  exact sl_same h1 h
/-- The words of a line. -/
def wordsOf (s : Bs) : List ByteArray := Lib.splitB (bb [32]) 0 (Lib.countB (bb s) (bb [32])) (bb s)
theorem sl_split (s : Bs) (ws : List Bs) (hw : wordsOf s = ws.map bb) (hs : s.length ≤ 1000000) {W0 w : World} {K : Know} {L : List Res} (hk : K.has Know.lib) (h : St W0 w K L) :
    Calls Tryd.prog 13 #[.string (bb s), .string (bb [32])] w fun e w' => ∃ b, e = .returned (.slice (some ⟨b, 0, none⟩) ws.length ws.length) ∧ St W0 w' K (.raw b (ws.map fun x => Value.string (bb x)).toArray 9 :: L) := by
  obtain ⟨m, hm⟩ := lib_max hk h
  have h1 := Tryd.strings_Split (bb s) (bb [32]) m w (by have hz : (bb s).size = s.length := (by simp); omega) hm (by decide)
  have e1 : Lib.countB (bb s) (bb [32]) + 1 = ws.length := by
    have h2 := Lib.splitB_all (bb [32]) (by decide) 0 _ (bb s) rfl
    have h3 : (wordsOf s).length = ws.length := by rw [hw, List.length_map]
    unfold wordsOf at h3
    omega
  have e2 : (Lib.splitB (bb [32]) 0 (Lib.countB (bb s) (bb [32])) (bb s)).map Value.string = ws.map fun x => Value.string (bb x) := by
    show (wordsOf s).map Value.string = _
    rw [hw, List.map_map]
    rfl
  rw [e1, e2] at h1
  exact h1.mono (by rintro e w' ⟨rfl, rfl⟩; exact ⟨_, rfl, h.allocRaw _ _⟩)

end Go.Proofs.YtenojajfacacoaaDoor
