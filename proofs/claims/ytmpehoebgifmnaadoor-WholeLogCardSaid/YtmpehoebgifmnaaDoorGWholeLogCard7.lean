/- What a journal says of one entry (pure). -/
import Derived.Test.YtmpehoebgifmnaaDoorSep
import Derived.Deep.MidRow
import Derived.RegionTactic
import Derived.Deep.DeepCutAuto
import Derived.Test.YtmpehoebgifmnaaDoorGWholeLogCard6
import Derived.Test.YtmpehoebgifmnaaDoorGWholeLogCard4
import Derived.Test.YtmpehoebgifmnaaDoorGWholeLogCard5
import Derived.Deep.RegionHeld3
import Derived.WalkMore
import Derived.Test.YtmpehoebgifmnaaDoorArgs
import Derived.SizedLaws
import Derived.Deep.Slices
import Derived.Test.YtmpehoebgifmnaaDoorGWholeLogCard1
import Derived.Test.YtmpehoebgifmnaaDoorGWholeLogCard3
/- The table of requests, and what is found in it. -/
namespace Go.Proofs.YtmpehoebgifmnaaDoor
open Go.RowKit

def reqCells : List Value := [.int .i64 0, .string ⟨#[112, 114, 111, 100, 117, 99, 101]⟩, .int .i64 3, .int .i64 4, .int .i64 22, .string ⟨#[98, 101, 103, 105, 110]⟩, .int .i64 0, .int .i64 1, .int .i64 24, .string ⟨#[97, 100, 100]⟩, .int .i64 0, .int .i64 0, .int .i64 26, .string ⟨#[101, 110, 100]⟩, .int .i64 0, .int .i64 0, .int .i64 27, .string ⟨#[109, 97, 114, 107]⟩, .int .i64 0, .int .i64 1]
/-- The table of requests, as it lies in memory. -/
def Know.reqs : Know := ⟨fun w F => F 0 ∧ 0 < w.heap.size ∧ ∀ j u, reqCells[j]? = some u → w.cell? ⟨0, j, Option.none⟩ = some u,
  fun _ _ _ h hs hk => ⟨h.1, Nat.lt_of_lt_of_le h.2.1 hs, fun j u hu => (World.cell?_of_block (a := ⟨0, j, Option.none⟩) (hk 0 h.2.1 h.1)).trans (h.2.2 j u hu)⟩,
  fun _ _ _ h hs => ⟨hs _ h.1, h.2.1, h.2.2⟩⟩
theorem req_range {W0 w : World} {K : Know} {L : List Res} (hk : K.has Know.reqs) (h : St W0 w K L) : w.rangeAt 0 0 reqCells := by
  obtain ⟨F, hF, _⟩ := h.get
  have hc := (hk _ _ hF).2.2
  intro j v hv
  rw [Nat.zero_add]
  exact hc j v hv
theorem results_cell_tmp {P : Program} {fn : Func} {p t : Tmp} {ty : TypeId} (h : fn.results = #[.cell p ty, .tmp t]) (tmps : Array Value) (w : World) (b : Nat) (cs : List Value) (d : TypeDesc)
    (hp : tmps.getD p undef = .pointer (some ⟨b, 0, Option.none⟩)) (hc : w.rangeAt b 0 cs) (hu : P.underlying ty = some d) (hd : d.isRow = true) (hi : (P.info? ty).map (·.size) = some cs.length) :
    (results fn tmps).run P w = .ok (.tuple #[.agg cs.toArray, tmps.getD t undef]) w := by
  have hp' : tmps[p]?.getD undef = .pointer (some ⟨b, 0, Option.none⟩) := by simpa using hp
  simp [results, h, hp', asAddr, run_loadVar_mid w b 0 ty cs d hc hu hd hi]
theorem St.range {W0 w : World} {K : Know} {L : List Res} {b : Nat} {c : List Value} {T : TypeId} (h : St W0 w K (.raw b c.toArray T :: L)) : w.rangeAt b 0 c := by
  intro j v hv
  rw [Nat.zero_add, h.rawCell j]
  simpa using hv
/-- A request of the table: its number, its name, its versions, and that there is one. -/
def reqOf (kind : Int) : Int × Bs × Int × Int × Bool := if kind = 0 then (0, [112, 114, 111, 100, 117, 99, 101], 3, 4, true) else if kind = 22 then (22, [98, 101, 103, 105, 110], 0, 1, true) else if kind = 24 then (24, [97, 100, 100], 0, 0, true) else if kind = 26 then (26, [101, 110, 100], 0, 0, true) else if kind = 27 then (27, [109, 97, 114, 107], 0, 1, true) else (0, [], 0, 0, false)
def kindAt : List Int := [0, 22, 24, 26, 27]
theorem reqOf_none (kind : Int) (h : ∀ k ∈ kindAt, kind ≠ k) : reqOf kind = (0, [], 0, 0, false) := by
  unfold reqOf
  have h := fun k hk => h k hk
  simp only [kindAt, List.mem_cons, List.not_mem_nil, or_false, forall_eq_or_imp, forall_eq] at h
  obtain ⟨h0, h1, h2, h3, h4⟩ := h
  rw [if_neg h0, if_neg h1, if_neg h2, if_neg h3, if_neg h4]
theorem idx0 (w : World) : (Instr.index 75 (.agg reqCells.toArray) (.int .i64 0)).run Tryd.prog w = .ok (.agg #[.int .i64 0, .string ⟨#[112, 114, 111, 100, 117, 99, 101]⟩, .int .i64 3, .int .i64 4]) w := by kernel_rfl
theorem idx1 (w : World) : (Instr.index 75 (.agg reqCells.toArray) (.int .i64 1)).run Tryd.prog w = .ok (.agg #[.int .i64 22, .string ⟨#[98, 101, 103, 105, 110]⟩, .int .i64 0, .int .i64 1]) w := by kernel_rfl
theorem idx2 (w : World) : (Instr.index 75 (.agg reqCells.toArray) (.int .i64 2)).run Tryd.prog w = .ok (.agg #[.int .i64 24, .string ⟨#[97, 100, 100]⟩, .int .i64 0, .int .i64 0]) w := by kernel_rfl
theorem idx3 (w : World) : (Instr.index 75 (.agg reqCells.toArray) (.int .i64 3)).run Tryd.prog w = .ok (.agg #[.int .i64 26, .string ⟨#[101, 110, 100]⟩, .int .i64 0, .int .i64 0]) w := by kernel_rfl
theorem idx4 (w : World) : (Instr.index 75 (.agg reqCells.toArray) (.int .i64 4)).run Tryd.prog w = .ok (.agg #[.int .i64 27, .string ⟨#[109, 97, 114, 107]⟩, .int .i64 0, .int .i64 1]) w := by kernel_rfl

set_option maxHeartbeats 1000000 in
set_option maxRecDepth 100000 in
theorem ver_find (kind : Int) (a : Int) (nm : Bs) (lo hi : Int) (ok : Bool) (hx : reqOf kind = (a, nm, lo, hi, ok)) {W0 w : World} {K : Know} {L : List Res} (hk : K.has Know.reqs) (h : St W0 w K L) :
    Calls Tryd.prog 15 #[.int .i64 kind] w fun en w' => en = .returned (.tuple #[.agg #[.int .i64 a, .string (bb nm), .int .i64 lo, .int .i64 hi], .bool ok]) ∧ St W0 w' K L := by
  have HX := Lib.hid hx
  have HK := Lib.hid hk
  have h1 := h.allocRaw #[.int .i64 0, .string ⟨#[]⟩, .int .i64 0, .int .i64 0] 52
  obtain ⟨rb, hrb⟩ : ∃ b, w.heap.size = b := ⟨_, rfl⟩
  rw [hrb] at h1
  have HR := Lib.hid (req_range hk h1)
  have H := Lib.hid h1
  clear h h1 hx hk
  go_enter Tryd.func15, Tryd.ntmps15
  go_wp2_with (refine wpList_load_mid rfl 75 (.global 0) rfl 0 0 rfl reqCells _ HR.out Tryd.underlying75 rfl (by kernel_rfl) ?_)
  clear HR
  go_loopw [5, 7] (fun _ iv wr => ∃ k : Nat, k ≤ 5 ∧ iv = .int .i64 k ∧ Hid (∀ x ∈ kindAt.take k, kind ≠ x) ∧ St W0 wr K (.raw rb #[.int .i64 0, .string ⟨#[]⟩, .int .i64 0, .int .i64 0] 52 :: L)) (fun _ iv _ => 5 - (intOf iv).toNat)
  case atStart => exact ⟨0, by decide, rfl, Lib.hid (by simp), H.out⟩
  case round =>
    obtain ⟨k, hk, rfl, HNO, hst⟩ := hrel
    clear H
    have H := Lib.hid hst
    clear hst
    rcases (by omega : k = 0 ∨ k = 1 ∨ k = 2 ∨ k = 3 ∨ k = 4 ∨ k = 5) with rfl | rfl | rfl | rfl | rfl | rfl
    · have i0 := idx0
      have h2 := H.out.allocRaw #[.int .i64 0, .string ⟨#[112, 114, 111, 100, 117, 99, 101]⟩, .int .i64 3, .int .i64 4] 52
      obtain ⟨xb, hxb⟩ : ∃ b, wr.heap.size = b := ⟨_, rfl⟩
      rw [hxb] at h2
      have x0 := h2.rawCell 0; have x1 := h2.rawCell 1; have x2 := h2.rawCell 2; have x3 := h2.rawCell 3
      simp at x0 x1 x2 x3
      have p0 := h2.p1.rawCell 0; have p1 := h2.p1.rawCell 1; have p2 := h2.p1.rawCell 2; have p3 := h2.p1.rawCell 3
      have q0 := h2.p1.rawFree 0; have q1 := h2.p1.rawFree 1; have q2 := h2.p1.rawFree 2; have q3 := h2.p1.rawFree 3
      simp at p0 p1 p2 p3
      clear H
      have H := Lib.hid h2
      clear h2
      by_cases hkd : kind = 0
      · have HE := HX.out
        subst hkd
        have e : reqOf 0 = (0, [112, 114, 111, 100, 117, 99, 101], 3, 4, true) := by decide
        rw [e] at HE
        simp only [Prod.mk.injEq] at HE
        obtain ⟨rfl, rfl, rfl, rfl, rfl⟩ := HE
        go_wp2
        have hz : St W0 _ K (.raw rb #[.int .i64 0, .string ⟨#[112, 114, 111, 100, 117, 99, 101]⟩, .int .i64 3, .int .i64 4] 52 :: _) := ((((H.out.p1.rawSet 0 _).rawSet 1 _).rawSet 2 _).rawSet 3 _)
        refine bodyPost_ret (results_cell_tmp rfl _ _ rb [.int .i64 0, .string ⟨#[112, 114, 111, 100, 117, 99, 101]⟩, .int .i64 3, .int .i64 4] _ rfl (St.range hz) Tryd.underlying52 rfl (by kernel_rfl)) rfl ?_
        exact ⟨rfl, hz.drop.drop⟩
      · have hkf : ((0 : Int) == kind) = false := by rw [beq_eq_false_iff_ne]; exact fun h => hkd h.symm
        have HNO2 := Lib.hid (show ∀ x ∈ kindAt.take (0 + 1), kind ≠ x by
          intro x hx
          rw [List.take_succ_eq_append_getElem (by decide)] at hx
          rcases List.mem_append.1 hx with hx | hx
          · exact HNO.out x hx
          · simp [kindAt] at hx; subst hx; exact hkd)
        clear hkd
        go_wp2
        go_roundw
        case rel => exact ⟨1, by decide, rfl, HNO2, H.out.drop⟩
        case measure => first | (simp [intOf]; done) | (simp [intOf]; omega)
    · have i1 := idx1
      have h2 := H.out.allocRaw #[.int .i64 22, .string ⟨#[98, 101, 103, 105, 110]⟩, .int .i64 0, .int .i64 1] 52
      obtain ⟨xb, hxb⟩ : ∃ b, wr.heap.size = b := ⟨_, rfl⟩
      rw [hxb] at h2
      have x0 := h2.rawCell 0; have x1 := h2.rawCell 1; have x2 := h2.rawCell 2; have x3 := h2.rawCell 3
      simp at x0 x1 x2 x3
      have p0 := h2.p1.rawCell 0; have p1 := h2.p1.rawCell 1; have p2 := h2.p1.rawCell 2; have p3 := h2.p1.rawCell 3
      have q0 := h2.p1.rawFree 0; have q1 := h2.p1.rawFree 1; have q2 := h2.p1.rawFree 2; have q3 := h2.p1.rawFree 3
      simp at p0 p1 p2 p3
      clear H
      have H := Lib.hid h2
      clear h2
      by_cases hkd : kind = 22
      · have HE := HX.out
        subst hkd
        have e : reqOf 22 = (22, [98, 101, 103, 105, 110], 0, 1, true) := by decide
        rw [e] at HE
        simp only [Prod.mk.injEq] at HE
        obtain ⟨rfl, rfl, rfl, rfl, rfl⟩ := HE
        go_wp2
        have hz : St W0 _ K (.raw rb #[.int .i64 22, .string ⟨#[98, 101, 103, 105, 110]⟩, .int .i64 0, .int .i64 1] 52 :: _) := ((((H.out.p1.rawSet 0 _).rawSet 1 _).rawSet 2 _).rawSet 3 _)
        refine bodyPost_ret (results_cell_tmp rfl _ _ rb [.int .i64 22, .string ⟨#[98, 101, 103, 105, 110]⟩, .int .i64 0, .int .i64 1] _ rfl (St.range hz) Tryd.underlying52 rfl (by kernel_rfl)) rfl ?_
        exact ⟨rfl, hz.drop.drop⟩
      · have hkf : ((22 : Int) == kind) = false := by rw [beq_eq_false_iff_ne]; exact fun h => hkd h.symm
        have HNO2 := Lib.hid (show ∀ x ∈ kindAt.take (1 + 1), kind ≠ x by
          intro x hx
          rw [List.take_succ_eq_append_getElem (by decide)] at hx
          rcases List.mem_append.1 hx with hx | hx
          · exact HNO.out x hx
          · simp [kindAt] at hx; subst hx; exact hkd)
        clear hkd
        go_wp2
        go_roundw
        case rel => exact ⟨2, by decide, rfl, HNO2, H.out.drop⟩
        case measure => first | (simp [intOf]; done) | (simp [intOf]; omega)
    · have i2 := idx2
      have h2 := H.out.allocRaw #[.int .i64 24, .string ⟨#[97, 100, 100]⟩, .int .i64 0, .int .i64 0] 52
      obtain ⟨xb, hxb⟩ : ∃ b, wr.heap.size = b := ⟨_, rfl⟩
      rw [hxb] at h2
      have x0 := h2.rawCell 0; have x1 := h2.rawCell 1; have x2 := h2.rawCell 2; have x3 := h2.rawCell 3
      simp at x0 x1 x2 x3
      have p0 := h2.p1.rawCell 0; have p1 := h2.p1.rawCell 1; have p2 := h2.p1.rawCell 2; have p3 := h2.p1.rawCell 3
      have q0 := h2.p1.rawFree 0; have q1 := h2.p1.rawFree 1; have q2 := h2.p1.rawFree 2; have q3 := h2.p1.rawFree 3
      simp at p0 p1 p2 p3
      clear H
      have H := Lib.hid h2
      clear h2
      by_cases hkd : kind = 24
      · have HE := HX.out
        subst hkd
        have e : reqOf 24 = (24, [97, 100, 100], 0, 0, true) := by decide
        rw [e] at HE
        simp only [Prod.mk.injEq] at HE
        obtain ⟨rfl, rfl, rfl, rfl, rfl⟩ := HE
        go_wp2
        have hz : St W0 _ K (.raw rb #[.int .i64 24, .string ⟨#[97, 100, 100]⟩, .int .i64 0, .int .i64 0] 52 :: _) := ((((H.out.p1.rawSet 0 _).rawSet 1 _).rawSet 2 _).rawSet 3 _)
        refine bodyPost_ret (results_cell_tmp rfl _ _ rb [.int .i64 24, .string ⟨#[97, 100, 100]⟩, .int .i64 0, .int .i64 0] _ rfl (St.range hz) Tryd.underlying52 rfl (by kernel_rfl)) rfl ?_
        exact ⟨rfl, hz.drop.drop⟩
      · have hkf : ((24 : Int) == kind) = false := by rw [beq_eq_false_iff_ne]; exact fun h => hkd h.symm
        have HNO2 := Lib.hid (show ∀ x ∈ kindAt.take (2 + 1), kind ≠ x by
          intro x hx
          rw [List.take_succ_eq_append_getElem (by decide)] at hx
          rcases List.mem_append.1 hx with hx | hx
          · exact HNO.out x hx
          · simp [kindAt] at hx; subst hx; exact hkd)
        clear hkd
        go_wp2
        go_roundw
        case rel => exact ⟨3, by decide, rfl, HNO2, H.out.drop⟩
        case measure => first | (simp [intOf]; done) | (simp [intOf]; omega)
    · have i3 := idx3
      have h2 := H.out.allocRaw #[.int .i64 26, .string ⟨#[101, 110, 100]⟩, .int .i64 0, .int .i64 0] 52
      obtain ⟨xb, hxb⟩ : ∃ b, wr.heap.size = b := ⟨_, rfl⟩
      rw [hxb] at h2
      have x0 := h2.rawCell 0; have x1 := h2.rawCell 1; have x2 := h2.rawCell 2; have x3 := h2.rawCell 3
      simp at x0 x1 x2 x3
      have p0 := h2.p1.rawCell 0; have p1 := h2.p1.rawCell 1; have p2 := h2.p1.rawCell 2; have p3 := h2.p1.rawCell 3
      have q0 := h2.p1.rawFree 0; have q1 := h2.p1.rawFree 1; have q2 := h2.p1.rawFree 2; have q3 := h2.p1.rawFree 3
      simp at p0 p1 p2 p3
      clear H
      have H := Lib.hid h2
      clear h2
      by_cases hkd : kind = 26
      · have HE := HX.out
        subst hkd
        have e : reqOf 26 = (26, [101, 110, 100], 0, 0, true) := by decide
        rw [e] at HE
        simp only [Prod.mk.injEq] at HE
        obtain ⟨rfl, rfl, rfl, rfl, rfl⟩ := HE
        go_wp2
        have hz : St W0 _ K (.raw rb #[.int .i64 26, .string ⟨#[101, 110, 100]⟩, .int .i64 0, .int .i64 0] 52 :: _) := ((((H.out.p1.rawSet 0 _).rawSet 1 _).rawSet 2 _).rawSet 3 _)
        refine bodyPost_ret (results_cell_tmp rfl _ _ rb [.int .i64 26, .string ⟨#[101, 110, 100]⟩, .int .i64 0, .int .i64 0] _ rfl (St.range hz) Tryd.underlying52 rfl (by kernel_rfl)) rfl ?_
        exact ⟨rfl, hz.drop.drop⟩
      · have hkf : ((26 : Int) == kind) = false := by rw [beq_eq_false_iff_ne]; exact fun h => hkd h.symm
        have HNO2 := Lib.hid (show ∀ x ∈ kindAt.take (3 + 1), kind ≠ x by
          intro x hx
          rw [List.take_succ_eq_append_getElem (by decide)] at hx
          rcases List.mem_append.1 hx with hx | hx
          · exact HNO.out x hx
          · simp [kindAt] at hx; subst hx; exact hkd)
        clear hkd
        go_wp2
        go_roundw
        case rel => exact ⟨4, by decide, rfl, HNO2, H.out.drop⟩
        case measure => first | (simp [intOf]; done) | (simp [intOf]; omega)
    · have i4 := idx4
      have h2 := H.out.allocRaw #[.int .i64 27, .string ⟨#[109, 97, 114, 107]⟩, .int .i64 0, .int .i64 1] 52
      obtain ⟨xb, hxb⟩ : ∃ b, wr.heap.size = b := ⟨_, rfl⟩
      rw [hxb] at h2
      have x0 := h2.rawCell 0; have x1 := h2.rawCell 1; have x2 := h2.rawCell 2; have x3 := h2.rawCell 3
      simp at x0 x1 x2 x3
      have p0 := h2.p1.rawCell 0; have p1 := h2.p1.rawCell 1; have p2 := h2.p1.rawCell 2; have p3 := h2.p1.rawCell 3
      have q0 := h2.p1.rawFree 0; have q1 := h2.p1.rawFree 1; have q2 := h2.p1.rawFree 2; have q3 := h2.p1.rawFree 3
      simp at p0 p1 p2 p3
      clear H
      have H := Lib.hid h2
      clear h2
      by_cases hkd : kind = 27
      · have HE := HX.out
        subst hkd
        have e : reqOf 27 = (27, [109, 97, 114, 107], 0, 1, true) := by decide
        rw [e] at HE
        simp only [Prod.mk.injEq] at HE
        obtain ⟨rfl, rfl, rfl, rfl, rfl⟩ := HE
        go_wp2
        have hz : St W0 _ K (.raw rb #[.int .i64 27, .string ⟨#[109, 97, 114, 107]⟩, .int .i64 0, .int .i64 1] 52 :: _) := ((((H.out.p1.rawSet 0 _).rawSet 1 _).rawSet 2 _).rawSet 3 _)
        refine bodyPost_ret (results_cell_tmp rfl _ _ rb [.int .i64 27, .string ⟨#[109, 97, 114, 107]⟩, .int .i64 0, .int .i64 1] _ rfl (St.range hz) Tryd.underlying52 rfl (by kernel_rfl)) rfl ?_
        exact ⟨rfl, hz.drop.drop⟩
      · have hkf : ((27 : Int) == kind) = false := by rw [beq_eq_false_iff_ne]; exact fun h => hkd h.symm
        have HNO2 := Lib.hid (show ∀ x ∈ kindAt.take (4 + 1), kind ≠ x by
          intro x hx
          rw [List.take_succ_eq_append_getElem (by decide)] at hx
          rcases List.mem_append.1 hx with hx | hx
          · exact HNO.out x hx
          · simp [kindAt] at hx; subst hx; exact hkd)
        clear hkd
        go_wp2
        go_roundw
        case rel => exact ⟨5, by decide, rfl, HNO2, H.out.drop⟩
        case measure => first | (simp [intOf]; done) | (simp [intOf]; omega)
    · obtain ⟨e1, e2, e3, e4, e5⟩ : a = 0 ∧ nm = [] ∧ lo = 0 ∧ hi = 0 ∧ ok = false := by
        have := HX.out
        rw [reqOf_none kind HNO.out] at this
        simp at this
        obtain ⟨rfl, rfl, rfl, rfl, rfl⟩ := this
        exact ⟨rfl, rfl, rfl, rfl, rfl⟩
      subst e1 e2 e3 e4 e5
      have cz : True := trivial
      have p0 := H.out.rawCell 0; have p1 := H.out.rawCell 1; have p2 := H.out.rawCell 2; have p3 := H.out.rawCell 3
      have q0 := H.out.rawFree 0; have q1 := H.out.rawFree 1; have q2 := H.out.rawFree 2; have q3 := H.out.rawFree 3
      simp at p0 p1 p2 p3
      go_wp2
      try simp only [Exit.inBlock, Exit.then]
      have hz : St W0 _ K (.raw rb #[.int .i64 0, .string ⟨#[]⟩, .int .i64 0, .int .i64 0] 52 :: _) := ((((H.out.rawSet 0 _).rawSet 1 _).rawSet 2 _).rawSet 3 _)
      refine bodyPost_ret (results_cell_tmp rfl _ _ rb [.int .i64 0, .string ⟨#[]⟩, .int .i64 0, .int .i64 0] _ rfl (St.range hz) Tryd.underlying52 rfl (by kernel_rfl)) rfl ?_
      exact ⟨rfl, hz.drop⟩

end Go.Proofs.YtmpehoebgifmnaaDoor
/- Requests, their versions and names. -/
namespace Go.Proofs.YtmpehoebgifmnaaDoor
open Go.RowKit

set_option maxHeartbeats 1000000 in
set_option maxRecDepth 100000 in
theorem ver_name (kind : Int) (a : Int) (nm : Bs) (lo hi : Int) (ok : Bool) (hx : reqOf kind = (a, nm, lo, hi, ok)) {W0 w : World} {K : Know} {L : List Res} (hk : K.has Know.reqs) (h : St W0 w K L) :
    Calls Tryd.prog 4 #[.int .i64 kind] w fun en w' => en = .returned (.string (bb nm)) ∧ St W0 w' K L := by
  have H := Lib.hid h
  have HX := Lib.hid hx
  have HK := Lib.hid hk
  clear h hx hk
  go_enter Tryd.func4, Tryd.ntmps4
  go_wp2_with (go_at_call 15; (with_reducible refine (ver_find kind a nm lo hi _ HX.out HK.out H.out).mono ?_); rintro e wn ⟨rfl, h⟩; have h := h.allocRaw #[.int .i64 a, .string (bb nm), .int .i64 lo, .int .i64 hi] 52; obtain ⟨rb, hrb⟩ : ∃ b, wn.heap.size = b := ⟨_, rfl⟩; rw [hrb] at h; have x0 := h.rawCell 0; have x1 := h.rawCell 1; have x2 := h.rawCell 2; have x3 := h.rawCell 3; simp at x0 x1 x2 x3; replace H := Lib.hid h; clear h)
  go_ret
  exact ⟨rfl, H.out.drop⟩
/-- The error of a request and its version. -/
def verErr (kind v : Int) : Int := if (reqOf kind).2.2.2.2 then (if v < (reqOf kind).2.2.1 ∨ (reqOf kind).2.2.2.1 < v then 7 else 0) else 12
end Go.Proofs.YtmpehoebgifmnaaDoor
/- Layer 16, walked: VersionChecks. -/
namespace Go.Proofs.YtmpehoebgifmnaaDoor
open Go.RowKit

theorem ver_nameV (kind : Int) (a : Int) (nm : Bs) (lo hi : Int) (ok : Bool) (vn : ByteArray) (hx : reqOf kind = (a, nm, lo, hi, ok)) (hv : vn = bb nm) {W0 w : World} {K : Know} {L : List Res} (hk : K.has Know.reqs) (h : St W0 w K L) :
    Calls Tryd.prog 4 #[.int .i64 kind] w fun en w' => en = .returned (.string vn) ∧ St W0 w' K L := by
  subst hv
  exact ver_name kind a nm lo hi ok hx hk h
theorem reqOf_known {kind a : Int} {nm : Bs} {lo hi : Int} (hx : reqOf kind = (a, nm, lo, hi, true)) : nm ≠ [] := by
  intro h
  subst h
  unfold reqOf at hx
  repeat (first | (split at hx; · simp at hx) | split at hx)
  simp at hx
theorem reqOf_unknown {kind a : Int} {nm : Bs} {lo hi : Int} (hx : reqOf kind = (a, nm, lo, hi, false)) : nm = [] ∧ lo = 0 ∧ hi = 0 := by
  unfold reqOf at hx
  repeat (first | (split at hx; · simp at hx) | split at hx)
  simp at hx
  obtain ⟨_, rfl, rfl, rfl⟩ := hx
  exact ⟨rfl, rfl, rfl⟩
end Go.Proofs.YtmpehoebgifmnaaDoor
/- More things of one's own brought to the front. -/
namespace Go.Proofs.YtmpehoebgifmnaaDoor
open Go.RowKit

theorem St.p6 {W0 w : World} {K : Know} {a b c d e f g : Res} {L : List Res} (h : St W0 w K (a :: b :: c :: d :: e :: f :: g :: L)) : St W0 w K (g :: a :: b :: c :: d :: e :: f :: L) := St.p5 (h.map fun _ h => h.cons fun _ h => h.cons fun _ h => h.cons fun _ h => h.cons fun _ h => h.cons fun _ => Holds.swap)
theorem St.p7 {W0 w : World} {K : Know} {a b c d e f g i : Res} {L : List Res} (h : St W0 w K (a :: b :: c :: d :: e :: f :: g :: i :: L)) : St W0 w K (i :: a :: b :: c :: d :: e :: f :: g :: L) := St.p6 (h.map fun _ h => h.cons fun _ h => h.cons fun _ h => h.cons fun _ h => h.cons fun _ h => h.cons fun _ h => h.cons fun _ => Holds.swap)
theorem St.p8 {W0 w : World} {K : Know} {a b c d e f g i j : Res} {L : List Res} (h : St W0 w K (a :: b :: c :: d :: e :: f :: g :: i :: j :: L)) : St W0 w K (j :: a :: b :: c :: d :: e :: f :: g :: i :: L) := St.p7 (h.map fun _ h => h.cons fun _ h => h.cons fun _ h => h.cons fun _ h => h.cons fun _ h => h.cons fun _ h => h.cons fun _ h => h.cons fun _ => Holds.swap)
theorem St.p9 {W0 w : World} {K : Know} {a b c d e f g i j k : Res} {L : List Res} (h : St W0 w K (a :: b :: c :: d :: e :: f :: g :: i :: j :: k :: L)) : St W0 w K (k :: a :: b :: c :: d :: e :: f :: g :: i :: j :: L) := St.p8 (h.map fun _ h => h.cons fun _ h => h.cons fun _ h => h.cons fun _ h => h.cons fun _ h => h.cons fun _ h => h.cons fun _ h => h.cons fun _ h => h.cons fun _ => Holds.swap)
theorem ver_end {W0 w : World} {K : Know} {L : List Res} (hk : K.has Know.reqs) (h : St W0 w K L) :
    Calls Tryd.prog 4 #[.int .i64 26] w fun en w' => en = .returned (.string ⟨#[101, 110, 100]⟩) ∧ St W0 w' K L :=
  ver_nameV 26 26 [101, 110, 100] 0 0 true ⟨#[101, 110, 100]⟩ rfl rfl hk h
theorem mapTC : Tryd.prog.underlying 26 = some (.map 9 31) := by kernel_rfl

end Go.Proofs.YtmpehoebgifmnaaDoor
/- Journals: entries that are none. -/
namespace Go.Proofs.YtmpehoebgifmnaaDoor
open Go.RowKit

set_option maxHeartbeats 4000000 in
set_option maxRecDepth 100000 in
theorem jr_put_key (id key : Bs) (E : Int) (hke : keyEnc id = (key, E)) (h0 : E ≠ 0) (hil : id.length ≤ 40000) (p e t s u st : Int) (l : List (TopS × Value)) (q : Option Addr) (cap : Nat) {W0 w : World} {K : Know} {L : List Res} (h : St W0 w K L) :
    Calls Tryd.prog 7 #[.string (bb id), .agg #[.int .i64 p, .int .i64 e, .int .i64 t, .int .i64 s, .slice q l.length cap, .int .i64 u, .int .i64 st]] w fun en w' => en = .returned (.tuple #[.agg #[.string ⟨#[]⟩, .bool false, .string ⟨#[]⟩], .int .i64 E]) ∧ St W0 w' K L := by
  obtain ⟨vb, hvb⟩ : ∃ b, w.heap.size = b := ⟨_, rfl⟩
  obtain ⟨rb, hrb⟩ : ∃ b, vb + 1 = b := ⟨_, rfl⟩
  have g1 := (h.allocRaw #[.int .i64 p, .int .i64 e, .int .i64 t, .int .i64 s, .slice q l.length cap, .int .i64 u, .int .i64 st] 29).allocRaw #[.string ⟨#[]⟩, .bool false, .string ⟨#[]⟩] 36
  simp only [World.size_alloc, hvb, hrb] at g1
  have c0 := (g1.p1).rawCell 0; have c1 := (g1.p1).rawCell 1; have c2 := (g1.p1).rawCell 2; have c3 := (g1.p1).rawCell 3; have c4 := (g1.p1).rawCell 4; have c5 := (g1.p1).rawCell 5; have c6 := (g1.p1).rawCell 6; simp at c0 c1 c2 c3 c4 c5 c6
  have d0 := (g1).rawCell 0; have d1 := (g1).rawCell 1; have d2 := (g1).rawCell 2; simp at d0 d1 d2; have r0 := (g1).rawFree 0; have r1 := (g1).rawFree 1; have r2 := (g1).rawFree 2
  have H := Lib.hid g1
  have HKE := Lib.hid hke
  have HIL := Lib.hid hil
  have e1 : (E == 0) = false := by rw [beq_eq_false_iff_ne]; exact h0
  have e2 : (E != 0) = true := by simp [bne, e1]
  clear h g1 hke hil h0
  go_enter Tryd.func7, Tryd.ntmps7
  go_wp2_with (go_at_call 16; clear c0 c1 c2 c3 c4 c5 c6 d0 d1 d2 r0 r1 r2; (with_reducible refine (key_encode' id key E HIL.out HKE.out H.out).mono ?_); rintro e_ wn ⟨rfl, h⟩; have c0 := (h.p1).rawCell 0; have c1 := (h.p1).rawCell 1; have c2 := (h.p1).rawCell 2; have c3 := (h.p1).rawCell 3; have c4 := (h.p1).rawCell 4; have c5 := (h.p1).rawCell 5; have c6 := (h.p1).rawCell 6; simp at c0 c1 c2 c3 c4 c5 c6; have d0 := (h).rawCell 0; have d1 := (h).rawCell 1; have d2 := (h).rawCell 2; simp at d0 d1 d2; have r0 := (h).rawFree 0; have r1 := (h).rawFree 1; have r2 := (h).rawFree 2; replace H := Lib.hid h; clear h)
  have hz : St W0 _ K (.raw rb #[.string ⟨#[]⟩, .bool false, .string ⟨#[]⟩] 36 :: _) := ((H.out.rawSet 0 (.string ⟨#[]⟩)).rawSet 1 (.bool false)).rawSet 2 (.string ⟨#[]⟩)
  refine bodyPost_ret (rc_cell_tmp rfl _ _ rb [.string ⟨#[]⟩, .bool false, .string ⟨#[]⟩] _ rfl (rc_range hz) Tryd.underlying36 rfl (by kernel_rfl)) rfl ?_
  exact ⟨rfl, hz.drop.drop⟩
set_option maxHeartbeats 4000000 in
set_option maxRecDepth 100000 in
theorem jr_put_val (id key : Bs) (E : Int) (hke : keyEnc id = (key, 0)) (hil : id.length ≤ 40000) (p e t s u st : Int) (l : List (TopS × Value)) (q : Option Addr) (cap : Nat) (tl : List TopS) (htl : l.map (·.1) = tl) (he : ValS.err ⟨p, e, t, s, tl, u, st⟩ = E) (h0 : E ≠ 0) (hf : FewT l) {W0 w : World} {K : Know} {L : List Res} (hk : K.has (Know.tops (.slice q l.length cap) l)) (h : St W0 w K L) :
    Calls Tryd.prog 7 #[.string (bb id), .agg #[.int .i64 p, .int .i64 e, .int .i64 t, .int .i64 s, .slice q l.length cap, .int .i64 u, .int .i64 st]] w fun en w' => en = .returned (.tuple #[.agg #[.string ⟨#[]⟩, .bool false, .string ⟨#[]⟩], .int .i64 E]) ∧ St W0 w' K L := by
  obtain ⟨vb, hvb⟩ : ∃ b, w.heap.size = b := ⟨_, rfl⟩
  obtain ⟨rb, hrb⟩ : ∃ b, vb + 1 = b := ⟨_, rfl⟩
  have g1 := (h.allocRaw #[.int .i64 p, .int .i64 e, .int .i64 t, .int .i64 s, .slice q l.length cap, .int .i64 u, .int .i64 st] 29).allocRaw #[.string ⟨#[]⟩, .bool false, .string ⟨#[]⟩] 36
  simp only [World.size_alloc, hvb, hrb] at g1
  have c0 := (g1.p1).rawCell 0; have c1 := (g1.p1).rawCell 1; have c2 := (g1.p1).rawCell 2; have c3 := (g1.p1).rawCell 3; have c4 := (g1.p1).rawCell 4; have c5 := (g1.p1).rawCell 5; have c6 := (g1.p1).rawCell 6; simp at c0 c1 c2 c3 c4 c5 c6
  have d0 := (g1).rawCell 0; have d1 := (g1).rawCell 1; have d2 := (g1).rawCell 2; simp at d0 d1 d2; have r0 := (g1).rawFree 0; have r1 := (g1).rawFree 1; have r2 := (g1).rawFree 2
  have H := Lib.hid g1
  have HKE := Lib.hid hke
  have HIL := Lib.hid hil
  have HT := Lib.hid htl
  have HE := Lib.hid he
  have H0 := Lib.hid h0
  have HF := Lib.hid hf
  have HK := Lib.hid hk
  have e1 : (E == 0) = false := by rw [beq_eq_false_iff_ne]; exact h0
  have e2 : (E != 0) = true := by simp [bne, e1]
  clear h g1 hke hil h0 htl he hf hk
  go_enter Tryd.func7, Tryd.ntmps7
  go_wp2_with (first
    | (go_at_call 16; clear c0 c1 c2 c3 c4 c5 c6 d0 d1 d2 r0 r1 r2; (with_reducible refine (key_encode' id key 0 HIL.out HKE.out H.out).mono ?_); rintro e_ wn ⟨rfl, h⟩; have c0 := (h.p1).rawCell 0; have c1 := (h.p1).rawCell 1; have c2 := (h.p1).rawCell 2; have c3 := (h.p1).rawCell 3; have c4 := (h.p1).rawCell 4; have c5 := (h.p1).rawCell 5; have c6 := (h.p1).rawCell 6; simp at c0 c1 c2 c3 c4 c5 c6; have d0 := (h).rawCell 0; have d1 := (h).rawCell 1; have d2 := (h).rawCell 2; simp at d0 d1 d2; have r0 := (h).rawFree 0; have r1 := (h).rawFree 1; have r2 := (h).rawFree 2; replace H := Lib.hid h; clear h)
    | (go_at_call 17; clear c0 c1 c2 c3 c4 c5 c6 d0 d1 d2 r0 r1 r2; (with_reducible refine (val_encode_badS p e t s u st l q cap tl HT.out E HE.out H0.out HF.out HK.out H.out).mono ?_); rintro e_ wn ⟨rfl, h⟩; have d0 := (h).rawCell 0; have d1 := (h).rawCell 1; have d2 := (h).rawCell 2; simp at d0 d1 d2; have r0 := (h).rawFree 0; have r1 := (h).rawFree 1; have r2 := (h).rawFree 2; replace H := Lib.hid h; clear h))
  have hz : St W0 _ K (.raw rb #[.string ⟨#[]⟩, .bool false, .string ⟨#[]⟩] 36 :: _) := ((H.out.rawSet 0 (.string ⟨#[]⟩)).rawSet 1 (.bool false)).rawSet 2 (.string ⟨#[]⟩)
  refine bodyPost_ret (rc_cell_tmp rfl _ _ rb [.string ⟨#[]⟩, .bool false, .string ⟨#[]⟩] _ rfl (rc_range hz) Tryd.underlying36 rfl (by kernel_rfl)) rfl ?_
  exact ⟨rfl, hz.drop.drop⟩
set_option maxHeartbeats 4000000 in
set_option maxRecDepth 100000 in
theorem jr_drop_key (id key : Bs) (E : Int) (hke : keyEnc id = (key, E)) (h0 : E ≠ 0) (hil : id.length ≤ 40000) {W0 w : World} {K : Know} {L : List Res} (h : St W0 w K L) :
    Calls Tryd.prog 8 #[.string (bb id)] w fun en w' => en = .returned (.tuple #[.agg #[.string ⟨#[]⟩, .bool false, .string ⟨#[]⟩], .int .i64 E]) ∧ St W0 w' K L := by
  obtain ⟨rb, hrb⟩ : ∃ b, w.heap.size = b := ⟨_, rfl⟩
  have g1 := h.allocRaw #[.string ⟨#[]⟩, .bool false, .string ⟨#[]⟩] 36
  rw [hrb] at g1
  have d0 := (g1).rawCell 0; have d1 := (g1).rawCell 1; have d2 := (g1).rawCell 2; simp at d0 d1 d2; have r0 := (g1).rawFree 0; have r1 := (g1).rawFree 1; have r2 := (g1).rawFree 2
  have H := Lib.hid g1
  have HKE := Lib.hid hke
  have HIL := Lib.hid hil
  have e1 : (E == 0) = false := by rw [beq_eq_false_iff_ne]; exact h0
  have e2 : (E != 0) = true := by simp [bne, e1]
  clear h g1 hke hil h0
  go_enter Tryd.func8, Tryd.ntmps8
  go_wp2_with (go_at_call 16; clear d0 d1 d2 r0 r1 r2; (with_reducible refine (key_encode' id key E HIL.out HKE.out H.out).mono ?_); rintro e_ wn ⟨rfl, h⟩; have d0 := (h).rawCell 0; have d1 := (h).rawCell 1; have d2 := (h).rawCell 2; simp at d0 d1 d2; have r0 := (h).rawFree 0; have r1 := (h).rawFree 1; have r2 := (h).rawFree 2; replace H := Lib.hid h; clear h)
  have hz : St W0 _ K (.raw rb #[.string ⟨#[]⟩, .bool false, .string ⟨#[]⟩] 36 :: _) := ((H.out.rawSet 0 (.string ⟨#[]⟩)).rawSet 1 (.bool false)).rawSet 2 (.string ⟨#[]⟩)
  refine bodyPost_ret (rc_cell_tmp rfl _ _ rb [.string ⟨#[]⟩, .bool false, .string ⟨#[]⟩] _ rfl (rc_range hz) Tryd.underlying36 rfl (by kernel_rfl)) rfl ?_
  exact ⟨rfl, hz.drop⟩

end Go.Proofs.YtmpehoebgifmnaaDoor
/- Without one. -/
namespace Go.Proofs.YtmpehoebgifmnaaDoor
open Go.RowKit

end Go.Proofs.YtmpehoebgifmnaaDoor
/- What the law knows of one. -/
namespace Go.Proofs.YtmpehoebgifmnaaDoor
open Go.RowKit

end Go.Proofs.YtmpehoebgifmnaaDoor
/- Is that what it knows? -/
namespace Go.Proofs.YtmpehoebgifmnaaDoor
open Go.RowKit

theorem lenT_of_map {a b : List (TopS × Value)} (h : a.map (·.1) = b.map (·.1)) (hb : LenT b) : LenT a := by
  have hl := congrArg List.length h
  rw [List.length_map, List.length_map] at hl
  refine ⟨by rw [hl]; exact hb.1, fun x hx => ?_⟩
  have h1 : x.1 ∈ a.map (·.1) := List.mem_map_of_mem hx
  rw [h] at h1
  obtain ⟨y, hy, he⟩ := List.mem_map.1 h1
  rw [← he]
  exact hb.2 y hy
end Go.Proofs.YtmpehoebgifmnaaDoor
/- The entries that say it all. -/
namespace Go.Proofs.YtmpehoebgifmnaaDoor
open Go.RowKit

set_option maxHeartbeats 4000000 in
set_option maxRecDepth 100000 in
theorem jr_compact (jb mb n : Nat) (m : Int) (f : JF) (l : List KnR) (hn : n ≤ 1000000) (ha : AllOk f l) {W0 w : World} {K : Know} {L : List Res} (h : St W0 w K (.raw jb #[.map (some mb), .int .i64 m] 57 :: .gen (jmap mb n f) :: L)) :
    Calls Tryd.prog 10 #[.pointer (some ⟨jb, 0, none⟩)] w fun en w' => ∃ (v : Value) (ids : List Bs), en = .returned v ∧ IdsOf f ids ∧ St W0 w' K (.raw jb #[.map (some mb), .int .i64 m] 57 :: .gen (jmap mb n f) :: .row v 36 3 ids.length (ids.flatMap (entOf f)) :: L) := by
  have H := Lib.hid h
  have HAO := Lib.hid ha
  have HN := Lib.hid hn
  have hli : l.length ≤ 60 := ha.few
  clear h ha hn
  go_enter Tryd.func10, Tryd.ntmps10
  go_wp2_with (go_at_call 13; (with_reducible refine (jr_ids jb mb n m f HN.out H.out).mono ?_); rintro e_ wn ⟨rv, ids, rfl, hio, h⟩; obtain ⟨rq, rcap, hrv⟩ := h.rowAny; subst hrv; have HIO := Lib.hid hio; have HLN := Lib.hid (HAO.out.len hio); have hki : (ids.length : Int) ≤ 60 := (by have := HAO.out.len hio; omega); clear hio; have h := h.p1.p2.p1; replace H := Lib.hid h; clear h)
  have HZ := Lib.hid (H.out.nilRow 36 3).p1.p2.p1
  go_loopw [13, 3] (fun iv lv wr => ∃ (k : Nat) (xs : List Value), k ≤ ids.length ∧ iv = .int .i64 k ∧ Hid ((ids.take k).flatMap (entOf f) = xs) ∧ St W0 wr K (.raw jb #[.map (some mb), .int .i64 m] 57 :: .gen (jmap mb n f) :: .row lv 36 3 k xs :: .row (.slice rq ids.length rcap) 9 1 ids.length (ids.map encStr) :: L)) (fun iv _ _ => ids.length - (intOf iv).toNat)
  case atStart => exact ⟨0, [], Nat.zero_le _, rfl, Lib.hid rfl, HZ.out⟩
  case round =>
    obtain ⟨k, xs, hkl, rfl, HXS, hst⟩ := hrel
    obtain ⟨lq, lcap, rfl⟩ := hst.p2.rowAny
    clear H HZ
    have H := Lib.hid hst
    clear hst
    by_cases hlt : k < ids.length
    · obtain ⟨g, gcap, hg⟩ := H.out.p3.rowSlice (by omega)
      simp at hg
      obtain ⟨rfl, rfl⟩ := hg
      have hkn : (k : Int) < (ids.length : Int) := by omega
      have HKN := Lib.hid (show k ≤ 1000 by have := HLN.out; omega)
      have hgt := HAO.out.get HIO.out k hlt
      obtain ⟨id, hid⟩ : ∃ x, ids[k] = x := ⟨_, rfl⟩
      rw [hid] at hgt
      obtain ⟨key, S, p, e, t, s, u, st, tl, h5, h6, h4, h1, h2, h3⟩ := hgt
      obtain ⟨h7, h8, h9⟩ := valDec_one h3
      have hke := keyRd_enc key id h5
      have y0 : wr.cell? ⟨g, k, none⟩ = some (.string (bb id)) := (H.out.p3.rowCell k (by omega)).trans (enc_at ids k hlt id hid)
      have HET := Lib.hid (show (ids.take (k + 1)).flatMap (entOf f) = xs ++ [.string (bb key), .bool false, .string (bb S)] by rw [ent_take f ids k hlt id hid, HXS.out, ent_eq hke h1])
      have HFS := Lib.hid h1
      have HIL := Lib.hid (show id.length ≤ 1000000 by omega)
      have HI4 := Lib.hid (show id.length ≤ 40000 by omega)
      have HSL := Lib.hid (show S.length ≤ 1000000 by omega)
      have HS1 := Lib.hid h2
      have HV := Lib.hid h3
      have HKE := Lib.hid hke
      have HSE := Lib.hid (show ValS.enc ⟨p, e, t, s, tl, u, st⟩ = S from h7)
      have HER := Lib.hid (show ValS.err ⟨p, e, t, s, tl, u, st⟩ = 0 from h8)
      have HRR := Lib.hid (show ValS.R ⟨p, e, t, s, tl, u, st⟩ from h9)
      clear hid h5 h6 h4 h1 h2 h3 h7 h8 h9 hke
      go_wp2_with (first
    | (go_at_call 11; (try clear y0); (with_reducible refine (jr_get_some jb mb n m f id S HFS.out HIL.out HSL.out p e t s u st tl HV.out H.out).mono ?_); rintro e_ wn ⟨qt, capt, lr, rfl, hlr, h⟩; obtain ⟨gb, hgb⟩ : ∃ b, wn.heap.size = b := ⟨_, rfl⟩; have h := h.allocRaw #[.int .i64 p, .int .i64 e, .int .i64 t, .int .i64 s, .slice qt lr.length capt, .int .i64 u, .int .i64 st] 29; rw [hgb] at h; have HLR := Lib.hid hlr; clear hlr; have a0 := (h).rawCell 0; have a1 := (h).rawCell 1; have a2 := (h).rawCell 2; have a3 := (h).rawCell 3; have a4 := (h).rawCell 4; have a5 := (h).rawCell 5; have a6 := (h).rawCell 6; simp at a0 a1 a2 a3 a4 a5 a6; replace H := Lib.hid h; clear h)
    | (go_at_call 7; (try clear a0 a1 a2 a3 a4 a5 a6); (with_reducible refine (jr_put id key S HKE.out HI4.out p e t s u st lr qt capt tl HLR.out HSE.out HER.out HRR.out (fewT_mapJ HS1.out HV.out HLR.out) (Know.has_right (Know.has_refl _)) H.out).mono ?_); rintro e_ wn ⟨rfl, h⟩; have h := h.know (Know.has_left (Know.has_refl _)); obtain ⟨eb, heb⟩ : ∃ b, wn.heap.size = b := ⟨_, rfl⟩; have h := h.allocRaw #[.string (bb key), .bool false, .string (bb S)] 36; rw [heb] at h; have b0 := (h).rawCell 0; have b1 := (h).rawCell 1; have b2 := (h).rawCell 2; simp at b0 b1 b2; replace H := Lib.hid h; clear h)
    | (at_builtin; refine wpl_app1_st rfl _ _ 42 rfl 36 Tryd.underlying42 elem_je _ _ _ rfl H.out.p4 [.string (bb key), .bool false, .string (bb S)] 36 (by first | rfl | (rw [World.size_alloc]; rfl) | (rw [World.size_alloc, heb]; rfl)) rfl (by simp [Value.oneCell']) (by have := HKN.out; unfold maxLen; omega) (by have := HKN.out; omega) ?_; intro v' w' h; obtain ⟨qv, cv, hv⟩ := h.rowAny; subst hv; replace H := Lib.hid h; clear h))
      go_roundw
      case rel => exact ⟨k + 1, xs ++ [.string (bb key), .bool false, .string (bb S)], hlt, by go_num, HET, (H.out.p1.drop.p1.drop).p1.p2.p1⟩
      case measure => first | (simp [intOf]; done) | (simp [intOf]; omega)
    · obtain rfl : k = ids.length := by omega
      have hx := HXS.out
      rw [List.take_length] at hx
      subst hx
      go_wp2_with fail
      go_ret
      exact ⟨_, ids, rfl, HIO.out, H.out.p3.drop⟩

end Go.Proofs.YtmpehoebgifmnaaDoor
/- What a journal says of one name. -/
namespace Go.Proofs.YtmpehoebgifmnaaDoor
open Go.RowKit

def k97 : Bs := keyBytes [97]
theorem k97_enc : keyEnc [97] = (k97, 0) := by kernel_rfl
theorem k97_rd : keyRd k97 = ([97], 0) := by kernel_rfl
theorem k97_len : k97.length ≤ 40100 := by decide
theorem put_z (k S : Bs) (hk : k97 = k) (hS : vz37 = S) {W0 w : World} {K : Know} {L : List Res} (h : St W0 w K L) :
    Calls Tryd.prog 7 #[.string ⟨#[97]⟩, .agg #[.int .i64 0, .int .i64 0, .int .i64 0, .int .i64 0, .slice none 0 0, .int .i64 0, .int .i64 (-1)]] w fun en w' => en = .returned (.tuple #[.agg #[.string (bb k), .bool false, .string (bb S)], .int .i64 0]) ∧ St W0 w' K L := by
  subst hk; subst hS
  have h2 : St W0 w (K.and (Know.tops (.slice none 0 0) [])) L := h.know (tops_nil K)
  refine (jr_put [97] k97 vz37 k97_enc (by decide) 0 0 0 0 0 (-1) [] none 0 [] rfl rfl (by kernel_rfl) (by unfold ValS.R; exact ⟨by decide, by decide, by decide, by decide, by decide, by decide⟩) few_nil (Know.has_right (Know.has_refl _)) h2).mono ?_
  rintro e_ wn ⟨rfl, h3⟩
  exact ⟨rfl, h3.know (Know.has_left (Know.has_refl _))⟩
theorem drop_z (k : Bs) (hk : k97 = k) {W0 w : World} {K : Know} {L : List Res} (h : St W0 w K L) :
    Calls Tryd.prog 8 #[.string ⟨#[97]⟩] w fun en w' => en = .returned (.tuple #[.agg #[.string (bb k), .bool true, .string (bb [])], .int .i64 0]) ∧ St W0 w' K L := by
  subst hk
  exact jr_drop [97] k97 k97_enc (by decide) h
theorem apply_z1 (jb mb : Nat) (k S : Bs) (hk : k97 = k) (hS : vz37 = S) {W0 w : World} {K : Know} {L : List Res} (h : St W0 w K (.raw jb #[.map (some mb), .int .i64 0] 57 :: .gen (jmap mb 0 (fun _ => none)) :: L)) :
    Calls Tryd.prog 9 #[.pointer (some ⟨jb, 0, none⟩), .agg #[.string (bb k), .bool false, .string (bb S)]] w fun en w' => en = .returned (.int .i64 0) ∧ St W0 w' K (.raw jb #[.map (some mb), .int .i64 1] 57 :: .gen (jmap mb 1 (jset (fun _ => none) [97] (some S))) :: L) := by
  subst hk; subst hS
  exact jr_apply_put jb mb 0 0 _ k97 [97] vz37 0 0 0 0 0 (-1) [] k97_rd vz37_dec k97_len (by decide) (by rw [vz37_len]; decide) (by decide) (by decide) (by decide) h
theorem apply_z2 (jb mb : Nat) (f : JF) (k : Bs) (hk : k97 = k) {W0 w : World} {K : Know} {L : List Res} (h : St W0 w K (.raw jb #[.map (some mb), .int .i64 1] 57 :: .gen (jmap mb 1 f) :: L)) :
    Calls Tryd.prog 9 #[.pointer (some ⟨jb, 0, none⟩), .agg #[.string (bb k), .bool true, .string (bb [])]] w fun en w' => en = .returned (.int .i64 0) ∧ St W0 w' K (.raw jb #[.map (some mb), .int .i64 2] 57 :: .gen (jmap mb 1 (jset f [97] none)) :: L) := by
  subst hk
  exact jr_apply_drop jb mb 1 1 f k97 [97] k97_rd k97_len (by decide) (by decide) (by decide) h
theorem get_z1 (jb mb : Nat) (S : Bs) (hS : vz37 = S) {W0 w : World} {K : Know} {L : List Res} (h : St W0 w K (.raw jb #[.map (some mb), .int .i64 1] 57 :: .gen (jmap mb 1 (jset (fun _ => none) [97] (some S))) :: L)) :
    Calls Tryd.prog 11 #[.pointer (some ⟨jb, 0, none⟩), .string ⟨#[97]⟩] w fun en w' => ∃ (qt : Option Addr) (capt : Nat) (lr : List (TopS × Value)), en = .returned (.tuple #[.agg #[.int .i64 0, .int .i64 0, .int .i64 0, .int .i64 0, .slice qt lr.length capt, .int .i64 0, .int .i64 (-1)], .bool true]) ∧ St W0 w' K (.raw jb #[.map (some mb), .int .i64 1] 57 :: .gen (jmap mb 1 (jset (fun _ => none) [97] (some S))) :: L) := by
  subst hS
  refine (jr_get_some jb mb 1 1 _ [97] vz37 rfl (by decide) vz37_len2 0 0 0 0 0 (-1) [] vz37_dec h).mono ?_
  rintro e_ wn ⟨qt, capt, lr, rfl, _, h3⟩
  exact ⟨qt, capt, lr, rfl, h3.know (Know.has_left (Know.has_refl _))⟩
theorem get_z2 (jb mb : Nat) (f : JF) {W0 w : World} {K : Know} {L : List Res} (h : St W0 w K (.raw jb #[.map (some mb), .int .i64 2] 57 :: .gen (jmap mb 1 (jset f [97] none)) :: L)) :
    Calls Tryd.prog 11 #[.pointer (some ⟨jb, 0, none⟩), .string ⟨#[97]⟩] w fun en w' => en = .returned (.tuple #[.agg #[.int .i64 0, .int .i64 0, .int .i64 0, .int .i64 0, .slice none 0 0, .int .i64 0, .int .i64 0], .bool false]) ∧ St W0 w' K (.raw jb #[.map (some mb), .int .i64 2] 57 :: .gen (jmap mb 1 (jset f [97] none)) :: L) :=
  jr_get_none jb mb 1 2 _ [97] (by unfold jset; rw [if_pos rfl]) (by decide) h

end Go.Proofs.YtmpehoebgifmnaaDoor
/- The law speaks. -/
namespace Go.Proofs.YtmpehoebgifmnaaDoor
open Go.RowKit

end Go.Proofs.YtmpehoebgifmnaaDoor
/- What is new is one's own. -/
namespace Go.Proofs.YtmpehoebgifmnaaDoor
open Go.RowKit

theorem unf_lt {w : World} {k : Nat} (h : Unf w k) : k < w.heap.size := by
  obtain ⟨c, T, h⟩ := h
  exact heap_lt h
/-- All that there is, but what is new. -/
def allG (w : World) : Gen where
  p w' S := (∀ k, S k ↔ k < w.heap.size) ∧ ∀ k, k < w.heap.size → w'.heap[k]? = w.heap[k]?
  keep w1 w2 S h hs hk := ⟨h.1, fun k hl => by
    by_cases h2 : k < w1.heap.size
    · rw [hk k h2 ((h.1 k).2 hl), h.2 k hl]
    · have := h.2 k hl
      rw [Array.getElem?_eq_none (by omega)] at this
      rw [Array.getElem?_eq_getElem hl] at this
      cases this⟩
/-- What is known, and may be written. -/
def ownK (kn : Know) : Gen where
  p w S := kn.p w S ∧ ∀ k, S k → Unf w k
  keep w w' S h hs hk := ⟨kn.keep w w' S h.1 hs hk, fun k hk2 => (h.2 k hk2).same (hk k (unf_lt (h.2 k hk2)) hk2)⟩
def noHeap (w : World) : World := { w with heap := #[] }
theorem St.alone (w : World) : St (noHeap w) w Know.none [.gen (allG w)] := by
  refine ⟨⟨rfl, rfl, rfl, Nat.zero_le _, fun k hk => absurd hk (Nat.not_lt_zero k)⟩, fun k => k < w.heap.size, fun _ => False, ⟨fun k => k < w.heap.size, fun _ => False, ⟨fun _ => Iff.rfl, fun _ _ => rfl⟩, fun _ h => h, fun _ _ h => h, fun k => ⟨.inl, fun h => h.elim id False.elim⟩⟩, fun k hk => ⟨Nat.zero_le _, hk⟩, trivial, fun k hk => hk.elim⟩
/-- What a call knows by the end is new, and one's own. -/
theorem St.owned {W0 w w' : World} {K kn : Know} {L : List Res} (h : St W0 w K L) (h' : St (noHeap w) w' (Know.none.and kn) [.gen (allG w)]) : St W0 w' K (.gen (ownK kn) :: L) := by
  obtain ⟨hb, S, F, ⟨S1, S2, g1, g2, _, g4⟩, gs, ⟨_, gk⟩, ge⟩ := h'
  have g1 : (∀ k, S1 k ↔ k < w.heap.size) ∧ ∀ k, k < w.heap.size → w'.heap[k]? = w.heap[k]? := g1
  have hsz : w.heap.size ≤ w'.heap.size := by
    rcases Nat.lt_or_ge w'.heap.size w.heap.size with hl | hl
    · have h1 := g1.2 _ hl
      rw [Array.getElem?_eq_none (Nat.le_refl _), Array.getElem?_eq_getElem hl] at h1
      cases h1
    · exact hl
  have hk : Keeps (fun _ => False) w w' := ⟨hb.os, hb.tape, hb.output, hsz, fun k hk _ => g1.2 k hk⟩
  have hF : ∀ k, F k → w.heap.size ≤ k ∧ k < w'.heap.size ∧ Unf w' k := fun k hk => by
    obtain ⟨e1, e2, e3⟩ := ge k hk
    refine ⟨?_, e1, e3 (Nat.zero_le _)⟩
    rcases Nat.lt_or_ge k w.heap.size with hl | hl
    · exact absurd ((g4 k).2 (.inl ((g1.1 k).2 hl))) e2
    · exact hl
  exact h.new (r := .gen (ownK kn)) (S1 := F) hk ⟨gk, fun k hk => (hF k hk).2.2⟩ fun j hj => ⟨(hF j hj).1, (hF j hj).2.1⟩

theorem val_decode_own (S : Bs) (hsl : S.length ≤ 1000000) (p e t s u st : Int) (tops : List TopS) (hv : valDec S = (⟨p, e, t, s, tops, u, st⟩, 0)) {W0 w : World} {K : Know} {L : List Res} (h : St W0 w K L) :
    Calls Tryd.prog 22 #[.string (bb S)] w fun en w' => ∃ (qt : Option Addr) (capt : Nat) (lr : List (TopS × Value)), en = .returned (.tuple #[.agg #[.int .i64 p, .int .i64 e, .int .i64 t, .int .i64 s, .slice qt lr.length capt, .int .i64 u, .int .i64 st], .int .i64 0]) ∧ lr.map (·.1) = tops ∧ St W0 w' K (.gen (ownK (Know.tops (.slice qt lr.length capt) lr)) :: L) := by
  refine (val_decode_okV S hsl p e t s u st tops hv (St.alone w)).mono ?_
  rintro e_ wn ⟨qt, capt, lr, rfl, hlr, h'⟩
  exact ⟨qt, capt, lr, rfl, hlr, h.owned h'⟩

set_option maxHeartbeats 4000000 in
set_option maxRecDepth 100000 in
theorem jr_get_own (jb mb n : Nat) (m : Int) (f : JF) (id S : Bs) (hf : f id = some S) (hl : id.length ≤ 1000000) (hs : S.length ≤ 1000000) (p e t s u st : Int) (tops : List TopS) (hv : valDec S = (⟨p, e, t, s, tops, u, st⟩, 0)) {W0 w : World} {K : Know} {L : List Res} (h : St W0 w K (.raw jb #[.map (some mb), .int .i64 m] 57 :: .gen (jmap mb n f) :: L)) :
    Calls Tryd.prog 11 #[.pointer (some ⟨jb, 0, none⟩), .string (bb id)] w fun en w' => ∃ (qt : Option Addr) (capt : Nat) (lr : List (TopS × Value)), en = .returned (.tuple #[.agg #[.int .i64 p, .int .i64 e, .int .i64 t, .int .i64 s, .slice qt lr.length capt, .int .i64 u, .int .i64 st], .bool true]) ∧ lr.map (·.1) = tops ∧ St W0 w' K (.raw jb #[.map (some mb), .int .i64 m] 57 :: .gen (jmap mb n f) :: .gen (ownK (Know.tops (.slice qt lr.length capt) lr)) :: L) := by
  obtain ⟨rb, hrb⟩ : ∃ b, w.heap.size = b := ⟨_, rfl⟩
  have g1 := h.allocRaw #[.int .i64 0, .int .i64 0, .int .i64 0, .int .i64 0, .slice none 0 0, .int .i64 0, .int .i64 0] 29
  rw [hrb] at g1
  have c0 := (g1.p1).rawCell 0; have c1 := (g1.p1).rawCell 1; simp at c0 c1
  have d0 := (g1).rawCell 0; have d1 := (g1).rawCell 1; have d2 := (g1).rawCell 2; have d3 := (g1).rawCell 3; have d4 := (g1).rawCell 4; have d5 := (g1).rawCell 5; have d6 := (g1).rawCell 6; simp at d0 d1 d2 d3 d4 d5 d6; have r0 := (g1).rawFree 0; have r1 := (g1).rawFree 1; have r2 := (g1).rawFree 2; have r3 := (g1).rawFree 3; have r4 := (g1).rawFree 4; have r5 := (g1).rawFree 5; have r6 := (g1).rawFree 6
  have g2 := g1.p2
  have H := Lib.hid g2
  have HF := Lib.hid hf
  have HV := Lib.hid hv
  have HSL := Lib.hid hs
  have HL := Lib.hid (show id.length ≤ 9223372036854775807 by omega)
  have hrun := jlook_some g2 55 mapT id S HL.out hf
  clear h hf hl g1 g2 hv hs
  go_enter Tryd.func11, Tryd.ntmps11
  go_wp2_with (go_at_call 22; (try clear c0 c1 d0 r0 d1 r1 d2 r2 d3 r3 d4 r4 d5 r5 d6 r6); (with_reducible refine (val_decode_own S HSL.out p e t s u st tops HV.out H.out).mono ?_); rintro e_ wn ⟨qt, capt, lr, rfl, hlr, h⟩; obtain ⟨vb, hvb⟩ : ∃ b, wn.heap.size = b := ⟨_, rfl⟩; have h := h.allocRaw #[.int .i64 p, .int .i64 e, .int .i64 t, .int .i64 s, .slice qt lr.length capt, .int .i64 u, .int .i64 st] 29; rw [hvb] at h; have c0 := (h).rawCell 0; have c1 := (h).rawCell 1; have c2 := (h).rawCell 2; have c3 := (h).rawCell 3; have c4 := (h).rawCell 4; have c5 := (h).rawCell 5; have c6 := (h).rawCell 6; simp at c0 c1 c2 c3 c4 c5 c6; have q0 := (h).rawFree 0; have q1 := (h).rawFree 1; have q2 := (h).rawFree 2; have q3 := (h).rawFree 3; have q4 := (h).rawFree 4; have q5 := (h).rawFree 5; have q6 := (h).rawFree 6; have d0 := (h.p3).rawCell 0; have d1 := (h.p3).rawCell 1; have d2 := (h.p3).rawCell 2; have d3 := (h.p3).rawCell 3; have d4 := (h.p3).rawCell 4; have d5 := (h.p3).rawCell 5; have d6 := (h.p3).rawCell 6; simp at d0 d1 d2 d3 d4 d5 d6; have r0 := (h.p3).rawFree 0; have r1 := (h.p3).rawFree 1; have r2 := (h.p3).rawFree 2; have r3 := (h.p3).rawFree 3; have r4 := (h.p3).rawFree 4; have r5 := (h.p3).rawFree 5; have r6 := (h.p3).rawFree 6; have HLR := Lib.hid hlr; clear hlr; replace H := Lib.hid h; clear h)
  have hz : St W0 _ _ (.raw rb #[.int .i64 p, .int .i64 e, .int .i64 t, .int .i64 s, .slice qt lr.length capt, .int .i64 u, .int .i64 st] 29 :: _) := St.sets7 _ _ _ _ _ _ _ (H.out.p3)
  refine bodyPost_ret (rc_cell_tmp rfl _ _ rb [.int .i64 p, .int .i64 e, .int .i64 t, .int .i64 s, .slice qt lr.length capt, .int .i64 u, .int .i64 st] _ rfl (rc_range hz) Tryd.underlying29 rfl (by kernel_rfl)) rfl ?_
  exact ⟨qt, capt, lr, rfl, HLR.out, hz.drop.drop.p1.p2⟩

end Go.Proofs.YtmpehoebgifmnaaDoor
/- What may be written. -/
namespace Go.Proofs.YtmpehoebgifmnaaDoor
open Go.RowKit

theorem Holds.cons2 {w : World} {a b : Res} {L : List Res} {S : Nat → Prop} (h : Holds (a :: L) w S) (hL : ∀ S1, a.holds w S1 → b.holds w S1) : Holds (b :: L) w S := by
  obtain ⟨S1, S2, h1, h2, h3, h4⟩ := h
  exact ⟨S1, S2, hL S1 h1, h2, h3, h4⟩

/-- Topics that may be written: which numbers, and which names, is of no matter. -/
def MutAt (w : World) (S : Nat → Prop) (b off : Nat) (v : Value) (i : Nat) : Prop :=
  (∃ s, w.cell? ⟨b, off + i * 2, none⟩ = some (.string s)) ∧ w.cell? ⟨b, off + i * 2 + 1, none⟩ = some v ∧ ∃ pb po n c, v = .slice (some ⟨pb, po, none⟩) n c ∧ 0 < n ∧ S pb ∧ ∃ z, w.cell? ⟨pb, po, none⟩ = some (.int .i64 z)
def mutG (q : Option Addr) (lr : List (TopS × Value)) : Gen where
  p w S := (∀ k, S k → Unf w k) ∧ (0 < lr.length → ∃ b off, q = some ⟨b, off, none⟩ ∧ S b ∧ ∀ i (h : i < lr.length), MutAt w S b off lr[i].2 i)
  keep w w' S h hs hk := by
    have hb : ∀ k, S k → w'.heap[k]? = w.heap[k]? := fun k hk2 => by
      obtain ⟨c, T, hc⟩ := h.1 k hk2
      exact hk k (heap_lt hc) hk2
    refine ⟨fun k hk2 => (h.1 k hk2).same (hb k hk2), fun h0 => ?_⟩
    obtain ⟨b, off, hq, hS, hi⟩ := h.2 h0
    refine ⟨b, off, hq, hS, fun i hl => ?_⟩
    obtain ⟨⟨s, h1⟩, h2, pb, po, n, c, h3, h4, h5, z, h6⟩ := hi i hl
    exact ⟨⟨s, (World.cell?_of_block (a := ⟨b, off + i * 2, none⟩) (hb b hS)).trans h1⟩, (World.cell?_of_block (a := ⟨b, off + i * 2 + 1, none⟩) (hb b hS)).trans h2, pb, po, n, c, h3, h4, h5, z, (World.cell?_of_block (a := ⟨pb, po, none⟩) (hb pb h5)).trans h6⟩
theorem St.mutOf {W0 w : World} {K : Know} {L : List Res} {q : Option Addr} {cap : Nat} {lr : List (TopS × Value)} (h : St W0 w K (.gen (ownK (Know.tops (.slice q lr.length cap) lr)) :: L)) (hp : ∀ x ∈ lr, 0 < x.1.parts.length) : St W0 w K (.gen (mutG q lr) :: L) := by
  refine h.map fun S hS => hS.cons2 fun S1 h1 => ?_
  obtain ⟨⟨g1, g2⟩, g3⟩ := h1
  refine ⟨g3, fun h0 => ?_⟩
  obtain ⟨q2, cap2, hv, hr⟩ := g1
  injection hv with hv1 hv2 hv3
  obtain ⟨b, off, hq, hb, _, hc⟩ := hr h0
  refine ⟨b, off, hv1.trans hq, hb, fun i hi => ?_⟩
  obtain ⟨cs, _, hR, hcs⟩ := hc i hi
  have hR : cs = [.string (bb lr[i].1.name), lr[i].2] := hR
  subst hR
  have hx := g2 lr[i] (List.getElem_mem hi)
  obtain ⟨p2, c2, hv2, hr2⟩ := hx
  have h9 := hp lr[i] (List.getElem_mem hi)
  obtain ⟨pb, po, hpq, hpb, _, hpc⟩ := hr2 h9
  obtain ⟨cs2, _, hR2, hcs2⟩ := hpc 0 h9
  have hR2 : cs2 = [.int .i64 lr[i].1.parts[0]] := hR2
  subst hR2
  refine ⟨⟨_, hcs 0 _ rfl⟩, by rw [Nat.add_assoc]; exact hcs 1 _ rfl, pb, po, _, _, by rw [hv2, hpq], h9, hpb, _, hcs2 0 _ rfl⟩

theorem unf_set {w : World} {k b j : Nat} {v : Value} (h : Unf w k) (hb : Unf w b) : Unf (w.setCell ⟨b, j, none⟩ v) k := by
  by_cases e : k = b
  · subst e
    obtain ⟨c, T, hc⟩ := h
    exact ⟨_, T, heap_setCell_self hc v⟩
  · exact h.same (RowKit.Below.heap_setCell _ _ _ _ e)
theorem MutAt.set {w : World} {S : Nat → Prop} {b off i : Nat} {v u old : Value} {a : Addr} (h : MutAt w S b off v i) (ho : w.cell? a = some old) (hk : (∃ z y, old = .int .i64 z ∧ u = .int .i64 y) ∨ ∃ s y, old = .string s ∧ u = .string y) (hv : ∃ q n c, v = .slice q n c) : MutAt (w.setCell a u) S b off v i := by
  obtain ⟨⟨s, h1⟩, h2, pb, po, n, c, h3, h4, h5, z, h6⟩ := h
  refine ⟨?_, ?_, pb, po, n, c, h3, h4, h5, ?_⟩
  · by_cases e : a = ⟨b, off + i * 2, none⟩
    · subst e
      rw [ho] at h1
      injection h1 with h1
      subst h1
      rcases hk with ⟨_, _, hk, _⟩ | ⟨_, y, _, hu⟩
      · cases hk
      · exact ⟨y, by rw [hu]; exact World.cell?_setCell_same _ _ _ ho⟩
    · exact ⟨s, (World.cell?_setCell_other _ _ _ _ e).trans h1⟩
  · by_cases e : a = ⟨b, off + i * 2 + 1, none⟩
    · subst e
      rw [ho] at h2
      injection h2 with h2
      obtain ⟨_, _, _, hv⟩ := hv
      subst hv
      rcases hk with ⟨_, _, hk, _⟩ | ⟨_, _, hk, _⟩ <;> rw [h2] at hk <;> cases hk
    · exact (World.cell?_setCell_other _ _ _ _ e).trans h2
  · by_cases e : a = ⟨pb, po, none⟩
    · subst e
      rw [ho] at h6
      injection h6 with h6
      subst h6
      rcases hk with ⟨_, y, _, hu⟩ | ⟨_, _, hk, _⟩
      · exact ⟨y, by rw [hu]; exact World.cell?_setCell_same _ _ _ ho⟩
      · cases hk
    · exact ⟨z, (World.cell?_setCell_other _ _ _ _ e).trans h6⟩
theorem St.mutSet {W0 w : World} {K : Know} {L : List Res} {q : Option Addr} {lr : List (TopS × Value)} (h : St W0 w K (.gen (mutG q lr) :: L)) (b j : Nat) (old u : Value) (hS : ∀ S1, (mutG q lr).p w S1 → S1 b) (ho : w.cell? ⟨b, j, none⟩ = some old) (hk : (∃ z y, old = .int .i64 z ∧ u = .int .i64 y) ∨ ∃ s y, old = .string s ∧ u = .string y) : St W0 (w.setCell ⟨b, j, none⟩ u) K (.gen (mutG q lr) :: L) := by
  refine h.step fun S1 h1 => ⟨S1, ?_, (Keeps.refl _ _).setCell _ _ (.inl (hS S1 h1)), fun k hk2 => ⟨.inl hk2, ?_⟩⟩
  · have hub := h1.1 b (hS S1 h1)
    refine ⟨fun k hk2 => unf_set (h1.1 k hk2) hub, fun h0 => ?_⟩
    obtain ⟨b2, off, hq, hSb, hi⟩ := h1.2 h0
    refine ⟨b2, off, hq, hSb, fun i hl => ?_⟩
    have hm := hi i hl
    obtain ⟨_, _, pb, po, n, c, h3, _⟩ := id hm
    exact hm.set ho hk ⟨_, _, _, h3⟩
  · obtain ⟨c, T, hc⟩ := unf_set (j := j) (v := u) (h1.1 k hk2) (h1.1 b (hS S1 h1))
    exact heap_lt hc
theorem St.mutGet {W0 w : World} {K : Know} {L : List Res} {q : Option Addr} {lr : List (TopS × Value)} (h : St W0 w K (.gen (mutG q lr) :: L)) (i : Nat) (hi : i < lr.length) :
    ∃ b off s pb po n c z, q = some ⟨b, off, none⟩ ∧ lr[i].2 = .slice (some ⟨pb, po, none⟩) n c ∧ 0 < n ∧ w.cell? ⟨b, off + i * 2, none⟩ = some (.string s) ∧ w.frozen? ⟨b, off + i * 2, none⟩ = false ∧ w.cell? ⟨b, off + i * 2 + 1, none⟩ = some (.slice (some ⟨pb, po, none⟩) n c) ∧ w.cell? ⟨pb, po, none⟩ = some (.int .i64 z) ∧ w.frozen? ⟨pb, po, none⟩ = false ∧
      (∀ y, St W0 (w.setCell ⟨pb, po, none⟩ (.int .i64 y)) K (.gen (mutG q lr) :: L)) ∧ (∀ y, St W0 (w.setCell ⟨b, off + i * 2, none⟩ (.string y)) K (.gen (mutG q lr) :: L)) := by
  obtain ⟨_, S, F, ⟨S1, S2, h1, _⟩, _⟩ := id h
  obtain ⟨hu, hx⟩ := h1
  obtain ⟨b, off, hq, hSb, hi2⟩ := hx (by omega)
  obtain ⟨⟨s, g1⟩, g2, pb, po, n, c, g3, g4, g5, z, g6⟩ := hi2 i hi
  obtain ⟨cb, Tb, hb⟩ := hu b hSb
  obtain ⟨cp, Tp, hpb⟩ := hu pb g5
  refine ⟨b, off, s, pb, po, n, c, z, hq, g3, g4, g1, free_at hb _, by rw [← g3]; exact g2, g6, free_at hpb _, fun y => h.mutSet pb po _ _ (fun S9 h9 => ?_) g6 (.inl ⟨z, y, rfl, rfl⟩), fun y => h.mutSet b _ _ _ (fun S9 h9 => ?_) g1 (.inr ⟨s, y, rfl, rfl⟩)⟩
  · obtain ⟨b3, off3, hq3, _, hi3⟩ := h9.2 (by omega)
    obtain ⟨_, _, pb3, po3, n3, c3, e3, _, e5, _⟩ := hi3 i hi
    rw [g3] at e3
    injection e3 with e3
    injection e3 with e3
    injection e3 with e3
    subst e3
    exact e5
  · obtain ⟨b3, off3, hq3, e5, _⟩ := h9.2 (by omega)
    rw [hq] at hq3
    injection hq3 with hq3
    injection hq3 with hq3
    subst hq3
    exact e5

end Go.Proofs.YtmpehoebgifmnaaDoor
/- Lists of cells. -/
namespace Go.Proofs.YtmpehoebgifmnaaDoor
open Go.RowKit

theorem cells_u8 : Tryd.prog.cellsOf 5 = 1 := by kernel_rfl
theorem cells_int : Tryd.prog.cellsOf 3 = 1 := by kernel_rfl
theorem cells_str : Tryd.prog.cellsOf 9 = 1 := by kernel_rfl
theorem len2 {α : Type} {l : List α} (h : l.length = 2) : ∃ a b, l = [a, b] := by
  match l, h with
  | [a, b], _ => exact ⟨a, b, rfl⟩
theorem len3 {α : Type} {l : List α} (h : l.length = 3) : ∃ a b c, l = [a, b, c] := by
  match l, h with
  | [a, b, c], _ => exact ⟨a, b, c, rfl⟩
theorem len4 {α : Type} {l : List α} (h : l.length = 4) : ∃ a b c d, l = [a, b, c, d] := by
  match l, h with
  | [a, b, c, d], _ => exact ⟨a, b, c, d, rfl⟩

end Go.Proofs.YtmpehoebgifmnaaDoor
/- What arguments are made of, with the reach of each part. -/
namespace Go.Proofs.YtmpehoebgifmnaaDoor
open Go.RowKit
open Go.ChangeShapes Go.WideShapes Go.ChangeAt Go.Deep

/-- No part is beyond all reach. -/
def Light {H : Type} (t : TypeId) (d : DataW H) : Prop := ∀ k ∈ d.weights Tryd.prog t, k ≤ reachBytes
theorem reach_eq : reachBytes = 140737488351232 := rfl

section
variable {H : Type} {enc : TypeId × Value → H} {w : World} {spare : Nat → Bool} {held : Bool}

theorem light_arg {ts : List TypeId} {ds : List (DataW H)} (h : (DataW.weightsEach Tryd.prog ts ds).all (· ≤ reachBytes) = true) {j : Nat} {t : TypeId} {d : DataW H} (ht : ts[j]? = some t) (hd : ds[j]? = some d) : Light t d := by
  intro k hk
  have := List.all_eq_true.1 h k (DataW.weights_mem_each ht hd k hk)
  simpa using this

theorem opens_field {t : TypeId} {fs : Array Field} {n N : Nat} {cs : List Value} {y : DataW H × List MemPlace} (ht : Tryd.prog.underlying t = some (.struct fs)) (h : DataW.trod enc Tryd.prog w 0 spare held n t cs = some y) (hl : Light t y.1) (hN : ∀ x ∈ y.2, x.block < N) :
    cs.length = Tryd.prog.cellsOf t ∧ ∃ m, ∀ (i : Nat) (f : Field), fs[i]? = some f → ∃ z, DataW.trod enc Tryd.prog w 0 spare held m f.type ((cs.drop f.offset).take (Tryd.prog.cellsOf f.type)) = some z ∧ Light f.type z.1 ∧ ∀ x ∈ z.2, x.block < N := by
  obtain ⟨xs, m, _, rfl, hc, hxl, hg⟩ := DataW.trod_struct ht h
  refine ⟨hc, m, fun i f hf => ?_⟩
  have hi : i < fs.size := (Array.getElem?_eq_some_iff.1 hf).1
  have hx : xs[i]? = some (xs[i]'(by omega)) := List.getElem?_eq_getElem (by omega)
  refine ⟨_, (hg i f hf).trans hx, ?_, fun x hxx => hN x (List.mem_flatMap.2 ⟨_, List.getElem_mem _, hxx⟩)⟩
  intro k hk
  refine hl k ?_
  simp only [DataW.weights, ht]
  exact DataW.weights_mem_each (j := i) (by rw [List.getElem?_map, Array.getElem?_toList, hf]; rfl) (by rw [List.getElem?_map, hx]; rfl) k hk

theorem opens_str {t : TypeId} {n : Nat} {cs : List Value} {y : DataW H × List MemPlace} (ht : Tryd.prog.underlying t = some .string) (h : DataW.trod enc Tryd.prog w 0 spare held n t cs = some y) (hl : Light t y.1) : ∃ s : Bs, cs = [.string (bb s)] ∧ s.length ≤ 140737488351232 := by
  obtain ⟨s, e, e2, q⟩ := DataW.trod_string ht h
  refine ⟨s.data.toList, e, ?_⟩
  subst e2
  have := hl s.data.toList.length (by simp [DataW.weights])
  rw [reach_eq] at this
  exact this
theorem opens_i64 {t : TypeId} {n : Nat} {cs : List Value} {y : DataW H × List MemPlace} (ht : Tryd.prog.underlying t = some (.int .i64)) (h : DataW.trod enc Tryd.prog w 0 spare held n t cs = some y) : ∃ x : Int, cs = [.int .i64 x] ∧ -9223372036854775808 ≤ x ∧ x < 9223372036854775808 := by
  obtain ⟨x, e, _, q⟩ := DataW.trod_int ht h
  exact ⟨x, e, wf_i64 q⟩
theorem opens_bool {t : TypeId} {n : Nat} {cs : List Value} {y : DataW H × List MemPlace} (ht : Tryd.prog.underlying t = some .bool) (h : DataW.trod enc Tryd.prog w 0 spare held n t cs = some y) : ∃ x : Bool, cs = [.bool x] := by
  obtain ⟨x, e, _⟩ := DataW.trod_bool ht h
  exact ⟨x, e⟩

theorem weightsAll_mem' {P : Program} {e : TypeId} : ∀ {l : List (DataW H)} {d : DataW H}, d ∈ l → ∀ k ∈ d.weights P e, k ∈ DataW.weightsAll P e l
  | a :: l, d, hd, k, hk => by
    simp only [DataW.weightsAll, List.mem_append]
    rcases List.mem_cons.1 hd with rfl | hd
    · exact .inl hk
    · exact .inr (weightsAll_mem' hd k hk)

theorem opens_rows {α : Type} {R : World → List Value → α → Prop} {t e : TypeId} {sz N : Nat} (ht : Tryd.prog.underlying t = some (.slice e)) (hC : Tryd.prog.cellsOf e = sz) (hsz : 0 < sz)
    (hR : ∀ n cs y, DataW.trod enc Tryd.prog w 0 spare held n e cs = some y → Light e y.1 → (∀ x ∈ y.2, x.block < N) → ∃ x, R w cs x)
    {fuel : Nat} {cs : List Value} {x : DataW H × List MemPlace} (h : DataW.trod enc Tryd.prog w 0 spare held fuel t cs = some x) (hl : Light t x.1) (hlt : ∀ y ∈ x.2, y.block < N) (hN : N ≤ w.heap.size) :
    ∃ v l, cs = [v] ∧ RowsOf R (· < N) w v sz l ∧ l.length * Tryd.prog.bytesOf e ≤ 140737488351232 ∧ l.length ≤ maxLen := by
  rcases open_slice ht h with ⟨rfl, rfl⟩ | ⟨a, len, cap, m, n, D, Pl, rfl, hb, hlc, hm, hmm, hx, hi⟩
  · exact ⟨_, [], rfl, ⟨none, 0, rfl, fun h => absurd h (by simp)⟩, by simp, by simp⟩
  · have hlm : len ≤ m := by rw [hmm]; split <;> omega
    have hp2 : x.2 = MemPlace.row a (m * Tryd.prog.cellsOf e) ++ (List.range m).flatMap Pl := by rw [hx]
    have hx1 : x.1 = .slice ((List.range len).map D) ((List.range (m - len)).map fun j => D (len + j)) := by rw [hx]
    have hsum : len * Tryd.prog.bytesOf e ≤ 140737488351232 := by
      have := hl (((List.range len).map D).length * Tryd.prog.bytesOf e + ((List.range (m - len)).map fun j => D (len + j)).length * Tryd.prog.bytesOf e) (by rw [hx1]; simp [DataW.weights, ht, Nat.add_mul])
      rw [reach_eq] at this
      simp only [List.length_map, List.length_range] at this
      omega
    have hle : ∀ i, i < len → Light e (D i) := by
      intro i hil k hk
      refine hl k ?_
      rw [hx1]
      simp only [DataW.weights, ht, List.mem_cons, List.mem_append]
      exact .inr (.inl (weightsAll_mem' (List.mem_map.2 ⟨i, List.mem_range.2 hil, rfl⟩) k hk))
    have key : ∀ i, i < len → ∃ y : α, ∃ cs', cs'.length = sz ∧ R w cs' y ∧ (∀ f u, cs'[f]? = some u → w.cell? ((a.add (i * sz)).add f) = some u) := by
      intro i hil
      obtain ⟨cs', hc, htr⟩ := hi i (by omega)
      obtain ⟨_, hcl, hat⟩ := World.cells?_some hc
      obtain ⟨y, hy⟩ := hR n cs' _ htr (hle i hil) (fun z hz => hlt z (by rw [hp2, List.mem_append]; exact .inr (List.mem_flatMap.2 ⟨i, by simp; omega, hz⟩)))
      rw [hC] at hcl hat
      refine ⟨y, cs', hcl, hy, fun f u hu => ?_⟩
      have hf : f < sz := by rw [← hcl]; exact (List.getElem?_eq_some_iff.1 hu).1
      rw [hat f hf, hu]
    obtain ⟨l, hll, hq⟩ := list_of len _ key
    refine ⟨_, l, rfl, ⟨some a, cap, by rw [hll], fun h0 => ?_⟩, by rw [hll]; exact hsum, by omega⟩
    obtain ⟨cs0, h1, h2, h3⟩ := hq 0 h0
    have hc0 : w.cell? a = some (cs0[0]'(by omega)) := by
      have := h3 0 _ (List.getElem?_eq_getElem (by omega))
      simpa [Addr.add] using this
    have hsp : a.spot = none := by
      cases hs : a.spot with
      | none => rfl
      | some s =>
        unfold World.cell? at hc0
        split at hc0 <;> simp_all
    obtain ⟨ab, ao, asp⟩ := a
    simp only at hsp
    subst hsp
    have hlt0 : ab < N := hlt (.cell ab ao) (by
      rw [hp2, List.mem_append]
      left
      simp only [MemPlace.row, List.mem_map, List.mem_range]
      exact ⟨0, by rw [hC]; exact Nat.mul_pos (by omega) hsz, by simp⟩)
    refine ⟨ab, ao, rfl, hlt0, Nat.lt_of_lt_of_le hlt0 hN, fun i hi => ?_⟩
    obtain ⟨cs', g1, g2, g3⟩ := hq i hi
    refine ⟨cs', g1, g2, fun f u hu => ?_⟩
    have := g3 f u hu
    have e1 : ∀ (o q : Nat), (⟨ab, o, none⟩ : Addr).add q = ⟨ab, o + q, none⟩ := by intro o q; unfold Addr.add; split <;> simp_all
    rw [e1, e1, Nat.add_assoc] at this
    exact this
end

/-- Of a row's things, what is said of each, apart. -/
theorem RowsOf.part {α : Type} {R : World → List Value → α → Prop} {Q : α → Prop} {D : Nat → Prop} {w : World} {v : Value} {sz : Nat} {l : List α} (h : RowsOf (fun w cs x => R w cs x ∧ Q x) D w v sz l) : RowsOf R D w v sz l ∧ ∀ x ∈ l, Q x := by
  refine ⟨h.mono (fun _ _ h => h) (fun _ _ h => h.1), fun x hx => ?_⟩
  obtain ⟨i, hi, rfl⟩ := List.mem_iff_getElem.1 hx
  obtain ⟨p, cap, rfl, h⟩ := h
  obtain ⟨b, off, rfl, _, _, hc⟩ := h (by omega)
  obtain ⟨cs, _, h2, _⟩ := hc i hi
  exact h2.2

end Go.Proofs.YtmpehoebgifmnaaDoor
/- The elements of arguments, opened, with their reach: numbers, and Blobs. -/
namespace Go.Proofs.YtmpehoebgifmnaaDoor
open Go.RowKit
open Go.ChangeShapes Go.WideShapes Go.ChangeAt Go.Deep

theorem cells_blob : Tryd.prog.cellsOf 34 = 2 := by kernel_rfl
theorem cells_bool : Tryd.prog.cellsOf 4 = 1 := by kernel_rfl
section
variable {H : Type} {enc : TypeId × Value → H} {w : World} {spare : Nat → Bool} {held : Bool}
set_option maxRecDepth 100000 in
theorem blob_opens {N : Nat} : ∀ n cs y, DataW.trod enc Tryd.prog w 0 spare held n 34 cs = some y → Light 34 y.1 → (∀ x ∈ y.2, x.block < N) → ∃ x : BlobS, cs = [.bool x.null, .string (bb x.data)] ∧ x.data.length ≤ 140737488351232 := by
  intro n cs y h hl hN
  obtain ⟨hc, m, hf⟩ := opens_field Tryd.underlying34 h hl hN
  rw [cells_blob] at hc
  obtain ⟨a, b, rfl⟩ := len2 hc
  obtain ⟨z0, g0, l0, _⟩ := hf 0 _ rfl
  obtain ⟨z1, g1, l1, _⟩ := hf 1 _ rfl
  have g0 : DataW.trod enc Tryd.prog w 0 spare held m 4 (List.take (Tryd.prog.cellsOf 4) (List.drop 0 [a, b])) = some z0 := g0
  have g1 : DataW.trod enc Tryd.prog w 0 spare held m 9 (List.take (Tryd.prog.cellsOf 9) (List.drop 1 [a, b])) = some z1 := g1
  rw [cells_bool] at g0
  rw [cells_str] at g1
  obtain ⟨x, e0⟩ := opens_bool Tryd.underlying4 g0
  obtain ⟨s, e1, hs⟩ := opens_str Tryd.underlying9 g1 l1
  simp at e0 e1
  subst e0 e1
  exact ⟨⟨x, s⟩, rfl, hs⟩
theorem rb_opens {N : Nat} : ∀ n cs y, DataW.trod enc Tryd.prog w 0 spare held n 34 cs = some y → Light 34 y.1 → (∀ x ∈ y.2, x.block < N) → ∃ x : BlobS, RB cs x ∧ x.data.length ≤ 140737488351232 := blob_opens
theorem ri_opens {N : Nat} : ∀ n cs y, DataW.trod enc Tryd.prog w 0 spare held n 3 cs = some y → Light 3 y.1 → (∀ x ∈ y.2, x.block < N) → ∃ x : Int, RI cs x ∧ (-9223372036854775808 ≤ x ∧ x < 9223372036854775808) := fun n cs y h _ _ => opens_i64 Tryd.underlying3 h
end
end Go.Proofs.YtmpehoebgifmnaaDoor
/- The elements of arguments, opened, with their reach: topics, and values. -/
namespace Go.Proofs.YtmpehoebgifmnaaDoor
open Go.RowKit

open Go.ChangeShapes Go.WideShapes Go.ChangeAt Go.Deep

theorem cells_tops : Tryd.prog.cellsOf 27 = 1 := by kernel_rfl
theorem cells_top : Tryd.prog.cellsOf 60 = 2 := by kernel_rfl
theorem cells_ints : Tryd.prog.cellsOf 58 = 1 := by kernel_rfl
theorem cells_val : Tryd.prog.cellsOf 29 = 7 := by kernel_rfl
theorem bytes_int : Tryd.prog.bytesOf 3 = 8 := by kernel_rfl
/-- What is known of a topic that came in. -/
def QTop (W : World) (x : TopS × Value) : Prop := RowsOf (fun _ cs x => RI cs x) (· < W.heap.size) W x.2 1 x.1.parts ∧ x.1.name.length ≤ 140737488351232 ∧ x.1.parts.length ≤ 17592186043904 ∧ ∀ n ∈ x.1.parts, -9223372036854775808 ≤ n ∧ n < 9223372036854775808
/-- Topics that came in. -/
def FewI (l : List (TopS × Value)) : Prop := l.length ≤ 140737488351232 ∧ ∀ x ∈ l, x.1.name.length ≤ 140737488351232 ∧ x.1.parts.length ≤ 17592186043904 ∧ ∀ n ∈ x.1.parts, -9223372036854775808 ≤ n ∧ n < 9223372036854775808
theorem bytes_top : Tryd.prog.bytesOf 60 = 40 := by kernel_rfl
theorem QTop.few {W : World} {l : List (TopS × Value)} (hn : l.length * Tryd.prog.bytesOf 60 ≤ 140737488351232) (h : ∀ x ∈ l, QTop W x) : FewI l := ⟨by rw [bytes_top] at hn; omega, fun x hx => (h x hx).2⟩
theorem QTop.start {W : World} {v : Value} {l : List (TopS × Value)} (hr : RowsOf (fun _ cs x => RTop cs x) (· < W.heap.size) W v 2 l) (h : ∀ x ∈ l, QTop W x) : St W W (Know.tops v l) [] := St.start ⟨hr, fun x hx => (h x hx).1⟩
section
variable {H : Type} {enc : TypeId × Value → H} {w : World} {spare : Nat → Bool} {held : Bool}
set_option maxHeartbeats 1000000 in
set_option maxRecDepth 100000 in
theorem rtop_opens : ∀ n cs y, DataW.trod enc Tryd.prog w 0 spare held n 60 cs = some y → Light 60 y.1 → (∀ x ∈ y.2, x.block < w.heap.size) → ∃ x : TopS × Value, RTop cs x ∧ QTop w x := by
  intro n cs y hf hl hN
  have hNw : w.heap.size ≤ w.heap.size := Nat.le_refl _
  obtain ⟨hc, m, hg⟩ := opens_field Tryd.underlying60 hf hl hN
  rw [cells_top] at hc
  match cs, hc with
  | [c0, c1], _ =>
    obtain ⟨z0, g0, l0, n0⟩ := hg 0 _ rfl
    have g0 : DataW.trod enc Tryd.prog w 0 spare held m 9 (List.take (Tryd.prog.cellsOf 9) (List.drop 0 [c0, c1])) = some z0 := g0
    rw [cells_str] at g0
    obtain ⟨z1, g1, l1, n1⟩ := hg 1 _ rfl
    have g1 : DataW.trod enc Tryd.prog w 0 spare held m 58 (List.take (Tryd.prog.cellsOf 58) (List.drop 1 [c0, c1])) = some z1 := g1
    rw [cells_ints] at g1
    obtain ⟨x0, e0, s0⟩ := opens_str Tryd.underlying9 g0 l0
    obtain ⟨v1, x1, e1, hr, hm, _⟩ := opens_rows (R := fun w cs x => (fun _ cs x => RI cs x) w cs x ∧ (fun x : Int => -9223372036854775808 ≤ x ∧ x < 9223372036854775808) x) (N := w.heap.size) Tryd.underlying58 cells_int (by decide) ri_opens g1 l1 n1 hNw
    obtain ⟨hr1, hq⟩ := hr.part
    simp at e0 e1
    subst e0 e1
    rw [bytes_int] at hm
    have hm2 : x1.length ≤ 17592186043904 := by omega
    exact ⟨(⟨x0, x1⟩, _), rfl, hr1, s0, hm2, hq⟩
set_option maxHeartbeats 2000000 in
set_option maxRecDepth 100000 in
theorem val_opens : ∀ n cs y, DataW.trod enc Tryd.prog w 0 spare held n 29 cs = some y → Light 29 y.1 → (∀ x ∈ y.2, x.block < w.heap.size) →
    ∃ (p e t s u st : Int) (l : List (TopS × Value)) (rv : Value), cs = [.int .i64 p, .int .i64 e, .int .i64 t, .int .i64 s, rv, .int .i64 u, .int .i64 st] ∧
      ValS.R ⟨p, e, t, s, l.map (·.1), u, st⟩ ∧ RowsOf (fun _ cs x => RTop cs x) (· < w.heap.size) w rv 2 l ∧ l.length * Tryd.prog.bytesOf 60 ≤ 140737488351232 ∧ (∀ x ∈ l, QTop w x) := by
  intro n cs y hf hl hN
  obtain ⟨hc, m, hg⟩ := opens_field Tryd.underlying29 hf hl hN
  rw [cells_val] at hc
  match cs, hc with
  | [c0, c1, c2, c3, c4, c5, c6], _ =>
    obtain ⟨z0, g0, l0, n0⟩ := hg 0 _ rfl
    have g0 : DataW.trod enc Tryd.prog w 0 spare held m 3 (List.take (Tryd.prog.cellsOf 3) (List.drop 0 [c0, c1, c2, c3, c4, c5, c6])) = some z0 := g0
    rw [cells_int] at g0
    obtain ⟨z1, g1, l1, n1⟩ := hg 1 _ rfl
    have g1 : DataW.trod enc Tryd.prog w 0 spare held m 3 (List.take (Tryd.prog.cellsOf 3) (List.drop 1 [c0, c1, c2, c3, c4, c5, c6])) = some z1 := g1
    rw [cells_int] at g1
    obtain ⟨z2, g2, l2, n2⟩ := hg 2 _ rfl
    have g2 : DataW.trod enc Tryd.prog w 0 spare held m 3 (List.take (Tryd.prog.cellsOf 3) (List.drop 2 [c0, c1, c2, c3, c4, c5, c6])) = some z2 := g2
    rw [cells_int] at g2
    obtain ⟨z3, g3, l3, n3⟩ := hg 3 _ rfl
    have g3 : DataW.trod enc Tryd.prog w 0 spare held m 3 (List.take (Tryd.prog.cellsOf 3) (List.drop 3 [c0, c1, c2, c3, c4, c5, c6])) = some z3 := g3
    rw [cells_int] at g3
    obtain ⟨z4, g4, l4, n4⟩ := hg 4 _ rfl
    have g4 : DataW.trod enc Tryd.prog w 0 spare held m 27 (List.take (Tryd.prog.cellsOf 27) (List.drop 4 [c0, c1, c2, c3, c4, c5, c6])) = some z4 := g4
    rw [cells_tops] at g4
    obtain ⟨z5, g5, l5, n5⟩ := hg 5 _ rfl
    have g5 : DataW.trod enc Tryd.prog w 0 spare held m 3 (List.take (Tryd.prog.cellsOf 3) (List.drop 5 [c0, c1, c2, c3, c4, c5, c6])) = some z5 := g5
    rw [cells_int] at g5
    obtain ⟨z6, g6, l6, n6⟩ := hg 6 _ rfl
    have g6 : DataW.trod enc Tryd.prog w 0 spare held m 3 (List.take (Tryd.prog.cellsOf 3) (List.drop 6 [c0, c1, c2, c3, c4, c5, c6])) = some z6 := g6
    rw [cells_int] at g6
    obtain ⟨x0, e0, r0⟩ := opens_i64 Tryd.underlying3 g0
    obtain ⟨x1, e1, r1⟩ := opens_i64 Tryd.underlying3 g1
    obtain ⟨x2, e2, r2⟩ := opens_i64 Tryd.underlying3 g2
    obtain ⟨x3, e3, r3⟩ := opens_i64 Tryd.underlying3 g3
    obtain ⟨x5, e5, r5⟩ := opens_i64 Tryd.underlying3 g5
    obtain ⟨x6, e6, r6⟩ := opens_i64 Tryd.underlying3 g6
    obtain ⟨v4, x4, e4, hrq, hm4, _⟩ := opens_rows (R := fun w' cs x => (fun _ cs x => RTop cs x) w' cs x ∧ QTop w x) (N := w.heap.size) Tryd.underlying27 cells_top (by decide) rtop_opens g4 l4 n4 (Nat.le_refl _)
    obtain ⟨hr, hq⟩ := hrq.part
    simp at e0 e1 e2 e3 e4 e5 e6
    subst e0 e1 e2 e3 e4 e5 e6
    exact ⟨x0, x1, x2, x3, x5, x6, x4, _, rfl, ⟨r0, r1, r2, r3, r5, r6⟩, hr, hm4, hq⟩
set_option maxHeartbeats 2000000 in
set_option maxRecDepth 100000 in
theorem val_open {r : Reach} {b0 : Nat} {v : Value} {d : DataW H} {p : List MemPlace} (hv : Value.okWide Tryd.prog w r b0 29 v) (h : DataW.Trod enc Tryd.prog w 0 spare held 29 v d p) (hl : Light 29 d) (hN : ∀ x ∈ p, x.block < w.heap.size) :
    ∃ (p e t s u st : Int) (l : List (TopS × Value)) (q : Option Addr) (cap : Nat), v = .agg #[.int .i64 p, .int .i64 e, .int .i64 t, .int .i64 s, .slice q l.length cap, .int .i64 u, .int .i64 st] ∧
      ValS.R ⟨p, e, t, s, l.map (·.1), u, st⟩ ∧ FewI l ∧ St w w (Know.tops (.slice q l.length cap) l) [] := by
  obtain ⟨cs, rfl, hsz⟩ := okWide_struct Tryd.underlying29 hv
  obtain ⟨fuel, hf⟩ := h
  obtain ⟨p, e, t, s, u, st, l, rv, ec, hR, hr, hm, hq⟩ := val_opens _ _ _ hf hl hN
  obtain ⟨c⟩ := cs
  have ec : c = _ := ec
  subst ec
  obtain ⟨q, cap, hrv⟩ : ∃ q cap, rv = .slice q l.length cap := by obtain ⟨p, cap, hv, _⟩ := hr; exact ⟨p, cap, hv⟩
  subst hrv
  exact ⟨_, _, _, _, _, _, l, q, cap, rfl, hR, QTop.few hm hq, QTop.start hr hq⟩
end

end Go.Proofs.YtmpehoebgifmnaaDoor
/- Entries of any name and value: where there are none. -/
namespace Go.Proofs.YtmpehoebgifmnaaDoor
open Go.RowKit

end Go.Proofs.YtmpehoebgifmnaaDoor
/- What a journal says of one entry (pure). -/
namespace Go.Proofs.YtmpehoebgifmnaaDoor
open Go.RowKit

theorem jp_apply (jb mb : Nat) (key id S : Bs) (hkr : keyRd key = (id, 0)) (p e t s u st : Int) (tl : List TopS) (hv : valDec S = (⟨p, e, t, s, tl, u, st⟩, 0)) (hk1 : key.length ≤ 40100) (hid : id.length ≤ 1000000) (hd : S.length ≤ 1000000) {W0 w : World} {K : Know} {L : List Res} (h : St W0 w K (.raw jb #[.map (some mb), .int .i64 0] 57 :: .gen (jmap mb 0 (fun _ => none)) :: L)) :
    Calls Tryd.prog 9 #[.pointer (some ⟨jb, 0, none⟩), .agg #[.string (bb key), .bool false, .string (bb S)]] w fun en w' => en = .returned (.int .i64 0) ∧ St W0 w' K (.raw jb #[.map (some mb), .int .i64 1] 57 :: .gen (jmap mb 1 (jset (fun _ => none) id (some S))) :: L) :=
  jr_apply_put jb mb 0 0 _ key id S p e t s u st tl hkr hv hk1 hid hd (by decide) (by decide) (by decide) h
theorem jset_self (id S : Bs) : (jset (fun _ => none) id (some S)) id = some S := by unfold jset; rw [if_pos rfl]
theorem ids_one {id S : Bs} {ids : List Bs} (h : IdsOf (jset (fun _ => none) id (some S)) ids) : ((ids.length : Int) == 1) = true := by
  have hm : ∀ x, x ∈ ids ↔ x = id := fun x => by
    rw [h.mem]
    unfold jset
    by_cases e : x = id
    · rw [if_pos e]; exact ⟨fun _ => e, fun _ => rfl⟩
    · rw [if_neg e]; exact ⟨fun h2 => (by cases h2), fun h2 => absurd h2 e⟩
  have hn := h.nodup
  cases ids with
  | nil => exact absurd ((hm id).2 rfl) (by simp)
  | cons a r =>
    cases r with
    | nil => rfl
    | cons b c =>
      have ha := (hm a).1 (by simp)
      have hb := (hm b).1 (by simp)
      rw [ha, hb] at hn
      simp at hn
theorem key_lenE {id key : Bs} (h : keyEnc id = (key, 0)) (hl : id.length ≤ 40000) : keyRd key = (id, 0) ∧ key.length ≤ 40100 := by
  unfold keyEnc at h
  cases hr : keyRight id with
  | false => rw [hr] at h; injection h with _ h2; cases h2
  | true =>
    rw [hr] at h
    injection h with h1 _
    subst h1
    refine ⟨keyRd_back id hr, ?_⟩
    unfold keyBytes
    simp only [List.length_append, beBytes_length]
    omega
theorem parts_pos {tl : List TopS} {lr : List (TopS × Value)} (h : tRise tl = true) (hl : lr.map (·.1) = tl) : ∀ x ∈ lr, 0 < x.1.parts.length := by
  intro x hx
  unfold tRise at h
  rw [Bool.and_eq_true] at h
  have h2 := List.all_eq_true.1 h.1 x.1 (by rw [← hl]; exact List.mem_map_of_mem hx)
  unfold tOk pRise at h2
  simp only [Bool.and_eq_true] at h2
  have h3 := h2.2.1
  cases hp : x.1.parts with
  | nil => rw [hp] at h3; cases h3
  | cons a b => simp

end Go.Proofs.YtmpehoebgifmnaaDoor
