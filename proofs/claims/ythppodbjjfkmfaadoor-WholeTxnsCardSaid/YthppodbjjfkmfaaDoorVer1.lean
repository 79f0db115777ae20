/- The table of requests, and what is found in it. -/
import Derived.Test.YthppodbjjfkmfaaDoorSep
import Derived.Deep.MidRow
namespace Go.Proofs.YthppodbjjfkmfaaDoor
open Go.RowKit

def reqCells : List Value := [.int .i64 0, .string ⟨#[112, 114, 111, 100, 117, 99, 101]⟩, .int .i64 3, .int .i64 4, .int .i64 22, .string ⟨#[98, 101, 103, 105, 110]⟩, .int .i64 0, .int .i64 1, .int .i64 24, .string ⟨#[97, 100, 100]⟩, .int .i64 0, .int .i64 0, .int .i64 26, .string ⟨#[101, 110, 100]⟩, .int .i64 0, .int .i64 0, .int .i64 27, .string ⟨#[109, 97, 114, 107]⟩, .int .i64 0, .int .i64 1]
/-- The table of requests, as it lies in memory. -/
def Know.reqs : Know := ⟨fun w F => F 0 ∧ 0 < w.heap.size ∧ ∀ j u, reqCells[j]? = some u → w.cell? ⟨0, j, Option.none⟩ = some u,
  fun _ _ _ h hs hk => ⟨h.1, Nat.lt_of_lt_of_le h.2.1 hs, fun j u hu => (World.cell?_of_block (a := ⟨0, j, Option.none⟩) (hk 0 h.2.1 h.1)).trans (h.2.2 j u hu)⟩,
  fun _ _ _ h hs => ⟨hs _ h.1, h.2.1, h.2.2⟩⟩
theorem req_range {W0 w : World} {K : Know} {L : List Res} (hk : K.has Know.reqs) (h : St W0 w K L) : w.rangeAt 0 0 reqCells := by
  obtain ⟨F, hF, _⟩ := h.get
  have hc := (hk _ _ hF).2.2
  intro j v hv
  rw [Nat.zero_add]
  exact hc j v hv
theorem results_cell_tmp {P : Program} {fn : Func} {p t : Tmp} {ty : TypeId} (h : fn.results = #[.cell p ty, .tmp t]) (tmps : Array Value) (w : World) (b : Nat) (cs : List Value) (d : TypeDesc)
    (hp : tmps.getD p undef = .pointer (some ⟨b, 0, Option.none⟩)) (hc : w.rangeAt b 0 cs) (hu : P.underlying ty = some d) (hd : d.isRow = true) (hi : (P.info? ty).map (·.size) = some cs.length) :
    (results fn tmps).run P w = .ok (.tuple #[.agg cs.toArray, tmps.getD t undef]) w := by
  have hp' : tmps[p]?.getD undef = .pointer (some ⟨b, 0, Option.none⟩) := by simpa using hp
  simp [results, h, hp', asAddr, run_loadVar_mid w b 0 ty cs d hc hu hd hi]
theorem St.range {W0 w : World} {K : Know} {L : List Res} {b : Nat} {c : List Value} {T : TypeId} (h : St W0 w K (.raw b c.toArray T :: L)) : w.rangeAt b 0 c := by
  intro j v hv
  rw [Nat.zero_add, h.rawCell j]
  simpa using hv
/-- A request of the table: its number, its name, its versions, and that there is one. -/
def reqOf (kind : Int) : Int × Bs × Int × Int × Bool := if kind = 0 then (0, [112, 114, 111, 100, 117, 99, 101], 3, 4, true) else if kind = 22 then (22, [98, 101, 103, 105, 110], 0, 1, true) else if kind = 24 then (24, [97, 100, 100], 0, 0, true) else if kind = 26 then (26, [101, 110, 100], 0, 0, true) else if kind = 27 then (27, [109, 97, 114, 107], 0, 1, true) else (0, [], 0, 0, false)
def kindAt : List Int := [0, 22, 24, 26, 27]
theorem reqOf_none (kind : Int) (h : ∀ k ∈ kindAt, kind ≠ k) : reqOf kind = (0, [], 0, 0, false) := by
  unfold reqOf
  have h := fun k hk => h k hk
  simp only [kindAt, List.mem_cons, List.not_mem_nil, or_false, forall_eq_or_imp, forall_eq] at h
  obtain ⟨h0, h1, h2, h3, h4⟩ := h
  rw [if_neg h0, if_neg h1, if_neg h2, if_neg h3, if_neg h4]
theorem idx0 (w : World) : (Instr.index 88 (.agg reqCells.toArray) (.int .i64 0)).run Tryd.prog w = .ok (.agg #[.int .i64 0, .string ⟨#[112, 114, 111, 100, 117, 99, 101]⟩, .int .i64 3, .int .i64 4]) w := by kernel_rfl
theorem idx1 (w : World) : (Instr.index 88 (.agg reqCells.toArray) (.int .i64 1)).run Tryd.prog w = .ok (.agg #[.int .i64 22, .string ⟨#[98, 101, 103, 105, 110]⟩, .int .i64 0, .int .i64 1]) w := by kernel_rfl
theorem idx2 (w : World) : (Instr.index 88 (.agg reqCells.toArray) (.int .i64 2)).run Tryd.prog w = .ok (.agg #[.int .i64 24, .string ⟨#[97, 100, 100]⟩, .int .i64 0, .int .i64 0]) w := by kernel_rfl
theorem idx3 (w : World) : (Instr.index 88 (.agg reqCells.toArray) (.int .i64 3)).run Tryd.prog w = .ok (.agg #[.int .i64 26, .string ⟨#[101, 110, 100]⟩, .int .i64 0, .int .i64 0]) w := by kernel_rfl
theorem idx4 (w : World) : (Instr.index 88 (.agg reqCells.toArray) (.int .i64 4)).run Tryd.prog w = .ok (.agg #[.int .i64 27, .string ⟨#[109, 97, 114, 107]⟩, .int .i64 0, .int .i64 1]) w := by kernel_rfl

set_option maxHeartbeats 1000000 in
set_option maxRecDepth 100000 in
theorem ver_find (kind : Int) (a : Int) (nm : Bs) (lo hi : Int) (ok : Bool) (hx : reqOf kind = (a, nm, lo, hi, ok)) {W0 w : World} {K : Know} {L : List Res} (hk : K.has Know.reqs) (h : St W0 w K L) :
    Calls Tryd.prog 41 #[.int .i64 kind] w fun en w' => en = .returned (.tuple #[.agg #[.int .i64 a, .string (bb nm), .int .i64 lo, .int .i64 hi], .bool ok]) ∧ St W0 w' K L := by
  have HX := Lib.hid hx
  have HK := Lib.hid hk
  have h1 := h.allocRaw #[.int .i64 0, .string ⟨#[]⟩, .int .i64 0, .int .i64 0] 75
  obtain ⟨rb, hrb⟩ : ∃ b, w.heap.size = b := ⟨_, rfl⟩
  rw [hrb] at h1
  have HR := Lib.hid (req_range hk h1)
  have H := Lib.hid h1
  clear h h1 hx hk
  go_enter Tryd.func41, Tryd.ntmps41
  go_wp2_with (refine wpList_load_mid rfl 88 (.global 0) rfl 0 0 rfl reqCells _ HR.out Tryd.underlying88 rfl (by kernel_rfl) ?_)
  clear HR
  go_loopw [5, 7] (fun _ iv wr => ∃ k : Nat, k ≤ 5 ∧ iv = .int .i64 k ∧ Hid (∀ x ∈ kindAt.take k, kind ≠ x) ∧ St W0 wr K (.raw rb #[.int .i64 0, .string ⟨#[]⟩, .int .i64 0, .int .i64 0] 75 :: L)) (fun _ iv _ => 5 - (intOf iv).toNat)
  case atStart => exact ⟨0, by decide, rfl, Lib.hid (by simp), H.out⟩
  case round =>
    obtain ⟨k, hk, rfl, HNO, hst⟩ := hrel
    clear H
    have H := Lib.hid hst
    clear hst
    rcases (by omega : k = 0 ∨ k = 1 ∨ k = 2 ∨ k = 3 ∨ k = 4 ∨ k = 5) with rfl | rfl | rfl | rfl | rfl | rfl
    · have i0 := idx0
      have h2 := H.out.allocRaw #[.int .i64 0, .string ⟨#[112, 114, 111, 100, 117, 99, 101]⟩, .int .i64 3, .int .i64 4] 75
      obtain ⟨xb, hxb⟩ : ∃ b, wr.heap.size = b := ⟨_, rfl⟩
      rw [hxb] at h2
      have x0 := h2.rawCell 0; have x1 := h2.rawCell 1; have x2 := h2.rawCell 2; have x3 := h2.rawCell 3
      simp at x0 x1 x2 x3
      have p0 := h2.p1.rawCell 0; have p1 := h2.p1.rawCell 1; have p2 := h2.p1.rawCell 2; have p3 := h2.p1.rawCell 3
      have q0 := h2.p1.rawFree 0; have q1 := h2.p1.rawFree 1; have q2 := h2.p1.rawFree 2; have q3 := h2.p1.rawFree 3
      simp at p0 p1 p2 p3
      clear H
      have H := Lib.hid h2
      clear h2
      by_cases hkd : kind = 0
      · have HE := HX.out
        subst hkd
        have e : reqOf 0 = (0, [112, 114, 111, 100, 117, 99, 101], 3, 4, true) := by decide
        rw [e] at HE
        simp only [Prod.mk.injEq] at HE
        obtain ⟨rfl, rfl, rfl, rfl, rfl⟩ := HE
        go_wp2
        have hz : St W0 _ K (.raw rb #[.int .i64 0, .string ⟨#[112, 114, 111, 100, 117, 99, 101]⟩, .int .i64 3, .int .i64 4] 75 :: _) := ((((H.out.p1.rawSet 0 _).rawSet 1 _).rawSet 2 _).rawSet 3 _)
        refine bodyPost_ret (results_cell_tmp rfl _ _ rb [.int .i64 0, .string ⟨#[112, 114, 111, 100, 117, 99, 101]⟩, .int .i64 3, .int .i64 4] _ rfl (St.range hz) Tryd.underlying75 rfl (by kernel_rfl)) rfl ?_
        exact ⟨rfl, hz.drop.drop⟩
      · have hkf : ((0 : Int) == kind) = false := by rw [beq_eq_false_iff_ne]; exact fun h => hkd h.symm
        have HNO2 := Lib.hid (show ∀ x ∈ kindAt.take (0 + 1), kind ≠ x by
          intro x hx
          rw [List.take_succ_eq_append_getElem (by decide)] at hx
          rcases List.mem_append.1 hx with hx | hx
          · exact HNO.out x hx
          · simp [kindAt] at hx; subst hx; exact hkd)
        clear hkd
        go_wp2
        go_roundw
        case rel => exact ⟨1, by decide, rfl, HNO2, H.out.drop⟩
        case measure => first | (simp [intOf]; done) | (simp [intOf]; omega)
    · have i1 := idx1
      have h2 := H.out.allocRaw #[.int .i64 22, .string ⟨#[98, 101, 103, 105, 110]⟩, .int .i64 0, .int .i64 1] 75
      obtain ⟨xb, hxb⟩ : ∃ b, wr.heap.size = b := ⟨_, rfl⟩
      rw [hxb] at h2
      have x0 := h2.rawCell 0; have x1 := h2.rawCell 1; have x2 := h2.rawCell 2; have x3 := h2.rawCell 3
      simp at x0 x1 x2 x3
      have p0 := h2.p1.rawCell 0; have p1 := h2.p1.rawCell 1; have p2 := h2.p1.rawCell 2; have p3 := h2.p1.rawCell 3
      have q0 := h2.p1.rawFree 0; have q1 := h2.p1.rawFree 1; have q2 := h2.p1.rawFree 2; have q3 := h2.p1.rawFree 3
      simp at p0 p1 p2 p3
      clear H
      have H := Lib.hid h2
      clear h2
      by_cases hkd : kind = 22
      · have HE := HX.out
        subst hkd
        have e : reqOf 22 = (22, [98, 101, 103, 105, 110], 0, 1, true) := by decide
        rw [e] at HE
        simp only [Prod.mk.injEq] at HE
        obtain ⟨rfl, rfl, rfl, rfl, rfl⟩ := HE
        go_wp2
        have hz : St W0 _ K (.raw rb #[.int .i64 22, .string ⟨#[98, 101, 103, 105, 110]⟩, .int .i64 0, .int .i64 1] 75 :: _) := ((((H.out.p1.rawSet 0 _).rawSet 1 _).rawSet 2 _).rawSet 3 _)
        refine bodyPost_ret (results_cell_tmp rfl _ _ rb [.int .i64 22, .string ⟨#[98, 101, 103, 105, 110]⟩, .int .i64 0, .int .i64 1] _ rfl (St.range hz) Tryd.underlying75 rfl (by kernel_rfl)) rfl ?_
        exact ⟨rfl, hz.drop.drop⟩
      · have hkf : ((22 : Int) == kind) = false := by rw [beq_eq_false_iff_ne]; exact fun h => hkd h.symm
        have HNO2 := Lib.hid (show ∀ x ∈ kindAt.take (1 + 1), kind ≠ x by
          intro x hx
          rw [List.take_succ_eq_append_getElem (by decide)] at hx
          rcases List.mem_append.1 hx with hx | hx
          · exact HNO.out x hx
          · simp [kindAt] at hx; subst hx; exact hkd)
        clear hkd
        go_wp2
        go_roundw
        case rel => exact ⟨2, by decide, rfl, HNO2, H.out.drop⟩
        case measure => first | (simp [intOf]; done) | (simp [intOf]; omega)
    · have i2 := idx2
      have h2 := H.out.allocRaw #[.int .i64 24, .string ⟨#[97, 100, 100]⟩, .int .i64 0, .int .i64 0] 75
      obtain ⟨xb, hxb⟩ : ∃ b, wr.heap.size = b := ⟨_, rfl⟩
      rw [hxb] at h2
      have x0 := h2.rawCell 0; have x1 := h2.rawCell 1; have x2 := h2.rawCell 2; have x3 := h2.rawCell 3
      simp at x0 x1 x2 x3
      have p0 := h2.p1.rawCell 0; have p1 := h2.p1.rawCell 1; have p2 := h2.p1.rawCell 2; have p3 := h2.p1.rawCell 3
      have q0 := h2.p1.rawFree 0; have q1 := h2.p1.rawFree 1; have q2 := h2.p1.rawFree 2; have q3 := h2.p1.rawFree 3
      simp at p0 p1 p2 p3
      clear H
      have H := Lib.hid h2
      clear h2
      by_cases hkd : kind = 24
      · have HE := HX.out
        subst hkd
        have e : reqOf 24 = (24, [97, 100, 100], 0, 0, true) := by decide
        rw [e] at HE
        simp only [Prod.mk.injEq] at HE
        obtain ⟨rfl, rfl, rfl, rfl, rfl⟩ := HE
        go_wp2
        have hz : St W0 _ K (.raw rb #[.int .i64 24, .string ⟨#[97, 100, 100]⟩, .int .i64 0, .int .i64 0] 75 :: _) := ((((H.out.p1.rawSet 0 _).rawSet 1 _).rawSet 2 _).rawSet 3 _)
        refine bodyPost_ret (results_cell_tmp rfl _ _ rb [.int .i64 24, .string ⟨#[97, 100, 100]⟩, .int .i64 0, .int .i64 0] _ rfl (St.range hz) Tryd.underlying75 rfl (by kernel_rfl)) rfl ?_
        exact ⟨rfl, hz.drop.drop⟩
      · have hkf : ((24 : Int) == kind) = false := by rw [beq_eq_false_iff_ne]; exact fun h => hkd h.symm
        have HNO2 := Lib.hid (show ∀ x ∈ kindAt.take (2 + 1), kind ≠ x by
          intro x hx
          rw [List.take_succ_eq_append_getElem (by decide)] at hx
          rcases List.mem_append.1 hx with hx | hx
          · exact HNO.out x hx
          · simp [kindAt] at hx; subst hx; exact hkd)
        clear hkd
        go_wp2
        go_roundw
        case rel => exact ⟨3, by decide, rfl, HNO2, H.out.drop⟩
        case measure => first | (simp [intOf]; done) | (simp [intOf]; omega)
    · have i3 := idx3
      have h2 := H.out.allocRaw #[.int .i64 26, .string ⟨#[101, 110, 100]⟩, .int .i64 0, .int .i64 0] 75
      obtain ⟨xb, hxb⟩ : ∃ b, wr.heap.size = b := ⟨_, rfl⟩
      rw [hxb] at h2
      have x0 := h2.rawCell 0; have x1 := h2.rawCell 1; have x2 := h2.rawCell 2; have x3 := h2.rawCell 3
      simp at x0 x1 x2 x3
      have p0 := h2.p1.rawCell 0; have p1 := h2.p1.rawCell 1; have p2 := h2.p1.rawCell 2; have p3 := h2.p1.rawCell 3
      have q0 := h2.p1.rawFree 0; have q1 := h2.p1.rawFree 1; have q2 := h2.p1.rawFree 2; have q3 := h2.p1.rawFree 3
      simp at p0 p1 p2 p3
      clear H
      have H := Lib.hid h2
      clear h2
      by_cases hkd : kind = 26
      · have HE := HX.out
        subst hkd
        have e : reqOf 26 = (26, [101, 110, 100], 0, 0, true) := by decide
        rw [e] at HE
        simp only [Prod.mk.injEq] at HE
        obtain ⟨rfl, rfl, rfl, rfl, rfl⟩ := HE
        go_wp2
        have hz : St W0 _ K (.raw rb #[.int .i64 26, .string ⟨#[101, 110, 100]⟩, .int .i64 0, .int .i64 0] 75 :: _) := ((((H.out.p1.rawSet 0 _).rawSet 1 _).rawSet 2 _).rawSet 3 _)
        refine bodyPost_ret (results_cell_tmp rfl _ _ rb [.int .i64 26, .string ⟨#[101, 110, 100]⟩, .int .i64 0, .int .i64 0] _ rfl (St.range hz) Tryd.underlying75 rfl (by kernel_rfl)) rfl ?_
        exact ⟨rfl, hz.drop.drop⟩
      · have hkf : ((26 : Int) == kind) = false := by rw [beq_eq_false_iff_ne]; exact fun h => hkd h.symm
        have HNO2 := Lib.hid (show ∀ x ∈ kindAt.take (3 + 1), kind ≠ x by
          intro x hx
          rw [List.take_succ_eq_append_getElem (by decide)] at hx
          rcases List.mem_append.1 hx with hx | hx
          · exact HNO.out x hx
          · simp [kindAt] at hx; subst hx; exact hkd)
        clear hkd
        go_wp2
        go_roundw
        case rel => exact ⟨4, by decide, rfl, HNO2, H.out.drop⟩
        case measure => first | (simp [intOf]; done) | (simp [intOf]; omega)
    · have i4 := idx4
      have h2 := H.out.allocRaw #[.int .i64 27, .string ⟨#[109, 97, 114, 107]⟩, .int .i64 0, .int .i64 1] 75
      obtain ⟨xb, hxb⟩ : ∃ b, wr.heap.size = b := ⟨_, rfl⟩
      rw [hxb] at h2
      have x0 := h2.rawCell 0; have x1 := h2.rawCell 1; have x2 := h2.rawCell 2; have x3 := h2.rawCell 3
      simp at x0 x1 x2 x3
      have p0 := h2.p1.rawCell 0; have p1 := h2.p1.rawCell 1; have p2 := h2.p1.rawCell 2; have p3 := h2.p1.rawCell 3
      have q0 := h2.p1.rawFree 0; have q1 := h2.p1.rawFree 1; have q2 := h2.p1.rawFree 2; have q3 := h2.p1.rawFree 3
      simp at p0 p1 p2 p3
      clear H
      have H := Lib.hid h2
      clear h2
      by_cases hkd : kind = 27
      · have HE := HX.out
        subst hkd
        have e : reqOf 27 = (27, [109, 97, 114, 107], 0, 1, true) := by decide
        rw [e] at HE
        simp only [Prod.mk.injEq] at HE
        obtain ⟨rfl, rfl, rfl, rfl, rfl⟩ := HE
        go_wp2
        have hz : St W0 _ K (.raw rb #[.int .i64 27, .string ⟨#[109, 97, 114, 107]⟩, .int .i64 0, .int .i64 1] 75 :: _) := ((((H.out.p1.rawSet 0 _).rawSet 1 _).rawSet 2 _).rawSet 3 _)
        refine bodyPost_ret (results_cell_tmp rfl _ _ rb [.int .i64 27, .string ⟨#[109, 97, 114, 107]⟩, .int .i64 0, .int .i64 1] _ rfl (St.range hz) Tryd.underlying75 rfl (by kernel_rfl)) rfl ?_
        exact ⟨rfl, hz.drop.drop⟩
      · have hkf : ((27 : Int) == kind) = false := by rw [beq_eq_false_iff_ne]; exact fun h => hkd h.symm
        have HNO2 := Lib.hid (show ∀ x ∈ kindAt.take (4 + 1), kind ≠ x by
          intro x hx
          rw [List.take_succ_eq_append_getElem (by decide)] at hx
          rcases List.mem_append.1 hx with hx | hx
          · exact HNO.out x hx
          · simp [kindAt] at hx; subst hx; exact hkd)
        clear hkd
        go_wp2
        go_roundw
        case rel => exact ⟨5, by decide, rfl, HNO2, H.out.drop⟩
        case measure => first | (simp [intOf]; done) | (simp [intOf]; omega)
    · obtain ⟨e1, e2, e3, e4, e5⟩ : a = 0 ∧ nm = [] ∧ lo = 0 ∧ hi = 0 ∧ ok = false := by
        have := HX.out
        rw [reqOf_none kind HNO.out] at this
        simp at this
        obtain ⟨rfl, rfl, rfl, rfl, rfl⟩ := this
        exact ⟨rfl, rfl, rfl, rfl, rfl⟩
      subst e1 e2 e3 e4 e5
      have cz : True := trivial
      have p0 := H.out.rawCell 0; have p1 := H.out.rawCell 1; have p2 := H.out.rawCell 2; have p3 := H.out.rawCell 3
      have q0 := H.out.rawFree 0; have q1 := H.out.rawFree 1; have q2 := H.out.rawFree 2; have q3 := H.out.rawFree 3
      simp at p0 p1 p2 p3
      go_wp2
      try simp only [Exit.inBlock, Exit.then]
      have hz : St W0 _ K (.raw rb #[.int .i64 0, .string ⟨#[]⟩, .int .i64 0, .int .i64 0] 75 :: _) := ((((H.out.rawSet 0 _).rawSet 1 _).rawSet 2 _).rawSet 3 _)
      refine bodyPost_ret (results_cell_tmp rfl _ _ rb [.int .i64 0, .string ⟨#[]⟩, .int .i64 0, .int .i64 0] _ rfl (St.range hz) Tryd.underlying75 rfl (by kernel_rfl)) rfl ?_
      exact ⟨rfl, hz.drop⟩

end Go.Proofs.YthppodbjjfkmfaaDoor
