/- Which request a name is. -/
import Derived.Test.YtngnhdiafbjfkaaDoorVer2
namespace Go.Proofs.YtngnhdiafbjfkaaDoor
open Go.RowKit

def nameAt : List Bs := [[112, 114, 111, 100, 117, 99, 101], [98, 101, 103, 105, 110], [97, 100, 100], [101, 110, 100], [109, 97, 114, 107]]
def ofName (s : Bs) : Int × Bool := if s = [112, 114, 111, 100, 117, 99, 101] then (0, true) else if s = [98, 101, 103, 105, 110] then (22, true) else if s = [97, 100, 100] then (24, true) else if s = [101, 110, 100] then (26, true) else if s = [109, 97, 114, 107] then (27, true) else (0, false)
theorem ofName_none (s : Bs) (h : ∀ k ∈ nameAt, s ≠ k) : ofName s = (0, false) := by
  unfold ofName
  have h := fun k hk => h k hk
  simp only [nameAt, List.mem_cons, List.not_mem_nil, or_false, forall_eq_or_imp, forall_eq] at h
  obtain ⟨h0, h1, h2, h3, h4⟩ := h
  rw [if_neg h0, if_neg h1, if_neg h2, if_neg h3, if_neg h4]

set_option maxHeartbeats 1000000 in
set_option maxRecDepth 100000 in
theorem ver_of (s : Bs) (q : Int) (ok : Bool) (hx : ofName s = (q, ok)) {W0 w : World} {K : Know} {L : List Res} (hk : K.has Know.reqs) (h : St W0 w K L) :
    Calls Tryd.prog 12 #[.string (bb s)] w fun en w' => en = .returned (.tuple #[.int .i64 q, .bool ok]) ∧ St W0 w' K L := by
  have HX := Lib.hid hx
  have HK := Lib.hid hk
  have HR := Lib.hid (req_range hk h)
  have H := Lib.hid h
  clear h hx hk
  go_enter Tryd.func12, Tryd.ntmps12
  go_wp2_with (refine wpList_load_mid rfl 62 (.global 0) rfl 0 0 rfl reqCells _ HR.out Tryd.underlying62 rfl (by kernel_rfl) ?_)
  clear HR
  go_loopw [5, 7] (fun _ iv wr => ∃ k : Nat, k ≤ 5 ∧ iv = .int .i64 k ∧ Hid (∀ x ∈ nameAt.take k, s ≠ x) ∧ St W0 wr K L) (fun _ iv _ => 5 - (intOf iv).toNat)
  case atStart => exact ⟨0, by decide, rfl, Lib.hid (by simp), H.out⟩
  case round =>
    obtain ⟨k, hk, rfl, HNO, hst⟩ := hrel
    clear H
    have H := Lib.hid hst
    clear hst
    rcases (by omega : k = 0 ∨ k = 1 ∨ k = 2 ∨ k = 3 ∨ k = 4 ∨ k = 5) with rfl | rfl | rfl | rfl | rfl | rfl
    · have i0 := idx0
      have h2 := H.out.allocRaw #[.int .i64 0, .string ⟨#[112, 114, 111, 100, 117, 99, 101]⟩, .int .i64 3, .int .i64 4] 59
      obtain ⟨xb, hxb⟩ : ∃ b, wr.heap.size = b := ⟨_, rfl⟩
      rw [hxb] at h2
      have x0 := h2.rawCell 0; have x1 := h2.rawCell 1; have x2 := h2.rawCell 2; have x3 := h2.rawCell 3
      simp at x0 x1 x2 x3
      clear H
      have H := Lib.hid h2
      clear h2
      by_cases hkd : s = [112, 114, 111, 100, 117, 99, 101]
      · have HE := HX.out
        subst hkd
        have e : ofName [112, 114, 111, 100, 117, 99, 101] = (0, true) := by decide
        rw [e] at HE
        simp only [Prod.mk.injEq] at HE
        obtain ⟨rfl, rfl⟩ := HE
        go_wp2
        go_ret2
        exact ⟨rfl, H.out.drop⟩
      · have hkf : (([112, 114, 111, 100, 117, 99, 101] : Bs) == s) = false := by
          rw [beq_eq_false_iff_ne]
          exact fun h => hkd h.symm
        have HNO2 := Lib.hid (show ∀ x ∈ nameAt.take (0 + 1), s ≠ x by
          intro x hx
          rw [List.take_succ_eq_append_getElem (by decide)] at hx
          rcases List.mem_append.1 hx with hx | hx
          · exact HNO.out x hx
          · simp [nameAt] at hx; subst hx; exact hkd)
        clear hkd
        go_wp2
        go_roundw
        case rel => exact ⟨1, by decide, rfl, HNO2, H.out.drop⟩
        case measure => first | (simp [intOf]; done) | (simp [intOf]; omega)
    · have i1 := idx1
      have h2 := H.out.allocRaw #[.int .i64 22, .string ⟨#[98, 101, 103, 105, 110]⟩, .int .i64 0, .int .i64 1] 59
      obtain ⟨xb, hxb⟩ : ∃ b, wr.heap.size = b := ⟨_, rfl⟩
      rw [hxb] at h2
      have x0 := h2.rawCell 0; have x1 := h2.rawCell 1; have x2 := h2.rawCell 2; have x3 := h2.rawCell 3
      simp at x0 x1 x2 x3
      clear H
      have H := Lib.hid h2
      clear h2
      by_cases hkd : s = [98, 101, 103, 105, 110]
      · have HE := HX.out
        subst hkd
        have e : ofName [98, 101, 103, 105, 110] = (22, true) := by decide
        rw [e] at HE
        simp only [Prod.mk.injEq] at HE
        obtain ⟨rfl, rfl⟩ := HE
        go_wp2
        go_ret2
        exact ⟨rfl, H.out.drop⟩
      · have hkf : (([98, 101, 103, 105, 110] : Bs) == s) = false := by
          rw [beq_eq_false_iff_ne]
          exact fun h => hkd h.symm
        have HNO2 := Lib.hid (show ∀ x ∈ nameAt.take (1 + 1), s ≠ x by
          intro x hx
          rw [List.take_succ_eq_append_getElem (by decide)] at hx
          rcases List.mem_append.1 hx with hx | hx
          · exact HNO.out x hx
          · simp [nameAt] at hx; subst hx; exact hkd)
        clear hkd
        go_wp2
        go_roundw
        case rel => exact ⟨2, by decide, rfl, HNO2, H.out.drop⟩
        case measure => first | (simp [intOf]; done) | (simp [intOf]; omega)
    · have i2 := idx2
      have h2 := H.out.allocRaw #[.int .i64 24, .string ⟨#[97, 100, 100]⟩, .int .i64 0, .int .i64 0] 59
      obtain ⟨xb, hxb⟩ : ∃ b, wr.heap.size = b := ⟨_, rfl⟩
      rw [hxb] at h2
      have x0 := h2.rawCell 0; have x1 := h2.rawCell 1; have x2 := h2.rawCell 2; have x3 := h2.rawCell 3
      simp at x0 x1 x2 x3
      clear H
      have H := Lib.hid h2
      clear h2
      by_cases hkd : s = [97, 100, 100]
      · have HE := HX.out
        subst hkd
        have e : ofName [97, 100, 100] = (24, true) := by decide
        rw [e] at HE
        simp only [Prod.mk.injEq] at HE
        obtain ⟨rfl, rfl⟩ := HE
        go_wp2
        go_ret2
        exact ⟨rfl, H.out.drop⟩
      · have hkf : (([97, 100, 100] : Bs) == s) = false := by
          rw [beq_eq_false_iff_ne]
          exact fun h => hkd h.symm
        have HNO2 := Lib.hid (show ∀ x ∈ nameAt.take (2 + 1), s ≠ x by
          intro x hx
          rw [List.take_succ_eq_append_getElem (by decide)] at hx
          rcases List.mem_append.1 hx with hx | hx
          · exact HNO.out x hx
          · simp [nameAt] at hx; subst hx; exact hkd)
        clear hkd
        go_wp2
        go_roundw
        case rel => exact ⟨3, by decide, rfl, HNO2, H.out.drop⟩
        case measure => first | (simp [intOf]; done) | (simp [intOf]; omega)
    · have i3 := idx3
      have h2 := H.out.allocRaw #[.int .i64 26, .string ⟨#[101, 110, 100]⟩, .int .i64 0, .int .i64 0] 59
      obtain ⟨xb, hxb⟩ : ∃ b, wr.heap.size = b := ⟨_, rfl⟩
      rw [hxb] at h2
      have x0 := h2.rawCell 0; have x1 := h2.rawCell 1; have x2 := h2.rawCell 2; have x3 := h2.rawCell 3
      simp at x0 x1 x2 x3
      clear H
      have H := Lib.hid h2
      clear h2
      by_cases hkd : s = [101, 110, 100]
      · have HE := HX.out
        subst hkd
        have e : ofName [101, 110, 100] = (26, true) := by decide
        rw [e] at HE
        simp only [Prod.mk.injEq] at HE
        obtain ⟨rfl, rfl⟩ := HE
        go_wp2
        go_ret2
        exact ⟨rfl, H.out.drop⟩
      · have hkf : (([101, 110, 100] : Bs) == s) = false := by
          rw [beq_eq_false_iff_ne]
          exact fun h => hkd h.symm
        have HNO2 := Lib.hid (show ∀ x ∈ nameAt.take (3 + 1), s ≠ x by
          intro x hx
          rw [List.take_succ_eq_append_getElem (by decide)] at hx
          rcases List.mem_append.1 hx with hx | hx
          · exact HNO.out x hx
          · simp [nameAt] at hx; subst hx; exact hkd)
        clear hkd
        go_wp2
        go_roundw
        case rel => exact ⟨4, by decide, rfl, HNO2, H.out.drop⟩
        case measure => first | (simp [intOf]; done) | (simp [intOf]; omega)
    · have i4 := idx4
      have h2 := H.out.allocRaw #[.int .i64 27, .string ⟨#[109, 97, 114, 107]⟩, .int .i64 0, .int .i64 1] 59
      obtain ⟨xb, hxb⟩ : ∃ b, wr.heap.size = b := ⟨_, rfl⟩
      rw [hxb] at h2
      have x0 := h2.rawCell 0; have x1 := h2.rawCell 1; have x2 := h2.rawCell 2; have x3 := h2.rawCell 3
      simp at x0 x1 x2 x3
      clear H
      have H := Lib.hid h2
      clear h2
      by_cases hkd : s = [109, 97, 114, 107]
      · have HE := HX.out
        subst hkd
        have e : ofName [109, 97, 114, 107] = (27, true) := by decide
        rw [e] at HE
        simp only [Prod.mk.injEq] at HE
        obtain ⟨rfl, rfl⟩ := HE
        go_wp2
        go_ret2
        exact ⟨rfl, H.out.drop⟩
      · have hkf : (([109, 97, 114, 107] : Bs) == s) = false := by
          rw [beq_eq_false_iff_ne]
          exact fun h => hkd h.symm
        have HNO2 := Lib.hid (show ∀ x ∈ nameAt.take (4 + 1), s ≠ x by
          intro x hx
          rw [List.take_succ_eq_append_getElem (by decide)] at hx
          rcases List.mem_append.1 hx with hx | hx
          · exact HNO.out x hx
          · simp [nameAt] at hx; subst hx; exact hkd)
        clear hkd
        go_wp2
        go_roundw
        case rel => exact ⟨5, by decide, rfl, HNO2, H.out.drop⟩
        case measure => first | (simp [intOf]; done) | (simp [intOf]; omega)
    · obtain ⟨e1, e2⟩ : q = 0 ∧ ok = false := by
        have := HX.out
        rw [ofName_none s HNO.out] at this
        simp at this
        obtain ⟨rfl, rfl⟩ := this
        exact ⟨rfl, rfl⟩
      subst e1 e2
      go_wp2
      go_ret2
      exact ⟨rfl, H.out⟩

def kindC : Array Value := #[.int .i64 0, .int .i64 22, .int .i64 24, .int .i64 26, .int .i64 27]
/-- What the law has found among the first requests. -/
def found (s : Bs) : Nat → Int × Bool
  | 0 => (0, false)
  | k + 1 => if s = nameAt.getD k [] then (kindAt.getD k 0, true) else found s k
theorem found_all (s : Bs) : found s 5 = ofName s := by
  unfold ofName
  simp only [found, nameAt, kindAt, List.getD_cons_succ, List.getD_cons_zero]
  repeat' split
  all_goals first | rfl | (subst_vars; simp at *)

end Go.Proofs.YtngnhdiafbjfkaaDoor
