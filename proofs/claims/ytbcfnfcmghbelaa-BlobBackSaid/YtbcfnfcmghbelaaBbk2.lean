/- Blobs, one behind the other, walked. -/
import Derived.Test.YtbcfnfcmghbelaaBbk1
import Derived.Test.YtbcfnfcmghbelaaGrow
import Derived.Test.YtbcfnfcmghbelaaL04S
import Derived.Test.YtbcfnfcmghbelaaFld5
import Derived.Test.YtbcfnfcmghbelaaRef06b
namespace Go.Proofs.Ytbcfnfcmghbelaa
open Go.RowKit

set_option maxHeartbeats 1000000 in
set_option maxRecDepth 100000 in
theorem bb_many (l : List BlobS) (ks : List Int) (ql qk : Option Addr) (capl capk : Nat) (hm : 30 < l.length ∨ ks.length < l.length) {W0 w : World} {K : Know} (h : St W0 w K []) :
    Calls Try.prog 11 #[.slice ql l.length capl, .slice qk ks.length capk] w fun en w' => en = .returned (.bool true) ∧ Below W0.heap.size W0 w' := by
  have H := Lib.hid h
  clear h
  by_cases hm1 : 30 < l.length
  · have d1 : decide ((30 : Int) < (l.length : Int)) = true := decide_eq_true (by omega)
    clear hm hm1
    go_enter Try.func11, Try.ntmps11
    go_wp2_with (go_at_call 47; refine (speaks04  (by first | (first | with_reducible exact H.out | with_reducible exact H.out.p1 | with_reducible exact H.out.p2 | with_reducible exact H.out.p3 | with_reducible exact H.out.p4 | with_reducible exact H.out.p5) | ((repeat first | with_reducible refine St.drewN ?_ _ | with_reducible refine St.drew ?_ | with_reducible refine St.alloc ?_ _); first | with_reducible exact H.out | with_reducible exact H.out.p1 | with_reducible exact H.out.p2 | with_reducible exact H.out.p3 | with_reducible exact H.out.p4 | with_reducible exact H.out.p5))).mono ?_; rintro e wn ⟨rfl, h⟩; replace H := Lib.hid h; clear h)
    go_ret
    exact ⟨rfl, H.out.below⟩
  · have d1 : decide ((30 : Int) < (l.length : Int)) = false := decide_eq_false (by omega)
    have d2 : decide (ks.length < l.length) = true := decide_eq_true (by omega)
    have d3 : ks.length < l.length := by omega
    have d4 : ¬ l = [] := by rintro rfl; simp at d3
    clear hm hm1
    go_enter Try.func11, Try.ntmps11
    go_wp2_with (go_at_call 47; refine (speaks04  (by first | (first | with_reducible exact H.out | with_reducible exact H.out.p1 | with_reducible exact H.out.p2 | with_reducible exact H.out.p3 | with_reducible exact H.out.p4 | with_reducible exact H.out.p5) | ((repeat first | with_reducible refine St.drewN ?_ _ | with_reducible refine St.drew ?_ | with_reducible refine St.alloc ?_ _); first | with_reducible exact H.out | with_reducible exact H.out.p1 | with_reducible exact H.out.p2 | with_reducible exact H.out.p3 | with_reducible exact H.out.p4 | with_reducible exact H.out.p5))).mono ?_; rintro e wn ⟨rfl, h⟩; replace H := Lib.hid h; clear h)
    go_ret
    exact ⟨rfl, H.out.below⟩

theorem flatB_news {l : List BlobS} {n cap b off : Nat} {W0 w : World} {K : Know} {L : List Res} (hk : K.has (Know.flat RB (.slice (some ⟨b, off, none⟩) n cap) 2 l)) (h : St W0 w K L) : ∀ j u, (l.flatMap bcells)[j]? = some u → w.cell? ((⟨b, off, none⟩ : Addr).add j) = some u := by
  intro j u hj
  have hlt : j < l.length * 2 := by
    rw [← bcells_len l]
    exact (List.getElem?_eq_some_iff.1 hj).1
  have hq : j / 2 < l.length := by omega
  obtain ⟨cs, hR, hc⟩ := flat_cell hk h (j / 2) hq
  unfold RB at hR
  subst hR
  have ha : (⟨b, off, none⟩ : Addr).add j = ⟨b, off + j, none⟩ := by unfold Addr.add; split <;> simp_all
  rw [ha]
  obtain ⟨g0, g1⟩ := bcells_get l (j / 2) hq
  by_cases hp : j % 2 = 0
  · have e : j / 2 * 2 = j := by omega
    rw [e] at g0
    rw [g0] at hj
    have := hc 0 u hj
    rw [Nat.add_zero, e] at this
    exact this
  · have e : j / 2 * 2 + 1 = j := by omega
    rw [e] at g1
    rw [g1] at hj
    have := hc 1 u hj
    rw [e] at this
    exact this
theorem bcells_one {l : List BlobS} : ∀ u ∈ l.flatMap bcells, u.oneCell' = true := by
  intro u hu
  obtain ⟨x, _, hx⟩ := List.mem_flatMap.1 hu
  rcases List.mem_cons.1 hx with rfl | hx
  · rfl
  · rw [List.mem_singleton.1 hx]; rfl

theorem pb0 (p : Nat) (e e2 d : Bs) (n : Bool) (v : ByteArray) (hv : v = bb d) (hx : (⟨e, 0⟩ : OutS).putFixed ⟨n, d⟩ 4 = ⟨e2, 0⟩) (hd : d.length ≤ 120) (he : e.length ≤ 10000) {W0 w : World} {K : Know} {L : List Res} (h : St W0 w K (.out p ⟨e, 0⟩ :: L)) :
    Calls Try.prog 48 #[outPtr p, .agg #[.bool n, .string v], .int .i64 4] w fun en w' => en = .returned (.tuple #[]) ∧ St W0 w' K (.out p ⟨e2, 0⟩ :: L) := by
  subst hv
  have := blob_putFixed p ⟨e, 0⟩ ⟨n, d⟩ 4 h (by unfold OutS.ok; simp only; omega)
  rw [show (⟨e, 0⟩ : OutS).putFixed ⟨n, d⟩ 4 = ⟨e2, 0⟩ from hx] at this
  exact this

theorem pb1 (p : Nat) (e e2 d : Bs) (n : Bool) (v : ByteArray) (hv : v = bb d) (hx : (⟨e, 0⟩ : OutS).putVaried ⟨n, d⟩ = ⟨e2, 0⟩) (hd : d.length ≤ 120) (he : e.length ≤ 10000) {W0 w : World} {K : Know} {L : List Res} (h : St W0 w K (.out p ⟨e, 0⟩ :: L)) :
    Calls Try.prog 49 #[outPtr p, .agg #[.bool n, .string v]] w fun en w' => en = .returned (.tuple #[]) ∧ St W0 w' K (.out p ⟨e2, 0⟩ :: L) := by
  subst hv
  have := blob_putVaried p ⟨e, 0⟩ ⟨n, d⟩ h (by unfold OutS.ok; simp only; omega)
  rw [show (⟨e, 0⟩ : OutS).putVaried ⟨n, d⟩ = ⟨e2, 0⟩ from hx] at this
  exact this

theorem pb2 (p : Nat) (e e2 d : Bs) (n : Bool) (v : ByteArray) (hv : v = bb d) (hx : (⟨e, 0⟩ : OutS).putFixed ⟨false, d⟩ 2 = ⟨e2, 0⟩) (hd : d.length ≤ 120) (he : e.length ≤ 10000) {W0 w : World} {K : Know} {L : List Res} (h : St W0 w K (.out p ⟨e, 0⟩ :: L)) :
    Calls Try.prog 50 #[outPtr p, .string v] w fun en w' => en = .returned (.tuple #[]) ∧ St W0 w' K (.out p ⟨e2, 0⟩ :: L) := by
  subst hv
  have := blob_putText p ⟨e, 0⟩ d h (by unfold OutS.ok; simp only; omega)
  rw [show (⟨e, 0⟩ : OutS).putText d = ⟨e2, 0⟩ from hx] at this
  exact this

theorem pb3 (p : Nat) (e e2 d : Bs) (n : Bool) (v : ByteArray) (hv : v = bb d) (hx : (⟨e, 0⟩ : OutS).putVaried ⟨false, d⟩ = ⟨e2, 0⟩) (hd : d.length ≤ 120) (he : e.length ≤ 10000) {W0 w : World} {K : Know} {L : List Res} (h : St W0 w K (.out p ⟨e, 0⟩ :: L)) :
    Calls Try.prog 51 #[outPtr p, .string v] w fun en w' => en = .returned (.tuple #[]) ∧ St W0 w' K (.out p ⟨e2, 0⟩ :: L) := by
  subst hv
  have := blob_putName p ⟨e, 0⟩ d h (by unfold OutS.ok; simp only; omega)
  rw [show (⟨e, 0⟩ : OutS).putName d = ⟨e2, 0⟩ from hx] at this
  exact this

theorem pg0 (p : Nat) (i j : InS) (d : Bs) (n : Bool) (hx : i.fixed 4 = (⟨n, d⟩, j)) {W0 w : World} {K : Know} {L : List Res} (h : St W0 w K (.inp p i :: L)) :
    Calls Try.prog 60 #[inPtr p, .int .i64 4] w fun en w' => en = .returned (.agg #[.bool n, .string (bb d)]) ∧ St W0 w' K (.inp p j :: L) := by
  have := blob_fixed p i 4 h; rw [hx] at this; exact this

theorem pg1 (p : Nat) (i j : InS) (d : Bs) (n : Bool) (hx : i.varied = (⟨n, d⟩, j)) {W0 w : World} {K : Know} {L : List Res} (h : St W0 w K (.inp p i :: L)) :
    Calls Try.prog 61 #[inPtr p] w fun en w' => en = .returned (.agg #[.bool n, .string (bb d)]) ∧ St W0 w' K (.inp p j :: L) := by
  have := blob_varied p i h; rw [hx] at this; exact this

theorem pg2 (p : Nat) (i j : InS) (d : Bs) (hx : i.text = (d, j)) {W0 w : World} {K : Know} {L : List Res} (h : St W0 w K (.inp p i :: L)) :
    Calls Try.prog 63 #[inPtr p] w fun en w' => en = .returned (.string (bb d)) ∧ St W0 w' K (.inp p j :: L) := by
  have := blob_text p i h; rw [hx] at this; exact this

theorem pg3 (p : Nat) (i j : InS) (d : Bs) (hx : i.name = (d, j)) {W0 w : World} {K : Know} {L : List Res} (h : St W0 w K (.inp p i :: L)) :
    Calls Try.prog 64 #[inPtr p] w fun en w' => en = .returned (.string (bb d)) ∧ St W0 w' K (.inp p j :: L) := by
  have := blob_name p i h; rw [hx] at this; exact this

theorem pgOf (d : Bs) {W0 w : World} {K : Know} {L : List Res} (h : St W0 w K L) : Calls Try.prog 56 #[.string (bb d)] w fun en w' => en = .returned (.agg #[.bool false, .string (bb d)]) ∧ St W0 w' K L := blob_of d h
theorem normB_get (l : List BlobS) (k : Nat) (h : k < l.length) (h2 : k < (l.map normB).length) : (l.map normB)[k] = normB l[k] := by simp

theorem pre_mono (xs : List Int) (l : List BlobS) (h : l.length ≤ xs.length) (k : Nat) (hk : k ≤ l.length) : (pre xs l k).length ≤ (pre xs l l.length).length := by
  have go : ∀ j k, k + j ≤ l.length → (pre xs l k).length ≤ (pre xs l (k + j)).length := by
    intro j
    induction j with
    | zero => intro k _; exact Nat.le_refl _
    | succ j ih =>
      intro k hk
      have h1 := ih k (by omega)
      have h2 := pre_succ xs l (k + j) (by omega) (by omega)
      rw [← Nat.add_assoc, h2, List.length_append]
      omega
  have := go (l.length - k) k (by omega)
  rw [show k + (l.length - k) = l.length by omega] at this
  exact this

end Go.Proofs.Ytbcfnfcmghbelaa
