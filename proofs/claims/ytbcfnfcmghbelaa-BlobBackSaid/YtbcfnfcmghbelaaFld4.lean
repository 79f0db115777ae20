/- Through the layers, walked: WholeFields, many. -/
import Derived.Test.YtbcfnfcmghbelaaFld3
namespace Go.Proofs.Ytbcfnfcmghbelaa
open Go.RowKit

set_option maxHeartbeats 1000000 in
set_option maxRecDepth 100000 in
theorem fields_many (ns : List Int) (l : List BlobS) (qn ql : Option Addr) (capn capl : Nat) (ed : Int) (hed : 0 ≤ ed ∧ ed < 65536) (hn : ∀ n ∈ ns, -9223372036854775808 ≤ n ∧ n < 9223372036854775808) (hb : ∀ b ∈ l, b.data.length ≤ 140737488351232) (hm : 40 < ns.length ∨ 40 < l.length) {W0 w : World} {K : Know} (hkn : K.has (Know.flat RI (.slice qn ns.length capn) 1 ns)) (hkl : K.has (Know.flat RB (.slice ql l.length capl) 2 l)) (h : St W0 w K []) :
    Calls Try.prog 13 #[.slice qn ns.length capn, .slice ql l.length capl, .int .u16 ed] w fun en w' => en = .returned (.bool true) ∧ Below W0.heap.size W0 w' := by
  obtain ⟨bN, hbN⟩ : ∃ b, w.heap.size = b := ⟨_, rfl⟩
  obtain ⟨bL, hbL⟩ : ∃ b, bN + 1 = b := ⟨_, rfl⟩
  obtain ⟨po, hpo⟩ : ∃ b, bL + 1 = b := ⟨_, rfl⟩
  have hpo2 : bN + 2 = po := by omega
  have h1 := h.allocRaw #[.slice qn ns.length capn] 37
  have h2 := (h1.allocRaw #[.slice ql l.length capl] 83).p1
  have h3 := h2.allocOut
  simp only [World.size_alloc, hbN, hbL, hpo] at h2 h3
  have H := Lib.hid h3
  have HKN := Lib.hid hkn
  have HKL := Lib.hid hkl
  have HN := Lib.hid hn
  have HB := Lib.hid hb
  have E0 := Lib.hid (show (⟨[], 0⟩ : OutS).putLong (-1) = ⟨encN (-1), 0⟩ from rfl)
  have E0K := Lib.hid (show (⟨[], 0⟩ : OutS).ok 16 by simp [OutS.ok])
  have R0 := Lib.hid (show -9223372036854775808 ≤ (-1 : Int) ∧ (-1 : Int) < 9223372036854775808 by decide)
  have L1 := Lib.hid (show ((encN (-1)).length : Int) = 1 by rw [encN_m1]; rfl)
  have tok1 : True := trivial
  clear h h1 h2 h3 hkn hkl hn hb hed
  by_cases hm1 : 40 < ns.length
  · have d1 : decide ((40 : Int) < (ns.length : Int)) = true := decide_eq_true (by omega)
    clear hm hm1
    go_enter Try.func13, Try.ntmps13
    go_wp2_with (first
      | (go_at_call 40; have _t := tok1; clear _t; refine (sv_putLong po _ _ R0.out H.out E0K.out).mono ?_; rw [E0.out]; rintro e wn ⟨rfl, h⟩; replace H := Lib.hid h; clear h; clear tok1; have tok2 : True := trivial; have xn : _ = some _ := (H.out).p1.rawCell 0; have xl : _ = some _ := (H.out).p2.rawCell 0)
      | (go_at_call 33; refine (so_len po _ H.out).mono ?_; simp only; rw [L1.out]; rintro e wn ⟨rfl, h⟩; replace H := Lib.hid h; clear h; have xn : _ = some _ := (H.out).p1.rawCell 0; have xl : _ = some _ := (H.out).p2.rawCell 0))
    go_ret
    exact ⟨rfl, H.out.below⟩
  · have d1 : decide ((40 : Int) < (ns.length : Int)) = false := decide_eq_false (by omega)
    have d2 : decide ((40 : Int) < (l.length : Int)) = true := decide_eq_true (by omega)
    clear hm hm1
    go_enter Try.func13, Try.ntmps13
    go_wp2_with (first
      | (go_at_call 40; have _t := tok1; clear _t; refine (sv_putLong po _ _ R0.out H.out E0K.out).mono ?_; rw [E0.out]; rintro e wn ⟨rfl, h⟩; replace H := Lib.hid h; clear h; clear tok1; have tok2 : True := trivial; have xn : _ = some _ := (H.out).p1.rawCell 0; have xl : _ = some _ := (H.out).p2.rawCell 0)
      | (go_at_call 33; refine (so_len po _ H.out).mono ?_; simp only; rw [L1.out]; rintro e wn ⟨rfl, h⟩; replace H := Lib.hid h; clear h; have xn : _ = some _ := (H.out).p1.rawCell 0; have xl : _ = some _ := (H.out).p2.rawCell 0))
    go_ret
    exact ⟨rfl, H.out.below⟩

end Go.Proofs.Ytbcfnfcmghbelaa
