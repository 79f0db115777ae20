/- Blobs, one behind the other: none. -/
import Derived.Test.YtbcfnfcmghbelaaBbk2
namespace Go.Proofs.Ytbcfnfcmghbelaa
open Go.RowKit

set_option maxHeartbeats 1000000 in
set_option maxRecDepth 100000 in
theorem bb_none (ks : List Int) (ql qk : Option Addr) (capl capk : Nat) {W0 w : World} {K : Know} (h : St W0 w K []) :
    Calls Try.prog 11 #[.slice ql 0 capl, .slice qk ks.length capk] w fun en w' => en = .returned (.bool true) ∧ Below W0.heap.size W0 w' := by
  have ha : ∀ (ad : Addr) w, Sem.run Try.prog (loadCellsFrom ad 0 0 #[]) w = .ok #[] w := fun _ _ => rfl
  have hc : ∀ w, Sem.run Try.prog (pure (#[] : Array Value)) w = .ok #[] w := fun _ => rfl
  have hb : ∀ (ad : Addr) w, Sem.run Try.prog (storeCells ad ([] : List Value)) w = .ok () w := fun _ _ => rfl
  have TX := Lib.hid (show (⟨[], 0⟩ : OutS).text = ([], 0) from rfl)
  have HSN := Lib.hid (show ([] : Bs).length ≤ 140737488355328 by simp)
  have CL := Lib.hid (show (⟨[], 0, 0⟩ : InS).close = ⟨[], 0, 0⟩ by rfl)
  have H := Lib.hid h
  clear h
  cases ql with
  | none =>
    go_enter Try.func11, Try.ntmps11
    go_wp2_with (first
      | (go_at_call 47; refine (speaks04  (by first | (first | with_reducible exact H.out | with_reducible exact H.out.p1 | with_reducible exact H.out.p2 | with_reducible exact H.out.p3 | with_reducible exact H.out.p4 | with_reducible exact H.out.p5) | ((repeat first | with_reducible refine St.drewN ?_ _ | with_reducible refine St.drew ?_ | with_reducible refine St.alloc ?_ _); first | with_reducible exact H.out | with_reducible exact H.out.p1 | with_reducible exact H.out.p2 | with_reducible exact H.out.p3 | with_reducible exact H.out.p4 | with_reducible exact H.out.p5))).mono ?_; rintro e wn ⟨rfl, h⟩; replace H := Lib.hid h; clear h))
    have h := (H.out.alloc (.cells #[] 63)).allocOut
    simp only [World.size_alloc] at h
    clear H
    have H := Lib.hid h
    clear h
    go_loopw [6, 7, 31] (fun _ _ iv wr => iv = .int .i64 0 ∧ St W0 wr K [.out (wn.heap.size + 1) ⟨[], 0⟩]) (fun _ _ _ _ => 0)
    case atStart => exact ⟨rfl, H.out⟩
    case round =>
      obtain ⟨rfl, hst⟩ := hrel
      clear H
      have H := Lib.hid hst
      clear hst
      go_wp2_with (first
        | (go_at_call 35; (with_reducible refine (so_text _ _ H.out).mono ?_); rw [TX.out]; rintro e wn ⟨rfl, h⟩; replace H := Lib.hid h; clear h)
        | (go_at_call 15; (with_reducible refine (s_new [] HSN.out H.out).mono ?_); rintro e wn ⟨bi, rfl, h⟩; replace H := Lib.hid h; clear h))
      go_loopw [11, 12, 13, 77] (fun _ _ _ iv wr => iv = .int .i64 0 ∧ St W0 wr K [.inp bi ⟨[], 0, 0⟩]) (fun _ _ _ _ _ => 0)
      case atStart => exact ⟨rfl, H.out.p1.drop⟩
      case round =>
        obtain ⟨rfl, hst⟩ := hrel
        clear H
        have H := Lib.hid hst
        clear hst
        go_wp2_with (go_at_call 24; (with_reducible refine (s_close bi _ H.out).mono ?_); rw [CL.out]; rintro e wn ⟨rfl, h⟩; replace H := Lib.hid h; clear h)
        go_ret
        exact ⟨rfl, H.out.below⟩
  | some ad =>
    go_enter Try.func11, Try.ntmps11
    go_wp2_with (first
      | (go_at_call 47; refine (speaks04  (by first | (first | with_reducible exact H.out | with_reducible exact H.out.p1 | with_reducible exact H.out.p2 | with_reducible exact H.out.p3 | with_reducible exact H.out.p4 | with_reducible exact H.out.p5) | ((repeat first | with_reducible refine St.drewN ?_ _ | with_reducible refine St.drew ?_ | with_reducible refine St.alloc ?_ _); first | with_reducible exact H.out | with_reducible exact H.out.p1 | with_reducible exact H.out.p2 | with_reducible exact H.out.p3 | with_reducible exact H.out.p4 | with_reducible exact H.out.p5))).mono ?_; rintro e wn ⟨rfl, h⟩; replace H := Lib.hid h; clear h))
    have h := (H.out.alloc (.cells #[] 63)).allocOut
    simp only [World.size_alloc] at h
    clear H
    have H := Lib.hid h
    clear h
    go_loopw [6, 7, 31] (fun _ _ iv wr => iv = .int .i64 0 ∧ St W0 wr K [.out (wn.heap.size + 1) ⟨[], 0⟩]) (fun _ _ _ _ => 0)
    case atStart => exact ⟨rfl, H.out⟩
    case round =>
      obtain ⟨rfl, hst⟩ := hrel
      clear H
      have H := Lib.hid hst
      clear hst
      go_wp2_with (first
        | (go_at_call 35; (with_reducible refine (so_text _ _ H.out).mono ?_); rw [TX.out]; rintro e wn ⟨rfl, h⟩; replace H := Lib.hid h; clear h)
        | (go_at_call 15; (with_reducible refine (s_new [] HSN.out H.out).mono ?_); rintro e wn ⟨bi, rfl, h⟩; replace H := Lib.hid h; clear h))
      go_loopw [11, 12, 13, 77] (fun _ _ _ iv wr => iv = .int .i64 0 ∧ St W0 wr K [.inp bi ⟨[], 0, 0⟩]) (fun _ _ _ _ _ => 0)
      case atStart => exact ⟨rfl, H.out.p1.drop⟩
      case round =>
        obtain ⟨rfl, hst⟩ := hrel
        clear H
        have H := Lib.hid hst
        clear hst
        go_wp2_with (go_at_call 24; (with_reducible refine (s_close bi _ H.out).mono ?_); rw [CL.out]; rintro e wn ⟨rfl, h⟩; replace H := Lib.hid h; clear h)
        go_ret
        exact ⟨rfl, H.out.below⟩

end Go.Proofs.Ytbcfnfcmghbelaa
