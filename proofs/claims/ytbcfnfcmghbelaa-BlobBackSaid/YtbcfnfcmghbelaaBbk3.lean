/- Blobs, one behind the other, walked on. -/
import Derived.Test.YtbcfnfcmghbelaaBbk2
namespace Go.Proofs.Ytbcfnfcmghbelaa
open Go.RowKit

set_option maxHeartbeats 1000000 in
set_option maxRecDepth 100000 in
theorem bb_main (l : List BlobS) (ks : List Int) (ql qk : Option Addr) (capl capk : Nat) (h0 : 0 < l.length) (hm1 : l.length ≤ 30) (hm2 : l.length ≤ ks.length) (hkr : ∀ x ∈ ks, 0 ≤ x ∧ x < 256) {W0 w : World} {K : Know} (hkl : K.has (Know.flat RB (.slice ql l.length capl) 2 l)) (hkk : K.has (Know.flat RU (.slice qk ks.length capk) 1 ks)) (h : St W0 w K []) :
    Calls Try.prog 11 #[.slice ql l.length capl, .slice qk ks.length capk] w fun en w' => en = .returned (.bool true) ∧ Below W0.heap.size W0 w' := by
  have d1 : decide ((30 : Int) < (l.length : Int)) = false := decide_eq_false (by omega)
  have d2 : decide (ks.length < l.length) = false := decide_eq_false (by omega)
  have d3 : ¬ ks.length < l.length := by omega
  have d4 : ¬ l = [] := by rintro rfl; simp at h0
  have HV0 := Lib.hid (show (⟨#[]⟩ : ByteArray) = bb [] from rfl)
  have HKL := Lib.hid hkl
  have HKK := Lib.hid hkk
  have HKR := Lib.hid hkr
  have HN1 := Lib.hid (show 0 + l.length ≤ maxLen by have : (30 : Nat) ≤ maxLen := by decide
                                                     omega)
  have HN2 := Lib.hid (show (0 + l.length) * 24 ≤ 140737488355328 by omega)
  obtain ⟨bo, off, hq⟩ := flat_at hkl h h0
  subst hq
  obtain ⟨bk, offk, hq⟩ := flat_at hkk h (by omega)
  subst hq
  have H := Lib.hid h
  clear h hkl hkk hkr
  go_enter Try.func11, Try.ntmps11
  go_wp2_with (first
    | (go_at_call 47; refine (speaks04  (by first | (first | with_reducible exact H.out | with_reducible exact H.out.p1 | with_reducible exact H.out.p2 | with_reducible exact H.out.p3 | with_reducible exact H.out.p4 | with_reducible exact H.out.p5) | ((repeat first | with_reducible refine St.drewN ?_ _ | with_reducible refine St.drew ?_ | with_reducible refine St.alloc ?_ _); first | with_reducible exact H.out | with_reducible exact H.out.p1 | with_reducible exact H.out.p2 | with_reducible exact H.out.p3 | with_reducible exact H.out.p4 | with_reducible exact H.out.p5))).mono ?_; rintro e wn ⟨rfl, h⟩; replace H := Lib.hid h; clear h)
    | (at_builtin; refine wpl_app_st rfl _ _ 83 rfl 63 Try.underlying83 elem_blob _ 0 [] rfl (H.out.emptyRow 63 2) ⟨bo, off, none⟩ l.length capl _ rfl (bcells_len l) (flatB_news HKL.out (H.out.emptyRow 63 2)) bcells_one HN1.out HN2.out ?_; intro v1 w1 h; rw [Nat.zero_add, List.nil_append] at h; obtain ⟨g, capg, hg⟩ := h.rowSlice h0; subst hg; obtain ⟨po, hpo⟩ : ∃ b, w1.heap.size = b := ⟨_, rfl⟩; replace H := Lib.hid h; clear h))
  have h := H.out.allocOut
  rw [hpo] at h
  clear H
  have H := Lib.hid h
  clear h
  go_loopw [6, 7, 31] (fun _ _ iv wr => ∃ k : Nat, k ≤ l.length ∧ iv = .int .i64 k ∧ SOk (l.take k) ∧ St W0 wr K [.out po ⟨pre ks l k, 0⟩, .row (.slice (some ⟨g, 0, none⟩) l.length capg) 63 2 l.length ((midB l k).flatMap bcells)]) (fun _ _ iv _ => l.length - (intOf iv).toNat)
  case atStart => exact ⟨0, Nat.zero_le _, rfl, (fun _ h => by cases h), H.out⟩
  case round =>
    obtain ⟨k, hk, rfl, hok, hst⟩ := hrel
    clear H
    have HOK := Lib.hid hok
    have H := Lib.hid hst
    clear hst hok
    by_cases hlt : k < l.length
    · have hml := midB_len l k hk
      obtain ⟨c0, c1⟩ := bcells_get (midB l k) k (by omega)
      rw [midB_get l k hlt] at c0 c1
      obtain ⟨⟨n, d⟩, hbb⟩ : ∃ n, l[k] = n := ⟨_, rfl⟩
      rw [hbb] at c0 c1
      simp only at c0 c1
      have HV1 := Lib.hid c1
      rw [← H.out.p1.rowCell (k * 2) (by omega)] at c0
      rw [← H.out.p1.rowCell (k * 2 + 1) (by omega)] at c1
      have hkk : k < ks.length := by omega
      obtain ⟨cs, hR, hc⟩ := flat_cell HKK.out H.out k hkk
      unfold RU at hR
      subst hR
      have c2 := hc 0 _ rfl
      rw [Nat.mul_one, Nat.add_zero] at c2
      have hx := HKR.out ks[k] (List.getElem_mem hkk)
      obtain ⟨x, hxx⟩ : ∃ n, ks[k] = n := ⟨_, rfl⟩
      rw [hxx] at c2 hx
      have hki : (k : Int) < (l.length : Int) := by omega
      have hki2 : (k : Int) < (ks.length : Int) := by omega
      clear hc
      by_cases g1 : 120 < d.length
      · have g1' : decide ((120 : Int) < (d.length : Int)) = true := decide_eq_true (by omega)
        clear g1 hml
        go_wp2
        go_ret
        exact ⟨rfl, (H.out.alloc _).below⟩
      · have g1' : decide ((120 : Int) < (d.length : Int)) = false := decide_eq_false (by omega)
        cases n with
        | false =>
          have hdl : (d : Bs).length ≤ 120 := by first | omega | simp
          have hrt : (⟨false, d⟩ : BlobS).right = true := by rfl
          have hnb : normB l[k] = ⟨false, d⟩ := by rw [hbb]; rfl
          have hps := pre_succ ks l k hlt hkk
          rw [hnb, hxx] at hps
          have hel : (pre ks l k).length ≤ 10000 := by have := pre_le ks l k HOK.out; omega
          have HOK2 := Lib.hid (HOK.out.snoc hlt (by rw [hbb]; show d.length ≤ 120; omega))
          have HDL := Lib.hid hdl
          have h := H.out
          rw [midB_same l k hlt (by rw [hbb])] at h
          have h := (h.allocRaw #[.bool false, .string (bb d)] 63).p1
          obtain ⟨e, hee⟩ : ∃ e, pre ks l k = e := ⟨_, rfl⟩
          rw [hee] at h hps hel
          have HEL := Lib.hid hel
          clear H
          have H := Lib.hid h
          obtain ⟨cs3, hR3, hc3⟩ := flat_cell HKK.out h k hkk
          unfold RU at hR3
          rw [hxx] at hR3
          subst hR3
          have c3 := hc3 0 _ rfl
          simp only [Nat.mul_one, Nat.add_zero] at c3
          clear hc3 c2
          clear h hee hel hbb hxx hnb hml g1
          rcases (by omega : x % 4 = 0 ∨ x % 4 = 1 ∨ x % 4 = 2 ∨ x % 4 = 3) with he | he | he | he
          · have ht : x.tmod 4 = 0 := by rw [Int.tmod_eq_emod_of_nonneg hx.1]; exact he
            have e1 : encK x ⟨false, d⟩ = encF 4 ⟨false, d⟩ := by unfold encK; simp [he]
            have E := Lib.hid (show (⟨e, 0⟩ : OutS).putFixed ⟨false, d⟩ 4 = ⟨pre ks l (k + 1), 0⟩ by rw [putK0 _ _ hrt hdl, hps, e1])
            clear he e1 hdl hrt hps hx
            go_wp2_with (first
          | (go_at_call 48; (with_reducible refine (pb0 po e _ d false _ rfl E.out HDL.out HEL.out H.out).mono ?_); rintro e wn ⟨rfl, h⟩; replace H := Lib.hid h; clear h))
            go_roundw
            case rel => exact ⟨k + 1, hlt, by go_num, HOK2.out, H.out.p1.drop⟩
            case measure => first | (simp [intOf]; done) | (simp [intOf]; omega)
          · have ht : x.tmod 4 = 1 := by rw [Int.tmod_eq_emod_of_nonneg hx.1]; exact he
            have e1 : encK x ⟨false, d⟩ = encV ⟨false, d⟩ := by unfold encK; simp [he]
            have E := Lib.hid (show (⟨e, 0⟩ : OutS).putVaried ⟨false, d⟩ = ⟨pre ks l (k + 1), 0⟩ by rw [putK1 _ _ hrt hdl, hps, e1])
            clear he e1 hdl hrt hps hx
            go_wp2_with (first
          | (go_at_call 49; (with_reducible refine (pb1 po e _ d false _ rfl E.out HDL.out HEL.out H.out).mono ?_); rintro e wn ⟨rfl, h⟩; replace H := Lib.hid h; clear h))
            go_roundw
            case rel => exact ⟨k + 1, hlt, by go_num, HOK2.out, H.out.p1.drop⟩
            case measure => first | (simp [intOf]; done) | (simp [intOf]; omega)
          · have ht : x.tmod 4 = 2 := by rw [Int.tmod_eq_emod_of_nonneg hx.1]; exact he
            have e1 : encK x ⟨false, d⟩ = encF 2 ⟨false, d⟩ := by unfold encK; simp [he]
            have E := Lib.hid (show (⟨e, 0⟩ : OutS).putFixed ⟨false, d⟩ 2 = ⟨pre ks l (k + 1), 0⟩ by rw [putK2 _ ⟨false, d⟩ rfl hdl, hps, e1])
            clear he e1 hdl hrt hps hx
            go_wp2_with (first
          | (go_at_call 50; (with_reducible refine (pb2 po e _ d false _ rfl E.out HDL.out HEL.out H.out).mono ?_); rintro e wn ⟨rfl, h⟩; replace H := Lib.hid h; clear h))
            go_roundw
            case rel => exact ⟨k + 1, hlt, by go_num, HOK2.out, H.out.p1.drop⟩
            case measure => first | (simp [intOf]; done) | (simp [intOf]; omega)
          · have ht : x.tmod 4 = 3 := by rw [Int.tmod_eq_emod_of_nonneg hx.1]; exact he
            have e1 : encK x ⟨false, d⟩ = encV ⟨false, d⟩ := by unfold encK; simp [he]
            have E := Lib.hid (show (⟨e, 0⟩ : OutS).putVaried ⟨false, d⟩ = ⟨pre ks l (k + 1), 0⟩ by rw [putK1 _ ⟨false, d⟩ rfl hdl, hps, e1])
            clear he e1 hdl hrt hps hx
            go_wp2_with (first
          | (go_at_call 51; (with_reducible refine (pb3 po e _ d false _ rfl E.out HDL.out HEL.out H.out).mono ?_); rintro e wn ⟨rfl, h⟩; replace H := Lib.hid h; clear h))
            go_roundw
            case rel => exact ⟨k + 1, hlt, by go_num, HOK2.out, H.out.p1.drop⟩
            case measure => first | (simp [intOf]; done) | (simp [intOf]; omega)
        | true =>
          have hdl : ([] : Bs).length ≤ 120 := by first | omega | simp
          have hrt : (⟨true, []⟩ : BlobS).right = true := by rfl
          have hnb : normB l[k] = ⟨true, []⟩ := by rw [hbb]; rfl
          have hps := pre_succ ks l k hlt hkk
          rw [hnb, hxx] at hps
          have hel : (pre ks l k).length ≤ 10000 := by have := pre_le ks l k HOK.out; omega
          have HOK2 := Lib.hid (HOK.out.snoc hlt (by rw [hbb]; show d.length ≤ 120; omega))
          have HDL := Lib.hid hdl
          have h := H.out
          have ha := (h.allocRaw #[.bool true, .string ⟨#[]⟩] 63).p2
          have f1 := ha.rowFree (k * 2 + 1)
          have cg := (ha.rowCell (k * 2 + 1) (by omega)).trans HV1.out
          clear ha
          have h : St W0 _ K [.out po ⟨pre ks l k, 0⟩, .raw wr.heap.size #[.bool true, .string ⟨#[]⟩] 63, .row (.slice (some ⟨g, 0, none⟩) l.length capg) 63 2 l.length (((midB l k).flatMap bcells).set (k * 2 + 1) (.string ⟨#[]⟩))] := ((h.allocRaw #[.bool true, .string ⟨#[]⟩] 63).p2.rowSet (k * 2 + 1) (.string ⟨#[]⟩)).sel [2, 1, 0]
          rw [midB_none l k hlt (by rw [hbb])] at h
          obtain ⟨e, hee⟩ : ∃ e, pre ks l k = e := ⟨_, rfl⟩
          rw [hee] at h hps hel
          have HEL := Lib.hid hel
          clear H
          have H := Lib.hid h
          obtain ⟨cs3, hR3, hc3⟩ := flat_cell HKK.out h k hkk
          unfold RU at hR3
          rw [hxx] at hR3
          subst hR3
          have c3 := hc3 0 _ rfl
          simp only [Nat.mul_one, Nat.add_zero] at c3
          clear hc3 c2
          have e0 := h.p1.rawCell 0
          have e1 := h.p1.rawCell 1
          simp at e0 e1
          clear h hee hel hbb hxx hnb hml g1
          rcases (by omega : x % 4 = 0 ∨ x % 4 = 1 ∨ x % 4 = 2 ∨ x % 4 = 3) with he | he | he | he
          · have ht : x.tmod 4 = 0 := by rw [Int.tmod_eq_emod_of_nonneg hx.1]; exact he
            have e1 : encK x ⟨true, []⟩ = encF 4 ⟨true, []⟩ := by unfold encK; simp [he]
            have E := Lib.hid (show (⟨e, 0⟩ : OutS).putFixed ⟨true, []⟩ 4 = ⟨pre ks l (k + 1), 0⟩ by rw [putK0 _ _ hrt hdl, hps, e1])
            clear he e1 hdl hrt hps hx
            go_wp2_with (first
          | (go_at_call 48; (with_reducible refine (pb0 po e _ [] true _ HV0.out E.out HDL.out HEL.out H.out).mono ?_); rintro e wn ⟨rfl, h⟩; replace H := Lib.hid h; clear h))
            go_roundw
            case rel => exact ⟨k + 1, hlt, by go_num, HOK2.out, H.out.p1.drop⟩
            case measure => first | (simp [intOf]; done) | (simp [intOf]; omega)
          · have ht : x.tmod 4 = 1 := by rw [Int.tmod_eq_emod_of_nonneg hx.1]; exact he
            have e1 : encK x ⟨true, []⟩ = encV ⟨true, []⟩ := by unfold encK; simp [he]
            have E := Lib.hid (show (⟨e, 0⟩ : OutS).putVaried ⟨true, []⟩ = ⟨pre ks l (k + 1), 0⟩ by rw [putK1 _ _ hrt hdl, hps, e1])
            clear he e1 hdl hrt hps hx
            go_wp2_with (first
          | (go_at_call 49; (with_reducible refine (pb1 po e _ [] true _ HV0.out E.out HDL.out HEL.out H.out).mono ?_); rintro e wn ⟨rfl, h⟩; replace H := Lib.hid h; clear h))
            go_roundw
            case rel => exact ⟨k + 1, hlt, by go_num, HOK2.out, H.out.p1.drop⟩
            case measure => first | (simp [intOf]; done) | (simp [intOf]; omega)
          · have ht : x.tmod 4 = 2 := by rw [Int.tmod_eq_emod_of_nonneg hx.1]; exact he
            have e1 : encK x ⟨true, []⟩ = encF 2 ⟨false, []⟩ := by unfold encK; simp [he]
            have E := Lib.hid (show (⟨e, 0⟩ : OutS).putFixed ⟨false, []⟩ 2 = ⟨pre ks l (k + 1), 0⟩ by rw [putK2 _ ⟨false, []⟩ rfl hdl, hps, e1])
            clear he e1 hdl hrt hps hx
            go_wp2_with (first
          | (go_at_call 50; (with_reducible refine (pb2 po e _ [] true _ HV0.out E.out HDL.out HEL.out H.out).mono ?_); rintro e wn ⟨rfl, h⟩; replace H := Lib.hid h; clear h))
            go_roundw
            case rel => exact ⟨k + 1, hlt, by go_num, HOK2.out, H.out.p1.drop⟩
            case measure => first | (simp [intOf]; done) | (simp [intOf]; omega)
          · have ht : x.tmod 4 = 3 := by rw [Int.tmod_eq_emod_of_nonneg hx.1]; exact he
            have e1 : encK x ⟨true, []⟩ = encV ⟨false, []⟩ := by unfold encK; simp [he]
            have E := Lib.hid (show (⟨e, 0⟩ : OutS).putVaried ⟨false, []⟩ = ⟨pre ks l (k + 1), 0⟩ by rw [putK1 _ ⟨false, []⟩ rfl hdl, hps, e1])
            clear he e1 hdl hrt hps hx
            go_wp2_with (first
          | (go_at_call 51; (with_reducible refine (pb3 po e _ [] true _ HV0.out E.out HDL.out HEL.out H.out).mono ?_); rintro e wn ⟨rfl, h⟩; replace H := Lib.hid h; clear h))
            go_roundw
            case rel => exact ⟨k + 1, hlt, by go_num, HOK2.out, H.out.p1.drop⟩
            case measure => first | (simp [intOf]; done) | (simp [intOf]; omega)
    · have hkl : k = l.length := by omega
      subst hkl
      rw [midB_all] at H
      rw [List.take_length] at HOK
      have hel : (pre ks l l.length).length ≤ 10000 := by have := pre_le ks l l.length (by rw [List.take_length]; exact HOK.out); omega
      have hdr := pre_drop ks l hm2
      have hpl : ∀ k, k ≤ l.length → (pre ks l k).length ≤ (pre ks l l.length).length := fun k hk => pre_mono ks l hm2 k hk
      obtain ⟨S, hS⟩ : ∃ s, pre ks l l.length = s := ⟨_, rfl⟩
      rw [hS] at H hel hdr hpl
      have HSL := Lib.hid (show (pre ks l l.length).length = S.length by rw [hS])
      have HDR := Lib.hid hdr
      have HPL := Lib.hid hpl
      have HSN := Lib.hid (show S.length ≤ 140737488355328 by omega)
      have TX := Lib.hid (show (⟨S, 0⟩ : OutS).text = (S, 0) from rfl)
      have CL := Lib.hid (show (⟨S, (pre ks l l.length).length, 0⟩ : InS).close = ⟨S, S.length, 0⟩ by rw [hS]; unfold InS.close; rw [if_neg (by simp only [InS.left]; omega)])
      clear hel hdr hpl hS
      go_wp2_with (first
        | (go_at_call 35; (with_reducible refine (so_text po _ H.out).mono ?_); rw [TX.out]; rintro e wn ⟨rfl, h⟩; replace H := Lib.hid h; clear h)
        | (go_at_call 15; (with_reducible refine (s_new S HSN.out H.out).mono ?_); rintro e wn ⟨bi, rfl, h⟩; replace H := Lib.hid h; clear h))
      go_loopw [11, 12, 13, 77] (fun _ _ _ iv wr => ∃ k : Nat, k ≤ l.length ∧ iv = .int .i64 k ∧ St W0 wr K [.inp bi ⟨S, (pre ks l k).length, 0⟩, .out po ⟨S, 0⟩, .row (.slice (some ⟨g, 0, none⟩) l.length capg) 63 2 l.length ((l.map normB).flatMap bcells)]) (fun _ _ _ iv _ => l.length - (intOf iv).toNat)
      case atStart => exact ⟨0, Nat.zero_le _, rfl, H.out⟩
      case round =>
        obtain ⟨k, hk, rfl, hst⟩ := hrel
        clear H
        have H := Lib.hid hst
        clear hst
        by_cases hlt : k < l.length
        · have hml : (l.map normB).length = l.length := List.length_map _
          obtain ⟨c0, c1⟩ := bcells_get (l.map normB) k (by omega)
          rw [normB_get l k hlt] at c0 c1
          have hdl := normB_len l[k] (HOK.out l[k] (List.getElem_mem hlt))
          have hrt := normB_right l[k]
          have hkk : k < ks.length := by omega
          have hps := pre_succ ks l k hlt hkk
          have hdr := HDR.out k hlt
          have hpl := HPL.out k hk
          obtain ⟨⟨n, d⟩, hbb⟩ : ∃ n, normB l[k] = n := ⟨_, rfl⟩
          rw [hbb] at c0 c1 hdl hrt hps hdr
          simp only at c0 c1 hdl
          have h := H.out
          obtain ⟨bE, hbE⟩ : ∃ b, wr.heap.size = b := ⟨_, rfl⟩
          obtain ⟨bG, hbG⟩ : ∃ b, bE + 1 = b := ⟨_, rfl⟩
          rw [← (h.sel [2, 0, 0]).rowCell (k * 2) (by omega)] at c0
          rw [← (h.sel [2, 0, 0]).rowCell (k * 2 + 1) (by omega)] at c1
          have h1 := h.allocRaw #[.bool n, .string (bb d)] 63
          have h2 := h1.allocRaw #[.bool false, .string ⟨#[]⟩] 63
          simp only [World.size_alloc, hbE, hbG] at h2
          obtain ⟨cs3, hR3, hc3⟩ := flat_cell HKK.out h2 k hkk
          unfold RU at hR3
          subst hR3
          have c3 := hc3 0 _ rfl
          simp only [Nat.mul_one, Nat.add_zero] at c3
          have hx := HKR.out ks[k] (List.getElem_mem hkk)
          obtain ⟨x, hxx⟩ : ∃ n, ks[k] = n := ⟨_, rfl⟩
          rw [hxx] at c3 hx hps hdr
          have hki : (k : Int) < (l.length : Int) := by omega
          have hki2 : (k : Int) < (ks.length : Int) := by omega
          have h : St W0 _ K [.inp bi ⟨S, (pre ks l k).length, 0⟩, .raw bE #[.bool n, .string (bb d)] 63, .raw bG #[.bool false, .string ⟨#[]⟩] 63, .out po ⟨S, 0⟩, .row (.slice (some ⟨g, 0, none⟩) l.length capg) 63 2 l.length ((l.map normB).flatMap bcells)] := h2.sel [2, 1, 0, 0, 0]
          clear H hc3 h1 h2 hbb hxx hml
          have H := Lib.hid h
          clear h
          rcases (by omega : x % 4 = 0 ∨ x % 4 = 1 ∨ x % 4 = 2 ∨ x % 4 = 3) with he | he | he | he
          · have ht : x.tmod 4 = 0 := by rw [Int.tmod_eq_emod_of_nonneg hx.1]; exact he
            have e1 : encK x ⟨n, d⟩ = encF 4 ⟨n, d⟩ := by unfold encK; simp [he]
            rw [e1] at hps hdr
            have hg : (⟨S, (pre ks l k).length, 0⟩ : InS).fixed 4 = (⟨n, d⟩, ⟨S, (pre ks l k).length + (encF 4 ⟨n, d⟩).length, 0⟩) := getK0 S _ _ ⟨n, d⟩ hrt hdl hpl hdr
            rw [show (pre ks l k).length + (encF 4 ⟨n, d⟩).length = (pre ks l (k + 1)).length by rw [hps, List.length_append]] at hg
            have E := Lib.hid hg
            clear he e1 hdl hrt hps hx hdr hg hpl
            go_wp2_with (first
              | (go_at_call 60; (with_reducible refine (pg0 bi _ _ d n E.out H.out).mono ?_); rintro e wn ⟨rfl, h⟩; replace H := Lib.hid h; clear h; have F0 := H.out.p2.rawFree 0; have F1 := H.out.p2.rawFree 1; have X0 := H.out.p2.rawCell 0; have X1 := H.out.p2.rawCell 1; simp at X0 X1; have hz := (H.out.p2.rawSet 0 (.bool n)).rawSet 1 (.string (bb d)); have Y0 := hz.rawCell 0; have Y1 := hz.rawCell 1; have Z0 := hz.p2.rawCell 0; have Z1 := hz.p2.rawCell 1; simp at Y0 Y1 Z0 Z1; simp at hz))
            go_roundw
            case rel => exact ⟨k + 1, hlt, by go_num, hz.drop.p1.drop⟩
            case measure => first | (simp [intOf]; done) | (simp [intOf]; omega)
          · have ht : x.tmod 4 = 1 := by rw [Int.tmod_eq_emod_of_nonneg hx.1]; exact he
            have e1 : encK x ⟨n, d⟩ = encV ⟨n, d⟩ := by unfold encK; simp [he]
            rw [e1] at hps hdr
            have hg : (⟨S, (pre ks l k).length, 0⟩ : InS).varied = (⟨n, d⟩, ⟨S, (pre ks l k).length + (encV ⟨n, d⟩).length, 0⟩) := getK1 S _ _ ⟨n, d⟩ hrt (hdl) hpl hdr
            rw [show (pre ks l k).length + (encV ⟨n, d⟩).length = (pre ks l (k + 1)).length by rw [hps, List.length_append]] at hg
            have E := Lib.hid hg
            clear he e1 hdl hrt hps hx hdr hg hpl
            go_wp2_with (first
              | (go_at_call 61; (with_reducible refine (pg1 bi _ _ d n E.out H.out).mono ?_); rintro e wn ⟨rfl, h⟩; replace H := Lib.hid h; clear h; have F0 := H.out.p2.rawFree 0; have F1 := H.out.p2.rawFree 1; have X0 := H.out.p2.rawCell 0; have X1 := H.out.p2.rawCell 1; simp at X0 X1; have hz := (H.out.p2.rawSet 0 (.bool n)).rawSet 1 (.string (bb d)); have Y0 := hz.rawCell 0; have Y1 := hz.rawCell 1; have Z0 := hz.p2.rawCell 0; have Z1 := hz.p2.rawCell 1; simp at Y0 Y1 Z0 Z1; simp at hz))
            go_roundw
            case rel => exact ⟨k + 1, hlt, by go_num, hz.drop.p1.drop⟩
            case measure => first | (simp [intOf]; done) | (simp [intOf]; omega)
          · have ht : x.tmod 4 = 2 := by rw [Int.tmod_eq_emod_of_nonneg hx.1]; exact he
            have e1 : encK x ⟨n, d⟩ = encF 2 ⟨false, d⟩ := by unfold encK; simp [he]
            rw [e1] at hps hdr
            have hg : (⟨S, (pre ks l k).length, 0⟩ : InS).text = (d, ⟨S, (pre ks l k).length + (encF 2 ⟨false, d⟩).length, 0⟩) := getK2 S _ d _ hdl hpl hdr
            rw [show (pre ks l k).length + (encF 2 ⟨false, d⟩).length = (pre ks l (k + 1)).length by rw [hps, List.length_append]] at hg
            have E := Lib.hid hg
            clear he e1 hdl hrt hps hx hdr hg hpl
            go_wp2_with (first
              | (go_at_call 63; (with_reducible refine (pg2 bi _ _ d E.out H.out).mono ?_); rintro e wn ⟨rfl, h⟩; replace H := Lib.hid h; clear h)
              | (go_at_call 56; (with_reducible refine (pgOf d H.out).mono ?_); rintro e wn ⟨rfl, h⟩; replace H := Lib.hid h; clear h; have F0 := H.out.p2.rawFree 0; have F1 := H.out.p2.rawFree 1; have X0 := H.out.p2.rawCell 0; have X1 := H.out.p2.rawCell 1; simp at X0 X1; have hz := (H.out.p2.rawSet 0 (.bool false)).rawSet 1 (.string (bb d)); have Y0 := hz.rawCell 0; have Y1 := hz.rawCell 1; have Z0 := hz.p2.rawCell 0; have Z1 := hz.p2.rawCell 1; simp at Y0 Y1 Z0 Z1; simp at hz; have G0 := hz.p2.rawFree 0; have hy := hz.p2.rawSet 0 (.bool false); have V0 := hy.rawCell 0; have V1 := hy.rawCell 1; have U0 := hy.p1.rawCell 0; have U1 := hy.p1.rawCell 1; simp at V0 V1 U0 U1; simp at hy))
            go_roundw
            case rel => exact ⟨k + 1, hlt, by go_num, hy.drop.drop⟩
            case measure => first | (simp [intOf]; done) | (simp [intOf]; omega)
          · have ht : x.tmod 4 = 3 := by rw [Int.tmod_eq_emod_of_nonneg hx.1]; exact he
            have e1 : encK x ⟨n, d⟩ = encV ⟨false, d⟩ := by unfold encK; simp [he]
            rw [e1] at hps hdr
            have hg : (⟨S, (pre ks l k).length, 0⟩ : InS).name = (d, ⟨S, (pre ks l k).length + (encV ⟨false, d⟩).length, 0⟩) := getK3 S _ d _ hdl hpl hdr
            rw [show (pre ks l k).length + (encV ⟨false, d⟩).length = (pre ks l (k + 1)).length by rw [hps, List.length_append]] at hg
            have E := Lib.hid hg
            clear he e1 hdl hrt hps hx hdr hg hpl
            go_wp2_with (first
              | (go_at_call 64; (with_reducible refine (pg3 bi _ _ d E.out H.out).mono ?_); rintro e wn ⟨rfl, h⟩; replace H := Lib.hid h; clear h)
              | (go_at_call 56; (with_reducible refine (pgOf d H.out).mono ?_); rintro e wn ⟨rfl, h⟩; replace H := Lib.hid h; clear h; have F0 := H.out.p2.rawFree 0; have F1 := H.out.p2.rawFree 1; have X0 := H.out.p2.rawCell 0; have X1 := H.out.p2.rawCell 1; simp at X0 X1; have hz := (H.out.p2.rawSet 0 (.bool false)).rawSet 1 (.string (bb d)); have Y0 := hz.rawCell 0; have Y1 := hz.rawCell 1; have Z0 := hz.p2.rawCell 0; have Z1 := hz.p2.rawCell 1; simp at Y0 Y1 Z0 Z1; simp at hz; have G0 := hz.p2.rawFree 0; have hy := hz.p2.rawSet 0 (.bool false); have V0 := hy.rawCell 0; have V1 := hy.rawCell 1; have U0 := hy.p1.rawCell 0; have U1 := hy.p1.rawCell 1; simp at V0 V1 U0 U1; simp at hy))
            go_roundw
            case rel => exact ⟨k + 1, hlt, by go_num, hy.drop.drop⟩
            case measure => first | (simp [intOf]; done) | (simp [intOf]; omega)
        · have hkl : k = l.length := by omega
          subst hkl
          go_wp2_with (go_at_call 24; (with_reducible refine (s_close bi _ H.out).mono ?_); rw [CL.out]; rintro e wn ⟨rfl, h⟩; replace H := Lib.hid h; clear h)
          go_ret
          exact ⟨rfl, H.out.below⟩

end Go.Proofs.Ytbcfnfcmghbelaa
