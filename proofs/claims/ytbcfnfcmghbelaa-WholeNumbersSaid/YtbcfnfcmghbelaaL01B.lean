/- Layer 1: numbers, there and back. -/
import Derived.Test.YtbcfnfcmghbelaaL01S
import Derived.Test.YtbcfnfcmghbelaaSame
import Derived.Test.YtbcfnfcmghbelaaOut
namespace Go.Proofs.Ytbcfnfcmghbelaa
open Go.RowKit

theorem info_int : (Try.prog.info? 3).map (fun i => (i.zero, i.size, i.bytes)) = some (some (.int .i64 0), 1, 8) := by kernel_rfl

theorem cells_new (w : World) (x : Value) (T : TypeId) : ∀ j u, [x][j]? = some u → (w.alloc (.cells #[x] T)).cell? ((⟨w.heap.size, 0, none⟩ : Addr).add j) = some u := by
  intro j u hj
  cases j with
  | zero => simp [Addr.add] at hj ⊢; exact hj
  | succ j => simp at hj

theorem cells_int1 : Try.prog.cellsOf 3 = 1 := by kernel_rfl
theorem rint_open {H : Type} {enc : TypeId × Value → H} {w : World} {spare : Nat → Bool} {held : Bool} {N : Nat} : ∀ n cs y, DataW.trod enc Try.prog w 0 spare held n 3 cs = some y → (∀ x ∈ y.2, x.block < N) → ∃ x, RInt w cs x := by
  intro n cs y h _
  obtain ⟨x, e, _, q⟩ := DataW.trod_int Try.underlying3 h
  have r := wf_i64 q
  exact ⟨x, e, r.1, r.2⟩

/-- The numbers that fit. -/
def kept (k : Nat) (l : List Int) : List Int := l.filter fun n => decide (fits n k)
def bytesOf (k : Nat) (l : List Int) : Bs := l.flatMap fun n => beBytes n k

theorem kept_snoc (k : Nat) (l : List Int) (x : Int) : kept k (l ++ [x]) = kept k l ++ (if fits x k then [x] else []) := by
  unfold kept
  rw [List.filter_append]
  congr 1
  by_cases h : fits x k <;> simp [List.filter_cons, h]
theorem bytesOf_length (k : Nat) (l : List Int) : (bytesOf k l).length = l.length * k := by
  unfold bytesOf
  induction l with
  | nil => simp
  | cons x l ih => simp only [List.flatMap_cons, List.length_append, ih, beBytes_length, List.length_cons, Nat.succ_mul]; omega
theorem bytesOf_snoc (k : Nat) (l : List Int) (x : Int) : bytesOf k (l ++ [x]) = bytesOf k l ++ beBytes x k := by
  simp [bytesOf]
theorem kept_fits {k : Nat} {l : List Int} {x : Int} (h : x ∈ kept k l) : fits x k := by
  unfold kept at h
  simpa using (List.mem_filter.1 h).2
theorem kept_length (k : Nat) (l : List Int) : (kept k l).length ≤ l.length := List.length_filter_le _ _

/-- Of the bytes of numbers the next one is read. -/
theorem int_next (k : Nat) (hk : 1 ≤ k) (hk8 : k ≤ 8) (a : List Int) (x : Int) (b : List Int) (hx : fits x k) :
    (⟨bytesOf k (a ++ x :: b), a.length * k, 0⟩ : InS).int k = (x, ⟨bytesOf k (a ++ x :: b), (a.length + 1) * k, 0⟩) := by
  have hl : (bytesOf k (a ++ x :: b)).length = a.length * k + k + b.length * k := by
    rw [bytesOf_length]; simp only [List.length_append, List.length_cons]; rw [Nat.add_mul, Nat.add_mul]; omega
  have hd : (bytesOf k (a ++ x :: b)).drop (a.length * k) = beBytes x k ++ bytesOf k b := by
    have : bytesOf k (a ++ x :: b) = bytesOf k a ++ (beBytes x k ++ bytesOf k b) := by simp [bytesOf]
    rw [this, ← bytesOf_length k a, List.drop_left]
  unfold InS.int
  rw [if_neg (by omega), InS.take_ok (n := (k : Int)) rfl (by omega) (by simp only [InS.left, hl]; omega)]
  simp only [hd, Int.toNat_natCast]
  have ht : (beBytes x k ++ bytesOf k b).take k = beBytes x k := by
    have h2 := beBytes_length x k
    rw [List.take_append_of_le_length (by omega), List.take_of_length_le (by omega)]
  rw [ht, (sInt_beBytes_iff x k hk).2 hx.2.2, Nat.add_mul, Nat.one_mul]

set_option maxHeartbeats 4000000 in
set_option maxRecDepth 100000 in
theorem inputBack_any (l : List Int) (v : Value) (size : Int) (w : World) (hr : RowsOf RInt (· < w.heap.size) w v 1 l) (hl : l.length ≤ maxLen) :
    Calls Try.prog 4 #[v, .int .i64 size] w fun en w' => en = .returned (.bool true) ∧ Below w.heap.size w w' := by
  unfold maxLen at hl
  have hrg : ∀ x ∈ l, -9223372036854775808 ≤ x ∧ x < 9223372036854775808 := by
    obtain ⟨_, _, _, hc⟩ := hr
    intro x hx
    obtain ⟨i, hi, rfl⟩ := List.getElem_of_mem hx
    obtain ⟨_, _, _, _, _, hc⟩ := hc (by omega)
    obtain ⟨_, _, ⟨_, h⟩, _⟩ := hc i hi
    exact h
  have HRG := Lib.hid hrg
  obtain ⟨p, cap, rfl, hrow⟩ := hr.int
  have HROW := Lib.hid hrow
  have hl2 : l.length ≤ 9223372036854775807 := by omega
  clear hrow hl hr hrg
  by_cases h60 : 60 < l.length
  · go_enter Try.func4, Try.ntmps4
    go_wp2_with (first
      | (go_at_call 14; refine (speaks01 _).mono ?_; rintro e w1 ⟨rfl, k1⟩; have K1 := Lib.hid k1; clear k1))
    go_ret
    exact ⟨rfl, (below0 w).k K1.out none_M⟩
  · clear hl2
    by_cases h1 : size < 1
    · go_enter Try.func4, Try.ntmps4
      go_wp2_with (first
        | (go_at_call 14; refine (speaks01 _).mono ?_; rintro e w1 ⟨rfl, k1⟩; have K1 := Lib.hid k1; clear k1))
      go_ret
      exact ⟨rfl, (below0 w).k K1.out none_M⟩
    · by_cases h8 : 8 < size
      · go_enter Try.func4, Try.ntmps4
        go_wp2_with (first
          | (go_at_call 14; refine (speaks01 _).mono ?_; rintro e w1 ⟨rfl, k1⟩; have K1 := Lib.hid k1; clear k1))
        go_ret
        exact ⟨rfl, (below0 w).k K1.out none_M⟩
      · obtain ⟨n, rfl⟩ : ∃ n : Nat, size = n := ⟨size.toNat, by omega⟩
        have hd1 : decide ((n : Int) < 1) = false := by simpa using h1
        have hd8 : decide (8 < (n : Int)) = false := by simpa using h8
        have HN := Lib.hid (show 1 ≤ n ∧ n ≤ 8 by omega)
        clear h1 h8
        obtain ⟨i0, hi, hz0, hz1, hz2⟩ := info_parts info_int
        have HI := Lib.hid (And.intro hi (And.intro hz0 (And.intro hz1 hz2)))
        clear hi hz0 hz1 hz2
        go_enter Try.func4, Try.ntmps4
        go_wp2_with (first
          | (go_at_call 14; refine (speaks01 _).mono ?_; rintro e w1 ⟨rfl, k1⟩; have K1 := Lib.hid k1; clear k1))
        have hsz1 := K1.out.size
        go_loopw [5, 6, 27] (fun sv gv kv wr => ∃ (k : Nat), k ≤ l.length ∧ sv = .string (bb (bytesOf n (kept n (l.take k)))) ∧ kv = .int .i64 k ∧ wr.ownsRow 0 3 1 gv (kept n (l.take k)).length ((kept n (l.take k)).map (Value.int .i64)) ∧ (∀ x, gv.ownBlock = some x → w.heap.size ≤ x) ∧ Below w.heap.size w wr) (fun _ _ kv _ => l.length - (intOf kv).toNat)
        case atStart =>
          refine ⟨0, Nat.zero_le _, rfl, rfl, ⟨rfl, .inr ⟨w1.heap.size, 0, #[], rfl, Nat.zero_le _, heap_alloc_new w1 _, Nat.le_refl _, by simp [maxLen], rfl, rfl⟩⟩, ?_, ((below0 w).k K1.out none_M).a _⟩
          intro x hx
          simp [Value.ownBlock] at hx
          omega
        case round =>
          obtain ⟨k, hkl, rfl, rfl, hown, hgb, hbl⟩ := hrel
          have HOWN := Lib.hid hown
          have HGB := Lib.hid hgb
          have HBL := Lib.hid hbl
          clear hown hgb hbl
          by_cases hlt : k < l.length
          · obtain ⟨b, off, rfl, hbD, hbs, hcells⟩ := HROW.out (by omega)
            have c0 : wr.cell? ⟨b, off + k, none⟩ = some (.int .i64 l[k]) := (HBL.out.cell (p := ⟨b, off + k, none⟩) hbD).trans (hcells k hlt)
            have hrx := HRG.out l[k] (List.getElem_mem hlt)
            have ht : l.take (k + 1) = l.take k ++ [l[k]] := List.take_succ_eq_append_getElem hlt
            have hkl2 : (kept n (l.take k)).length ≤ 60 := Nat.le_trans (kept_length _ _) (by rw [List.length_take]; omega)
            have HK := Lib.hid hkl2
            clear hcells hkl2
            generalize l[k] = x at c0 hrx ht
            have HRX := Lib.hid hrx
            clear hrx
            by_cases hf : fits x n
            · as_aux_lemma =>
                have hd : decide (fits x n) = true := decide_eq_true hf
                have hkp : kept n (l.take (k + 1)) = kept n (l.take k) ++ [x] := by rw [ht, kept_snoc, if_pos hf]
                have HKP := Lib.hid hkp
                clear hkp ht hf
                generalize kept n (l.take k) = ks at *
                have hcat : (bytesOf n ks).length + n ≤ 600 := by
                  rw [bytesOf_length]
                  have := HK.out
                  have h8 := HN.out.2
                  have := Nat.mul_le_mul this h8
                  omega
                go_wp2_with (first
                  | (go_at_call 25; refine (ref_fits _ _ _ HRX.out.1 HRX.out.2).mono ?_; rintro e w2 ⟨rfl, k2⟩; have K2 := Lib.hid k2; have H2 := Lib.hid (ownsRow_keeps HOWN.out k2 (by simp)); clear k2)
                  | (go_at_call 26; refine (ref_bytes _ _ _ (by have := HN.out.2; omega) HRX.out.1 HRX.out.2).mono ?_; rintro e w3 ⟨rfl, k3⟩; have K3 := Lib.hid k3; have H3 := Lib.hid (ownsRow_keeps H2.out k3 (by simp)); clear k3)
                  | (at_builtin; refine wpl_app_val rfl _ _ 37 rfl 3 i0 (.int .i64 0) 1 8 Try.underlying37 HI.out.1 HI.out.2.1 HI.out.2.2.1 HI.out.2.2.2 rfl (by decide) u6 _ _ rfl (H3.out.alloc _) ⟨w3.heap.size, 0, none⟩ 1 1 [.int .i64 x] rfl rfl (cells_new w3 _ _) (by simp [Value.oneCell']) (by have := HK.out; unfold maxLen; omega) (by have := HK.out; omega) ?_; intro v' w4 h1 h2 h3; have H4 := Lib.hid h1; have G4 := Lib.hid h2; have N4 := Lib.hid h3; clear h1 h2 h3))
                go_roundw
                case rel =>
                  have s3 := K3.out.size
                  have hb4 : Below w.heap.size w w4 := (((HBL.out.k K2.out none_M).k K3.out none_M).a _).k (Keeps.of_grown G4.out) (fun i hi => HGB.out i hi.symm)
                  refine ⟨k + 1, hlt, by rw [HKP.out, bytesOf_snoc], by go_num, ?_, ?_, hb4⟩
                  · rw [HKP.out, List.map_append, List.length_append]
                    exact H4.out
                  · intro y hy
                    rcases N4.out with h | ⟨z, h, hz⟩
                    · exact HGB.out y (h ▸ hy)
                    · rw [h] at hy
                      have := HBL.out.size
                      have s2 := K2.out.size
                      simp at hy hz
                      omega
                case measure => first | (simp [intOf]; done) | (simp [intOf]; omega)
            · as_aux_lemma =>
                have hd : decide (fits x n) = false := decide_eq_false hf
                have hkp : kept n (l.take (k + 1)) = kept n (l.take k) := by rw [ht, kept_snoc, if_neg hf]; simp
                have HKP := Lib.hid hkp
                clear hkp ht hf
                generalize kept n (l.take k) = ks at *
                go_wp2_with (first
                  | (go_at_call 25; refine (ref_fits _ _ _ HRX.out.1 HRX.out.2).mono ?_; rintro e w2 ⟨rfl, k2⟩; have K2 := Lib.hid k2; have H2 := Lib.hid (ownsRow_keeps HOWN.out k2 (by simp)); clear k2))
                go_roundw
                case rel => exact ⟨k + 1, hlt, by rw [HKP.out], by go_num, by rw [HKP.out]; exact H2.out, HGB.out, HBL.out.k K2.out none_M⟩
                case measure => first | (simp [intOf]; done) | (simp [intOf]; omega)
          · have ht : l.take k = l := List.take_of_length_le (by omega)
            rw [ht] at HOWN ⊢
            have hkl2 : (kept n l).length ≤ 60 := Nat.le_trans (kept_length _ _) (by omega)
            have hfit : ∀ x ∈ kept n l, fits x n := fun x hx => kept_fits hx
            have hrk : ∀ x ∈ kept n l, -9223372036854775808 ≤ x ∧ x < 9223372036854775808 := fun x hx => HRG.out x (List.mem_filter.1 hx).1
            have HF := Lib.hid (And.intro hfit hrk)
            have HK := Lib.hid hkl2
            clear ht hfit hrk
            generalize kept n l = ks at *
            have hbl : (bytesOf n ks).length ≤ 140737488355328 := by
              rw [bytesOf_length]
              have := Nat.mul_le_mul hkl2 HN.out.2
              omega
            have HBY := Lib.hid hbl
            clear hbl
            have hwant := HOWN.out
            obtain ⟨pw, cw, hu6, _⟩ := (owns_rows HOWN.out HF.out.2)
            have hwl := HOWN.out.lt
            subst hu6
            have HWL := Lib.hid hwl
            have HWT := Lib.hid hwant
            clear hwl hwant HOWN HGB
            obtain ⟨wo, rfl⟩ : ∃ wo : World, wo = wr := ⟨_, rfl⟩
            go_wp2_with (first
              | (go_at_call 15; refine (in_new _ _ HBY.out).mono ?_; rintro e w2 ⟨rfl, h2, k2⟩; have H2 := Lib.hid h2; have K2 := Lib.hid k2; clear h2 k2))
            have hsz2 := H2.out.lt
            have hszw := HBL.out.size
            go_loopw [10, 49] (fun gv jv wr => ∃ (j : Nat), j ≤ ks.length ∧ jv = .int .i64 j ∧ wr.ownsRow 0 3 1 gv (ks.take j).length ((ks.take j).map (Value.int .i64)) ∧ (∀ x, gv.ownBlock = some x → w2.heap.size ≤ x) ∧ IsIn wr wo.heap.size ⟨bytesOf n ks, j * n, 0⟩ ∧ wr.ownsRow 0 3 1 (.slice pw ks.length cw) ks.length (ks.map (Value.int .i64)) ∧ Below w.heap.size w wr ∧ w2.heap.size ≤ wr.heap.size) (fun _ jv _ => ks.length - (intOf jv).toNat)
            case atStart =>
              refine ⟨0, Nat.zero_le _, rfl, ⟨rfl, .inr ⟨w2.heap.size, 0, #[], rfl, Nat.zero_le _, heap_alloc_new w2 _, Nat.le_refl _, by simp [maxLen], rfl, rfl⟩⟩, ?_, ?_, ?_, ((HBL.out.k K2.out none_M).a _), by simp⟩
              · intro x hx
                simp [Value.ownBlock] at hx
                omega
              · rw [Nat.zero_mul]
                exact H2.out.keeps (M := fun _ => False) ((Keeps.refl _ _).alloc _) (by simp)
              · exact ownsRow_keeps HWT.out (K2.out.alloc _) (by simp)
            case round =>
              obtain ⟨j, hjl, rfl, hown, hgb, hin, hwant, hbl, hszr⟩ := hrel
              have HSZ := Lib.hid hszr
              have HOWN := Lib.hid hown
              have HGB := Lib.hid hgb
              have HIN := Lib.hid hin
              have HWN := Lib.hid hwant
              have HBL2 := Lib.hid hbl
              clear hown hgb hin hwant hbl
              by_cases hlt : j < ks.length
              · as_aux_lemma =>
                  have hsplit : ks = ks.take j ++ ks[j] :: ks.drop (j + 1) := by simp
                  have htj : (ks.take j).length = j := by rw [List.length_take]; omega
                  have hnx := int_next n HN.out.1 HN.out.2 (ks.take j) ks[j] (ks.drop (j + 1)) (HF.out.1 _ (List.getElem_mem hlt))
                  rw [← hsplit, htj] at hnx
                  have ht : ks.take (j + 1) = ks.take j ++ [ks[j]] := List.take_succ_eq_append_getElem hlt
                  have hlen : (ks.take j).length ≤ 60 := by rw [htj]; omega
                  have HLEN := Lib.hid hlen
                  generalize ks[j] = x at hnx ht
                  have HNX := Lib.hid hnx
                  have HT := Lib.hid ht
                  clear hsplit htj hnx ht hlen
                  go_wp2_with (first
                    | (go_at_call 18; refine (in_int _ _ _ _ HIN.out).mono ?_; rw [HNX.out]; rintro e w3 ⟨rfl, h3, k3⟩; have H3 := Lib.hid h3; have K3 := Lib.hid k3; have O3 := Lib.hid (ownsRow_keeps HOWN.out k3 (fun y hy => by have := HGB.out y hy; omega)); have W3 := Lib.hid (ownsRow_keeps HWN.out k3 (fun y hy => by have := HWL.out y hy; omega)); clear h3 k3)
                    | (at_builtin; refine wpl_app_val rfl _ _ 37 rfl 3 i0 (.int .i64 0) 1 8 Try.underlying37 HI.out.1 HI.out.2.1 HI.out.2.2.1 HI.out.2.2.2 rfl (by decide) u10 _ _ rfl (O3.out.alloc _) ⟨w3.heap.size, 0, none⟩ 1 1 [.int .i64 x] rfl rfl (cells_new w3 _ _) (by simp [Value.oneCell']) (by have := HLEN.out; unfold maxLen; omega) (by have := HLEN.out; omega) ?_; intro v' w4 h1 h2 h3; have H4 := Lib.hid h1; have G4 := Lib.hid h2; have N4 := Lib.hid h3; clear h1 h2 h3))
                  have s3 := K3.out.size
                  have kg := (Keeps.refl (fun k => some k = u10.ownBlock) w3).alloc (.cells #[.int .i64 x] 3) |>.trans (Keeps.of_grown G4.out)
                  go_roundw
                  case rel =>
                    refine ⟨j + 1, hlt, by go_num, ?_, ?_, ?_, ?_, ?_, by have := kg.size; omega⟩
                    · rw [HT.out, List.map_append, List.length_append]
                      exact H4.out
                    · intro y hy
                      rcases N4.out with h | ⟨z, h, hz⟩
                      · exact HGB.out y (h ▸ hy)
                      · rw [h] at hy
                        simp at hy hz
                        have := HGB.out
                        have := (show w2.heap.size ≤ wr.heap.size from HSZ.out)
                        omega
                    · exact H3.out.keeps kg (fun h => by have := HGB.out _ h.symm; omega)
                    · exact ownsRow_keeps W3.out kg (fun y hy h => by have := HGB.out _ h.symm; have := HWL.out y hy; omega)
                    · exact (HBL2.out.k K3.out (one_M (by omega))).k kg (fun y h => by have := HGB.out _ h.symm; omega)
                  case measure => first | (simp [intOf]; done) | (simp [intOf]; omega)
              · have hjj : j = ks.length := by omega
                subst hjj
                rw [List.take_length] at HOWN
                have hr1 := owns_rows HOWN.out HF.out.2
                have hr2 := owns_rows HWN.out HF.out.2
                have HR1 := Lib.hid (hr1.mono (D' := fun _ => True) (R' := RInt) (fun _ _ _ => trivial) (fun _ _ h => h))
                have HR2 := Lib.hid (hr2.mono (D' := fun _ => True) (R' := RInt) (fun _ _ _ => trivial) (fun _ _ h => h))
                have hcl : (⟨bytesOf n ks, ks.length * n, 0⟩ : InS).close = ⟨bytesOf n ks, ks.length * n, 0⟩ := if_neg (by simp [InS.left, bytesOf_length])
                have HCL := Lib.hid hcl
                clear hr1 hr2 hcl
                go_wp2_with (first
                  | (go_at_call 27; refine (ref_same ks ks _ _ _ _ HR1.out HR2.out (by omega)).mono ?_; rw [decide_eq_true rfl]; rintro e w3 ⟨rfl, n3, rfl⟩)
                  | (go_at_call 24; refine (in_close _ _ _ (HIN.out.drewN _)).mono ?_; rw [HCL.out]; rintro e w4 ⟨rfl, h4, k4⟩; have K4 := Lib.hid k4; clear h4 k4))
                go_ret
                exact ⟨rfl, (HBL2.out.drewN' _).k K4.out (one_M (by omega))⟩

end Go.Proofs.Ytbcfnfcmghbelaa
