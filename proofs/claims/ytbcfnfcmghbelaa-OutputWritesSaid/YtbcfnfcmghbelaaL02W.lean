/- Layer 2: whatever is written. -/
import Derived.Test.YtbcfnfcmghbelaaL02
namespace Go.Proofs.Ytbcfnfcmghbelaa
open Go.RowKit

/-- An act of writing. -/
structure ActW where
  k : Int
  s : Bs
  n : Int
  m : Int

def RActW (_ : World) (cs : List Value) (a : ActW) : Prop :=
  cs = [.int .u8 a.k, .string (bb a.s), .int .i64 a.n, .int .i64 a.m] ∧ 0 ≤ a.k ∧ a.k < 256 ∧ a.s.length ≤ maxLen ∧ -9223372036854775808 ≤ a.n ∧ a.n < 9223372036854775808 ∧ -9223372036854775808 ≤ a.m ∧ a.m < 9223372036854775808

theorem conv_one (w : World) (c : UInt8) :
    (convert 43 9 (.slice (some ⟨w.heap.size, 0, none⟩) 1 1)).run Try.prog (w.alloc (.cells #[.int .u8 c.toNat] 5)) = .ok (.string (bb [c])) (w.alloc (.cells #[.int .u8 c.toNat] 5)) := by
  have := run_convert_bytes_back (P := Try.prog) (w.alloc (.cells #[.int .u8 c.toNat] 5)) 43 9 5 ⟨w.heap.size, 0, none⟩ 1 [c] Try.underlying43 Try.underlying5 Try.underlying9 (fun j hj => by
    have : j = 0 := by simpa using hj
    subst this
    simp [Addr.add])
  exact this

theorem u8_of (n : Int) : n % 256 = ((UInt8.ofNat (n % 256).toNat).toNat : Int) := by
  have h : (n % 256).toNat < 256 := by omega
  simp [Nat.mod_eq_of_lt h]
  omega

theorem IsOut.notM {w : World} {b : Nat} {g : Option Nat} {o : OutS} (h : IsOut w b g o) {k : Nat} (hk : w.heap.size ≤ k) : ¬ OutM b g k := by
  rintro (rfl | e)
  · have := h.lt; omega
  · have := h.glt k e.symm; omega
theorem IsOut.alloc {w : World} {b : Nat} {g : Option Nat} {o : OutS} (h : IsOut w b g o) (x : Obj) : IsOut (w.alloc x) b g o :=
  h.keeps (M := fun _ => False) ((Keeps.refl _ _).alloc _) (by simp) (by simp)

theorem OutS.put_ok {o : OutS} {s : Bs} (h : o.err = 0) : o.put s = { o with bytes := o.bytes ++ s } := if_pos h
theorem OutS.put_err {o : OutS} {s : Bs} (h : o.err ≠ 0) : o.put s = o := if_neg h
theorem OutS.fail_ok {o : OutS} {e : Int} (h : o.err = 0) : o.fail e = { o with err := e } := if_pos h
theorem OutS.fail_err {o : OutS} {e : Int} (h : o.err ≠ 0) : o.fail e = o := if_neg h

set_option maxHeartbeats 8000000 in
set_option maxRecDepth 100000 in
theorem outputWrites_any (v : Value) (acts : List ActW) (w : World) (hr : RowsOf RActW (· < w.heap.size) w v 4 acts) (hl : acts.length ≤ maxLen) :
    Calls Try.prog 5 #[v] w fun en w' => en = .returned (.bool true) ∧ Below w.heap.size w w' := by
  unfold maxLen at hl
  obtain ⟨p, cap, rfl, hrow⟩ := hr
  have HROW := Lib.hid hrow
  have HL := Lib.hid hl
  have hl2 : acts.length ≤ 9223372036854775807 := by omega
  clear hrow hl
  by_cases h100 : 100 < acts.length
  · go_enter Try.func5, Try.ntmps5
    go_wp2_with (first
      | (go_at_call 28; refine (speaks02 _).mono ?_; rintro e w1 ⟨rfl, k1⟩; have K1 := Lib.hid k1; clear k1))
    go_ret
    exact ⟨rfl, (below0 w).k K1.out none_M⟩
  · have Z := Lib.hid out_zero
    clear hl2
    go_enter Try.func5, Try.ntmps5
    go_wp2_with (first
      | (go_at_call 28; refine (speaks02 _).mono ?_; rintro e w1 ⟨rfl, k1⟩; have K1 := Lib.hid k1; clear k1))
    go_loopw [4, 5, 18] (fun sv ev kv wr => ∃ (k : Nat) (o : OutS) (g : Option Nat), k ≤ acts.length ∧ sv = .string (bb o.bytes) ∧ ev = .int .i64 o.err ∧ kv = .int .i64 k ∧ IsOut wr w1.heap.size g o ∧ (∀ x, g = some x → w.heap.size ≤ x) ∧ Below w.heap.size w wr ∧ o.bytes.length ≤ 500 * k) (fun _ _ kv _ => acts.length - (intOf kv).toNat)
    case atStart =>
      have := K1.out.size
      exact ⟨0, ⟨[], 0⟩, none, Nat.zero_le _, rfl, rfl, rfl, Z.out _, by simp, ((below0 w).k K1.out none_M).a _, by simp⟩
    case round =>
      obtain ⟨k, o, g, hkl, rfl, rfl, rfl, hout, hgb, hbl, hlen⟩ := hrel
      have HOUT := Lib.hid hout
      have HBL := Lib.hid hbl
      have HGB := Lib.hid hgb
      have hb1 := hout.lt
      clear hout hbl hgb
      have hw1 := K1.out.size
      have hk100 : k ≤ 100 := by omega
      have hlen2 : o.bytes.length ≤ 50000 := by omega
      have HLEN := Lib.hid hlen
      clear hlen
      by_cases hlt : k < acts.length
      · obtain ⟨b, off, rfl, hbD, hbs, hcells⟩ := HROW.out (by omega)
        obtain ⟨cs, hcs, ⟨rfl, hk0, hk1, hs0, hn0, hn1, hm0, hm1⟩, hcell⟩ := hcells k hlt
        have c0 : wr.cell? ⟨b, off + k * 4, none⟩ = some (.int .u8 acts[k].k) := (HBL.out.cell (p := ⟨b, off + k * 4, none⟩) hbD).trans (hcell 0 _ rfl)
        have c1 : wr.cell? ⟨b, off + k * 4 + 1, none⟩ = some (.string (bb acts[k].s)) := (HBL.out.cell (p := ⟨b, off + k * 4 + 1, none⟩) hbD).trans (hcell 1 _ rfl)
        have c2 : wr.cell? ⟨b, off + k * 4 + 2, none⟩ = some (.int .i64 acts[k].n) := (HBL.out.cell (p := ⟨b, off + k * 4 + 2, none⟩) hbD).trans (hcell 2 _ rfl)
        have c3 : wr.cell? ⟨b, off + k * 4 + 3, none⟩ = some (.int .i64 acts[k].m) := (HBL.out.cell (p := ⟨b, off + k * 4 + 3, none⟩) hbD).trans (hcell 3 _ rfl)
        clear hcs hcell hcells
        generalize acts[k] = act at *
        obtain ⟨kind, s, n, m⟩ := act
        simp only at hk0 hk1 hs0 hn0 hn1 hm0 hm1 c0 c1 c2 c3
        have HN := Lib.hid (And.intro hn0 hn1)
        have HA := Lib.hid (HOUT.out.alloc (.cells #[.int .u8 kind, .string (bb s), .int .i64 n, .int .i64 m] 47))
        unfold maxLen at hs0
        have hsl : s.length ≤ 9223372036854775807 := by omega
        clear hn0 hn1 hm0 hm1 hs0
        by_cases h500 : 500 < s.length
        · as_aux_lemma =>
            go_wp2
            go_ret
            exact ⟨rfl, HBL.out.a _⟩
        · clear hsl
          by_cases hk0 : kind % 4 = 0
          · by_cases he : o.err = 0
            · as_aux_lemma =>
                have e1 : o.put s = { o with bytes := o.bytes ++ s } := OutS.put_ok he
                have HT := Lib.hid e1
                clear e1
                go_wp2_with (first
                  | (go_at_call 29; refine (out_put _ _ _ _ _ HA.out (by omega)).mono ?_; rw [HT.out]; rintro e w3 ⟨rfl, g3, h3, k3, n3⟩; have H3 := Lib.hid h3; have d1 := k3.cell wr.heap.size 1 (by simp) (HOUT.out.notM (Nat.le_refl _)); have d2 := k3.cell wr.heap.size 2 (by simp) (HOUT.out.notM (Nat.le_refl _)); have d3 := k3.cell wr.heap.size 3 (by simp) (HOUT.out.notM (Nat.le_refl _)); have K3 := Lib.hid k3; have N3 := Lib.hid n3; clear h3 k3 n3)
                  | (go_at_call 33; refine (out_len _ _ _ _ H3.out).mono ?_; rintro e w8 ⟨rfl, rfl⟩)
                  | (go_at_call 34; refine (out_err _ _ _ _ H3.out).mono ?_; rintro e w9 ⟨rfl, rfl⟩))
                have s3 := K3.out.size
                simp only [World.size_alloc] at s3
                go_roundw
                case rel =>
                  refine ⟨k + 1, { o with bytes := o.bytes ++ s }, g3, hlt, (by first | rfl | (simp; done)), (by first | rfl | (simp only [he])), by go_num, H3.out, ?_, ((HBL.out.a _).k K3.out (out_M (by omega) HGB.out)), ?_⟩
                  · intro x hx
                    rcases N3.out with h | ⟨y, h, hy⟩
                    · exact HGB.out x (h ▸ hx)
                    · rw [h] at hx; simp at hx; have := HBL.out.size; (try simp at hy); omega
                  · have := HLEN.out; first | (simp only [List.length_append, beBytes_length, List.length_cons, List.length_nil, Int.toNat_natCast]; omega) | omega
                case measure => first | (simp [intOf]; done) | (simp [intOf]; omega)
            · as_aux_lemma =>
                have e1 : o.put s = o := OutS.put_err he
                have HT := Lib.hid e1
                clear e1
                go_wp2_with (first
                  | (go_at_call 29; refine (out_put _ _ _ _ _ HA.out (by omega)).mono ?_; rw [HT.out]; rintro e w3 ⟨rfl, g3, h3, k3, n3⟩; have H3 := Lib.hid h3; have d1 := k3.cell wr.heap.size 1 (by simp) (HOUT.out.notM (Nat.le_refl _)); have d2 := k3.cell wr.heap.size 2 (by simp) (HOUT.out.notM (Nat.le_refl _)); have d3 := k3.cell wr.heap.size 3 (by simp) (HOUT.out.notM (Nat.le_refl _)); have K3 := Lib.hid k3; have N3 := Lib.hid n3; clear h3 k3 n3)
                  | (go_at_call 33; refine (out_len _ _ _ _ H3.out).mono ?_; rintro e w8 ⟨rfl, rfl⟩)
                  | (go_at_call 34; refine (out_err _ _ _ _ H3.out).mono ?_; rintro e w9 ⟨rfl, rfl⟩))
                have s3 := K3.out.size
                simp only [World.size_alloc] at s3
                go_roundw
                case rel =>
                  refine ⟨k + 1, o, g3, hlt, (by first | rfl | (simp; done)), (by first | rfl | (simp only [he])), by go_num, H3.out, ?_, ((HBL.out.a _).k K3.out (out_M (by omega) HGB.out)), ?_⟩
                  · intro x hx
                    rcases N3.out with h | ⟨y, h, hy⟩
                    · exact HGB.out x (h ▸ hx)
                    · rw [h] at hx; simp at hx; have := HBL.out.size; (try simp at hy); omega
                  · have := HLEN.out; first | (simp only [List.length_append, beBytes_length, List.length_cons, List.length_nil, Int.toNat_natCast]; omega) | omega
                case measure => first | (simp [intOf]; done) | (simp [intOf]; omega)
          · by_cases hk1 : kind % 4 = 1
            · obtain ⟨c, hc⟩ : ∃ c : UInt8, n % 256 = (c.toNat : Int) := ⟨UInt8.ofNat (n % 256).toNat, u8_of n⟩
              by_cases he : o.err = 0
              · as_aux_lemma =>
                  have e1 : o.put [c] = { o with bytes := o.bytes ++ [c] } := OutS.put_ok he
                  have HT := Lib.hid e1
                  clear e1
                  go_wp2_with (first
                    | (go_at_call 30; refine (out_byte _ _ _ c _ HA.out (by omega)).mono ?_; rw [HT.out]; rintro e w3 ⟨rfl, g3, h3, k3, n3⟩; have H3 := Lib.hid h3; have d1 := k3.cell wr.heap.size 1 (by simp) (HOUT.out.notM (Nat.le_refl _)); have d2 := k3.cell wr.heap.size 2 (by simp) (HOUT.out.notM (Nat.le_refl _)); have d3 := k3.cell wr.heap.size 3 (by simp) (HOUT.out.notM (Nat.le_refl _)); have K3 := Lib.hid k3; have N3 := Lib.hid n3; clear h3 k3 n3; have hcv := conv_one w3 c)
                    | (go_at_call 33; refine (out_len _ _ _ _ (H3.out.alloc _)).mono ?_; rintro e w8 ⟨rfl, rfl⟩)
                    | (go_at_call 34; refine (out_err _ _ _ _ (H3.out.alloc _)).mono ?_; rintro e w9 ⟨rfl, rfl⟩))
                  have s3 := K3.out.size
                  simp only [World.size_alloc] at s3
                  go_roundw
                  case rel =>
                    refine ⟨k + 1, { o with bytes := o.bytes ++ [c] }, g3, hlt, (by first | rfl | (simp; done)), (by first | rfl | (simp only [he])), by go_num, (H3.out.alloc _), ?_, (((HBL.out.a _).k K3.out (out_M (by omega) HGB.out)).a _), ?_⟩
                    · intro x hx
                      rcases N3.out with h | ⟨y, h, hy⟩
                      · exact HGB.out x (h ▸ hx)
                      · rw [h] at hx; simp at hx; have := HBL.out.size; (try simp at hy); omega
                    · have := HLEN.out; first | (simp only [List.length_append, beBytes_length, List.length_cons, List.length_nil, Int.toNat_natCast]; omega) | omega
                  case measure => first | (simp [intOf]; done) | (simp [intOf]; omega)
              · as_aux_lemma =>
                  have e1 : o.put [c] = o := OutS.put_err he
                  have HT := Lib.hid e1
                  clear e1
                  go_wp2_with (first
                    | (go_at_call 30; refine (out_byte _ _ _ c _ HA.out (by omega)).mono ?_; rw [HT.out]; rintro e w3 ⟨rfl, g3, h3, k3, n3⟩; have H3 := Lib.hid h3; have d1 := k3.cell wr.heap.size 1 (by simp) (HOUT.out.notM (Nat.le_refl _)); have d2 := k3.cell wr.heap.size 2 (by simp) (HOUT.out.notM (Nat.le_refl _)); have d3 := k3.cell wr.heap.size 3 (by simp) (HOUT.out.notM (Nat.le_refl _)); have K3 := Lib.hid k3; have N3 := Lib.hid n3; clear h3 k3 n3; have hcv := conv_one w3 c)
                    | (go_at_call 33; refine (out_len _ _ _ _ (H3.out.alloc _)).mono ?_; rintro e w8 ⟨rfl, rfl⟩)
                    | (go_at_call 34; refine (out_err _ _ _ _ (H3.out.alloc _)).mono ?_; rintro e w9 ⟨rfl, rfl⟩))
                  have s3 := K3.out.size
                  simp only [World.size_alloc] at s3
                  go_roundw
                  case rel =>
                    refine ⟨k + 1, o, g3, hlt, (by first | rfl | (simp; done)), (by first | rfl | (simp only [he])), by go_num, (H3.out.alloc _), ?_, (((HBL.out.a _).k K3.out (out_M (by omega) HGB.out)).a _), ?_⟩
                    · intro x hx
                      rcases N3.out with h | ⟨y, h, hy⟩
                      · exact HGB.out x (h ▸ hx)
                      · rw [h] at hx; simp at hx; have := HBL.out.size; (try simp at hy); omega
                    · have := HLEN.out; first | (simp only [List.length_append, beBytes_length, List.length_cons, List.length_nil, Int.toNat_natCast]; omega) | omega
                  case measure => first | (simp [intOf]; done) | (simp [intOf]; omega)
            · by_cases hk2 : kind % 4 = 2
              · by_cases hf : fits n m
                · have hd : decide (fits n m) = true := decide_eq_true hf
                  obtain ⟨m', rfl⟩ : ∃ m' : Nat, m = m' := ⟨m.toNat, by have := hf.1; omega⟩
                  have hm8 : m' ≤ 8 := by have := hf.2.1; omega
                  have HF := Lib.hid hf
                  clear hf
                  by_cases he : o.err = 0
                  · as_aux_lemma =>
                      have e1 : o.int n m' = { o with bytes := o.bytes ++ beBytes n m' } := (if_pos HF.out).trans (OutS.put_ok he)
                      have HT := Lib.hid e1
                      clear e1
                      go_wp2_with (first
                        | (go_at_call 31; refine (out_int _ _ _ _ _ _ HA.out (by unfold OutS.ok; omega) HN.out.1 HN.out.2).mono ?_; rw [HT.out]; rintro e w3 ⟨rfl, g3, h3, k3, n3⟩; have H3 := Lib.hid h3; have d1 := k3.cell wr.heap.size 1 (by simp) (HOUT.out.notM (Nat.le_refl _)); have d2 := k3.cell wr.heap.size 2 (by simp) (HOUT.out.notM (Nat.le_refl _)); have d3 := k3.cell wr.heap.size 3 (by simp) (HOUT.out.notM (Nat.le_refl _)); have K3 := Lib.hid k3; have N3 := Lib.hid n3; clear h3 k3 n3)
                        | (go_at_call 25; refine (ref_fits _ _ _ HN.out.1 HN.out.2).mono ?_; rintro e w4 ⟨rfl, k4⟩; have H4 := Lib.hid (H3.out.keeps k4 (by simp) (by simp)); have e1 := k4.cell wr.heap.size 2 (by have := K3.out.size; simp at this; omega) (by simp); have e2 := k4.cell wr.heap.size 3 (by have := K3.out.size; simp at this; omega) (by simp); have K4 := Lib.hid k4; clear k4)
                        | (go_at_call 26; refine (ref_bytes _ _ _ (by omega) HN.out.1 HN.out.2).mono ?_; rintro e w5 ⟨rfl, k5⟩; have H5 := Lib.hid (H4.out.keeps k5 (by simp) (by simp)); have K5 := Lib.hid k5; clear k5)
                        | (go_at_call 33; refine (out_len _ _ _ _ H5.out).mono ?_; rintro e w8 ⟨rfl, rfl⟩)
                        | (go_at_call 34; refine (out_err _ _ _ _ H5.out).mono ?_; rintro e w9 ⟨rfl, rfl⟩))
                      have s3 := K3.out.size
                      simp only [World.size_alloc] at s3
                      go_roundw
                      case rel =>
                        refine ⟨k + 1, { o with bytes := o.bytes ++ beBytes n m' }, g3, hlt, (by first | rfl | (simp; done)), (by first | rfl | (simp only [he])), by go_num, H5.out, ?_, ((((HBL.out.a _).k K3.out (out_M (by omega) HGB.out)).k K4.out none_M).k K5.out none_M), ?_⟩
                        · intro x hx
                          rcases N3.out with h | ⟨y, h, hy⟩
                          · exact HGB.out x (h ▸ hx)
                          · rw [h] at hx; simp at hx; have := HBL.out.size; (try simp at hy); omega
                        · have := HLEN.out; first | (simp only [List.length_append, beBytes_length, List.length_cons, List.length_nil, Int.toNat_natCast]; omega) | omega
                      case measure => first | (simp [intOf]; done) | (simp [intOf]; omega)
                  · as_aux_lemma =>
                      have e1 : o.int n m' = o := (if_pos HF.out).trans (OutS.put_err he)
                      have HT := Lib.hid e1
                      clear e1
                      go_wp2_with (first
                        | (go_at_call 31; refine (out_int _ _ _ _ _ _ HA.out (by unfold OutS.ok; omega) HN.out.1 HN.out.2).mono ?_; rw [HT.out]; rintro e w3 ⟨rfl, g3, h3, k3, n3⟩; have H3 := Lib.hid h3; have d1 := k3.cell wr.heap.size 1 (by simp) (HOUT.out.notM (Nat.le_refl _)); have d2 := k3.cell wr.heap.size 2 (by simp) (HOUT.out.notM (Nat.le_refl _)); have d3 := k3.cell wr.heap.size 3 (by simp) (HOUT.out.notM (Nat.le_refl _)); have K3 := Lib.hid k3; have N3 := Lib.hid n3; clear h3 k3 n3)
                        | (go_at_call 25; refine (ref_fits _ _ _ HN.out.1 HN.out.2).mono ?_; rintro e w4 ⟨rfl, k4⟩; have H4 := Lib.hid (H3.out.keeps k4 (by simp) (by simp)); have e1 := k4.cell wr.heap.size 2 (by have := K3.out.size; simp at this; omega) (by simp); have e2 := k4.cell wr.heap.size 3 (by have := K3.out.size; simp at this; omega) (by simp); have K4 := Lib.hid k4; clear k4)
                        | (go_at_call 26; refine (ref_bytes _ _ _ (by omega) HN.out.1 HN.out.2).mono ?_; rintro e w5 ⟨rfl, k5⟩; have H5 := Lib.hid (H4.out.keeps k5 (by simp) (by simp)); have K5 := Lib.hid k5; clear k5)
                        | (go_at_call 33; refine (out_len _ _ _ _ H5.out).mono ?_; rintro e w8 ⟨rfl, rfl⟩)
                        | (go_at_call 34; refine (out_err _ _ _ _ H5.out).mono ?_; rintro e w9 ⟨rfl, rfl⟩))
                      have s3 := K3.out.size
                      simp only [World.size_alloc] at s3
                      go_roundw
                      case rel =>
                        refine ⟨k + 1, o, g3, hlt, (by first | rfl | (simp; done)), (by first | rfl | (simp only [he])), by go_num, H5.out, ?_, ((((HBL.out.a _).k K3.out (out_M (by omega) HGB.out)).k K4.out none_M).k K5.out none_M), ?_⟩
                        · intro x hx
                          rcases N3.out with h | ⟨y, h, hy⟩
                          · exact HGB.out x (h ▸ hx)
                          · rw [h] at hx; simp at hx; have := HBL.out.size; (try simp at hy); omega
                        · have := HLEN.out; first | (simp only [List.length_append, beBytes_length, List.length_cons, List.length_nil, Int.toNat_natCast]; omega) | omega
                      case measure => first | (simp [intOf]; done) | (simp [intOf]; omega)
                · have hd : decide (fits n m) = false := decide_eq_false hf
                  have HF := Lib.hid hf
                  clear hf
                  by_cases he : o.err = 0
                  · as_aux_lemma =>
                      have e1 : o.int n m = { o with err := 11 } := (if_neg HF.out).trans (OutS.fail_ok he)
                      have HT := Lib.hid e1
                      clear e1
                      go_wp2_with (first
                        | (go_at_call 31; refine (out_int _ _ _ _ _ _ HA.out (by unfold OutS.ok; omega) HN.out.1 HN.out.2).mono ?_; rw [HT.out]; rintro e w3 ⟨rfl, g3, h3, k3, n3⟩; have H3 := Lib.hid h3; have d1 := k3.cell wr.heap.size 1 (by simp) (HOUT.out.notM (Nat.le_refl _)); have d2 := k3.cell wr.heap.size 2 (by simp) (HOUT.out.notM (Nat.le_refl _)); have d3 := k3.cell wr.heap.size 3 (by simp) (HOUT.out.notM (Nat.le_refl _)); have K3 := Lib.hid k3; have N3 := Lib.hid n3; clear h3 k3 n3)
                        | (go_at_call 25; refine (ref_fits _ _ _ HN.out.1 HN.out.2).mono ?_; rintro e w4 ⟨rfl, k4⟩; have H4 := Lib.hid (H3.out.keeps k4 (by simp) (by simp)); have e1 := k4.cell wr.heap.size 2 (by have := K3.out.size; simp at this; omega) (by simp); have e2 := k4.cell wr.heap.size 3 (by have := K3.out.size; simp at this; omega) (by simp); have K4 := Lib.hid k4; clear k4)
                        | (go_at_call 26; refine (ref_bytes _ _ _ (by omega) HN.out.1 HN.out.2).mono ?_; rintro e w5 ⟨rfl, k5⟩; have H5 := Lib.hid (H4.out.keeps k5 (by simp) (by simp)); have K5 := Lib.hid k5; clear k5)
                        | (go_at_call 33; refine (out_len _ _ _ _ H4.out).mono ?_; rintro e w8 ⟨rfl, rfl⟩)
                        | (go_at_call 34; refine (out_err _ _ _ _ H4.out).mono ?_; rintro e w9 ⟨rfl, rfl⟩))
                      have s3 := K3.out.size
                      simp only [World.size_alloc] at s3
                      go_roundw
                      case rel =>
                        refine ⟨k + 1, { o with err := 11 }, g3, hlt, (by first | rfl | (simp; done)), (by first | rfl | (simp only [he])), by go_num, H4.out, ?_, (((HBL.out.a _).k K3.out (out_M (by omega) HGB.out)).k K4.out none_M), ?_⟩
                        · intro x hx
                          rcases N3.out with h | ⟨y, h, hy⟩
                          · exact HGB.out x (h ▸ hx)
                          · rw [h] at hx; simp at hx; have := HBL.out.size; (try simp at hy); omega
                        · have := HLEN.out; first | (simp only [List.length_append, beBytes_length, List.length_cons, List.length_nil, Int.toNat_natCast]; omega) | omega
                      case measure => first | (simp [intOf]; done) | (simp [intOf]; omega)
                  · as_aux_lemma =>
                      have e1 : o.int n m = o := (if_neg HF.out).trans (OutS.fail_err he)
                      have HT := Lib.hid e1
                      clear e1
                      go_wp2_with (first
                        | (go_at_call 31; refine (out_int _ _ _ _ _ _ HA.out (by unfold OutS.ok; omega) HN.out.1 HN.out.2).mono ?_; rw [HT.out]; rintro e w3 ⟨rfl, g3, h3, k3, n3⟩; have H3 := Lib.hid h3; have d1 := k3.cell wr.heap.size 1 (by simp) (HOUT.out.notM (Nat.le_refl _)); have d2 := k3.cell wr.heap.size 2 (by simp) (HOUT.out.notM (Nat.le_refl _)); have d3 := k3.cell wr.heap.size 3 (by simp) (HOUT.out.notM (Nat.le_refl _)); have K3 := Lib.hid k3; have N3 := Lib.hid n3; clear h3 k3 n3)
                        | (go_at_call 25; refine (ref_fits _ _ _ HN.out.1 HN.out.2).mono ?_; rintro e w4 ⟨rfl, k4⟩; have H4 := Lib.hid (H3.out.keeps k4 (by simp) (by simp)); have e1 := k4.cell wr.heap.size 2 (by have := K3.out.size; simp at this; omega) (by simp); have e2 := k4.cell wr.heap.size 3 (by have := K3.out.size; simp at this; omega) (by simp); have K4 := Lib.hid k4; clear k4)
                        | (go_at_call 26; refine (ref_bytes _ _ _ (by omega) HN.out.1 HN.out.2).mono ?_; rintro e w5 ⟨rfl, k5⟩; have H5 := Lib.hid (H4.out.keeps k5 (by simp) (by simp)); have K5 := Lib.hid k5; clear k5)
                        | (go_at_call 33; refine (out_len _ _ _ _ H4.out).mono ?_; rintro e w8 ⟨rfl, rfl⟩)
                        | (go_at_call 34; refine (out_err _ _ _ _ H4.out).mono ?_; rintro e w9 ⟨rfl, rfl⟩))
                      have s3 := K3.out.size
                      simp only [World.size_alloc] at s3
                      go_roundw
                      case rel =>
                        refine ⟨k + 1, o, g3, hlt, (by first | rfl | (simp; done)), (by first | rfl | (simp only [he])), by go_num, H4.out, ?_, (((HBL.out.a _).k K3.out (out_M (by omega) HGB.out)).k K4.out none_M), ?_⟩
                        · intro x hx
                          rcases N3.out with h | ⟨y, h, hy⟩
                          · exact HGB.out x (h ▸ hx)
                          · rw [h] at hx; simp at hx; have := HBL.out.size; (try simp at hy); omega
                        · have := HLEN.out; first | (simp only [List.length_append, beBytes_length, List.length_cons, List.length_nil, Int.toNat_natCast]; omega) | omega
                      case measure => first | (simp [intOf]; done) | (simp [intOf]; omega)
              · have hk3 : kind % 4 = 3 := by omega
                by_cases hn : n = 0
                · as_aux_lemma =>
                    go_wp2
                    go_ret
                    exact ⟨rfl, HBL.out.a _⟩
                · by_cases he : o.err = 0
                  · as_aux_lemma =>
                      have e1 : o.fail n = { o with err := n } := OutS.fail_ok he
                      have HT := Lib.hid e1
                      clear e1
                      go_wp2_with (first
                        | (go_at_call 32; refine (out_fail _ _ _ _ _ HA.out).mono ?_; rw [HT.out]; rintro e w3 ⟨rfl, h3, k3⟩; have g3 := g; have H3 := Lib.hid h3; have d1 := k3.cell wr.heap.size 1 (by simp) (HOUT.out.notM (Nat.le_refl _)); have d2 := k3.cell wr.heap.size 2 (by simp) (HOUT.out.notM (Nat.le_refl _)); have d3 := k3.cell wr.heap.size 3 (by simp) (HOUT.out.notM (Nat.le_refl _)); have K3 := Lib.hid k3; have N3 := Lib.hid (Newer.refl wr g); clear h3 k3)
                        | (go_at_call 33; refine (out_len _ _ _ _ H3.out).mono ?_; rintro e w8 ⟨rfl, rfl⟩)
                        | (go_at_call 34; refine (out_err _ _ _ _ H3.out).mono ?_; rintro e w9 ⟨rfl, rfl⟩))
                      have s3 := K3.out.size
                      simp only [World.size_alloc] at s3
                      go_roundw
                      case rel =>
                        refine ⟨k + 1, { o with err := n }, g, hlt, (by first | rfl | (simp; done)), (by first | rfl | (simp only [he])), by go_num, H3.out, ?_, ((HBL.out.a _).k K3.out (out_M (by omega) HGB.out)), ?_⟩
                        · intro x hx
                          rcases N3.out with h | ⟨y, h, hy⟩
                          · exact HGB.out x (h ▸ hx)
                          · rw [h] at hx; simp at hx; have := HBL.out.size; (try simp at hy); omega
                        · have := HLEN.out; first | (simp only [List.length_append, beBytes_length, List.length_cons, List.length_nil, Int.toNat_natCast]; omega) | omega
                      case measure => first | (simp [intOf]; done) | (simp [intOf]; omega)
                  · as_aux_lemma =>
                      have e1 : o.fail n = o := OutS.fail_err he
                      have HT := Lib.hid e1
                      clear e1
                      go_wp2_with (first
                        | (go_at_call 32; refine (out_fail _ _ _ _ _ HA.out).mono ?_; rw [HT.out]; rintro e w3 ⟨rfl, h3, k3⟩; have g3 := g; have H3 := Lib.hid h3; have d1 := k3.cell wr.heap.size 1 (by simp) (HOUT.out.notM (Nat.le_refl _)); have d2 := k3.cell wr.heap.size 2 (by simp) (HOUT.out.notM (Nat.le_refl _)); have d3 := k3.cell wr.heap.size 3 (by simp) (HOUT.out.notM (Nat.le_refl _)); have K3 := Lib.hid k3; have N3 := Lib.hid (Newer.refl wr g); clear h3 k3)
                        | (go_at_call 33; refine (out_len _ _ _ _ H3.out).mono ?_; rintro e w8 ⟨rfl, rfl⟩)
                        | (go_at_call 34; refine (out_err _ _ _ _ H3.out).mono ?_; rintro e w9 ⟨rfl, rfl⟩))
                      have s3 := K3.out.size
                      simp only [World.size_alloc] at s3
                      go_roundw
                      case rel =>
                        refine ⟨k + 1, o, g, hlt, (by first | rfl | (simp; done)), (by first | rfl | (simp only [he])), by go_num, H3.out, ?_, ((HBL.out.a _).k K3.out (out_M (by omega) HGB.out)), ?_⟩
                        · intro x hx
                          rcases N3.out with h | ⟨y, h, hy⟩
                          · exact HGB.out x (h ▸ hx)
                          · rw [h] at hx; simp at hx; have := HBL.out.size; (try simp at hy); omega
                        · have := HLEN.out; first | (simp only [List.length_append, beBytes_length, List.length_cons, List.length_nil, Int.toNat_natCast]; omega) | omega
                      case measure => first | (simp [intOf]; done) | (simp [intOf]; omega)
      · by_cases he : o.err = 0
        · have e1 : o.text = (o.bytes, 0) := if_pos he
          have HT := Lib.hid e1
          clear e1
          go_wp2_with (go_at_call 35; refine (out_text _ _ _ _ HOUT.out).mono ?_; rw [HT.out]; rintro e w3 ⟨rfl, n3, rfl⟩)
          go_ret
          exact ⟨rfl, HBL.out.drewN' _⟩
        · have e1 : o.text = ([], o.err) := if_neg he
          have HT := Lib.hid e1
          clear e1
          go_wp2_with (go_at_call 35; refine (out_text _ _ _ _ HOUT.out).mono ?_; rw [HT.out]; rintro e w3 ⟨rfl, n3, rfl⟩)
          go_ret
          exact ⟨rfl, HBL.out.drewN' _⟩

end Go.Proofs.Ytbcfnfcmghbelaa
