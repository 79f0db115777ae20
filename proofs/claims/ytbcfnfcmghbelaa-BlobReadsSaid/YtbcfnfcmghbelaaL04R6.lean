/- Layer 4, walked: BlobReads, whole. -/
import Derived.Test.YtbcfnfcmghbelaaL04R5x00
import Derived.Test.YtbcfnfcmghbelaaL04R5x01
import Derived.Test.YtbcfnfcmghbelaaL04R5x10
import Derived.Test.YtbcfnfcmghbelaaL04R5x11
namespace Go.Proofs.Ytbcfnfcmghbelaa
open Go.RowKit

theorem got_of {f : InS → BlobS × InS} {p : Bs → Except Int (BlobS × Nat)} (h : Rds f p ⟨false, []⟩) (s : Bs) :
    ∃ (n : Bool) (d : Bs) (m : Nat) (e : Int) (j : InS), f ⟨s, 0, 0⟩ = (⟨n, d⟩, j) ∧ gotV (p s) = .agg #[.bool n, .string (bb d), .int .i64 m, .int .i64 e] ∧ j.err = e ∧ (e = 0 → j.pos = m) := by
  cases hp : p s with
  | error e =>
    obtain ⟨h1, q, _, h2⟩ := h.err s 0 e (Nat.zero_le _) (by rw [List.drop_zero]; exact hp)
    exact ⟨false, [], 0, e, ⟨s, q, e⟩, h2, rfl, rfl, fun h0 => absurd h0 h1⟩
  | ok x =>
    obtain ⟨⟨n, d⟩, m⟩ := x
    have h2 := (h.ok s 0 ⟨n, d⟩ m (Nat.zero_le _) (by rw [List.drop_zero]; exact hp)).2
    rw [Nat.zero_add] at h2
    exact ⟨n, d, m, 0, ⟨s, m, 0⟩, h2, rfl, rfl, fun _ => rfl⟩
theorem bytes_of (n : Bool) (d : Bs) (m : Nat) (e : Int) (j : InS) (he : j.err = e) (hp : e = 0 → j.pos = m) : ∃ jt, j.bytes ⟨n, d⟩ = (d, jt) ∧ ErrOf e n jt.err ∧ (jt.err = 0 → jt.pos = m) := by
  subst he
  refine ⟨_, rfl, ?_, ?_⟩
  · unfold ErrOf
    cases n
    · simp
    · by_cases h : j.err = 0
      · simp [InS.fail, h]
      · simp [InS.fail, h]
  · intro h0
    cases n
    · exact hp h0
    · by_cases h : j.err = 0
      · simp [InS.fail, h] at h0
      · simp [InS.fail, h] at h0
theorem kOf (z : Int) (h0 : 0 ≤ z) (h1 : z < 256) : ∃ k : Nat, wrap64 (1 + (wrap64 z).tmod 8) = k ∧ 1 ≤ k ∧ k ≤ 8 := by
  have e1 : wrap64 z = z := by unfold wrap64; omega
  have e2 : z.tmod 8 = z % 8 := Int.tmod_eq_emod_of_nonneg h0
  have e3 : wrap64 (1 + z % 8) = 1 + z % 8 := by unfold wrap64; omega
  rw [e1, e2, e3]
  exact ⟨(1 + z % 8).toNat, by omega, by omega, by omega⟩
set_option maxHeartbeats 1000000 in
set_option maxRecDepth 100000 in
theorem blobReads_long (s : Bs) (z : Int) (hl : 2000 < s.length) {W0 w : World} (h : St W0 w Know.none []) :
    Calls Try.prog 10 #[.string (bb s), .int .u8 z] w fun en w' => en = .returned (.bool true) ∧ Below W0.heap.size W0 w' := by
  have H := Lib.hid h
  have hlen : decide ((2000 : Int) < (s.length : Int)) = true := decide_eq_true (by omega)
  clear h hl
  go_enter Try.func10, Try.ntmps10
  go_wp2_with ((go_at_call 47; refine (speaks04  (by first | (first | with_reducible exact H.out | with_reducible exact H.out.p1 | with_reducible exact H.out.p2 | with_reducible exact H.out.p3 | with_reducible exact H.out.p4 | with_reducible exact H.out.p5) | ((repeat first | with_reducible refine St.drewN ?_ _ | with_reducible refine St.drew ?_ | with_reducible refine St.alloc ?_ _); first | with_reducible exact H.out | with_reducible exact H.out.p1 | with_reducible exact H.out.p2 | with_reducible exact H.out.p3 | with_reducible exact H.out.p4 | with_reducible exact H.out.p5))).mono ?_; rintro e wn ⟨rfl, h⟩; replace H := Lib.hid h; clear h))
  go_ret
  exact ⟨rfl, H.out.below⟩
theorem blobReads_any (s : Bs) (z : Int) (w : World) (_ : s.length ≤ maxLen) (hz : 0 ≤ z ∧ z < 256) :
    Calls Try.prog 10 #[.string (bb s), .int .u8 z] w fun en w' => en = .returned (.bool true) ∧ Below w.heap.size w w' := by
  have h : St w w Know.none [] := St.start trivial
  by_cases hl : 2000 < s.length
  · exact blobReads_long s z hl h
  obtain ⟨k, hk, k1, k8⟩ := kOf z hz.1 hz.2
  obtain ⟨n0, d0, m0, e0, j0, f0, g0, x0, y0⟩ := got_of (rds_fixed k k1 k8) s
  obtain ⟨n1, d1, m1, e1, j1, f1, g1, x1, y1⟩ := got_of rds_varied s
  obtain ⟨n2, d2, m2, e2, j2, f2, g2, x2, y2⟩ := got_of (rds_fixed 2 (by decide) (by decide)) s
  obtain ⟨jt, t1, t2, t3⟩ := bytes_of n2 d2 m2 e2 j2 x2 y2
  obtain ⟨jn, r1, r2, r3⟩ := bytes_of n1 d1 m1 e1 j1 x1 y1
  have ft : (⟨s, 0, 0⟩ : InS).text = (d2, jt) := by
    have f2 : (⟨s, 0, 0⟩ : InS).fixed 2 = (⟨n2, d2⟩, j2) := f2
    unfold InS.text; rw [f2]; exact t1
  have fn : (⟨s, 0, 0⟩ : InS).name = (d1, jn) := by unfold InS.name; rw [f1]; exact r1
  by_cases t0 : e0 = 0 <;> by_cases u0 : e1 = 0
  · exact blobReads_00 s k z (by omega) hk k1 k8 n0 n1 n2 d0 d1 d2 m0 m1 m2 e0 e1 e2 j0 j1 jt jn f0 g0 x0 y0 f1 g1 x1 y1 g2 ft t2 t3 fn r2 r3 t0 u0 h
  · exact blobReads_01 s k z (by omega) hk k1 k8 n0 n1 n2 d0 d1 d2 m0 m1 m2 e0 e1 e2 j0 j1 jt jn f0 g0 x0 y0 f1 g1 x1 y1 g2 ft t2 t3 fn r2 r3 t0 u0 h
  · exact blobReads_10 s k z (by omega) hk k1 k8 n0 n1 n2 d0 d1 d2 m0 m1 m2 e0 e1 e2 j0 j1 jt jn f0 g0 x0 y0 f1 g1 x1 y1 g2 ft t2 t3 fn r2 r3 t0 u0 h
  · exact blobReads_11 s k z (by omega) hk k1 k8 n0 n1 n2 d0 d1 d2 m0 m1 m2 e0 e1 e2 j0 j1 jt jn f0 g0 x0 y0 f1 g1 x1 y1 g2 ft t2 t3 fn r2 r3 t0 u0 h

end Go.Proofs.Ytbcfnfcmghbelaa
