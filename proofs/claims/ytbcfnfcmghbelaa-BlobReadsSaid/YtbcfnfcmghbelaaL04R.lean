/- Layer 4, walked: BlobReads. -/
import Derived.Test.YtbcfnfcmghbelaaL04S
import Derived.Test.YtbcfnfcmghbelaaBlobP
import Derived.Deep.RegionHeld3
import Derived.BigQuiet
namespace Go.Proofs.Ytbcfnfcmghbelaa
open Go.RowKit

/-- What a reader reads of a text, as the parser says. -/
theorem read_facts {f : InS → BlobS × InS} {p : Bs → Except Int (BlobS × Nat)} (h : Rds f p ⟨false, []⟩) (s : Bs) :
    ∃ (n : Bool) (d : Bs) (m : Nat) (e : Int) (j : InS), f ⟨s, 0, 0⟩ = (⟨n, d⟩, j) ∧ gotV (p s) = .agg #[.bool n, .string (bb d), .int .i64 m, .int .i64 e] ∧ j.err = e ∧ (e = 0 → j.pos = m) := by
  rcases at_zero' h s with ⟨b, k, h1, _, h2⟩ | ⟨e, q, h1, h2, _, h3⟩
  · exact ⟨b.null, b.data, k, 0, ⟨s, k, 0⟩, h2, by rw [h1]; rfl, rfl, fun _ => rfl⟩
  · exact ⟨false, [], 0, e, ⟨s, q, e⟩, h3, by rw [h1]; rfl, rfl, fun h => absurd h h2⟩
theorem err_at {e : Int} {j : InS} (h : j.err = e) : Value.int .i64 j.err = .int .i64 e := by rw [h]
theorem raw_four {W0 w : World} {K : Know} {L : List Res} {r : Res} {c : Nat} {x y z u : Value} {T : TypeId} (h : St W0 w K (r :: .raw c #[x, y, z, u] T :: L)) :
    w.cell? ⟨c, 0, none⟩ = some x ∧ w.cell? ⟨c, 1, none⟩ = some y ∧ w.cell? ⟨c, 2, none⟩ = some z ∧ w.cell? ⟨c, 3, none⟩ = some u :=
  ⟨h.p1.rawCell 0, h.p1.rawCell 1, h.p1.rawCell 2, h.p1.rawCell 3⟩
theorem raw_four' {W0 w : World} {K : Know} {L : List Res} {r : Res} {c : Nat} {x y z u : Value} {T : TypeId} (h : St W0 w K (r :: .raw c #[x, y, z, u] T :: L)) :
    w.cell? ⟨c, 0, none⟩ = some x ∧ w.cell? ⟨c, 1, none⟩ = some y ∧ w.cell? ⟨c, 2, none⟩ = some z ∧ w.cell? ⟨c, 3, none⟩ = some u ∧ St W0 w K (r :: .raw c #[x, y, z, u] T :: L) :=
  ⟨h.p1.rawCell 0, h.p1.rawCell 1, h.p1.rawCell 2, h.p1.rawCell 3, h⟩
theorem raw_free4 {W0 w : World} {K : Know} {L : List Res} {c : Nat} {x y z u : Value} {T : TypeId} (h : St W0 w K (.raw c #[x, y, z, u] T :: L)) :
    w.frozen? ⟨c, 0, none⟩ = false ∧ w.frozen? ⟨c, 1, none⟩ = false ∧ w.frozen? ⟨c, 2, none⟩ = false ∧ w.frozen? ⟨c, 3, none⟩ = false :=
  ⟨h.rawFree 0, h.rawFree 1, h.rawFree 2, h.rawFree 3⟩

theorem q_err {W0 w : World} {K : Know} {L : List Res} {p : Nat} {j : InS} {v : Int} (hv : j.err = v) (h : St W0 w K (.inp p j :: L)) (n : Nat) :
    Calls Try.prog 23 #[inPtr p] (w.drewN n) fun e w' => e = .returned (.int .i64 v) ∧ ∃ m, w' = w.drewN m :=
  Calls.quiet_of_same ((in_err p j _ (h.drewN n).inpGet).mono fun _ _ ⟨h1, h2⟩ => ⟨hv ▸ h1, h2.symm⟩)
theorem q_at {W0 w : World} {K : Know} {L : List Res} {p : Nat} {j : InS} {v : Nat} (hv : j.pos = v) (h : St W0 w K (.inp p j :: L)) (n : Nat) :
    Calls Try.prog 22 #[inPtr p] (w.drewN n) fun e w' => e = .returned (.int .i64 v) ∧ ∃ m, w' = w.drewN m :=
  Calls.quiet_of_same ((in_at p j _ (h.drewN n).inpGet).mono fun _ _ ⟨h1, h2⟩ => ⟨hv ▸ h1, h2.symm⟩)

set_option maxHeartbeats 1000000 in
set_option maxRecDepth 100000 in
theorem law_is (n : Bool) (d : Bs) (m : Nat) (e : Int) (p : Nat) (j : InS) (he : j.err = if e = 0 ∧ n = true then 4 else e) (hm : j.err = 0 → j.pos = m) {W0 w : World} {K : Know} {L : List Res} (h : St W0 w K (.inp p j :: L)) :
    Calls Try.prog 62 #[.agg #[.bool n, .string (bb d), .int .i64 m, .int .i64 e], .string (bb d), inPtr p] w fun en w' => en = .returned (.bool true) ∧ St W0 w' K (.inp p j :: L) := by
  by_cases h0 : e = 0
  · subst h0
    cases n
    · have hj : j.err = 0 := he.trans (if_neg (by simp))
      have EE := Lib.hid hj
      have EP := Lib.hid (hm hj)
      have H := Lib.hid (h.allocRaw #[.bool false, .string (bb d), .int .i64 m, .int .i64 0] 75)
      have H1 := Lib.hid (h.allocRaw #[.bool false, .string (bb d), .int .i64 m, .int .i64 0] 75)
      have fr := raw_free4 H.out
      clear h he hm hj
      go_enter Try.func62, Try.ntmps62
      go_wp2_with (fail)
      have h1 := H1.out.p1
      obtain ⟨c0, c1, c2, c3⟩ := raw_four h1
      have HQ := Lib.hid h1
      clear h1
      go_quiet ((first
        | (go_at_call 23; exact q_err EE.out HQ.out _)
        | (go_at_call 22; exact q_at EP.out HQ.out _)))
      go_wp2
      go_ret
      exact ⟨rfl, (HQ.out.drewN _).p1.drop⟩
    · have hj : j.err = 4 := he.trans (if_pos (by simp))
      have EE := Lib.hid hj
      have EP := Lib.hid True.intro
      have H := Lib.hid (h.allocRaw #[.bool true, .string (bb d), .int .i64 m, .int .i64 0] 75)
      have H1 := Lib.hid (h.allocRaw #[.bool true, .string (bb d), .int .i64 m, .int .i64 4] 75)
      have fr := raw_free4 H.out
      clear h he hm hj
      go_enter Try.func62, Try.ntmps62
      go_wp2_with (fail)
      have h1 := H1.out.p1
      obtain ⟨c0, c1, c2, c3⟩ := raw_four h1
      have HQ := Lib.hid h1
      clear h1
      go_quiet ((first
        | (go_at_call 23; exact q_err EE.out HQ.out _)))
      go_wp2
      go_ret
      exact ⟨rfl, (HQ.out.drewN _).p1.drop⟩
  · have hne : (e == 0) = false := by simpa using h0
    have hne2 : (e != 0) = true := by simpa using h0
    · have hj : j.err = e := he.trans (if_neg (fun h => h0 h.1))
      have EE := Lib.hid hj
      have EP := Lib.hid True.intro
      have H := Lib.hid (h.allocRaw #[.bool n, .string (bb d), .int .i64 m, .int .i64 e] 75)
      have H1 := Lib.hid (h.allocRaw #[.bool n, .string (bb d), .int .i64 m, .int .i64 e] 75)
      have fr := raw_free4 H.out
      clear h he hm hj h0
      go_enter Try.func62, Try.ntmps62
      go_wp2_with (fail)
      have h1 := H1.out.p1
      obtain ⟨c0, c1, c2, c3⟩ := raw_four h1
      have HQ := Lib.hid h1
      clear h1
      go_quiet ((first
        | (go_at_call 23; exact q_err EE.out HQ.out _)))
      go_wp2
      go_ret
      exact ⟨rfl, (HQ.out.drewN _).p1.drop⟩

set_option maxHeartbeats 600000 in
set_option maxRecDepth 100000 in
theorem blobReads_mid (s : Bs) (k : Nat) (z : Int) (hs : s.length ≤ 2000) (hz : z = k) (h1 : 1 ≤ k) (h8 : k ≤ 8) {W0 w : World} {K : Know} {L : List Res} (h : St W0 w Know.none []) :
    True := by
  trivial

theorem ref04_readFixedQ (s : Bs) (k : Nat) (q : Int) (v : Value) (hq : q = k) (hs : s.length ≤ 140737488355328) (hk : k ≤ 8) (hv : gotV (refixed k s) = v) {W0 w : World} {K : Know} {L : List Res} (h : St W0 w K L) :
    Calls Try.prog 58 #[.string (bb s), .int .i64 q] w fun en w' => en = .returned v ∧ St W0 w' K L := by
  subst hq; subst hv; exact ref04_readFixed s k hs hk h
theorem ref04_readVariedQ (s : Bs) (v : Value) (hs : s.length ≤ 140737488355328) (hv : gotV (revaried s) = v) {W0 w : World} {K : Know} {L : List Res} (h : St W0 w K L) :
    Calls Try.prog 59 #[.string (bb s)] w fun en w' => en = .returned v ∧ St W0 w' K L := by
  subst hv; exact ref04_readVaried s hs h
theorem blob_fixedQ (p : Nat) (i : InS) (k : Nat) (q : Int) (n : Bool) (d : Bs) (j : InS) (hq : q = k) (hx : i.fixed k = (⟨n, d⟩, j)) {W0 w : World} {K : Know} {L : List Res} (h : St W0 w K (.inp p i :: L)) :
    Calls Try.prog 60 #[inPtr p, .int .i64 q] w fun en w' => en = .returned (.agg #[.bool n, .string (bb d)]) ∧ St W0 w' K (.inp p j :: L) := by
  subst hq; have := blob_fixed p i k h; rw [hx] at this; exact this
theorem blob_variedQ (p : Nat) (i : InS) (n : Bool) (d : Bs) (j : InS) (hx : i.varied = (⟨n, d⟩, j)) {W0 w : World} {K : Know} {L : List Res} (h : St W0 w K (.inp p i :: L)) :
    Calls Try.prog 61 #[inPtr p] w fun en w' => en = .returned (.agg #[.bool n, .string (bb d)]) ∧ St W0 w' K (.inp p j :: L) := by
  have := blob_varied p i h; rw [hx] at this; exact this

theorem raw_all4 {W0 w : World} {K : Know} {L : List Res} {c : Nat} {x y z u : Value} {T : TypeId} (h : St W0 w K (.raw c #[x, y, z, u] T :: L)) :
    w.cell? ⟨c, 0, none⟩ = some x ∧ w.cell? ⟨c, 1, none⟩ = some y ∧ w.cell? ⟨c, 2, none⟩ = some z ∧ w.cell? ⟨c, 3, none⟩ = some u ∧
    w.frozen? ⟨c, 0, none⟩ = false ∧ w.frozen? ⟨c, 1, none⟩ = false ∧ w.frozen? ⟨c, 2, none⟩ = false ∧ w.frozen? ⟨c, 3, none⟩ = false ∧ c < w.heap.size :=
  ⟨h.rawCell 0, h.rawCell 1, h.rawCell 2, h.rawCell 3, h.rawFree 0, h.rawFree 1, h.rawFree 2, h.rawFree 3, (Array.getElem?_eq_some_iff.1 h.rawGet).1⟩
theorem raw_four3 {W0 w : World} {K : Know} {L : List Res} {r r' : Res} {c : Nat} {x y z u : Value} {T : TypeId} (h : St W0 w K (r :: r' :: .raw c #[x, y, z, u] T :: L)) :
    w.cell? ⟨c, 0, none⟩ = some x ∧ w.cell? ⟨c, 1, none⟩ = some y ∧ w.cell? ⟨c, 2, none⟩ = some z ∧ w.cell? ⟨c, 3, none⟩ = some u :=
  ⟨h.p2.rawCell 0, h.p2.rawCell 1, h.p2.rawCell 2, h.p2.rawCell 3⟩

end Go.Proofs.Ytbcfnfcmghbelaa
