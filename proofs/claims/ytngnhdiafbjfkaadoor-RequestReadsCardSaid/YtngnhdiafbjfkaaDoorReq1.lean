/- Heads of requests: which may be, and how they are written. -/
import Derived.Test.YtngnhdiafbjfkaaDoorReqP
import Derived.Test.YtngnhdiafbjfkaaDoorVer2
import Derived.Test.YtngnhdiafbjfkaaDoorS1
import Derived.Test.YtngnhdiafbjfkaaDoorBlob1
import Derived.Test.YtngnhdiafbjfkaaDoorSel
namespace Go.Proofs.YtngnhdiafbjfkaaDoor
open Go.RowKit

theorem raw5 {W0 w : World} {K : Know} {L : List Res} {b : Nat} {a0 a1 a2 a3 a4 : Value} {T : TypeId} (h : St W0 w K (.raw b #[a0, a1, a2, a3, a4] T :: L)) :
    w.cell? ⟨b, 0, none⟩ = some a0 ∧ w.cell? ⟨b, 1, none⟩ = some a1 ∧ w.cell? ⟨b, 2, none⟩ = some a2 ∧ w.cell? ⟨b, 3, none⟩ = some a3 ∧ w.cell? ⟨b, 4, none⟩ = some a4 ∧ w.frozen? ⟨b, 0, none⟩ = false ∧ w.frozen? ⟨b, 1, none⟩ = false ∧ w.frozen? ⟨b, 2, none⟩ = false ∧ w.frozen? ⟨b, 3, none⟩ = false ∧ w.frozen? ⟨b, 4, none⟩ = false :=
  ⟨(h.rawCell 0).trans rfl, (h.rawCell 1).trans rfl, (h.rawCell 2).trans rfl, (h.rawCell 3).trans rfl, (h.rawCell 4).trans rfl, h.rawFree 0, h.rawFree 1, h.rawFree 2, h.rawFree 3, h.rawFree 4⟩
/-- Which way a head's check goes. -/
inductive HeadWay (a v n : Int) (u : Bool) (d : Bs) : Int → Prop where
  | vers : verErr a v ≠ 0 → HeadWay a v n u d (verErr a v)
  | range : verErr a v = 0 → ¬ fits n 4 → HeadWay a v n u d 11
  | wrong : verErr a v = 0 → fits n 4 → u = true → d ≠ [] → HeadWay a v n u d 4
  | long : verErr a v = 0 → fits n 4 → u = false → 32767 < d.length → HeadWay a v n u d 4
  | right : verErr a v = 0 → fits n 4 → (u = true → d = []) → d.length ≤ 32767 → HeadWay a v n u d 0
theorem headWay (a v n : Int) (u : Bool) (d : Bs) : HeadWay a v n u d (headErr ⟨a, v, n, ⟨u, d⟩⟩) := by
  unfold headErr BlobS.right
  simp only
  by_cases h1 : verErr a v = 0
  · rw [if_neg (fun x => x h1)]
    by_cases h2 : fits n 4
    · rw [if_neg (fun x => x h2)]
      cases u with
      | true =>
        cases d with
        | nil => exact .right h1 h2 (fun _ => rfl) (by simp)
        | cons c t => exact .wrong h1 h2 rfl (by simp)
      | false =>
        by_cases h3 : 32767 < d.length
        · rw [if_pos (.inr h3)]; exact .long h1 h2 rfl h3
        · rw [if_neg (by simp; omega)]; exact .right h1 h2 (fun h => by cases h) (by omega)
    · rw [if_pos h2]; exact .range h1 h2
  · rw [if_pos h1]; exact .vers h1
theorem blob_rightQ (u : Bool) (d : Bs) (r : Bool) (hr : (⟨u, d⟩ : BlobS).right = r) {W0 w : World} {K : Know} {L : List Res} (h : St W0 w K L) :
    Calls Tryd.prog 31 #[.agg #[.bool u, .string (bb d)]] w fun en w' => en = .returned (.bool r) ∧ St W0 w' K L := by
  subst hr; exact blob_right ⟨u, d⟩ h
theorem fits_Q (n : Int) (r : Bool) (hr : decide (fits n 4) = r) (hn : -9223372036854775808 ≤ n ∧ n < 9223372036854775808) {W0 w : World} {K : Know} {L : List Res} (h : St W0 w K L) :
    Calls Tryd.prog 30 #[.int .i64 n, .int .i64 4] w fun en w' => en = .returned (.bool r) ∧ St W0 w' K L := by
  subst hr; exact so_fits n 4 hn h

set_option maxHeartbeats 1000000 in
set_option maxRecDepth 100000 in
theorem req_check (a v n : Int) (u : Bool) (d : Bs) (q : Int) (hq : headErr ⟨a, v, n, ⟨u, d⟩⟩ = q) (hn : -9223372036854775808 ≤ n ∧ n < 9223372036854775808) {W0 w : World} {K : Know} {L : List Res} (hk : K.has Know.reqs) (h : St W0 w K L) :
    Calls Tryd.prog 17 #[.agg #[.int .i64 a, .int .i64 v, .int .i64 n, .bool u, .string (bb d)]] w fun en w' => en = .returned (.int .i64 q) ∧ St W0 w' K L := by
  have h1 := h.allocRaw #[.int .i64 a, .int .i64 v, .int .i64 n, .bool u, .string (bb d)] 38
  obtain ⟨hb, hhb⟩ : ∃ b, w.heap.size = b := ⟨_, rfl⟩
  rw [hhb] at h1
  have HN := Lib.hid hn
  have HK := Lib.hid hk
  obtain ⟨x0, x1, x2, x3, x4, y0, y1, y2, y3, y4⟩ := raw5 (b := hb) (h1)
  have H := Lib.hid h1
  clear h h1 hk hn
  have hw := headWay a v n u d
  rw [hq] at hw
  clear hq
  cases hw with
  | vers g =>
    obtain ⟨q, hq⟩ : ∃ q, verErr a v = q := ⟨_, rfl⟩
    rw [hq] at g ⊢
    have HQ := Lib.hid hq
    have gz : (q == 0) = false := by rw [beq_eq_false_iff_ne]; exact g
    clear hq
    go_enter Tryd.func17, Tryd.ntmps17
    go_wp2_with (first
      | (go_at_call 11; (with_reducible refine (ver_check a v _ HQ.out HK.out H.out).mono ?_); rintro e wn ⟨rfl, h⟩; replace H := Lib.hid h; clear h; obtain ⟨x0, x1, x2, x3, x4, y0, y1, y2, y3, y4⟩ := raw5 (b := hb) (H.out)))
    go_ret
    exact ⟨rfl, H.out.drop⟩
  | range g1 g2 =>
    have HQ := Lib.hid g1
    have HF := Lib.hid (show decide (fits n 4) = false from decide_eq_false g2)
    clear g1 g2
    go_enter Tryd.func17, Tryd.ntmps17
    go_wp2_with (first
      | (go_at_call 11; (with_reducible refine (ver_check a v _ HQ.out HK.out H.out).mono ?_); rintro e wn ⟨rfl, h⟩; replace H := Lib.hid h; clear h; obtain ⟨x0, x1, x2, x3, x4, y0, y1, y2, y3, y4⟩ := raw5 (b := hb) (H.out))
      | (go_at_call 30; (with_reducible refine (fits_Q n false HF.out HN.out H.out).mono ?_); rintro e wn ⟨rfl, h⟩; replace H := Lib.hid h; clear h; obtain ⟨x0, x1, x2, x3, x4, y0, y1, y2, y3, y4⟩ := raw5 (b := hb) (H.out)))
    go_ret
    exact ⟨rfl, H.out.drop⟩
  | wrong g1 g2 g3 g4 =>
    have HQ := Lib.hid g1
    have HF := Lib.hid (show decide (fits n 4) = true from decide_eq_true g2)
    have HR := Lib.hid (show (⟨u, d⟩ : BlobS).right = false by unfold BlobS.right; rw [g3]; cases d with
      | nil => exact absurd rfl g4
      | cons c t => rfl)
    clear g1 g2 g3 g4
    go_enter Tryd.func17, Tryd.ntmps17
    go_wp2_with (first
      | (go_at_call 11; (with_reducible refine (ver_check a v _ HQ.out HK.out H.out).mono ?_); rintro e wn ⟨rfl, h⟩; replace H := Lib.hid h; clear h; obtain ⟨x0, x1, x2, x3, x4, y0, y1, y2, y3, y4⟩ := raw5 (b := hb) (H.out))
      | (go_at_call 30; (with_reducible refine (fits_Q n true HF.out HN.out H.out).mono ?_); rintro e wn ⟨rfl, h⟩; replace H := Lib.hid h; clear h; obtain ⟨x0, x1, x2, x3, x4, y0, y1, y2, y3, y4⟩ := raw5 (b := hb) (H.out))
      | (go_at_call 31; (with_reducible refine (blob_rightQ u d _ HR.out H.out).mono ?_); rintro e wn ⟨rfl, h⟩; replace H := Lib.hid h; clear h; obtain ⟨x0, x1, x2, x3, x4, y0, y1, y2, y3, y4⟩ := raw5 (b := hb) (H.out)))
    go_ret
    exact ⟨rfl, H.out.drop⟩
  | long g1 g2 g3 g4 =>
    have HQ := Lib.hid g1
    have HF := Lib.hid (show decide (fits n 4) = true from decide_eq_true g2)
    have HR := Lib.hid (show (⟨u, d⟩ : BlobS).right = true by unfold BlobS.right; rw [g3]; rfl)
    have dl : decide ((32767 : Int) < (d.length : Int)) = true := decide_eq_true (by omega)
    clear g1 g2 g3 g4
    go_enter Tryd.func17, Tryd.ntmps17
    go_wp2_with (first
      | (go_at_call 11; (with_reducible refine (ver_check a v _ HQ.out HK.out H.out).mono ?_); rintro e wn ⟨rfl, h⟩; replace H := Lib.hid h; clear h; obtain ⟨x0, x1, x2, x3, x4, y0, y1, y2, y3, y4⟩ := raw5 (b := hb) (H.out))
      | (go_at_call 30; (with_reducible refine (fits_Q n true HF.out HN.out H.out).mono ?_); rintro e wn ⟨rfl, h⟩; replace H := Lib.hid h; clear h; obtain ⟨x0, x1, x2, x3, x4, y0, y1, y2, y3, y4⟩ := raw5 (b := hb) (H.out))
      | (go_at_call 31; (with_reducible refine (blob_rightQ u d _ HR.out H.out).mono ?_); rintro e wn ⟨rfl, h⟩; replace H := Lib.hid h; clear h; obtain ⟨x0, x1, x2, x3, x4, y0, y1, y2, y3, y4⟩ := raw5 (b := hb) (H.out)))
    go_ret
    exact ⟨rfl, H.out.drop⟩
  | right g1 g2 g3 g4 =>
    have HQ := Lib.hid g1
    have HF := Lib.hid (show decide (fits n 4) = true from decide_eq_true g2)
    have HR := Lib.hid (show (⟨u, d⟩ : BlobS).right = true by unfold BlobS.right; cases u with
      | false => rfl
      | true => rw [g3 rfl]; rfl)
    have dl : decide ((32767 : Int) < (d.length : Int)) = false := decide_eq_false (by omega)
    clear g1 g2 g3 g4
    go_enter Tryd.func17, Tryd.ntmps17
    go_wp2_with (first
      | (go_at_call 11; (with_reducible refine (ver_check a v _ HQ.out HK.out H.out).mono ?_); rintro e wn ⟨rfl, h⟩; replace H := Lib.hid h; clear h; obtain ⟨x0, x1, x2, x3, x4, y0, y1, y2, y3, y4⟩ := raw5 (b := hb) (H.out))
      | (go_at_call 30; (with_reducible refine (fits_Q n true HF.out HN.out H.out).mono ?_); rintro e wn ⟨rfl, h⟩; replace H := Lib.hid h; clear h; obtain ⟨x0, x1, x2, x3, x4, y0, y1, y2, y3, y4⟩ := raw5 (b := hb) (H.out))
      | (go_at_call 31; (with_reducible refine (blob_rightQ u d _ HR.out H.out).mono ?_); rintro e wn ⟨rfl, h⟩; replace H := Lib.hid h; clear h; obtain ⟨x0, x1, x2, x3, x4, y0, y1, y2, y3, y4⟩ := raw5 (b := hb) (H.out)))
    go_ret
    exact ⟨rfl, H.out.drop⟩

theorem so_intQ (p : Nat) (o o2 : OutS) (n size : Int) (hx : o.int n size = o2) (hn : -9223372036854775808 ≤ n ∧ n < 9223372036854775808) (hr : o.ok 8) {W0 w : World} {K : Know} {L : List Res} (h : St W0 w K (.out p o :: L)) :
    Calls Tryd.prog 27 #[outPtr p, .int .i64 n, .int .i64 size] w fun en w' => en = .returned (.tuple #[]) ∧ St W0 w' K (.out p o2 :: L) := by
  subst hx; exact so_int p o n size hn h hr
theorem so_failQ (p : Nat) (o o2 : OutS) (e : Int) (hx : o.fail e = o2) {W0 w : World} {K : Know} {L : List Res} (h : St W0 w K (.out p o :: L)) :
    Calls Tryd.prog 26 #[outPtr p, .int .i64 e] w fun en w' => en = .returned (.tuple #[]) ∧ St W0 w' K (.out p o2 :: L) := by
  subst hx; exact so_fail p o e h
theorem blob_putFixedQ (p : Nat) (o o2 : OutS) (u : Bool) (d : Bs) (hx : o.putFixed ⟨u, d⟩ 2 = o2) (hr : o.ok (d.length + 8)) {W0 w : World} {K : Know} {L : List Res} (h : St W0 w K (.out p o :: L)) :
    Calls Tryd.prog 28 #[outPtr p, .agg #[.bool u, .string (bb d)], .int .i64 2] w fun en w' => en = .returned (.tuple #[]) ∧ St W0 w' K (.out p o2 :: L) := by
  subst hx; exact blob_putFixed p o ⟨u, d⟩ 2 h hr
set_option maxHeartbeats 1000000 in
set_option maxRecDepth 100000 in
theorem req_write_bad (p : Nat) (o o2 : OutS) (a v n : Int) (u : Bool) (d : Bs) (q : Int) (hq : headErr ⟨a, v, n, ⟨u, d⟩⟩ = q) (g : q ≠ 0) (hx : o.fail q = o2) (hn : -9223372036854775808 ≤ n ∧ n < 9223372036854775808) {W0 w : World} {K : Know} {L : List Res} (hk : K.has Know.reqs) (h : St W0 w K (.out p o :: L)) :
    Calls Tryd.prog 14 #[outPtr p, .agg #[.int .i64 a, .int .i64 v, .int .i64 n, .bool u, .string (bb d)]] w fun en w' => en = .returned (.tuple #[]) ∧ St W0 w' K (.out p o2 :: L) := by
  have h1 := h.allocRaw #[.int .i64 a, .int .i64 v, .int .i64 n, .bool u, .string (bb d)] 38
  obtain ⟨hb, hhb⟩ : ∃ b, w.heap.size = b := ⟨_, rfl⟩
  rw [hhb] at h1
  have HN := Lib.hid hn
  have HK := Lib.hid hk
  have HQ := Lib.hid hq
  have HX := Lib.hid hx
  obtain ⟨x0, x1, x2, x3, x4, y0, y1, y2, y3, y4⟩ := raw5 (b := hb) (h1)
  have H := Lib.hid h1
  have gz : (q == 0) = false := by rw [beq_eq_false_iff_ne]; exact g
  clear h h1 hk hn hq hx
  go_enter Tryd.func14, Tryd.ntmps14
  go_wp2_with (first
    | (go_at_call 17; (with_reducible refine (req_check a v n u d q HQ.out HN.out HK.out H.out).mono ?_); rintro e wn ⟨rfl, h⟩; replace H := Lib.hid h; clear h; obtain ⟨x0, x1, x2, x3, x4, y0, y1, y2, y3, y4⟩ := raw5 (b := hb) (H.out))
    | (go_at_call 26; (with_reducible refine (so_failQ p o o2 q HX.out H.out.p1).mono ?_); rintro e wn ⟨rfl, h⟩; replace H := Lib.hid h; clear h))
  refine bodyPost_ret (results_none rfl _ _ _) rfl ⟨rfl, H.out.p1.drop⟩
set_option maxHeartbeats 1000000 in
set_option maxRecDepth 100000 in
theorem req_write_ok (p : Nat) (o1 o2 o3 o4 o5 : OutS) (a v n : Int) (u : Bool) (d : Bs) (hq : headErr ⟨a, v, n, ⟨u, d⟩⟩ = 0) (e1 : o1.int a 2 = o2) (e2 : o2.int v 2 = o3) (e3 : o3.int n 4 = o4) (e4 : o4.putFixed ⟨u, d⟩ 2 = o5)
    (ra : -9223372036854775808 ≤ a ∧ a < 9223372036854775808) (rv : -9223372036854775808 ≤ v ∧ v < 9223372036854775808) (hn : -9223372036854775808 ≤ n ∧ n < 9223372036854775808) (k1 : o1.ok 8) (k2 : o2.ok 8) (k3 : o3.ok 8) (k4 : o4.ok (d.length + 8)) {W0 w : World} {K : Know} {L : List Res} (hk : K.has Know.reqs) (h : St W0 w K (.out p o1 :: L)) :
    Calls Tryd.prog 14 #[outPtr p, .agg #[.int .i64 a, .int .i64 v, .int .i64 n, .bool u, .string (bb d)]] w fun en w' => en = .returned (.tuple #[]) ∧ St W0 w' K (.out p o5 :: L) := by
  have h1 := h.allocRaw #[.int .i64 a, .int .i64 v, .int .i64 n, .bool u, .string (bb d)] 38
  obtain ⟨hb, hhb⟩ : ∃ b, w.heap.size = b := ⟨_, rfl⟩
  rw [hhb] at h1
  have HN := Lib.hid hn
  have HK := Lib.hid hk
  obtain ⟨q, hq0⟩ : ∃ q, (0 : Int) = q := ⟨_, rfl⟩
  have HQ := Lib.hid hq
  have E1 := Lib.hid e1
  have E2 := Lib.hid e2
  have E3 := Lib.hid e3
  have E4 := Lib.hid e4
  have RA := Lib.hid ra
  have RV := Lib.hid rv
  have K1 := Lib.hid k1
  have K2 := Lib.hid k2
  have K3 := Lib.hid k3
  have K4 := Lib.hid k4
  obtain ⟨x0, x1, x2, x3, x4, y0, y1, y2, y3, y4⟩ := raw5 (b := hb) (h1)
  have H := Lib.hid h1
  clear h h1 hk hn hq e1 e2 e3 e4 ra rv k1 k2 k3 k4 hq0 q
  have t1 : True := trivial
  go_enter Tryd.func14, Tryd.ntmps14
  go_wp2_with (first
    | (go_at_call 17; (with_reducible refine (req_check a v n u d _ HQ.out HN.out HK.out H.out).mono ?_); rintro e wn ⟨rfl, h⟩; replace H := Lib.hid h; clear h; obtain ⟨x0, x1, x2, x3, x4, y0, y1, y2, y3, y4⟩ := raw5 (b := hb) (H.out))
    | (go_at_call 27; have _t := t1; clear _t; (with_reducible refine (so_intQ p o1 o2 a 2 E1.out RA.out K1.out H.out.p1).mono ?_); rintro e wn ⟨rfl, h⟩; replace H := Lib.hid h; clear h; replace H := Lib.hid H.out.p1; obtain ⟨x0, x1, x2, x3, x4, y0, y1, y2, y3, y4⟩ := raw5 (b := hb) (H.out); have t2 : True := trivial; clear t1)
    | (go_at_call 27; have _t := t2; clear _t; (with_reducible refine (so_intQ p o2 o3 v 2 E2.out RV.out K2.out H.out.p1).mono ?_); rintro e wn ⟨rfl, h⟩; replace H := Lib.hid h; clear h; replace H := Lib.hid H.out.p1; obtain ⟨x0, x1, x2, x3, x4, y0, y1, y2, y3, y4⟩ := raw5 (b := hb) (H.out); have t3 : True := trivial; clear t2)
    | (go_at_call 27; have _t := t3; clear _t; (with_reducible refine (so_intQ p o3 o4 n 4 E3.out HN.out K3.out H.out.p1).mono ?_); rintro e wn ⟨rfl, h⟩; replace H := Lib.hid h; clear h; replace H := Lib.hid H.out.p1; obtain ⟨x0, x1, x2, x3, x4, y0, y1, y2, y3, y4⟩ := raw5 (b := hb) (H.out); clear t3)
    | (go_at_call 28; (with_reducible refine (blob_putFixedQ p o4 o5 u d E4.out K4.out H.out.p1).mono ?_); rintro e wn ⟨rfl, h⟩; replace H := Lib.hid h; clear h))
  refine bodyPost_end (results_none rfl _ _ _) rfl ⟨rfl, H.out.p1.drop⟩

end Go.Proofs.YtngnhdiafbjfkaaDoor
