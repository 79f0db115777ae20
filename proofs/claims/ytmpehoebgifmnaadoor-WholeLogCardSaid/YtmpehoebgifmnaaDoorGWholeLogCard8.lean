/- Of any changes, as entries of a log, and applied, what is known of each transaction is what was said last, compacted, too, and with all said twice: proved of all changes, the table of requests as the program lays it. -/
import Derived.Test.YtmpehoebgifmnaaDoorGWholeLogCard7
import Derived.Test.YtmpehoebgifmnaaDoorGWholeLogCard6
import Derived.Test.YtmpehoebgifmnaaDoorGWholeLogCard4
import Derived.Test.YtmpehoebgifmnaaDoorGWholeLogCard5
import Derived.Test.YtmpehoebgifmnaaDoorGWholeLogCard1
import Derived.Carry
import Derived.RegionTactic
import Derived.WalkMore
import Derived.Deep.RegionHeld3
import Derived.Deep.DeepCutAuto
import Derived.Test.YtmpehoebgifmnaaDoorL06F
import Derived.Test.YtmpehoebgifmnaaDoorCards
import Derived.Test.YtmpehoebgifmnaaDoorLaw
import Derived.OpenShut
import Derived.MakeChecks
import Derived.LaidMore
import Derived.Test.YtmpehoebgifmnaaDoorTie
import Derived.Deep.DeepHandedRow
import Derived.SevenTiedAt
import Derived.Test.YtmpehoebgifmnaaDoorArgs
/- WholeLog. -/
namespace Go.Proofs.YtmpehoebgifmnaaDoor
open Go.RowKit

set_option maxHeartbeats 4000000 in
set_option maxRecDepth 100000 in
theorem wl_long (l : List ChR) (q : Option Addr) (cap : Nat) (hl : 30 < l.length) (hall : ∀ x ∈ l, ValS.R ⟨x.p, x.e, x.t, x.s, x.tl.map (·.1), x.u, x.st⟩ ∧ FewI x.tl) {W0 w : World} {K : Know} (hk : K.has (Know.chs (.slice q l.length cap) l)) (hq : K.has Know.reqs) (h : St W0 w K []) :
    Calls Tryd.prog 3 #[.slice q l.length cap] w fun en w' => en = .returned (.bool true) ∧ Below W0.heap.size W0 w' := by
  have H := Lib.hid h
  have HQ := Lib.hid hq
  have hli : 30 < (l.length : Int) := by omega
  clear h hk hq hall hl
  go_enter Tryd.func3, Tryd.ntmps3
  go_wp2_with (go_at_call 4; (with_reducible refine (ver_end HQ.out H.out).mono ?_); rintro e_ wn ⟨rfl, h⟩; replace H := Lib.hid h; clear h)
  go_ret
  exact ⟨rfl, H.out.below⟩

set_option maxHeartbeats 12000000 in
set_option maxRecDepth 100000 in
theorem wl_main (l : List ChR) (q : Option Addr) (cap : Nat) (hl : l.length ≤ 30) (hall : ∀ x ∈ l, ValS.R ⟨x.p, x.e, x.t, x.s, x.tl.map (·.1), x.u, x.st⟩ ∧ FewI x.tl) {W0 w : World} {K : Know} (hk : K.has (Know.chs (.slice q l.length cap) l)) (hq : K.has Know.reqs) (h : St W0 w K []) :
    Calls Tryd.prog 3 #[.slice q l.length cap] w fun en w' => en = .returned (.bool true) ∧ Below W0.heap.size W0 w' := by
  have H := Lib.hid h
  have HK := Lib.hid hk
  have HQ := Lib.hid hq
  have HALL := Lib.hid hall
  have hli : (l.length : Int) ≤ 30 := by omega
  have hmm := @run_makeMap Tryd.prog
  have t1 : True := trivial
  clear h hk hq hall
  go_enter Tryd.func3, Tryd.ntmps3
  go_wp2_with (first
    | (go_at_call 4; (with_reducible refine (ver_end HQ.out H.out).mono ?_); rintro e_ wn ⟨rfl, h⟩; replace H := Lib.hid h; clear h)
    | (go_at_call 5; have _t := t1; clear _t; (with_reducible refine (jr_new H.out).mono ?_); rintro e_ wn ⟨jb, mb, rfl, h⟩; replace H := Lib.hid h; clear h; clear t1)
    | (go_at_call 5; (with_reducible refine (jr_new H.out).mono ?_); rintro e_ wn ⟨tb, tm, rfl, h⟩; have h := h.p2.p3.p1; obtain ⟨cb, hcb⟩ : ∃ b, wn.heap.size = b := ⟨_, rfl⟩; have h := h.cnew; rw [hcb] at h; have h := h.p4.p4.p4.p4; replace H := Lib.hid h; clear h))
  go_loopw [38] (fun iv wr => ∃ (k n n2 m m2 nc : Nat) (f : JF) (g : GF) (all : List KnR), k ≤ l.length ∧ n ≤ k ∧ n2 ≤ 2 * k ∧ m ≤ k ∧ m2 ≤ 2 * k ∧ nc ≤ k ∧ all.length ≤ k ∧ iv = .int .i64 k ∧ Hid (AllOk f all) ∧ Hid (GOk l f g) ∧ St W0 wr K (.raw jb #[.map (some mb), .int .i64 (m : Int)] 57 :: .gen (jmap mb n f) :: .raw tb #[.map (some tm), .int .i64 (m2 : Int)] 57 :: .gen (jmap tm n2 f) :: .gen (cmap cb nc g) :: [])) (fun iv _ => l.length - (intOf iv).toNat)
  case atStart => exact ⟨0, 0, 0, 0, 0, 0, _, _, [], Nat.zero_le _, Nat.le_refl _, Nat.le_refl _, Nat.le_refl _, Nat.le_refl _, Nat.le_refl _, Nat.le_refl _, rfl, Lib.hid AllOk.nil, Lib.hid (GOk.nil l), H.out⟩
  case round =>
    obtain ⟨k, n, n2, m, m2, nc, f, g, all, hkl, hnk, hn2k, hmk, hm2k, hnck, hak, rfl, HAO, HGO, hst⟩ := hrel
    clear H
    have H := Lib.hid hst
    clear hst
    by_cases hlt : k < l.length
    · skip
      obtain ⟨b, off, hq⟩ := chs_at HK.out H.out (by omega)
      subst hq
      obtain ⟨x, hx⟩ : ∃ x, l[k] = x := ⟨_, rfl⟩
      obtain ⟨d0, d1, d2, d3, d4, d5, d6, d7, d8⟩ := chs_cell HK.out H.out k hlt x hx
      have hxl : x ∈ l := by rw [← hx]; exact List.getElem_mem hlt
      have hxa := HALL.out x hxl
      have HKT := Lib.hid (chs_tops HK.out hxl)
      clear hx
      obtain ⟨id, dr, p, e, t, s, u, st, tl, xq, xcap⟩ := x
      simp only at d0 d1 d2 d3 d4 d5 d6 d7 d8 hxa HKT
      obtain ⟨hR, hfi⟩ := hxa
      have HX := Lib.hid hxl
      clear hxl
      have hkn : (k : Int) < (l.length : Int) := by omega
      obtain ⟨vb, hvb⟩ : ∃ b, wr.heap.size = b := ⟨_, rfl⟩
      by_cases hi5 : id.length ≤ 500
      rotate_left
      · have q1 : 500 < (id.length : Int) := by omega
        have q2 : decide (500 < (id.length : Int)) = true := decide_eq_true q1
        cases dr with
        | true =>
          have g1 := H.out.allocRaw #[.string (bb id), .bool true, .int .i64 p, .int .i64 e, .int .i64 t, .int .i64 s, .slice xq tl.length xcap, .int .i64 u, .int .i64 st] 31
          rw [hvb] at g1
          have c0 := (g1).rawCell 0; have c1 := (g1).rawCell 1; have c2 := (g1).rawCell 2; have c3 := (g1).rawCell 3; have c4 := (g1).rawCell 4; have c5 := (g1).rawCell 5; have c6 := (g1).rawCell 6; have c7 := (g1).rawCell 7; have c8 := (g1).rawCell 8; simp at c0 c1 c2 c3 c4 c5 c6 c7 c8
          clear H
          have H := Lib.hid g1
          clear g1
          go_wp2_with fail
          go_ret
          exact ⟨rfl, H.out.below⟩
        | false =>
          have g1 := H.out.allocRaw #[.string (bb id), .bool false, .int .i64 p, .int .i64 e, .int .i64 t, .int .i64 s, .slice xq tl.length xcap, .int .i64 u, .int .i64 st] 31
          rw [hvb] at g1
          have c0 := (g1).rawCell 0; have c1 := (g1).rawCell 1; have c2 := (g1).rawCell 2; have c3 := (g1).rawCell 3; have c4 := (g1).rawCell 4; have c5 := (g1).rawCell 5; have c6 := (g1).rawCell 6; have c7 := (g1).rawCell 7; have c8 := (g1).rawCell 8; simp at c0 c1 c2 c3 c4 c5 c6 c7 c8
          clear H
          have H := Lib.hid g1
          clear g1
          go_wp2_with fail
          go_ret
          exact ⟨rfl, H.out.below⟩
      have q1 : ¬ 500 < (id.length : Int) := by omega
      have q2 : decide (500 < (id.length : Int)) = false := decide_eq_false q1
      have HI5 := Lib.hid hi5
      have HIL := Lib.hid (show id.length ≤ 40000 by omega)
      have HNL := Lib.hid hfi.1
      have HNB := Lib.hid (show ∀ x ∈ tl, x.1.name.length ≤ 140737488351232 ∧ x.1.parts.length ≤ 17592186043904 from fun x hx => ⟨(hfi.2 x hx).1, (hfi.2 x hx).2.1⟩)
      by_cases hw : topWs (tl.map (·.1)) ≤ 1000
      rotate_left
      · have HFW := Lib.hid (show few (tl.map (·.1)) = 0 by unfold few; rw [if_neg hw])
        clear hfi hw hR
        cases dr with
        | true =>
          have g1 := H.out.allocRaw #[.string (bb id), .bool true, .int .i64 p, .int .i64 e, .int .i64 t, .int .i64 s, .slice xq tl.length xcap, .int .i64 u, .int .i64 st] 31
          rw [hvb] at g1
          have c0 := (g1).rawCell 0; have c1 := (g1).rawCell 1; have c2 := (g1).rawCell 2; have c3 := (g1).rawCell 3; have c4 := (g1).rawCell 4; have c5 := (g1).rawCell 5; have c6 := (g1).rawCell 6; have c7 := (g1).rawCell 7; have c8 := (g1).rawCell 8; simp at c0 c1 c2 c3 c4 c5 c6 c7 c8
          clear H
          have H := Lib.hid g1
          clear g1
          go_wp2_with (go_at_call 6; (try clear c0 c1 c2 c3 c4 c5 c6 c7 c8); (with_reducible refine (law14_few tl xq xcap HNL.out HNB.out 0 HFW.out HKT.out H.out).mono ?_); rintro e_ wn ⟨rfl, h⟩; have c0 := (h).rawCell 0; have c1 := (h).rawCell 1; have c2 := (h).rawCell 2; have c3 := (h).rawCell 3; have c4 := (h).rawCell 4; have c5 := (h).rawCell 5; have c6 := (h).rawCell 6; have c7 := (h).rawCell 7; have c8 := (h).rawCell 8; simp at c0 c1 c2 c3 c4 c5 c6 c7 c8; replace H := Lib.hid h; clear h)
          go_ret
          exact ⟨rfl, H.out.below⟩
        | false =>
          have g1 := H.out.allocRaw #[.string (bb id), .bool false, .int .i64 p, .int .i64 e, .int .i64 t, .int .i64 s, .slice xq tl.length xcap, .int .i64 u, .int .i64 st] 31
          rw [hvb] at g1
          have c0 := (g1).rawCell 0; have c1 := (g1).rawCell 1; have c2 := (g1).rawCell 2; have c3 := (g1).rawCell 3; have c4 := (g1).rawCell 4; have c5 := (g1).rawCell 5; have c6 := (g1).rawCell 6; have c7 := (g1).rawCell 7; have c8 := (g1).rawCell 8; simp at c0 c1 c2 c3 c4 c5 c6 c7 c8
          clear H
          have H := Lib.hid g1
          clear g1
          go_wp2_with (go_at_call 6; (try clear c0 c1 c2 c3 c4 c5 c6 c7 c8); (with_reducible refine (law14_few tl xq xcap HNL.out HNB.out 0 HFW.out HKT.out H.out).mono ?_); rintro e_ wn ⟨rfl, h⟩; have c0 := (h).rawCell 0; have c1 := (h).rawCell 1; have c2 := (h).rawCell 2; have c3 := (h).rawCell 3; have c4 := (h).rawCell 4; have c5 := (h).rawCell 5; have c6 := (h).rawCell 6; have c7 := (h).rawCell 7; have c8 := (h).rawCell 8; simp at c0 c1 c2 c3 c4 c5 c6 c7 c8; replace H := Lib.hid h; clear h)
          go_ret
          exact ⟨rfl, H.out.below⟩
      have HFW := Lib.hid (show few (tl.map (·.1)) = 1 by unfold few; rw [if_pos hw])
      have HF := Lib.hid (few_T hw)
      obtain ⟨⟨key, E⟩, hke⟩ : ∃ r, keyEnc id = r := ⟨_, rfl⟩
      have HKE := Lib.hid hke
      by_cases h0 : E = 0
      rotate_left
      · clear hfi hw hR
        cases dr with
        | true =>
          have g1 := H.out.allocRaw #[.string (bb id), .bool true, .int .i64 p, .int .i64 e, .int .i64 t, .int .i64 s, .slice xq tl.length xcap, .int .i64 u, .int .i64 st] 31
          rw [hvb] at g1
          have c0 := (g1).rawCell 0; have c1 := (g1).rawCell 1; have c2 := (g1).rawCell 2; have c3 := (g1).rawCell 3; have c4 := (g1).rawCell 4; have c5 := (g1).rawCell 5; have c6 := (g1).rawCell 6; have c7 := (g1).rawCell 7; have c8 := (g1).rawCell 8; simp at c0 c1 c2 c3 c4 c5 c6 c7 c8
          clear H
          have H := Lib.hid g1
          clear g1
          have H0 := Lib.hid h0
          have e1 : (E == 0) = false := by rw [beq_eq_false_iff_ne]; exact h0
          have e2 : (E != 0) = true := by simp [bne, e1]
          have e3 : (E == E) = true := by simp
          have e4 : (E != E) = false := by simp
          clear h0
          go_wp2_with (first
              | (go_at_call 6; (try clear c0 c1 c2 c3 c4 c5 c6 c7 c8); (with_reducible refine (law14_few tl xq xcap HNL.out HNB.out 1 HFW.out HKT.out H.out).mono ?_); rintro e_ wn ⟨rfl, h⟩; have c0 := (h).rawCell 0; have c1 := (h).rawCell 1; have c2 := (h).rawCell 2; have c3 := (h).rawCell 3; have c4 := (h).rawCell 4; have c5 := (h).rawCell 5; have c6 := (h).rawCell 6; have c7 := (h).rawCell 7; have c8 := (h).rawCell 8; simp at c0 c1 c2 c3 c4 c5 c6 c7 c8; replace H := Lib.hid h; clear h)
              | (go_at_call 7; (try clear c0 c1 c2 c3 c4 c5 c6 c7 c8); (try clear x0 x1 x2 r0 r1 r2); (with_reducible refine (jr_put_key id key E HKE.out H0.out HIL.out p e t s u st tl xq xcap H.out).mono ?_); rintro e_ wn ⟨rfl, h⟩; obtain ⟨xb, hxb⟩ : ∃ y, wn.heap.size = y := ⟨_, rfl⟩; have h := h.allocRaw #[.string ⟨#[]⟩, .bool false, .string ⟨#[]⟩] 36; rw [hxb] at h; have x0 := (h).rawCell 0; have x1 := (h).rawCell 1; have x2 := (h).rawCell 2; simp at x0 x1 x2; have r0 := (h).rawFree 0; have r1 := (h).rawFree 1; have r2 := (h).rawFree 2; have c0 := (h.p1).rawCell 0; have c1 := (h.p1).rawCell 1; have c2 := (h.p1).rawCell 2; have c3 := (h.p1).rawCell 3; have c4 := (h.p1).rawCell 4; have c5 := (h.p1).rawCell 5; have c6 := (h.p1).rawCell 6; have c7 := (h.p1).rawCell 7; have c8 := (h.p1).rawCell 8; simp at c0 c1 c2 c3 c4 c5 c6 c7 c8; replace H := Lib.hid h; clear h)
              | (go_at_call 8; (try clear c0 c1 c2 c3 c4 c5 c6 c7 c8); (try clear x0 x1 x2 r0 r1 r2); (with_reducible refine (jr_drop_key id key E HKE.out H0.out HIL.out H.out).mono ?_); rintro e_ wn ⟨rfl, h⟩; have x0 := (h).rawCell 0; have x1 := (h).rawCell 1; have x2 := (h).rawCell 2; simp at x0 x1 x2; have r0 := (h).rawFree 0; have r1 := (h).rawFree 1; have r2 := (h).rawFree 2; have c0 := (h.p1).rawCell 0; have c1 := (h.p1).rawCell 1; have c2 := (h.p1).rawCell 2; have c3 := (h.p1).rawCell 3; have c4 := (h.p1).rawCell 4; have c5 := (h.p1).rawCell 5; have c6 := (h.p1).rawCell 6; have c7 := (h.p1).rawCell 7; have c8 := (h.p1).rawCell 8; simp at c0 c1 c2 c3 c4 c5 c6 c7 c8; have hz := ((h.rawSet 0 (.string ⟨#[]⟩)).rawSet 1 (.bool false)).rawSet 2 (.string ⟨#[]⟩); have HZ := Lib.hid hz; clear hz; replace H := Lib.hid h; clear h))
          go_roundw
          case rel => exact ⟨k + 1, n, n2, m, m2, nc, f, g, all, hlt, by omega, by omega, by omega, by omega, by omega, by omega, by go_num, HAO, HGO, HZ.out.drop.drop⟩
          case measure => first | (simp [intOf]; done) | (simp [intOf]; omega)
        | false =>
          have g1 := H.out.allocRaw #[.string (bb id), .bool false, .int .i64 p, .int .i64 e, .int .i64 t, .int .i64 s, .slice xq tl.length xcap, .int .i64 u, .int .i64 st] 31
          rw [hvb] at g1
          have c0 := (g1).rawCell 0; have c1 := (g1).rawCell 1; have c2 := (g1).rawCell 2; have c3 := (g1).rawCell 3; have c4 := (g1).rawCell 4; have c5 := (g1).rawCell 5; have c6 := (g1).rawCell 6; have c7 := (g1).rawCell 7; have c8 := (g1).rawCell 8; simp at c0 c1 c2 c3 c4 c5 c6 c7 c8
          clear H
          have H := Lib.hid g1
          clear g1
          have H0 := Lib.hid h0
          have e1 : (E == 0) = false := by rw [beq_eq_false_iff_ne]; exact h0
          have e2 : (E != 0) = true := by simp [bne, e1]
          have e3 : (E == E) = true := by simp
          have e4 : (E != E) = false := by simp
          clear h0
          go_wp2_with (first
              | (go_at_call 6; (try clear c0 c1 c2 c3 c4 c5 c6 c7 c8); (with_reducible refine (law14_few tl xq xcap HNL.out HNB.out 1 HFW.out HKT.out H.out).mono ?_); rintro e_ wn ⟨rfl, h⟩; have c0 := (h).rawCell 0; have c1 := (h).rawCell 1; have c2 := (h).rawCell 2; have c3 := (h).rawCell 3; have c4 := (h).rawCell 4; have c5 := (h).rawCell 5; have c6 := (h).rawCell 6; have c7 := (h).rawCell 7; have c8 := (h).rawCell 8; simp at c0 c1 c2 c3 c4 c5 c6 c7 c8; replace H := Lib.hid h; clear h)
              | (go_at_call 7; (try clear c0 c1 c2 c3 c4 c5 c6 c7 c8); (try clear x0 x1 x2 r0 r1 r2); (with_reducible refine (jr_put_key id key E HKE.out H0.out HIL.out p e t s u st tl xq xcap H.out).mono ?_); rintro e_ wn ⟨rfl, h⟩; obtain ⟨xb, hxb⟩ : ∃ y, wn.heap.size = y := ⟨_, rfl⟩; have h := h.allocRaw #[.string ⟨#[]⟩, .bool false, .string ⟨#[]⟩] 36; rw [hxb] at h; have x0 := (h).rawCell 0; have x1 := (h).rawCell 1; have x2 := (h).rawCell 2; simp at x0 x1 x2; have r0 := (h).rawFree 0; have r1 := (h).rawFree 1; have r2 := (h).rawFree 2; have c0 := (h.p1).rawCell 0; have c1 := (h.p1).rawCell 1; have c2 := (h.p1).rawCell 2; have c3 := (h.p1).rawCell 3; have c4 := (h.p1).rawCell 4; have c5 := (h.p1).rawCell 5; have c6 := (h.p1).rawCell 6; have c7 := (h.p1).rawCell 7; have c8 := (h.p1).rawCell 8; simp at c0 c1 c2 c3 c4 c5 c6 c7 c8; replace H := Lib.hid h; clear h))
          go_roundw
          case rel => exact ⟨k + 1, n, n2, m, m2, nc, f, g, all, hlt, by omega, by omega, by omega, by omega, by omega, by omega, by go_num, HAO, HGO, H.out.drop.drop⟩
          case measure => first | (simp [intOf]; done) | (simp [intOf]; omega)
      subst h0
      obtain ⟨tops, htl⟩ : ∃ tops, tl.map (·.1) = tops := ⟨_, rfl⟩
      have HT := Lib.hid htl
      rw [htl] at hR
      obtain ⟨E, he⟩ : ∃ r, ValS.err ⟨p, e, t, s, tops, u, st⟩ = r := ⟨_, rfl⟩
      have HE := Lib.hid he
      by_cases h0 : E = 0
      rotate_left
      · clear hfi hw hR
        cases dr with
        | true =>
          have g1 := H.out.allocRaw #[.string (bb id), .bool true, .int .i64 p, .int .i64 e, .int .i64 t, .int .i64 s, .slice xq tl.length xcap, .int .i64 u, .int .i64 st] 31
          rw [hvb] at g1
          have c0 := (g1).rawCell 0; have c1 := (g1).rawCell 1; have c2 := (g1).rawCell 2; have c3 := (g1).rawCell 3; have c4 := (g1).rawCell 4; have c5 := (g1).rawCell 5; have c6 := (g1).rawCell 6; have c7 := (g1).rawCell 7; have c8 := (g1).rawCell 8; simp at c0 c1 c2 c3 c4 c5 c6 c7 c8
          clear H
          have H := Lib.hid g1
          clear g1
          have H0 := Lib.hid h0
          have e1 : (E == 0) = false := by rw [beq_eq_false_iff_ne]; exact h0
          have e2 : (E != 0) = true := by simp [bne, e1]
          have e3 : (E == E) = true := by simp
          have e4 : (E != E) = false := by simp
          have HN1 := Lib.hid (show n < 1000000 by omega)
          have HN2 := Lib.hid (show n2 < 1000000 by omega)
          have HN3 := Lib.hid (show n2 + 1 < 1000000 by omega)
          have HM0 := Lib.hid (show 0 ≤ (m : Int) by omega)
          have HM1 := Lib.hid (show (m : Int) ≤ 1000000 by omega)
          have HM2 := Lib.hid (show 0 ≤ (m2 : Int) by omega)
          have HM3 := Lib.hid (show (m2 : Int) ≤ 1000000 by omega)
          have HM4 := Lib.hid (show 0 ≤ (m2 : Int) + 1 by omega)
          have HM5 := Lib.hid (show (m2 : Int) + 1 ≤ 1000000 by omega)
          have HNC := Lib.hid (show nc < 1000000 by omega)
          have HKR := Lib.hid (key_lenE hke HIL.out).1
          have HK1 := Lib.hid (key_lenE hke HIL.out).2
          have HID := Lib.hid (show id.length ≤ 1000000 by omega)
          have HI9 := Lib.hid (show id.length ≤ 9223372036854775807 by omega)
          clear h0
          go_upto_region 17 with (first
              | (go_at_call 6; (try clear c0 c1 c2 c3 c4 c5 c6 c7 c8); (with_reducible refine (law14_few tl xq xcap HNL.out HNB.out 1 HFW.out HKT.out H.out).mono ?_); rintro e_ wn ⟨rfl, h⟩; have c0 := (h).rawCell 0; have c1 := (h).rawCell 1; have c2 := (h).rawCell 2; have c3 := (h).rawCell 3; have c4 := (h).rawCell 4; have c5 := (h).rawCell 5; have c6 := (h).rawCell 6; have c7 := (h).rawCell 7; have c8 := (h).rawCell 8; simp at c0 c1 c2 c3 c4 c5 c6 c7 c8; replace H := Lib.hid h; clear h)
              | (go_at_call 7; (try clear c0 c1 c2 c3 c4 c5 c6 c7 c8); (try clear x0 x1 x2 r0 r1 r2); (with_reducible refine (jr_put_val id key E HKE.out HIL.out p e t s u st tl xq xcap tops HT.out HE.out H0.out HF.out HKT.out H.out).mono ?_); rintro e_ wn ⟨rfl, h⟩; obtain ⟨xb, hxb⟩ : ∃ y, wn.heap.size = y := ⟨_, rfl⟩; have h := h.allocRaw #[.string ⟨#[]⟩, .bool false, .string ⟨#[]⟩] 36; rw [hxb] at h; have x0 := (h).rawCell 0; have x1 := (h).rawCell 1; have x2 := (h).rawCell 2; simp at x0 x1 x2; have r0 := (h).rawFree 0; have r1 := (h).rawFree 1; have r2 := (h).rawFree 2; have c0 := (h.p1).rawCell 0; have c1 := (h.p1).rawCell 1; have c2 := (h.p1).rawCell 2; have c3 := (h.p1).rawCell 3; have c4 := (h.p1).rawCell 4; have c5 := (h.p1).rawCell 5; have c6 := (h.p1).rawCell 6; have c7 := (h.p1).rawCell 7; have c8 := (h.p1).rawCell 8; simp at c0 c1 c2 c3 c4 c5 c6 c7 c8; replace H := Lib.hid h; clear h)
              | (go_at_call 8; (try clear c0 c1 c2 c3 c4 c5 c6 c7 c8); (try clear x0 x1 x2 r0 r1 r2); (with_reducible refine (jr_drop id key HKE.out HIL.out H.out).mono ?_); rintro e_ wn ⟨rfl, h⟩; have x0 := (h).rawCell 0; have x1 := (h).rawCell 1; have x2 := (h).rawCell 2; simp at x0 x1 x2; have r0 := (h).rawFree 0; have r1 := (h).rawFree 1; have r2 := (h).rawFree 2; have c0 := (h.p1).rawCell 0; have c1 := (h.p1).rawCell 1; have c2 := (h.p1).rawCell 2; have c3 := (h.p1).rawCell 3; have c4 := (h.p1).rawCell 4; have c5 := (h.p1).rawCell 5; have c6 := (h.p1).rawCell 6; have c7 := (h.p1).rawCell 7; have c8 := (h.p1).rawCell 8; simp at c0 c1 c2 c3 c4 c5 c6 c7 c8; have hz := ((h.rawSet 0 (.string (bb key))).rawSet 1 (.bool true)).rawSet 2 (.string (bb [])); have HZ := Lib.hid hz; clear hz; replace H := Lib.hid h; clear h))
          obtain ⟨wq, hwq⟩ : ∃ y, ((wn.setCell ⟨xb, 0, none⟩ (.string (bb key))).setCell ⟨xb, 1, none⟩ (.bool true)).setCell ⟨xb, 2, none⟩ (.string (bb [])) = y := ⟨_, rfl⟩
          rw [hwq] at HZ ⊢
          clear hwq H
          (try clear c0 c1 c2 c3 c4 c5 c6 c7 c8)
          (try clear x0 x1 x2 r0 r1 r2)
          have hz : St W0 wq K (.raw xb #[.string (bb key), .bool true, .string (bb [])] 36 :: _) := HZ.out
          have x0 := (hz).rawCell 0; have x1 := (hz).rawCell 1; have x2 := (hz).rawCell 2; simp at x0 x1 x2
          have c0 := (hz.p1).rawCell 0; have c1 := (hz.p1).rawCell 1; have c2 := (hz.p1).rawCell 2; have c3 := (hz.p1).rawCell 3; have c4 := (hz.p1).rawCell 4; have c5 := (hz.p1).rawCell 5; have c6 := (hz.p1).rawCell 6; have c7 := (hz.p1).rawCell 7; have c8 := (hz.p1).rawCell 8; simp at c0 c1 c2 c3 c4 c5 c6 c7 c8
          have H := Lib.hid hz
          clear hz HZ
          go_upto_region 20 with (first
              | (go_at_call 9; (try clear c0 c1 c2 c3 c4 c5 c6 c7 c8); (try clear x0 x1 x2 r0 r1 r2); (with_reducible refine (jr_apply_drop jb mb n (m : Int) f key id HKR.out HK1.out HID.out HM0.out HM1.out H.out.p2.p3.p1).mono ?_); rintro e_ wn ⟨rfl, h⟩; have x0 := (h.p2).rawCell 0; have x1 := (h.p2).rawCell 1; have x2 := (h.p2).rawCell 2; simp at x0 x1 x2; have c0 := (h.p3).rawCell 0; have c1 := (h.p3).rawCell 1; have c2 := (h.p3).rawCell 2; have c3 := (h.p3).rawCell 3; have c4 := (h.p3).rawCell 4; have c5 := (h.p3).rawCell 5; have c6 := (h.p3).rawCell 6; have c7 := (h.p3).rawCell 7; have c8 := (h.p3).rawCell 8; simp at c0 c1 c2 c3 c4 c5 c6 c7 c8; replace H := Lib.hid h; clear h)
              | (go_at_call 9; (try clear c0 c1 c2 c3 c4 c5 c6 c7 c8); (try clear x0 x1 x2 r0 r1 r2); (with_reducible refine (jr_apply_drop tb tm n2 (m2 : Int) f key id HKR.out HK1.out HID.out HM2.out HM3.out H.out.p4.p5.p1).mono ?_); rintro e_ wn ⟨rfl, h⟩; have x0 := (h.p4).rawCell 0; have x1 := (h.p4).rawCell 1; have x2 := (h.p4).rawCell 2; simp at x0 x1 x2; have c0 := (h.p5).rawCell 0; have c1 := (h.p5).rawCell 1; have c2 := (h.p5).rawCell 2; have c3 := (h.p5).rawCell 3; have c4 := (h.p5).rawCell 4; have c5 := (h.p5).rawCell 5; have c6 := (h.p5).rawCell 6; have c7 := (h.p5).rawCell 7; have c8 := (h.p5).rawCell 8; simp at c0 c1 c2 c3 c4 c5 c6 c7 c8; replace H := Lib.hid h; clear h)
              | (go_at_call 9; (try clear c0 c1 c2 c3 c4 c5 c6 c7 c8); (try clear x0 x1 x2 r0 r1 r2); (with_reducible refine (jr_apply_drop tb tm n2 ((m2 : Int) + 1) (jset f id none) key id HKR.out HK1.out HID.out HM4.out HM5.out H.out).mono ?_); rintro e_ wn ⟨rfl, h⟩; rw [jset_twice] at h; have x0 := (h.p4).rawCell 0; have x1 := (h.p4).rawCell 1; have x2 := (h.p4).rawCell 2; simp at x0 x1 x2; have c0 := (h.p5).rawCell 0; have c1 := (h.p5).rawCell 1; have c2 := (h.p5).rawCell 2; have c3 := (h.p5).rawCell 3; have c4 := (h.p5).rawCell 4; have c5 := (h.p5).rawCell 5; have c6 := (h.p5).rawCell 6; have c7 := (h.p5).rawCell 7; have c8 := (h.p5).rawCell 8; simp at c0 c1 c2 c3 c4 c5 c6 c7 c8; replace H := Lib.hid h; clear h))
          have g9 := H.out.p6
          obtain ⟨w2, hrun, h2⟩ := cstore_run g9 HNC.out 26 mapTC id (.agg #[.string (bb id), .bool true, .int .i64 p, .int .i64 e, .int .i64 t, .int .i64 s, .slice xq tl.length xcap, .int .i64 u, .int .i64 st]) HI9.out
          have H2 := Lib.hid h2
          clear h2 g9
          go_wp2_with fail
          go_roundw
          case rel => exact ⟨k + 1, n, n2, (m + 1), (m2 + 1 + 1), (nc + 1), (jset f id none), (gset g id (some (.agg #[.string (bb id), .bool true, .int .i64 p, .int .i64 e, .int .i64 t, .int .i64 s, .slice xq tl.length xcap, .int .i64 u, .int .i64 st]))), (kout all id), hlt, by omega, by omega, by omega, by omega, by omega, (Nat.le_trans (kout_le all id) (by omega)), by go_num, (Lib.hid (HAO.out.drop id)), (Lib.hid (HGO.out.set ⟨id, true, p, e, t, s, u, st, tl, xq, xcap⟩ none HX.out HI5.out (fun _ => rfl) (fun h => by cases h))), H2.out.sel [3, 3, 1, 1, 0]⟩
          case measure => first | (simp [intOf]; done) | (simp [intOf]; omega)
        | false =>
          have g1 := H.out.allocRaw #[.string (bb id), .bool false, .int .i64 p, .int .i64 e, .int .i64 t, .int .i64 s, .slice xq tl.length xcap, .int .i64 u, .int .i64 st] 31
          rw [hvb] at g1
          have c0 := (g1).rawCell 0; have c1 := (g1).rawCell 1; have c2 := (g1).rawCell 2; have c3 := (g1).rawCell 3; have c4 := (g1).rawCell 4; have c5 := (g1).rawCell 5; have c6 := (g1).rawCell 6; have c7 := (g1).rawCell 7; have c8 := (g1).rawCell 8; simp at c0 c1 c2 c3 c4 c5 c6 c7 c8
          clear H
          have H := Lib.hid g1
          clear g1
          have H0 := Lib.hid h0
          have e1 : (E == 0) = false := by rw [beq_eq_false_iff_ne]; exact h0
          have e2 : (E != 0) = true := by simp [bne, e1]
          have e3 : (E == E) = true := by simp
          have e4 : (E != E) = false := by simp
          clear h0
          go_wp2_with (first
              | (go_at_call 6; (try clear c0 c1 c2 c3 c4 c5 c6 c7 c8); (with_reducible refine (law14_few tl xq xcap HNL.out HNB.out 1 HFW.out HKT.out H.out).mono ?_); rintro e_ wn ⟨rfl, h⟩; have c0 := (h).rawCell 0; have c1 := (h).rawCell 1; have c2 := (h).rawCell 2; have c3 := (h).rawCell 3; have c4 := (h).rawCell 4; have c5 := (h).rawCell 5; have c6 := (h).rawCell 6; have c7 := (h).rawCell 7; have c8 := (h).rawCell 8; simp at c0 c1 c2 c3 c4 c5 c6 c7 c8; replace H := Lib.hid h; clear h)
              | (go_at_call 7; (try clear c0 c1 c2 c3 c4 c5 c6 c7 c8); (try clear x0 x1 x2 r0 r1 r2); (with_reducible refine (jr_put_val id key E HKE.out HIL.out p e t s u st tl xq xcap tops HT.out HE.out H0.out HF.out HKT.out H.out).mono ?_); rintro e_ wn ⟨rfl, h⟩; obtain ⟨xb, hxb⟩ : ∃ y, wn.heap.size = y := ⟨_, rfl⟩; have h := h.allocRaw #[.string ⟨#[]⟩, .bool false, .string ⟨#[]⟩] 36; rw [hxb] at h; have x0 := (h).rawCell 0; have x1 := (h).rawCell 1; have x2 := (h).rawCell 2; simp at x0 x1 x2; have r0 := (h).rawFree 0; have r1 := (h).rawFree 1; have r2 := (h).rawFree 2; have c0 := (h.p1).rawCell 0; have c1 := (h.p1).rawCell 1; have c2 := (h.p1).rawCell 2; have c3 := (h.p1).rawCell 3; have c4 := (h.p1).rawCell 4; have c5 := (h.p1).rawCell 5; have c6 := (h.p1).rawCell 6; have c7 := (h.p1).rawCell 7; have c8 := (h.p1).rawCell 8; simp at c0 c1 c2 c3 c4 c5 c6 c7 c8; replace H := Lib.hid h; clear h))
          go_roundw
          case rel => exact ⟨k + 1, n, n2, m, m2, nc, f, g, all, hlt, by omega, by omega, by omega, by omega, by omega, by omega, by go_num, HAO, HGO, H.out.drop.drop⟩
          case measure => first | (simp [intOf]; done) | (simp [intOf]; omega)
      subst h0
      obtain ⟨S, hS⟩ : ∃ S, ValS.enc ⟨p, e, t, s, tops, u, st⟩ = S := ⟨_, rfl⟩
      have hp := ValS.ok_parts _ he
      have hfit : FitTs tops := by rw [← htl]; exact fit_of_rise tl HF.out (by rw [htl]; exact hp.2.2.2.2)
      have HV := Lib.hid (show valDec S = (⟨p, e, t, s, tops, u, st⟩, 0) by rw [← hS]; exact valDec_back _ he hR hfit)
      have HSL := Lib.hid (show S.length ≤ 1000000 by
        rw [← hS, enc_lenV]
        rw [htl] at hw
        have hw2 : topWs (ValS.tops ⟨p, e, t, s, tops, u, st⟩) ≤ 1000 := hw
        omega)
      have HS := Lib.hid hS
      have HR := Lib.hid hR
      clear hfi hw hR hp hfit hS htl he
      cases dr with
      | true =>
        have g1 := H.out.allocRaw #[.string (bb id), .bool true, .int .i64 p, .int .i64 e, .int .i64 t, .int .i64 s, .slice xq tl.length xcap, .int .i64 u, .int .i64 st] 31
        rw [hvb] at g1
        have c0 := (g1).rawCell 0; have c1 := (g1).rawCell 1; have c2 := (g1).rawCell 2; have c3 := (g1).rawCell 3; have c4 := (g1).rawCell 4; have c5 := (g1).rawCell 5; have c6 := (g1).rawCell 6; have c7 := (g1).rawCell 7; have c8 := (g1).rawCell 8; simp at c0 c1 c2 c3 c4 c5 c6 c7 c8
        clear H
        have H := Lib.hid g1
        clear g1
        have e0 : True := trivial
        have HN1 := Lib.hid (show n < 1000000 by omega)
        have HN2 := Lib.hid (show n2 < 1000000 by omega)
        have HN3 := Lib.hid (show n2 + 1 < 1000000 by omega)
        have HM0 := Lib.hid (show 0 ≤ (m : Int) by omega)
        have HM1 := Lib.hid (show (m : Int) ≤ 1000000 by omega)
        have HM2 := Lib.hid (show 0 ≤ (m2 : Int) by omega)
        have HM3 := Lib.hid (show (m2 : Int) ≤ 1000000 by omega)
        have HM4 := Lib.hid (show 0 ≤ (m2 : Int) + 1 by omega)
        have HM5 := Lib.hid (show (m2 : Int) + 1 ≤ 1000000 by omega)
        have HNC := Lib.hid (show nc < 1000000 by omega)
        have HKR := Lib.hid (key_lenE hke HIL.out).1
        have HK1 := Lib.hid (key_lenE hke HIL.out).2
        have HID := Lib.hid (show id.length ≤ 1000000 by omega)
        have HI9 := Lib.hid (show id.length ≤ 9223372036854775807 by omega)
        clear e0
        go_upto_region 17 with (first
            | (go_at_call 6; (try clear c0 c1 c2 c3 c4 c5 c6 c7 c8); (with_reducible refine (law14_few tl xq xcap HNL.out HNB.out 1 HFW.out HKT.out H.out).mono ?_); rintro e_ wn ⟨rfl, h⟩; have c0 := (h).rawCell 0; have c1 := (h).rawCell 1; have c2 := (h).rawCell 2; have c3 := (h).rawCell 3; have c4 := (h).rawCell 4; have c5 := (h).rawCell 5; have c6 := (h).rawCell 6; have c7 := (h).rawCell 7; have c8 := (h).rawCell 8; simp at c0 c1 c2 c3 c4 c5 c6 c7 c8; replace H := Lib.hid h; clear h)
            | (go_at_call 7; (try clear c0 c1 c2 c3 c4 c5 c6 c7 c8); (try clear x0 x1 x2 r0 r1 r2); (with_reducible refine (jr_put id key S HKE.out HIL.out p e t s u st tl xq xcap tops HT.out HS.out HE.out HR.out HF.out HKT.out H.out).mono ?_); rintro e_ wn ⟨rfl, h⟩; obtain ⟨xb, hxb⟩ : ∃ y, wn.heap.size = y := ⟨_, rfl⟩; have h := h.allocRaw #[.string (bb key), .bool false, .string (bb S)] 36; rw [hxb] at h; have x0 := (h).rawCell 0; have x1 := (h).rawCell 1; have x2 := (h).rawCell 2; simp at x0 x1 x2; have r0 := (h).rawFree 0; have r1 := (h).rawFree 1; have r2 := (h).rawFree 2; have c0 := (h.p1).rawCell 0; have c1 := (h.p1).rawCell 1; have c2 := (h.p1).rawCell 2; have c3 := (h.p1).rawCell 3; have c4 := (h.p1).rawCell 4; have c5 := (h.p1).rawCell 5; have c6 := (h.p1).rawCell 6; have c7 := (h.p1).rawCell 7; have c8 := (h.p1).rawCell 8; simp at c0 c1 c2 c3 c4 c5 c6 c7 c8; replace H := Lib.hid h; clear h)
            | (go_at_call 8; (try clear c0 c1 c2 c3 c4 c5 c6 c7 c8); (try clear x0 x1 x2 r0 r1 r2); (with_reducible refine (jr_drop id key HKE.out HIL.out H.out).mono ?_); rintro e_ wn ⟨rfl, h⟩; have x0 := (h).rawCell 0; have x1 := (h).rawCell 1; have x2 := (h).rawCell 2; simp at x0 x1 x2; have r0 := (h).rawFree 0; have r1 := (h).rawFree 1; have r2 := (h).rawFree 2; have c0 := (h.p1).rawCell 0; have c1 := (h.p1).rawCell 1; have c2 := (h.p1).rawCell 2; have c3 := (h.p1).rawCell 3; have c4 := (h.p1).rawCell 4; have c5 := (h.p1).rawCell 5; have c6 := (h.p1).rawCell 6; have c7 := (h.p1).rawCell 7; have c8 := (h.p1).rawCell 8; simp at c0 c1 c2 c3 c4 c5 c6 c7 c8; have hz := ((h.rawSet 0 (.string (bb key))).rawSet 1 (.bool true)).rawSet 2 (.string (bb [])); have HZ := Lib.hid hz; clear hz; replace H := Lib.hid h; clear h))
        obtain ⟨wq, hwq⟩ : ∃ y, ((wn.setCell ⟨xb, 0, none⟩ (.string (bb key))).setCell ⟨xb, 1, none⟩ (.bool true)).setCell ⟨xb, 2, none⟩ (.string (bb [])) = y := ⟨_, rfl⟩
        rw [hwq] at HZ ⊢
        clear hwq H
        (try clear c0 c1 c2 c3 c4 c5 c6 c7 c8)
        (try clear x0 x1 x2 r0 r1 r2)
        have hz : St W0 wq K (.raw xb #[.string (bb key), .bool true, .string (bb [])] 36 :: _) := HZ.out
        have x0 := (hz).rawCell 0; have x1 := (hz).rawCell 1; have x2 := (hz).rawCell 2; simp at x0 x1 x2
        have c0 := (hz.p1).rawCell 0; have c1 := (hz.p1).rawCell 1; have c2 := (hz.p1).rawCell 2; have c3 := (hz.p1).rawCell 3; have c4 := (hz.p1).rawCell 4; have c5 := (hz.p1).rawCell 5; have c6 := (hz.p1).rawCell 6; have c7 := (hz.p1).rawCell 7; have c8 := (hz.p1).rawCell 8; simp at c0 c1 c2 c3 c4 c5 c6 c7 c8
        have H := Lib.hid hz
        clear hz HZ
        go_upto_region 20 with (first
            | (go_at_call 9; (try clear c0 c1 c2 c3 c4 c5 c6 c7 c8); (try clear x0 x1 x2 r0 r1 r2); (with_reducible refine (jr_apply_drop jb mb n (m : Int) f key id HKR.out HK1.out HID.out HM0.out HM1.out H.out.p2.p3.p1).mono ?_); rintro e_ wn ⟨rfl, h⟩; have x0 := (h.p2).rawCell 0; have x1 := (h.p2).rawCell 1; have x2 := (h.p2).rawCell 2; simp at x0 x1 x2; have c0 := (h.p3).rawCell 0; have c1 := (h.p3).rawCell 1; have c2 := (h.p3).rawCell 2; have c3 := (h.p3).rawCell 3; have c4 := (h.p3).rawCell 4; have c5 := (h.p3).rawCell 5; have c6 := (h.p3).rawCell 6; have c7 := (h.p3).rawCell 7; have c8 := (h.p3).rawCell 8; simp at c0 c1 c2 c3 c4 c5 c6 c7 c8; replace H := Lib.hid h; clear h)
            | (go_at_call 9; (try clear c0 c1 c2 c3 c4 c5 c6 c7 c8); (try clear x0 x1 x2 r0 r1 r2); (with_reducible refine (jr_apply_drop tb tm n2 (m2 : Int) f key id HKR.out HK1.out HID.out HM2.out HM3.out H.out.p4.p5.p1).mono ?_); rintro e_ wn ⟨rfl, h⟩; have x0 := (h.p4).rawCell 0; have x1 := (h.p4).rawCell 1; have x2 := (h.p4).rawCell 2; simp at x0 x1 x2; have c0 := (h.p5).rawCell 0; have c1 := (h.p5).rawCell 1; have c2 := (h.p5).rawCell 2; have c3 := (h.p5).rawCell 3; have c4 := (h.p5).rawCell 4; have c5 := (h.p5).rawCell 5; have c6 := (h.p5).rawCell 6; have c7 := (h.p5).rawCell 7; have c8 := (h.p5).rawCell 8; simp at c0 c1 c2 c3 c4 c5 c6 c7 c8; replace H := Lib.hid h; clear h)
            | (go_at_call 9; (try clear c0 c1 c2 c3 c4 c5 c6 c7 c8); (try clear x0 x1 x2 r0 r1 r2); (with_reducible refine (jr_apply_drop tb tm n2 ((m2 : Int) + 1) (jset f id none) key id HKR.out HK1.out HID.out HM4.out HM5.out H.out).mono ?_); rintro e_ wn ⟨rfl, h⟩; rw [jset_twice] at h; have x0 := (h.p4).rawCell 0; have x1 := (h.p4).rawCell 1; have x2 := (h.p4).rawCell 2; simp at x0 x1 x2; have c0 := (h.p5).rawCell 0; have c1 := (h.p5).rawCell 1; have c2 := (h.p5).rawCell 2; have c3 := (h.p5).rawCell 3; have c4 := (h.p5).rawCell 4; have c5 := (h.p5).rawCell 5; have c6 := (h.p5).rawCell 6; have c7 := (h.p5).rawCell 7; have c8 := (h.p5).rawCell 8; simp at c0 c1 c2 c3 c4 c5 c6 c7 c8; replace H := Lib.hid h; clear h))
        have g9 := H.out.p6
        obtain ⟨w2, hrun, h2⟩ := cstore_run g9 HNC.out 26 mapTC id (.agg #[.string (bb id), .bool true, .int .i64 p, .int .i64 e, .int .i64 t, .int .i64 s, .slice xq tl.length xcap, .int .i64 u, .int .i64 st]) HI9.out
        have H2 := Lib.hid h2
        clear h2 g9
        go_wp2_with fail
        go_roundw
        case rel => exact ⟨k + 1, n, n2, (m + 1), (m2 + 1 + 1), (nc + 1), (jset f id none), (gset g id (some (.agg #[.string (bb id), .bool true, .int .i64 p, .int .i64 e, .int .i64 t, .int .i64 s, .slice xq tl.length xcap, .int .i64 u, .int .i64 st]))), (kout all id), hlt, by omega, by omega, by omega, by omega, by omega, (Nat.le_trans (kout_le all id) (by omega)), by go_num, (Lib.hid (HAO.out.drop id)), (Lib.hid (HGO.out.set ⟨id, true, p, e, t, s, u, st, tl, xq, xcap⟩ none HX.out HI5.out (fun _ => rfl) (fun h => by cases h))), H2.out.sel [3, 3, 1, 1, 0]⟩
        case measure => first | (simp [intOf]; done) | (simp [intOf]; omega)
      | false =>
        have g1 := H.out.allocRaw #[.string (bb id), .bool false, .int .i64 p, .int .i64 e, .int .i64 t, .int .i64 s, .slice xq tl.length xcap, .int .i64 u, .int .i64 st] 31
        rw [hvb] at g1
        have c0 := (g1).rawCell 0; have c1 := (g1).rawCell 1; have c2 := (g1).rawCell 2; have c3 := (g1).rawCell 3; have c4 := (g1).rawCell 4; have c5 := (g1).rawCell 5; have c6 := (g1).rawCell 6; have c7 := (g1).rawCell 7; have c8 := (g1).rawCell 8; simp at c0 c1 c2 c3 c4 c5 c6 c7 c8
        clear H
        have H := Lib.hid g1
        clear g1
        have HN1 := Lib.hid (show n < 1000000 by omega)
        have HN2 := Lib.hid (show n2 < 1000000 by omega)
        have HN3 := Lib.hid (show n2 + 1 < 1000000 by omega)
        have HM0 := Lib.hid (show 0 ≤ (m : Int) by omega)
        have HM1 := Lib.hid (show (m : Int) ≤ 1000000 by omega)
        have HM2 := Lib.hid (show 0 ≤ (m2 : Int) by omega)
        have HM3 := Lib.hid (show (m2 : Int) ≤ 1000000 by omega)
        have HM4 := Lib.hid (show 0 ≤ (m2 : Int) + 1 by omega)
        have HM5 := Lib.hid (show (m2 : Int) + 1 ≤ 1000000 by omega)
        have HNC := Lib.hid (show nc < 1000000 by omega)
        have HKR := Lib.hid (key_lenE hke HIL.out).1
        have HK1 := Lib.hid (key_lenE hke HIL.out).2
        have HID := Lib.hid (show id.length ≤ 1000000 by omega)
        have HI9 := Lib.hid (show id.length ≤ 9223372036854775807 by omega)
        go_upto_region 20 with (first
            | (go_at_call 6; (try clear c0 c1 c2 c3 c4 c5 c6 c7 c8); (with_reducible refine (law14_few tl xq xcap HNL.out HNB.out 1 HFW.out HKT.out H.out).mono ?_); rintro e_ wn ⟨rfl, h⟩; have c0 := (h).rawCell 0; have c1 := (h).rawCell 1; have c2 := (h).rawCell 2; have c3 := (h).rawCell 3; have c4 := (h).rawCell 4; have c5 := (h).rawCell 5; have c6 := (h).rawCell 6; have c7 := (h).rawCell 7; have c8 := (h).rawCell 8; simp at c0 c1 c2 c3 c4 c5 c6 c7 c8; replace H := Lib.hid h; clear h)
            | (go_at_call 7; (try clear c0 c1 c2 c3 c4 c5 c6 c7 c8); (try clear x0 x1 x2 r0 r1 r2); (with_reducible refine (jr_put id key S HKE.out HIL.out p e t s u st tl xq xcap tops HT.out HS.out HE.out HR.out HF.out HKT.out H.out).mono ?_); rintro e_ wn ⟨rfl, h⟩; obtain ⟨xb, hxb⟩ : ∃ y, wn.heap.size = y := ⟨_, rfl⟩; have h := h.allocRaw #[.string (bb key), .bool false, .string (bb S)] 36; rw [hxb] at h; have x0 := (h).rawCell 0; have x1 := (h).rawCell 1; have x2 := (h).rawCell 2; simp at x0 x1 x2; have r0 := (h).rawFree 0; have r1 := (h).rawFree 1; have r2 := (h).rawFree 2; have c0 := (h.p1).rawCell 0; have c1 := (h.p1).rawCell 1; have c2 := (h.p1).rawCell 2; have c3 := (h.p1).rawCell 3; have c4 := (h.p1).rawCell 4; have c5 := (h.p1).rawCell 5; have c6 := (h.p1).rawCell 6; have c7 := (h.p1).rawCell 7; have c8 := (h.p1).rawCell 8; simp at c0 c1 c2 c3 c4 c5 c6 c7 c8; replace H := Lib.hid h; clear h)
            | (go_at_call 9; (try clear c0 c1 c2 c3 c4 c5 c6 c7 c8); (try clear x0 x1 x2 r0 r1 r2); (with_reducible refine (jr_apply_put jb mb n (m : Int) f key id S p e t s u st tops HKR.out HV.out HK1.out HID.out HSL.out HN1.out HM0.out HM1.out H.out.p2.p3.p1).mono ?_); rintro e_ wn ⟨rfl, h⟩; have x0 := (h.p2).rawCell 0; have x1 := (h.p2).rawCell 1; have x2 := (h.p2).rawCell 2; simp at x0 x1 x2; have c0 := (h.p3).rawCell 0; have c1 := (h.p3).rawCell 1; have c2 := (h.p3).rawCell 2; have c3 := (h.p3).rawCell 3; have c4 := (h.p3).rawCell 4; have c5 := (h.p3).rawCell 5; have c6 := (h.p3).rawCell 6; have c7 := (h.p3).rawCell 7; have c8 := (h.p3).rawCell 8; simp at c0 c1 c2 c3 c4 c5 c6 c7 c8; replace H := Lib.hid h; clear h)
            | (go_at_call 9; (try clear c0 c1 c2 c3 c4 c5 c6 c7 c8); (try clear x0 x1 x2 r0 r1 r2); (with_reducible refine (jr_apply_put tb tm n2 (m2 : Int) f key id S p e t s u st tops HKR.out HV.out HK1.out HID.out HSL.out HN2.out HM2.out HM3.out H.out.p4.p5.p1).mono ?_); rintro e_ wn ⟨rfl, h⟩; have x0 := (h.p4).rawCell 0; have x1 := (h.p4).rawCell 1; have x2 := (h.p4).rawCell 2; simp at x0 x1 x2; have c0 := (h.p5).rawCell 0; have c1 := (h.p5).rawCell 1; have c2 := (h.p5).rawCell 2; have c3 := (h.p5).rawCell 3; have c4 := (h.p5).rawCell 4; have c5 := (h.p5).rawCell 5; have c6 := (h.p5).rawCell 6; have c7 := (h.p5).rawCell 7; have c8 := (h.p5).rawCell 8; simp at c0 c1 c2 c3 c4 c5 c6 c7 c8; replace H := Lib.hid h; clear h)
            | (go_at_call 9; (try clear c0 c1 c2 c3 c4 c5 c6 c7 c8); (try clear x0 x1 x2 r0 r1 r2); (with_reducible refine (jr_apply_put tb tm (n2 + 1) ((m2 : Int) + 1) (jset f id (some S)) key id S p e t s u st tops HKR.out HV.out HK1.out HID.out HSL.out HN3.out HM4.out HM5.out H.out).mono ?_); rintro e_ wn ⟨rfl, h⟩; rw [jset_twice] at h; have x0 := (h.p4).rawCell 0; have x1 := (h.p4).rawCell 1; have x2 := (h.p4).rawCell 2; simp at x0 x1 x2; have c0 := (h.p5).rawCell 0; have c1 := (h.p5).rawCell 1; have c2 := (h.p5).rawCell 2; have c3 := (h.p5).rawCell 3; have c4 := (h.p5).rawCell 4; have c5 := (h.p5).rawCell 5; have c6 := (h.p5).rawCell 6; have c7 := (h.p5).rawCell 7; have c8 := (h.p5).rawCell 8; simp at c0 c1 c2 c3 c4 c5 c6 c7 c8; replace H := Lib.hid h; clear h))
        have HKO := Lib.hid (kout_le all id)
        obtain ⟨all2, hall2⟩ : ∃ y, kout all id ++ [(⟨id, p, e, t, s, u, st, tl, xq, xcap⟩ : KnR)] = y := ⟨_, rfl⟩
        have HAO2 := Lib.hid (all_put HAO.out hall2 (Nat.lt_of_le_of_lt (kout_le all id) (by omega)) HSL.out HV.out HT.out (by have := HIL.out; omega) HKR.out HK1.out)
        have hlen2 : all2.length ≤ k + 1 := by rw [← hall2, List.length_append]; have h9 := HKO.out; simp only [List.length_singleton]; omega
        clear hall2
        have g9 := H.out.p6
        obtain ⟨w2, hrun, h2⟩ := cstore_run g9 HNC.out 26 mapTC id (.agg #[.string (bb id), .bool false, .int .i64 p, .int .i64 e, .int .i64 t, .int .i64 s, .slice xq tl.length xcap, .int .i64 u, .int .i64 st]) HI9.out
        have H2 := Lib.hid h2
        clear h2 g9
        go_wp2_with fail
        go_roundw
        case rel => exact ⟨k + 1, (n + 1), (n2 + 1 + 1), (m + 1), (m2 + 1 + 1), (nc + 1), (jset f id (some S)), (gset g id (some (.agg #[.string (bb id), .bool false, .int .i64 p, .int .i64 e, .int .i64 t, .int .i64 s, .slice xq tl.length xcap, .int .i64 u, .int .i64 st]))), all2, hlt, by omega, by omega, by omega, by omega, by omega, hlen2, by go_num, HAO2, (Lib.hid (HGO.out.set ⟨id, false, p, e, t, s, u, st, tl, xq, xcap⟩ (some S) HX.out HI5.out (fun h => by cases h) (fun _ => ⟨S, rfl, HSL.out, by have h9 := HV.out; rw [← HT.out] at h9; exact h9⟩))), H2.out.sel [3, 3, 1, 1, 0]⟩
        case measure => first | (simp [intOf]; done) | (simp [intOf]; omega)
    · obtain rfl : k = l.length := by omega
      have HN1 := Lib.hid (show n ≤ 1000000 by omega)
      have HN2 := Lib.hid (show n2 ≤ 1000000 by omega)
      have hal : (all.length : Int) ≤ 60 := by omega
      go_upto_region 24 with (first
          | (go_at_call 5; (with_reducible refine (jr_new H.out).mono ?_); rintro e_ wn ⟨kb, kmb, rfl, h⟩; have h := h.p2.p3.p1; replace H := Lib.hid h; clear h)
          | (go_at_call 10; (with_reducible refine (jr_compact jb mb n _ f all HN1.out HAO.out H.out).mono ?_); rintro e_ wn ⟨v, ids, rfl, hio, h⟩; obtain ⟨qc, cc, hv⟩ := h.p2.rowAny; subst hv; have HIO := Lib.hid hio; have HLN := Lib.hid (HAO.out.len hio); clear hio; have h := h.p2; have h := h.freezeEnts; have h := h.p2.p3.p1; replace H := Lib.hid h; clear h))
      have hln : (ids.length : Int) = (all.length : Int) := by rw [HLN.out]
      have hki : (ids.length : Int) ≤ 60 := by omega
      have hkj : ids.length ≤ 60 := by omega
      have HKE := Lib.hid (show (K.and (Know.flat RJE (.slice qc ids.length cc) 3 (ids.map (entV f)))).has (Know.flat RJE (.slice qc ids.length cc) 3 (ids.map (entV f))) from Know.has_right (Know.has_refl _))
      have HK3 := Lib.hid (show (K.and (Know.flat RJE (.slice qc ids.length cc) 3 (ids.map (entV f)))).has K from Know.has_left (Know.has_refl _))
      obtain ⟨K3, hK3⟩ : ∃ K3, (K.and (Know.flat RJE (.slice qc ids.length cc) 3 (ids.map (entV f)))) = K3 := ⟨_, rfl⟩
      rw [hK3] at H HKE HK3
      clear hK3 hln hal
      have HZ := Lib.hid (show St W0 _ K3 (.raw kb #[.map (some kmb), .int .i64 ((0 : Nat) : Int)] 57 :: .gen (jmap kmb 0 (fUp f ids 0)) :: .raw jb #[.map (some mb), .int .i64 (m : Int)] 57 :: .gen (jmap mb n f) :: .raw tb #[.map (some tm), .int .i64 (m2 : Int)] 57 :: .gen (jmap tm n2 f) :: .gen (cmap cb nc g) :: []) by rw [fUp_zero]; exact H.out)
      go_wp2_with fail
      go_loopw [96] (fun iv wr => ∃ i : Nat, i ≤ ids.length ∧ iv = .int .i64 i ∧ St W0 wr K3 (.raw kb #[.map (some kmb), .int .i64 (i : Int)] 57 :: .gen (jmap kmb i (fUp f ids i)) :: .raw jb #[.map (some mb), .int .i64 (m : Int)] 57 :: .gen (jmap mb n f) :: .raw tb #[.map (some tm), .int .i64 (m2 : Int)] 57 :: .gen (jmap tm n2 f) :: .gen (cmap cb nc g) :: [])) (fun iv _ => ids.length - (intOf iv).toNat)
      case atStart => exact ⟨0, Nat.zero_le _, rfl, HZ.out⟩
      case round =>
        obtain ⟨i, hil, rfl, hst⟩ := hrel
        clear H HZ
        have H := Lib.hid hst
        clear hst
        by_cases hit : i < ids.length
        · obtain ⟨b, off, hq⟩ := je_at HKE.out H.out (by rw [List.length_map]; omega)
          subst hq
          have hgt := HAO.out.get HIO.out i hit
          obtain ⟨id, hid⟩ : ∃ x, ids[i] = x := ⟨_, rfl⟩
          rw [hid] at hgt
          obtain ⟨key, S, p, e, t, s, u, st, tl, h5, h6, h4, h1, h2, h3⟩ := hgt
          have hke := keyRd_enc key id h5
          obtain ⟨c0, c1, c2⟩ := je_cell HKE.out H.out i (by rw [List.length_map]; exact hit) _ (ent_at i hit hid hke h1)
          simp only at c0 c1 c2
          have hin : (i : Int) < (ids.length : Int) := by omega
          obtain ⟨eb, heb⟩ : ∃ b, wr.heap.size = b := ⟨_, rfl⟩
          have g1 := H.out.allocRaw #[.string (bb key), .bool false, .string (bb S)] 36
          rw [heb] at g1
          have e0 := (g1).rawCell 0; have e1 := (g1).rawCell 1; have e2 := (g1).rawCell 2; simp at e0 e1 e2
          have g2 := g1.p1.p2.p1
          have HKY := Lib.hid h5
          have HK1 := Lib.hid h6
          have HID := Lib.hid (show id.length ≤ 1000000 by omega)
          have HD1 := Lib.hid h2
          have HV := Lib.hid h3
          have HUP := Lib.hid (fUp_step f ids i hit id S hid h1)
          have HI1 := Lib.hid (show i < 1000000 by omega)
          have HM0 := Lib.hid (show 0 ≤ (i : Int) by omega)
          have HM1 := Lib.hid (show (i : Int) ≤ 1000000 by omega)
          clear H
          have H := Lib.hid g2
          clear g1 g2 h5 h6 h4 h1 h2 h3 hke hid
          go_wp2_with (go_at_call 9; (try clear e0 e1 e2); (with_reducible refine (jr_apply_put kb kmb i _ (fUp f ids i) key id S p e t s u st tl HKY.out HV.out HK1.out HID.out HD1.out HI1.out HM0.out HM1.out H.out).mono ?_); rintro e_ wn ⟨rfl, h⟩; rw [HUP.out] at h; replace H := Lib.hid h; clear h)
          go_roundw
          case rel => exact ⟨i + 1, hit, by go_num, H.out.p2.drop⟩
          case measure => first | (simp [intOf]; done) | (simp [intOf]; omega)
        · obtain rfl : i = ids.length := by omega
          have HZ := Lib.hid (show St W0 _ K3 (.raw kb #[.map (some kmb), .int .i64 (ids.length : Int)] 57 :: .gen (jmap kmb ids.length f) :: .raw jb #[.map (some mb), .int .i64 (m : Int)] 57 :: .gen (jmap mb n f) :: .raw tb #[.map (some tm), .int .i64 (m2 : Int)] 57 :: .gen (jmap tm n2 f) :: .gen (cmap cb nc g) :: []) by have h9 := H.out; rw [fUp_all HIO.out] at h9; exact h9)
          have HN4 := Lib.hid (show ids.length ≤ 1000000 by omega)
          clear H
          go_upto_region 30 with fail
          obtain ⟨rb, hrb⟩ : ∃ b, wr.heap.size = b := ⟨_, rfl⟩
          obtain ⟨w2, cnt, hrun, h2⟩ := crange_run HZ.out.p6 26 mapTC
          rw [hrb] at hrun h2
          have h2 : St W0 w2 K3 (.raw jb #[.map (some mb), .int .i64 (m : Int)] 57 :: .gen (jmap mb n f) :: .raw kb #[.map (some kmb), .int .i64 (ids.length : Int)] 57 :: .gen (jmap kmb ids.length f) :: .raw tb #[.map (some tm), .int .i64 (m2 : Int)] 57 :: .gen (jmap tm n2 f) :: .gen (crng cb rb nc g [] cnt) :: []) := h2.sel [3, 3, 1, 1, 1, 1, 0]
          have H := Lib.hid h2
          clear h2 HZ
          go_wp2_with fail
          clear hrun
          go_loopw [13] (fun nv wr => ∃ (vis : List Bs) (cnt : Nat) (K' : Know), nv = .int .i64 (cntS f vis : Nat) ∧ Hid (vis.Nodup) ∧ Hid (K'.has K3) ∧ St W0 wr K' (.raw jb #[.map (some mb), .int .i64 (m : Int)] 57 :: .gen (jmap mb n f) :: .raw kb #[.map (some kmb), .int .i64 (ids.length : Int)] 57 :: .gen (jmap kmb ids.length f) :: .raw tb #[.map (some tm), .int .i64 (m2 : Int)] 57 :: .gen (jmap tm n2 f) :: .gen (crng cb rb nc g vis cnt) :: [])) (fun _ wr => wr.rangeLeft cb rb)
          case atStart => exact ⟨[], cnt, K3, rfl, Lib.hid List.nodup_nil, Lib.hid (Know.has_refl _), H.out⟩
          case round =>
            obtain ⟨vis, cnt, K', rfl, HND, HKK, hst⟩ := hrel
            clear H
            obtain ⟨c, hc⟩ : ∃ c, cntS f vis = c := ⟨_, rfl⟩
            have hcl := cntS_le HIO.out HND.out
            rw [hc] at hcl
            have hcj : c ≤ 60 := by omega
            have hci : (c : Int) ≤ 60 := by omega
            have HC := Lib.hid hc
            have HRL := Lib.hid hst.p6.rleft
            rw [hc]
            clear hcl hc
            rcases cnext_run hst.p6 0 with ⟨hall2, hrun⟩ | ⟨id, v, w3, cnt', hgv, hnv, hrun, hent, hst9, hlt, hsz⟩
            · have HCL := Lib.hid (show ids.length = c by rw [← HC.out]; exact (cntS_all HIO.out HND.out fun x hx => hall2 x (HGO.out.all x hx)).symm)
              have y3 : ((ids.length : Int) == (c : Int)) = true := by rw [HCL.out]; simp
              have H := Lib.hid hst
              clear hst hall2
              go_wp2_with (first
          | (go_at_call 13; (with_reducible refine (jr_ids jb mb n _ f HN1.out H.out).mono ?_); rintro e_ wn ⟨v, ids2, rfl, hio2, h⟩; have y1 : ((ids2.length : Int) == (c : Int)) = true := (by rw [ids_len hio2 HIO.out, HCL.out]; simp); obtain ⟨qi, ci, hvi⟩ := h.rowAny; subst hvi; have h := h.drop; clear hio2; replace H := Lib.hid h; clear h)
          | (go_at_call 13; (with_reducible refine (jr_ids kb kmb ids.length _ f HN4.out H.out.p2.p3.p1).mono ?_); rintro e_ wn ⟨v, ids3, rfl, hio3, h⟩; have y2 : ((ids3.length : Int) == (c : Int)) = true := (by rw [ids_len hio3 HIO.out, HCL.out]; simp); obtain ⟨qi3, ci3, hvi⟩ := h.rowAny; subst hvi; have h := h.drop; clear hio3; replace H := Lib.hid h; clear h)
          | (go_at_call 14; (with_reducible refine (jr_many kb kmb _ _ _ H.out).mono ?_); rintro e_ wn ⟨rfl, h⟩; replace H := Lib.hid h; clear h))
              go_ret
              exact ⟨rfl, H.out.below⟩
            · clear hst
              have hst := hst9
              clear hst9
              obtain ⟨dr, p, e, t, s, u, st, tl, xq, xcap, hv, hxl, hil, hd1, hd2⟩ := HGO.out.at hgv
              subst hv
              have HKT := Lib.hid (Know.has_trans HKK.out (Know.has_trans HK3.out (show K.has (Know.tops (.slice xq tl.length xcap) tl) from chs_tops HK.out hxl)))
              have HID := Lib.hid (show id.length ≤ 1000000 by omega)
              have HND2 := Lib.hid (List.nodup_cons.2 ⟨hnv, HND.out⟩)
              have HLT := Lib.hid hlt
              clear hxl hil hgv hnv hlt
              obtain ⟨vb, hvb⟩ : ∃ b, w3.heap.size = b := ⟨_, rfl⟩
              clear hsz
              cases dr with
              | true =>
                have HFN := Lib.hid (hd1 rfl)
                clear hd1 hd2
                have g1 := hst.allocRaw #[.string (bb id), .bool true, .int .i64 p, .int .i64 e, .int .i64 t, .int .i64 s, .slice xq tl.length xcap, .int .i64 u, .int .i64 st] 31
                rw [hvb] at g1
                have c0 := (g1).rawCell 0; have c1 := (g1).rawCell 1; have c2 := (g1).rawCell 2; have c3 := (g1).rawCell 3; have c4 := (g1).rawCell 4; have c5 := (g1).rawCell 5; have c6 := (g1).rawCell 6; have c7 := (g1).rawCell 7; have c8 := (g1).rawCell 8; simp at c0 c1 c2 c3 c4 c5 c6 c7 c8
                have H := Lib.hid g1
                clear g1 hst
                have b1 : (false == true) = false := rfl
                have b2 : (false != false) = false := rfl
                go_wp2_with (first
                  | (go_at_call 11; (try clear y0 y1 y2 y3 y4 y5 y6 z0 z1 z2 z3 z4 z5 z6 a0 a1 a2 a3 a4 a5 a6 c0 c1 c2 c3 c4 c5 c6 c7 c8); (with_reducible refine (jr_get_none jb mb n _ f id HFN.out HID.out H.out.p2.p3.p1).mono ?_); rintro e_ wn ⟨rfl, h⟩; obtain ⟨ab, hab⟩ : ∃ y, wn.heap.size = y := ⟨_, rfl⟩; have h := h.allocRaw #[.int .i64 0, .int .i64 0, .int .i64 0, .int .i64 0, .slice none 0 0, .int .i64 0, .int .i64 0] 29; rw [hab] at h; replace H := Lib.hid h; clear h)
                  | (go_at_call 11; (try clear y0 y1 y2 y3 y4 y5 y6 z0 z1 z2 z3 z4 z5 z6 a0 a1 a2 a3 a4 a5 a6 c0 c1 c2 c3 c4 c5 c6 c7 c8); (with_reducible refine (jr_get_none kb kmb ids.length _ f id HFN.out HID.out H.out.p5.p6.p1).mono ?_); rintro e_ wn ⟨rfl, h⟩; obtain ⟨eb, heb⟩ : ∃ y, wn.heap.size = y := ⟨_, rfl⟩; have h := h.allocRaw #[.int .i64 0, .int .i64 0, .int .i64 0, .int .i64 0, .slice none 0 0, .int .i64 0, .int .i64 0] 29; rw [heb] at h; replace H := Lib.hid h; clear h)
                  | (go_at_call 11; (try clear y0 y1 y2 y3 y4 y5 y6 z0 z1 z2 z3 z4 z5 z6 a0 a1 a2 a3 a4 a5 a6 c0 c1 c2 c3 c4 c5 c6 c7 c8); (with_reducible refine (jr_get_none tb tm n2 _ f id HFN.out HID.out H.out.p8.p9.p1).mono ?_); rintro e_ wn ⟨rfl, h⟩; obtain ⟨fb, hfb⟩ : ∃ y, wn.heap.size = y := ⟨_, rfl⟩; have h := h.allocRaw #[.int .i64 0, .int .i64 0, .int .i64 0, .int .i64 0, .slice none 0 0, .int .i64 0, .int .i64 0] 29; rw [hfb] at h; have y0 := (h).rawCell 0; have y1 := (h).rawCell 1; have y2 := (h).rawCell 2; have y3 := (h).rawCell 3; have y4 := (h).rawCell 4; have y5 := (h).rawCell 5; have y6 := (h).rawCell 6; simp at y0 y1 y2 y3 y4 y5 y6; have z0 := (h.p3).rawCell 0; have z1 := (h.p3).rawCell 1; have z2 := (h.p3).rawCell 2; have z3 := (h.p3).rawCell 3; have z4 := (h.p3).rawCell 4; have z5 := (h.p3).rawCell 5; have z6 := (h.p3).rawCell 6; simp at z0 z1 z2 z3 z4 z5 z6; have a0 := (h.p6).rawCell 0; have a1 := (h.p6).rawCell 1; have a2 := (h.p6).rawCell 2; have a3 := (h.p6).rawCell 3; have a4 := (h.p6).rawCell 4; have a5 := (h.p6).rawCell 5; have a6 := (h.p6).rawCell 6; simp at a0 a1 a2 a3 a4 a5 a6; have c0 := (h.p9).rawCell 0; have c1 := (h.p9).rawCell 1; have c2 := (h.p9).rawCell 2; have c3 := (h.p9).rawCell 3; have c4 := (h.p9).rawCell 4; have c5 := (h.p9).rawCell 5; have c6 := (h.p9).rawCell 6; have c7 := (h.p9).rawCell 7; have c8 := (h.p9).rawCell 8; simp at c0 c1 c2 c3 c4 c5 c6 c7 c8; replace H := Lib.hid h; clear h))
                go_roundw
                case rel => exact ⟨id :: vis, cnt', K', by rw [cntS_none f id vis HFN.out, HC.out], HND2, HKK, H.out.sel [7, 7, 4, 4, 1, 1, 4]⟩
                case measure => rw [H.out.p9.drop.p9.rleft, HRL.out]; exact HLT.out
              | false =>
                obtain ⟨S, hJ, hSL, hV⟩ := hd2 rfl
                have HJ := Lib.hid hJ
                have HSL := Lib.hid hSL
                have HN_tl := Lib.hid (lenT_dec hSL hV)
                obtain ⟨tops, hT⟩ : ∃ tops, tl.map (·.1) = tops := ⟨_, rfl⟩
                rw [hT] at hV
                have HT := Lib.hid hT
                have HV := Lib.hid hV
                clear hd1 hd2 hJ hSL hV hT
                have g1 := hst.allocRaw #[.string (bb id), .bool false, .int .i64 p, .int .i64 e, .int .i64 t, .int .i64 s, .slice xq tl.length xcap, .int .i64 u, .int .i64 st] 31
                rw [hvb] at g1
                have c0 := (g1).rawCell 0; have c1 := (g1).rawCell 1; have c2 := (g1).rawCell 2; have c3 := (g1).rawCell 3; have c4 := (g1).rawCell 4; have c5 := (g1).rawCell 5; have c6 := (g1).rawCell 6; have c7 := (g1).rawCell 7; have c8 := (g1).rawCell 8; simp at c0 c1 c2 c3 c4 c5 c6 c7 c8
                have H := Lib.hid g1
                clear g1 hst
                have b1 : (true == false) = false := rfl
                have b2 : (true != true) = false := rfl
                go_wp2_with (first
                  | (go_at_call 11; (try clear y0 y1 y2 y3 y4 y5 y6 z0 z1 z2 z3 z4 z5 z6 a0 a1 a2 a3 a4 a5 a6 c0 c1 c2 c3 c4 c5 c6 c7 c8); (with_reducible refine (jr_get_some jb mb n _ f id S HJ.out HID.out HSL.out p e t s u st tops HV.out H.out.p2.p3.p1).mono ?_); rintro e_ wn ⟨qa, ca, la, rfl, hl_la, h⟩; obtain ⟨ab, hab⟩ : ∃ y, wn.heap.size = y := ⟨_, rfl⟩; have h := h.allocRaw #[.int .i64 p, .int .i64 e, .int .i64 t, .int .i64 s, .slice qa la.length ca, .int .i64 u, .int .i64 st] 29; rw [hab] at h; have HL_la := Lib.hid hl_la; clear hl_la; replace H := Lib.hid h; clear h)
                  | (go_at_call 11; (try clear y0 y1 y2 y3 y4 y5 y6 z0 z1 z2 z3 z4 z5 z6 a0 a1 a2 a3 a4 a5 a6 c0 c1 c2 c3 c4 c5 c6 c7 c8); (with_reducible refine (jr_get_some kb kmb ids.length _ f id S HJ.out HID.out HSL.out p e t s u st tops HV.out H.out.p5.p6.p1).mono ?_); rintro e_ wn ⟨qb, cbb, lb, rfl, hl_lb, h⟩; obtain ⟨eb, heb⟩ : ∃ y, wn.heap.size = y := ⟨_, rfl⟩; have h := h.allocRaw #[.int .i64 p, .int .i64 e, .int .i64 t, .int .i64 s, .slice qb lb.length cbb, .int .i64 u, .int .i64 st] 29; rw [heb] at h; have HL_lb := Lib.hid hl_lb; clear hl_lb; replace H := Lib.hid h; clear h)
                  | (go_at_call 11; (try clear y0 y1 y2 y3 y4 y5 y6 z0 z1 z2 z3 z4 z5 z6 a0 a1 a2 a3 a4 a5 a6 c0 c1 c2 c3 c4 c5 c6 c7 c8); (with_reducible refine (jr_get_some tb tm n2 _ f id S HJ.out HID.out HSL.out p e t s u st tops HV.out H.out.p8.p9.p1).mono ?_); rintro e_ wn ⟨qd, cdd, ld, rfl, hl_ld, h⟩; obtain ⟨fb, hfb⟩ : ∃ y, wn.heap.size = y := ⟨_, rfl⟩; have h := h.allocRaw #[.int .i64 p, .int .i64 e, .int .i64 t, .int .i64 s, .slice qd ld.length cdd, .int .i64 u, .int .i64 st] 29; rw [hfb] at h; have HL_ld := Lib.hid hl_ld; clear hl_ld; have HKA := Lib.hid (show (((K'.and (Know.tops (.slice qa la.length ca) la)).and (Know.tops (.slice qb lb.length cbb) lb)).and (Know.tops (.slice qd ld.length cdd) ld)).has (Know.tops (.slice qa la.length ca) la) from Know.has_left (Know.has_left (Know.has_right (Know.has_refl _)))); have HKB := Lib.hid (show (((K'.and (Know.tops (.slice qa la.length ca) la)).and (Know.tops (.slice qb lb.length cbb) lb)).and (Know.tops (.slice qd ld.length cdd) ld)).has (Know.tops (.slice qb lb.length cbb) lb) from Know.has_left (Know.has_right (Know.has_refl _))); have HKD := Lib.hid (show (((K'.and (Know.tops (.slice qa la.length ca) la)).and (Know.tops (.slice qb lb.length cbb) lb)).and (Know.tops (.slice qd ld.length cdd) ld)).has (Know.tops (.slice qd ld.length cdd) ld) from Know.has_right (Know.has_refl _)); have HKC := Lib.hid (show (((K'.and (Know.tops (.slice qa la.length ca) la)).and (Know.tops (.slice qb lb.length cbb) lb)).and (Know.tops (.slice qd ld.length cdd) ld)).has (Know.tops (.slice xq tl.length xcap) tl) from Know.has_left (Know.has_left (Know.has_left HKT.out))); have HN_la := Lib.hid (show LenT la from lenT_dec HSL.out (by rw [HL_la.out]; exact HV.out)); have HN_lb := Lib.hid (show LenT lb from lenT_dec HSL.out (by rw [HL_lb.out]; exact HV.out)); have HN_ld := Lib.hid (show LenT ld from lenT_dec HSL.out (by rw [HL_ld.out]; exact HV.out)); have HE1 := Lib.hid (HL_la.out.trans HT.out.symm); have HE2 := Lib.hid (HL_la.out.trans HL_lb.out.symm); have HE3 := Lib.hid (HL_la.out.trans HL_ld.out.symm); have y0 := (h).rawCell 0; have y1 := (h).rawCell 1; have y2 := (h).rawCell 2; have y3 := (h).rawCell 3; have y4 := (h).rawCell 4; have y5 := (h).rawCell 5; have y6 := (h).rawCell 6; simp at y0 y1 y2 y3 y4 y5 y6; have z0 := (h.p3).rawCell 0; have z1 := (h.p3).rawCell 1; have z2 := (h.p3).rawCell 2; have z3 := (h.p3).rawCell 3; have z4 := (h.p3).rawCell 4; have z5 := (h.p3).rawCell 5; have z6 := (h.p3).rawCell 6; simp at z0 z1 z2 z3 z4 z5 z6; have a0 := (h.p6).rawCell 0; have a1 := (h.p6).rawCell 1; have a2 := (h.p6).rawCell 2; have a3 := (h.p6).rawCell 3; have a4 := (h.p6).rawCell 4; have a5 := (h.p6).rawCell 5; have a6 := (h.p6).rawCell 6; simp at a0 a1 a2 a3 a4 a5 a6; have c0 := (h.p9).rawCell 0; have c1 := (h.p9).rawCell 1; have c2 := (h.p9).rawCell 2; have c3 := (h.p9).rawCell 3; have c4 := (h.p9).rawCell 4; have c5 := (h.p9).rawCell 5; have c6 := (h.p9).rawCell 6; have c7 := (h.p9).rawCell 7; have c8 := (h.p9).rawCell 8; simp at c0 c1 c2 c3 c4 c5 c6 c7 c8; replace H := Lib.hid h; clear h)
                  | (go_at_call 12; (try clear y0 y1 y2 y3 y4 y5 y6 z0 z1 z2 z3 z4 z5 z6 a0 a1 a2 a3 a4 a5 a6 c0 c1 c2 c3 c4 c5 c6 c7 c8); (with_reducible refine (ref14_sameT p e t s u st la tl qa xq ca xcap HE1.out HN_la.out HN_tl.out HKA.out HKC.out H.out).mono ?_); rintro e_ wn ⟨rfl, h⟩; have y0 := (h).rawCell 0; have y1 := (h).rawCell 1; have y2 := (h).rawCell 2; have y3 := (h).rawCell 3; have y4 := (h).rawCell 4; have y5 := (h).rawCell 5; have y6 := (h).rawCell 6; simp at y0 y1 y2 y3 y4 y5 y6; have z0 := (h.p3).rawCell 0; have z1 := (h.p3).rawCell 1; have z2 := (h.p3).rawCell 2; have z3 := (h.p3).rawCell 3; have z4 := (h.p3).rawCell 4; have z5 := (h.p3).rawCell 5; have z6 := (h.p3).rawCell 6; simp at z0 z1 z2 z3 z4 z5 z6; have a0 := (h.p6).rawCell 0; have a1 := (h.p6).rawCell 1; have a2 := (h.p6).rawCell 2; have a3 := (h.p6).rawCell 3; have a4 := (h.p6).rawCell 4; have a5 := (h.p6).rawCell 5; have a6 := (h.p6).rawCell 6; simp at a0 a1 a2 a3 a4 a5 a6; have c0 := (h.p9).rawCell 0; have c1 := (h.p9).rawCell 1; have c2 := (h.p9).rawCell 2; have c3 := (h.p9).rawCell 3; have c4 := (h.p9).rawCell 4; have c5 := (h.p9).rawCell 5; have c6 := (h.p9).rawCell 6; have c7 := (h.p9).rawCell 7; have c8 := (h.p9).rawCell 8; simp at c0 c1 c2 c3 c4 c5 c6 c7 c8; replace H := Lib.hid h; clear h)
                  | (go_at_call 12; (try clear y0 y1 y2 y3 y4 y5 y6 z0 z1 z2 z3 z4 z5 z6 a0 a1 a2 a3 a4 a5 a6 c0 c1 c2 c3 c4 c5 c6 c7 c8); (with_reducible refine (ref14_sameT p e t s u st la lb qa qb ca cbb HE2.out HN_la.out HN_lb.out HKA.out HKB.out H.out).mono ?_); rintro e_ wn ⟨rfl, h⟩; have y0 := (h).rawCell 0; have y1 := (h).rawCell 1; have y2 := (h).rawCell 2; have y3 := (h).rawCell 3; have y4 := (h).rawCell 4; have y5 := (h).rawCell 5; have y6 := (h).rawCell 6; simp at y0 y1 y2 y3 y4 y5 y6; have z0 := (h.p3).rawCell 0; have z1 := (h.p3).rawCell 1; have z2 := (h.p3).rawCell 2; have z3 := (h.p3).rawCell 3; have z4 := (h.p3).rawCell 4; have z5 := (h.p3).rawCell 5; have z6 := (h.p3).rawCell 6; simp at z0 z1 z2 z3 z4 z5 z6; have a0 := (h.p6).rawCell 0; have a1 := (h.p6).rawCell 1; have a2 := (h.p6).rawCell 2; have a3 := (h.p6).rawCell 3; have a4 := (h.p6).rawCell 4; have a5 := (h.p6).rawCell 5; have a6 := (h.p6).rawCell 6; simp at a0 a1 a2 a3 a4 a5 a6; have c0 := (h.p9).rawCell 0; have c1 := (h.p9).rawCell 1; have c2 := (h.p9).rawCell 2; have c3 := (h.p9).rawCell 3; have c4 := (h.p9).rawCell 4; have c5 := (h.p9).rawCell 5; have c6 := (h.p9).rawCell 6; have c7 := (h.p9).rawCell 7; have c8 := (h.p9).rawCell 8; simp at c0 c1 c2 c3 c4 c5 c6 c7 c8; replace H := Lib.hid h; clear h)
                  | (go_at_call 12; (try clear y0 y1 y2 y3 y4 y5 y6 z0 z1 z2 z3 z4 z5 z6 a0 a1 a2 a3 a4 a5 a6 c0 c1 c2 c3 c4 c5 c6 c7 c8); (with_reducible refine (ref14_sameT p e t s u st la ld qa qd ca cdd HE3.out HN_la.out HN_ld.out HKA.out HKD.out H.out).mono ?_); rintro e_ wn ⟨rfl, h⟩; have y0 := (h).rawCell 0; have y1 := (h).rawCell 1; have y2 := (h).rawCell 2; have y3 := (h).rawCell 3; have y4 := (h).rawCell 4; have y5 := (h).rawCell 5; have y6 := (h).rawCell 6; simp at y0 y1 y2 y3 y4 y5 y6; have z0 := (h.p3).rawCell 0; have z1 := (h.p3).rawCell 1; have z2 := (h.p3).rawCell 2; have z3 := (h.p3).rawCell 3; have z4 := (h.p3).rawCell 4; have z5 := (h.p3).rawCell 5; have z6 := (h.p3).rawCell 6; simp at z0 z1 z2 z3 z4 z5 z6; have a0 := (h.p6).rawCell 0; have a1 := (h.p6).rawCell 1; have a2 := (h.p6).rawCell 2; have a3 := (h.p6).rawCell 3; have a4 := (h.p6).rawCell 4; have a5 := (h.p6).rawCell 5; have a6 := (h.p6).rawCell 6; simp at a0 a1 a2 a3 a4 a5 a6; have c0 := (h.p9).rawCell 0; have c1 := (h.p9).rawCell 1; have c2 := (h.p9).rawCell 2; have c3 := (h.p9).rawCell 3; have c4 := (h.p9).rawCell 4; have c5 := (h.p9).rawCell 5; have c6 := (h.p9).rawCell 6; have c7 := (h.p9).rawCell 7; have c8 := (h.p9).rawCell 8; simp at c0 c1 c2 c3 c4 c5 c6 c7 c8; replace H := Lib.hid h; clear h))
                go_roundw
                case rel => exact ⟨id :: vis, cnt', (((K'.and (Know.tops (.slice qa la.length ca) la)).and (Know.tops (.slice qb lb.length cbb) lb)).and (Know.tops (.slice qd ld.length cdd) ld)), by rw [cntS_cons f id vis S HJ.out, HC.out]; go_num, HND2, Lib.hid (Know.has_left (Know.has_left (Know.has_left HKK.out))), H.out.sel [7, 7, 4, 4, 1, 1, 4]⟩
                case measure => rw [H.out.p9.drop.p9.rleft, HRL.out]; exact HLT.out

end Go.Proofs.YtmpehoebgifmnaaDoor
/- The elements of arguments, opened: headers. -/
namespace Go.Proofs.YtmpehoebgifmnaaDoor
open Go.RowKit

open Go.ChangeShapes Go.WideShapes Go.ChangeAt Go.Deep

theorem cells_blob_Op06 : Tryd.prog.cellsOf 34 = 2 := by kernel_rfl
theorem cells_bool_Op06 : Tryd.prog.cellsOf 4 = 1 := by kernel_rfl
section
variable {H : Type} {enc : TypeId × Value → H} {w : World} {spare : Nat → Bool} {held : Bool}
set_option maxRecDepth 100000 in
theorem blob_open : ∀ n a b y, DataW.trod enc Tryd.prog w 0 spare held n 34 [a, b] = some y → ∃ (nl : Bool) (d : ByteArray), a = .bool nl ∧ b = .string d ∧ d.size ≤ maxLen := by
  intro n a b y h
  obtain ⟨xs, n', _, hx, hl, hxl, hg⟩ := DataW.trod_struct Tryd.underlying34 h
  have g0 : DataW.trod enc Tryd.prog w 0 spare held n' 4 (List.take (Tryd.prog.cellsOf 4) (List.drop 0 [a, b])) = xs[0]? := hg 0 _ rfl
  have g1 : DataW.trod enc Tryd.prog w 0 spare held n' 9 (List.take (Tryd.prog.cellsOf 9) (List.drop 1 [a, b])) = xs[1]? := hg 1 _ rfl
  rw [cells_bool_Op06] at g0
  rw [cells_str] at g1
  obtain ⟨y0, y1, rfl⟩ := len2 hxl
  obtain ⟨x0, e0, _⟩ := DataW.trod_bool Tryd.underlying4 g0
  obtain ⟨x1, e1, _, q1⟩ := DataW.trod_string Tryd.underlying9 g1
  simp at e0 e1
  exact ⟨x0, x1, e0, e1, q1⟩
end
end Go.Proofs.YtmpehoebgifmnaaDoor
/- The elements of arguments, opened, with their reach: headers. -/
namespace Go.Proofs.YtmpehoebgifmnaaDoor
open Go.RowKit
open Go.ChangeShapes Go.WideShapes Go.ChangeAt Go.Deep

section
variable {H : Type} {enc : TypeId × Value → H} {w : World} {spare : Nat → Bool} {held : Bool}
set_option maxRecDepth 100000 in
theorem blob_opens_Open6 {N : Nat} : ∀ n cs y, DataW.trod enc Tryd.prog w 0 spare held n 34 cs = some y → Light 34 y.1 → (∀ x ∈ y.2, x.block < N) → ∃ x : BlobS, cs = [.bool x.null, .string (bb x.data)] ∧ x.data.length ≤ 140737488351232 := by
  intro n cs y h hl hN
  obtain ⟨hc, m, hf⟩ := opens_field Tryd.underlying34 h hl hN
  rw [cells_blob] at hc
  obtain ⟨a, b, rfl⟩ := len2 hc
  obtain ⟨z0, g0, l0, _⟩ := hf 0 _ rfl
  obtain ⟨z1, g1, l1, _⟩ := hf 1 _ rfl
  have g0 : DataW.trod enc Tryd.prog w 0 spare held m 4 (List.take (Tryd.prog.cellsOf 4) (List.drop 0 [a, b])) = some z0 := g0
  have g1 : DataW.trod enc Tryd.prog w 0 spare held m 9 (List.take (Tryd.prog.cellsOf 9) (List.drop 1 [a, b])) = some z1 := g1
  rw [cells_bool] at g0
  rw [cells_str] at g1
  obtain ⟨x, e0⟩ := opens_bool Tryd.underlying4 g0
  obtain ⟨s, e1, hs⟩ := opens_str Tryd.underlying9 g1 l1
  simp at e0 e1
  subst e0 e1
  exact ⟨⟨x, s⟩, rfl, hs⟩
end
end Go.Proofs.YtmpehoebgifmnaaDoor
/- Changes of an argument, opened. -/
namespace Go.Proofs.YtmpehoebgifmnaaDoor
open Go.RowKit
open Go.ChangeShapes Go.WideShapes Go.ChangeAt Go.Deep

theorem cells_ch : Tryd.prog.cellsOf 31 = 9 := by kernel_rfl
theorem cells_ch_s : Tryd.prog.cellsOf 9 = 1 := by kernel_rfl
theorem cells_ch_b : Tryd.prog.cellsOf 4 = 1 := by kernel_rfl
theorem len9 {α : Type} {l : List α} (h : l.length = 9) : ∃ a b c d e f g i j, l = [a, b, c, d, e, f, g, i, j] := by
  match l, h with
  | [a, b, c, d, e, f, g, i, j], _ => exact ⟨a, b, c, d, e, f, g, i, j, rfl⟩
/-- What is known of a change that came in. -/
def QCh (W : World) (x : ChR) : Prop := (RowsOf (fun _ cs x => RTop cs x) (· < W.heap.size) W (.slice x.q x.tl.length x.cap) 2 x.tl ∧ ∀ y ∈ x.tl, QTop W y) ∧ ValS.R ⟨x.p, x.e, x.t, x.s, x.tl.map (·.1), x.u, x.st⟩ ∧ FewI x.tl
theorem QCh.start {W : World} {v : Value} {l : List ChR} (hr : RowsOf (fun _ cs x => RCh cs x) (· < W.heap.size) W v 9 l) (h : ∀ x ∈ l, QCh W x) (hq : Know.reqs.p W (· < W.heap.size)) : St W W ((Know.chs v l).and Know.reqs) [] :=
  St.start ⟨⟨hr, fun x hx => ⟨(h x hx).1.1, fun y hy => ((h x hx).1.2 y hy).1⟩⟩, hq⟩
section
variable {H : Type} {enc : TypeId × Value → H} {w : World} {spare : Nat → Bool} {held : Bool}
set_option maxHeartbeats 2000000 in
set_option maxRecDepth 100000 in
theorem rch_opens : ∀ n cs y, DataW.trod enc Tryd.prog w 0 spare held n 31 cs = some y → Light 31 y.1 → (∀ x ∈ y.2, x.block < w.heap.size) → ∃ x : ChR, RCh cs x ∧ QCh w x := by
  intro n cs y hf hl hN
  obtain ⟨hc, m, hg⟩ := opens_field Tryd.underlying31 hf hl hN
  rw [cells_ch] at hc
  obtain ⟨c0, c1, c2, c3, c4, c5, c6, c7, c8, rfl⟩ := len9 hc
  obtain ⟨z0, g0, l0, n0⟩ := hg 0 _ rfl
  have g0 : DataW.trod enc Tryd.prog w 0 spare held m 9 (List.take (Tryd.prog.cellsOf 9) (List.drop 0 [c0, c1, c2, c3, c4, c5, c6, c7, c8])) = some z0 := g0
  rw [cells_ch_s] at g0
  obtain ⟨z1, g1, l1, n1⟩ := hg 1 _ rfl
  have g1 : DataW.trod enc Tryd.prog w 0 spare held m 4 (List.take (Tryd.prog.cellsOf 4) (List.drop 1 [c0, c1, c2, c3, c4, c5, c6, c7, c8])) = some z1 := g1
  rw [cells_ch_b] at g1
  obtain ⟨z2, g2, l2, n2⟩ := hg 2 _ rfl
  have g2 : DataW.trod enc Tryd.prog w 0 spare held m 29 (List.take (Tryd.prog.cellsOf 29) (List.drop 2 [c0, c1, c2, c3, c4, c5, c6, c7, c8])) = some z2 := g2
  rw [cells_val] at g2
  obtain ⟨x0, e0, s0⟩ := opens_str Tryd.underlying9 g0 l0
  obtain ⟨x1, e1⟩ := opens_bool Tryd.underlying4 g1
  obtain ⟨p, e, t, s, u, st, tl, rv, ec, hR, hr, hm, hq⟩ := val_opens _ _ _ g2 l2 n2
  obtain ⟨q, cap, hrv⟩ : ∃ q cap, rv = .slice q tl.length cap := by obtain ⟨p, cap, hv, _⟩ := hr; exact ⟨p, cap, hv⟩
  subst hrv
  simp at e0 e1 ec
  obtain ⟨k0, k1, k2, k3, k4, k5, k6⟩ := ec
  subst e0 e1 k0 k1 k2 k3 k4 k5 k6
  exact ⟨⟨x0, x1, p, e, t, s, u, st, tl, q, cap⟩, rfl, ⟨hr, hq⟩, hR, QTop.few hm hq⟩
end
theorem wholeLog_any (l : List ChR) (v : Value) (W : World) (hr : RowsOf (fun _ cs x => RCh cs x) (· < W.heap.size) W v 9 l) (h : ∀ x ∈ l, QCh W x) (hq : Know.reqs.p W (· < W.heap.size)) :
    Calls Tryd.prog 3 #[v] W fun en w' => en = .returned (.bool true) ∧ Below W.heap.size W w' := by
  have hs := QCh.start hr h hq
  obtain ⟨q, cap, hv, _⟩ := hr
  subst hv
  have hall : ∀ x ∈ l, ValS.R ⟨x.p, x.e, x.t, x.s, x.tl.map (·.1), x.u, x.st⟩ ∧ FewI x.tl := fun x hx => (h x hx).2
  by_cases hl : l.length ≤ 30
  · exact wl_main l q cap hl hall (Know.has_left (Know.has_refl _)) (Know.has_right (Know.has_refl _)) hs
  · exact wl_long l q cap (by omega) hall (Know.has_left (Know.has_refl _)) (Know.has_right (Know.has_refl _)) hs

end Go.Proofs.YtmpehoebgifmnaaDoor
/- The table of requests, out of what the row lists. -/
namespace Go.Proofs.YtmpehoebgifmnaaDoor
open Go.ChangeShapes Go.WideShapes Go.ChangeAt Go.RowKit

theorem gReqs : Tryd.prog.globalNamed "cursitor/version.requests" = some 0 := by kernel_rfl
theorem gReqsType : (Tryd.prog.globals[0]?).map (·.type) = some 75 := by kernel_rfl
theorem cells_req : Tryd.prog.cellsOf 52 = 4 := by kernel_rfl
theorem cells_reqs : Tryd.prog.cellsOf 75 = 20 := by kernel_rfl
theorem cells_i64 : Tryd.prog.cellsOf 3 = 1 := by kernel_rfl
theorem cells_s1 : Tryd.prog.cellsOf 9 = 1 := by kernel_rfl
theorem dlen4 {α : Type} {l : List α} (h : l.length = 4) : ∃ a b c d, l = [a, b, c, d] := by
  match l, h with
  | [a, b, c, d], _ => exact ⟨a, b, c, d, rfl⟩
section
variable {H : Type} {enc : TypeId × Value → H} {w : World} {spare : Nat → Bool} {held : Bool}
set_option maxRecDepth 100000 in
theorem req_row {n : Nat} {cs : List Value} {y : DataW H × List MemPlace} {a b c : Int} {s : Bs} (h : DataW.trod enc Tryd.prog w 0 spare held n 52 cs = some y)
    (hy : y.1 = .agg [.lit (.int .i64 a), .lit (.string s), .lit (.int .i64 b), .lit (.int .i64 c)]) : cs = [.int .i64 a, .string ⟨s.toArray⟩, .int .i64 b, .int .i64 c] := by
  obtain ⟨xs, m, _, rfl, hcl, hxl, hg⟩ := DataW.trod_struct Tryd.underlying52 h
  rw [cells_req] at hcl
  obtain ⟨c0, c1, c2, c3, rfl⟩ := dlen4 hcl
  obtain ⟨x0, x1, x2, x3, rfl⟩ := dlen4 hxl
  have g0 : DataW.trod enc Tryd.prog w 0 spare held m 3 (List.take (Tryd.prog.cellsOf 3) (List.drop 0 [c0, c1, c2, c3])) = some x0 := hg 0 _ rfl
  have g1 : DataW.trod enc Tryd.prog w 0 spare held m 9 (List.take (Tryd.prog.cellsOf 9) (List.drop 1 [c0, c1, c2, c3])) = some x1 := hg 1 _ rfl
  have g2 : DataW.trod enc Tryd.prog w 0 spare held m 3 (List.take (Tryd.prog.cellsOf 3) (List.drop 2 [c0, c1, c2, c3])) = some x2 := hg 2 _ rfl
  have g3 : DataW.trod enc Tryd.prog w 0 spare held m 3 (List.take (Tryd.prog.cellsOf 3) (List.drop 3 [c0, c1, c2, c3])) = some x3 := hg 3 _ rfl
  rw [cells_i64] at g0 g2 g3
  rw [cells_s1] at g1
  obtain ⟨k0, e0, f0, _⟩ := DataW.trod_int Tryd.underlying3 g0
  obtain ⟨k1, e1, f1, _⟩ := DataW.trod_string Tryd.underlying9 g1
  obtain ⟨k2, e2, f2, _⟩ := DataW.trod_int Tryd.underlying3 g2
  obtain ⟨k3, e3, f3, _⟩ := DataW.trod_int Tryd.underlying3 g3
  subst f0 f1 f2 f3
  simp at hy e0 e1 e2 e3
  obtain ⟨h0, h1, h2, h3⟩ := hy
  subst h0 h1 h2 h3 e0 e1 e2 e3
  rfl
end
theorem split20 {l : List Value} (hlen : l.length = 20) : l = (l.drop (0 * 4)).take 4 ++ ((l.drop (1 * 4)).take 4 ++ ((l.drop (2 * 4)).take 4 ++ ((l.drop (3 * 4)).take 4 ++ (l.drop (4 * 4)).take 4))) := by
  match l, hlen with
  | [a0, a1, a2, a3, a4, a5, a6, a7, a8, a9, b0, b1, b2, b3, b4, b5, b6, b7, b8, b9], _ => rfl
set_option maxRecDepth 100000 in
theorem reqs_of_laid {W : World} (h : laidMetH Tryd.prog [("cursitor/version.requests", Rows.laid_cursitor_version_requests)] W) : Know.reqs.p W (· < W.heap.size) := by
  rw [MakeChecks.laidMetH_plain _ _ _ (by as_aux_lemma => kernel_rfl)] at h
  obtain ⟨ps, ⟨g0, t0, cs0, f0, p0, q0, hg0, ht0, hv0, hd0, _, _⟩, _, _⟩ := h
  obtain rfl := Option.some.inj (gReqs.symm.trans hg0)
  obtain rfl := Option.some.inj (gReqsType.symm.trans ht0)
  obtain ⟨xs, m1, rfl, hx1, hlen, hn5, hel⟩ := DataW.trod_array Tryd.underlying75 hd0
  rw [cells_req] at hel
  rw [cells_reqs] at hlen
  match xs, hn5, hx1, hel with
  | [x0, x1, x2, x3, x4], _, hx1, hel =>
    have hx2 := congrArg (·.1) hx1
    simp only [List.map_cons, List.map_nil, Rows.laid_cursitor_version_requests, DataW.agg.injEq, List.cons.injEq] at hx2
    obtain ⟨d0, d1, d2, d3, d4, _⟩ := hx2
    have r0 := req_row (hel 0 (by decide)) d0.symm
    have r1 := req_row (hel 1 (by decide)) d1.symm
    have r2 := req_row (hel 2 (by decide)) d2.symm
    have r3 := req_row (hel 3 (by decide)) d3.symm
    have r4 := req_row (hel 4 (by decide)) d4.symm
    have hcs : cs0.toList = reqCells := by
      have e := split20 (l := cs0.toList) hlen
      rw [e, r0, r1, r2, r3, r4]
      rfl
    have hcell : ∀ j u, reqCells[j]? = some u → W.cell? ⟨0, j, Option.none⟩ = some u := by
      intro j u hu
      have := World.var?_cell hg0 hv0 j
      rw [this, ← Array.getElem?_toList, hcs]
      exact hu
    have hb : 0 < W.heap.size := World.block_lt_of_cell? W _ (hcell 0 _ rfl)
    exact ⟨hb, hb, hcell⟩
/-- A world for the witness: the settled one, the table holding what its initialiser lays. -/
noncomputable def reqWorld (os : Os) : World :=
  { World.holding Tryd.prog os ⟨#[], #[], []⟩ with heap := (World.holding Tryd.prog os ⟨#[], #[], []⟩).heap.modify 0 fun
      | .cells _ t frozen => .cells #[.int .i64 0, .string ⟨#[112, 114, 111, 100, 117, 99, 101]⟩, .int .i64 3, .int .i64 4, .int .i64 22, .string ⟨#[98, 101, 103, 105, 110]⟩, .int .i64 0, .int .i64 1, .int .i64 24, .string ⟨#[97, 100, 100]⟩, .int .i64 0, .int .i64 0, .int .i64 26, .string ⟨#[101, 110, 100]⟩, .int .i64 0, .int .i64 0, .int .i64 27, .string ⟨#[109, 97, 114, 107]⟩, .int .i64 0, .int .i64 1] t frozen
      | o => o }

end Go.Proofs.YtmpehoebgifmnaaDoor
/- Of any changes, as entries of a log, and applied, what is known of each transaction is what was said last, compacted, too, and with all said twice: proved of all changes, the table of requests as the program lays it. -/
namespace Go.Proofs.YtmpehoebgifmnaaDoor
open Go.ChangeShapes Go.WideShapes Go.ChangeAt Go.ChangeMaps Go.RowKit

set_option maxRecDepth 100000 in
theorem wholeLog_met (os : Os) : laidMet Tryd.prog Rows.wholeLogRow.laid ((reqWorld os).forCall (fun _ _ => 0) ⟨#[], #[.slice none 0 0], []⟩).memory := laidMet_of_run' 8 (by as_aux_lemma => kernel_rfl) (by as_aux_lemma => kernel_rfl)
theorem wholeLog_reads (os : Os) {H : Type} (enc : TypeId × Value → H) : ∃ places, DataW.whole enc Tryd.prog ((reqWorld os).forCall (fun _ _ => 0) ⟨#[], #[.slice none 0 0], []⟩).memory Tryd.f3.params.toList Rows.wholeLogSpec.vars false #[.slice none 0 0].toList 8 = some ([.nil], [], places) := ⟨[], by as_aux_lemma => kernel_rfl⟩
set_option maxRecDepth 100000 in
theorem wholeLog_lifted (os : Os) (started : os.Started) (H : Type) (enc : TypeId × Value → H) (F : Stop.Interp) :
    ReturnsInHanded {} Tryd.checked os 3 .any ((OpenSpec.ofChange Rows.wholeLogSpec).preRow enc Tryd.prog Tryd.f3 Rows.wholeLogRow.domain false Rows.wholeLogRow.laid) (((OpenSpec.ofChange Rows.wholeLogSpec).at F).post enc Tryd.prog Tryd.f3 false true false false) := by
  obtain ⟨places, hx⟩ := wholeLog_reads os enc
  refine returnsInHanded_of_row (C := Tryd.checked) (s := OpenSpec.ofChange Rows.wholeLogSpec) Tryd.own started (by as_aux_lemma => kernel_rfl) Tryd.func3
    (witness_row_at (enc := enc) (C := Tryd.checked) false (reqWorld os) #[.slice none 0 0] rfl (by as_aux_lemma => kernel_rfl) (by as_aux_lemma => kernel_rfl) (by as_aux_lemma => kernel_rfl)
      (OpenSpec.preRow_of_cond 8 hx (by as_aux_lemma => kernel_rfl) (fun k hk => by cases hk) (by as_aux_lemma => kernel_rfl) (wholeLog_met os))) ?_
  intro W base args ds gs before hval0 hW _ _ hsz0 hL _ _
  have hval : ∀ (j : Nat) t v, Tryd.f3.params[j]? = some t → args[j]? = some v → Value.okWide Tryd.prog W .any base t v := hval0
  clear hval0
  have hreq := reqs_of_laid hL
  refine law_contract (n := 1) (tb := 4) (s := Rows.wholeLogSpec) rfl rfl rfl Tryd.underlying4 (by intro ds h; match ds, h with | [d0], _ => rfl) (by as_aux_lemma => kernel_rfl) hW ?_
  intro p hA0 hlt
  have hA : DataW.TrodAll enc Tryd.prog W 0 (fun _ => true) true Tryd.f3.params.toList args.toList ds p := hA0
  clear hA0
  rw [Tryd.params3] at hA hval
  obtain ⟨v0, d0, rfl, rfl, h0⟩ := trodAll_one hA
  have hsz : (DataW.weightsEach Tryd.prog (Tryd.f3.params.toList ++ (OpenSpec.ofChange Rows.wholeLogSpec).bare.plain.varTypes Tryd.prog) ([d0] ++ gs)).all (· ≤ reachBytes) = true := hsz0
  rw [Tryd.params3] at hsz
  obtain ⟨c0, e0, k0, rfl⟩ := okWide_slice Tryd.underlying22 (hval 0 22 v0 rfl rfl)
  have lg0 : Light 22 d0 := light_arg hsz (j := 0) rfl rfl
  obtain ⟨fuel0, hf0⟩ := h0
  obtain ⟨w0, l0, hw0, hrq0, hbl0, hl0⟩ := opens_rows (R := fun w cs x => (fun _ cs x => RCh cs x) w cs x ∧ (fun x => QCh W x) x) (N := W.heap.size) Tryd.underlying22 cells_ch (by decide) rch_opens hf0 lg0 (fun y hy => hlt y (by simp [hy])) (Nat.le_refl _)
  obtain ⟨hr0, hq0⟩ := hrq0.part
  obtain rfl : w0 = Value.slice c0 e0 k0 := by simpa [Value.cells] using hw0.symm
  exact wholeLog_any l0 _ W hr0 hq0 hreq

theorem wholeLog_said : Rows.WholeLogSaid :=
  OpenClaim.holds_of_cond 3 Tryd.f3 rfl rfl rfl rfl rfl rfl rfl ⟨rfl, rfl, rfl, rfl, rfl⟩ rfl rfl rfl rfl rfl (by as_aux_lemma => kernel_rfl) Tryd.func3 (by as_aux_lemma => kernel_rfl)
    (of_decide_eq_true (by as_aux_lemma => kernel_rfl)) (by as_aux_lemma => (unfold Func.isWrapper; rw [if_neg (by as_aux_lemma => decide +kernel)]; exact ⟨rfl, rfl⟩))
    (fun os started H enc _ F => by rw [OpenClaim.pre_eq_preRow]; exact wholeLog_lifted os started H enc F)

theorem wholeLog_plain (f : FuncId) (fn : Func) (hf : Tryd.pinned.checked.prog.funcNamed "cursitor/cursitortop.WholeLog" = some f) (hfn : Tryd.pinned.checked.prog.funcs[f]? = some fn) :
    false = Tryd.pinned.checked.prog.looks [] ∧ ∀ (j : Nat) t, fn.params[j]? = some t → Tryd.pinned.checked.prog.wantsStandIn t = false := by
  obtain rfl : f = 3 := Option.some.inj ((show Tryd.prog.funcNamed "cursitor/cursitortop.WholeLog" = some 3 by as_aux_lemma => kernel_rfl).symm.trans hf) |>.symm
  obtain rfl : fn = Tryd.f3 := (Option.some.inj (Tryd.func3.symm.trans hfn)).symm
  refine ⟨by as_aux_lemma => kernel_rfl, fun j t ht => ?_⟩
  rw [Tryd.params3] at ht
  have hm : t ∈ [22] := by simpa using Array.mem_of_getElem? ht
  have hall : ([22].all fun u => !Tryd.prog.wantsStandIn u) = true := by as_aux_lemma => kernel_rfl
  exact (show Tryd.prog.wantsStandIn t = false by simpa using List.all_eq_true.1 hall t hm)

theorem wholeLogCard_holds : Rows.WholeLogCardSaid :=
  Claim7.holds_tied_plain_at .later [] _ _ _ _ wholeLog_said (fun _ h => by cases h) (by as_aux_lemma => kernel_rfl) (fun _ h => by cases h) wholeLog_row_tie rfl ⟨rfl, rfl⟩ (by as_aux_lemma => kernel_rfl) rfl wholeLog_plain (by as_aux_lemma => kernel_rfl)

end Go.Proofs.YtmpehoebgifmnaaDoor
