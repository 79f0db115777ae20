/- In the bytes of batches, with the ends of transactions between them, each end, and no other batch, is told as one: proved of every row of batches and every row of ends. -/
import Derived.Test.YtolndcljbjlacaaGreatGWholeMarkers9
import Derived.Test.YtolndcljbjlacaaGreatGWholeMarkers5
import Derived.Test.YtolndcljbjlacaaGreatGWholeMarkers8
import Derived.Test.YtolndcljbjlacaaGreatArgs
/- A text. -/
namespace Go.Proofs.YtolndcljbjlacaaGreat
open Go.RowKit

def QBat (W : World) (x : BatR) : Prop := (RowsOf (fun _ cs x => RRec cs x) (· < W.heap.size) W (.slice x.q x.l.length x.cap) 7 x.l ∧ ∀ y ∈ x.l, QRec W y) ∧ x.Fit
theorem QBat.fit {W : World} {l : List BatR} (h : ∀ x ∈ l, QBat W x) : ∀ x ∈ l, x.Fit := fun x hx => (h x hx).2
theorem QBat.start {W : World} {v : Value} {l : List BatR} (hr : RowsOf (fun _ cs x => RBat cs x) (· < W.heap.size) W v 12 l) (h : ∀ x ∈ l, QBat W x) : St W W (Know.bats v l) [] := St.start ⟨hr, fun x hx => ⟨(h x hx).1.1, fun y hy => ((h x hx).1.2 y hy).1⟩⟩
section
variable {H : Type} {enc : TypeId × Value → H} {w : World} {spare : Nat → Bool} {held : Bool}
theorem rbat_opens : ∀ n cs y, DataW.trod enc Tryz.prog w 0 spare held n 26 cs = some y → Light 26 y.1 → (∀ x ∈ y.2, x.block < w.heap.size) → ∃ x : BatR, RBat cs x ∧ QBat w x := by
 intro n cs y hf hl hN
 obtain ⟨base, leader, app, txn, ctl, last, first, maxt, prod, epoch, sq, l, rv, e, hR, hr, hq⟩ := bat_opens n cs y hf hl hN
 obtain ⟨q, cap, hrv⟩ : ∃ q cap, rv = .slice q l.length cap := by obtain ⟨p, cap, hv, _⟩ := hr; exact ⟨p, cap, hv⟩
 subst hrv
 exact ⟨⟨⟨base, leader, app, txn, ctl, last, first, maxt, prod, epoch, sq, l.map (·.1)⟩, l, q, cap⟩, e, ⟨hr, hq⟩, hR, fun x hx => (hq x hx).2, rfl⟩
end

end Go.Proofs.YtolndcljbjlacaaGreat
namespace Go.Proofs.YtolndcljbjlacaaGreat
open Go.RowKit

open Go.ChangeShapes Go.WideShapes Go.ChangeAt Go.Deep

theorem cells_end : Tryz.prog.cellsOf 35 = 5 := by kernel_rfl
theorem cells_intM : Tryz.prog.cellsOf 3 = 1 := by kernel_rfl
section
variable {H : Type} {enc : TypeId × Value → H} {w : World} {spare : Nat → Bool} {held : Bool}
set_option maxHeartbeats 1000000 in
set_option maxRecDepth 100000 in
theorem rend_opens : ∀ n cs y, DataW.trod enc Tryz.prog w 0 spare held n 35 cs = some y → Light 35 y.1 → (∀ x ∈ y.2, x.block < w.heap.size) → ∃ x : EndS, REnd cs x ∧ x.R := by
 intro n cs y hf hl hN
 obtain ⟨hc, m, hg⟩ := opens_field Tryz.underlying35 hf hl hN
 rw [cells_end] at hc
 match cs, hc with
 | [c0, c1, c2, c3, c4], _ =>
  obtain ⟨z0, g0, l0, n0⟩ := hg 0 _ rfl
  have g0 : DataW.trod enc Tryz.prog w 0 spare held m 3 (List.take (Tryz.prog.cellsOf 3) (List.drop 0 [c0, c1, c2, c3, c4])) = some z0 := g0
  rw [cells_intM] at g0
  obtain ⟨z1, g1, l1, n1⟩ := hg 1 _ rfl
  have g1 : DataW.trod enc Tryz.prog w 0 spare held m 3 (List.take (Tryz.prog.cellsOf 3) (List.drop 1 [c0, c1, c2, c3, c4])) = some z1 := g1
  rw [cells_intM] at g1
  obtain ⟨z2, g2, l2, n2⟩ := hg 2 _ rfl
  have g2 : DataW.trod enc Tryz.prog w 0 spare held m 3 (List.take (Tryz.prog.cellsOf 3) (List.drop 2 [c0, c1, c2, c3, c4])) = some z2 := g2
  rw [cells_intM] at g2
  obtain ⟨z3, g3, l3, n3⟩ := hg 3 _ rfl
  have g3 : DataW.trod enc Tryz.prog w 0 spare held m 3 (List.take (Tryz.prog.cellsOf 3) (List.drop 3 [c0, c1, c2, c3, c4])) = some z3 := g3
  rw [cells_intM] at g3
  obtain ⟨z4, g4, l4, n4⟩ := hg 4 _ rfl
  have g4 : DataW.trod enc Tryz.prog w 0 spare held m 3 (List.take (Tryz.prog.cellsOf 3) (List.drop 4 [c0, c1, c2, c3, c4])) = some z4 := g4
  rw [cells_intM] at g4
  obtain ⟨x0, e0, r0⟩ := opens_i64 Tryz.underlying3 g0
  obtain ⟨x1, e1, r1⟩ := opens_i64 Tryz.underlying3 g1
  obtain ⟨x2, e2, r2⟩ := opens_i64 Tryz.underlying3 g2
  obtain ⟨x3, e3, r3⟩ := opens_i64 Tryz.underlying3 g3
  obtain ⟨x4, e4, r4⟩ := opens_i64 Tryz.underlying3 g4
  simp at e0 e1 e2 e3 e4
  subst e0 e1 e2 e3 e4
  exact ⟨⟨x0, x1, x2, x3, x4⟩, rfl, r0, r1, r2, r3, r4⟩
end

end Go.Proofs.YtolndcljbjlacaaGreat
namespace Go.Proofs.YtolndcljbjlacaaGreat
open Go.RowKit

theorem St.twoM {W : World} {A B : Know} (ha : St W W A []) (hb : St W W B []) : St W W (A.and B) [] := by
 obtain ⟨F, a, fa⟩ := ha.get
 obtain ⟨G, b, gb⟩ := hb.get
 exact St.start ⟨A.mono _ _ _ a fa, B.mono _ _ _ b gb⟩
theorem wholeMarkers_any (l : List BatR) (v : Value) (ends : List EndS) (v5 : Value) (W : World) (hf : ∀ x ∈ l, x.Fit) (hre : ∀ x ∈ ends, x.R) (h1 : St W W (Know.bats v l) []) (hr5 : RowsOf (fun _ cs x => REnd cs x) (· < W.heap.size) W v5 5 ends) :
  Calls Tryz.prog 3 #[v, v5] W fun en w' => en = .returned (.bool true) ∧ Below W.heap.size W w' := by
 have h2 : St W W (Know.flat REnd v5 5 ends) [] := St.start hr5
 obtain ⟨q, cap, hv⟩ : ∃ q cap, v = .slice q l.length cap := by
  obtain ⟨F, hF, _⟩ := h1.get
  obtain ⟨q, cap, hv, _⟩ := hF.1.at
  exact ⟨q, cap, hv⟩
 obtain ⟨q5, cap5, hv5⟩ : ∃ q cap, v5 = .slice q ends.length cap := by obtain ⟨p, cap, hv, _⟩ := hr5; exact ⟨p, cap, hv⟩
 subst hv hv5
 have h := St.twoM h1 h2
 by_cases c : 6 < l.length ∨ 6 < ends.length
 · exact wm_long l ends q q5 cap cap5 c h
 · exact wm_main l ends q q5 cap cap5 hf hre (by omega) (by omega) (Know.has_left (Know.has_refl _)) (Know.has_right (Know.has_refl _)) h

end Go.Proofs.YtolndcljbjlacaaGreat
/- In the bytes of batches, with the ends of transactions between them, each end, and no other batch, is told as one: proved of every row of batches and every row of ends. -/
namespace Go.Proofs.YtolndcljbjlacaaGreat
open Go.ChangeShapes Go.WideShapes Go.ChangeAt Go.ChangeMaps Go.RowKit

set_option maxRecDepth 100000 in
theorem wholeMarkers_lifted (os : Os) (started : os.Started) (H : Type) (enc : TypeId × Value → H) :
  ReturnsInHanded {} Tryz.checked os 3 .any (Rows.wholeMarkersSpec.pre6 enc Tryz.prog Tryz.f3 Rows.wholeMarkersRow.domain false) (Rows.wholeMarkersSpec.post enc Tryz.prog Tryz.f3 false true false false) := by
 refine returnsInHanded_of_change_sized (C := Tryz.checked) Tryz.own started (by as_aux_lemma => kernel_rfl) Tryz.func3
  (ChangeSpec.witness6 (enc := enc) (C := Tryz.checked) false ⟨#[], #[.slice none 0 0, .slice none 0 0], []⟩ 8 (by as_aux_lemma => kernel_rfl) (by as_aux_lemma => kernel_rfl) (by as_aux_lemma => kernel_rfl) (by as_aux_lemma => kernel_rfl)) ?_
 intro W base args ds gs before hval0 hW hcnd hsz0 _
 have hval : ∀ (j : Nat) t v, Tryz.f3.params[j]? = some t → args[j]? = some v → Value.okWide Tryz.prog W .any base t v := hval0
 clear hval0
 refine law_contract (n := 2) (tb := 4) rfl rfl rfl Tryz.underlying4 (by intro ds h; match ds, h with | [d0, d1], _ => rfl) (by as_aux_lemma => kernel_rfl) hW ?_
 intro p hA0 hlt
 have hA : DataW.TrodAll enc Tryz.prog W 0 (fun _ => true) true Tryz.f3.params.toList args.toList ds p := hA0
 clear hA0
 rw [Tryz.params3] at hA hval
 obtain ⟨v0, v1, d0, d1, p0, p1, rfl, rfl, rfl, h0, h1⟩ := trodAll_two hA
 have hsz : (DataW.weightsEach Tryz.prog (Tryz.f3.params.toList ++ Rows.wholeMarkersSpec.plain.varTypes Tryz.prog) ([d0, d1] ++ gs)).all (· ≤ reachBytes) = true := hsz0
 rw [Tryz.params3] at hsz
 obtain ⟨c0, e0, k0, rfl⟩ := okWide_slice Tryz.underlying22 (hval 0 22 v0 rfl rfl)
 have lg0 : Light 22 d0 := light_arg hsz (j := 0) rfl rfl
 obtain ⟨fuel0, hf0⟩ := h0
 obtain ⟨w0, l0, hw0, hrq0, hbl0, hl0⟩ := opens_rows (R := fun w cs x => (fun _ cs x => RBat cs x) w cs x ∧ QBat W x) (N := W.heap.size) Tryz.underlying22 cells_bat (by decide) rbat_opens hf0 lg0 (fun y hy => hlt y (by simp [hy])) (Nat.le_refl _)
 obtain ⟨hr0, hq0⟩ := hrq0.part
 obtain rfl : w0 = Value.slice c0 e0 k0 := by simpa [Value.cells] using hw0.symm
 obtain ⟨c1, e1, k1, rfl⟩ := okWide_slice Tryz.underlying23 (hval 1 23 v1 rfl rfl)
 have lg1 : Light 23 d1 := light_arg hsz (j := 1) rfl rfl
 obtain ⟨fuel1, hf1⟩ := h1
 obtain ⟨w1, l1, hw1, hrq1, hbl1, hl1⟩ := opens_rows (R := fun w cs x => (fun _ cs x => REnd cs x) w cs x ∧ (fun x : EndS => x.R) x) (N := W.heap.size) Tryz.underlying23 cells_end (by decide) rend_opens hf1 lg1 (fun y hy => hlt y (by simp [hy])) (Nat.le_refl _)
 obtain ⟨hr1, hq1⟩ := hrq1.part
 obtain rfl : w1 = Value.slice c1 e1 k1 := by simpa [Value.cells] using hw1.symm
 exact wholeMarkers_any l0 _ l1 _ W (QBat.fit hq0) hq1 (QBat.start hr0 hq0) hr1

theorem wholeMarkers_holds : Rows.WholeMarkersSaid :=
 OpenClaim.holds_of_wide 3 Tryz.f3 rfl rfl rfl rfl rfl rfl rfl ⟨rfl, rfl, rfl, rfl, rfl⟩ rfl rfl rfl rfl rfl (by as_aux_lemma => kernel_rfl) Tryz.func3 (by as_aux_lemma => kernel_rfl)
  (of_decide_eq_true (by as_aux_lemma => kernel_rfl)) (by as_aux_lemma => (unfold Func.isWrapper; rw [if_neg (by as_aux_lemma => decide +kernel)]; exact ⟨rfl, rfl⟩))
  (fun os started H enc _ => wholeMarkers_lifted os started H enc)

end Go.Proofs.YtolndcljbjlacaaGreat
