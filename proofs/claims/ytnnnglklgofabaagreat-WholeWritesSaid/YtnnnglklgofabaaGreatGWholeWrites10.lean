/- In the bytes of a request that writes batches the bytes of all batches of each partition stand, one behind the other, and a request that marks ends has bytes just if it may be: proved of every request and every row of marks. -/
import Derived.Test.YtnnnglklgofabaaGreatGWholeWrites9
import Derived.Test.YtnnnglklgofabaaGreatGWholeWrites4
import Derived.Test.YtnnnglklgofabaaGreatGWholeWrites7
import Derived.RegionTactic
import Derived.Deep.RegionHeld3
import Derived.Deep.DeepCutAuto
import Derived.WalkMore
import Derived.Test.YtnnnglklgofabaaGreatArgs
import Derived.HandedShaped
/- A text. -/
namespace Go.Proofs.YtnnnglklgofabaaGreat
open Go.RowKit

def QBat (W : World) (x : BatR) : Prop := (RowsOf (fun _ cs x => RRec cs x) (· < W.heap.size) W (.slice x.q x.l.length x.cap) 7 x.l ∧ ∀ y ∈ x.l, QRec W y) ∧ x.Fit
theorem QBat.fit {W : World} {l : List BatR} (h : ∀ x ∈ l, QBat W x) : ∀ x ∈ l, x.Fit := fun x hx => (h x hx).2
theorem QBat.start {W : World} {v : Value} {l : List BatR} (hr : RowsOf (fun _ cs x => RBat cs x) (· < W.heap.size) W v 12 l) (h : ∀ x ∈ l, QBat W x) : St W W (Know.bats v l) [] := St.start ⟨hr, fun x hx => ⟨(h x hx).1.1, fun y hy => ((h x hx).1.2 y hy).1⟩⟩
section
variable {H : Type} {enc : TypeId × Value → H} {w : World} {spare : Nat → Bool} {held : Bool}
theorem rbat_opens : ∀ n cs y, DataW.trod enc Tryz.prog w 0 spare held n 58 cs = some y → Light 58 y.1 → (∀ x ∈ y.2, x.block < w.heap.size) → ∃ x : BatR, RBat cs x ∧ QBat w x := by
 intro n cs y hf hl hN; obtain ⟨base, leader, app, txn, ctl, last, first, maxt, prod, epoch, sq, l, rv, e, hR, hr, hq⟩ := bat_opens n cs y hf hl hN; obtain ⟨q, cap, hrv⟩ : ∃ q cap, rv = .slice q l.length cap := by obtain ⟨p, cap, hv, _⟩ := hr; exact ⟨p, cap, hv⟩
 subst hrv; exact ⟨⟨⟨base, leader, app, txn, ctl, last, first, maxt, prod, epoch, sq, l.map (·.1)⟩, l, q, cap⟩, e, ⟨hr, hq⟩, hR, fun x hx => (hq x hx).2, rfl⟩
end

end Go.Proofs.YtnnnglklgofabaaGreat
namespace Go.Proofs.YtnnnglklgofabaaGreat
open Go.RowKit

open Go.ChangeShapes Go.WideShapes Go.ChangeAt Go.Deep

theorem cells_pPart : Tryz.prog.cellsOf 68 = 2 := by kernel_rfl
theorem cells_pTop : Tryz.prog.cellsOf 65 = 2 := by kernel_rfl
theorem cells_pReq : Tryz.prog.cellsOf 26 = 5 := by kernel_rfl
theorem cells_pParts : Tryz.prog.cellsOf 63 = 1 := by kernel_rfl
theorem cells_pTops : Tryz.prog.cellsOf 24 = 1 := by kernel_rfl
theorem cells_pBats : Tryz.prog.cellsOf 66 = 1 := by kernel_rfl
theorem cells_pInt : Tryz.prog.cellsOf 3 = 1 := by kernel_rfl
theorem cells_pStr : Tryz.prog.cellsOf 9 = 1 := by kernel_rfl
theorem cells_pBlob : Tryz.prog.cellsOf 23 = 2 := by kernel_rfl
theorem cells_pBat : Tryz.prog.cellsOf 58 = 12 := by kernel_rfl
theorem bytes_pPart : Tryz.prog.bytesOf 68 = 32 := by kernel_rfl
theorem bytes_pTop : Tryz.prog.bytesOf 65 = 40 := by kernel_rfl
theorem bytes_pBat : Tryz.prog.bytesOf 58 = 96 := by kernel_rfl
def QPart (W : World) (x : PartR) : Prop := (RowsOf (fun _ cs x => RBat cs x) (· < W.heap.size) W (.slice x.q x.l.length x.cap) 12 x.l ∧ ∀ y ∈ x.l, QBat W y) ∧ x.l.length ≤ 1466015503701 ∧ (-9223372036854775808 ≤ x.idx ∧ x.idx < 9223372036854775808)
def QPTop (W : World) (x : PTop) : Prop := (RowsOf (fun _ cs x => RPart cs x) (· < W.heap.size) W (.slice x.q x.l.length x.cap) 2 x.l ∧ ∀ y ∈ x.l, QPart W y) ∧ x.l.length ≤ 4398046510976 ∧ x.name.length ≤ 140737488351232
theorem QPTop.start {W : World} {v : Value} {l : List PTop} (hr : RowsOf (fun _ cs x => RPTop cs x) (· < W.heap.size) W v 2 l) (h : ∀ x ∈ l, QPTop W x) : St W W (Know.ptops v l) [] :=
 St.start ⟨hr, fun x hx => ⟨(h x hx).1.1, fun y hy => ⟨((h x hx).1.2 y hy).1.1, fun z hz => ⟨(((h x hx).1.2 y hy).1.2 z hz).1.1, fun r hr => ((((h x hx).1.2 y hy).1.2 z hz).1.2 r hr).1⟩⟩⟩⟩
section
variable {H : Type} {enc : TypeId × Value → H} {w : World} {spare : Nat → Bool} {held : Bool}
set_option maxHeartbeats 2000000 in
set_option maxRecDepth 100000 in
theorem rpart_opens : ∀ n cs y, DataW.trod enc Tryz.prog w 0 spare held n 68 cs = some y → Light 68 y.1 → (∀ x ∈ y.2, x.block < w.heap.size) → ∃ x : PartR, RPart cs x ∧ QPart w x := by
 intro n cs y hf hl hN; obtain ⟨hc, m, hg⟩ := opens_field Tryz.underlying68 hf hl hN; rw [cells_pPart] at hc
 match cs, hc with
 | [c0, c1], _ =>
  obtain ⟨z0, g0, l0, n0⟩ := hg 0 _ rfl; have g0 : DataW.trod enc Tryz.prog w 0 spare held m 3 (List.take (Tryz.prog.cellsOf 3) (List.drop 0 [c0, c1])) = some z0 := g0; rw [cells_pInt] at g0; obtain ⟨z1, g1, l1, n1⟩ := hg 1 _ rfl; have g1 : DataW.trod enc Tryz.prog w 0 spare held m 66 (List.take (Tryz.prog.cellsOf 66) (List.drop 1 [c0, c1])) = some z1 := g1; rw [cells_pBats] at g1; obtain ⟨x0, e0, r0⟩ := opens_i64 Tryz.underlying3 g0; obtain ⟨v1, x1, e1, hrq, hm1, _⟩ := opens_rows (R := fun w' cs x => (fun _ cs x => RBat cs x) w' cs x ∧ QBat w x) (N := w.heap.size) Tryz.underlying66 cells_pBat (by decide) rbat_opens g1 l1 n1 (Nat.le_refl _); obtain ⟨hr, hq⟩ := hrq.part; simp at e0 e1; subst e0 e1; rw [bytes_pBat] at hm1; obtain ⟨q, cap, hrv⟩ : ∃ q cap, _ = Value.slice q x1.length cap := by obtain ⟨p, cap, hv, _⟩ := hr; exact ⟨p, cap, hv⟩
  subst hrv; exact ⟨⟨x0, x1, q, cap⟩, rfl, ⟨hr, hq⟩, (by show x1.length ≤ 1466015503701; omega), r0⟩
set_option maxHeartbeats 2000000 in
set_option maxRecDepth 100000 in
theorem rptop_opens : ∀ n cs y, DataW.trod enc Tryz.prog w 0 spare held n 65 cs = some y → Light 65 y.1 → (∀ x ∈ y.2, x.block < w.heap.size) → ∃ x : PTop, RPTop cs x ∧ QPTop w x := by
 intro n cs y hf hl hN; obtain ⟨hc, m, hg⟩ := opens_field Tryz.underlying65 hf hl hN; rw [cells_pTop] at hc
 match cs, hc with
 | [c0, c1], _ =>
  obtain ⟨z0, g0, l0, n0⟩ := hg 0 _ rfl; have g0 : DataW.trod enc Tryz.prog w 0 spare held m 9 (List.take (Tryz.prog.cellsOf 9) (List.drop 0 [c0, c1])) = some z0 := g0; rw [cells_pStr] at g0; obtain ⟨z1, g1, l1, n1⟩ := hg 1 _ rfl; have g1 : DataW.trod enc Tryz.prog w 0 spare held m 63 (List.take (Tryz.prog.cellsOf 63) (List.drop 1 [c0, c1])) = some z1 := g1; rw [cells_pParts] at g1; obtain ⟨x0, e0, s0⟩ := opens_str Tryz.underlying9 g0 l0; obtain ⟨v1, x1, e1, hrq, hm1, _⟩ := opens_rows (R := fun w' cs x => (fun _ cs x => RPart cs x) w' cs x ∧ QPart w x) (N := w.heap.size) Tryz.underlying63 cells_pPart (by decide) rpart_opens g1 l1 n1 (Nat.le_refl _); obtain ⟨hr, hq⟩ := hrq.part; simp at e0 e1; subst e0 e1; rw [bytes_pPart] at hm1; obtain ⟨q, cap, hrv⟩ : ∃ q cap, _ = Value.slice q x1.length cap := by obtain ⟨p, cap, hv, _⟩ := hr; exact ⟨p, cap, hv⟩
  subst hrv; exact ⟨⟨x0, x1, q, cap⟩, rfl, ⟨hr, hq⟩, (by show x1.length ≤ 4398046510976; omega), s0⟩
set_option maxHeartbeats 2000000 in
set_option maxRecDepth 100000 in
theorem preq_opens : ∀ n cs y, DataW.trod enc Tryz.prog w 0 spare held n 26 cs = some y → Light 26 y.1 → (∀ x ∈ y.2, x.block < w.heap.size) →
    ∃ (nl : Bool) (dd : Bs) (ac tm : Int) (l : List PTop) (rv : Value), cs = [.bool nl, .string (bb dd), .int .i64 ac, .int .i64 tm, rv] ∧ dd.length ≤ 140737488351232 ∧ (-9223372036854775808 ≤ ac ∧ ac < 9223372036854775808) ∧ (-9223372036854775808 ≤ tm ∧ tm < 9223372036854775808) ∧ RowsOf (fun _ cs x => RPTop cs x) (· < w.heap.size) w rv 2 l ∧ l.length ≤ 3518437208780 ∧ (∀ x ∈ l, QPTop w x) := by
  intro n cs y hf hl hN; obtain ⟨hc, m, hg⟩ := opens_field Tryz.underlying26 hf hl hN; rw [cells_pReq] at hc
  match cs, hc with
  | [c0, c1, c2, c3, c4], _ =>
    obtain ⟨z0, g0, l0, n0⟩ := hg 0 _ rfl; have g0 : DataW.trod enc Tryz.prog w 0 spare held m 23 (List.take (Tryz.prog.cellsOf 23) (List.drop 0 [c0, c1, c2, c3, c4])) = some z0 := g0; rw [cells_pBlob] at g0; obtain ⟨z1, g1, l1, n1⟩ := hg 1 _ rfl; have g1 : DataW.trod enc Tryz.prog w 0 spare held m 3 (List.take (Tryz.prog.cellsOf 3) (List.drop 2 [c0, c1, c2, c3, c4])) = some z1 := g1; rw [cells_pInt] at g1; obtain ⟨z2, g2, l2, n2⟩ := hg 2 _ rfl; have g2 : DataW.trod enc Tryz.prog w 0 spare held m 3 (List.take (Tryz.prog.cellsOf 3) (List.drop 3 [c0, c1, c2, c3, c4])) = some z2 := g2; rw [cells_pInt] at g2; obtain ⟨z3, g3, l3, n3⟩ := hg 3 _ rfl; have g3 : DataW.trod enc Tryz.prog w 0 spare held m 24 (List.take (Tryz.prog.cellsOf 24) (List.drop 4 [c0, c1, c2, c3, c4])) = some z3 := g3; rw [cells_pTops] at g3; obtain ⟨x0, e0, s0⟩ := blob_opens _ _ _ g0 l0 n0; obtain ⟨x1, e1, r1⟩ := opens_i64 Tryz.underlying3 g1; obtain ⟨x2, e2, r2⟩ := opens_i64 Tryz.underlying3 g2; obtain ⟨v3, x3, e3, hrq, hm3, _⟩ := opens_rows (R := fun w' cs x => (fun _ cs x => RPTop cs x) w' cs x ∧ QPTop w x) (N := w.heap.size) Tryz.underlying24 cells_pTop (by decide) rptop_opens g3 l3 n3 (Nat.le_refl _); obtain ⟨hr, hq⟩ := hrq.part; simp at e0 e1 e2 e3; obtain ⟨e0a, e0b⟩ := e0; subst e0a e0b e1 e2 e3; rw [bytes_pTop] at hm3; exact ⟨x0.null, x0.data, x1, x2, x3, _, rfl, s0, r1, r2, hr, by omega, hq⟩
set_option maxHeartbeats 2000000 in
set_option maxRecDepth 100000 in
theorem preq_open {r : Reach} {b0 : Nat} {v : Value} {d : DataW H} {p : List MemPlace} (hv : Value.okWide Tryz.prog w r b0 26 v) (h : DataW.Trod enc Tryz.prog w 0 spare held 26 v d p) (hl : Light 26 d) (hN : ∀ x ∈ p, x.block < w.heap.size) :
  ∃ (nl : Bool) (dd : Bs) (ac tm : Int) (l : List PTop) (q : Option Addr) (cap : Nat), v = .agg #[.bool nl, .string (bb dd), .int .i64 ac, .int .i64 tm, .slice q l.length cap] ∧ dd.length ≤ 140737488351232 ∧ (-9223372036854775808 ≤ ac ∧ ac < 9223372036854775808) ∧ (-9223372036854775808 ≤ tm ∧ tm < 9223372036854775808) ∧ l.length ≤ 3518437208780 ∧ (∀ x ∈ l, QPTop w x) ∧ St w w (Know.ptops (.slice q l.length cap) l) [] := by
 obtain ⟨cs, rfl, hsz⟩ := okWide_struct Tryz.underlying26 hv; obtain ⟨fuel, hf⟩ := h; obtain ⟨nl, dd, ac, tm, l, rv, ec, hdd, r1, r2, hr, hm, hq⟩ := preq_opens _ _ _ hf hl hN; obtain ⟨c⟩ := cs; have ec : c = _ := ec; subst ec; obtain ⟨q, cap, hrv⟩ : ∃ q cap, rv = .slice q l.length cap := by obtain ⟨p, cap, hv, _⟩ := hr; exact ⟨p, cap, hv⟩
 subst hrv; exact ⟨nl, dd, ac, tm, l, q, cap, rfl, hdd, r1, r2, hm, hq, QPTop.start hr hq⟩
end

end Go.Proofs.YtnnnglklgofabaaGreat
namespace Go.Proofs.YtnnnglklgofabaaGreat
open Go.RowKit

theorem fewT20_of {W : World} {l : List PTop} (h : ∀ x ∈ l, QPTop W x) : ∀ x ∈ l, FewT20 x := fun x hx =>
  ⟨(h x hx).2.2, Nat.le_trans (h x hx).2.1 (by decide), fun y hy => ⟨((h x hx).1.2 y hy).2.1, fun z hz => (((h x hx).1.2 y hy).1.2 z hz).2⟩⟩
end Go.Proofs.YtnnnglklgofabaaGreat
namespace Go.Proofs.YtnnnglklgofabaaGreat
open Go.RowKit

theorem St.twoWw {W : World} {A B : Know} (ha : St W W A []) (hb : St W W B []) : St W W (A.and B) [] := by
 obtain ⟨F, a, fa⟩ := ha.get; obtain ⟨G, b, gb⟩ := hb.get; exact St.start ⟨A.mono _ _ _ a fa, B.mono _ _ _ b gb⟩
theorem fewMs_01w (l : List MarkS) : fewMs l = 0 ∨ fewMs l = 1 := by
 unfold fewMs
 by_cases h : 20 < l.length
 · exact .inl (if_pos h)
 · rw [if_neg h]
   induction l with
   | nil => exact .inr rfl
   | cons x t ih =>
    rw [fewG_cons]
    by_cases hx : few x.tops = 0
    · exact .inl (if_pos hx)
    · rw [if_neg hx]; exact ih (by rw [List.length_cons] at h; omega)
theorem maxLen_known {W : World} (h : W.ShapedOpen Tryz.prog) : St W W Know.maxLen [] := by
 obtain ⟨m, hm⟩ := maxLen_start h; refine St.start ⟨?_, m, hm⟩
 by_cases hl : 0 < W.heap.size
 · exact hl
 · unfold World.cell? at hm; rw [Array.getElem?_eq_none (by omega)] at hm
   cases hm
theorem wholeWrites_any (nl : Bool) (dd : Bs) (ac tm : Int) (l : List PTop) (q : Option Addr) (cap : Nat) (lm : List MarkR) (v2 : Value) (W : World) (hd1 : dd.length ≤ 140737488351232) (hl1 : l.length ≤ 3518437208780) (hq1 : ∀ x ∈ l, QPTop W x) (hs1 : St W W (Know.ptops (.slice q l.length cap) l) []) (hbl : lm.length * Tryz.prog.bytesOf 112 ≤ 140737488351232) (hr : RowsOf (fun _ cs x => RMark cs x) (· < W.heap.size) W v2 5 lm) (hq : ∀ x ∈ lm, QMark W x) (hsh : W.ShapedOpen Tryz.prog) :
  Calls Tryz.prog 5 #[.agg #[.bool nl, .string (bb dd), .int .i64 ac, .int .i64 tm, .slice q l.length cap], v2] W fun en w' => en = .returned (.bool true) ∧ Below W.heap.size W w' := by
 have h := QMark.start hr hq; obtain ⟨q2, cap2, hv, _⟩ := hr; subst hv; rw [bytes_mark] at hbl
 have hb : ∀ x ∈ lm, x.l.map (·.1) = x.m.tops ∧ x.l.length ≤ 140737488351232 ∧ ∀ y ∈ x.l, y.1.name.length ≤ 140737488351232 ∧ y.1.parts.length ≤ 17592186043904 := fun x hx => by
  obtain ⟨_, h1, h2, _⟩ := hq x hx; exact ⟨h1, h2.1, fun y hy => ⟨(h2.2 y hy).1, (h2.2 y hy).2.1⟩⟩
 have hst := St.twoWw (St.twoWw hs1 h) (maxLen_known hsh); have k1 : ((Know.ptops (.slice q l.length cap) l).and (Know.marks (.slice q2 lm.length cap2) lm) |>.and Know.maxLen).has (Know.ptops (.slice q l.length cap) l) := Know.has_left (Know.has_left (Know.has_refl _)); have k2 : ((Know.ptops (.slice q l.length cap) l).and (Know.marks (.slice q2 lm.length cap2) lm) |>.and Know.maxLen).has (Know.marks (.slice q2 lm.length cap2) lm) := Know.has_left (Know.has_right (Know.has_refl _)); have k3 : ((Know.ptops (.slice q l.length cap) l).and (Know.marks (.slice q2 lm.length cap2) lm) |>.and Know.maxLen).has Know.maxLen := Know.has_right (Know.has_refl _)
 rcases fewMs_01w (lm.map MarkR.m) with hw | hw
 · exact ww_few0 nl dd ac tm l q cap lm q2 cap2 _ rfl hd1 hl1 (fewT20_of hq1) (by omega) hb (fun x hx => (hq x hx).2.2.2) k1 k2 k3 hst hw
 · exact ww_main nl dd ac tm l q cap lm q2 cap2 _ rfl hd1 hl1 (fewT20_of hq1) (by omega) hb (fun x hx => (hq x hx).2.2.2) k1 k2 k3 hst hw _ rfl

end Go.Proofs.YtnnnglklgofabaaGreat
/- In the bytes of a request that writes batches the bytes of all batches of each partition stand, one behind the other, and a request that marks ends has bytes just if it may be: proved of every request and every row of marks. -/
namespace Go.Proofs.YtnnnglklgofabaaGreat
open Go.ChangeShapes Go.WideShapes Go.ChangeAt Go.ChangeMaps Go.RowKit

set_option maxRecDepth 100000 in
theorem wholeWrites_lifted (os : Os) (started : os.Started) (H : Type) (enc : TypeId × Value → H) :
  ReturnsInHanded {} Tryz.checked os 5 .any (Rows.wholeWritesSpec.pre6 enc Tryz.prog Tryz.f5 Rows.wholeWritesRow.domain false) (Rows.wholeWritesSpec.post enc Tryz.prog Tryz.f5 false true false false) := by
 refine returnsInHanded_of_change_shaped (C := Tryz.checked) Tryz.own started (by as_aux_lemma => kernel_rfl) Tryz.func5
  (ChangeSpec.witness6 (enc := enc) (C := Tryz.checked) false ⟨#[], #[.agg #[.bool false, .string ⟨#[]⟩, .int .i64 0, .int .i64 0, .slice none 0 0], .slice none 0 0], []⟩ 8 (by as_aux_lemma => kernel_rfl) (by as_aux_lemma => kernel_rfl) (by as_aux_lemma => kernel_rfl) (by as_aux_lemma => kernel_rfl)) ?_
 intro W base args ds gs before hval0 hW hcnd hsz0 hshp _; have hval : ∀ (j : Nat) t v, Tryz.f5.params[j]? = some t → args[j]? = some v → Value.okWide Tryz.prog W .any base t v := hval0; clear hval0; refine law_contract (n := 2) (tb := 4) rfl rfl rfl Tryz.underlying4 (by intro ds h; match ds, h with | [d0, d1], _ => rfl) (by as_aux_lemma => kernel_rfl) hW ?_; intro p hA0 hlt; have hA : DataW.TrodAll enc Tryz.prog W 0 (fun _ => true) true Tryz.f5.params.toList args.toList ds p := hA0; clear hA0; rw [Tryz.params5] at hA hval; obtain ⟨v0, v1, d0, d1, p0, p1, rfl, rfl, rfl, h0, h1⟩ := trodAll_two hA; have hsz : (DataW.weightsEach Tryz.prog (Tryz.f5.params.toList ++ Rows.wholeWritesSpec.plain.varTypes Tryz.prog) ([d0, d1] ++ gs)).all (· ≤ reachBytes) = true := hsz0; rw [Tryz.params5] at hsz; have lg0 : Light 26 d0 := light_arg hsz (j := 0) rfl rfl; obtain ⟨nl0, dd0, ac0, tm0, l0, q0, cap0, rfl, hd0, ra0, rt0, hl0, hq0, hs0⟩ := preq_open (hval 0 26 v0 rfl rfl) h0 lg0 (fun y hy => hlt y (by simp [hy])); obtain ⟨c1, e1, k1, rfl⟩ := okWide_slice Tryz.underlying55 (hval 1 55 v1 rfl rfl); have lg1 : Light 55 d1 := light_arg hsz (j := 1) rfl rfl; obtain ⟨fuel1, hf1⟩ := h1; obtain ⟨w1, l1, hw1, hrq1, hbl1, hl1⟩ := opens_rows (R := fun w cs x => (fun _ cs x => RMark cs x) w cs x ∧ QMark W x) (N := W.heap.size) Tryz.underlying55 cells_mark (by decide) rmark_opens hf1 lg1 (fun y hy => hlt y (by simp [hy])) (Nat.le_refl _); obtain ⟨hr1, hq1⟩ := hrq1.part; obtain rfl : w1 = Value.slice c1 e1 k1 := by simpa [Value.cells] using hw1.symm
 exact wholeWrites_any nl0 dd0 ac0 tm0 l0 q0 cap0 l1 _ W hd0 hl0 hq0 hs0 hbl1 hr1 hq1 hshp

theorem wholeWrites_holds : Rows.WholeWritesSaid :=
 OpenClaim.holds_of_wide 5 Tryz.f5 rfl rfl rfl rfl rfl rfl rfl ⟨rfl, rfl, rfl, rfl, rfl⟩ rfl rfl rfl rfl rfl (by as_aux_lemma => kernel_rfl) Tryz.func5 (by as_aux_lemma => kernel_rfl)
  (of_decide_eq_true (by as_aux_lemma => kernel_rfl)) (by as_aux_lemma => (unfold Func.isWrapper; rw [if_neg (by as_aux_lemma => decide +kernel)]; exact ⟨rfl, rfl⟩))
  (fun os started H enc _ => wholeWrites_lifted os started H enc)

end Go.Proofs.YtnnnglklgofabaaGreat
