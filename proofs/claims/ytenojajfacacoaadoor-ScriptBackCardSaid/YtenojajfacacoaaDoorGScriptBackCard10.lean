/- A script that can be told, as a text, is the document's, and is read as it: proved of every script, the library's own variables as the program lays them. -/
import Derived.Test.YtenojajfacacoaaDoorGScriptBackCard9
import Derived.Lib.SmallJoins
import Derived.Test.YtenojajfacacoaaDoorArgs
import Derived.Test.YtenojajfacacoaaDoorGScriptBackCard2
import Derived.Test.YtenojajfacacoaaDoorGScriptBackCard5
import Derived.Test.YtenojajfacacoaaDoorSc4
import Derived.Test.YtenojajfacacoaaDoorGScriptBackCard8
import Derived.Test.YtenojajfacacoaaDoorGScriptBackCard7
import Derived.Test.YtenojajfacacoaaDoorRegOp
import Derived.RegionTactic
import Derived.WalkMore
import Derived.Deep.RegionHeld3
import Derived.Deep.DeepCutAuto
import Derived.Test.YtenojajfacacoaaDoorCards
import Derived.Test.YtenojajfacacoaaDoorLaw
import Derived.OpenShut
import Derived.MakeChecks
import Derived.LaidMore
import Derived.Lib.LaidTab
import Derived.Stop.LaidErr
import Derived.Test.YtenojajfacacoaaDoorTie
import Derived.Deep.DeepHandedRow
import Derived.SevenTiedAt
/- The elements of arguments, opened, with their reach: a record. -/
namespace Go.Proofs.YtenojajfacacoaaDoor
open Go.Joins Go.RowKit
open Go.ChangeShapes Go.WideShapes Go.ChangeAt Go.Deep

theorem cells_rec : Tryd.prog.cellsOf 51 = 7 := by kernel_rfl
theorem cells_hdrs : Tryd.prog.cellsOf 49 = 1 := by kernel_rfl
section
variable {H : Type} {enc : TypeId × Value → H} {w : World} {spare : Nat → Bool} {held : Bool}
set_option maxHeartbeats 1000000 in
set_option maxRecDepth 100000 in
theorem rec_open {r : Reach} {b0 N : Nat} {v : Value} {d : DataW H} {p : List MemPlace} (hv : Value.okWide Tryd.prog w r b0 51 v) (h : DataW.Trod enc Tryd.prog w 0 spare held 51 v d p) (hl : Light 51 d) (hN : ∀ x ∈ p, x.block < N) (hNw : N ≤ w.heap.size) :
    ∃ (x : RecS) (v6 : Value), v = .agg #[.int .i64 x.time, .int .i64 x.off, .bool x.key.null, .string (bb x.key.data), .bool x.val.null, .string (bb x.val.data), v6] ∧ x.R ∧ RowsOf (fun _ cs x => RHdr cs x) (· < N) w v6 3 x.hdrs ∧ x.hdrs.length ≤ maxLen ∧ HFit x.hdrs ∧ x.key.data.length ≤ 140737488351232 ∧ x.val.data.length ≤ 140737488351232 := by
  obtain ⟨cs, rfl, hsz⟩ := okWide_struct Tryd.underlying51 hv
  obtain ⟨l⟩ := cs
  match l, hsz.trans cells_rec with
  | [c0, c1, c2, c3, c4, c5, c6], _ =>
    obtain ⟨fuel, hf⟩ := h
    obtain ⟨hc, m, hg⟩ := opens_field Tryd.underlying51 hf hl hN
    obtain ⟨z0, g0, l0, n0⟩ := hg 0 _ rfl
    have g0 : DataW.trod enc Tryd.prog w 0 spare held m 3 (List.take (Tryd.prog.cellsOf 3) (List.drop 0 [c0, c1, c2, c3, c4, c5, c6])) = some z0 := g0
    rw [cells_int] at g0
    obtain ⟨z1, g1, l1, n1⟩ := hg 1 _ rfl
    have g1 : DataW.trod enc Tryd.prog w 0 spare held m 3 (List.take (Tryd.prog.cellsOf 3) (List.drop 1 [c0, c1, c2, c3, c4, c5, c6])) = some z1 := g1
    rw [cells_int] at g1
    obtain ⟨z2, g2, l2, n2⟩ := hg 2 _ rfl
    have g2 : DataW.trod enc Tryd.prog w 0 spare held m 48 (List.take (Tryd.prog.cellsOf 48) (List.drop 2 [c0, c1, c2, c3, c4, c5, c6])) = some z2 := g2
    rw [cells_blob] at g2
    obtain ⟨z3, g3, l3, n3⟩ := hg 3 _ rfl
    have g3 : DataW.trod enc Tryd.prog w 0 spare held m 48 (List.take (Tryd.prog.cellsOf 48) (List.drop 4 [c0, c1, c2, c3, c4, c5, c6])) = some z3 := g3
    rw [cells_blob] at g3
    obtain ⟨z4, g4, l4, n4⟩ := hg 4 _ rfl
    have g4 : DataW.trod enc Tryd.prog w 0 spare held m 49 (List.take (Tryd.prog.cellsOf 49) (List.drop 6 [c0, c1, c2, c3, c4, c5, c6])) = some z4 := g4
    rw [cells_hdrs] at g4
    obtain ⟨x0, e0, r0⟩ := opens_i64 Tryd.underlying3 g0
    obtain ⟨x1, e1, r1⟩ := opens_i64 Tryd.underlying3 g1
    obtain ⟨x2, e2, s2⟩ := blob_opens _ _ _ g2 l2 n2
    obtain ⟨x3, e3, s3⟩ := blob_opens _ _ _ g3 l3 n3
    obtain ⟨v6, x4, e4, hr, _, hm⟩ := opens_rows (R := fun w cs x => (fun _ cs x => RHdr cs x) w cs x ∧ (fun x : HdrS => x.key.length ≤ 140737488351232 ∧ x.val.data.length ≤ 140737488351232) x) (N := N) Tryd.underlying49 cells_hdr (by decide) rhdr_opens g4 l4 n4 hNw
    obtain ⟨hr1, hq⟩ := hr.part
    simp at e0 e1 e2 e3 e4
    obtain ⟨e2a, e2b⟩ := e2
    obtain ⟨e3a, e3b⟩ := e3
    subst e0 e1 e2a e2b e3a e3b e4
    exact ⟨⟨x0, x1, x2, x3, x4⟩, _, rfl, ⟨r0, r1⟩, hr1, hm, hq, s2, s3⟩
end
end Go.Proofs.YtenojajfacacoaaDoor
/- Layer 7, walked: RecordRows: what it stands on. -/
namespace Go.Proofs.YtenojajfacacoaaDoor
open Go.RowKit

def GoodR (l : List (RecS × Value)) : Prop := ∀ x ∈ l, smallR x.1 = 1 ∧ recOk x.1 = 0
theorem GoodR.nil : GoodR [] := fun _ h => by cases h
theorem GoodR.snoc {l : List (RecS × Value)} {k : Nat} (h : GoodR (l.take k)) (hk : k < l.length) (h1 : smallR l[k].1 = 1) (h2 : recOk l[k].1 = 0) : GoodR (l.take (k + 1)) := by
  intro x hx
  rw [List.take_succ_eq_append_getElem hk] at hx
  rcases List.mem_append.1 hx with hx | hx
  · exact h x hx
  · simp at hx; subst hx; exact ⟨h1, h2⟩
/-- What is known of records that came in. -/
def FitR (l : List (RecS × Value)) : Prop := ∀ x ∈ l, x.1.R ∧ x.1.hdrs.length ≤ 9223372036854775807 ∧ HFit x.1.hdrs ∧ x.1.key.data.length ≤ 140737488351232 ∧ x.1.val.data.length ≤ 140737488351232
theorem smallR_sum {x : RecS} (h : smallR x = 1) : x.sum ≤ 3000 := by
  unfold smallR at h
  split at h
  · cases h
  · unfold smallN at h
    split at h
    · unfold RecS.sum; omega
    · cases h
theorem smallR_one (x : RecS) (h : ¬ smallR x = 1) : smallR x = 0 := by
  unfold smallR at *
  split
  · rfl
  · rename_i h1
    rw [if_neg h1] at h
    unfold smallN at *
    split
    · rename_i h2; rw [if_pos h2] at h; exact absurd rfl h
    · rfl
theorem putRec_ok (o : Bs) (x : RecS) (h : recOk x = 0) : (⟨o, 0⟩ : OutS).putRec x = ⟨o ++ encR x, 0⟩ := by
  unfold OutS.putRec
  rw [if_pos h]
  rfl

end Go.Proofs.YtenojajfacacoaaDoor
/- The elements of arguments, opened, with their reach: rows of records. -/
namespace Go.Proofs.YtenojajfacacoaaDoor
open Go.Joins Go.RowKit
open Go.ChangeShapes Go.WideShapes Go.ChangeAt Go.Deep

/-- What is known of a record that came in. -/
def QRec (W : World) (x : RecS × Value) : Prop := RowsOf (fun _ cs x => RHdr cs x) (· < W.heap.size) W x.2 3 x.1.hdrs ∧ x.1.R ∧ x.1.hdrs.length ≤ 9223372036854775807 ∧ HFit x.1.hdrs ∧ x.1.key.data.length ≤ 140737488351232 ∧ x.1.val.data.length ≤ 140737488351232
theorem QRec.fit {W : World} {l : List (RecS × Value)} (h : ∀ x ∈ l, QRec W x) : FitR l := fun x hx => (h x hx).2
theorem QRec.start {W : World} {v : Value} {l : List (RecS × Value)} (hr : RowsOf (fun _ cs x => RRec cs x) (· < W.heap.size) W v 7 l) (h : ∀ x ∈ l, QRec W x) : St W W (Know.recs v l) [] := St.start ⟨hr, fun x hx => (h x hx).1⟩
section
variable {H : Type} {enc : TypeId × Value → H} {w : World} {spare : Nat → Bool} {held : Bool}
set_option maxHeartbeats 1000000 in
set_option maxRecDepth 100000 in
theorem rrec_opens : ∀ n cs y, DataW.trod enc Tryd.prog w 0 spare held n 51 cs = some y → Light 51 y.1 → (∀ x ∈ y.2, x.block < w.heap.size) → ∃ x : RecS × Value, RRec cs x ∧ QRec w x := by
  intro n cs y hf hl hN
  have hNw : w.heap.size ≤ w.heap.size := Nat.le_refl _
  obtain ⟨hc, m, hg⟩ := opens_field Tryd.underlying51 hf hl hN
  rw [cells_rec] at hc
  match cs, hc with
  | [c0, c1, c2, c3, c4, c5, c6], _ =>
    obtain ⟨z0, g0, l0, n0⟩ := hg 0 _ rfl
    have g0 : DataW.trod enc Tryd.prog w 0 spare held m 3 (List.take (Tryd.prog.cellsOf 3) (List.drop 0 [c0, c1, c2, c3, c4, c5, c6])) = some z0 := g0
    rw [cells_int] at g0
    obtain ⟨z1, g1, l1, n1⟩ := hg 1 _ rfl
    have g1 : DataW.trod enc Tryd.prog w 0 spare held m 3 (List.take (Tryd.prog.cellsOf 3) (List.drop 1 [c0, c1, c2, c3, c4, c5, c6])) = some z1 := g1
    rw [cells_int] at g1
    obtain ⟨z2, g2, l2, n2⟩ := hg 2 _ rfl
    have g2 : DataW.trod enc Tryd.prog w 0 spare held m 48 (List.take (Tryd.prog.cellsOf 48) (List.drop 2 [c0, c1, c2, c3, c4, c5, c6])) = some z2 := g2
    rw [cells_blob] at g2
    obtain ⟨z3, g3, l3, n3⟩ := hg 3 _ rfl
    have g3 : DataW.trod enc Tryd.prog w 0 spare held m 48 (List.take (Tryd.prog.cellsOf 48) (List.drop 4 [c0, c1, c2, c3, c4, c5, c6])) = some z3 := g3
    rw [cells_blob] at g3
    obtain ⟨z4, g4, l4, n4⟩ := hg 4 _ rfl
    have g4 : DataW.trod enc Tryd.prog w 0 spare held m 49 (List.take (Tryd.prog.cellsOf 49) (List.drop 6 [c0, c1, c2, c3, c4, c5, c6])) = some z4 := g4
    rw [cells_hdrs] at g4
    obtain ⟨x0, e0, r0⟩ := opens_i64 Tryd.underlying3 g0
    obtain ⟨x1, e1, r1⟩ := opens_i64 Tryd.underlying3 g1
    obtain ⟨x2, e2, s2⟩ := blob_opens _ _ _ g2 l2 n2
    obtain ⟨x3, e3, s3⟩ := blob_opens _ _ _ g3 l3 n3
    obtain ⟨v6, x4, e4, hr, _, hm⟩ := opens_rows (R := fun w cs x => (fun _ cs x => RHdr cs x) w cs x ∧ (fun x : HdrS => x.key.length ≤ 140737488351232 ∧ x.val.data.length ≤ 140737488351232) x) (N := w.heap.size) Tryd.underlying49 cells_hdr (by decide) rhdr_opens g4 l4 n4 hNw
    obtain ⟨hr1, hq⟩ := hr.part
    simp at e0 e1 e2 e3 e4
    obtain ⟨e2a, e2b⟩ := e2
    obtain ⟨e3a, e3b⟩ := e3
    subst e0 e1 e2a e2b e3a e3b e4
    have hm2 : x4.length ≤ 9223372036854775807 := hm
    exact ⟨(⟨x0, x1, x2, x3, x4⟩, _), rfl, hr1, ⟨r0, r1⟩, hm2, hq, s2, s3⟩
end
end Go.Proofs.YtenojajfacacoaaDoor
/- The elements of arguments, opened, with their reach: a batch. -/
namespace Go.Proofs.YtenojajfacacoaaDoor
open Go.Joins Go.RowKit
open Go.ChangeShapes Go.WideShapes Go.ChangeAt Go.Deep

theorem cells_bat : Tryd.prog.cellsOf 45 = 12 := by kernel_rfl
theorem cells_recs : Tryd.prog.cellsOf 43 = 1 := by kernel_rfl
section
variable {H : Type} {enc : TypeId × Value → H} {w : World} {spare : Nat → Bool} {held : Bool}
set_option maxHeartbeats 2000000 in
set_option maxRecDepth 100000 in
theorem bat_opens : ∀ n cs y, DataW.trod enc Tryd.prog w 0 spare held n 45 cs = some y → Light 45 y.1 → (∀ x ∈ y.2, x.block < w.heap.size) →
    ∃ (base leader : Int) (app txn ctl : Bool) (last first maxt prod epoch sq : Int) (l : List (RecS × Value)) (rv : Value), cs = [.int .i64 base, .int .i64 leader, .bool app, .bool txn, .bool ctl, .int .i64 last, .int .i64 first, .int .i64 maxt, .int .i64 prod, .int .i64 epoch, .int .i64 sq, rv] ∧
      BatS.R ⟨base, leader, app, txn, ctl, last, first, maxt, prod, epoch, sq, l.map (·.1)⟩ ∧ RowsOf (fun _ cs x => RRec cs x) (· < w.heap.size) w rv 7 l ∧ (∀ x ∈ l, QRec w x) := by
  intro n cs y hf hl hN
  obtain ⟨hc, m, hg⟩ := opens_field Tryd.underlying45 hf hl hN
  rw [cells_bat] at hc
  match cs, hc with
  | [c0, c1, c2, c3, c4, c5, c6, c7, c8, c9, c10, c11], _ =>
    obtain ⟨z0, g0, l0, n0⟩ := hg 0 _ rfl
    have g0 : DataW.trod enc Tryd.prog w 0 spare held m 3 (List.take (Tryd.prog.cellsOf 3) (List.drop 0 [c0, c1, c2, c3, c4, c5, c6, c7, c8, c9, c10, c11])) = some z0 := g0
    rw [cells_int] at g0
    obtain ⟨z1, g1, l1, n1⟩ := hg 1 _ rfl
    have g1 : DataW.trod enc Tryd.prog w 0 spare held m 3 (List.take (Tryd.prog.cellsOf 3) (List.drop 1 [c0, c1, c2, c3, c4, c5, c6, c7, c8, c9, c10, c11])) = some z1 := g1
    rw [cells_int] at g1
    obtain ⟨z2, g2, l2, n2⟩ := hg 2 _ rfl
    have g2 : DataW.trod enc Tryd.prog w 0 spare held m 4 (List.take (Tryd.prog.cellsOf 4) (List.drop 2 [c0, c1, c2, c3, c4, c5, c6, c7, c8, c9, c10, c11])) = some z2 := g2
    rw [cells_bool] at g2
    obtain ⟨z3, g3, l3, n3⟩ := hg 3 _ rfl
    have g3 : DataW.trod enc Tryd.prog w 0 spare held m 4 (List.take (Tryd.prog.cellsOf 4) (List.drop 3 [c0, c1, c2, c3, c4, c5, c6, c7, c8, c9, c10, c11])) = some z3 := g3
    rw [cells_bool] at g3
    obtain ⟨z4, g4, l4, n4⟩ := hg 4 _ rfl
    have g4 : DataW.trod enc Tryd.prog w 0 spare held m 4 (List.take (Tryd.prog.cellsOf 4) (List.drop 4 [c0, c1, c2, c3, c4, c5, c6, c7, c8, c9, c10, c11])) = some z4 := g4
    rw [cells_bool] at g4
    obtain ⟨z5, g5, l5, n5⟩ := hg 5 _ rfl
    have g5 : DataW.trod enc Tryd.prog w 0 spare held m 3 (List.take (Tryd.prog.cellsOf 3) (List.drop 5 [c0, c1, c2, c3, c4, c5, c6, c7, c8, c9, c10, c11])) = some z5 := g5
    rw [cells_int] at g5
    obtain ⟨z6, g6, l6, n6⟩ := hg 6 _ rfl
    have g6 : DataW.trod enc Tryd.prog w 0 spare held m 3 (List.take (Tryd.prog.cellsOf 3) (List.drop 6 [c0, c1, c2, c3, c4, c5, c6, c7, c8, c9, c10, c11])) = some z6 := g6
    rw [cells_int] at g6
    obtain ⟨z7, g7, l7, n7⟩ := hg 7 _ rfl
    have g7 : DataW.trod enc Tryd.prog w 0 spare held m 3 (List.take (Tryd.prog.cellsOf 3) (List.drop 7 [c0, c1, c2, c3, c4, c5, c6, c7, c8, c9, c10, c11])) = some z7 := g7
    rw [cells_int] at g7
    obtain ⟨z8, g8, l8, n8⟩ := hg 8 _ rfl
    have g8 : DataW.trod enc Tryd.prog w 0 spare held m 3 (List.take (Tryd.prog.cellsOf 3) (List.drop 8 [c0, c1, c2, c3, c4, c5, c6, c7, c8, c9, c10, c11])) = some z8 := g8
    rw [cells_int] at g8
    obtain ⟨z9, g9, l9, n9⟩ := hg 9 _ rfl
    have g9 : DataW.trod enc Tryd.prog w 0 spare held m 3 (List.take (Tryd.prog.cellsOf 3) (List.drop 9 [c0, c1, c2, c3, c4, c5, c6, c7, c8, c9, c10, c11])) = some z9 := g9
    rw [cells_int] at g9
    obtain ⟨z10, g10, l10, n10⟩ := hg 10 _ rfl
    have g10 : DataW.trod enc Tryd.prog w 0 spare held m 3 (List.take (Tryd.prog.cellsOf 3) (List.drop 10 [c0, c1, c2, c3, c4, c5, c6, c7, c8, c9, c10, c11])) = some z10 := g10
    rw [cells_int] at g10
    obtain ⟨z11, g11, l11, n11⟩ := hg 11 _ rfl
    have g11 : DataW.trod enc Tryd.prog w 0 spare held m 43 (List.take (Tryd.prog.cellsOf 43) (List.drop 11 [c0, c1, c2, c3, c4, c5, c6, c7, c8, c9, c10, c11])) = some z11 := g11
    rw [cells_recs] at g11
    obtain ⟨x0, e0, r0⟩ := opens_i64 Tryd.underlying3 g0
    obtain ⟨x1, e1, r1⟩ := opens_i64 Tryd.underlying3 g1
    obtain ⟨x2, e2⟩ := opens_bool Tryd.underlying4 g2
    obtain ⟨x3, e3⟩ := opens_bool Tryd.underlying4 g3
    obtain ⟨x4, e4⟩ := opens_bool Tryd.underlying4 g4
    obtain ⟨x5, e5, r5⟩ := opens_i64 Tryd.underlying3 g5
    obtain ⟨x6, e6, r6⟩ := opens_i64 Tryd.underlying3 g6
    obtain ⟨x7, e7, r7⟩ := opens_i64 Tryd.underlying3 g7
    obtain ⟨x8, e8, r8⟩ := opens_i64 Tryd.underlying3 g8
    obtain ⟨x9, e9, r9⟩ := opens_i64 Tryd.underlying3 g9
    obtain ⟨x10, e10, r10⟩ := opens_i64 Tryd.underlying3 g10
    obtain ⟨v11, x11, e11, hrq, _, _⟩ := opens_rows (R := fun w' cs x => (fun _ cs x => RRec cs x) w' cs x ∧ QRec w x) (N := w.heap.size) Tryd.underlying43 cells_rec (by decide) rrec_opens g11 l11 n11 (Nat.le_refl _)
    obtain ⟨hr, hq⟩ := hrq.part
    simp at e0 e1 e2 e3 e4 e5 e6 e7 e8 e9 e10 e11
    subst e0 e1 e2 e3 e4 e5 e6 e7 e8 e9 e10 e11
    exact ⟨x0, x1, x2, x3, x4, x5, x6, x7, x8, x9, x10, x11, _, rfl, ⟨r0, r1, r5, r6, r7, r8, r9, r10⟩, hr, hq⟩
set_option maxHeartbeats 2000000 in
set_option maxRecDepth 100000 in
theorem bat_open {r : Reach} {b0 : Nat} {v : Value} {d : DataW H} {p : List MemPlace} (hv : Value.okWide Tryd.prog w r b0 45 v) (h : DataW.Trod enc Tryd.prog w 0 spare held 45 v d p) (hl : Light 45 d) (hN : ∀ x ∈ p, x.block < w.heap.size) :
    ∃ (base leader : Int) (app txn ctl : Bool) (last first maxt prod epoch sq : Int) (l : List (RecS × Value)) (q : Option Addr) (cap : Nat), v = .agg #[.int .i64 base, .int .i64 leader, .bool app, .bool txn, .bool ctl, .int .i64 last, .int .i64 first, .int .i64 maxt, .int .i64 prod, .int .i64 epoch, .int .i64 sq, .slice q l.length cap] ∧
      BatS.R ⟨base, leader, app, txn, ctl, last, first, maxt, prod, epoch, sq, l.map (·.1)⟩ ∧ FitW l ∧ St w w (Know.recs (.slice q l.length cap) l) [] := by
  obtain ⟨cs, rfl, hsz⟩ := okWide_struct Tryd.underlying45 hv
  obtain ⟨fuel, hf⟩ := h
  obtain ⟨base, leader, app, txn, ctl, last, first, maxt, prod, epoch, sq, l, rv, e, hR, hr, hq⟩ := bat_opens _ _ _ hf hl hN
  obtain ⟨c⟩ := cs
  have e : c = _ := e
  subst e
  obtain ⟨q, cap, hrv⟩ : ∃ q cap, rv = .slice q l.length cap := by obtain ⟨p, cap, hv, _⟩ := hr; exact ⟨p, cap, hv⟩
  subst hrv
  exact ⟨_, _, _, _, _, _, _, _, _, _, _, l, q, cap, rfl, hR, fun x hx => (hq x hx).2, QRec.start hr hq⟩
end
end Go.Proofs.YtenojajfacacoaaDoor
/- Scripts as arguments. -/
namespace Go.Proofs.YtenojajfacacoaaDoor
open Go.RowKit

open Go.ChangeShapes Go.WideShapes Go.ChangeAt Go.Deep

theorem cells_scr : Tryd.prog.cellsOf 25 = 3 := by kernel_rfl
theorem cells_scB : Tryd.prog.cellsOf 22 = 1 := by kernel_rfl
theorem cells_scI : Tryd.prog.cellsOf 3 = 1 := by kernel_rfl
theorem cells_scC : Tryd.prog.cellsOf 23 = 1 := by kernel_rfl
theorem cells_scT : Tryd.prog.cellsOf 45 = 12 := by kernel_rfl
/-- What is known of a batch that came in. -/
def QBt (W : World) (x : BtR) : Prop := (RowsOf (fun _ cs x => RRec cs x) (· < W.heap.size) W x.v 7 x.l ∧ ∀ y ∈ x.l, QRec W y) ∧ batR x.b ∧ x.b.recs = x.l.map (·.1)
section
variable {H : Type} {enc : TypeId × Value → H} {w : World} {spare : Nat → Bool} {held : Bool}
theorem rbt_opens : ∀ n cs y, DataW.trod enc Tryd.prog w 0 spare held n 45 cs = some y → Light 45 y.1 → (∀ x ∈ y.2, x.block < w.heap.size) → ∃ x : BtR, RBt cs x ∧ QBt w x := by
  intro n cs y hf hl hN
  obtain ⟨base, leader, app, txn, ctl, last, first, maxt, prod, epoch, sq, l, rv, e, hR, hr, hq⟩ := bat_opens n cs y hf hl hN
  refine ⟨⟨⟨base, leader, app, txn, ctl, last, first, maxt, prod, epoch, sq, l.map (·.1)⟩, l, rv⟩, e, ⟨hr, hq⟩, ?_, rfl⟩
  obtain ⟨a1, a2, a3, a4, a5, a6, a7, a8⟩ := hR
  intro n hn
  simp only [batN, List.mem_cons, List.not_mem_nil, or_false] at hn
  rcases hn with rfl | rfl | rfl | rfl | rfl | rfl | rfl | rfl <;> assumption
theorem rint_opens : ∀ n cs y, DataW.trod enc Tryd.prog w 0 spare held n 3 cs = some y → Light 3 y.1 → (∀ x ∈ y.2, x.block < w.heap.size) → ∃ x : Int, RInt cs x ∧ Rn x := fun n cs y h _ _ => opens_i64 Tryd.underlying3 h
set_option maxHeartbeats 2000000 in
set_option maxRecDepth 100000 in
theorem scr_opens : ∀ n cs y, DataW.trod enc Tryd.prog w 0 spare held n 25 cs = some y → Light 25 y.1 → (∀ x ∈ y.2, x.block < w.heap.size) →
    ∃ (l : List BtR) (c : Int) (ch : List Int) (vB vC : Value), cs = [vB, .int .i64 c, vC] ∧ Rn c ∧ RowsOf (fun _ cs x => RBt cs x) (· < w.heap.size) w vB 12 l ∧ (∀ x ∈ l, QBt w x) ∧ RowsOf (fun _ cs x => RInt cs x) (· < w.heap.size) w vC 1 ch ∧ (∀ v ∈ ch, Rn v) := by
  intro n cs y hf hl hN
  obtain ⟨hc, m, hg⟩ := opens_field Tryd.underlying25 hf hl hN
  rw [cells_scr] at hc
  match cs, hc with
  | [c0, c1, c2], _ =>
    obtain ⟨z0, g0, l0, n0⟩ := hg 0 _ rfl
    have g0 : DataW.trod enc Tryd.prog w 0 spare held m 22 (List.take (Tryd.prog.cellsOf 22) (List.drop 0 [c0, c1, c2])) = some z0 := g0
    rw [cells_scB] at g0
    obtain ⟨z1, g1, l1, n1⟩ := hg 1 _ rfl
    have g1 : DataW.trod enc Tryd.prog w 0 spare held m 3 (List.take (Tryd.prog.cellsOf 3) (List.drop 1 [c0, c1, c2])) = some z1 := g1
    rw [cells_scI] at g1
    obtain ⟨z2, g2, l2, n2⟩ := hg 2 _ rfl
    have g2 : DataW.trod enc Tryd.prog w 0 spare held m 23 (List.take (Tryd.prog.cellsOf 23) (List.drop 2 [c0, c1, c2])) = some z2 := g2
    rw [cells_scC] at g2
    obtain ⟨v0, x0, e0, hrq, _, _⟩ := opens_rows (R := fun w' cs x => (fun _ cs x => RBt cs x) w' cs x ∧ QBt w x) (N := w.heap.size) Tryd.underlying22 cells_scT (by decide) rbt_opens g0 l0 n0 (Nat.le_refl _)
    obtain ⟨hr0, hq0⟩ := hrq.part
    obtain ⟨x1, e1, r1⟩ := opens_i64 Tryd.underlying3 g1
    obtain ⟨v2, x2, e2, hrq2, _, _⟩ := opens_rows (R := fun w' cs x => (fun _ cs x => RInt cs x) w' cs x ∧ Rn x) (N := w.heap.size) Tryd.underlying23 cells_scI (by decide) rint_opens g2 l2 n2 (Nat.le_refl _)
    obtain ⟨hr2, hq2⟩ := hrq2.part
    simp at e0 e1 e2
    subst e0 e1 e2
    exact ⟨x0, x1, x2, _, _, rfl, r1, hr0, hq0, hr2, hq2⟩
set_option maxHeartbeats 2000000 in
set_option maxRecDepth 100000 in
theorem scr_open {r : Reach} {b0 : Nat} {v : Value} {d : DataW H} {p : List MemPlace} (hv : Value.okWide Tryd.prog w r b0 25 v) (h : DataW.Trod enc Tryd.prog w 0 spare held 25 v d p) (hl : Light 25 d) (hN : ∀ x ∈ p, x.block < w.heap.size) (hlib : Know.lib.p w (· < w.heap.size)) :
    ∃ (l : List BtR) (c : Int) (ch : List Int) (qB q : Option Addr) (capB cap : Nat) (K : Know), v = .agg #[.slice qB l.length capB, .int .i64 c, .slice q ch.length cap] ∧ Rn c ∧ (∀ v ∈ ch, Rn v) ∧ (∀ x ∈ l, QBt w x) ∧ K.has Know.lib ∧ K.has (Know.btrs (.slice qB l.length capB) l) ∧ K.has (Know.flat RInt (.slice q ch.length cap) 1 ch) ∧ St w w K [] := by
  obtain ⟨cs, rfl, hsz⟩ := okWide_struct Tryd.underlying25 hv
  obtain ⟨fuel, hf⟩ := h
  obtain ⟨l, c, ch, vB, vC, ec, rc, hr, hq, hri, hqi⟩ := scr_opens _ _ _ hf hl hN
  obtain ⟨c'⟩ := cs
  have ec : c' = _ := ec
  subst ec
  obtain ⟨qB, capB, hvB⟩ : ∃ q cap, vB = .slice q l.length cap := by obtain ⟨p, cap, hv, _⟩ := hr; exact ⟨p, cap, hv⟩
  obtain ⟨q, cap, hvC⟩ : ∃ q cap, vC = .slice q ch.length cap := by obtain ⟨p, cap, hv, _⟩ := hri; exact ⟨p, cap, hv⟩
  subst hvB hvC
  refine ⟨l, c, ch, qB, q, capB, cap, Know.lib.and ((Know.btrs (.slice qB l.length capB) l).and (Know.flat RInt (.slice q ch.length cap) 1 ch)), rfl, rc, hqi, hq, Know.has_left (Know.has_refl _), Know.has_right (Know.has_left (Know.has_refl _)), Know.has_right (Know.has_right (Know.has_refl _)), St.start ⟨hlib, ⟨hr, fun x hx => ⟨(hq x hx).1.1, fun y hy => ((hq x hx).1.2 y hy).1⟩⟩, hri⟩⟩
end

end Go.Proofs.YtenojajfacacoaaDoor
/- Scripts, there and back. -/
namespace Go.Proofs.YtenojajfacacoaaDoor
open Go.RowKit

set_option maxHeartbeats 8000000 in
set_option maxRecDepth 100000 in
theorem sbk_good (l : List BtR) (c : Int) (ch : List Int) (qb q : Option Addr) (bcap cap : Nat) (hfit : ∀ x ∈ l, FitW x.l) (hs : smallS l ch = true) (hm : mayP l c) (S : Bs) (hS : l.flatMap btT ++ (cutT c ++ chT ch) = S) (hl : S.length ≤ 300000) (hcr : Rn c) (hchr : ∀ v ∈ ch, Rn v) (hfine : ∀ x ∈ l, btFine x) {W0 w : World} {K : Know} (hlib : K.has Know.lib) (hkb : K.has (Know.btrs (.slice qb l.length bcap) l)) (hkc : K.has (Know.flat RInt (.slice q ch.length cap) 1 ch)) (h : St W0 w K []) :
    Calls Tryd.prog 3 #[.agg #[.slice qb l.length bcap, .int .i64 c, .slice q ch.length cap]] w fun en w' => en = .returned (.bool true) ∧ Below W0.heap.size W0 w' := by
  obtain ⟨rb, hrb⟩ : ∃ b, w.heap.size = b := ⟨_, rfl⟩
  have g1 := h.allocRaw #[.slice qb l.length bcap, .int .i64 c, .slice q ch.length cap] 25
  rw [hrb] at g1
  have x0 := (g1).rawCell 0; have x1 := (g1).rawCell 1; have x2 := (g1).rawCell 2; simp at x0 x1 x2
  have H := Lib.hid g1
  have HLIB := Lib.hid hlib
  have HKB := Lib.hid hkb
  have HKC := Lib.hid hkc
  have HFT := Lib.hid hfit
  obtain ⟨hl8, hc200, hx12⟩ := small_bounds hs
  have HSM := Lib.hid hs
  have HLL := Lib.hid (show (l.length : Int) ≤ 1000000 by omega)
  have HRL := Lib.hid (show ∀ x ∈ l, (x.l.length : Int) ≤ 1000000 from fun x hx => by have := (hx12 x hx).1; omega)
  have HHL := Lib.hid (show ∀ x ∈ l, ∀ y ∈ x.l, (y.1.hdrs.length : Int) ≤ 1000000 from fun x hx y hy => by have := (hx12 x hx).2 y hy; omega)
  have HMB := Lib.hid hm
  have HS := Lib.hid hS
  have HSL := Lib.hid (show S.length ≤ 1000000 by omega)
  have HSL9 := Lib.hid (show S.length ≤ 900000 by omega)
  have HCM := Lib.hid hm.1
  have HCR := Lib.hid hcr
  have HCHR := Lib.hid hchr
  have HFN := Lib.hid hfine
  have HLN := Lib.hid (show l.length ≤ 8 from hl8)
  have HCL := Lib.hid (show ch.length ≤ 1000000 by omega)
  have HLT := Lib.hid (show ∀ x ∈ l, liteX x from fun x hx => ⟨by have := (hx12 x hx).1; omega, fun y hy => by have := (hx12 x hx).2 y hy; omega⟩)
  have e1 : (S == S) = true := by simp
  have e2 : ((0 : Int) == 0) = true := rfl
  clear h g1 hlib hkb hkc hfit hs hl8 hc200 hx12 hm hS hl hcr hchr hfine
  go_enter Tryd.func3, Tryd.ntmps3
  go_wp2_with (first
    | (go_at_call 6; (with_reducible refine (speaks25 HLIB.out H.out).mono ?_); rintro e_ wn ⟨K1, rfl, hkk, h⟩; have HL1 := Lib.hid (Know.has_trans hkk HLIB.out); have HKB1 := Lib.hid (Know.has_trans hkk HKB.out); have HKC1 := Lib.hid (Know.has_trans hkk HKC.out); clear hkk; have x0 := (h).rawCell 0; have x1 := (h).rawCell 1; have x2 := (h).rawCell 2; simp at x0 x1 x2; replace H := Lib.hid h; clear h)
    | (go_at_call 7; (with_reducible refine (sc_small1 qb bcap c q cap ch l HSM.out HFT.out HKB1.out H.out).mono ?_); rintro e_ wn ⟨rfl, h⟩; have x0 := (h).rawCell 0; have x1 := (h).rawCell 1; have x2 := (h).rawCell 2; simp at x0 x1 x2; replace H := Lib.hid h; clear h)
    | (go_at_call 8; (with_reducible refine (rs_mayT _ c q cap ch l HMB.out HLL.out HRL.out HHL.out HKB1.out H.out).mono ?_); rintro e_ wn ⟨rfl, h⟩; have x0 := (h).rawCell 0; have x1 := (h).rawCell 1; have x2 := (h).rawCell 2; simp at x0 x1 x2; replace H := Lib.hid h; clear h)
    | (go_at_call 9; (with_reducible refine (sc_print c qb q bcap cap ch l S HS.out HSL.out HCM.out HCR.out HCHR.out HFN.out HL1.out HKB1.out HKC1.out H.out).mono ?_); rintro e_ wn ⟨rfl, h⟩; have x0 := (h).rawCell 0; have x1 := (h).rawCell 1; have x2 := (h).rawCell 2; simp at x0 x1 x2; replace H := Lib.hid h; clear h)
    | (go_at_call 10; (with_reducible refine (parse_back l c ch S HS.out HSL9.out HCM.out HCR.out HCHR.out HFN.out HL1.out H.out).mono ?_); rintro e_ wn ⟨K2, l2, q2, q3, b2, cap3, rfl, hkk, hkb2, hkc2, hval2, h⟩; have HKB2 := Lib.hid hkb2; have HKC2 := Lib.hid hkc2; have HV2 := Lib.hid hval2; have HKB3 := Lib.hid (Know.has_trans hkk HKB1.out); have HKC3 := Lib.hid (Know.has_trans hkk HKC1.out); have HLN2 := Lib.hid (show l2.length ≤ 100000 by have h9 := congrArg List.length hval2; rw [List.length_map, List.length_map] at h9; have := HLN.out; omega); clear hkk hkb2 hkc2 hval2; obtain ⟨xb, hxb⟩ : ∃ y, wn.heap.size = y := ⟨_, rfl⟩; have h := h.allocRaw #[.slice q2 l2.length b2, .int .i64 c, .slice q3 ch.length cap3] 25; rw [hxb] at h; have x0 := (h.p1).rawCell 0; have x1 := (h.p1).rawCell 1; have x2 := (h.p1).rawCell 2; simp at x0 x1 x2; have y0 := (h).rawCell 0; have y1 := (h).rawCell 1; have y2 := (h).rawCell 2; simp at y0 y1 y2; replace H := Lib.hid h; clear h)
    | (go_at_call 11; (with_reducible refine (rs_print _ c q cap ch l S HS.out HSL.out HCR.out HCHR.out HFN.out HKB3.out HKC3.out H.out).mono ?_); rintro e_ wn ⟨rfl, h⟩; have x0 := (h.p1).rawCell 0; have x1 := (h.p1).rawCell 1; have x2 := (h.p1).rawCell 2; simp at x0 x1 x2; have y0 := (h).rawCell 0; have y1 := (h).rawCell 1; have y2 := (h).rawCell 2; simp at y0 y1 y2; replace H := Lib.hid h; clear h)
    | (go_at_call 12; (with_reducible refine (same_eq l2 l q2 qb q3 q b2 bcap cap3 cap c ch HV2.out HLT.out HLN2.out HCL.out HKB2.out HKB3.out HKC2.out HKC3.out H.out).mono ?_); rintro e_ wn ⟨rfl, h⟩; replace H := Lib.hid h; clear h))
  go_ret
  exact ⟨rfl, H.out.below⟩

theorem scriptBack_any (l : List BtR) (c : Int) (ch : List Int) (qb q : Option Addr) (bcap cap : Nat) (rc : Rn c) (rch : ∀ v ∈ ch, Rn v) {W : World} (hq : ∀ x ∈ l, QBt W x) {W0 w : World} {K : Know} (hlib : K.has Know.lib) (hkb : K.has (Know.btrs (.slice qb l.length bcap) l)) (hkc : K.has (Know.flat RInt (.slice q ch.length cap) 1 ch)) (h : St W0 w K []) :
    Calls Tryd.prog 3 #[.agg #[.slice qb l.length bcap, .int .i64 c, .slice q ch.length cap]] w fun en w' => en = .returned (.bool true) ∧ Below W0.heap.size W0 w' := by
  have hfit : ∀ x ∈ l, FitW x.l := fun x hx y hy => ((hq x hx).1.2 y hy).2
  cases hs : smallS l ch with
  | false => exact sbk_big l c ch qb q bcap cap hfit hs hlib hkb hkc h
  | true =>
    have hrn : ∀ x ∈ l, ∀ y ∈ x.l, Rn y.1.time ∧ Rn y.1.off := fun x hx y hy => ((hq x hx).1.2 y hy).2.1
    by_cases hm : mayP l c
    · exact sbk_good l c ch qb q bcap cap hfit hs hm _ rfl (script_le l c ch hs rc rch (fun x hx => (hq x hx).2.1) hrn) rc rch (may_fine hm (fun x hx => (hq x hx).2.1) hrn) hlib hkb hkc h
    · exact sbk_not l c ch qb q bcap cap hfit hs hm hlib hkb hkc h

end Go.Proofs.YtenojajfacacoaaDoor
/- The library's variables, out of what the row lists. -/
namespace Go.Proofs.YtenojajfacacoaaDoor
open Go.ChangeShapes Go.WideShapes Go.ChangeAt Go.RowKit

theorem var?_block {P : Program} {W : World} {n : String} {cs : Array Value} {g : Nat} (h : W.var? P n = some cs) (hg : P.globalNamed n = some g) : ∃ T fz, W.heap[g]? = some (.cells cs T fz) := by
  unfold World.var? at h
  rw [hg, Option.bind_some] at h
  split at h
  · rename_i c T fz hb
    injection h with h
    subst h
    exact ⟨T, fz, hb⟩
  · cases h
theorem gPow : Tryd.prog.globalNamed "internal/strconv.uint64pow10" = some 1 := by kernel_rfl
theorem gPowT : (Tryd.prog.globals[1]?).map (·.type) = some 118 := by kernel_rfl
theorem gSyn : Tryd.prog.globalNamed "strconv.ErrSyntax" = some 6 := by kernel_rfl
theorem gSynT : (Tryd.prog.globals[6]?).map (·.type) = some 76 := by kernel_rfl
theorem gRng : Tryd.prog.globalNamed "strconv.ErrRange" = some 7 := by kernel_rfl
theorem gRngT : (Tryd.prog.globals[7]?).map (·.type) = some 76 := by kernel_rfl
theorem cES : Tryd.prog.cellsOf 147 = 1 := by kernel_rfl
theorem cStr : Tryd.prog.cellsOf 9 = 1 := by kernel_rfl
theorem starE : "*" ++ "errors.errorString" = "*errors.errorString" := by decide
theorem rowE (u : TypeId) (h : Tryd.prog.typeName? 3 u = some "*errors.errorString") : u = 145 :=
  typeName_ptr_named (nm := "errors.errorString") (by rw [starE]; kernel_rfl) (by kernel_rfl) (by decide) u (by rw [starE]; exact h)
theorem pow_data : Rows.laid_internal_strconv_uint64pow10 (H := Unit) = Lib.tabData .u64 Lib.pow10Tab := by kernel_rfl
theorem lib_of_laid {W : World} (h : laidMetH Tryd.prog [("math/bits.deBruijn32tab", Rows.laid_math_bits_deBruijn32tab), ("math/bits.deBruijn64tab", Rows.laid_math_bits_deBruijn64tab), ("internal/strconv.uint64pow10", Rows.laid_internal_strconv_uint64pow10), ("unicode/utf8.acceptRanges", Rows.laid_unicode_utf8_acceptRanges), ("strconv.ErrRange", Rows.laid_strconv_ErrRange), ("strconv.ErrSyntax", Rows.laid_strconv_ErrSyntax), ("unicode/utf8.first", Rows.laid_unicode_utf8_first)] W) (hsh : W.ShapedOpen Tryd.prog) : Know.lib.p W (· < W.heap.size) := by
  rw [MakeChecks.laidMetH_plain _ _ _ (by as_aux_lemma => kernel_rfl)] at h
  have lt : ∀ {g : Nat} {o : Obj}, W.heap[g]? = some o → g < W.heap.size := fun h => heap_lt h
  refine ⟨⟨?_, ?_⟩, ?_, ?_⟩
  · obtain ⟨m, hm⟩ : ∃ m, W.cell? ⟨0, 0, none⟩ = some (.int .i64 m) := Go.Proofs.cell_of_shapedOpen_int (zero := #[.int .i64 0]) (t := 3) hsh (of_decide_eq_true (by kernel_rfl)) (by kernel_rfl) rfl (by kernel_rfl) (by kernel_rfl) Tryd.underlying3
    unfold World.cell? at hm
    split at hm
    · rename_i c T fz hb
      exact ⟨lt hb, _, hb, m, c, T, fz, rfl, hm⟩
    · cases hm
  · have h2 := h.tail.tail
    rw [pow_data] at h2
    have h3 := Lib.tabIs_of_head gPow gPowT Tryd.underlying118 Tryd.underlying109 (by kernel_rfl) (by kernel_rfl) h2
    obtain ⟨T, fz, hb⟩ := var?_block h3 gPow
    exact ⟨lt hb, _, hb, T, fz, rfl⟩
  · obtain ⟨a, s, hv, _⟩ := laid_sentinel h.tail.tail.tail.tail.tail gSyn gSynT Tryd.underlying76 rowE Tryd.underlying145 Tryd.underlying147 rfl rfl Tryd.underlying9 cES cStr
    obtain ⟨T, fz, hb⟩ := var?_block hv gSyn
    exact ⟨lt hb, _, hb, _, _, T, fz, rfl⟩
  · obtain ⟨a, s, hv, _⟩ := laid_sentinel h.tail.tail.tail.tail gRng gRngT Tryd.underlying76 rowE Tryd.underlying145 Tryd.underlying147 rfl rfl Tryd.underlying9 cES cStr
    obtain ⟨T, fz, hb⟩ := var?_block hv gRng
    exact ⟨lt hb, _, hb, _, _, T, fz, rfl⟩
/-- So many blocks has the settled world. -/
noncomputable def lowS : Nat := (World.holding Tryd.prog default ⟨#[], #[], []⟩).heap.size
noncomputable def putG (w : World) (g : Nat) (cs : Array Value) : World := { w with heap := w.heap.modify g fun
      | .cells _ t frozen => .cells cs t frozen
      | o => o }
/-- A world for the witness: the settled one, the library's variables holding what their initialisers lay. -/
noncomputable def scWorld (os : Os) : World :=
  putG (putG (putG (putG (putG (putG (putG (World.holding Tryd.prog os ⟨#[.cells #[.string ⟨#[118, 97, 108, 117, 101, 32, 111, 117, 116, 32, 111, 102, 32, 114, 97, 110, 103, 101]⟩] 147, .cells #[.string ⟨#[105, 110, 118, 97, 108, 105, 100, 32, 115, 121, 110, 116, 97, 120]⟩] 147], #[], []⟩)
    1 #[.int .u64 1, .int .u64 10, .int .u64 100, .int .u64 1000, .int .u64 10000, .int .u64 100000, .int .u64 1000000, .int .u64 10000000, .int .u64 100000000, .int .u64 1000000000, .int .u64 10000000000, .int .u64 100000000000, .int .u64 1000000000000, .int .u64 10000000000000, .int .u64 100000000000000, .int .u64 1000000000000000, .int .u64 10000000000000000, .int .u64 100000000000000000, .int .u64 1000000000000000000, .int .u64 10000000000000000000])
    4 #[.int .u8 0, .int .u8 1, .int .u8 28, .int .u8 2, .int .u8 29, .int .u8 14, .int .u8 24, .int .u8 3, .int .u8 30, .int .u8 22, .int .u8 20, .int .u8 15, .int .u8 25, .int .u8 17, .int .u8 4, .int .u8 8, .int .u8 31, .int .u8 27, .int .u8 13, .int .u8 23, .int .u8 21, .int .u8 19, .int .u8 16, .int .u8 7, .int .u8 26, .int .u8 12, .int .u8 18, .int .u8 6, .int .u8 11, .int .u8 5, .int .u8 10, .int .u8 9])
    5 #[.int .u8 0, .int .u8 1, .int .u8 56, .int .u8 2, .int .u8 57, .int .u8 49, .int .u8 28, .int .u8 3, .int .u8 61, .int .u8 58, .int .u8 42, .int .u8 50, .int .u8 38, .int .u8 29, .int .u8 17, .int .u8 4, .int .u8 62, .int .u8 47, .int .u8 59, .int .u8 36, .int .u8 45, .int .u8 43, .int .u8 51, .int .u8 22, .int .u8 53, .int .u8 39, .int .u8 33, .int .u8 30, .int .u8 24, .int .u8 18, .int .u8 12, .int .u8 5, .int .u8 63, .int .u8 55, .int .u8 48, .int .u8 27, .int .u8 60, .int .u8 41, .int .u8 37, .int .u8 16, .int .u8 46, .int .u8 35, .int .u8 44, .int .u8 21, .int .u8 52, .int .u8 32, .int .u8 23, .int .u8 11, .int .u8 54, .int .u8 26, .int .u8 40, .int .u8 15, .int .u8 34, .int .u8 20, .int .u8 31, .int .u8 10, .int .u8 25, .int .u8 14, .int .u8 19, .int .u8 9, .int .u8 13, .int .u8 8, .int .u8 7, .int .u8 6])
    3 #[.int .u8 128, .int .u8 191, .int .u8 160, .int .u8 191, .int .u8 128, .int .u8 159, .int .u8 144, .int .u8 191, .int .u8 128, .int .u8 143, .int .u8 0, .int .u8 0, .int .u8 0, .int .u8 0, .int .u8 0, .int .u8 0, .int .u8 0, .int .u8 0, .int .u8 0, .int .u8 0, .int .u8 0, .int .u8 0, .int .u8 0, .int .u8 0, .int .u8 0, .int .u8 0, .int .u8 0, .int .u8 0, .int .u8 0, .int .u8 0, .int .u8 0, .int .u8 0])
    7 #[.iface 145 (.pointer (some ⟨lowS, 0, none⟩))])
    6 #[.iface 145 (.pointer (some ⟨lowS + 1, 0, none⟩))])
    2 #[.int .u8 240, .int .u8 240, .int .u8 240, .int .u8 240, .int .u8 240, .int .u8 240, .int .u8 240, .int .u8 240, .int .u8 240, .int .u8 240, .int .u8 240, .int .u8 240, .int .u8 240, .int .u8 240, .int .u8 240, .int .u8 240, .int .u8 240, .int .u8 240, .int .u8 240, .int .u8 240, .int .u8 240, .int .u8 240, .int .u8 240, .int .u8 240, .int .u8 240, .int .u8 240, .int .u8 240, .int .u8 240, .int .u8 240, .int .u8 240, .int .u8 240, .int .u8 240, .int .u8 240, .int .u8 240, .int .u8 240, .int .u8 240, .int .u8 240, .int .u8 240, .int .u8 240, .int .u8 240, .int .u8 240, .int .u8 240, .int .u8 240, .int .u8 240, .int .u8 240, .int .u8 240, .int .u8 240, .int .u8 240, .int .u8 240, .int .u8 240, .int .u8 240, .int .u8 240, .int .u8 240, .int .u8 240, .int .u8 240, .int .u8 240, .int .u8 240, .int .u8 240, .int .u8 240, .int .u8 240, .int .u8 240, .int .u8 240, .int .u8 240, .int .u8 240, .int .u8 240, .int .u8 240, .int .u8 240, .int .u8 240, .int .u8 240, .int .u8 240, .int .u8 240, .int .u8 240, .int .u8 240, .int .u8 240, .int .u8 240, .int .u8 240, .int .u8 240, .int .u8 240, .int .u8 240, .int .u8 240, .int .u8 240, .int .u8 240, .int .u8 240, .int .u8 240, .int .u8 240, .int .u8 240, .int .u8 240, .int .u8 240, .int .u8 240, .int .u8 240, .int .u8 240, .int .u8 240, .int .u8 240, .int .u8 240, .int .u8 240, .int .u8 240, .int .u8 240, .int .u8 240, .int .u8 240, .int .u8 240, .int .u8 240, .int .u8 240, .int .u8 240, .int .u8 240, .int .u8 240, .int .u8 240, .int .u8 240, .int .u8 240, .int .u8 240, .int .u8 240, .int .u8 240, .int .u8 240, .int .u8 240, .int .u8 240, .int .u8 240, .int .u8 240, .int .u8 240, .int .u8 240, .int .u8 240, .int .u8 240, .int .u8 240, .int .u8 240, .int .u8 240, .int .u8 240, .int .u8 240, .int .u8 240, .int .u8 240, .int .u8 240, .int .u8 241, .int .u8 241, .int .u8 241, .int .u8 241, .int .u8 241, .int .u8 241, .int .u8 241, .int .u8 241, .int .u8 241, .int .u8 241, .int .u8 241, .int .u8 241, .int .u8 241, .int .u8 241, .int .u8 241, .int .u8 241, .int .u8 241, .int .u8 241, .int .u8 241, .int .u8 241, .int .u8 241, .int .u8 241, .int .u8 241, .int .u8 241, .int .u8 241, .int .u8 241, .int .u8 241, .int .u8 241, .int .u8 241, .int .u8 241, .int .u8 241, .int .u8 241, .int .u8 241, .int .u8 241, .int .u8 241, .int .u8 241, .int .u8 241, .int .u8 241, .int .u8 241, .int .u8 241, .int .u8 241, .int .u8 241, .int .u8 241, .int .u8 241, .int .u8 241, .int .u8 241, .int .u8 241, .int .u8 241, .int .u8 241, .int .u8 241, .int .u8 241, .int .u8 241, .int .u8 241, .int .u8 241, .int .u8 241, .int .u8 241, .int .u8 241, .int .u8 241, .int .u8 241, .int .u8 241, .int .u8 241, .int .u8 241, .int .u8 241, .int .u8 241, .int .u8 241, .int .u8 241, .int .u8 2, .int .u8 2, .int .u8 2, .int .u8 2, .int .u8 2, .int .u8 2, .int .u8 2, .int .u8 2, .int .u8 2, .int .u8 2, .int .u8 2, .int .u8 2, .int .u8 2, .int .u8 2, .int .u8 2, .int .u8 2, .int .u8 2, .int .u8 2, .int .u8 2, .int .u8 2, .int .u8 2, .int .u8 2, .int .u8 2, .int .u8 2, .int .u8 2, .int .u8 2, .int .u8 2, .int .u8 2, .int .u8 2, .int .u8 2, .int .u8 19, .int .u8 3, .int .u8 3, .int .u8 3, .int .u8 3, .int .u8 3, .int .u8 3, .int .u8 3, .int .u8 3, .int .u8 3, .int .u8 3, .int .u8 3, .int .u8 3, .int .u8 35, .int .u8 3, .int .u8 3, .int .u8 52, .int .u8 4, .int .u8 4, .int .u8 4, .int .u8 68, .int .u8 241, .int .u8 241, .int .u8 241, .int .u8 241, .int .u8 241, .int .u8 241, .int .u8 241, .int .u8 241, .int .u8 241, .int .u8 241, .int .u8 241]

end Go.Proofs.YtenojajfacacoaaDoor
/- A script that can be told, as a text, is the document's, and is read as it: proved of every script, the library's own variables as the program lays them. -/
namespace Go.Proofs.YtenojajfacacoaaDoor
open Go.ChangeShapes Go.WideShapes Go.ChangeAt Go.ChangeMaps Go.RowKit

set_option maxRecDepth 100000 in
theorem scriptBack_met (os : Os) : laidMet Tryd.prog Rows.scriptBackRow.laid ((scWorld os).forCall (fun _ _ => 0) ⟨#[], #[.agg #[.slice none 0 0, .int .i64 0, .slice none 0 0]], []⟩).memory := laidMet_of_run' 8 (by as_aux_lemma => kernel_rfl) (by as_aux_lemma => kernel_rfl)
theorem scriptBack_reads (os : Os) {H : Type} (enc : TypeId × Value → H) : ∃ places, DataW.whole enc Tryd.prog ((scWorld os).forCall (fun _ _ => 0) ⟨#[], #[.agg #[.slice none 0 0, .int .i64 0, .slice none 0 0]], []⟩).memory Tryd.f3.params.toList Rows.scriptBackSpec.vars false #[.agg #[.slice none 0 0, .int .i64 0, .slice none 0 0]].toList 8 = some ([.agg [.nil, .lit (.int .i64 0), .nil]], [], places) := ⟨[], by as_aux_lemma => kernel_rfl⟩
set_option maxRecDepth 100000 in
theorem scriptBack_lifted (os : Os) (started : os.Started) (H : Type) (enc : TypeId × Value → H) (F : Stop.Interp) :
    ReturnsInHanded {} Tryd.checked os 3 .any ((OpenSpec.ofChange Rows.scriptBackSpec).preRow enc Tryd.prog Tryd.f3 Rows.scriptBackRow.domain false Rows.scriptBackRow.laid) (((OpenSpec.ofChange Rows.scriptBackSpec).at F).post enc Tryd.prog Tryd.f3 false true false false) := by
  obtain ⟨places, hx⟩ := scriptBack_reads os enc
  refine returnsInHanded_of_row (C := Tryd.checked) (s := OpenSpec.ofChange Rows.scriptBackSpec) Tryd.own started (by as_aux_lemma => kernel_rfl) Tryd.func3
    (witness_row_at (enc := enc) (C := Tryd.checked) false (scWorld os) #[.agg #[.slice none 0 0, .int .i64 0, .slice none 0 0]] rfl (by as_aux_lemma => kernel_rfl) (by as_aux_lemma => kernel_rfl) (by as_aux_lemma => kernel_rfl)
      (OpenSpec.preRow_of_cond 8 hx (by as_aux_lemma => kernel_rfl) (fun k hk => by cases hk) (by as_aux_lemma => kernel_rfl) (scriptBack_met os))) ?_
  intro W base args ds gs before hval0 hW _ _ hsz0 hL hSh _
  have hval : ∀ (j : Nat) t v, Tryd.f3.params[j]? = some t → args[j]? = some v → Value.okWide Tryd.prog W .any base t v := hval0
  clear hval0
  have hlib := lib_of_laid hL hSh
  refine law_contract (n := 1) (tb := 4) (s := Rows.scriptBackSpec) rfl rfl rfl Tryd.underlying4 (by intro ds h; match ds, h with | [d0], _ => rfl) (by as_aux_lemma => kernel_rfl) hW ?_
  intro p hA0 hlt
  have hA : DataW.TrodAll enc Tryd.prog W 0 (fun _ => true) true Tryd.f3.params.toList args.toList ds p := hA0
  clear hA0
  rw [Tryd.params3] at hA hval
  obtain ⟨v0, d0, rfl, rfl, h0⟩ := trodAll_one hA
  have hsz : (DataW.weightsEach Tryd.prog (Tryd.f3.params.toList ++ (OpenSpec.ofChange Rows.scriptBackSpec).bare.plain.varTypes Tryd.prog) ([d0] ++ gs)).all (· ≤ reachBytes) = true := hsz0
  rw [Tryd.params3] at hsz
  have lg0 : Light 25 d0 := light_arg hsz (j := 0) rfl rfl
  obtain ⟨l, c, ch, qB, q, capB, cap, K, rfl, rc, rch, hq, hkl, hkb, hkc, hst⟩ := scr_open (hval 0 25 v0 rfl rfl) h0 lg0 (fun y hy => hlt y (by simp [hy])) hlib
  exact scriptBack_any l c ch qB q capB cap rc rch hq hkl hkb hkc hst

theorem scriptBack_said : Rows.ScriptBackSaid :=
  OpenClaim.holds_of_cond 3 Tryd.f3 rfl rfl rfl rfl rfl rfl rfl ⟨rfl, rfl, rfl, rfl, rfl⟩ rfl rfl rfl rfl rfl (by as_aux_lemma => kernel_rfl) Tryd.func3 (by as_aux_lemma => kernel_rfl)
    (of_decide_eq_true (by as_aux_lemma => kernel_rfl)) (by as_aux_lemma => (unfold Func.isWrapper; rw [if_neg (by as_aux_lemma => decide +kernel)]; exact ⟨rfl, rfl⟩))
    (fun os started H enc _ F => by rw [OpenClaim.pre_eq_preRow]; exact scriptBack_lifted os started H enc F)

theorem scriptBack_plain (f : FuncId) (fn : Func) (hf : Tryd.pinned.checked.prog.funcNamed "cursitor/cursitorlaw25.ScriptBack" = some f) (hfn : Tryd.pinned.checked.prog.funcs[f]? = some fn) :
    true = Tryd.pinned.checked.prog.looks [] ∧ ∀ (j : Nat) t, fn.params[j]? = some t → Tryd.pinned.checked.prog.wantsStandIn t = false := by
  obtain rfl : f = 3 := Option.some.inj ((show Tryd.prog.funcNamed "cursitor/cursitorlaw25.ScriptBack" = some 3 by as_aux_lemma => kernel_rfl).symm.trans hf) |>.symm
  obtain rfl : fn = Tryd.f3 := (Option.some.inj (Tryd.func3.symm.trans hfn)).symm
  refine ⟨by as_aux_lemma => kernel_rfl, fun j t ht => ?_⟩
  rw [Tryd.params3] at ht
  have hm : t ∈ [25] := by simpa using Array.mem_of_getElem? ht
  have hall : ([25].all fun u => !Tryd.prog.wantsStandIn u) = true := by as_aux_lemma => kernel_rfl
  exact (show Tryd.prog.wantsStandIn t = false by simpa using List.all_eq_true.1 hall t hm)

theorem scriptBackCard_holds : Rows.ScriptBackCardSaid :=
  Claim7.holds_tied_plain_at .later [] _ _ _ _ scriptBack_said (fun _ h => by cases h) (by as_aux_lemma => kernel_rfl) (fun _ h => by cases h) scriptBack_row_tie rfl ⟨rfl, rfl⟩ (by as_aux_lemma => kernel_rfl) rfl scriptBack_plain (by as_aux_lemma => kernel_rfl)

end Go.Proofs.YtenojajfacacoaaDoor
