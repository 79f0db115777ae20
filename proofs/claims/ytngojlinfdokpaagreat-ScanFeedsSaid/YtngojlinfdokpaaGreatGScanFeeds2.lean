/- A text. -/
import Derived.Test.YtngojlinfdokpaaGreatIntsP
import Derived.Test.YtngojlinfdokpaaGreatSel
/- A text. -/
namespace Go.Proofs.YtngojlinfdokpaaGreat
open Go.RowKit

structure PreS where
  base : Int
  len : Int
  leader : Int
  sum : Int
  attr : Int
  last : Int
  first : Int
  maxt : Int
  prod : Int
  epoch : Int
  seq : Int
  count : Int
deriving DecidableEq
def pv (x : PreS) : Value := .agg #[.int .i64 x.base, .int .i64 x.len, .int .i64 x.leader, .int .i64 x.sum, .int .i64 x.attr, .int .i64 x.last, .int .i64 x.first, .int .i64 x.maxt, .int .i64 x.prod, .int .i64 x.epoch, .int .i64 x.seq, .int .i64 x.count]
def PreS.list (x : PreS) : List Int := [x.base, x.len, x.leader, x.sum, x.attr, x.last, x.first, x.maxt, x.prod, x.epoch, x.seq, x.count]
def PreS.R (x : PreS) : Prop := ∀ n ∈ x.list, -9223372036854775808 ≤ n ∧ n < 9223372036854775808
def PreS.zero : PreS := ⟨0, 0, 0, 0, 0, 0, 0, 0, 0, 0, 0, 0⟩
def sumItem (n : Int) : Int := if n < 0 ∨ 4294967295 < n then 4294967296 else if 2147483647 < n then n - 4294967296 else n
def PreS.items (x : PreS) : List (Int × Nat) := [(x.base, 8), (x.len, 4), (x.leader, 4), (2, 1), (sumItem x.sum, 4), (x.attr, 2), (x.last, 4), (x.first, 8), (x.maxt, 8), (x.prod, 8), (x.epoch, 2), (x.seq, 4), (x.count, 4)]
def preSizes : List Nat := [8, 4, 4, 1, 4, 2, 4, 8, 8, 8, 2, 4, 4]
theorem sumItem_range (n : Int) : -9223372036854775808 ≤ sumItem n ∧ sumItem n < 9223372036854775808 := by
 unfold sumItem; split
 · omega
 · split <;> omega
theorem wrap32_sum (n : Int) (h0 : ¬ n < 0) (h1 : ¬ 4294967295 < n) : wrap32 n = sumItem n := by
 have e : wrap32 n = (n + 2147483648) % 4294967296 - 2147483648 := by unfold wrap32; rfl
 rw [e]
 unfold sumItem
 rw [if_neg (by omega)]
 split <;> omega
theorem OutS.okI {o : OutS} {a b : Int} {m : Nat} (h : o.ok (m + 8)) : (o.int a b).ok m := OutS.ok_int h (by omega)
theorem OutS.int_bad (o : OutS) (n : Int) (h : n < 0 ∨ 4294967295 < n) : o.int (sumItem n) 4 = o.fail 11 := by
 have e : sumItem n = 4294967296 := if_pos h
 rw [e]
 unfold OutS.int
 rw [if_neg (by decide)]

set_option maxHeartbeats 1000000 in
set_option maxRecDepth 100000 in
theorem prefix_putSum (p : Nat) (o : OutS) (n : Int) (hn : -9223372036854775808 ≤ n ∧ n < 9223372036854775808) {W0 w : World} {K : Know} {L : List Res} (h : St W0 w K (.out p o :: L)) (hr : o.ok 8) :
   Calls Tryz.prog 87 #[outPtr p, .int .i64 n] w fun en w' => en = .returned (.tuple #[]) ∧ St W0 w' K (.out p (o.int (sumItem n) 4) :: L) := by
 have H := Lib.hid h
 have HR := Lib.hid hr
 clear h hr
 by_cases h0 : n < 0
 · have E := Lib.hid (OutS.int_bad o n (.inl h0)).symm
   clear hn
   go_enter Tryz.func87, Tryz.ntmps87
   go_wp2_with (go_at_call 83; refine (so_fail _ _ _ stQ).mono ?_; (repeat first | rw [E.out]); rintro e wn ⟨rfl, h⟩; replace H := Lib.hid h; clear h)
   refine bodyPost_ret (results_none rfl _ _ _) rfl ⟨rfl, H.out⟩
 by_cases h1 : 4294967295 < n
 · have E := Lib.hid (OutS.int_bad o n (.inr h1)).symm
   clear hn
   go_enter Tryz.func87, Tryz.ntmps87
   go_wp2_with (go_at_call 83; refine (so_fail _ _ _ stQ).mono ?_; (repeat first | rw [E.out]); rintro e wn ⟨rfl, h⟩; replace H := Lib.hid h; clear h)
   refine bodyPost_ret (results_none rfl _ _ _) rfl ⟨rfl, H.out⟩
 · have HW2 := Lib.hid (wrap32_sum n h0 h1)
   have HS := Lib.hid (sumItem_range n)
   have HS2 := Lib.hid (wrap64_in _ HS.out.1 HS.out.2)
   clear hn
   go_enter Tryz.func87, Tryz.ntmps87
   go_wp2_with (go_at_call 86; rw [show wrap64 (wrap32 n) = sumItem n from by rw [HW2.out]; exact HS2.out]; refine (so_int _ _ _ _ HS.out H.out HR.out).mono ?_; rintro e wn ⟨rfl, h⟩; replace H := Lib.hid h; clear h)
   go_end0
   exact ⟨rfl, H.out⟩

set_option maxHeartbeats 1000000 in
set_option maxRecDepth 100000 in
theorem prefix_write (p : Nat) (o : OutS) (x : PreS) (hx : x.R) {W0 w : World} {K : Know} {L : List Res} (h : St W0 w K (.out p o :: L)) (hr : o.ok 200) :
  Calls Tryz.prog 63 #[outPtr p, pv x] w fun en w' => en = .returned (.tuple #[]) ∧ St W0 w' K (.out p (o.ints x.items) :: L) := by
 have H := Lib.hid (h.allocRaw #[.int .i64 x.base, .int .i64 x.len, .int .i64 x.leader, .int .i64 x.sum, .int .i64 x.attr, .int .i64 x.last, .int .i64 x.first, .int .i64 x.maxt, .int .i64 x.prod, .int .i64 x.epoch, .int .i64 x.seq, .int .i64 x.count] 81).p1
 have HR := Lib.hid hr
 have N0 := Lib.hid (hx x.base (by simp [PreS.list]))
 have N1 := Lib.hid (hx x.len (by simp [PreS.list]))
 have N2 := Lib.hid (hx x.leader (by simp [PreS.list]))
 have N3 := Lib.hid (hx x.sum (by simp [PreS.list]))
 have N4 := Lib.hid (hx x.attr (by simp [PreS.list]))
 have N5 := Lib.hid (hx x.last (by simp [PreS.list]))
 have N6 := Lib.hid (hx x.first (by simp [PreS.list]))
 have N7 := Lib.hid (hx x.maxt (by simp [PreS.list]))
 have N8 := Lib.hid (hx x.prod (by simp [PreS.list]))
 have N9 := Lib.hid (hx x.epoch (by simp [PreS.list]))
 have N10 := Lib.hid (hx x.seq (by simp [PreS.list]))
 have N11 := Lib.hid (hx x.count (by simp [PreS.list]))
 have HS := Lib.hid (sumItem_range x.sum)
 clear h hr hx
 go_enter Tryz.func63, Tryz.ntmps63
 unfold pv
 go_wp2_with (first
  | (go_at_call 86; refine (so_int _ _ _ _ (by first | exact N0.out | exact N1.out | exact N2.out | exact N3.out | exact N4.out | exact N5.out | exact N6.out | exact N7.out | exact N8.out | exact N9.out | exact N10.out | exact N11.out | decide) stQ (by repeat (first | exact OutS.ok_mono HR.out (by decide) | with_reducible refine OutS.okI ?_))).mono ?_; rintro e wn ⟨rfl, h⟩; replace H := Lib.hid h; clear h; have c0 := H.out.cellOf (b := w.heap.size) (c := #[.int .i64 x.base, .int .i64 x.len, .int .i64 x.leader, .int .i64 x.sum, .int .i64 x.attr, .int .i64 x.last, .int .i64 x.first, .int .i64 x.maxt, .int .i64 x.prod, .int .i64 x.epoch, .int .i64 x.seq, .int .i64 x.count]) (T := 81) (by simp) 0; have c1 := H.out.cellOf (b := w.heap.size) (c := #[.int .i64 x.base, .int .i64 x.len, .int .i64 x.leader, .int .i64 x.sum, .int .i64 x.attr, .int .i64 x.last, .int .i64 x.first, .int .i64 x.maxt, .int .i64 x.prod, .int .i64 x.epoch, .int .i64 x.seq, .int .i64 x.count]) (T := 81) (by simp) 1; have c2 := H.out.cellOf (b := w.heap.size) (c := #[.int .i64 x.base, .int .i64 x.len, .int .i64 x.leader, .int .i64 x.sum, .int .i64 x.attr, .int .i64 x.last, .int .i64 x.first, .int .i64 x.maxt, .int .i64 x.prod, .int .i64 x.epoch, .int .i64 x.seq, .int .i64 x.count]) (T := 81) (by simp) 2; have c3 := H.out.cellOf (b := w.heap.size) (c := #[.int .i64 x.base, .int .i64 x.len, .int .i64 x.leader, .int .i64 x.sum, .int .i64 x.attr, .int .i64 x.last, .int .i64 x.first, .int .i64 x.maxt, .int .i64 x.prod, .int .i64 x.epoch, .int .i64 x.seq, .int .i64 x.count]) (T := 81) (by simp) 3; have c4 := H.out.cellOf (b := w.heap.size) (c := #[.int .i64 x.base, .int .i64 x.len, .int .i64 x.leader, .int .i64 x.sum, .int .i64 x.attr, .int .i64 x.last, .int .i64 x.first, .int .i64 x.maxt, .int .i64 x.prod, .int .i64 x.epoch, .int .i64 x.seq, .int .i64 x.count]) (T := 81) (by simp) 4; have c5 := H.out.cellOf (b := w.heap.size) (c := #[.int .i64 x.base, .int .i64 x.len, .int .i64 x.leader, .int .i64 x.sum, .int .i64 x.attr, .int .i64 x.last, .int .i64 x.first, .int .i64 x.maxt, .int .i64 x.prod, .int .i64 x.epoch, .int .i64 x.seq, .int .i64 x.count]) (T := 81) (by simp) 5; have c6 := H.out.cellOf (b := w.heap.size) (c := #[.int .i64 x.base, .int .i64 x.len, .int .i64 x.leader, .int .i64 x.sum, .int .i64 x.attr, .int .i64 x.last, .int .i64 x.first, .int .i64 x.maxt, .int .i64 x.prod, .int .i64 x.epoch, .int .i64 x.seq, .int .i64 x.count]) (T := 81) (by simp) 6; have c7 := H.out.cellOf (b := w.heap.size) (c := #[.int .i64 x.base, .int .i64 x.len, .int .i64 x.leader, .int .i64 x.sum, .int .i64 x.attr, .int .i64 x.last, .int .i64 x.first, .int .i64 x.maxt, .int .i64 x.prod, .int .i64 x.epoch, .int .i64 x.seq, .int .i64 x.count]) (T := 81) (by simp) 7; have c8 := H.out.cellOf (b := w.heap.size) (c := #[.int .i64 x.base, .int .i64 x.len, .int .i64 x.leader, .int .i64 x.sum, .int .i64 x.attr, .int .i64 x.last, .int .i64 x.first, .int .i64 x.maxt, .int .i64 x.prod, .int .i64 x.epoch, .int .i64 x.seq, .int .i64 x.count]) (T := 81) (by simp) 8; have c9 := H.out.cellOf (b := w.heap.size) (c := #[.int .i64 x.base, .int .i64 x.len, .int .i64 x.leader, .int .i64 x.sum, .int .i64 x.attr, .int .i64 x.last, .int .i64 x.first, .int .i64 x.maxt, .int .i64 x.prod, .int .i64 x.epoch, .int .i64 x.seq, .int .i64 x.count]) (T := 81) (by simp) 9; have c10 := H.out.cellOf (b := w.heap.size) (c := #[.int .i64 x.base, .int .i64 x.len, .int .i64 x.leader, .int .i64 x.sum, .int .i64 x.attr, .int .i64 x.last, .int .i64 x.first, .int .i64 x.maxt, .int .i64 x.prod, .int .i64 x.epoch, .int .i64 x.seq, .int .i64 x.count]) (T := 81) (by simp) 10; have c11 := H.out.cellOf (b := w.heap.size) (c := #[.int .i64 x.base, .int .i64 x.len, .int .i64 x.leader, .int .i64 x.sum, .int .i64 x.attr, .int .i64 x.last, .int .i64 x.first, .int .i64 x.maxt, .int .i64 x.prod, .int .i64 x.epoch, .int .i64 x.seq, .int .i64 x.count]) (T := 81) (by simp) 11; simp at c0 c1 c2 c3 c4 c5 c6 c7 c8 c9 c10 c11)
  | (go_at_call 87; refine (prefix_putSum _ _ _ (by first | exact N0.out | exact N1.out | exact N2.out | exact N3.out | exact N4.out | exact N5.out | exact N6.out | exact N7.out | exact N8.out | exact N9.out | exact N10.out | exact N11.out | decide) stQ (by repeat (first | exact OutS.ok_mono HR.out (by decide) | with_reducible refine OutS.okI ?_))).mono ?_; rintro e wn ⟨rfl, h⟩; replace H := Lib.hid h; clear h; have c0 := H.out.cellOf (b := w.heap.size) (c := #[.int .i64 x.base, .int .i64 x.len, .int .i64 x.leader, .int .i64 x.sum, .int .i64 x.attr, .int .i64 x.last, .int .i64 x.first, .int .i64 x.maxt, .int .i64 x.prod, .int .i64 x.epoch, .int .i64 x.seq, .int .i64 x.count]) (T := 81) (by simp) 0; have c1 := H.out.cellOf (b := w.heap.size) (c := #[.int .i64 x.base, .int .i64 x.len, .int .i64 x.leader, .int .i64 x.sum, .int .i64 x.attr, .int .i64 x.last, .int .i64 x.first, .int .i64 x.maxt, .int .i64 x.prod, .int .i64 x.epoch, .int .i64 x.seq, .int .i64 x.count]) (T := 81) (by simp) 1; have c2 := H.out.cellOf (b := w.heap.size) (c := #[.int .i64 x.base, .int .i64 x.len, .int .i64 x.leader, .int .i64 x.sum, .int .i64 x.attr, .int .i64 x.last, .int .i64 x.first, .int .i64 x.maxt, .int .i64 x.prod, .int .i64 x.epoch, .int .i64 x.seq, .int .i64 x.count]) (T := 81) (by simp) 2; have c3 := H.out.cellOf (b := w.heap.size) (c := #[.int .i64 x.base, .int .i64 x.len, .int .i64 x.leader, .int .i64 x.sum, .int .i64 x.attr, .int .i64 x.last, .int .i64 x.first, .int .i64 x.maxt, .int .i64 x.prod, .int .i64 x.epoch, .int .i64 x.seq, .int .i64 x.count]) (T := 81) (by simp) 3; have c4 := H.out.cellOf (b := w.heap.size) (c := #[.int .i64 x.base, .int .i64 x.len, .int .i64 x.leader, .int .i64 x.sum, .int .i64 x.attr, .int .i64 x.last, .int .i64 x.first, .int .i64 x.maxt, .int .i64 x.prod, .int .i64 x.epoch, .int .i64 x.seq, .int .i64 x.count]) (T := 81) (by simp) 4; have c5 := H.out.cellOf (b := w.heap.size) (c := #[.int .i64 x.base, .int .i64 x.len, .int .i64 x.leader, .int .i64 x.sum, .int .i64 x.attr, .int .i64 x.last, .int .i64 x.first, .int .i64 x.maxt, .int .i64 x.prod, .int .i64 x.epoch, .int .i64 x.seq, .int .i64 x.count]) (T := 81) (by simp) 5; have c6 := H.out.cellOf (b := w.heap.size) (c := #[.int .i64 x.base, .int .i64 x.len, .int .i64 x.leader, .int .i64 x.sum, .int .i64 x.attr, .int .i64 x.last, .int .i64 x.first, .int .i64 x.maxt, .int .i64 x.prod, .int .i64 x.epoch, .int .i64 x.seq, .int .i64 x.count]) (T := 81) (by simp) 6; have c7 := H.out.cellOf (b := w.heap.size) (c := #[.int .i64 x.base, .int .i64 x.len, .int .i64 x.leader, .int .i64 x.sum, .int .i64 x.attr, .int .i64 x.last, .int .i64 x.first, .int .i64 x.maxt, .int .i64 x.prod, .int .i64 x.epoch, .int .i64 x.seq, .int .i64 x.count]) (T := 81) (by simp) 7; have c8 := H.out.cellOf (b := w.heap.size) (c := #[.int .i64 x.base, .int .i64 x.len, .int .i64 x.leader, .int .i64 x.sum, .int .i64 x.attr, .int .i64 x.last, .int .i64 x.first, .int .i64 x.maxt, .int .i64 x.prod, .int .i64 x.epoch, .int .i64 x.seq, .int .i64 x.count]) (T := 81) (by simp) 8; have c9 := H.out.cellOf (b := w.heap.size) (c := #[.int .i64 x.base, .int .i64 x.len, .int .i64 x.leader, .int .i64 x.sum, .int .i64 x.attr, .int .i64 x.last, .int .i64 x.first, .int .i64 x.maxt, .int .i64 x.prod, .int .i64 x.epoch, .int .i64 x.seq, .int .i64 x.count]) (T := 81) (by simp) 9; have c10 := H.out.cellOf (b := w.heap.size) (c := #[.int .i64 x.base, .int .i64 x.len, .int .i64 x.leader, .int .i64 x.sum, .int .i64 x.attr, .int .i64 x.last, .int .i64 x.first, .int .i64 x.maxt, .int .i64 x.prod, .int .i64 x.epoch, .int .i64 x.seq, .int .i64 x.count]) (T := 81) (by simp) 10; have c11 := H.out.cellOf (b := w.heap.size) (c := #[.int .i64 x.base, .int .i64 x.len, .int .i64 x.leader, .int .i64 x.sum, .int .i64 x.attr, .int .i64 x.last, .int .i64 x.first, .int .i64 x.maxt, .int .i64 x.prod, .int .i64 x.epoch, .int .i64 x.seq, .int .i64 x.count]) (T := 81) (by simp) 11; simp at c0 c1 c2 c3 c4 c5 c6 c7 c8 c9 c10 c11))
 go_end0
 exact ⟨rfl, H.out.p1.drop⟩
theorem St.set1_Pre2 {W0 w : World} {K : Know} {L : List Res} {r : Res} {b j : Nat} {c : Array Value} {T : TypeId} {v : Value} (h : St W0 w K (r :: .raw b c T :: L)) : St W0 (w.setCell ⟨b, j, none⟩ v) K (r :: .raw b (c.setIfInBounds j v) T :: L) := (h.p1.rawSet j v).p1
theorem and_u32 (n : Int) : bits .and .i64 n 4294967295 = n % 4294967296 := by
 rw [bits_and_i64]
 have e1 : ((4294967295 : Int) % 18446744073709551616).toNat = 2 ^ 32 - 1 := by decide
 rw [e1, Nat.and_two_pow_sub_one_eq_mod]
 have h : (0 : Int) ≤ n % 18446744073709551616 := Int.emod_nonneg _ (by decide)
 rw [IntKind.wrap_i64]
 omega

set_option maxHeartbeats 1000000 in
set_option maxRecDepth 100000 in
theorem prefix_fields (p : Nat) (i i1 i2 i3 i4 i5 i6 i7 i8 i9 i10 i11 i12 i13 : InS) (a0 a1 a2 a3 a4 a5 a6 a7 a8 a9 a10 a11 a12 sm : Int) (e0 : i.int 8 = (a0, i1)) (e1 : i1.int 4 = (a1, i2)) (e2 : i2.int 4 = (a2, i3)) (e3 : i3.int 1 = (a3, i4)) (e4 : i4.int 4 = (a4, i5)) (e5 : i5.int 2 = (a5, i6)) (e6 : i6.int 4 = (a6, i7)) (e7 : i7.int 8 = (a7, i8)) (e8 : i8.int 8 = (a8, i9)) (e9 : i9.int 8 = (a9, i10)) (e10 : i10.int 2 = (a10, i11)) (e11 : i11.int 4 = (a11, i12)) (e12 : i12.int 4 = (a12, i13)) (hsm : bits .and .i64 a4 4294967295 = sm) {W0 w : World} {K : Know} {L : List Res} (h : St W0 w K (.inp p i :: L)) :
  Calls Tryz.prog 94 #[inPtr p] w fun en w' => en = .returned (.tuple #[.agg #[.int .i64 a0, .int .i64 a1, .int .i64 a2, .int .i64 sm, .int .i64 a5, .int .i64 a6, .int .i64 a7, .int .i64 a8, .int .i64 a9, .int .i64 a10, .int .i64 a11, .int .i64 a12], .int .i64 a3]) ∧ St W0 w' K (.inp p i13 :: L) := by
 have H := Lib.hid (h.allocRaw #[.int .i64 0, .int .i64 0, .int .i64 0, .int .i64 0, .int .i64 0, .int .i64 0, .int .i64 0, .int .i64 0, .int .i64 0, .int .i64 0, .int .i64 0, .int .i64 0] 81).p1
 have E0 := Lib.hid e0
 have tok0 : True := trivial
 have E1 := Lib.hid e1
 have tok1 : True := trivial
 have E2 := Lib.hid e2
 have tok2 : True := trivial
 have E3 := Lib.hid e3
 have tok3 : True := trivial
 have E4 := Lib.hid e4
 have tok4 : True := trivial
 have E5 := Lib.hid e5
 have tok5 : True := trivial
 have E6 := Lib.hid e6
 have tok6 : True := trivial
 have E7 := Lib.hid e7
 have tok7 : True := trivial
 have E8 := Lib.hid e8
 have tok8 : True := trivial
 have E9 := Lib.hid e9
 have tok9 : True := trivial
 have E10 := Lib.hid e10
 have tok10 : True := trivial
 have E11 := Lib.hid e11
 have tok11 : True := trivial
 have E12 := Lib.hid e12
 have tok12 : True := trivial
 clear h e0 e1 e2 e3 e4 e5 e6 e7 e8 e9 e10 e11 e12
 go_enter Tryz.func94, Tryz.ntmps94
 go_wp2_with (first
  | (go_at_call 111; have _t := tok0; clear _t; (with_reducible refine (s_int _ i 8 H.out).mono ?_); rw [E0.out]; rintro e wn ⟨rfl, h⟩; replace H := Lib.hid (show St W0 wn K (.inp p i1 :: .raw w.heap.size #[.int .i64 0, .int .i64 0, .int .i64 0, .int .i64 0, .int .i64 0, .int .i64 0, .int .i64 0, .int .i64 0, .int .i64 0, .int .i64 0, .int .i64 0, .int .i64 0] 81 :: L) from h); clear h tok0; have z0 := H.out.p1.rawCell 0; have z1 := H.out.p1.rawFree 0; simp at z0)
  | (go_at_call 111; have _t := tok1; clear _t; (with_reducible refine (s_int _ i1 4 (St.set1_Pre2 H.out)).mono ?_); rw [E1.out]; rintro e wn ⟨rfl, h⟩; replace H := Lib.hid (show St W0 wn K (.inp p i2 :: .raw w.heap.size #[.int .i64 a0, .int .i64 0, .int .i64 0, .int .i64 0, .int .i64 0, .int .i64 0, .int .i64 0, .int .i64 0, .int .i64 0, .int .i64 0, .int .i64 0, .int .i64 0] 81 :: L) from h); clear h tok1; have z0 := H.out.p1.rawCell 1; have z1 := H.out.p1.rawFree 1; simp at z0)
  | (go_at_call 111; have _t := tok2; clear _t; (with_reducible refine (s_int _ i2 4 (St.set1_Pre2 H.out)).mono ?_); rw [E2.out]; rintro e wn ⟨rfl, h⟩; replace H := Lib.hid (show St W0 wn K (.inp p i3 :: .raw w.heap.size #[.int .i64 a0, .int .i64 a1, .int .i64 0, .int .i64 0, .int .i64 0, .int .i64 0, .int .i64 0, .int .i64 0, .int .i64 0, .int .i64 0, .int .i64 0, .int .i64 0] 81 :: L) from h); clear h tok2; have z0 := H.out.p1.rawCell 2; have z1 := H.out.p1.rawFree 2; simp at z0)
  | (go_at_call 111; have _t := tok3; clear _t; (with_reducible refine (s_int _ i3 1 (St.set1_Pre2 H.out)).mono ?_); rw [E3.out]; rintro e wn ⟨rfl, h⟩; replace H := Lib.hid (show St W0 wn K (.inp p i4 :: .raw w.heap.size #[.int .i64 a0, .int .i64 a1, .int .i64 a2, .int .i64 0, .int .i64 0, .int .i64 0, .int .i64 0, .int .i64 0, .int .i64 0, .int .i64 0, .int .i64 0, .int .i64 0] 81 :: L) from h); clear h tok3; have z0 := H.out.p1.rawCell 0; have z1 := H.out.p1.rawFree 0; simp at z0)
  | (go_at_call 111; have _t := tok4; clear _t; (with_reducible refine (s_int _ i4 4 H.out).mono ?_); rw [E4.out]; rintro e wn ⟨rfl, h⟩; replace H := Lib.hid (show St W0 wn K (.inp p i5 :: .raw w.heap.size #[.int .i64 a0, .int .i64 a1, .int .i64 a2, .int .i64 0, .int .i64 0, .int .i64 0, .int .i64 0, .int .i64 0, .int .i64 0, .int .i64 0, .int .i64 0, .int .i64 0] 81 :: L) from h); clear h tok4; have z0 := H.out.p1.rawCell 3; have z1 := H.out.p1.rawFree 3; simp at z0)
  | (go_at_call 111; have _t := tok5; clear _t; (with_reducible refine (s_int _ i5 2 (St.set1_Pre2 H.out)).mono ?_); rw [E5.out]; rintro e wn ⟨rfl, h⟩; replace H := Lib.hid (show St W0 wn K (.inp p i6 :: .raw w.heap.size #[.int .i64 a0, .int .i64 a1, .int .i64 a2, .int .i64 sm, .int .i64 0, .int .i64 0, .int .i64 0, .int .i64 0, .int .i64 0, .int .i64 0, .int .i64 0, .int .i64 0] 81 :: L) from h); clear h tok5; have z0 := H.out.p1.rawCell 4; have z1 := H.out.p1.rawFree 4; simp at z0)
  | (go_at_call 111; have _t := tok6; clear _t; (with_reducible refine (s_int _ i6 4 (St.set1_Pre2 H.out)).mono ?_); rw [E6.out]; rintro e wn ⟨rfl, h⟩; replace H := Lib.hid (show St W0 wn K (.inp p i7 :: .raw w.heap.size #[.int .i64 a0, .int .i64 a1, .int .i64 a2, .int .i64 sm, .int .i64 a5, .int .i64 0, .int .i64 0, .int .i64 0, .int .i64 0, .int .i64 0, .int .i64 0, .int .i64 0] 81 :: L) from h); clear h tok6; have z0 := H.out.p1.rawCell 5; have z1 := H.out.p1.rawFree 5; simp at z0)
  | (go_at_call 111; have _t := tok7; clear _t; (with_reducible refine (s_int _ i7 8 (St.set1_Pre2 H.out)).mono ?_); rw [E7.out]; rintro e wn ⟨rfl, h⟩; replace H := Lib.hid (show St W0 wn K (.inp p i8 :: .raw w.heap.size #[.int .i64 a0, .int .i64 a1, .int .i64 a2, .int .i64 sm, .int .i64 a5, .int .i64 a6, .int .i64 0, .int .i64 0, .int .i64 0, .int .i64 0, .int .i64 0, .int .i64 0] 81 :: L) from h); clear h tok7; have z0 := H.out.p1.rawCell 6; have z1 := H.out.p1.rawFree 6; simp at z0)
  | (go_at_call 111; have _t := tok8; clear _t; (with_reducible refine (s_int _ i8 8 (St.set1_Pre2 H.out)).mono ?_); rw [E8.out]; rintro e wn ⟨rfl, h⟩; replace H := Lib.hid (show St W0 wn K (.inp p i9 :: .raw w.heap.size #[.int .i64 a0, .int .i64 a1, .int .i64 a2, .int .i64 sm, .int .i64 a5, .int .i64 a6, .int .i64 a7, .int .i64 0, .int .i64 0, .int .i64 0, .int .i64 0, .int .i64 0] 81 :: L) from h); clear h tok8; have z0 := H.out.p1.rawCell 7; have z1 := H.out.p1.rawFree 7; simp at z0)
  | (go_at_call 111; have _t := tok9; clear _t; (with_reducible refine (s_int _ i9 8 (St.set1_Pre2 H.out)).mono ?_); rw [E9.out]; rintro e wn ⟨rfl, h⟩; replace H := Lib.hid (show St W0 wn K (.inp p i10 :: .raw w.heap.size #[.int .i64 a0, .int .i64 a1, .int .i64 a2, .int .i64 sm, .int .i64 a5, .int .i64 a6, .int .i64 a7, .int .i64 a8, .int .i64 0, .int .i64 0, .int .i64 0, .int .i64 0] 81 :: L) from h); clear h tok9; have z0 := H.out.p1.rawCell 8; have z1 := H.out.p1.rawFree 8; simp at z0)
  | (go_at_call 111; have _t := tok10; clear _t; (with_reducible refine (s_int _ i10 2 (St.set1_Pre2 H.out)).mono ?_); rw [E10.out]; rintro e wn ⟨rfl, h⟩; replace H := Lib.hid (show St W0 wn K (.inp p i11 :: .raw w.heap.size #[.int .i64 a0, .int .i64 a1, .int .i64 a2, .int .i64 sm, .int .i64 a5, .int .i64 a6, .int .i64 a7, .int .i64 a8, .int .i64 a9, .int .i64 0, .int .i64 0, .int .i64 0] 81 :: L) from h); clear h tok10; have z0 := H.out.p1.rawCell 9; have z1 := H.out.p1.rawFree 9; simp at z0)
  | (go_at_call 111; have _t := tok11; clear _t; (with_reducible refine (s_int _ i11 4 (St.set1_Pre2 H.out)).mono ?_); rw [E11.out]; rintro e wn ⟨rfl, h⟩; replace H := Lib.hid (show St W0 wn K (.inp p i12 :: .raw w.heap.size #[.int .i64 a0, .int .i64 a1, .int .i64 a2, .int .i64 sm, .int .i64 a5, .int .i64 a6, .int .i64 a7, .int .i64 a8, .int .i64 a9, .int .i64 a10, .int .i64 0, .int .i64 0] 81 :: L) from h); clear h tok11; have z0 := H.out.p1.rawCell 10; have z1 := H.out.p1.rawFree 10; simp at z0)
  | (go_at_call 111; have _t := tok12; clear _t; (with_reducible refine (s_int _ i12 4 (St.set1_Pre2 H.out)).mono ?_); rw [E12.out]; rintro e wn ⟨rfl, h⟩; replace H := Lib.hid (show St W0 wn K (.inp p i13 :: .raw w.heap.size #[.int .i64 a0, .int .i64 a1, .int .i64 a2, .int .i64 sm, .int .i64 a5, .int .i64 a6, .int .i64 a7, .int .i64 a8, .int .i64 a9, .int .i64 a10, .int .i64 a11, .int .i64 0] 81 :: L) from h); clear h tok12; have z0 := H.out.p1.rawCell 11; have z1 := H.out.p1.rawFree 11; simp at z0; have HH := Lib.hid H.out.p1; have qf0 := HH.out.freeOf (b := w.heap.size) (c := #[.int .i64 a0, .int .i64 a1, .int .i64 a2, .int .i64 sm, .int .i64 a5, .int .i64 a6, .int .i64 a7, .int .i64 a8, .int .i64 a9, .int .i64 a10, .int .i64 a11, .int .i64 0]) (T := 81) (by simp) 0; have qc0 := HH.out.cellOf (b := w.heap.size) (c := #[.int .i64 a0, .int .i64 a1, .int .i64 a2, .int .i64 sm, .int .i64 a5, .int .i64 a6, .int .i64 a7, .int .i64 a8, .int .i64 a9, .int .i64 a10, .int .i64 a11, .int .i64 0]) (T := 81) (by simp) 0; have qf1 := HH.out.freeOf (b := w.heap.size) (c := #[.int .i64 a0, .int .i64 a1, .int .i64 a2, .int .i64 sm, .int .i64 a5, .int .i64 a6, .int .i64 a7, .int .i64 a8, .int .i64 a9, .int .i64 a10, .int .i64 a11, .int .i64 0]) (T := 81) (by simp) 1; have qc1 := HH.out.cellOf (b := w.heap.size) (c := #[.int .i64 a0, .int .i64 a1, .int .i64 a2, .int .i64 sm, .int .i64 a5, .int .i64 a6, .int .i64 a7, .int .i64 a8, .int .i64 a9, .int .i64 a10, .int .i64 a11, .int .i64 0]) (T := 81) (by simp) 1; have qf2 := HH.out.freeOf (b := w.heap.size) (c := #[.int .i64 a0, .int .i64 a1, .int .i64 a2, .int .i64 sm, .int .i64 a5, .int .i64 a6, .int .i64 a7, .int .i64 a8, .int .i64 a9, .int .i64 a10, .int .i64 a11, .int .i64 0]) (T := 81) (by simp) 2; have qc2 := HH.out.cellOf (b := w.heap.size) (c := #[.int .i64 a0, .int .i64 a1, .int .i64 a2, .int .i64 sm, .int .i64 a5, .int .i64 a6, .int .i64 a7, .int .i64 a8, .int .i64 a9, .int .i64 a10, .int .i64 a11, .int .i64 0]) (T := 81) (by simp) 2; have qf3 := HH.out.freeOf (b := w.heap.size) (c := #[.int .i64 a0, .int .i64 a1, .int .i64 a2, .int .i64 sm, .int .i64 a5, .int .i64 a6, .int .i64 a7, .int .i64 a8, .int .i64 a9, .int .i64 a10, .int .i64 a11, .int .i64 0]) (T := 81) (by simp) 3; have qc3 := HH.out.cellOf (b := w.heap.size) (c := #[.int .i64 a0, .int .i64 a1, .int .i64 a2, .int .i64 sm, .int .i64 a5, .int .i64 a6, .int .i64 a7, .int .i64 a8, .int .i64 a9, .int .i64 a10, .int .i64 a11, .int .i64 0]) (T := 81) (by simp) 3; have qf4 := HH.out.freeOf (b := w.heap.size) (c := #[.int .i64 a0, .int .i64 a1, .int .i64 a2, .int .i64 sm, .int .i64 a5, .int .i64 a6, .int .i64 a7, .int .i64 a8, .int .i64 a9, .int .i64 a10, .int .i64 a11, .int .i64 0]) (T := 81) (by simp) 4; have qc4 := HH.out.cellOf (b := w.heap.size) (c := #[.int .i64 a0, .int .i64 a1, .int .i64 a2, .int .i64 sm, .int .i64 a5, .int .i64 a6, .int .i64 a7, .int .i64 a8, .int .i64 a9, .int .i64 a10, .int .i64 a11, .int .i64 0]) (T := 81) (by simp) 4; have qf5 := HH.out.freeOf (b := w.heap.size) (c := #[.int .i64 a0, .int .i64 a1, .int .i64 a2, .int .i64 sm, .int .i64 a5, .int .i64 a6, .int .i64 a7, .int .i64 a8, .int .i64 a9, .int .i64 a10, .int .i64 a11, .int .i64 0]) (T := 81) (by simp) 5; have qc5 := HH.out.cellOf (b := w.heap.size) (c := #[.int .i64 a0, .int .i64 a1, .int .i64 a2, .int .i64 sm, .int .i64 a5, .int .i64 a6, .int .i64 a7, .int .i64 a8, .int .i64 a9, .int .i64 a10, .int .i64 a11, .int .i64 0]) (T := 81) (by simp) 5; have qf6 := HH.out.freeOf (b := w.heap.size) (c := #[.int .i64 a0, .int .i64 a1, .int .i64 a2, .int .i64 sm, .int .i64 a5, .int .i64 a6, .int .i64 a7, .int .i64 a8, .int .i64 a9, .int .i64 a10, .int .i64 a11, .int .i64 0]) (T := 81) (by simp) 6; have qc6 := HH.out.cellOf (b := w.heap.size) (c := #[.int .i64 a0, .int .i64 a1, .int .i64 a2, .int .i64 sm, .int .i64 a5, .int .i64 a6, .int .i64 a7, .int .i64 a8, .int .i64 a9, .int .i64 a10, .int .i64 a11, .int .i64 0]) (T := 81) (by simp) 6; have qf7 := HH.out.freeOf (b := w.heap.size) (c := #[.int .i64 a0, .int .i64 a1, .int .i64 a2, .int .i64 sm, .int .i64 a5, .int .i64 a6, .int .i64 a7, .int .i64 a8, .int .i64 a9, .int .i64 a10, .int .i64 a11, .int .i64 0]) (T := 81) (by simp) 7; have qc7 := HH.out.cellOf (b := w.heap.size) (c := #[.int .i64 a0, .int .i64 a1, .int .i64 a2, .int .i64 sm, .int .i64 a5, .int .i64 a6, .int .i64 a7, .int .i64 a8, .int .i64 a9, .int .i64 a10, .int .i64 a11, .int .i64 0]) (T := 81) (by simp) 7; have qf8 := HH.out.freeOf (b := w.heap.size) (c := #[.int .i64 a0, .int .i64 a1, .int .i64 a2, .int .i64 sm, .int .i64 a5, .int .i64 a6, .int .i64 a7, .int .i64 a8, .int .i64 a9, .int .i64 a10, .int .i64 a11, .int .i64 0]) (T := 81) (by simp) 8; have qc8 := HH.out.cellOf (b := w.heap.size) (c := #[.int .i64 a0, .int .i64 a1, .int .i64 a2, .int .i64 sm, .int .i64 a5, .int .i64 a6, .int .i64 a7, .int .i64 a8, .int .i64 a9, .int .i64 a10, .int .i64 a11, .int .i64 0]) (T := 81) (by simp) 8; have qf9 := HH.out.freeOf (b := w.heap.size) (c := #[.int .i64 a0, .int .i64 a1, .int .i64 a2, .int .i64 sm, .int .i64 a5, .int .i64 a6, .int .i64 a7, .int .i64 a8, .int .i64 a9, .int .i64 a10, .int .i64 a11, .int .i64 0]) (T := 81) (by simp) 9; have qc9 := HH.out.cellOf (b := w.heap.size) (c := #[.int .i64 a0, .int .i64 a1, .int .i64 a2, .int .i64 sm, .int .i64 a5, .int .i64 a6, .int .i64 a7, .int .i64 a8, .int .i64 a9, .int .i64 a10, .int .i64 a11, .int .i64 0]) (T := 81) (by simp) 9; have qf10 := HH.out.freeOf (b := w.heap.size) (c := #[.int .i64 a0, .int .i64 a1, .int .i64 a2, .int .i64 sm, .int .i64 a5, .int .i64 a6, .int .i64 a7, .int .i64 a8, .int .i64 a9, .int .i64 a10, .int .i64 a11, .int .i64 0]) (T := 81) (by simp) 10; have qc10 := HH.out.cellOf (b := w.heap.size) (c := #[.int .i64 a0, .int .i64 a1, .int .i64 a2, .int .i64 sm, .int .i64 a5, .int .i64 a6, .int .i64 a7, .int .i64 a8, .int .i64 a9, .int .i64 a10, .int .i64 a11, .int .i64 0]) (T := 81) (by simp) 10; have qf11 := HH.out.freeOf (b := w.heap.size) (c := #[.int .i64 a0, .int .i64 a1, .int .i64 a2, .int .i64 sm, .int .i64 a5, .int .i64 a6, .int .i64 a7, .int .i64 a8, .int .i64 a9, .int .i64 a10, .int .i64 a11, .int .i64 0]) (T := 81) (by simp) 11; have qc11 := HH.out.cellOf (b := w.heap.size) (c := #[.int .i64 a0, .int .i64 a1, .int .i64 a2, .int .i64 sm, .int .i64 a5, .int .i64 a6, .int .i64 a7, .int .i64 a8, .int .i64 a9, .int .i64 a10, .int .i64 a11, .int .i64 0]) (T := 81) (by simp) 11; simp at qc0 qc1 qc2 qc3 qc4 qc5 qc6 qc7 qc8 qc9 qc10 qc11))
 refine bodyPost_ret (v := .tuple #[.agg #[.int .i64 a0, .int .i64 a1, .int .i64 a2, .int .i64 sm, .int .i64 a5, .int .i64 a6, .int .i64 a7, .int .i64 a8, .int .i64 a9, .int .i64 a10, .int .i64 a11, .int .i64 a12], .int .i64 a3]) (by simp [results, Tryz.results94, go_sem, qc0, qc1, qc2, qc3, qc4, qc5, qc6, qc7, qc8, qc9, qc10, qc11]) rfl ⟨rfl, ?_⟩
 exact (((((((((((((H.out.p1.rawSet 11 _).rawSet 0 _).rawSet 1 _).rawSet 2 _).rawSet 3 _).rawSet 4 _).rawSet 5 _).rawSet 6 _).rawSet 7 _).rawSet 8 _).rawSet 9 _).rawSet 10 _).rawSet 11 _).drop

end Go.Proofs.YtngojlinfdokpaaGreat
