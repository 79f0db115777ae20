/- Contracts of package blob: reading. -/
import Derived.Test.YtmpehoebgifmnaaDoorBlob1
namespace Go.Proofs.YtmpehoebgifmnaaDoor
open Go.RowKit

def InS.tk (i : InS) (n : Int) : BlobS × InS := if n = -1 then (BlobS.none, i) else (⟨false, (i.take n).1⟩, (i.take n).2)
def InS.fixed (i : InS) (size : Int) : BlobS × InS := (i.int size).2.tk (i.int size).1
def InS.varied (i : InS) : BlobS × InS := i.vint.2.tk i.vint.1
def InS.bytes (i : InS) (b : BlobS) : Bs × InS := (b.data, if b.null then i.fail 4 else i)
def InS.text (i : InS) : Bs × InS := (i.fixed 2).2.bytes (i.fixed 2).1
def InS.name (i : InS) : Bs × InS := i.varied.2.bytes i.varied.1

set_option maxHeartbeats 1000000 in
set_option maxRecDepth 100000 in
theorem blob_take (p : Nat) (i : InS) (n : Int) {W0 w : World} {K : Know} {L : List Res} (h : St W0 w K (.inp p i :: L)) :
    Calls Tryd.prog 62 #[inPtr p, .int .i64 n] w fun en w' => en = .returned (bv (i.tk n).1) ∧ St W0 w' K (.inp p (i.tk n).2 :: L) := by
  have H := Lib.hid (h.allocRaw #[.bool false, .string ⟨#[]⟩] 34)
  clear h
  go_enter Tryd.func62, Tryd.ntmps62
  go_wp2_with (first
    | (go_at_call 50; refine (s_take _ _ _ (by first | (first | with_reducible exact H.out | with_reducible exact H.out.p1 | with_reducible exact H.out.p2 | with_reducible exact H.out.p3 | with_reducible exact H.out.p4 | with_reducible exact H.out.p5) | ((repeat first | with_reducible refine St.drewN ?_ _ | with_reducible refine St.drew ?_ | with_reducible refine St.alloc ?_ _); first | with_reducible exact H.out | with_reducible exact H.out.p1 | with_reducible exact H.out.p2 | with_reducible exact H.out.p3 | with_reducible exact H.out.p4 | with_reducible exact H.out.p5))).mono ?_; rintro e wn ⟨rfl, h⟩; replace H := Lib.hid h; clear h; have f0 := H.out.freeOf (b := w.heap.size) (c := #[.bool false, .string ⟨#[]⟩]) (T := 34) (by simp) 0; have f1 := H.out.freeOf (b := w.heap.size) (c := #[.bool false, .string ⟨#[]⟩]) (T := 34) (by simp) 1; have c0 := H.out.cellOf (b := w.heap.size) (c := #[.bool false, .string ⟨#[]⟩]) (T := 34) (by simp) 0; have c1 := H.out.cellOf (b := w.heap.size) (c := #[.bool false, .string ⟨#[]⟩]) (T := 34) (by simp) 1; simp at c0 c1)
    | (go_at_call 18; refine (blob_of (i.take n).1 (by first | (first | with_reducible exact H.out | with_reducible exact H.out.p1 | with_reducible exact H.out.p2 | with_reducible exact H.out.p3 | with_reducible exact H.out.p4 | with_reducible exact H.out.p5) | ((repeat first | with_reducible refine St.drewN ?_ _ | with_reducible refine St.drew ?_ | with_reducible refine St.alloc ?_ _); first | with_reducible exact H.out | with_reducible exact H.out.p1 | with_reducible exact H.out.p2 | with_reducible exact H.out.p3 | with_reducible exact H.out.p4 | with_reducible exact H.out.p5))).mono ?_; rintro e wn ⟨rfl, h⟩; replace H := Lib.hid h; clear h; have f0 := H.out.freeOf (b := w.heap.size) (c := #[.bool false, .string ⟨#[]⟩]) (T := 34) (by simp) 0; have f1 := H.out.freeOf (b := w.heap.size) (c := #[.bool false, .string ⟨#[]⟩]) (T := 34) (by simp) 1; have c0 := H.out.cellOf (b := w.heap.size) (c := #[.bool false, .string ⟨#[]⟩]) (T := 34) (by simp) 0; have c1 := H.out.cellOf (b := w.heap.size) (c := #[.bool false, .string ⟨#[]⟩]) (T := 34) (by simp) 1; simp at c0 c1; unfold bv)
    | (go_at_call 19; refine (blob_none  (by first | (first | with_reducible exact H.out | with_reducible exact H.out.p1 | with_reducible exact H.out.p2 | with_reducible exact H.out.p3 | with_reducible exact H.out.p4 | with_reducible exact H.out.p5) | ((repeat first | with_reducible refine St.drewN ?_ _ | with_reducible refine St.drew ?_ | with_reducible refine St.alloc ?_ _); first | with_reducible exact H.out | with_reducible exact H.out.p1 | with_reducible exact H.out.p2 | with_reducible exact H.out.p3 | with_reducible exact H.out.p4 | with_reducible exact H.out.p5))).mono ?_; rintro e wn ⟨rfl, h⟩; replace H := Lib.hid h; clear h; have f0 := H.out.freeOf (b := w.heap.size) (c := #[.bool false, .string ⟨#[]⟩]) (T := 34) (by simp) 0; have f1 := H.out.freeOf (b := w.heap.size) (c := #[.bool false, .string ⟨#[]⟩]) (T := 34) (by simp) 1; have c0 := H.out.cellOf (b := w.heap.size) (c := #[.bool false, .string ⟨#[]⟩]) (T := 34) (by simp) 0; have c1 := H.out.cellOf (b := w.heap.size) (c := #[.bool false, .string ⟨#[]⟩]) (T := 34) (by simp) 1; simp at c0 c1; unfold bv))
  · have hn : n = -1 := by simpa using ‹(n == -1) = true›
    have e : i.tk n = (BlobS.none, i) := if_pos hn
    rw [e]
    refine bodyPost_ret (v := bv BlobS.none) (by simp [results, Tryd.results62, go_sem, bv, c0, c1]) rfl ⟨rfl, ?_⟩
    exact ((H.out.rawSet 0 _).rawSet 1 _).drop
  · have hn : n ≠ -1 := by simpa using ‹(n == -1) = false›
    have e : i.tk n = (⟨false, (i.take n).1⟩, (i.take n).2) := if_neg hn
    rw [e]
    refine bodyPost_ret (v := bv ⟨false, (i.take n).1⟩) (by simp [results, Tryd.results62, go_sem, bv, c0, c1]) rfl ⟨rfl, ?_⟩
    exact ((H.out.p1.rawSet 0 _).rawSet 1 _).drop

set_option maxHeartbeats 1000000 in
set_option maxRecDepth 100000 in
theorem blob_bytes (p : Nat) (i : InS) (b : BlobS) {W0 w : World} {K : Know} {L : List Res} (h : St W0 w K (.inp p i :: L)) :
    Calls Tryd.prog 51 #[inPtr p, bv b] w fun en w' => en = .returned (.string (bb (i.bytes b).1)) ∧ St W0 w' K (.inp p (i.bytes b).2 :: L) := by
  obtain ⟨n, d⟩ := b
  cases n
  · have H := Lib.hid (h.allocRaw #[.bool false, .string (bb d)] 34)
    clear h
    go_enter Tryd.func51, Tryd.ntmps51
    unfold bv
    go_wp2_with (go_at_call 34; refine (s_fail _ _ _ (by first | (first | with_reducible exact H.out | with_reducible exact H.out.p1 | with_reducible exact H.out.p2 | with_reducible exact H.out.p3 | with_reducible exact H.out.p4 | with_reducible exact H.out.p5) | ((repeat first | with_reducible refine St.drewN ?_ _ | with_reducible refine St.drew ?_ | with_reducible refine St.alloc ?_ _); first | with_reducible exact H.out | with_reducible exact H.out.p1 | with_reducible exact H.out.p2 | with_reducible exact H.out.p3 | with_reducible exact H.out.p4 | with_reducible exact H.out.p5))).mono ?_; rintro e wn ⟨rfl, h⟩; replace H := Lib.hid h; clear h; have c1 := H.out.cellOf (b := w.heap.size) (c := #[.bool false, .string (bb d)]) (T := 34) (by simp) 1; simp at c1)
    go_ret
    exact ⟨rfl, H.out.drop⟩
  · have H := Lib.hid (h.allocRaw #[.bool true, .string (bb d)] 34)
    clear h
    go_enter Tryd.func51, Tryd.ntmps51
    unfold bv
    go_wp2_with (go_at_call 34; refine (s_fail _ _ _ (by first | (first | with_reducible exact H.out | with_reducible exact H.out.p1 | with_reducible exact H.out.p2 | with_reducible exact H.out.p3 | with_reducible exact H.out.p4 | with_reducible exact H.out.p5) | ((repeat first | with_reducible refine St.drewN ?_ _ | with_reducible refine St.drew ?_ | with_reducible refine St.alloc ?_ _); first | with_reducible exact H.out | with_reducible exact H.out.p1 | with_reducible exact H.out.p2 | with_reducible exact H.out.p3 | with_reducible exact H.out.p4 | with_reducible exact H.out.p5))).mono ?_; rintro e wn ⟨rfl, h⟩; replace H := Lib.hid h; clear h; have c1 := H.out.cellOf (b := w.heap.size) (c := #[.bool true, .string (bb d)]) (T := 34) (by simp) 1; simp at c1)
    go_ret
    exact ⟨rfl, H.out.p1.drop⟩

set_option maxHeartbeats 1000000 in
set_option maxRecDepth 100000 in
theorem blob_fixed (p : Nat) (i : InS) (n : Int) {W0 w : World} {K : Know} {L : List Res} (h : St W0 w K (.inp p i :: L)) :
    Calls Tryd.prog 52 #[inPtr p, .int .i64 n] w fun en w' => en = .returned (bv (i.fixed n).1) ∧ St W0 w' K (.inp p (i.fixed n).2 :: L) := by
  have H := Lib.hid (h.allocRaw #[.bool false, .string ⟨#[]⟩] 34)
  clear h
  go_enter Tryd.func52, Tryd.ntmps52
  go_wp2_with (first
    | (go_at_call 33; refine (s_int _ _ _ (by first | (first | with_reducible exact H.out | with_reducible exact H.out.p1 | with_reducible exact H.out.p2 | with_reducible exact H.out.p3 | with_reducible exact H.out.p4 | with_reducible exact H.out.p5) | ((repeat first | with_reducible refine St.drewN ?_ _ | with_reducible refine St.drew ?_ | with_reducible refine St.alloc ?_ _); first | with_reducible exact H.out | with_reducible exact H.out.p1 | with_reducible exact H.out.p2 | with_reducible exact H.out.p3 | with_reducible exact H.out.p4 | with_reducible exact H.out.p5))).mono ?_; rintro e wn ⟨rfl, h⟩; replace H := Lib.hid h; clear h; have f0 := H.out.freeOf (b := w.heap.size) (c := #[.bool false, .string ⟨#[]⟩]) (T := 34) (by simp) 0; have f1 := H.out.freeOf (b := w.heap.size) (c := #[.bool false, .string ⟨#[]⟩]) (T := 34) (by simp) 1; have c0 := H.out.cellOf (b := w.heap.size) (c := #[.bool false, .string ⟨#[]⟩]) (T := 34) (by simp) 0; have c1 := H.out.cellOf (b := w.heap.size) (c := #[.bool false, .string ⟨#[]⟩]) (T := 34) (by simp) 1; simp at c0 c1)
    | (go_at_call 62; refine (blob_take _ _ _ (by first | (first | with_reducible exact H.out | with_reducible exact H.out.p1 | with_reducible exact H.out.p2 | with_reducible exact H.out.p3 | with_reducible exact H.out.p4 | with_reducible exact H.out.p5) | ((repeat first | with_reducible refine St.drewN ?_ _ | with_reducible refine St.drew ?_ | with_reducible refine St.alloc ?_ _); first | with_reducible exact H.out | with_reducible exact H.out.p1 | with_reducible exact H.out.p2 | with_reducible exact H.out.p3 | with_reducible exact H.out.p4 | with_reducible exact H.out.p5))).mono ?_; rintro e wn ⟨rfl, h⟩; replace H := Lib.hid h; clear h; have f0 := H.out.freeOf (b := w.heap.size) (c := #[.bool false, .string ⟨#[]⟩]) (T := 34) (by simp) 0; have f1 := H.out.freeOf (b := w.heap.size) (c := #[.bool false, .string ⟨#[]⟩]) (T := 34) (by simp) 1; have c0 := H.out.cellOf (b := w.heap.size) (c := #[.bool false, .string ⟨#[]⟩]) (T := 34) (by simp) 0; have c1 := H.out.cellOf (b := w.heap.size) (c := #[.bool false, .string ⟨#[]⟩]) (T := 34) (by simp) 1; simp at c0 c1; unfold bv))
  refine bodyPost_ret (v := bv (i.fixed n).1) (by simp [results, Tryd.results52, go_sem, bv, c0, c1]; exact ⟨rfl, rfl⟩) rfl ⟨rfl, ?_⟩
  exact ((H.out.p1.rawSet 0 _).rawSet 1 _).drop

set_option maxHeartbeats 1000000 in
set_option maxRecDepth 100000 in
theorem blob_text (p : Nat) (i : InS) {W0 w : World} {K : Know} {L : List Res} (h : St W0 w K (.inp p i :: L)) :
    Calls Tryd.prog 35 #[inPtr p] w fun en w' => en = .returned (.string (bb i.text.1)) ∧ St W0 w' K (.inp p i.text.2 :: L) := by
  have H := Lib.hid h
  clear h
  go_enter Tryd.func35, Tryd.ntmps35
  go_wp2_with (first
    | (go_at_call 52; refine (blob_fixed _ _ 2 (by first | (first | with_reducible exact H.out | with_reducible exact H.out.p1 | with_reducible exact H.out.p2 | with_reducible exact H.out.p3 | with_reducible exact H.out.p4 | with_reducible exact H.out.p5) | ((repeat first | with_reducible refine St.drewN ?_ _ | with_reducible refine St.drew ?_ | with_reducible refine St.alloc ?_ _); first | with_reducible exact H.out | with_reducible exact H.out.p1 | with_reducible exact H.out.p2 | with_reducible exact H.out.p3 | with_reducible exact H.out.p4 | with_reducible exact H.out.p5))).mono ?_; rintro e wn ⟨rfl, h⟩; replace H := Lib.hid h; clear h)
    | (go_at_call 51; refine (blob_bytes _ _ (i.fixed 2).1 (by first | (first | with_reducible exact H.out | with_reducible exact H.out.p1 | with_reducible exact H.out.p2 | with_reducible exact H.out.p3 | with_reducible exact H.out.p4 | with_reducible exact H.out.p5) | ((repeat first | with_reducible refine St.drewN ?_ _ | with_reducible refine St.drew ?_ | with_reducible refine St.alloc ?_ _); first | with_reducible exact H.out | with_reducible exact H.out.p1 | with_reducible exact H.out.p2 | with_reducible exact H.out.p3 | with_reducible exact H.out.p4 | with_reducible exact H.out.p5))).mono ?_; rintro e wn ⟨rfl, h⟩; replace H := Lib.hid h; clear h))
  go_ret
  exact ⟨rfl, H.out⟩
end Go.Proofs.YtmpehoebgifmnaaDoor
