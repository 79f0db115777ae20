/- Contracts of package blob: writing. -/
import Derived.Test.YtmpehoebgifmnaaDoorVBack
namespace Go.Proofs.YtmpehoebgifmnaaDoor
open Go.RowKit

/-- Bytes, or none. -/
structure BlobS where
  null : Bool
  data : Bs
deriving DecidableEq
def bv (b : BlobS) : Value := .agg #[.bool b.null, .string (bb b.data)]
def BlobS.right (b : BlobS) : Bool := !b.null || b.data.isEmpty
def BlobS.len (b : BlobS) : Int := if b.null then -1 else b.data.length
def BlobS.none : BlobS := ⟨true, []⟩

theorem Holds.rawMem {w : World} {b : Nat} {c : Array Value} {T : TypeId} : ∀ {L : List Res} {S : Nat → Prop}, Holds L w S → .raw b c T ∈ L → w.heap[b]? = some (.cells c T (0, 0))
  | [], _, _, hm => by cases hm
  | r :: L, S, ⟨S1, S2, h1, h2, _⟩, hm => by
    cases hm with
    | head => exact h1.1
    | tail _ hm => exact Holds.rawMem h2 hm
theorem St.rawMem {W0 w : World} {K : Know} {L : List Res} {b : Nat} {c : Array Value} {T : TypeId} (h : St W0 w K L) (hm : .raw b c T ∈ L) : w.heap[b]? = some (.cells c T (0, 0)) := by
  obtain ⟨_, S, F, hh, _⟩ := h
  exact hh.rawMem hm
theorem St.cellOf {W0 w : World} {K : Know} {L : List Res} {b : Nat} {c : Array Value} {T : TypeId} (h : St W0 w K L) (hm : .raw b c T ∈ L) (j : Nat) : w.cell? ⟨b, j, none⟩ = c[j]? := cell_at (h.rawMem hm) j
theorem St.freeOf {W0 w : World} {K : Know} {L : List Res} {b : Nat} {c : Array Value} {T : TypeId} (h : St W0 w K L) (hm : .raw b c T ∈ L) (j : Nat) : w.frozen? ⟨b, j, none⟩ = false := free_at (h.rawMem hm) j

theorem St.cast {W0 w : World} {K : Know} {L : List Res} {L' : List Res} (h : St W0 w K L) (e : L = L') : St W0 w K L' := e ▸ h
theorem OutS.len_fail (o : OutS) (e : Int) : (o.fail e).bytes.length = o.bytes.length := by unfold OutS.fail; split <;> rfl
theorem OutS.len_put (o : OutS) (s : Bs) : (o.put s).bytes.length ≤ o.bytes.length + s.length := by unfold OutS.put; split <;> simp
theorem OutS.len_int (o : OutS) (n size : Int) : (o.int n size).bytes.length ≤ o.bytes.length + 8 := by
  unfold OutS.int
  split
  · rename_i h
    have := o.len_put (beBytes n size.toNat)
    rw [beBytes_length] at this
    have := h.2.1
    omega
  · rw [OutS.len_fail]; omega
theorem OutS.ok_fail {o : OutS} {e : Int} {n : Nat} (h : o.ok n) : (o.fail e).ok n := by unfold OutS.ok at *; rw [OutS.len_fail]; exact h
theorem OutS.ok_mono {o : OutS} {n m : Nat} (h : o.ok n) (hm : m ≤ n) : o.ok m := by unfold OutS.ok at *; omega
theorem OutS.ok_put {o : OutS} {s : Bs} {n m : Nat} (h : o.ok n) (hm : s.length + m ≤ n) : (o.put s).ok m := by unfold OutS.ok at *; have := o.len_put s; omega
theorem OutS.ok_int {o : OutS} {a b : Int} {n m : Nat} (h : o.ok n) (hm : 8 + m ≤ n) : (o.int a b).ok m := by unfold OutS.ok at *; have := o.len_int a b; omega
theorem OutS.len_putInt (o : OutS) (n : Int) (h : -9223372036854775808 ≤ n ∧ n < 9223372036854775808) : (o.putInt n).bytes.length ≤ o.bytes.length + 10 := by
  unfold OutS.putInt
  split
  · have := o.len_put (putU (foldN n))
    have := putU_len _ (foldN_lt h.1 h.2)
    omega
  · rw [OutS.len_fail]; omega
theorem OutS.ok_putInt {o : OutS} {a : Int} {n m : Nat} (h : o.ok n) (hm : 10 + m ≤ n) (ha : -9223372036854775808 ≤ a ∧ a < 9223372036854775808) : (o.putInt a).ok m := by unfold OutS.ok at *; have := o.len_putInt a ha; omega

set_option maxHeartbeats 1000000 in
set_option maxRecDepth 100000 in
theorem blob_of (s : Bs) {W0 w : World} {K : Know} {L : List Res} (h : St W0 w K L) :
    Calls Tryd.prog 18 #[.string (bb s)] w fun en w' => en = .returned (bv ⟨false, s⟩) ∧ St W0 w' K L := by
  have H := Lib.hid h
  clear h
  go_enter Tryd.func18, Tryd.ntmps18
  go_wp2
  refine bodyPost_ret (v := bv ⟨false, s⟩) (by simp [results, Tryd.results18, go_sem, bv]) rfl ⟨rfl, ?_⟩
  exact H.out.alloc _

set_option maxHeartbeats 1000000 in
set_option maxRecDepth 100000 in
theorem blob_none {W0 w : World} {K : Know} {L : List Res} (h : St W0 w K L) :
    Calls Tryd.prog 19 #[] w fun en w' => en = .returned (bv BlobS.none) ∧ St W0 w' K L := by
  have H := Lib.hid h
  clear h
  go_enter Tryd.func19, Tryd.ntmps19
  go_wp2
  refine bodyPost_ret (v := bv BlobS.none) (by simp [results, Tryd.results19, go_sem, bv, BlobS.none]; rfl) rfl ⟨rfl, ?_⟩
  exact H.out.alloc _

set_option maxHeartbeats 1000000 in
set_option maxRecDepth 100000 in
theorem blob_right (b : BlobS) {W0 w : World} {K : Know} {L : List Res} (h : St W0 w K L) :
    Calls Tryd.prog 37 #[bv b] w fun en w' => en = .returned (.bool b.right) ∧ St W0 w' K L := by
  have H := Lib.hid h
  clear h
  obtain ⟨n, d⟩ := b
  cases n
  · go_enter Tryd.func37, Tryd.ntmps37
    unfold bv
    go_wp2
    go_ret
    exact ⟨rfl, H.out.alloc _⟩
  · go_enter Tryd.func37, Tryd.ntmps37
    unfold bv
    go_wp2
    go_ret
    exact ⟨by cases d <;> rfl, H.out.alloc _⟩

set_option maxHeartbeats 1000000 in
set_option maxRecDepth 100000 in
theorem blob_length (b : BlobS) {W0 w : World} {K : Know} {L : List Res} (h : St W0 w K L) :
    Calls Tryd.prog 58 #[bv b] w fun en w' => en = .returned (.int .i64 b.len) ∧ St W0 w' K L := by
  have H := Lib.hid h
  clear h
  obtain ⟨n, d⟩ := b
  cases n
  · go_enter Tryd.func58, Tryd.ntmps58
    unfold bv
    go_wp2
    go_ret
    exact ⟨rfl, H.out.alloc _⟩
  · go_enter Tryd.func58, Tryd.ntmps58
    unfold bv
    go_wp2
    go_ret
    exact ⟨rfl, H.out.alloc _⟩

def OutS.putData (o : OutS) (b : BlobS) : OutS := (if b.right then o else o.fail 4).put b.data
def OutS.putFixed (o : OutS) (b : BlobS) (size : Int) : OutS := (o.int b.len size).putData b
def OutS.putVaried (o : OutS) (b : BlobS) : OutS := (o.putInt b.len).putData b

set_option maxHeartbeats 1000000 in
set_option maxRecDepth 100000 in
theorem blob_putData (p : Nat) (o : OutS) (b : BlobS) {W0 w : World} {K : Know} {L : List Res} (h : St W0 w K (.out p o :: L)) (hr : o.ok b.data.length) :
    Calls Tryd.prog 59 #[outPtr p, bv b] w fun en w' => en = .returned (.tuple #[]) ∧ St W0 w' K (.out p (o.putData b) :: L) := by
  have H := Lib.hid (h.allocRaw #[.bool b.null, .string (bb b.data)] 34)
  have HR := Lib.hid hr
  clear h hr
  go_enter Tryd.func59, Tryd.ntmps59
  unfold bv
  go_wp2_with (first
    | (go_at_call 37; refine (blob_right b (by first | (first | with_reducible exact H.out | with_reducible exact H.out.p1 | with_reducible exact H.out.p2 | with_reducible exact H.out.p3 | with_reducible exact H.out.p4 | with_reducible exact H.out.p5) | ((repeat first | with_reducible refine St.drewN ?_ _ | with_reducible refine St.drew ?_ | with_reducible refine St.alloc ?_ _); first | with_reducible exact H.out | with_reducible exact H.out.p1 | with_reducible exact H.out.p2 | with_reducible exact H.out.p3 | with_reducible exact H.out.p4 | with_reducible exact H.out.p5))).mono ?_; rintro e wn ⟨rfl, h⟩; replace H := Lib.hid h; clear h; have c1 := H.out.cellOf (b := w.heap.size) (c := #[.bool b.null, .string (bb b.data)]) (T := 34) (by simp) 1; simp at c1)
    | (go_at_call 44; refine (so_fail _ _ _ (by first | (first | with_reducible exact H.out | with_reducible exact H.out.p1 | with_reducible exact H.out.p2 | with_reducible exact H.out.p3 | with_reducible exact H.out.p4 | with_reducible exact H.out.p5) | ((repeat first | with_reducible refine St.drewN ?_ _ | with_reducible refine St.drew ?_ | with_reducible refine St.alloc ?_ _); first | with_reducible exact H.out | with_reducible exact H.out.p1 | with_reducible exact H.out.p2 | with_reducible exact H.out.p3 | with_reducible exact H.out.p4 | with_reducible exact H.out.p5))).mono ?_; rintro e wn ⟨rfl, h⟩; replace H := Lib.hid h; clear h; have c1 := H.out.cellOf (b := w.heap.size) (c := #[.bool b.null, .string (bb b.data)]) (T := 34) (by simp) 1; simp at c1)
    | (go_at_call 77; refine (so_put _ _ _ (by first | (first | with_reducible exact H.out | with_reducible exact H.out.p1 | with_reducible exact H.out.p2 | with_reducible exact H.out.p3 | with_reducible exact H.out.p4 | with_reducible exact H.out.p5) | ((repeat first | with_reducible refine St.drewN ?_ _ | with_reducible refine St.drew ?_ | with_reducible refine St.alloc ?_ _); first | with_reducible exact H.out | with_reducible exact H.out.p1 | with_reducible exact H.out.p2 | with_reducible exact H.out.p3 | with_reducible exact H.out.p4 | with_reducible exact H.out.p5)) (by first | exact HR.out | exact OutS.ok_fail HR.out)).mono ?_; rintro e wn ⟨rfl, h⟩; replace H := Lib.hid h; clear h))
  all_goals
    go_end0
    exact ⟨rfl, H.out.p1.drop.cast (by simp_all [OutS.putData])⟩

theorem BlobS.len_range (b : BlobS) (h : b.data.length ≤ 140737488355328) : -9223372036854775808 ≤ b.len ∧ b.len < 9223372036854775808 := by
  unfold BlobS.len
  split <;> omega
set_option maxHeartbeats 1000000 in
set_option maxRecDepth 100000 in
theorem blob_putFixed (p : Nat) (o : OutS) (b : BlobS) (size : Int) {W0 w : World} {K : Know} {L : List Res} (h : St W0 w K (.out p o :: L)) (hr : o.ok (b.data.length + 8)) :
    Calls Tryd.prog 46 #[outPtr p, bv b, .int .i64 size] w fun en w' => en = .returned (.tuple #[]) ∧ St W0 w' K (.out p (o.putFixed b size) :: L) := by
  have H := Lib.hid (h.allocRaw #[.bool b.null, .string (bb b.data)] 34)
  have HR := Lib.hid hr
  have HB := Lib.hid (b.len_range (by unfold OutS.ok at hr; omega))
  clear h hr
  go_enter Tryd.func46, Tryd.ntmps46
  unfold bv
  go_wp2_with (first
    | (go_at_call 58; refine (blob_length b (by first | (first | with_reducible exact H.out | with_reducible exact H.out.p1 | with_reducible exact H.out.p2 | with_reducible exact H.out.p3 | with_reducible exact H.out.p4 | with_reducible exact H.out.p5) | ((repeat first | with_reducible refine St.drewN ?_ _ | with_reducible refine St.drew ?_ | with_reducible refine St.alloc ?_ _); first | with_reducible exact H.out | with_reducible exact H.out.p1 | with_reducible exact H.out.p2 | with_reducible exact H.out.p3 | with_reducible exact H.out.p4 | with_reducible exact H.out.p5))).mono ?_; rintro e wn ⟨rfl, h⟩; replace H := Lib.hid h; clear h; have c0 := H.out.cellOf (b := w.heap.size) (c := #[.bool b.null, .string (bb b.data)]) (T := 34) (by simp) 0; have c1 := H.out.cellOf (b := w.heap.size) (c := #[.bool b.null, .string (bb b.data)]) (T := 34) (by simp) 1; simp at c0 c1)
    | (go_at_call 27; refine (so_int _ _ _ _ HB.out (by first | (first | with_reducible exact H.out | with_reducible exact H.out.p1 | with_reducible exact H.out.p2 | with_reducible exact H.out.p3 | with_reducible exact H.out.p4 | with_reducible exact H.out.p5) | ((repeat first | with_reducible refine St.drewN ?_ _ | with_reducible refine St.drew ?_ | with_reducible refine St.alloc ?_ _); first | with_reducible exact H.out | with_reducible exact H.out.p1 | with_reducible exact H.out.p2 | with_reducible exact H.out.p3 | with_reducible exact H.out.p4 | with_reducible exact H.out.p5)) (OutS.ok_mono HR.out (by omega))).mono ?_; rintro e wn ⟨rfl, h⟩; replace H := Lib.hid h; clear h; have c0 := H.out.cellOf (b := w.heap.size) (c := #[.bool b.null, .string (bb b.data)]) (T := 34) (by simp) 0; have c1 := H.out.cellOf (b := w.heap.size) (c := #[.bool b.null, .string (bb b.data)]) (T := 34) (by simp) 1; simp at c0 c1)
    | (go_at_call 59; refine (blob_putData _ _ b (by first | (first | with_reducible exact H.out | with_reducible exact H.out.p1 | with_reducible exact H.out.p2 | with_reducible exact H.out.p3 | with_reducible exact H.out.p4 | with_reducible exact H.out.p5) | ((repeat first | with_reducible refine St.drewN ?_ _ | with_reducible refine St.drew ?_ | with_reducible refine St.alloc ?_ _); first | with_reducible exact H.out | with_reducible exact H.out.p1 | with_reducible exact H.out.p2 | with_reducible exact H.out.p3 | with_reducible exact H.out.p4 | with_reducible exact H.out.p5)) (OutS.ok_int HR.out (by omega))).mono ?_; rintro e wn ⟨rfl, h⟩; replace H := Lib.hid h; clear h))
  go_end0
  exact ⟨rfl, H.out.p1.drop⟩

def OutS.putText (o : OutS) (s : Bs) : OutS := o.putFixed ⟨false, s⟩ 2
def OutS.putName (o : OutS) (s : Bs) : OutS := o.putVaried ⟨false, s⟩
set_option maxHeartbeats 1000000 in
set_option maxRecDepth 100000 in
theorem blob_putText (p : Nat) (o : OutS) (s : Bs) {W0 w : World} {K : Know} {L : List Res} (h : St W0 w K (.out p o :: L)) (hr : o.ok (s.length + 8)) :
    Calls Tryd.prog 28 #[outPtr p, .string (bb s)] w fun en w' => en = .returned (.tuple #[]) ∧ St W0 w' K (.out p (o.putText s) :: L) := by
  have H := Lib.hid h
  have HR := Lib.hid hr
  clear h hr
  go_enter Tryd.func28, Tryd.ntmps28
  go_wp2_with (first
    | (go_at_call 18; refine (blob_of s (by first | (first | with_reducible exact H.out | with_reducible exact H.out.p1 | with_reducible exact H.out.p2 | with_reducible exact H.out.p3 | with_reducible exact H.out.p4 | with_reducible exact H.out.p5) | ((repeat first | with_reducible refine St.drewN ?_ _ | with_reducible refine St.drew ?_ | with_reducible refine St.alloc ?_ _); first | with_reducible exact H.out | with_reducible exact H.out.p1 | with_reducible exact H.out.p2 | with_reducible exact H.out.p3 | with_reducible exact H.out.p4 | with_reducible exact H.out.p5))).mono ?_; rintro e wn ⟨rfl, h⟩; replace H := Lib.hid h; clear h)
    | (go_at_call 46; refine (blob_putFixed _ _ ⟨false, s⟩ 2 (by first | (first | with_reducible exact H.out | with_reducible exact H.out.p1 | with_reducible exact H.out.p2 | with_reducible exact H.out.p3 | with_reducible exact H.out.p4 | with_reducible exact H.out.p5) | ((repeat first | with_reducible refine St.drewN ?_ _ | with_reducible refine St.drew ?_ | with_reducible refine St.alloc ?_ _); first | with_reducible exact H.out | with_reducible exact H.out.p1 | with_reducible exact H.out.p2 | with_reducible exact H.out.p3 | with_reducible exact H.out.p4 | with_reducible exact H.out.p5)) HR.out).mono ?_; rintro e wn ⟨rfl, h⟩; replace H := Lib.hid h; clear h))
  go_end0
  exact ⟨rfl, H.out⟩
end Go.Proofs.YtmpehoebgifmnaaDoor
