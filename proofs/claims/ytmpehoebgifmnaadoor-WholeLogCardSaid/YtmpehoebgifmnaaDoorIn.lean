/- Contracts of package input. -/
import Derived.Test.YtmpehoebgifmnaaDoorRows
import Derived.Test.YtmpehoebgifmnaaDoorBase
import Derived.Test.YtmpehoebgifmnaaDoorNum
namespace Go.Proofs.YtmpehoebgifmnaaDoor
open Go.RowKit

/-- What an Input is. -/
structure InS where
  s : Bs
  pos : Nat
  err : Int
deriving DecidableEq

def InS.ok (i : InS) : Prop := i.pos ≤ i.s.length ∧ i.s.length ≤ 140737488355328
def InS.fail (i : InS) (e : Int) : InS := if i.err = 0 then { i with err := e } else i
def InS.left (i : InS) : Nat := i.s.length - i.pos

def IsIn (w : World) (b : Nat) (i : InS) : Prop :=
  w.heap[b]? = some (.cells #[.string (bb i.s), .int .i64 i.pos, .int .i64 i.err] 103 (0, 0)) ∧ i.ok

theorem IsIn.keeps {w w' : World} {b : Nat} {i : InS} {M : Nat → Prop} (h : IsIn w b i) (k : Keeps M w w') (hm : ¬ M b) : IsIn w' b i :=
  ⟨(k.block b (heap_lt h.1) hm).trans h.1, h.2⟩
theorem IsIn.drewN {w : World} {b : Nat} {i : InS} (h : IsIn w b i) (n : Nat) : IsIn (w.drewN n) b i := h
theorem IsIn.lt {w : World} {b : Nat} {i : InS} (h : IsIn w b i) : b < w.heap.size := heap_lt h.1

abbrev inPtr (b : Nat) : Value := .pointer (some ⟨b, 0, none⟩)

set_option maxHeartbeats 400000 in
theorem in_fail (b : Nat) (i : InS) (e : Int) (w : World) (h : IsIn w b i) :
    Calls Tryd.prog 34 #[inPtr b, .int .i64 e] w fun en w' => en = .returned (.tuple #[]) ∧ IsIn w' b (i.fail e) ∧ Keeps (· = b) w w' := by
  obtain ⟨s, p, err⟩ := i
  have hc2 := cell_at h.1 2
  have hf2 := free_at h.1 2
  simp at hc2
  obtain ⟨hb, ho⟩ := h
  have HB := Lib.hid hb
  clear hb
  go_enter Tryd.func34, Tryd.ntmps34
  by_cases h : err = 0
  · subst h
    go_wp2
    go_end0
    refine ⟨rfl, ⟨?_, ho⟩, (Keeps.refl _ _).setCell _ _ (.inl rfl)⟩
    rw [heap_setCell_self HB.out]
    simp [InS.fail]
  · go_wp2
    go_end0
    exact ⟨rfl, by unfold InS.fail; rw [if_neg h]; exact ⟨HB.out, ho⟩, Keeps.refl _ _⟩

set_option maxHeartbeats 400000 in
theorem in_left (b : Nat) (i : InS) (w : World) (h : IsIn w b i) :
    Calls Tryd.prog 53 #[inPtr b] w fun en w' => en = .returned (.int .i64 i.left) ∧ ∃ n, w' = w.drewN n := by
  obtain ⟨s, p, err⟩ := i
  have hc0 := cell_at h.1 0
  have hc1 := cell_at h.1 1
  simp at hc0 hc1
  obtain ⟨hb, ho1, ho2⟩ := h
  simp only at ho1 ho2
  clear hb
  go_enter Tryd.func53, Tryd.ntmps53
  go_wp2
  go_quiet (fail)
  go_wp2
  go_ret
  exact ⟨ret_int (by simp only [InS.left]; omega), _, rfl⟩


def InS.take (i : InS) (n : Int) : Bs × InS :=
  if i.err ≠ 0 then ([], i)
  else if n < 0 then ([], { i with err := 4 })
  else if (i.left : Int) < n then ([], { i with err := 1 })
  else ((i.s.drop i.pos).take n.toNat, { i with pos := i.pos + n.toNat })

theorem IsIn.cells {w : World} {b : Nat} {i : InS} (h : IsIn w b i) :
    w.cell? ⟨b, 0, none⟩ = some (.string (bb i.s)) ∧ w.cell? ⟨b, 1, none⟩ = some (.int .i64 i.pos) ∧ w.cell? ⟨b, 2, none⟩ = some (.int .i64 i.err) ∧
    w.frozen? ⟨b, 0, none⟩ = false ∧ w.frozen? ⟨b, 1, none⟩ = false ∧ w.frozen? ⟨b, 2, none⟩ = false := by
  have h0 := cell_at h.1 0
  have h1 := cell_at h.1 1
  have h2 := cell_at h.1 2
  simp at h0 h1 h2
  exact ⟨h0, h1, h2, free_at h.1 0, free_at h.1 1, free_at h.1 2⟩

set_option maxHeartbeats 400000 in
theorem in_err (b : Nat) (i : InS) (w : World) (h : IsIn w b i) :
    Calls Tryd.prog 65 #[inPtr b] w fun en w' => en = .returned (.int .i64 i.err) ∧ w = w' := by
  obtain ⟨_, _, hc2, _⟩ := h.cells
  clear h
  go_enter Tryd.func65, Tryd.ntmps65
  go_wp2
  go_ret
  exact ⟨rfl, rfl⟩

set_option maxHeartbeats 400000 in
theorem in_new (s : Bs) (w : World) (hs : s.length ≤ 140737488355328) :
    Calls Tryd.prog 32 #[.string (bb s)] w fun en w' => en = .returned (inPtr w.heap.size) ∧ IsIn w' w.heap.size ⟨s, 0, 0⟩ ∧ Keeps (fun _ => False) w w' := by
  have HS := Lib.hid hs
  clear hs
  go_enter Tryd.func32, Tryd.ntmps32
  go_wp2
  go_ret
  exact ⟨rfl, ⟨heap_alloc_new w _, Nat.zero_le _, HS.out⟩, (Keeps.refl _ _).alloc _⟩

theorem InS.fail_err (i : InS) (e : Int) (he : e ≠ 0) : (i.fail e).err ≠ 0 := by
  unfold InS.fail; split <;> simp_all

theorem InS.take_err {i : InS} {n : Int} (h : i.err ≠ 0) : i.take n = ([], i) := if_pos h
theorem InS.take_neg {i : InS} {n : Int} (hn : n < 0) : i.take n = ([], i.fail 4) := by
  unfold InS.take InS.fail; split <;> simp_all
theorem InS.take_short {i : InS} {n : Int} (hn : ¬ n < 0) (hl : (i.left : Int) < n) : i.take n = ([], i.fail 1) := by
  unfold InS.take InS.fail; split <;> simp_all
theorem InS.take_ok {i : InS} {n : Int} (he : i.err = 0) (hn : ¬ n < 0) (hl : ¬ (i.left : Int) < n) :
    i.take n = ((i.s.drop i.pos).take n.toNat, { i with pos := i.pos + n.toNat }) := by
  unfold InS.take; simp [he, hn, hl]

set_option maxHeartbeats 400000 in
theorem in_take (b : Nat) (i : InS) (n : Int) (w : World) (h : IsIn w b i) :
    Calls Tryd.prog 50 #[inPtr b, .int .i64 n] w fun en w' => en = .returned (.string (bb (i.take n).1)) ∧ IsIn w' b (i.take n).2 ∧ Keeps (· = b) w w' := by
  have H := Lib.hid h
  clear h
  by_cases hn : n < 0
  · have HE := i.fail_err 4 (by decide)
    go_enter Tryd.func50, Tryd.ntmps50
    go_wp2_with (go_at_call 34; refine (in_fail _ _ _ _ H.out).mono ?_; rintro e w1 ⟨rfl, h1, k1⟩; obtain ⟨_, _, hc2, _⟩ := h1.cells; have H1 := Lib.hid h1; have K1 := Lib.hid k1; clear h1 k1)
    go_ret
    rw [InS.take_neg hn]
    exact ⟨rfl, H1.out, K1.out⟩
  · by_cases hl : (i.left : Int) < n
    · have HE := i.fail_err 1 (by decide)
      go_enter Tryd.func50, Tryd.ntmps50
      go_wp2_with (first
       | (go_at_call 53; refine (in_left _ _ _ H.out).mono ?_; rintro e w1 ⟨rfl, n1, rfl⟩)
       | (go_at_call 34; refine (in_fail _ _ _ _ (H.out.drewN _)).mono ?_; rintro e w1 ⟨rfl, h1, k1⟩; obtain ⟨_, _, hc2, _⟩ := h1.cells; have H1 := Lib.hid h1; have K1 := Lib.hid k1; clear h1 k1))
      go_ret
      rw [InS.take_short (by omega) hl]
      exact ⟨rfl, H1.out, ((Keeps.refl _ _).drewN _).trans K1.out⟩
    · by_cases he : i.err = 0
      · obtain ⟨m, rfl⟩ : ∃ m : Nat, n = m := ⟨n.toNat, by omega⟩
        have hle : i.pos + m ≤ i.s.length := by
          have := H.out.2.1
          simp only [InS.left] at hl
          omega
        have hmx := H.out.2.2
        have hadd : IntKind.i64.wrap ((i.pos : Int) + m) = i.pos + m := IntWalk.i64_in _ (by omega)
        obtain ⟨hc0, hc1, hc2, hf0, hf1, hf2⟩ := H.out.cells
        go_enter Tryd.func50, Tryd.ntmps50
        go_wp2_with (first
         | (go_at_call 53; refine (in_left _ _ _ H.out).mono ?_; rintro e w1 ⟨rfl, n1, rfl⟩))
        go_quiet (fail)
        go_wp2
        go_ret
        rw [InS.take_ok (n := (m : Int)) he (by omega) (by omega)]
        refine ⟨ret_str' ?_, ⟨?_, hle, hmx⟩, ?_⟩
        · simp
        · refine (heap_setCell_self (w := w.drewN n1) H.out.1 _).trans ?_
          simp
        · exact (((Keeps.refl (· = b) w).drewN _).setCell _ _ (.inl rfl)).drewN _
      · go_enter Tryd.func50, Tryd.ntmps50
        obtain ⟨hc0, hc1, hc2, hf0, hf1, hf2⟩ := H.out.cells
        go_wp2_with (first
         | (go_at_call 53; refine (in_left _ _ _ H.out).mono ?_; rintro e w1 ⟨rfl, n1, rfl⟩))
        go_ret
        rw [InS.take_err he]
        exact ⟨rfl, H.out, (Keeps.refl _ _).drewN _⟩


/-- The signed number that bytes are. -/
def sByte (c : UInt8) : Int := if c.toNat < 128 then c.toNat else (c.toNat : Int) - 256
def sInt : Bs → Int
  | [] => 0
  | c :: t => t.foldl (fun a c => a * 256 + c.toNat) (sByte c)
def InS.int (i : InS) (size : Int) : Int × InS :=
  if size < 1 ∨ 8 < size then (0, i.fail 4) else (sInt (i.take size).1, (i.take size).2)

theorem wrap_sByte (c : UInt8) : wrap64 (IntKind.i8.wrap (c.toNat : Int)) = sByte c := by
  have := c.toNat_lt
  unfold sByte
  split <;> simp only [wrap64, IntKind.wrap, IntKind.bits, IntKind.signed] <;> simp <;> omega

theorem sInt_snoc (c : UInt8) (l : Bs) (d : UInt8) : sInt (c :: (l ++ [d])) = sInt (c :: l) * 256 + d.toNat := by
  simp [sInt]

theorem foldl_bound : ∀ (l : Bs) (a B : Int), -B ≤ a → a < B → -(B * 256 ^ l.length) ≤ l.foldl (fun a c => a * 256 + (c.toNat : Int)) a ∧ l.foldl (fun a c => a * 256 + (c.toNat : Int)) a < B * 256 ^ l.length
  | [], a, B, h0, h1 => by simp; omega
  | d :: l, a, B, h0, h1 => by
    have := d.toNat_lt
    have h := foldl_bound l (a * 256 + d.toNat) (B * 256) (by omega) (by omega)
    have e : B * 256 ^ (d :: l).length = B * 256 * 256 ^ l.length := by rw [List.length_cons, Int.pow_succ, Int.mul_assoc, Int.mul_comm 256]
    rw [e]
    exact h

theorem sInt_bound_pow (c : UInt8) (l : Bs) : -(128 * 256 ^ l.length : Int) ≤ sInt (c :: l) ∧ sInt (c :: l) < 128 * 256 ^ l.length := by
  have := c.toNat_lt
  exact foldl_bound l (sByte c) 128 (by unfold sByte; split <;> omega) (by unfold sByte; split <;> omega)

theorem sInt_bound (c : UInt8) (l : Bs) (h : l.length ≤ 7) : -9223372036854775808 ≤ sInt (c :: l) ∧ sInt (c :: l) < 9223372036854775808 := by
  have hb := sInt_bound_pow c l
  have : (256 : Int) ^ l.length ≤ 256 ^ 7 := by have := Nat.pow_le_pow_right (n := 256) (by decide) h; have h2 : ((256 ^ l.length : Nat) : Int) ≤ ((256 ^ 7 : Nat) : Int) := Int.ofNat_le.2 this; rwa [Int.natCast_pow] at h2
  omega

theorem wrap64_in (x : Int) (h0 : -9223372036854775808 ≤ x) (h1 : x < 9223372036854775808) : wrap64 x = x := by
  simp only [wrap64]; omega

set_option maxHeartbeats 400000 in
set_option maxRecDepth 100000 in
theorem in_int (b : Nat) (i : InS) (n : Int) (w : World) (h : IsIn w b i) :
    Calls Tryd.prog 33 #[inPtr b, .int .i64 n] w fun en w' => en = .returned (.int .i64 (i.int n).1) ∧ IsIn w' b (i.int n).2 ∧ Keeps (· = b) w w' := by
  have H := Lib.hid h
  clear h
  by_cases hn : n < 1
  · go_enter Tryd.func33, Tryd.ntmps33
    go_wp2_with (go_at_call 34; refine (in_fail _ _ _ _ H.out).mono ?_; rintro e w1 ⟨rfl, h1, k1⟩; have H1 := Lib.hid h1; have K1 := Lib.hid k1; clear h1 k1)
    go_ret
    have : i.int n = (0, i.fail 4) := if_pos (.inl hn)
    rw [this]
    exact ⟨rfl, H1.out, K1.out⟩
  · by_cases hn2 : 8 < n
    · go_enter Tryd.func33, Tryd.ntmps33
      go_wp2_with (go_at_call 34; refine (in_fail _ _ _ _ H.out).mono ?_; rintro e w1 ⟨rfl, h1, k1⟩; have H1 := Lib.hid h1; have K1 := Lib.hid k1; clear h1 k1)
      go_ret
      have : i.int n = (0, i.fail 4) := if_pos (.inr hn2)
      rw [this]
      exact ⟨rfl, H1.out, K1.out⟩
    · have hi : i.int n = (sInt (i.take n).1, (i.take n).2) := if_neg (by omega)
      have hlen : (i.take n).1.length ≤ 8 := by unfold InS.take; split; simp; split; simp; split; simp; simp; omega
      obtain ⟨t, ht⟩ : ∃ t, t = i.take n := ⟨_, rfl⟩
      rw [hi]
      rw [← ht] at hlen ⊢
      clear hi
      have HT := Lib.hid ht
      clear ht
      obtain ⟨s, i'⟩ := t
      cases s with
      | nil =>
        go_enter Tryd.func33, Tryd.ntmps33
        go_wp2_with (go_at_call 50; refine (in_take _ _ _ _ H.out).mono ?_; rw [← HT.out]; rintro e w1 ⟨rfl, h1, k1⟩; have H1 := Lib.hid h1; have K1 := Lib.hid k1; clear h1 k1)
        go_ret
        exact ⟨rfl, H1.out, K1.out⟩
      | cons c t =>
        go_enter Tryd.func33, Tryd.ntmps33
        go_wp2_with (go_at_call 50; refine (in_take _ _ _ _ H.out).mono ?_; rw [← HT.out]; rintro e w1 ⟨rfl, h1, k1⟩; have H1 := Lib.hid h1; have K1 := Lib.hid k1; clear h1 k1; obtain ⟨C, cap, hC, hconv⟩ := conv_bytes (P := Tryd.prog) w1 9 77 5 t Tryd.underlying9 Tryd.underlying77 Tryd.underlying5; have HC := Lib.hid hC; clear hC)
        go_loop [6, 30] (fun n i => ∃ k : Nat, k ≤ t.length ∧ i = .int .i64 k ∧ n = .int .i64 (sInt (c :: t.take k))) (fun _ i => t.length - (intOf i).toNat)
        case atStart => exact ⟨0, Nat.zero_le _, rfl, congrArg (Value.int .i64) (wrap_sByte c)⟩
        case round =>
          obtain ⟨k, hk, rfl, rfl⟩ := hrel
          by_cases hlt : k < t.length
          · have ht7 : t.length ≤ 7 := by simp at hlen; omega
            have hcell := (cell_at (heap_alloc_new w1 (.cells C 5 (C.size, C.size + 1))) k).trans (HC.out k hlt)
            have hb := sInt_bound c (t.take k) (by rw [List.length_take]; omega)
            have hs := sInt_snoc c (t.take k) t[k]
            have ht : t.take (k + 1) = t.take k ++ [t[k]] := by rw [List.take_succ_eq_append_getElem hlt]
            rw [← ht] at hs
            have HS := Lib.hid hs
            have hb2 := (sInt_bound c (t.take (k + 1)) (by rw [List.length_take]; omega))
            have HB := Lib.hid hb2
            clear hs ht hb hb2
            have hu := t[k].toNat_lt
            go_wp2
            go_round
            case rel =>
              refine ⟨k + 1, hlt, by go_num, ?_⟩
              rw [or_low _ _ (by omega) (by omega), HS.out]
              have := HB.out
              rw [HS.out] at this
              exact congrArg _ (wrap64_in _ this.1 this.2)
            case measure => simp [intOf]; omega
          · go_wp2
            go_ret
            rw [List.take_of_length_le (by omega)]
            exact ⟨rfl, H1.out.keeps (M := fun _ => False) (((Keeps.refl _ _).alloc _).drew) (by simp), K1.out.trans (((Keeps.refl _ _).alloc _).drew)⟩

def InS.count (i : InS) (size each : Int) : Int × InS :=
  let x := i.int size
  if x.1 < 0 then (0, x.2.fail 4)
  else if 0 < each ∧ (x.2.left : Int) / each < x.1 then (0, x.2.fail 1)
  else x

theorem sInt_range (l : Bs) (h : l.length ≤ 8) : -9223372036854775808 ≤ sInt l ∧ sInt l < 9223372036854775808 := by
  cases l with
  | nil => simp [sInt]
  | cons c t => exact sInt_bound c t (by simp at h; omega)

theorem InS.take_len (i : InS) (n : Int) : (i.take n).1.length ≤ n.toNat := by
  unfold InS.take; split; simp; split; simp; split; simp; simp; omega

theorem InS.fail_ok {i : InS} {e : Int} (h : i.ok) : (i.fail e).ok := by unfold InS.fail; split <;> exact h
theorem InS.take_okk {i : InS} {n : Int} (h : i.ok) : (i.take n).2.ok := by
  unfold InS.take
  split
  · exact h
  split
  · exact h
  split
  · exact h
  · refine ⟨?_, h.2⟩
    have := h.1
    simp only [InS.left] at *
    omega
theorem InS.int_ok (i : InS) (n : Int) (h : i.ok) : (i.int n).2.ok := by
  unfold InS.int
  split
  · exact fail_ok h
  · exact take_okk h

theorem InS.int_range (i : InS) (n : Int) : -9223372036854775808 ≤ (i.int n).1 ∧ (i.int n).1 < 9223372036854775808 := by
  unfold InS.int
  split
  · simp
  · exact sInt_range _ (by have := i.take_len n; omega)

def InS.close (i : InS) : InS := if 0 < i.left then i.fail 2 else i

set_option maxHeartbeats 400000 in
theorem in_close (b : Nat) (i : InS) (w : World) (h : IsIn w b i) :
    Calls Tryd.prog 36 #[inPtr b] w fun en w' => en = .returned (.int .i64 i.close.err) ∧ IsIn w' b i.close ∧ Keeps (· = b) w w' := by
  have H := Lib.hid h
  clear h
  by_cases hl : 0 < i.left
  · have e : i.close = i.fail 2 := if_pos hl
    rw [e]
    clear e
    go_enter Tryd.func36, Tryd.ntmps36
    go_wp2_with (first
     | (go_at_call 53; refine (in_left _ _ _ H.out).mono ?_; rintro e w1 ⟨rfl, n1, rfl⟩)
     | (go_at_call 34; refine (in_fail _ _ _ _ (H.out.drewN _)).mono ?_; rintro e w1 ⟨rfl, h1, k1⟩; obtain ⟨_, _, hc2, _⟩ := h1.cells; have H1 := Lib.hid h1; have K1 := Lib.hid k1; clear h1 k1))
    go_ret
    exact ⟨rfl, H1.out, ((Keeps.refl _ _).drewN _).trans K1.out⟩
  · have e : i.close = i := if_neg hl
    rw [e]
    clear e
    obtain ⟨hc0, hc1, hc2, hf0, hf1, hf2⟩ := H.out.cells
    go_enter Tryd.func36, Tryd.ntmps36
    go_wp2_with (first
     | (go_at_call 53; refine (in_left _ _ _ H.out).mono ?_; rintro e w1 ⟨rfl, n1, rfl⟩))
    go_ret
    exact ⟨rfl, H.out, (Keeps.refl _ _).drewN _⟩

set_option maxHeartbeats 400000 in
theorem in_count (b : Nat) (i : InS) (n m : Int) (w : World) (h : IsIn w b i) :
    Calls Tryd.prog 63 #[inPtr b, .int .i64 n, .int .i64 m] w fun en w' => en = .returned (.int .i64 (i.count n m).1) ∧ IsIn w' b (i.count n m).2 ∧ Keeps (· = b) w w' := by
  have H := Lib.hid h
  clear h
  obtain ⟨x, hx⟩ : ∃ x, x = i.int n := ⟨_, rfl⟩
  have hr := i.int_range n
  have hC : i.count n m = if x.1 < 0 then (0, x.2.fail 4) else if 0 < m ∧ (x.2.left : Int) / m < x.1 then (0, x.2.fail 1) else x := by rw [hx]; rfl
  rw [← hx] at hr
  have HX := Lib.hid hx
  clear hx
  obtain ⟨v, i'⟩ := x
  simp only at hr hC
  by_cases hn : v < 0
  · rw [if_pos hn] at hC
    rw [hC]
    clear hC
    go_enter Tryd.func63, Tryd.ntmps63
    go_wp2_with (first
     | (go_at_call 33; refine (in_int _ _ _ _ H.out).mono ?_; rw [← HX.out]; rintro e w1 ⟨rfl, h1, k1⟩; have H1 := Lib.hid h1; have K1 := Lib.hid k1; clear h1 k1)
     | (go_at_call 34; refine (in_fail _ _ _ _ H1.out).mono ?_; rintro e w2 ⟨rfl, h2, k2⟩; have H2 := Lib.hid h2; have K2 := Lib.hid k2; clear h2 k2))
    go_ret
    exact ⟨rfl, H2.out, K1.out.trans K2.out⟩
  · rw [if_neg hn] at hC
    by_cases hm : 0 < m
    · have hi' : i'.left ≤ 140737488355328 := by
        have : i'.ok := by
          have h2 := i.int_ok n H.out.2
          rw [← HX.out] at h2
          exact h2
        unfold InS.left
        have := this.2
        omega
      have h0 : (0 : Int) ≤ (i'.left : Int) / m := Int.ediv_nonneg (by omega) (by omega)
      have h1 : (i'.left : Int) / m ≤ i'.left := Int.ediv_le_self _ (by omega)
      have hq : wrap64 ((i'.left : Int) / m) = i'.left / m := wrap64_in _ (by omega) (by omega)
      by_cases hd : (i'.left : Int) / m < v
      · rw [if_pos ⟨hm, hd⟩] at hC
        rw [hC]
        clear hC
        go_enter Tryd.func63, Tryd.ntmps63
        go_wp2_with (first
         | (go_at_call 33; refine (in_int _ _ _ _ H.out).mono ?_; rw [← HX.out]; rintro e w1 ⟨rfl, h1, k1⟩; have H1 := Lib.hid h1; have K1 := Lib.hid k1; clear h1 k1)
         | (go_at_call 53; refine (in_left _ _ _ H1.out).mono ?_; rintro e w2 ⟨rfl, n2, rfl⟩)
         | (go_at_call 34; refine (in_fail _ _ _ _ (H1.out.drewN _)).mono ?_; rintro e w2 ⟨rfl, h2, k2⟩; have H2 := Lib.hid h2; have K2 := Lib.hid k2; clear h2 k2))
        go_ret
        exact ⟨rfl, H2.out, (K1.out.drewN _).trans K2.out⟩
      · rw [if_neg (fun h => hd h.2)] at hC
        rw [hC]
        clear hC
        go_enter Tryd.func63, Tryd.ntmps63
        go_wp2_with (first
         | (go_at_call 33; refine (in_int _ _ _ _ H.out).mono ?_; rw [← HX.out]; rintro e w1 ⟨rfl, h1, k1⟩; have H1 := Lib.hid h1; have K1 := Lib.hid k1; clear h1 k1)
         | (go_at_call 53; refine (in_left _ _ _ H1.out).mono ?_; rintro e w2 ⟨rfl, n2, rfl⟩))
        go_ret
        exact ⟨rfl, H1.out, K1.out.drewN _⟩
    · rw [if_neg (fun h => hm h.1)] at hC
      rw [hC]
      clear hC
      go_enter Tryd.func63, Tryd.ntmps63
      go_wp2_with (go_at_call 33; refine (in_int _ _ _ _ H.out).mono ?_; rw [← HX.out]; rintro e w1 ⟨rfl, h1, k1⟩; have H1 := Lib.hid h1; have K1 := Lib.hid k1; clear h1 k1)
      go_ret
      exact ⟨rfl, H1.out, K1.out⟩

end Go.Proofs.YtmpehoebgifmnaaDoor
