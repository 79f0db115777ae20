/- Contracts of package output. -/
import Derived.Test.YtmpehoebgifmnaaDoorRef01
import Derived.Test.YtmpehoebgifmnaaDoorAppend
namespace Go.Proofs.YtmpehoebgifmnaaDoor
open Go.RowKit

/-- What an Output is. -/
structure OutS where
  bytes : Bs
  err : Int
deriving DecidableEq

def OutS.fail (o : OutS) (e : Int) : OutS := if o.err = 0 then { o with err := e } else o
def OutS.put (o : OutS) (s : Bs) : OutS := if o.err = 0 then { o with bytes := o.bytes ++ s } else o
def OutS.int (o : OutS) (n size : Int) : OutS := if fits n size then o.put (beBytes n size.toNat) else o.fail 11
def OutS.text (o : OutS) : Bs × Int := if o.err = 0 then (o.bytes, 0) else ([], o.err)

/-- The cells of bytes. -/
def bvals (s : Bs) : List Value := s.map fun c => Value.int .u8 c.toNat

theorem bvals_length (s : Bs) : (bvals s).length = s.length := by simp [bvals]
theorem bvals_snoc (s : Bs) (c : UInt8) : bvals s ++ [Value.int .u8 (c.toNat : Int)] = bvals (s ++ [c]) := by simp [bvals]
theorem bvals_append (s t : Bs) : bvals (s ++ t) = bvals s ++ bvals t := by simp [bvals]

/-- Which blocks an Output has. -/
def OutM (b : Nat) (g : Option Nat) (k : Nat) : Prop := k = b ∨ some k = g

def IsOut (w : World) (b : Nat) (g : Option Nat) (o : OutS) : Prop :=
  ∃ v, w.heap[b]? = some (.cells #[v, .int .i64 o.err] 79 (0, 0)) ∧ w.ownsRow 0 5 1 v o.bytes.length (bvals o.bytes) ∧ v.ownBlock = g ∧ g ≠ some b

theorem out_M {n b : Nat} {g : Option Nat} (h : n ≤ b) (hg : ∀ k, g = some k → n ≤ k) : ∀ i, OutM b g i → n ≤ i := by
  rintro i (rfl | e)
  · exact h
  · exact hg i e.symm
theorem out_M0 {n b : Nat} (h : n ≤ b) : ∀ i, OutM b none i → n ≤ i := out_M h (by simp)
theorem IsOut.lt {w : World} {b : Nat} {g : Option Nat} {o : OutS} (h : IsOut w b g o) : b < w.heap.size := by
  obtain ⟨v, h, _⟩ := h
  exact heap_lt h
theorem IsOut.glt {w : World} {b : Nat} {g : Option Nat} {o : OutS} (h : IsOut w b g o) : ∀ k, g = some k → k < w.heap.size := by
  obtain ⟨v, _, h, rfl, _⟩ := h
  exact fun k hk => (h.lt k hk).2

theorem ownsRow_keeps {w w' : World} {T : TypeId} {sz : Nat} {v : Value} {n : Nat} {xs : List Value} {M : Nat → Prop} (h : w.ownsRow 0 T sz v n xs) (k : Keeps M w w') (hm : ∀ g, v.ownBlock = some g → ¬ M g) : w'.ownsRow 0 T sz v n xs := by
  obtain ⟨h1, h2⟩ := h
  refine ⟨h1, ?_⟩
  rcases h2 with h2 | ⟨g, cap, cur, rfl, hb, hg, rest⟩
  · exact .inl h2
  · exact .inr ⟨g, cap, cur, rfl, hb, by rw [k.block g (heap_lt hg) (hm g rfl)]; exact hg, rest⟩

theorem IsOut.keeps {w w' : World} {b : Nat} {g : Option Nat} {o : OutS} {M : Nat → Prop} (h : IsOut w b g o) (k : Keeps M w w') (hb : ¬ M b) (hg : ∀ x, g = some x → ¬ M x) : IsOut w' b g o := by
  have hl := h.lt
  obtain ⟨v, h1, h2, h3, h4⟩ := h
  exact ⟨v, (k.block b hl hb).trans h1, ownsRow_keeps h2 k (fun x hx => hg x (h3 ▸ hx)), h3, h4⟩
theorem IsOut.drewN {w : World} {b : Nat} {g : Option Nat} {o : OutS} (h : IsOut w b g o) (n : Nat) : IsOut (w.drewN n) b g o := by
  obtain ⟨v, h1, h2, h3, h4⟩ := h
  exact ⟨v, h1, ownsRow_keeps h2 ((Keeps.refl (fun _ => False) w).drewN n) (by simp), h3, h4⟩

theorem Keeps.of_grown {w w' : World} {row : Option Nat} (h : w.grownBy w' row) : Keeps (fun k => some k = row) w w' :=
  ⟨h.os, h.tape, h.output, h.size, fun k hk hn => h.block k hk hn⟩

theorem OutM.newer {w : World} {b : Nat} {g g' : Option Nat} (h : Newer w g g') : ∀ i, i < w.heap.size → OutM b g' i → OutM b g i := by
  intro i hi hm
  rcases hm with hm | hm
  · exact .inl hm
  · rcases h with rfl | ⟨k, rfl, hk⟩
    · exact .inr hm
    · simp at hm; omega

theorem IsOut.notM {w : World} {b : Nat} {g : Option Nat} {o : OutS} (h : IsOut w b g o) {k : Nat} (hk : w.heap.size ≤ k) : ¬ OutM b g k := by
  rintro (rfl | e)
  · have := h.lt; omega
  · have := h.glt k e.symm; omega
theorem IsOut.alloc {w : World} {b : Nat} {g : Option Nat} {o : OutS} (h : IsOut w b g o) (x : Obj) : IsOut (w.alloc x) b g o :=
  h.keeps (M := fun _ => False) ((Keeps.refl _ _).alloc _) (by simp) (by simp)
/-- A row of other things lies apart. -/
theorem IsOut.apart {w : World} {b : Nat} {g : Option Nat} {o : OutS} {B : Nat} {T : TypeId} {sz n : Nat} {v : Value} {xs : List Value} (h : IsOut w b g o) (k : w.ownsRow B T sz v n xs)
    (h1 : T ≠ 79) (h2 : T ≠ 5) : ∀ x, v.ownBlock = some x → ¬ OutM b g x := by
  intro x hx hm
  obtain ⟨u, hb, ho, hg, hne⟩ := h
  rcases k.2 with ⟨rfl, _⟩ | ⟨g1, cap, cur, rfl, _, hg1, _⟩
  · simp [Value.ownBlock] at hx
  · simp [Value.ownBlock] at hx
    subst hx
    rcases hm with rfl | hm
    · rw [hb] at hg1
      simp at hg1
      exact h1 hg1.2.symm
    · rcases ho.2 with ⟨rfl, _⟩ | ⟨g2, cap2, cur2, rfl, _, hg2, _⟩
      · rw [← hg] at hm; simp [Value.ownBlock] at hm
      · rw [← hg] at hm
        simp [Value.ownBlock] at hm
        subst hm
        rw [hg2] at hg1
        simp at hg1
        exact h2 hg1.2.symm

abbrev outPtr (b : Nat) : Value := .pointer (some ⟨b, 0, none⟩)

theorem info_u8' : (Tryd.prog.info? 5).map (fun i => (i.zero, i.size, i.bytes)) = some (some (.int .u8 0), 1, 1) := by kernel_rfl

set_option maxHeartbeats 400000 in
set_option maxRecDepth 100000 in
theorem out_fail (b : Nat) (g : Option Nat) (o : OutS) (e : Int) (w : World) (h : IsOut w b g o) :
    Calls Tryd.prog 44 #[outPtr b, .int .i64 e] w fun en w' => en = .returned (.tuple #[]) ∧ IsOut w' b g (o.fail e) ∧ Keeps (OutM b g) w w' := by
  have H := Lib.hid h
  obtain ⟨v, hb, hown, hg, hne⟩ := h
  have hc1 := cell_at hb 1
  have hf1 := free_at hb 1
  simp at hc1
  have HB := Lib.hid hb
  have HO := Lib.hid hown
  clear hb hown
  go_enter Tryd.func44, Tryd.ntmps44
  by_cases h : o.err = 0
  · go_wp2
    go_end0
    have k : Keeps (OutM b g) w (w.setCell ⟨b, 1, none⟩ (.int .i64 e)) := (Keeps.refl _ _).setCell _ _ (.inl (.inl rfl))
    refine ⟨rfl, ⟨v, ?_, ?_, hg, hne⟩, k⟩
    · rw [heap_setCell_self HB.out]
      simp [OutS.fail, h]
    · have e1 : (o.fail e).bytes = o.bytes := by unfold OutS.fail; split <;> rfl
      rw [e1]
      exact ownsRow_keeps HO.out ((Keeps.refl (· = b) w).setCell _ _ (.inl rfl)) (fun x hx => by rintro rfl; exact hne (hg ▸ hx))
  · go_wp2
    go_end0
    exact ⟨rfl, by unfold OutS.fail; rw [if_neg h]; exact H.out, Keeps.refl _ _⟩

theorem strCells_bb (s : Bs) : Lib.strCells (bb s) = bvals s := by simp [Lib.strCells, bvals]

/-- Behind an append and the store of what it made. -/
theorem out_grown {w w1 : World} {b : Nat} {g : Option Nat} {o : OutS} {v v' : Value} {s : Bs}
    (hb : w.heap[b]? = some (.cells #[v, .int .i64 o.err] 79 (0, 0))) (hg : v.ownBlock = g) (hne : g ≠ some b) (he : o.err = 0)
    (hown' : w1.ownsRow 0 5 1 v' (o.bytes.length + s.length) (bvals (o.bytes ++ s))) (hgrow : w.grownBy w1 v.ownBlock) (hn : Newer w v.ownBlock v'.ownBlock) :
    ∃ g', IsOut (w1.setCell ⟨b, 0, none⟩ v') b g' (o.put s) ∧ Keeps (OutM b g) w (w1.setCell ⟨b, 0, none⟩ v') ∧ Newer w g g' := by
  subst hg
  have hk := Keeps.of_grown hgrow
  have hlt := heap_lt hb
  have hb1 : w1.heap[b]? = some (.cells #[v, .int .i64 o.err] 79 (0, 0)) := (hk.block b hlt (fun h => hne h.symm)).trans hb
  have hne' : v'.ownBlock ≠ some b := by
    rcases hn with h | ⟨k, h, hk2⟩
    · rw [h]; exact hne
    · rw [h]; intro h2; simp at h2; omega
  refine ⟨v'.ownBlock, ⟨v', ?_, ?_, rfl, hne'⟩, ?_, hn⟩
  · rw [heap_setCell_self hb1]
    simp [OutS.put, he]
  · have e1 : (o.put s).bytes = o.bytes ++ s := by simp [OutS.put, he]
    rw [e1, List.length_append]
    exact ownsRow_keeps hown' ((Keeps.refl (· = b) w1).setCell _ _ (.inl rfl)) (fun x hx => by rintro rfl; exact hne' hx)
  · exact (hk.mono (fun k _ h => .inr h)).trans ((Keeps.refl (OutM b v.ownBlock) w1).setCell _ _ (.inl (.inl rfl)))

theorem owns_slice {w : World} {B : Nat} {T : TypeId} {sz : Nat} {v : Value} {n : Nat} {xs : List Value} (h : w.ownsRow B T sz v n xs) : ∃ p n' c, v = .slice p n' c := by
  rcases h.2 with ⟨rfl, _⟩ | ⟨_, _, _, rfl, _⟩ <;> exact ⟨_, _, _, rfl⟩

set_option maxHeartbeats 400000 in
set_option maxRecDepth 100000 in
theorem out_put (b : Nat) (g : Option Nat) (o : OutS) (s : Bs) (w : World) (h : IsOut w b g o) (hroom : o.bytes.length + s.length ≤ 140737488355328) :
    Calls Tryd.prog 77 #[outPtr b, .string (bb s)] w fun en w' => en = .returned (.tuple #[]) ∧ ∃ g', IsOut w' b g' (o.put s) ∧ Keeps (OutM b g) w w' ∧ Newer w g g' := by
  have H := Lib.hid h
  obtain ⟨v, hb, hown, hg, hne⟩ := h
  have hc1 := cell_at hb 1
  have hc0 := cell_at hb 0
  simp at hc1 hc0
  by_cases he : o.err = 0
  · obtain ⟨i0, hi, hz0, hz1, hz2⟩ := info_parts info_u8'
    have HI := Lib.hid (And.intro hi (And.intro hz0 (And.intro hz1 hz2)))
    have HOWN := Lib.hid hown
    have HR := Lib.hid hroom
    have FIN := Lib.hid (fun v' w1 (h1 : w1.ownsRow 0 5 1 v' (o.bytes.length + s.length) (bvals (o.bytes ++ s))) (h2 : w.grownBy w1 v.ownBlock) (h3 : Newer w v.ownBlock v'.ownBlock) => out_grown (s := s) hb hg hne he h1 h2 h3)
    have HC := Lib.hid (fun w1 (h2 : w.grownBy w1 v.ownBlock) => And.intro (((Keeps.of_grown h2).cell b 0 (heap_lt hb) (fun h => hne (hg ▸ h.symm))).trans hc0) (((Keeps.of_grown h2).frozen b 0 (heap_lt hb) (fun h => hne (hg ▸ h.symm))).trans (free_at hb 0)))
    clear hown hb hi hz0 hz1 hz2 hroom
    go_enter Tryd.func77, Tryd.ntmps77
    go_wp2_with (at_builtin; refine wpl_app_str rfl _ _ 77 9 rfl 5 i0 Tryd.underlying77 Tryd.underlying9 HI.out.1 HI.out.2.1 HI.out.2.2.1 HI.out.2.2.2 v _ _ rfl HOWN.out (bb s) rfl HR.out ?_; intro v' w1 h1 h2 h3; rw [strCells_bb, ← bvals_append] at h1; have F := Lib.hid (FIN.out v' w1 h1 h2 h3); obtain ⟨hx0, hf0⟩ := HC.out w1 h2; obtain ⟨q, n', c', rfl⟩ := owns_slice h1; clear h1 h2 h3)
    go_end0
    obtain ⟨g', f1, f2, f3⟩ := F.out
    exact ⟨rfl, g', f1, f2, f3⟩
  · clear hown hb
    go_enter Tryd.func77, Tryd.ntmps77
    go_wp2
    go_end0
    exact ⟨rfl, g, by unfold OutS.put; rw [if_neg he]; exact H.out, Keeps.refl _ _, Newer.refl _ _⟩

set_option maxHeartbeats 400000 in
set_option maxRecDepth 100000 in
theorem out_byte (b : Nat) (g : Option Nat) (o : OutS) (c : UInt8) (w : World) (h : IsOut w b g o) (hroom : o.bytes.length + 1 ≤ 140737488355328) :
    Calls Tryd.prog 45 #[outPtr b, .int .u8 c.toNat] w fun en w' => en = .returned (.tuple #[]) ∧ ∃ g', IsOut w' b g' (o.put [c]) ∧ Keeps (OutM b g) w w' ∧ Newer w g g' := by
  have H := Lib.hid h
  have H2 := h.keeps (M := fun _ => False) ((Keeps.refl _ w).alloc (.cells #[.int .u8 c.toNat] 5)) (by simp) (by simp)
  have hlt := h.lt
  obtain ⟨v, hb, hown, hg, hne⟩ := h
  have hc1 := cell_at hb 1
  have hc0 := cell_at hb 0
  simp at hc1 hc0
  by_cases he : o.err = 0
  · obtain ⟨i0, hi, hz0, hz1, hz2⟩ := info_parts info_u8'
    have hb' : (w.alloc (.cells #[.int .u8 c.toNat] 5)).heap[b]? = some (.cells #[v, .int .i64 o.err] 79 (0, 0)) := (((Keeps.refl (fun _ => False) w).alloc _).block b hlt (by simp)).trans hb
    have hown2 : (w.alloc (.cells #[.int .u8 c.toNat] 5)).ownsRow 0 5 1 v o.bytes.length (bvals o.bytes) := hown.alloc _
    have hnc : ∀ j u, [Value.int .u8 c.toNat][j]? = some u → (w.alloc (.cells #[.int .u8 c.toNat] 5)).cell? ((⟨w.heap.size, 0, none⟩ : Addr).add j) = some u := by
      intro j u hj
      cases j with
      | zero => simp [Addr.add] at hj ⊢; exact hj
      | succ j => simp at hj
    have HI := Lib.hid (And.intro hi (And.intro hz0 (And.intro hz1 hz2)))
    have HOWN := Lib.hid hown2
    have HR := Lib.hid hroom
    have HN := Lib.hid hnc
    have FIN := Lib.hid (fun v' w1 (h1 : w1.ownsRow 0 5 1 v' (o.bytes.length + 1) (bvals (o.bytes ++ [c]))) (h2 : (w.alloc (.cells #[.int .u8 c.toNat] 5)).grownBy w1 v.ownBlock) (h3 : Newer (w.alloc (.cells #[.int .u8 c.toNat] 5)) v.ownBlock v'.ownBlock) => out_grown (s := [c]) hb' hg hne he h1 h2 h3)
    have HC := Lib.hid (fun w1 (h2 : (w.alloc (.cells #[.int .u8 c.toNat] 5)).grownBy w1 v.ownBlock) => And.intro (((Keeps.of_grown h2).cell b 0 (heap_lt hb') (fun h => hne (hg ▸ h.symm))).trans ((cell_at hb' 0).trans (show (#[v, .int .i64 o.err] : Array Value)[0]? = some v from rfl))) (((Keeps.of_grown h2).frozen b 0 (heap_lt hb') (fun h => hne (hg ▸ h.symm))).trans (free_at hb' 0)))
    clear hown hown2 hb hb' hi hz0 hz1 hz2 hroom hnc H2
    go_enter Tryd.func45, Tryd.ntmps45
    go_wp2_with (at_builtin; refine wpl_app_val rfl _ _ 77 rfl 5 i0 (.int .u8 0) 1 1 Tryd.underlying77 HI.out.1 HI.out.2.1 HI.out.2.2.1 HI.out.2.2.2 rfl (by decide) v _ _ rfl HOWN.out ⟨w.heap.size, 0, none⟩ 1 1 [.int .u8 c.toNat] rfl rfl HN.out (by simp [Value.oneCell']) (by have := HR.out; unfold maxLen; omega) (by have := HR.out; omega) ?_; intro v' w1 h1 h2 h3; rw [bvals_snoc] at h1; have F := Lib.hid (FIN.out v' w1 h1 h2 h3); obtain ⟨hx0, hf0⟩ := HC.out w1 h2; obtain ⟨q, n', c', rfl⟩ := owns_slice h1; clear h1 h2 h3)
    go_end0
    obtain ⟨g', f1, f2, f3⟩ := F.out
    exact ⟨rfl, g', f1, ((Keeps.refl _ _).alloc _).trans f2, f3.of (by simp)⟩
  · clear hown hb H2
    go_enter Tryd.func45, Tryd.ntmps45
    go_wp2
    go_end0
    exact ⟨rfl, g, by unfold OutS.put; rw [if_neg he]; exact H.out, Keeps.refl _ _, Newer.refl _ _⟩

theorem owns_text {w : World} {v : Value} {s : Bs} (h : w.ownsRow 0 5 1 v s.length (bvals s)) :
    (convert 77 9 v).run Tryd.prog w = .ok (.string (bb s)) w := by
  have h' := h
  rcases h.2 with ⟨rfl, h0⟩ | ⟨g, cap, cur, rfl, _⟩
  · have : s = [] := List.length_eq_zero_iff.1 h0
    subst this
    exact run_convert_bytes_nil (P := Tryd.prog) w 77 5 Tryd.underlying77 Tryd.underlying5 0 0 9 Tryd.underlying9
  · exact run_convert_bytes_back (P := Tryd.prog) w 77 9 5 ⟨g, 0, none⟩ cap s Tryd.underlying77 Tryd.underlying5 Tryd.underlying9 (fun j hj => h'.cells (g := g) rfl j _ (by simp [bvals, hj]))

set_option maxHeartbeats 400000 in
set_option maxRecDepth 100000 in
theorem out_text (b : Nat) (g : Option Nat) (o : OutS) (w : World) (h : IsOut w b g o) :
    Calls Tryd.prog 29 #[outPtr b] w fun en w' => en = .returned (.tuple #[.string (bb o.text.1), .int .i64 o.text.2]) ∧ ∃ n, w' = w.drewN n := by
  obtain ⟨v, hb, hown, hg, hne⟩ := h
  have hc0 := cell_at hb 0
  have hc1 := cell_at hb 1
  simp at hc1 hc0
  have hconv := owns_text hown
  clear hown hb
  by_cases he : o.err = 0
  · have e : o.text = (o.bytes, 0) := if_pos he
    rw [e]
    clear e
    go_enter Tryd.func29, Tryd.ntmps29
    go_wp2
    go_ret2
    exact ⟨rfl, 0, rfl⟩
  · have e : o.text = ([], o.err) := if_neg he
    rw [e]
    clear e
    go_enter Tryd.func29, Tryd.ntmps29
    go_wp2
    go_quiet (fail)
    go_wp2
    go_ret2
    exact ⟨rfl, _, rfl⟩

theorem fits_shift (n size : Int) (h0 : -9223372036854775808 ≤ n) (h1 : n < 9223372036854775808) (h2 : 1 ≤ size) (h3 : size ≤ 8) :
    fits n size ↔ wrap64 (n * 2 ^ (64 - 8 * size).toNat) / 2 ^ (64 - 8 * size).toNat = n := by
  have hc : size = 1 ∨ size = 2 ∨ size = 3 ∨ size = 4 ∨ size = 5 ∨ size = 6 ∨ size = 7 ∨ size = 8 := by omega
  unfold fits half wrap64
  rcases hc with rfl | rfl | rfl | rfl | rfl | rfl | rfl | rfl <;> simp <;> omega

set_option maxHeartbeats 400000 in
set_option maxRecDepth 100000 in
theorem out_fits (n size : Int) (w : World) (h0 : -9223372036854775808 ≤ n) (h1 : n < 9223372036854775808) :
    Calls Tryd.prog 43 #[.int .i64 n, .int .i64 size] w fun en w' => en = .returned (.bool (decide (fits n size))) ∧ w = w' := by
  by_cases h2 : size < 1
  · go_enter Tryd.func43, Tryd.ntmps43
    go_wp2
    go_ret
    exact ⟨ret_bool (decide_eq_false (by unfold fits; omega)).symm, rfl⟩
  · by_cases h3 : 8 < size
    · go_enter Tryd.func43, Tryd.ntmps43
      go_wp2
      go_ret
      exact ⟨ret_bool (decide_eq_false (by unfold fits; omega)).symm, rfl⟩
    · go_enter Tryd.func43, Tryd.ntmps43
      go_wp2
      go_ret
      refine ⟨ret_bool ?_, rfl⟩
      rw [Bool.eq_iff_iff, decide_eq_true_iff, beq_iff_eq]
      exact (fits_shift n size h0 h1 (by omega) (by omega)).symm

theorem beBytes_get (n : Int) (k j : Nat) (h : j < k) : n / 2 ^ (8 * (k - 1 - j)) % 256 = (((beBytes n k)[j]'(by rw [beBytes_length]; exact h)).toNat : Int) := by
  induction k generalizing n with
  | zero => omega
  | succ k ih =>
    have e : beBytes n (k + 1) = beBytes (n / 256) k ++ [UInt8.ofNat (n % 256).toNat] := rfl
    by_cases hj : j = k
    · subst hj
      have h256 : (n % 256).toNat < 256 := by omega
      simp only [e, beBytes_length, List.getElem_append_right, Nat.le_refl, Nat.sub_self, List.getElem_cons_zero]
      simp [Nat.mod_eq_of_lt h256]
      omega
    · have hjk : j < k := by omega
      have h2 := ih (n / 256) hjk
      have h3 : (beBytes n (k + 1))[j]'(by rw [beBytes_length]; exact h) = (beBytes (n / 256) k)[j]'(by rw [beBytes_length]; exact hjk) := by
        simp only [e]
        exact List.getElem_append_left _
      rw [h3, ← h2]
      have h4 : 8 * (k + 1 - 1 - j) = 8 + 8 * (k - 1 - j) := by omega
      rw [h4, Int.pow_add, show (2 : Int) ^ 8 = 256 from rfl, Int.ediv_ediv, if_neg (by omega)]; simp

theorem OutS.put_nil (o : OutS) : o.put [] = o := by unfold OutS.put; simp
theorem OutS.put_put (o : OutS) (s t : Bs) : (o.put s).put t = o.put (s ++ t) := by unfold OutS.put; split <;> simp_all

def OutS.ok (o : OutS) (n : Nat) : Prop := o.bytes.length + n ≤ 140737488355328

set_option maxHeartbeats 1000000 in
set_option maxRecDepth 100000 in
theorem out_int (b : Nat) (g : Option Nat) (o : OutS) (n size : Int) (w : World) (h : IsOut w b g o) (hroom : o.ok 8) (h0 : -9223372036854775808 ≤ n) (h1 : n < 9223372036854775808) :
    Calls Tryd.prog 27 #[outPtr b, .int .i64 n, .int .i64 size] w fun en w' => en = .returned (.tuple #[]) ∧ ∃ g', IsOut w' b g' (o.int n size) ∧ Keeps (OutM b g) w w' ∧ Newer w g g' := by
  have H := Lib.hid h
  clear h
  by_cases hf : fits n size
  · have e : o.int n size = o.put (beBytes n size.toNat) := if_pos hf
    rw [e]
    clear e
    have hd : decide (fits n size) = true := decide_eq_true hf
    obtain ⟨k, rfl⟩ : ∃ k : Nat, size = k := ⟨size.toNat, by have := hf.1; omega⟩
    have hk1 : 1 ≤ k := by have := hf.1; omega
    have hk8 : k ≤ 8 := by have := hf.2.1; omega
    clear hf
    have HR := Lib.hid hroom
    have H01 := Lib.hid (And.intro h0 h1)
    clear hroom
    go_enter Tryd.func27, Tryd.ntmps27
    go_wp2_with (go_at_call 43; refine (out_fits _ _ _ H01.out.1 H01.out.2).mono ?_; rintro e w1 ⟨rfl, rfl⟩)
    go_loopw [14] (fun iv wr => ∃ (j : Nat) (g' : Option Nat), j ≤ k ∧ iv = .int .i64 j ∧ IsOut wr b g' (o.put ((beBytes n k).take j)) ∧ Keeps (OutM b g) w wr ∧ Newer w g g') (fun iv _ => k - (intOf iv).toNat)
    case atStart => exact ⟨0, g, Nat.zero_le _, rfl, by rw [List.take_zero, OutS.put_nil]; exact H.out, Keeps.refl _ _, Newer.refl _ _⟩
    case round =>
      obtain ⟨j, g', hj, rfl, hin, hkk, hnw⟩ := hrel
      have HIN := Lib.hid hin
      have HKK := Lib.hid hkk
      have HNW := Lib.hid hnw
      clear hin hkk hnw
      by_cases hlt : j < k
      · have hg := beBytes_get n k j hlt
        have ht : (beBytes n k).take (j + 1) = (beBytes n k).take j ++ [(beBytes n k)[j]'(by rw [beBytes_length]; exact hlt)] := List.take_succ_eq_append_getElem _
        generalize (beBytes n k)[j]'(by rw [beBytes_length]; exact hlt) = c at hg ht
        have HT := Lib.hid ht
        clear ht
        have hr2 : (o.put ((beBytes n k).take j)).bytes.length + 1 ≤ 140737488355328 := by
          have h8 := HR.out
          unfold OutS.ok at h8
          have : ((beBytes n k).take j).length ≤ 7 := by rw [List.length_take, beBytes_length]; omega
          unfold OutS.put
          split
          · simp only [List.length_append]; omega
          · omega
        have HR2 := Lib.hid hr2
        clear hr2
        go_wp2_with (go_at_call 45; refine (out_byte _ _ _ c _ HIN.out HR2.out).mono ?_; rintro e w2 ⟨rfl, g2, h2, k2, n2⟩; have H2 := Lib.hid h2; have K2 := Lib.hid k2; have N2 := Lib.hid n2; clear h2 k2 n2)
        go_roundw
        case rel =>
          refine ⟨j + 1, g2, by omega, by go_num, ?_, HKK.out.seq K2.out (OutM.newer HNW.out), HNW.out.trans N2.out HKK.out.size⟩
          rw [HT.out, ← OutS.put_put]
          exact H2.out
        case measure => first | (simp [intOf]; done) | (simp [intOf]; omega)
      · go_wp2
        go_end0
        rw [List.take_of_length_le (by rw [beBytes_length]; omega)] at HIN
        exact ⟨rfl, g', HIN.out, HKK.out, HNW.out⟩
  · have e : o.int n size = o.fail 11 := if_neg hf
    rw [e]
    clear e
    have hd : decide (fits n size) = false := decide_eq_false hf
    have H01 := Lib.hid (And.intro h0 h1)
    clear hf hroom
    go_enter Tryd.func27, Tryd.ntmps27
    go_wp2_with (first
      | (go_at_call 43; refine (out_fits _ _ _ H01.out.1 H01.out.2).mono ?_; rintro e w1 ⟨rfl, rfl⟩)
      | (go_at_call 44; refine (out_fail _ _ _ _ _ H.out).mono ?_; rintro e w1 ⟨rfl, h2, k2⟩; have H2 := Lib.hid h2; have K2 := Lib.hid k2; clear h2 k2))
    refine bodyPost_ret (results_none rfl _ _ _) rfl ?_
    exact ⟨rfl, g, H2.out, K2.out, Newer.refl _ _⟩

end Go.Proofs.YtmpehoebgifmnaaDoor
