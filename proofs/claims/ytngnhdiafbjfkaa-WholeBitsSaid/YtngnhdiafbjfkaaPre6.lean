/- Prefixes, read. -/
import Derived.Test.YtngnhdiafbjfkaaPre5
namespace Go.Proofs.Ytngnhdiafbjfkaa
open Go.RowKit

def preX (s : Bs) : PreS × Int := preOfL (intsOf preSizes s)
def rePre (s : Bs) : Except Int PreS := if s.length < 61 then .error 1 else if (preX s).2 = 2 then (if (preX s).1.len < 49 then .error 4 else if (preX s).1.count < 0 then .error 10 else .ok (preX s).1) else .error 6
theorem InS.fail_stuck {i : InS} (h : i.err ≠ 0) (e : Int) : i.fail e = i := if_neg h
theorem InS.fail_ok0 (s : Bs) (p : Nat) (e : Int) : (⟨s, p, 0⟩ : InS).fail e = ⟨s, p, e⟩ := rfl
theorem preChk_stuck (x : PreS) (m : Int) {i : InS} (h : i.err ≠ 0) : preChk x m i = i := by
  unfold preChk
  simp only [InS.fail_stuck h, ite_self]
theorem pre_okA (s : Bs) (pos : Nat) (hp : pos + 61 ≤ s.length) : (⟨s, pos, 0⟩ : InS).pre = match rePre (s.drop pos) with | .ok x => (x, ⟨s, pos + 61, 0⟩) | .error e => (PreS.zero, ⟨s, pos + 61, e⟩) := by
  have h1 := ints_ok preSizes s pos (by decide) hp
  have h2 : preSizes.sum = 61 := rfl
  rw [h2] at h1
  unfold InS.pre
  rw [h1]
  unfold rePre preX
  rw [if_neg (by rw [List.length_drop]; omega)]
  obtain ⟨x, m⟩ := preOfL (intsOf preSizes (s.drop pos))
  simp only [preChk]
  by_cases hm : m = 2
  · rw [if_pos hm, if_pos hm]
    by_cases hl : x.len < 49
    · rw [if_pos hl, if_pos hl, InS.fail_ok0, InS.fail_stuck (show (4 : Int) ≠ 0 by decide), ite_self, if_neg (show ¬ (4 : Int) = 0 by decide)]
    · rw [if_neg hl, if_neg hl]
      by_cases hc : x.count < 0
      · rw [if_pos hc, if_pos hc, InS.fail_ok0, if_neg (show ¬ (10 : Int) = 0 by decide)]
      · rw [if_neg hc, if_neg hc, if_pos rfl]
  · have hs : ∀ e : Int, (⟨s, pos + 61, 6⟩ : InS).fail e = ⟨s, pos + 61, 6⟩ := fun e => InS.fail_stuck (show (6 : Int) ≠ 0 by decide) e
    rw [if_neg hm, if_neg hm, InS.fail_ok0]
    simp only [hs, ite_self]
    rw [if_neg (show ¬ (6 : Int) = 0 by decide)]
theorem pre_shortA (s : Bs) (pos : Nat) (hp : pos ≤ s.length) (hs : s.length < pos + 61) : ∃ q, q ≤ s.length ∧ (⟨s, pos, 0⟩ : InS).pre = (PreS.zero, ⟨s, q, 1⟩) := by
  obtain ⟨q, h1, h2⟩ := ints_short preSizes s pos (by decide) hp hs
  refine ⟨q, h1, ?_⟩
  unfold InS.pre
  rw [h2, preChk_stuck _ _ (show (1 : Int) ≠ 0 by decide)]
  simp only
  rw [if_neg (by decide)]
theorem pre_stuckA (i : InS) (h : i.err ≠ 0) : i.pre = (PreS.zero, i) := by
  unfold InS.pre
  rw [ints_stuck preSizes i (by decide) h]
  simp only
  rw [preChk_stuck _ _ h, if_neg h]
theorem rePre_short {s : Bs} (h : s.length < 61) : rePre s = .error 1 := if_pos h
theorem intsOf_take : ∀ (l : List Nat) (s : Bs) (n : Nat), l.sum ≤ n → intsOf l (s.take n) = intsOf l s
  | [], _, _, _ => rfl
  | k :: t, s, n, h => by
    rw [List.sum_cons] at h
    unfold intsOf
    rw [List.take_take, Nat.min_eq_left (by omega), List.drop_take, intsOf_take t (s.drop k) (n - k) (by omega)]
theorem rePre_take (s : Bs) (h : 61 ≤ s.length) : rePre (s.take 61) = rePre s := by
  unfold rePre preX
  rw [intsOf_take preSizes s 61 (by decide), List.length_take, Nat.min_eq_left h, if_neg (show ¬ 61 < 61 by decide), if_neg (show ¬ s.length < 61 by omega)]
theorem sInt_range4 (s : Bs) (h : s.length ≤ 4) : -2147483648 ≤ sInt s ∧ sInt s < 2147483648 := by
  rcases (by omega : s.length = 0 ∨ (1 ≤ s.length ∧ s.length ≤ 4)) with h0 | h0
  · have : s = [] := List.length_eq_zero_iff.1 h0
    subst this
    decide
  · have h1 := (sInt_fits s s.length h0.1 (by omega) rfl).2.2
    rw [Int.toNat_natCast] at h1
    have h2 : half s.length ≤ 2147483648 := by
      rcases (by omega : s.length = 1 ∨ s.length = 2 ∨ s.length = 3 ∨ s.length = 4) with h | h | h | h <;> rw [h] <;> decide
    omega
theorem preX_eq (s : Bs) : preX s = (⟨sInt (s.take 8), sInt ((s.drop 8).take 4), sInt ((s.drop 12).take 4), sInt ((s.drop 17).take 4) % 4294967296, sInt ((s.drop 21).take 2), sInt ((s.drop 23).take 4), sInt ((s.drop 27).take 8), sInt ((s.drop 35).take 8), sInt ((s.drop 43).take 8), sInt ((s.drop 51).take 2), sInt ((s.drop 53).take 4), sInt ((s.drop 57).take 4)⟩, sInt ((s.drop 16).take 1)) := by
  unfold preX preSizes
  simp only [intsOf, List.drop_drop, Nat.reduceAdd]
  rfl
theorem preX_len (s : Bs) : -2147483648 ≤ (preX s).1.len ∧ (preX s).1.len < 2147483648 := by
  rw [preX_eq]
  exact sInt_range4 _ (by rw [List.length_take]; omega)
def peekS (s : Bs) : Int × Int := if s.length < 61 then (0, 0) else match rePre s with | .ok x => (x.len + 12, 0) | .error e => (0, e)
theorem rePre_ok {s : Bs} {x : PreS} (h : rePre s = .ok x) : 61 ≤ s.length ∧ (preX s).1 = x ∧ (preX s).2 = 2 ∧ 49 ≤ x.len ∧ 0 ≤ x.count := by
  unfold rePre at h
  split at h
  · cases h
  split at h
  · split at h
    · cases h
    · split at h
      · cases h
      · cases h
        exact ⟨by omega, rfl, by assumption, by omega, by omega⟩
  · cases h
theorem rePre_err {s : Bs} {e : Int} (h : rePre s = .error e) : e ≠ 0 := by
  unfold rePre at h
  split at h
  · cases h; decide
  split at h
  · split at h
    · cases h; decide
    · split at h
      · cases h; decide
      · cases h
  · cases h; decide

theorem prefix_readQ (p : Nat) (i j : InS) (x : PreS) (hx : i.pre = (x, j)) {W0 w : World} {K : Know} {L : List Res} (h : St W0 w K (.inp p i :: L)) :
    Calls Try.prog 22 #[inPtr p] w fun en w' => en = .returned (.agg #[.int .i64 x.base, .int .i64 x.len, .int .i64 x.leader, .int .i64 x.sum, .int .i64 x.attr, .int .i64 x.last, .int .i64 x.first, .int .i64 x.maxt, .int .i64 x.prod, .int .i64 x.epoch, .int .i64 x.seq, .int .i64 x.count]) ∧ St W0 w' K (.inp p j :: L) := by
  have := prefix_read p i h; rw [hx] at this; exact this

set_option maxHeartbeats 1000000 in
set_option maxRecDepth 100000 in
theorem prefix_peek_short (s : Bs) (hs : s.length < 61) {W0 w : World} {K : Know} {L : List Res} (h : St W0 w K L) :
    Calls Try.prog 26 #[.string (bb s)] w fun en w' => en = .returned (.tuple #[.int .i64 0, .int .i64 0]) ∧ St W0 w' K L := by
  have hd : decide ((s.length : Int) < 61) = true := decide_eq_true (by omega)
  have H := Lib.hid h
  clear h hs
  go_enter Try.func26, Try.ntmps26
  go_wp2
  go_ret2
  exact ⟨rfl, H.out⟩

set_option maxHeartbeats 1000000 in
set_option maxRecDepth 100000 in
theorem prefix_peek_ok (s : Bs) (x : PreS) (j : InS) (h61 : 61 ≤ s.length) (hl : s.length ≤ 140737488355328) (hp : (⟨s.take 61, 0, 0⟩ : InS).pre = (x, j)) (hj : j.err = 0) (hx : -2147483648 ≤ x.len ∧ x.len < 2147483648) {W0 w : World} {K : Know} {L : List Res} (h : St W0 w K L) :
    Calls Try.prog 26 #[.string (bb s)] w fun en w' => en = .returned (.tuple #[.int .i64 (x.len + 12), .int .i64 0]) ∧ St W0 w' K L := by
  have hd : decide ((s.length : Int) < 61) = false := decide_eq_false (by omega)
  have H := Lib.hid h
  have HP := Lib.hid hp
  have HJ := Lib.hid hj
  have HL := Lib.hid (show (s.take 61).length ≤ 140737488355328 by rw [List.length_take]; omega)
  obtain ⟨b1, b2⟩ := hx
  clear h hp hj hl 
  go_enter Try.func26, Try.ntmps26
  go_wp2_with (first
    | (go_at_call 21; refine (s_new _ HL.out H.out).mono ?_; rintro e wn ⟨bi, rfl, h⟩; replace H := Lib.hid h; clear h)
    | (go_at_call 22; (with_reducible refine (prefix_readQ _ _ j x HP.out H.out).mono ?_); rintro e wn ⟨rfl, h⟩; replace H := Lib.hid h; clear h; replace H := Lib.hid (H.out.allocRaw #[.int .i64 x.base, .int .i64 x.len, .int .i64 x.leader, .int .i64 x.sum, .int .i64 x.attr, .int .i64 x.last, .int .i64 x.first, .int .i64 x.maxt, .int .i64 x.prod, .int .i64 x.epoch, .int .i64 x.seq, .int .i64 x.count] 35).p1)
    | (go_at_call 23; (with_reducible refine (s_err _ _ H.out).mono ?_); (repeat first | rw [HJ.out]); rintro e wn ⟨rfl, h⟩; replace H := Lib.hid h; clear h; have y1 := H.out.p1.rawCell 1; simp at y1))
  go_ret2
  exact ⟨rfl, H.out.drop.drop⟩

set_option maxHeartbeats 1000000 in
set_option maxRecDepth 100000 in
theorem prefix_peek_bad (s : Bs) (x : PreS) (j : InS) (h61 : 61 ≤ s.length) (hl : s.length ≤ 140737488355328) (hp : (⟨s.take 61, 0, 0⟩ : InS).pre = (x, j)) (e : Int) (hj : j.err = e) (he : e ≠ 0) {W0 w : World} {K : Know} {L : List Res} (h : St W0 w K L) :
    Calls Try.prog 26 #[.string (bb s)] w fun en w' => en = .returned (.tuple #[.int .i64 0, .int .i64 e]) ∧ St W0 w' K L := by
  have hd : decide ((s.length : Int) < 61) = false := decide_eq_false (by omega)
  have H := Lib.hid h
  have HP := Lib.hid hp
  have HJ := Lib.hid hj
  have HL := Lib.hid (show (s.take 61).length ≤ 140737488355328 by rw [List.length_take]; omega)
  have heb : (e != 0) = true := by rw [bne_iff_ne]; exact he
  clear h hp hj hl he
  go_enter Try.func26, Try.ntmps26
  go_wp2_with (first
    | (go_at_call 21; refine (s_new _ HL.out H.out).mono ?_; rintro e wn ⟨bi, rfl, h⟩; replace H := Lib.hid h; clear h)
    | (go_at_call 22; (with_reducible refine (prefix_readQ _ _ j x HP.out H.out).mono ?_); rintro e wn ⟨rfl, h⟩; replace H := Lib.hid h; clear h; replace H := Lib.hid (H.out.allocRaw #[.int .i64 x.base, .int .i64 x.len, .int .i64 x.leader, .int .i64 x.sum, .int .i64 x.attr, .int .i64 x.last, .int .i64 x.first, .int .i64 x.maxt, .int .i64 x.prod, .int .i64 x.epoch, .int .i64 x.seq, .int .i64 x.count] 35).p1)
    | (go_at_call 23; (with_reducible refine (s_err _ _ H.out).mono ?_); (repeat first | rw [HJ.out]); rintro e wn ⟨rfl, h⟩; replace H := Lib.hid h; clear h; have y1 := H.out.p1.rawCell 1; simp at y1))
  go_ret2
  exact ⟨rfl, H.out.drop.drop⟩

theorem prefix_peek (s : Bs) (n e : Int) (hp : peekS s = (n, e)) (hl : s.length ≤ 140737488355328) {W0 w : World} {K : Know} {L : List Res} (h : St W0 w K L) :
    Calls Try.prog 26 #[.string (bb s)] w fun en w' => en = .returned (.tuple #[.int .i64 n, .int .i64 e]) ∧ St W0 w' K L := by
  unfold peekS at hp
  by_cases h1 : s.length < 61
  · rw [if_pos h1] at hp
    cases hp
    exact prefix_peek_short s h1 h
  · rw [if_neg h1] at hp
    have h61 : (s.take 61).length = 61 := by rw [List.length_take]; omega
    have hp2 := pre_okA (s.take 61) 0 (by omega)
    rw [List.drop_zero, rePre_take s (by omega)] at hp2
    cases hr : rePre s with
    | ok x =>
      rw [hr] at hp hp2
      cases hp
      have hx := preX_len s
      rw [(rePre_ok hr).2.1] at hx
      exact prefix_peek_ok s x _ (by omega) hl hp2 rfl hx h
    | error e' =>
      rw [hr] at hp hp2
      cases hp
      exact prefix_peek_bad s _ _ (by omega) hl hp2 e rfl (rePre_err hr) h

set_option maxHeartbeats 1000000 in
set_option maxRecDepth 100000 in
theorem l10_list (x : PreS) {W0 w : World} {K : Know} {L : List Res} (h : St W0 w K L) :
    Calls Try.prog 20 #[.agg #[.int .i64 x.base, .int .i64 x.len, .int .i64 x.leader, .int .i64 x.sum, .int .i64 x.attr, .int .i64 x.last, .int .i64 x.first, .int .i64 x.maxt, .int .i64 x.prod, .int .i64 x.epoch, .int .i64 x.seq, .int .i64 x.count]] w fun en w' => ∃ bl, en = .returned (.slice (some ⟨bl, 0, none⟩) 12 12) ∧ St W0 w' K (.raw bl #[.int .i64 x.base, .int .i64 x.len, .int .i64 x.leader, .int .i64 x.sum, .int .i64 x.attr, .int .i64 x.last, .int .i64 x.first, .int .i64 x.maxt, .int .i64 x.prod, .int .i64 x.epoch, .int .i64 x.seq, .int .i64 x.count] 3 :: L) := by
  have H := Lib.hid ((h.alloc (.cells #[.int .i64 x.base, .int .i64 x.len, .int .i64 x.leader, .int .i64 x.sum, .int .i64 x.attr, .int .i64 x.last, .int .i64 x.first, .int .i64 x.maxt, .int .i64 x.prod, .int .i64 x.epoch, .int .i64 x.seq, .int .i64 x.count] 35)).allocRaw #[.int .i64 x.base, .int .i64 x.len, .int .i64 x.leader, .int .i64 x.sum, .int .i64 x.attr, .int .i64 x.last, .int .i64 x.first, .int .i64 x.maxt, .int .i64 x.prod, .int .i64 x.epoch, .int .i64 x.seq, .int .i64 x.count] 3)
  clear h
  go_enter Try.func20, Try.ntmps20
  go_wp2
  go_ret
  have h := H.out
  rw [World.size_alloc] at h
  exact ⟨_, rfl, h⟩

end Go.Proofs.Ytngnhdiafbjfkaa
