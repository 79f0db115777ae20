/- A text. -/
import Derived.Test.YtngojlinfdokpaaGreatGScanFeeds6
import Derived.Test.YtngojlinfdokpaaGreatGScanFeeds1
import Derived.Test.YtngojlinfdokpaaGreatGScanFeeds4
/- A text. -/
namespace Go.Proofs.YtngojlinfdokpaaGreat
open Go.RowKit

def firstS (R : Bs) : Except Int (Option (BatS × Nat)) :=
  if R.length < 61 then .ok none else match rePre R with
  | .error e => .error e
  | .ok x => if R.length < 61 + (x.len - 49).toNat then .ok none else match asmB x (R.take 61) ((R.drop 61).take (x.len - 49).toNat) with
    | .error e => .error e
    | .ok b => .ok (some (b, 61 + (x.len - 49).toNat))
theorem rePre_app (R M : Bs) (h : 61 ≤ R.length) : rePre (R ++ M) = rePre R := by
 rw [← rePre_take (R ++ M) (by rw [List.length_append]; omega), ← rePre_take R h, List.take_append_of_le_length h]
theorem fs_app {R : Bs} (M : Bs) (h : firstS R ≠ .ok none) : firstS (R ++ M) = firstS R := by
 unfold firstS at h ⊢
 by_cases c1 : R.length < 61
 · rw [if_pos c1] at h; exact absurd rfl h
 rw [if_neg c1] at h ⊢
 rw [if_neg (by rw [List.length_append]; omega), rePre_app R M (by omega)]
 cases hp : rePre R with
 | error e2 => rfl
 | ok x =>
  rw [hp] at h
  simp only at h ⊢
  by_cases c2 : R.length < 61 + (x.len - 49).toNat
  · rw [if_pos c2] at h; exact absurd rfl h
  rw [if_neg c2]
  rw [if_neg (by rw [List.length_append]; omega), List.take_append_of_le_length (by omega), List.drop_append_of_le_length (by omega), List.take_append_of_le_length (by rw [List.length_drop]; omega)]
theorem fs_err {R : Bs} {e : Int} (h : firstS R = .error e) : e ≠ 0 := by
 unfold firstS at h
 by_cases c1 : R.length < 61
 · rw [if_pos c1] at h; cases h
 rw [if_neg c1] at h
 cases hp : rePre R with
 | error e2 => rw [hp] at h; cases h; exact rePre_err hp
 | ok x =>
  rw [hp] at h
  simp only at h
  by_cases c2 : R.length < 61 + (x.len - 49).toNat
  · rw [if_pos c2] at h; cases h
  rw [if_neg c2] at h
  cases ha : asmB x (R.take 61) ((R.drop 61).take (x.len - 49).toNat) with
  | error e2 => rw [ha] at h; cases h; exact asmB_ne ha
  | ok b => rw [ha] at h; cases h
def LiteB (N : Nat) (b : BatS) : Prop := b.recs.length ≤ N ∧ ∀ x ∈ b.recs, x.sum ≤ N
theorem fs_some {R : Bs} {b : BatS} {n : Nat} (h : firstS R = .ok (some (b, n))) : (61 ≤ n ∧ n ≤ R.length) ∧ LiteB R.length b := by
 unfold firstS at h
 by_cases c1 : R.length < 61
 · rw [if_pos c1] at h; cases h
 rw [if_neg c1] at h
 cases hp : rePre R with
 | error e2 => rw [hp] at h; cases h
 | ok x =>
  rw [hp] at h
  simp only at h
  by_cases c2 : R.length < 61 + (x.len - 49).toNat
  · rw [if_pos c2] at h; cases h
  rw [if_neg c2] at h
  cases ha : asmB x (R.take 61) ((R.drop 61).take (x.len - 49).toNat) with
  | error e2 => rw [ha] at h; cases h
  | ok b2 =>
   rw [ha] at h
   cases h
   refine ⟨⟨by omega, by omega⟩, ?_⟩
   obtain ⟨_, _, rs, hu, _, hb⟩ := asmB_ok ha
   obtain ⟨_, h2, h3⟩ := unp_fit _ _ 0 rs (Nat.zero_le _) hu
   rw [List.length_take, List.length_drop] at h2
   have hr : b.recs = rs := by rw [hb]
   refine ⟨by rw [hr]; omega, fun y hy => ?_⟩
   have := (h3 y (by rw [← hr]; exact hy)).2.2
   rw [List.length_take, List.length_drop] at this
   omega
theorem fs_take {R : Bs} {b : BatS} {n k : Nat} (h : firstS R = .ok (some (b, n))) (hk : n ≤ k) : firstS (R.take k) = .ok (some (b, n)) := by
 by_cases hkl : R.length ≤ k
 · rw [List.take_of_length_le hkl]; exact h
 by_cases hn : firstS (R.take k) = .ok none
 · exfalso
   have hs := h
   unfold firstS at hs hn
   by_cases c1 : R.length < 61
   · rw [if_pos c1] at hs; cases hs
   have h61 := (fs_some h).1
   have hl : (R.take k).length = k := by rw [List.length_take]; omega
   rw [if_neg c1] at hs
   rw [if_neg (by rw [hl]; omega)] at hn
   have hpp := rePre_app (R.take k) (R.drop k) (by rw [hl]; omega)
   rw [List.take_append_drop] at hpp
   rw [← hpp] at hn
   cases hp : rePre R with
   | error e2 => rw [hp] at hs; cases hs
   | ok x =>
    rw [hp] at hs hn
    simp only at hs hn
    by_cases c2 : R.length < 61 + (x.len - 49).toNat
    · rw [if_pos c2] at hs; cases hs
    rw [if_neg c2] at hs
    have hm : 61 + (x.len - 49).toNat = n := by
     cases ha : asmB x (R.take 61) ((R.drop 61).take (x.len - 49).toNat) with
     | error e2 => rw [ha] at hs; cases hs
     | ok b2 => rw [ha] at hs; cases hs; rfl
    rw [if_neg (by rw [hl]; omega)] at hn
    cases ha : asmB x ((R.take k).take 61) (((R.take k).drop 61).take (x.len - 49).toNat) with
    | error e2 => rw [ha] at hn; cases hn
    | ok b2 => rw [ha] at hn; cases hn
 · have := fs_app (R.drop k) hn
   rw [List.take_append_drop] at this
   rw [← this]; exact h
def scanN : Nat → Bs → List BatS × Bs × Int
  | 0, R => ([], R, 0)
  | f + 1, R => match firstS R with
    | .error e => ([], R, e)
    | .ok none => ([], R, 0)
    | .ok (some y) => (y.1 :: (scanN f (R.drop y.2)).1, (scanN f (R.drop y.2)).2)
theorem scanN_fuel : ∀ (f g : Nat) (R : Bs), R.length ≤ f → R.length ≤ g → scanN f R = scanN g R := by
 intro f
 induction f with
 | zero =>
  intro g R h1 _
  have h0 : firstS R = .ok none := by unfold firstS; rw [if_pos (by omega)]
  cases g with
  | zero => rfl
  | succ g => unfold scanN; rw [h0]
 | succ f ih =>
  intro g R h1 h2
  cases g with
  | zero =>
   have h0 : firstS R = .ok none := by unfold firstS; rw [if_pos (by omega)]
   unfold scanN; rw [h0]
  | succ g =>
   unfold scanN
   cases hf : firstS R with
   | error e => rfl
   | ok o =>
    cases o with
    | none => rfl
    | some y =>
     obtain ⟨b, n⟩ := y
     have h3 := (fs_some hf).1
     simp only
     rw [ih g (R.drop n) (by rw [List.length_drop]; omega) (by rw [List.length_drop]; omega)]
def scanS (R : Bs) : List BatS × Bs × Int := scanN R.length R
theorem scanS_step (R : Bs) : scanS R = match firstS R with
    | .error e => ([], R, e)
    | .ok none => ([], R, 0)
    | .ok (some y) => (y.1 :: (scanS (R.drop y.2)).1, (scanS (R.drop y.2)).2) := by
  have h1 : scanS R = scanN (R.length + 1) R := scanN_fuel _ _ R (Nat.le_refl _) (by omega)
  rw [h1]
  show (match firstS R with
    | .error e => ([], R, e)
    | .ok none => ([], R, 0)
    | .ok (some y) => (y.1 :: (scanN R.length (R.drop y.2)).1, (scanN R.length (R.drop y.2)).2)) = _
  cases hf : firstS R with
  | error e => rfl
  | ok o =>
    cases o with
    | none => rfl
    | some y =>
      have : scanN R.length (R.drop y.2) = scanS (R.drop y.2) := scanN_fuel _ _ _ (by rw [List.length_drop]; omega) (Nat.le_refl _)
      simp only
      rw [this]
theorem scanS_some {R : Bs} {b : BatS} {n : Nat} (h : firstS R = .ok (some (b, n))) : scanS R = (b :: (scanS (R.drop n)).1, (scanS (R.drop n)).2) := by
 rw [scanS_step, h]
theorem scanS_none {R : Bs} (h : firstS R = .ok none) : scanS R = ([], R, 0) := by rw [scanS_step, h]
theorem scanS_err {R : Bs} {e : Int} (h : firstS R = .error e) : scanS R = ([], R, e) := by rw [scanS_step, h]
theorem scan_app (M : Bs) : ∀ (f : Nat) (R : Bs), R.length ≤ f → scanS (R ++ M) = if (scanS R).2.2 ≠ 0 then ((scanS R).1, (scanS R).2.1 ++ M, (scanS R).2.2) else ((scanS R).1 ++ (scanS ((scanS R).2.1 ++ M)).1, (scanS ((scanS R).2.1 ++ M)).2) := by
 intro f
 induction f with
 | zero =>
  intro R h
  have h0 : firstS R = .ok none := by unfold firstS; rw [if_pos (by omega)]
  rw [scanS_none h0]
  simp
 | succ f ih =>
  intro R h
  cases hf : firstS R with
  | error e =>
   have h1 := fs_app M (by rw [hf]; simp : firstS R ≠ .ok none)
   rw [hf] at h1
   rw [scanS_err h1, scanS_err hf]
   simp only
   rw [if_pos (fs_err hf)]
  | ok o =>
   cases o with
   | none =>
    rw [scanS_none hf]
    simp
   | some y =>
    obtain ⟨b, n⟩ := y
    have h1 := fs_app M (by rw [hf]; simp : firstS R ≠ .ok none)
    rw [hf] at h1
    have h3 := (fs_some hf).1
    rw [scanS_some h1, scanS_some hf, List.drop_append_of_le_length h3.2, ih (R.drop n) (by rw [List.length_drop]; omega)]
    simp only
    by_cases c : (scanS (R.drop n)).2.2 ≠ 0
    · rw [if_pos c, if_pos c]
    · rw [if_neg c, if_neg c, List.cons_append]
theorem scan_rest : ∀ (f : Nat) (R : Bs), R.length ≤ f → ∃ k, k ≤ R.length ∧ (scanS R).2.1 = R.drop k ∧ ((scanS R).2.2 = 0 → firstS (R.drop k) = .ok none) ∧ ((scanS R).2.2 ≠ 0 → firstS (R.drop k) = .error (scanS R).2.2) ∧ scanS (R.take k) = ((scanS R).1, [], 0) ∧ (∀ b ∈ (scanS R).1, LiteB R.length b) ∧ 61 * (scanS R).1.length ≤ k := by
 intro f
 induction f with
 | zero =>
  intro R h
  have h0 : firstS R = .ok none := by unfold firstS; rw [if_pos (by omega)]
  refine ⟨0, Nat.zero_le _, ?_⟩
  rw [scanS_none h0, List.drop_zero, List.take_zero]
  exact ⟨rfl, fun _ => h0, fun hh => absurd rfl hh, scanS_none (by unfold firstS; rw [if_pos (by decide)]), (fun b hb => by cases hb), by simp⟩
 | succ f ih =>
  intro R h
  cases hf : firstS R with
  | error e =>
   refine ⟨0, Nat.zero_le _, ?_⟩
   rw [scanS_err hf, List.drop_zero, List.take_zero]
   exact ⟨rfl, fun hh => absurd hh (fs_err hf), fun _ => hf, scanS_none (by unfold firstS; rw [if_pos (by decide)]), (fun b hb => by cases hb), by simp⟩
  | ok o =>
   cases o with
   | none =>
    refine ⟨0, Nat.zero_le _, ?_⟩
    rw [scanS_none hf, List.drop_zero, List.take_zero]
    exact ⟨rfl, fun _ => hf, fun hh => absurd rfl hh, scanS_none (by unfold firstS; rw [if_pos (by decide)]), (fun b hb => by cases hb), by simp⟩
   | some y =>
    obtain ⟨b, n⟩ := y
    obtain ⟨h3, hlb⟩ := fs_some hf
    obtain ⟨k, a1, a2, a3, a4, a5, a6, a7⟩ := ih (R.drop n) (by rw [List.length_drop]; omega)
    rw [List.length_drop] at a1
    rw [List.drop_drop] at a2 a3 a4
    refine ⟨n + k, by omega, ?_⟩
    rw [scanS_some hf]
    refine ⟨a2, a3, a4, ?_, ?_, by simp only [List.length_cons]; omega⟩
    · have h4 : firstS (R.take (n + k)) = .ok (some (b, n)) := fs_take hf (by omega)
      have h5 : (R.take (n + k)).drop n = (R.drop n).take k := by rw [List.drop_take, Nat.add_sub_cancel_left]
      rw [scanS_some h4, h5, a5]
    · intro x hx
      rcases List.mem_cons.1 hx with rfl | hx
      · exact hlb
      · have := a6 x hx
        rw [List.length_drop] at this
        exact ⟨by have := this.1; omega, fun z hz => by have := this.2 z hz; omega⟩
def finS (R : Bs) : List BatS × Nat × Bs × Int := ((scanS R).1, R.length - (scanS R).2.1.length, (if (scanS R).2.2 ≠ 0 then [] else (scanS R).2.1), (scanS R).2.2)
theorem fin_nil : finS [] = ([], 0, [], 0) := by
 have h0 : firstS [] = .ok none := by unfold firstS; rw [if_pos (by decide)]
 unfold finS
 rw [scanS_none h0]
 rfl
theorem fin_bad (R c : Bs) (h : (finS R).2.2.2 ≠ 0) : finS (R ++ c) = finS R := by
 have h0 : (scanS R).2.2 ≠ 0 := h
 obtain ⟨k, a1, a2, _⟩ := scan_rest _ R (Nat.le_refl _)
 unfold finS
 rw [scan_app c _ R (Nat.le_refl _), if_pos h0]
 simp only
 rw [if_pos h0, if_pos h0, List.length_append, List.length_append]
 congr 2
 rw [a2, List.length_drop]
 omega
theorem fin_good (R c : Bs) (h : (finS R).2.2.2 = 0) : finS (R ++ c) = ((finS R).1 ++ (scanS ((finS R).2.2.1 ++ c)).1, (finS R).2.1 + (((finS R).2.2.1 ++ c).length - (scanS ((finS R).2.2.1 ++ c)).2.1.length), (if (scanS ((finS R).2.2.1 ++ c)).2.2 ≠ 0 then [] else (scanS ((finS R).2.2.1 ++ c)).2.1), (scanS ((finS R).2.2.1 ++ c)).2.2) := by
 have h0 : ¬ (scanS R).2.2 ≠ 0 := by
  have : (scanS R).2.2 = 0 := h
  rw [this]; simp
 obtain ⟨k, a1, a2, _⟩ := scan_rest _ R (Nat.le_refl _)
 have hr : (finS R).2.2.1 = (scanS R).2.1 := by unfold finS; simp only; rw [if_neg h0]
 have hv : (finS R).2.1 = R.length - (scanS R).2.1.length := rfl
 have hb : (finS R).1 = (scanS R).1 := rfl
 rw [hr, hv, hb]
 unfold finS
 rw [scan_app c _ R (Nat.le_refl _), if_neg h0]
 simp only
 congr 2
 obtain ⟨k2, b1, b2, _⟩ := scan_rest _ ((scanS R).2.1 ++ c) (Nat.le_refl _)
 rw [List.length_append] at b1
 have l2 := congrArg List.length b2
 rw [List.length_drop, List.length_append] at l2
 have l1 := congrArg List.length a2
 rw [List.length_drop] at l1
 rw [List.length_append, List.length_append]
 omega
def stopS (rest : Bs) (e : Int) : Int := if e ≠ 0 then 2 else if rest ≠ [] then 1 else 0
set_option maxHeartbeats 2000000 in
set_option maxRecDepth 100000 in
theorem asm_sum (said rows : Bs) (base ln leader sm at_ last first maxt prod epoch sq : Int) (cnt : Nat) (x : Nat) (hx : (crcMore 0#32 (said.drop 21 ++ rows)).toNat = x) (hs1 : 21 ≤ said.length) (hs2 : said.length ≤ 140737488355328) (hs3 : rows.length ≤ 140737488355328) (h0 : (x : Int) ≠ sm) {W0 w : World} {K : Know} {L : List Res} (h : St W0 w K L) :
   Calls Tryz.prog 74 #[.agg #[.int .i64 base, .int .i64 ln, .int .i64 leader, .int .i64 sm, .int .i64 at_, .int .i64 last, .int .i64 first, .int .i64 maxt, .int .i64 prod, .int .i64 epoch, .int .i64 sq, .int .i64 cnt], .string (bb said), .string (bb rows)] w fun en w' => en = .returned (.tuple #[.agg #[.int .i64 0, .int .i64 0, .bool false, .bool false, .bool false, .int .i64 0, .int .i64 0, .int .i64 0, .int .i64 0, .int .i64 0, .int .i64 0, .slice none 0 0], .int .i64 5]) ∧ St W0 w' K L := by
 have gz : ((x : Int) == sm) = false := by rw [beq_eq_false_iff_ne]; exact h0
 have gz2 : ((x : Int) != sm) = true := by simp [bne, gz]
 clear h0
 have g1 := h.allocRaw #[.int .i64 base, .int .i64 ln, .int .i64 leader, .int .i64 sm, .int .i64 at_, .int .i64 last, .int .i64 first, .int .i64 maxt, .int .i64 prod, .int .i64 epoch, .int .i64 sq, .int .i64 cnt] 81
 have g2 := g1.allocRaw #[.int .i64 0, .int .i64 0, .bool false, .bool false, .bool false, .int .i64 0, .int .i64 0, .int .i64 0, .int .i64 0, .int .i64 0, .int .i64 0, .slice none 0 0] 43
 obtain ⟨pb, hpb⟩ : ∃ b, w.heap.size = b := ⟨_, rfl⟩
 obtain ⟨rb, hrb⟩ : ∃ b, pb + 1 = b := ⟨_, rfl⟩
 simp only [World.size_alloc, hpb, hrb] at g2
 have H := Lib.hid g2
 have HX := Lib.hid hx
 have HS1 := Lib.hid hs1
 have HS2 := Lib.hid hs2
 have HS3 := Lib.hid hs3
 clear h g1 g2 hx hs1 hs2 hs3
 go_enter Tryz.func74, Tryz.ntmps74
 go_upto_region 1 with (fail)
 have hs := H.out.drew
 refine wp_region_held_drew (S := fun w' => w'.cell? ⟨pb, 0, none⟩ = some (.int .i64 base) ∧ w'.cell? ⟨pb, 1, none⟩ = some (.int .i64 ln) ∧ w'.cell? ⟨pb, 2, none⟩ = some (.int .i64 leader) ∧ w'.cell? ⟨pb, 3, none⟩ = some (.int .i64 sm) ∧ w'.cell? ⟨pb, 4, none⟩ = some (.int .i64 at_) ∧ w'.cell? ⟨pb, 5, none⟩ = some (.int .i64 last) ∧ w'.cell? ⟨pb, 6, none⟩ = some (.int .i64 first) ∧ w'.cell? ⟨pb, 7, none⟩ = some (.int .i64 maxt) ∧ w'.cell? ⟨pb, 8, none⟩ = some (.int .i64 prod) ∧ w'.cell? ⟨pb, 9, none⟩ = some (.int .i64 epoch) ∧ w'.cell? ⟨pb, 10, none⟩ = some (.int .i64 sq) ∧ w'.cell? ⟨pb, 11, none⟩ = some (.int .i64 cnt)) (by kernel_rfl) (let ⟨x0, x1, x2, x3, x4, x5, x6, x7, x8, x9, x10, x11, _⟩ := raw12 (b := pb) (hs.p1); ⟨x0, x1, x2, x3, x4, x5, x6, x7, x8, x9, x10, x11⟩) (fun hHeld => ?_)
 refine tQ 0 ⟨some 12, .move (.tmp 1), 9, "batch.go:88", #[], none⟩ ?_; simp only [Act.put, sA, sB, sC]
 refine tQ 1 ⟨some 13, .move (.tmp 2), 9, "batch.go:88", #[], none⟩ ?_; simp only [Act.put, sA, sB, sC]
 refine tQ 3 ⟨some 15, .fieldAddr 81 (.tmp 3) 3, 0, "batch.go:88", #[], none⟩ ?_; simp only [Act.put, sA, sB, sC]
 refine tQ 4 ⟨some 16, .load 3 (.tmp 15), 3, "batch.go:88", #[.mk 3 .data], none⟩ ?_; simp only [Act.put, sA, sB, sC]
 refine wpAnyH_ready (rs := [2]) (by kernel_rfl) (by simp) (AllReadyH.cons (o := ⟨some 14, .call { callee := .value (.func 34), args := #[.tmp 12, .tmp 13], argTypes := #[9, 9] }, 3, "batch.go:88", #[.mk 0 .data, .mk 1 .data], none⟩) rfl (fun KK hK => ?_) AllReadyH.nil)
 · go_simp
   go_at_call 34
   with_reducible refine (bat_sum said rows x HX.out HS1.out HS2.out HS3.out hs).mono ?_
   rintro e wq ⟨rfl, hs⟩
   refine hK.out _ _ (let ⟨x0, x1, x2, x3, x4, x5, x6, x7, x8, x9, x10, x11, _⟩ := raw12 (b := pb) (hs.p1); ⟨x0, x1, x2, x3, x4, x5, x6, x7, x8, x9, x10, x11⟩) (fun hHeld => ?_)
   clear hK KK
   try simp only [Act.put, sA, sB, sC]
   refine tQ 5 ⟨some 17, .binOp .neq 3 (.tmp 14) (.tmp 16) 3, 4, "batch.go:88", #[.mk 2 .data, .mk 4 .data], none⟩ ?_; simp only [Act.put, sA, sB, sC]
   refine wpAnyH_done (by kernel_rfl) ?_ _
   clear hHeld
   have H := Lib.hid hs
   clear hs
   obtain ⟨p0, p1, p2, p3, p4, p5, p6, p7, p8, p9, p10, p11, u0, u1, u2, u3, u4, u5, u6, u7, u8, u9, u10, u11⟩ := raw12 (b := rb) (H.out); obtain ⟨x0, x1, x2, x3, x4, x5, x6, x7, x8, x9, x10, x11, y0, y1, y2, y3, y4, y5, y6, y7, y8, y9, y10, y11⟩ := raw12 (b := pb) ((H.out).p1)
   go_wp2_with fail
   have hz : St W0 _ _ (.raw rb #[.int .i64 0, .int .i64 0, .bool false, .bool false, .bool false, .int .i64 0, .int .i64 0, .int .i64 0, .int .i64 0, .int .i64 0, .int .i64 0, .slice none 0 0] 43 :: _) := St.sets12 _ _ _ _ _ _ _ _ _ _ _ _ (H.out)
   refine bodyPost_ret (rc_cell_tmp rfl _ _ rb [.int .i64 0, .int .i64 0, .bool false, .bool false, .bool false, .int .i64 0, .int .i64 0, .int .i64 0, .int .i64 0, .int .i64 0, .int .i64 0, .slice none 0 0] _ rfl (rc_range hz) Tryz.underlying43 rfl (by kernel_rfl)) rfl ?_
   exact ⟨rfl, hz.drop.drop⟩
set_option maxHeartbeats 2000000 in
set_option maxRecDepth 100000 in
theorem asm_attr (said rows : Bs) (base ln leader sm at_ last first maxt prod epoch sq : Int) (cnt : Nat) (x : Nat) (hx : (crcMore 0#32 (said.drop 21 ++ rows)).toNat = x) (hs1 : 21 ≤ said.length) (hs2 : said.length ≤ 140737488355328) (hs3 : rows.length ≤ 140737488355328) (h0 : (x : Int) = sm) (e : Int) (hat : chk at_ = e) (har : R64 at_) (he : e ≠ 0) {W0 w : World} {K : Know} {L : List Res} (h : St W0 w K L) :
   Calls Tryz.prog 74 #[.agg #[.int .i64 base, .int .i64 ln, .int .i64 leader, .int .i64 sm, .int .i64 at_, .int .i64 last, .int .i64 first, .int .i64 maxt, .int .i64 prod, .int .i64 epoch, .int .i64 sq, .int .i64 cnt], .string (bb said), .string (bb rows)] w fun en w' => en = .returned (.tuple #[.agg #[.int .i64 0, .int .i64 0, .bool false, .bool false, .bool false, .int .i64 0, .int .i64 0, .int .i64 0, .int .i64 0, .int .i64 0, .int .i64 0, .slice none 0 0], .int .i64 e]) ∧ St W0 w' K L := by
 have gs : ((x : Int) == sm) = true := by rw [h0]; exact beq_self_eq_true _
 have gs2 : ((x : Int) != sm) = false := by simp [bne, gs]
 clear h0
 have gz : (e == 0) = false := by rw [beq_eq_false_iff_ne]; exact he
 have HAT := Lib.hid hat
 have HAR := Lib.hid har
 clear he hat har
 have g1 := h.allocRaw #[.int .i64 base, .int .i64 ln, .int .i64 leader, .int .i64 sm, .int .i64 at_, .int .i64 last, .int .i64 first, .int .i64 maxt, .int .i64 prod, .int .i64 epoch, .int .i64 sq, .int .i64 cnt] 81
 have g2 := g1.allocRaw #[.int .i64 0, .int .i64 0, .bool false, .bool false, .bool false, .int .i64 0, .int .i64 0, .int .i64 0, .int .i64 0, .int .i64 0, .int .i64 0, .slice none 0 0] 43
 obtain ⟨pb, hpb⟩ : ∃ b, w.heap.size = b := ⟨_, rfl⟩
 obtain ⟨rb, hrb⟩ : ∃ b, pb + 1 = b := ⟨_, rfl⟩
 simp only [World.size_alloc, hpb, hrb] at g2
 have H := Lib.hid g2
 have HX := Lib.hid hx
 have HS1 := Lib.hid hs1
 have HS2 := Lib.hid hs2
 have HS3 := Lib.hid hs3
 clear h g1 g2 hx hs1 hs2 hs3
 go_enter Tryz.func74, Tryz.ntmps74
 go_upto_region 1 with (fail)
 have hs := H.out.drew
 refine wp_region_held_drew (S := fun w' => w'.cell? ⟨pb, 0, none⟩ = some (.int .i64 base) ∧ w'.cell? ⟨pb, 1, none⟩ = some (.int .i64 ln) ∧ w'.cell? ⟨pb, 2, none⟩ = some (.int .i64 leader) ∧ w'.cell? ⟨pb, 3, none⟩ = some (.int .i64 sm) ∧ w'.cell? ⟨pb, 4, none⟩ = some (.int .i64 at_) ∧ w'.cell? ⟨pb, 5, none⟩ = some (.int .i64 last) ∧ w'.cell? ⟨pb, 6, none⟩ = some (.int .i64 first) ∧ w'.cell? ⟨pb, 7, none⟩ = some (.int .i64 maxt) ∧ w'.cell? ⟨pb, 8, none⟩ = some (.int .i64 prod) ∧ w'.cell? ⟨pb, 9, none⟩ = some (.int .i64 epoch) ∧ w'.cell? ⟨pb, 10, none⟩ = some (.int .i64 sq) ∧ w'.cell? ⟨pb, 11, none⟩ = some (.int .i64 cnt)) (by kernel_rfl) (let ⟨x0, x1, x2, x3, x4, x5, x6, x7, x8, x9, x10, x11, _⟩ := raw12 (b := pb) (hs.p1); ⟨x0, x1, x2, x3, x4, x5, x6, x7, x8, x9, x10, x11⟩) (fun hHeld => ?_)
 refine tQ 0 ⟨some 12, .move (.tmp 1), 9, "batch.go:88", #[], none⟩ ?_; simp only [Act.put, sA, sB, sC]
 refine tQ 1 ⟨some 13, .move (.tmp 2), 9, "batch.go:88", #[], none⟩ ?_; simp only [Act.put, sA, sB, sC]
 refine tQ 3 ⟨some 15, .fieldAddr 81 (.tmp 3) 3, 0, "batch.go:88", #[], none⟩ ?_; simp only [Act.put, sA, sB, sC]
 refine tQ 4 ⟨some 16, .load 3 (.tmp 15), 3, "batch.go:88", #[.mk 3 .data], none⟩ ?_; simp only [Act.put, sA, sB, sC]
 refine wpAnyH_ready (rs := [2]) (by kernel_rfl) (by simp) (AllReadyH.cons (o := ⟨some 14, .call { callee := .value (.func 34), args := #[.tmp 12, .tmp 13], argTypes := #[9, 9] }, 3, "batch.go:88", #[.mk 0 .data, .mk 1 .data], none⟩) rfl (fun KK hK => ?_) AllReadyH.nil)
 · go_simp
   go_at_call 34
   with_reducible refine (bat_sum said rows x HX.out HS1.out HS2.out HS3.out hs).mono ?_
   rintro e wq ⟨rfl, hs⟩
   refine hK.out _ _ (let ⟨x0, x1, x2, x3, x4, x5, x6, x7, x8, x9, x10, x11, _⟩ := raw12 (b := pb) (hs.p1); ⟨x0, x1, x2, x3, x4, x5, x6, x7, x8, x9, x10, x11⟩) (fun hHeld => ?_)
   clear hK KK
   try simp only [Act.put, sA, sB, sC]
   refine tQ 5 ⟨some 17, .binOp .neq 3 (.tmp 14) (.tmp 16) 3, 4, "batch.go:88", #[.mk 2 .data, .mk 4 .data], none⟩ ?_; simp only [Act.put, sA, sB, sC]
   refine wpAnyH_done (by kernel_rfl) ?_ _
   clear hHeld
   have H := Lib.hid hs
   clear hs
   obtain ⟨p0, p1, p2, p3, p4, p5, p6, p7, p8, p9, p10, p11, u0, u1, u2, u3, u4, u5, u6, u7, u8, u9, u10, u11⟩ := raw12 (b := rb) (H.out); obtain ⟨x0, x1, x2, x3, x4, x5, x6, x7, x8, x9, x10, x11, y0, y1, y2, y3, y4, y5, y6, y7, y8, y9, y10, y11⟩ := raw12 (b := pb) ((H.out).p1)
   go_wp2_with (go_at_call 96; (with_reducible refine (attr_checkE at_ e HAT.out HAR.out H.out).mono ?_); rintro e_ wn ⟨rfl, h⟩; replace H := Lib.hid h; clear h; obtain ⟨p0, p1, p2, p3, p4, p5, p6, p7, p8, p9, p10, p11, u0, u1, u2, u3, u4, u5, u6, u7, u8, u9, u10, u11⟩ := raw12 (b := rb) (H.out); obtain ⟨x0, x1, x2, x3, x4, x5, x6, x7, x8, x9, x10, x11, y0, y1, y2, y3, y4, y5, y6, y7, y8, y9, y10, y11⟩ := raw12 (b := pb) ((H.out).p1))
   have hz : St W0 _ _ (.raw rb #[.int .i64 0, .int .i64 0, .bool false, .bool false, .bool false, .int .i64 0, .int .i64 0, .int .i64 0, .int .i64 0, .int .i64 0, .int .i64 0, .slice none 0 0] 43 :: _) := St.sets12 _ _ _ _ _ _ _ _ _ _ _ _ (H.out)
   refine bodyPost_ret (rc_cell_tmp rfl _ _ rb [.int .i64 0, .int .i64 0, .bool false, .bool false, .bool false, .int .i64 0, .int .i64 0, .int .i64 0, .int .i64 0, .int .i64 0, .int .i64 0, .slice none 0 0] _ rfl (rc_range hz) Tryz.underlying43 rfl (by kernel_rfl)) rfl ?_
   exact ⟨rfl, hz.drop.drop⟩
set_option maxHeartbeats 2000000 in
set_option maxRecDepth 100000 in
theorem asm_rows (said rows : Bs) (base ln leader sm at_ last first maxt prod epoch sq : Int) (cnt : Nat) (x : Nat) (hx : (crcMore 0#32 (said.drop 21 ++ rows)).toNat = x) (hs1 : 21 ≤ said.length) (hs2 : said.length ≤ 140737488355328) (hs3 : rows.length ≤ 140737488355328) (h0 : (x : Int) = sm) (hat : chk at_ = 0) (har : R64 at_) (hcn : cnt ≤ 2147483647) (e : Int) (hu : unp cnt ⟨rows, 0, 0⟩ = .error e) (he : e ≠ 0) {W0 w : World} {K : Know} {L : List Res} (h : St W0 w K L) :
   Calls Tryz.prog 74 #[.agg #[.int .i64 base, .int .i64 ln, .int .i64 leader, .int .i64 sm, .int .i64 at_, .int .i64 last, .int .i64 first, .int .i64 maxt, .int .i64 prod, .int .i64 epoch, .int .i64 sq, .int .i64 cnt], .string (bb said), .string (bb rows)] w fun en w' => en = .returned (.tuple #[.agg #[.int .i64 0, .int .i64 0, .bool false, .bool false, .bool false, .int .i64 0, .int .i64 0, .int .i64 0, .int .i64 0, .int .i64 0, .int .i64 0, .slice none 0 0], .int .i64 e]) ∧ St W0 w' K L := by
 have gs : ((x : Int) == sm) = true := by rw [h0]; exact beq_self_eq_true _
 have gs2 : ((x : Int) != sm) = false := by simp [bne, gs]
 clear h0
 have gz : (e == 0) = false := by rw [beq_eq_false_iff_ne]; exact he
 have HAT := Lib.hid hat
 have HAR := Lib.hid har
 have HCN := Lib.hid hcn
 have HU := Lib.hid hu
 have HEZ := Lib.hid he
 clear he hat har hcn hu
 have g1 := h.allocRaw #[.int .i64 base, .int .i64 ln, .int .i64 leader, .int .i64 sm, .int .i64 at_, .int .i64 last, .int .i64 first, .int .i64 maxt, .int .i64 prod, .int .i64 epoch, .int .i64 sq, .int .i64 cnt] 81
 have g2 := g1.allocRaw #[.int .i64 0, .int .i64 0, .bool false, .bool false, .bool false, .int .i64 0, .int .i64 0, .int .i64 0, .int .i64 0, .int .i64 0, .int .i64 0, .slice none 0 0] 43
 obtain ⟨pb, hpb⟩ : ∃ b, w.heap.size = b := ⟨_, rfl⟩
 obtain ⟨rb, hrb⟩ : ∃ b, pb + 1 = b := ⟨_, rfl⟩
 simp only [World.size_alloc, hpb, hrb] at g2
 have H := Lib.hid g2
 have HX := Lib.hid hx
 have HS1 := Lib.hid hs1
 have HS2 := Lib.hid hs2
 have HS3 := Lib.hid hs3
 clear h g1 g2 hx hs1 hs2 hs3
 go_enter Tryz.func74, Tryz.ntmps74
 go_upto_region 1 with (fail)
 have hs := H.out.drew
 refine wp_region_held_drew (S := fun w' => w'.cell? ⟨pb, 0, none⟩ = some (.int .i64 base) ∧ w'.cell? ⟨pb, 1, none⟩ = some (.int .i64 ln) ∧ w'.cell? ⟨pb, 2, none⟩ = some (.int .i64 leader) ∧ w'.cell? ⟨pb, 3, none⟩ = some (.int .i64 sm) ∧ w'.cell? ⟨pb, 4, none⟩ = some (.int .i64 at_) ∧ w'.cell? ⟨pb, 5, none⟩ = some (.int .i64 last) ∧ w'.cell? ⟨pb, 6, none⟩ = some (.int .i64 first) ∧ w'.cell? ⟨pb, 7, none⟩ = some (.int .i64 maxt) ∧ w'.cell? ⟨pb, 8, none⟩ = some (.int .i64 prod) ∧ w'.cell? ⟨pb, 9, none⟩ = some (.int .i64 epoch) ∧ w'.cell? ⟨pb, 10, none⟩ = some (.int .i64 sq) ∧ w'.cell? ⟨pb, 11, none⟩ = some (.int .i64 cnt)) (by kernel_rfl) (let ⟨x0, x1, x2, x3, x4, x5, x6, x7, x8, x9, x10, x11, _⟩ := raw12 (b := pb) (hs.p1); ⟨x0, x1, x2, x3, x4, x5, x6, x7, x8, x9, x10, x11⟩) (fun hHeld => ?_)
 refine tQ 0 ⟨some 12, .move (.tmp 1), 9, "batch.go:88", #[], none⟩ ?_; simp only [Act.put, sA, sB, sC]
 refine tQ 1 ⟨some 13, .move (.tmp 2), 9, "batch.go:88", #[], none⟩ ?_; simp only [Act.put, sA, sB, sC]
 refine tQ 3 ⟨some 15, .fieldAddr 81 (.tmp 3) 3, 0, "batch.go:88", #[], none⟩ ?_; simp only [Act.put, sA, sB, sC]
 refine tQ 4 ⟨some 16, .load 3 (.tmp 15), 3, "batch.go:88", #[.mk 3 .data], none⟩ ?_; simp only [Act.put, sA, sB, sC]
 refine wpAnyH_ready (rs := [2]) (by kernel_rfl) (by simp) (AllReadyH.cons (o := ⟨some 14, .call { callee := .value (.func 34), args := #[.tmp 12, .tmp 13], argTypes := #[9, 9] }, 3, "batch.go:88", #[.mk 0 .data, .mk 1 .data], none⟩) rfl (fun KK hK => ?_) AllReadyH.nil)
 · go_simp
   go_at_call 34
   with_reducible refine (bat_sum said rows x HX.out HS1.out HS2.out HS3.out hs).mono ?_
   rintro e wq ⟨rfl, hs⟩
   refine hK.out _ _ (let ⟨x0, x1, x2, x3, x4, x5, x6, x7, x8, x9, x10, x11, _⟩ := raw12 (b := pb) (hs.p1); ⟨x0, x1, x2, x3, x4, x5, x6, x7, x8, x9, x10, x11⟩) (fun hHeld => ?_)
   clear hK KK
   try simp only [Act.put, sA, sB, sC]
   refine tQ 5 ⟨some 17, .binOp .neq 3 (.tmp 14) (.tmp 16) 3, 4, "batch.go:88", #[.mk 2 .data, .mk 4 .data], none⟩ ?_; simp only [Act.put, sA, sB, sC]
   refine wpAnyH_done (by kernel_rfl) ?_ _
   clear hHeld
   have H := Lib.hid hs
   clear hs
   obtain ⟨p0, p1, p2, p3, p4, p5, p6, p7, p8, p9, p10, p11, u0, u1, u2, u3, u4, u5, u6, u7, u8, u9, u10, u11⟩ := raw12 (b := rb) (H.out); obtain ⟨x0, x1, x2, x3, x4, x5, x6, x7, x8, x9, x10, x11, y0, y1, y2, y3, y4, y5, y6, y7, y8, y9, y10, y11⟩ := raw12 (b := pb) ((H.out).p1)
   go_wp2_with (first
   | (go_at_call 96; (with_reducible refine (attr_checkE at_ 0 HAT.out HAR.out H.out).mono ?_); rintro e_ wn ⟨rfl, h⟩; replace H := Lib.hid h; clear h; obtain ⟨p0, p1, p2, p3, p4, p5, p6, p7, p8, p9, p10, p11, u0, u1, u2, u3, u4, u5, u6, u7, u8, u9, u10, u11⟩ := raw12 (b := rb) (H.out); obtain ⟨x0, x1, x2, x3, x4, x5, x6, x7, x8, x9, x10, x11, y0, y1, y2, y3, y4, y5, y6, y7, y8, y9, y10, y11⟩ := raw12 (b := pb) ((H.out).p1))
   | (go_at_call 97; (with_reducible refine (bat_unpack_err rows cnt HCN.out HS3.out e HEZ.out HU.out H.out).mono ?_); rintro e_ wn ⟨rfl, h⟩; replace H := Lib.hid h; clear h; obtain ⟨p0, p1, p2, p3, p4, p5, p6, p7, p8, p9, p10, p11, u0, u1, u2, u3, u4, u5, u6, u7, u8, u9, u10, u11⟩ := raw12 (b := rb) (H.out); obtain ⟨x0, x1, x2, x3, x4, x5, x6, x7, x8, x9, x10, x11, y0, y1, y2, y3, y4, y5, y6, y7, y8, y9, y10, y11⟩ := raw12 (b := pb) ((H.out).p1)))
   have hz : St W0 _ _ (.raw rb #[.int .i64 0, .int .i64 0, .bool false, .bool false, .bool false, .int .i64 0, .int .i64 0, .int .i64 0, .int .i64 0, .int .i64 0, .int .i64 0, .slice none 0 0] 43 :: _) := St.sets12 _ _ _ _ _ _ _ _ _ _ _ _ (H.out)
   refine bodyPost_ret (rc_cell_tmp rfl _ _ rb [.int .i64 0, .int .i64 0, .bool false, .bool false, .bool false, .int .i64 0, .int .i64 0, .int .i64 0, .int .i64 0, .int .i64 0, .int .i64 0, .slice none 0 0] _ rfl (rc_range hz) Tryz.underlying43 rfl (by kernel_rfl)) rfl ?_
   exact ⟨rfl, hz.drop.drop⟩
set_option maxHeartbeats 4000000 in
set_option maxRecDepth 100000 in
theorem asm_ok (said rows : Bs) (base ln leader sm at_ last first maxt prod epoch sq : Int) (cnt : Nat) (x : Nat) (hx : (crcMore 0#32 (said.drop 21 ++ rows)).toNat = x) (hs1 : 21 ≤ said.length) (hs2 : said.length ≤ 140737488355328) (hs3 : rows.length ≤ 140737488355328) (h0 : (x : Int) = sm) (hat : chk at_ = 0) (har : R64 at_) (hcn : cnt ≤ 2147483647) (hr1 : rows.length ≤ 1000000) (hmx : first ≤ 9223372036854775807) (rs : List RecS) (hu : unp cnt ⟨rows, 0, 0⟩ = .ok rs) (hbe : batErr (⟨base, leader, bitAt at_ 3, bitAt at_ 4, bitAt at_ 5, last, first, maxt, prod, epoch, sq, rs⟩ : BatS) = 0) {W0 w : World} {K : Know} {L : List Res} (h : St W0 w K L) :
   Calls Tryz.prog 74 #[.agg #[.int .i64 base, .int .i64 ln, .int .i64 leader, .int .i64 sm, .int .i64 at_, .int .i64 last, .int .i64 first, .int .i64 maxt, .int .i64 prod, .int .i64 epoch, .int .i64 sq, .int .i64 cnt], .string (bb said), .string (bb rows)] w fun en w' => ∃ (q : Option Addr) (l : List (RecS × Value)) (cap : Nat), en = .returned (.tuple #[.agg #[.int .i64 base, .int .i64 leader, .bool (bitAt at_ 3), .bool (bitAt at_ 4), .bool (bitAt at_ 5), .int .i64 last, .int .i64 first, .int .i64 maxt, .int .i64 prod, .int .i64 epoch, .int .i64 sq, .slice q l.length cap], .int .i64 0]) ∧ l.map (·.1) = rs ∧ St W0 w' (K.and (Know.recs (.slice q l.length cap) l)) L := by
 have gs : ((x : Int) == sm) = true := by rw [h0]; exact beq_self_eq_true _
 have gs2 : ((x : Int) != sm) = false := by simp [bne, gs]
 clear h0
 have HAT := Lib.hid hat
 have HAR := Lib.hid har
 have HCN := Lib.hid hcn
 have HU := Lib.hid hu
 have HR1 := Lib.hid hr1
 have HMX := Lib.hid hmx
 have HB0 := Lib.hid hbe
 clear hat har hcn hu hr1 hmx hbe
 have g1 := h.allocRaw #[.int .i64 base, .int .i64 ln, .int .i64 leader, .int .i64 sm, .int .i64 at_, .int .i64 last, .int .i64 first, .int .i64 maxt, .int .i64 prod, .int .i64 epoch, .int .i64 sq, .int .i64 cnt] 81
 have g2 := g1.allocRaw #[.int .i64 0, .int .i64 0, .bool false, .bool false, .bool false, .int .i64 0, .int .i64 0, .int .i64 0, .int .i64 0, .int .i64 0, .int .i64 0, .slice none 0 0] 43
 obtain ⟨pb, hpb⟩ : ∃ b, w.heap.size = b := ⟨_, rfl⟩
 obtain ⟨rb, hrb⟩ : ∃ b, pb + 1 = b := ⟨_, rfl⟩
 simp only [World.size_alloc, hpb, hrb] at g2
 have H := Lib.hid g2
 have HX := Lib.hid hx
 have HS1 := Lib.hid hs1
 have HS2 := Lib.hid hs2
 have HS3 := Lib.hid hs3
 clear h g1 g2 hx hs1 hs2 hs3
 go_enter Tryz.func74, Tryz.ntmps74
 go_upto_region 1 with (fail)
 have hs := H.out.drew
 refine wp_region_held_drew (S := fun w' => w'.cell? ⟨pb, 0, none⟩ = some (.int .i64 base) ∧ w'.cell? ⟨pb, 1, none⟩ = some (.int .i64 ln) ∧ w'.cell? ⟨pb, 2, none⟩ = some (.int .i64 leader) ∧ w'.cell? ⟨pb, 3, none⟩ = some (.int .i64 sm) ∧ w'.cell? ⟨pb, 4, none⟩ = some (.int .i64 at_) ∧ w'.cell? ⟨pb, 5, none⟩ = some (.int .i64 last) ∧ w'.cell? ⟨pb, 6, none⟩ = some (.int .i64 first) ∧ w'.cell? ⟨pb, 7, none⟩ = some (.int .i64 maxt) ∧ w'.cell? ⟨pb, 8, none⟩ = some (.int .i64 prod) ∧ w'.cell? ⟨pb, 9, none⟩ = some (.int .i64 epoch) ∧ w'.cell? ⟨pb, 10, none⟩ = some (.int .i64 sq) ∧ w'.cell? ⟨pb, 11, none⟩ = some (.int .i64 cnt)) (by kernel_rfl) (let ⟨x0, x1, x2, x3, x4, x5, x6, x7, x8, x9, x10, x11, _⟩ := raw12 (b := pb) (hs.p1); ⟨x0, x1, x2, x3, x4, x5, x6, x7, x8, x9, x10, x11⟩) (fun hHeld => ?_)
 refine tQ 0 ⟨some 12, .move (.tmp 1), 9, "batch.go:88", #[], none⟩ ?_; simp only [Act.put, sA, sB, sC]
 refine tQ 1 ⟨some 13, .move (.tmp 2), 9, "batch.go:88", #[], none⟩ ?_; simp only [Act.put, sA, sB, sC]
 refine tQ 3 ⟨some 15, .fieldAddr 81 (.tmp 3) 3, 0, "batch.go:88", #[], none⟩ ?_; simp only [Act.put, sA, sB, sC]
 refine tQ 4 ⟨some 16, .load 3 (.tmp 15), 3, "batch.go:88", #[.mk 3 .data], none⟩ ?_; simp only [Act.put, sA, sB, sC]
 refine wpAnyH_ready (rs := [2]) (by kernel_rfl) (by simp) (AllReadyH.cons (o := ⟨some 14, .call { callee := .value (.func 34), args := #[.tmp 12, .tmp 13], argTypes := #[9, 9] }, 3, "batch.go:88", #[.mk 0 .data, .mk 1 .data], none⟩) rfl (fun KK hK => ?_) AllReadyH.nil)
 · go_simp
   go_at_call 34
   with_reducible refine (bat_sum said rows x HX.out HS1.out HS2.out HS3.out hs).mono ?_
   rintro e wq ⟨rfl, hs⟩
   refine hK.out _ _ (let ⟨x0, x1, x2, x3, x4, x5, x6, x7, x8, x9, x10, x11, _⟩ := raw12 (b := pb) (hs.p1); ⟨x0, x1, x2, x3, x4, x5, x6, x7, x8, x9, x10, x11⟩) (fun hHeld => ?_)
   clear hK KK
   try simp only [Act.put, sA, sB, sC]
   refine tQ 5 ⟨some 17, .binOp .neq 3 (.tmp 14) (.tmp 16) 3, 4, "batch.go:88", #[.mk 2 .data, .mk 4 .data], none⟩ ?_; simp only [Act.put, sA, sB, sC]
   refine wpAnyH_done (by kernel_rfl) ?_ _
   clear hHeld
   have H := Lib.hid hs
   clear hs
   obtain ⟨p0, p1, p2, p3, p4, p5, p6, p7, p8, p9, p10, p11, u0, u1, u2, u3, u4, u5, u6, u7, u8, u9, u10, u11⟩ := raw12 (b := rb) (H.out); obtain ⟨x0, x1, x2, x3, x4, x5, x6, x7, x8, x9, x10, x11, y0, y1, y2, y3, y4, y5, y6, y7, y8, y9, y10, y11⟩ := raw12 (b := pb) ((H.out).p1)
   go_upto_region 11 with (first
   | (go_at_call 96; (with_reducible refine (attr_checkE at_ 0 HAT.out HAR.out H.out).mono ?_); rintro e_ wn ⟨rfl, h⟩; replace H := Lib.hid h; clear h; obtain ⟨p0, p1, p2, p3, p4, p5, p6, p7, p8, p9, p10, p11, u0, u1, u2, u3, u4, u5, u6, u7, u8, u9, u10, u11⟩ := raw12 (b := rb) (H.out); obtain ⟨x0, x1, x2, x3, x4, x5, x6, x7, x8, x9, x10, x11, y0, y1, y2, y3, y4, y5, y6, y7, y8, y9, y10, y11⟩ := raw12 (b := pb) ((H.out).p1))
   | (go_at_call 97; (with_reducible refine (bat_unpack_ok rows cnt HCN.out HS3.out rs HU.out H.out).mono ?_); rintro e_ wn ⟨rv, l, rfl, hlr, h⟩; obtain ⟨q, cap, hrv⟩ := recs_form (Know.has_right (Know.has_refl _)) h; subst hrv; obtain ⟨hff, hfl⟩ := unp_fitB HU.out hlr HR1.out; have HFT := Lib.hid hff; have HLL := Lib.hid hfl; have HLR := Lib.hid hlr; clear hff hfl hlr; obtain ⟨p0, p1, p2, p3, p4, p5, p6, p7, p8, p9, p10, p11, u0, u1, u2, u3, u4, u5, u6, u7, u8, u9, u10, u11⟩ := raw12 (b := rb) (h); obtain ⟨x0, x1, x2, x3, x4, x5, x6, x7, x8, x9, x10, x11, y0, y1, y2, y3, y4, y5, y6, y7, y8, y9, y10, y11⟩ := raw12 (b := pb) ((h).p1); have h := h.allocRaw #[.int .i64 base, .int .i64 leader, .bool false, .bool false, .bool false, .int .i64 last, .int .i64 first, .int .i64 maxt, .int .i64 prod, .int .i64 epoch, .int .i64 sq, .slice q l.length cap] 43; obtain ⟨bB, hbB⟩ : ∃ b, wn.heap.size = b := ⟨_, rfl⟩; rw [hbB] at h; obtain ⟨x0, x1, x2, x3, x4, x5, x6, x7, x8, x9, x10, x11, y0, y1, y2, y3, y4, y5, y6, y7, y8, y9, y10, y11⟩ := raw12 (b := pb) (h.p2); obtain ⟨a0, a1, a2, a3, a4, a5, a6, a7, a8, a9, a10, a11, f0, f1, f2, f3, f4, f5, f6, f7, f8, f9, f10, f11⟩ := raw12 (b := bB) (h); replace H := Lib.hid h; clear h)
   | (go_at_call 98; (with_reducible refine (attr_readE at_ H.out).mono ?_); rintro e_ wn ⟨rfl, h⟩; obtain ⟨a0, a1, a2, a3, a4, a5, a6, a7, a8, a9, a10, a11, f0, f1, f2, f3, f4, f5, f6, f7, f8, f9, f10, f11⟩ := raw12 (b := bB) (h); replace H := Lib.hid h; clear h))
   have HBE := Lib.hid (show batErr ⟨base, leader, bitAt at_ 3, bitAt at_ 4, bitAt at_ 5, last, first, maxt, prod, epoch, sq, l.map (·.1)⟩ = 0 by rw [HLR.out]; exact HB0.out)
   have hs : St W0 _ _ (.raw bB #[.int .i64 base, .int .i64 leader, .bool (bitAt at_ 3), .bool (bitAt at_ 4), .bool (bitAt at_ 5), .int .i64 last, .int .i64 first, .int .i64 maxt, .int .i64 prod, .int .i64 epoch, .int .i64 sq, .slice q l.length cap] 43 :: _) := ((H.out.rawSet 2 (.bool (bitAt at_ 3))).rawSet 3 (.bool (bitAt at_ 4))).rawSet 4 (.bool (bitAt at_ 5))
   have hs := hs.drew
   clear x0 y0 a0 f0 x1 y1 a1 f1 x2 y2 a2 f2 x3 y3 a3 f3 x4 y4 a4 f4 x5 y5 a5 f5 x6 y6 a6 f6 x7 y7 a7 f7 x8 y8 a8 f8 x9 y9 a9 f9 x10 y10 a10 f10 x11 y11 a11 f11
   refine wp_region_held_drew (S := fun w' => w'.cell? ⟨bB, 0, none⟩ = some (.int .i64 base) ∧ w'.cell? ⟨bB, 1, none⟩ = some (.int .i64 leader) ∧ w'.cell? ⟨bB, 2, none⟩ = some (.bool (bitAt at_ 3)) ∧ w'.cell? ⟨bB, 3, none⟩ = some (.bool (bitAt at_ 4)) ∧ w'.cell? ⟨bB, 4, none⟩ = some (.bool (bitAt at_ 5)) ∧ w'.cell? ⟨bB, 5, none⟩ = some (.int .i64 last) ∧ w'.cell? ⟨bB, 6, none⟩ = some (.int .i64 first) ∧ w'.cell? ⟨bB, 7, none⟩ = some (.int .i64 maxt) ∧ w'.cell? ⟨bB, 8, none⟩ = some (.int .i64 prod) ∧ w'.cell? ⟨bB, 9, none⟩ = some (.int .i64 epoch) ∧ w'.cell? ⟨bB, 10, none⟩ = some (.int .i64 sq) ∧ w'.cell? ⟨bB, 11, none⟩ = some (.slice q l.length cap)) (by kernel_rfl) (let ⟨x0, x1, x2, x3, x4, x5, x6, x7, x8, x9, x10, x11, _⟩ := raw12 (b := bB) (hs); ⟨x0, x1, x2, x3, x4, x5, x6, x7, x8, x9, x10, x11⟩) (fun hHeld => ?_)
   refine tQ 0 ⟨some 65, .load 43 (.tmp 11), 43, "batch.go:105", #[], none⟩ ?_; simp only [Act.put, sA, sB, sC]
   refine tQ 1 ⟨some 66, .load 43 (.tmp 11), 43, "batch.go:105", #[], none⟩ ?_; simp only [Act.put, sA, sB, sC]
   refine wpAnyH_ready (rs := [2]) (by kernel_rfl) (by simp) (AllReadyH.cons (o := ⟨some 67, .call { callee := .value (.func 30), args := #[.tmp 66], argTypes := #[43] }, 34, "batch.go:105", #[.mk 1 .data], none⟩) rfl (fun KK hK => ?_) AllReadyH.nil)
   · go_simp
     go_at_call 30
     with_reducible refine (bat_check base leader (bitAt at_ 3) (bitAt at_ 4) (bitAt at_ 5) last first maxt prod epoch sq l q cap 0 HBE.out HMX.out HFT.out HLL.out (Know.has_right (Know.has_refl _)) hs).mono ?_
     rintro e wq ⟨rfl, hs⟩
     refine hK.out _ _ (let ⟨x0, x1, x2, x3, x4, x5, x6, x7, x8, x9, x10, x11, _⟩ := raw12 (b := bB) (hs); ⟨x0, x1, x2, x3, x4, x5, x6, x7, x8, x9, x10, x11⟩) (fun hHeld => ?_)
     clear hK KK
     try simp only [Act.put, sA, sB, sC]
     refine wpAnyH_ready (rs := [3]) (by kernel_rfl) (by simp) (AllReadyH.cons (o := ⟨none, .store 43 (.tmp 6) (.tmp 65), 0, "batch.go:105", #[.mk 0 .data, .mk 2 .chain, .mk 0 .phase, { on := 1, ground := Ground.textOnly Departure.lateStores }, { on := 2, ground := Ground.textOnly Departure.lateStoresUnsure }], none⟩) rfl (fun KK hK => ?_) AllReadyH.nil)
     · have hs := hs.p1
       rw [if_pos (by rfl)]
       refine wp_store_mid 43 (.tmp 6) (.tmp 65) rfl rb 0 #[.int .i64 base, .int .i64 leader, .bool (bitAt at_ 3), .bool (bitAt at_ 4), .bool (bitAt at_ 5), .int .i64 last, .int .i64 first, .int .i64 maxt, .int .i64 prod, .int .i64 epoch, .int .i64 sq, .slice q l.length cap] (by rfl) (by rfl) hs.there (by kernel_rfl) (by simp [Value.oneCell']) ?_
       obtain ⟨wz, ez, hs⟩ := hs.storeEx #[.int .i64 base, .int .i64 leader, .bool (bitAt at_ 3), .bool (bitAt at_ 4), .bool (bitAt at_ 5), .int .i64 last, .int .i64 first, .int .i64 maxt, .int .i64 prod, .int .i64 epoch, .int .i64 sq, .slice q l.length cap]
       rw [ez]
       clear ez
       refine hK.out _ _ (let ⟨x0, x1, x2, x3, x4, x5, x6, x7, x8, x9, x10, x11, _⟩ := raw12 (b := bB) (hs.p1); ⟨x0, x1, x2, x3, x4, x5, x6, x7, x8, x9, x10, x11⟩) (fun hHeld => ?_)
       clear hK KK
       try simp only [Act.put, sA, sB, sC]
       refine tQ 4 ⟨some 7, .assign (.tmp 67), 34, "batch.go:105", #[.mk 2 .data, .mk 3 .chain, .mk 0 .phase, .mk 1 .phase, .mk 2 .phase, .mk 3 .phase], none⟩ ?_; simp only [Act.put, sA, sB, sC]
       refine wpAnyH_done (by kernel_rfl) ?_ _
       clear hHeld
       rw [setAll_all] at hs
       rotate_left
       · rfl
       have hz : St W0 _ _ (.raw rb #[.int .i64 base, .int .i64 leader, .bool (bitAt at_ 3), .bool (bitAt at_ 4), .bool (bitAt at_ 5), .int .i64 last, .int .i64 first, .int .i64 maxt, .int .i64 prod, .int .i64 epoch, .int .i64 sq, .slice q l.length cap] 43 :: _) := hs
       go_wp2_with fail
       refine bodyPost_ret (rc_cell_tmp rfl _ _ rb [.int .i64 base, .int .i64 leader, .bool (bitAt at_ 3), .bool (bitAt at_ 4), .bool (bitAt at_ 5), .int .i64 last, .int .i64 first, .int .i64 maxt, .int .i64 prod, .int .i64 epoch, .int .i64 sq, .slice q l.length cap] _ rfl (rc_range hz) Tryz.underlying43 rfl (by kernel_rfl)) rfl ?_
       exact ⟨q, l, cap, rfl, HLR.out, hz.drop.drop.drop⟩

set_option maxHeartbeats 4000000 in
set_option maxRecDepth 100000 in
theorem asm_bad (said rows : Bs) (base ln leader sm at_ last first maxt prod epoch sq : Int) (cnt : Nat) (x : Nat) (hx : (crcMore 0#32 (said.drop 21 ++ rows)).toNat = x) (hs1 : 21 ≤ said.length) (hs2 : said.length ≤ 140737488355328) (hs3 : rows.length ≤ 140737488355328) (h0 : (x : Int) = sm) (hat : chk at_ = 0) (har : R64 at_) (hcn : cnt ≤ 2147483647) (hr1 : rows.length ≤ 1000000) (hmx : first ≤ 9223372036854775807) (rs : List RecS) (hu : unp cnt ⟨rows, 0, 0⟩ = .ok rs) (e : Int) (hbe : batErr (⟨base, leader, bitAt at_ 3, bitAt at_ 4, bitAt at_ 5, last, first, maxt, prod, epoch, sq, rs⟩ : BatS) = e) {W0 w : World} {K : Know} {L : List Res} (h : St W0 w K L) :
   Calls Tryz.prog 74 #[.agg #[.int .i64 base, .int .i64 ln, .int .i64 leader, .int .i64 sm, .int .i64 at_, .int .i64 last, .int .i64 first, .int .i64 maxt, .int .i64 prod, .int .i64 epoch, .int .i64 sq, .int .i64 cnt], .string (bb said), .string (bb rows)] w fun en w' => ∃ (l : List (RecS × Value)) (q : Option Addr) (cap : Nat), en = .returned (.tuple #[.agg #[.int .i64 base, .int .i64 leader, .bool (bitAt at_ 3), .bool (bitAt at_ 4), .bool (bitAt at_ 5), .int .i64 last, .int .i64 first, .int .i64 maxt, .int .i64 prod, .int .i64 epoch, .int .i64 sq, .slice q l.length cap], .int .i64 e]) ∧ St W0 w' K L := by
 have gs : ((x : Int) == sm) = true := by rw [h0]; exact beq_self_eq_true _
 have gs2 : ((x : Int) != sm) = false := by simp [bne, gs]
 clear h0
 have HAT := Lib.hid hat
 have HAR := Lib.hid har
 have HCN := Lib.hid hcn
 have HU := Lib.hid hu
 have HR1 := Lib.hid hr1
 have HMX := Lib.hid hmx
 have HB0 := Lib.hid hbe
 clear hat har hcn hu hr1 hmx hbe
 have g1 := h.allocRaw #[.int .i64 base, .int .i64 ln, .int .i64 leader, .int .i64 sm, .int .i64 at_, .int .i64 last, .int .i64 first, .int .i64 maxt, .int .i64 prod, .int .i64 epoch, .int .i64 sq, .int .i64 cnt] 81
 have g2 := g1.allocRaw #[.int .i64 0, .int .i64 0, .bool false, .bool false, .bool false, .int .i64 0, .int .i64 0, .int .i64 0, .int .i64 0, .int .i64 0, .int .i64 0, .slice none 0 0] 43
 obtain ⟨pb, hpb⟩ : ∃ b, w.heap.size = b := ⟨_, rfl⟩
 obtain ⟨rb, hrb⟩ : ∃ b, pb + 1 = b := ⟨_, rfl⟩
 simp only [World.size_alloc, hpb, hrb] at g2
 have H := Lib.hid g2
 have HX := Lib.hid hx
 have HS1 := Lib.hid hs1
 have HS2 := Lib.hid hs2
 have HS3 := Lib.hid hs3
 clear h g1 g2 hx hs1 hs2 hs3
 go_enter Tryz.func74, Tryz.ntmps74
 go_upto_region 1 with (fail)
 have hs := H.out.drew
 refine wp_region_held_drew (S := fun w' => w'.cell? ⟨pb, 0, none⟩ = some (.int .i64 base) ∧ w'.cell? ⟨pb, 1, none⟩ = some (.int .i64 ln) ∧ w'.cell? ⟨pb, 2, none⟩ = some (.int .i64 leader) ∧ w'.cell? ⟨pb, 3, none⟩ = some (.int .i64 sm) ∧ w'.cell? ⟨pb, 4, none⟩ = some (.int .i64 at_) ∧ w'.cell? ⟨pb, 5, none⟩ = some (.int .i64 last) ∧ w'.cell? ⟨pb, 6, none⟩ = some (.int .i64 first) ∧ w'.cell? ⟨pb, 7, none⟩ = some (.int .i64 maxt) ∧ w'.cell? ⟨pb, 8, none⟩ = some (.int .i64 prod) ∧ w'.cell? ⟨pb, 9, none⟩ = some (.int .i64 epoch) ∧ w'.cell? ⟨pb, 10, none⟩ = some (.int .i64 sq) ∧ w'.cell? ⟨pb, 11, none⟩ = some (.int .i64 cnt)) (by kernel_rfl) (let ⟨x0, x1, x2, x3, x4, x5, x6, x7, x8, x9, x10, x11, _⟩ := raw12 (b := pb) (hs.p1); ⟨x0, x1, x2, x3, x4, x5, x6, x7, x8, x9, x10, x11⟩) (fun hHeld => ?_)
 refine tQ 0 ⟨some 12, .move (.tmp 1), 9, "batch.go:88", #[], none⟩ ?_; simp only [Act.put, sA, sB, sC]
 refine tQ 1 ⟨some 13, .move (.tmp 2), 9, "batch.go:88", #[], none⟩ ?_; simp only [Act.put, sA, sB, sC]
 refine tQ 3 ⟨some 15, .fieldAddr 81 (.tmp 3) 3, 0, "batch.go:88", #[], none⟩ ?_; simp only [Act.put, sA, sB, sC]
 refine tQ 4 ⟨some 16, .load 3 (.tmp 15), 3, "batch.go:88", #[.mk 3 .data], none⟩ ?_; simp only [Act.put, sA, sB, sC]
 refine wpAnyH_ready (rs := [2]) (by kernel_rfl) (by simp) (AllReadyH.cons (o := ⟨some 14, .call { callee := .value (.func 34), args := #[.tmp 12, .tmp 13], argTypes := #[9, 9] }, 3, "batch.go:88", #[.mk 0 .data, .mk 1 .data], none⟩) rfl (fun KK hK => ?_) AllReadyH.nil)
 · go_simp
   go_at_call 34
   with_reducible refine (bat_sum said rows x HX.out HS1.out HS2.out HS3.out hs).mono ?_
   rintro e wq ⟨rfl, hs⟩
   refine hK.out _ _ (let ⟨x0, x1, x2, x3, x4, x5, x6, x7, x8, x9, x10, x11, _⟩ := raw12 (b := pb) (hs.p1); ⟨x0, x1, x2, x3, x4, x5, x6, x7, x8, x9, x10, x11⟩) (fun hHeld => ?_)
   clear hK KK
   try simp only [Act.put, sA, sB, sC]
   refine tQ 5 ⟨some 17, .binOp .neq 3 (.tmp 14) (.tmp 16) 3, 4, "batch.go:88", #[.mk 2 .data, .mk 4 .data], none⟩ ?_; simp only [Act.put, sA, sB, sC]
   refine wpAnyH_done (by kernel_rfl) ?_ _
   clear hHeld
   have H := Lib.hid hs
   clear hs
   obtain ⟨p0, p1, p2, p3, p4, p5, p6, p7, p8, p9, p10, p11, u0, u1, u2, u3, u4, u5, u6, u7, u8, u9, u10, u11⟩ := raw12 (b := rb) (H.out); obtain ⟨x0, x1, x2, x3, x4, x5, x6, x7, x8, x9, x10, x11, y0, y1, y2, y3, y4, y5, y6, y7, y8, y9, y10, y11⟩ := raw12 (b := pb) ((H.out).p1)
   go_upto_region 11 with (first
   | (go_at_call 96; (with_reducible refine (attr_checkE at_ 0 HAT.out HAR.out H.out).mono ?_); rintro e_ wn ⟨rfl, h⟩; replace H := Lib.hid h; clear h; obtain ⟨p0, p1, p2, p3, p4, p5, p6, p7, p8, p9, p10, p11, u0, u1, u2, u3, u4, u5, u6, u7, u8, u9, u10, u11⟩ := raw12 (b := rb) (H.out); obtain ⟨x0, x1, x2, x3, x4, x5, x6, x7, x8, x9, x10, x11, y0, y1, y2, y3, y4, y5, y6, y7, y8, y9, y10, y11⟩ := raw12 (b := pb) ((H.out).p1))
   | (go_at_call 97; (with_reducible refine (bat_unpack_ok rows cnt HCN.out HS3.out rs HU.out H.out).mono ?_); rintro e_ wn ⟨rv, l, rfl, hlr, h⟩; obtain ⟨q, cap, hrv⟩ := recs_form (Know.has_right (Know.has_refl _)) h; subst hrv; obtain ⟨hff, hfl⟩ := unp_fitB HU.out hlr HR1.out; have HFT := Lib.hid hff; have HLL := Lib.hid hfl; have HLR := Lib.hid hlr; clear hff hfl hlr; obtain ⟨p0, p1, p2, p3, p4, p5, p6, p7, p8, p9, p10, p11, u0, u1, u2, u3, u4, u5, u6, u7, u8, u9, u10, u11⟩ := raw12 (b := rb) (h); obtain ⟨x0, x1, x2, x3, x4, x5, x6, x7, x8, x9, x10, x11, y0, y1, y2, y3, y4, y5, y6, y7, y8, y9, y10, y11⟩ := raw12 (b := pb) ((h).p1); have h := h.allocRaw #[.int .i64 base, .int .i64 leader, .bool false, .bool false, .bool false, .int .i64 last, .int .i64 first, .int .i64 maxt, .int .i64 prod, .int .i64 epoch, .int .i64 sq, .slice q l.length cap] 43; obtain ⟨bB, hbB⟩ : ∃ b, wn.heap.size = b := ⟨_, rfl⟩; rw [hbB] at h; obtain ⟨x0, x1, x2, x3, x4, x5, x6, x7, x8, x9, x10, x11, y0, y1, y2, y3, y4, y5, y6, y7, y8, y9, y10, y11⟩ := raw12 (b := pb) (h.p2); obtain ⟨a0, a1, a2, a3, a4, a5, a6, a7, a8, a9, a10, a11, f0, f1, f2, f3, f4, f5, f6, f7, f8, f9, f10, f11⟩ := raw12 (b := bB) (h); replace H := Lib.hid h; clear h)
   | (go_at_call 98; (with_reducible refine (attr_readE at_ H.out).mono ?_); rintro e_ wn ⟨rfl, h⟩; obtain ⟨a0, a1, a2, a3, a4, a5, a6, a7, a8, a9, a10, a11, f0, f1, f2, f3, f4, f5, f6, f7, f8, f9, f10, f11⟩ := raw12 (b := bB) (h); replace H := Lib.hid h; clear h))
   have HBE := Lib.hid (show batErr ⟨base, leader, bitAt at_ 3, bitAt at_ 4, bitAt at_ 5, last, first, maxt, prod, epoch, sq, l.map (·.1)⟩ = e by rw [HLR.out]; exact HB0.out)
   have hs : St W0 _ _ (.raw bB #[.int .i64 base, .int .i64 leader, .bool (bitAt at_ 3), .bool (bitAt at_ 4), .bool (bitAt at_ 5), .int .i64 last, .int .i64 first, .int .i64 maxt, .int .i64 prod, .int .i64 epoch, .int .i64 sq, .slice q l.length cap] 43 :: _) := ((H.out.rawSet 2 (.bool (bitAt at_ 3))).rawSet 3 (.bool (bitAt at_ 4))).rawSet 4 (.bool (bitAt at_ 5))
   have hs := hs.drew
   clear x0 y0 a0 f0 x1 y1 a1 f1 x2 y2 a2 f2 x3 y3 a3 f3 x4 y4 a4 f4 x5 y5 a5 f5 x6 y6 a6 f6 x7 y7 a7 f7 x8 y8 a8 f8 x9 y9 a9 f9 x10 y10 a10 f10 x11 y11 a11 f11
   refine wp_region_held_drew (S := fun w' => w'.cell? ⟨bB, 0, none⟩ = some (.int .i64 base) ∧ w'.cell? ⟨bB, 1, none⟩ = some (.int .i64 leader) ∧ w'.cell? ⟨bB, 2, none⟩ = some (.bool (bitAt at_ 3)) ∧ w'.cell? ⟨bB, 3, none⟩ = some (.bool (bitAt at_ 4)) ∧ w'.cell? ⟨bB, 4, none⟩ = some (.bool (bitAt at_ 5)) ∧ w'.cell? ⟨bB, 5, none⟩ = some (.int .i64 last) ∧ w'.cell? ⟨bB, 6, none⟩ = some (.int .i64 first) ∧ w'.cell? ⟨bB, 7, none⟩ = some (.int .i64 maxt) ∧ w'.cell? ⟨bB, 8, none⟩ = some (.int .i64 prod) ∧ w'.cell? ⟨bB, 9, none⟩ = some (.int .i64 epoch) ∧ w'.cell? ⟨bB, 10, none⟩ = some (.int .i64 sq) ∧ w'.cell? ⟨bB, 11, none⟩ = some (.slice q l.length cap)) (by kernel_rfl) (let ⟨x0, x1, x2, x3, x4, x5, x6, x7, x8, x9, x10, x11, _⟩ := raw12 (b := bB) (hs); ⟨x0, x1, x2, x3, x4, x5, x6, x7, x8, x9, x10, x11⟩) (fun hHeld => ?_)
   refine tQ 0 ⟨some 65, .load 43 (.tmp 11), 43, "batch.go:105", #[], none⟩ ?_; simp only [Act.put, sA, sB, sC]
   refine tQ 1 ⟨some 66, .load 43 (.tmp 11), 43, "batch.go:105", #[], none⟩ ?_; simp only [Act.put, sA, sB, sC]
   refine wpAnyH_ready (rs := [2]) (by kernel_rfl) (by simp) (AllReadyH.cons (o := ⟨some 67, .call { callee := .value (.func 30), args := #[.tmp 66], argTypes := #[43] }, 34, "batch.go:105", #[.mk 1 .data], none⟩) rfl (fun KK hK => ?_) AllReadyH.nil)
   · go_simp
     go_at_call 30
     with_reducible refine (bat_check base leader (bitAt at_ 3) (bitAt at_ 4) (bitAt at_ 5) last first maxt prod epoch sq l q cap e HBE.out HMX.out HFT.out HLL.out (Know.has_right (Know.has_refl _)) hs).mono ?_
     rintro e wq ⟨rfl, hs⟩
     refine hK.out _ _ (let ⟨x0, x1, x2, x3, x4, x5, x6, x7, x8, x9, x10, x11, _⟩ := raw12 (b := bB) (hs); ⟨x0, x1, x2, x3, x4, x5, x6, x7, x8, x9, x10, x11⟩) (fun hHeld => ?_)
     clear hK KK
     try simp only [Act.put, sA, sB, sC]
     refine wpAnyH_ready (rs := [3]) (by kernel_rfl) (by simp) (AllReadyH.cons (o := ⟨none, .store 43 (.tmp 6) (.tmp 65), 0, "batch.go:105", #[.mk 0 .data, .mk 2 .chain, .mk 0 .phase, { on := 1, ground := Ground.textOnly Departure.lateStores }, { on := 2, ground := Ground.textOnly Departure.lateStoresUnsure }], none⟩) rfl (fun KK hK => ?_) AllReadyH.nil)
     · have hs := hs.p1
       rw [if_pos (by rfl)]
       refine wp_store_mid 43 (.tmp 6) (.tmp 65) rfl rb 0 #[.int .i64 base, .int .i64 leader, .bool (bitAt at_ 3), .bool (bitAt at_ 4), .bool (bitAt at_ 5), .int .i64 last, .int .i64 first, .int .i64 maxt, .int .i64 prod, .int .i64 epoch, .int .i64 sq, .slice q l.length cap] (by rfl) (by rfl) hs.there (by kernel_rfl) (by simp [Value.oneCell']) ?_
       obtain ⟨wz, ez, hs⟩ := hs.storeEx #[.int .i64 base, .int .i64 leader, .bool (bitAt at_ 3), .bool (bitAt at_ 4), .bool (bitAt at_ 5), .int .i64 last, .int .i64 first, .int .i64 maxt, .int .i64 prod, .int .i64 epoch, .int .i64 sq, .slice q l.length cap]
       rw [ez]
       clear ez
       refine hK.out _ _ (let ⟨x0, x1, x2, x3, x4, x5, x6, x7, x8, x9, x10, x11, _⟩ := raw12 (b := bB) (hs.p1); ⟨x0, x1, x2, x3, x4, x5, x6, x7, x8, x9, x10, x11⟩) (fun hHeld => ?_)
       clear hK KK
       try simp only [Act.put, sA, sB, sC]
       refine tQ 4 ⟨some 7, .assign (.tmp 67), 34, "batch.go:105", #[.mk 2 .data, .mk 3 .chain, .mk 0 .phase, .mk 1 .phase, .mk 2 .phase, .mk 3 .phase], none⟩ ?_; simp only [Act.put, sA, sB, sC]
       refine wpAnyH_done (by kernel_rfl) ?_ _
       clear hHeld
       rw [setAll_all] at hs
       rotate_left
       · rfl
       have hz : St W0 _ _ (.raw rb #[.int .i64 base, .int .i64 leader, .bool (bitAt at_ 3), .bool (bitAt at_ 4), .bool (bitAt at_ 5), .int .i64 last, .int .i64 first, .int .i64 maxt, .int .i64 prod, .int .i64 epoch, .int .i64 sq, .slice q l.length cap] 43 :: _) := hs
       go_wp2_with fail
       refine bodyPost_ret (rc_cell_tmp rfl _ _ rb [.int .i64 base, .int .i64 leader, .bool (bitAt at_ 3), .bool (bitAt at_ 4), .bool (bitAt at_ 5), .int .i64 last, .int .i64 first, .int .i64 maxt, .int .i64 prod, .int .i64 epoch, .int .i64 sq, .slice q l.length cap] _ rfl (rc_range hz) Tryz.underlying43 rfl (by kernel_rfl)) rfl ?_
       exact ⟨l, q, cap, rfl, hz.drop.drop.drop.know (Know.has_left (Know.has_refl _))⟩
theorem asm_err (x : PreS) (said rows : Bs) (hs1 : 21 ≤ said.length) (hs2 : said.length ≤ 140737488355328) (hr1 : rows.length ≤ 1000000) (har : R64 x.attr) (hc0 : 0 ≤ x.count) (hcn : x.count ≤ 2147483647) (hmx : x.first ≤ 9223372036854775807) (e : Int) (ha : asmB x said rows = .error e) {W0 w : World} {K : Know} {L : List Res} (h : St W0 w K L) :
   Calls Tryz.prog 74 #[.agg #[.int .i64 x.base, .int .i64 x.len, .int .i64 x.leader, .int .i64 x.sum, .int .i64 x.attr, .int .i64 x.last, .int .i64 x.first, .int .i64 x.maxt, .int .i64 x.prod, .int .i64 x.epoch, .int .i64 x.seq, .int .i64 x.count], .string (bb said), .string (bb rows)] w fun en w' => ∃ (b : BatS) (q : Option Addr) (n cap : Nat), en = .returned (.tuple #[.agg #[.int .i64 b.base, .int .i64 b.leader, .bool b.app, .bool b.txn, .bool b.ctl, .int .i64 b.last, .int .i64 b.first, .int .i64 b.maxt, .int .i64 b.prod, .int .i64 b.epoch, .int .i64 b.seq, .slice q n cap], .int .i64 e]) ∧ St W0 w' K L := by
 obtain ⟨base, len, leader, sum, attr, last, first, maxt, prod, epoch, seq, count⟩ := x
 simp only at har hc0 hcn hmx
 obtain ⟨cnt, rfl⟩ : ∃ n : Nat, count = (n : Int) := ⟨count.toNat, by omega⟩
 have hr : rows.length ≤ 140737488355328 := by omega
 have hcn : cnt ≤ 2147483647 := by omega
 unfold asmB at ha
 simp only [Int.toNat_natCast] at ha
 by_cases c1 : (((crcMore 0#32 (said.drop 21 ++ rows)).toNat : Nat) : Int) ≠ sum
 · rw [if_pos c1] at ha
   cases ha
   exact (asm_sum said rows base len leader sum attr last first maxt prod epoch seq cnt _ rfl hs1 hs2 hr c1 h).mono fun _ _ hh => ⟨BatS.zero, none, 0, 0, hh.1, hh.2⟩
 rw [if_neg c1] at ha
 have c1 := Classical.not_not.1 c1
 by_cases c2 : chk attr ≠ 0
 · rw [if_pos c2] at ha
   cases ha
   exact (asm_attr said rows base len leader sum attr last first maxt prod epoch seq cnt _ rfl hs1 hs2 hr c1 _ rfl har c2 h).mono fun _ _ hh => ⟨BatS.zero, none, 0, 0, hh.1, hh.2⟩
 rw [if_neg c2] at ha
 have c2 := Classical.not_not.1 c2
 cases hu : unp cnt ⟨rows, 0, 0⟩ with
 | error f =>
   rw [hu] at ha
   simp only at ha
   cases ha
   exact (asm_rows said rows base len leader sum attr last first maxt prod epoch seq cnt _ rfl hs1 hs2 hr c1 c2 har hcn _ hu (unp_ne _ _ _ hu) h).mono fun _ _ hh => ⟨BatS.zero, none, 0, 0, hh.1, hh.2⟩
 | ok rs =>
   rw [hu] at ha
   simp only at ha
   by_cases c3 : batErr ⟨base, leader, bitAt attr 3, bitAt attr 4, bitAt attr 5, last, first, maxt, prod, epoch, seq, rs⟩ = 0
   · rw [if_pos c3] at ha; cases ha
   rw [if_neg c3] at ha
   cases ha
   exact (asm_bad said rows base len leader sum attr last first maxt prod epoch seq cnt _ rfl hs1 hs2 hr c1 c2 har hcn hr1 hmx rs hu _ rfl h).mono fun _ _ ⟨l, q, cap, hh, hs⟩ => ⟨⟨base, leader, bitAt attr 3, bitAt attr 4, bitAt attr 5, last, first, maxt, prod, epoch, seq, rs⟩, q, l.length, cap, hh, hs⟩
theorem asm_good (x : PreS) (said rows : Bs) (hs1 : 21 ≤ said.length) (hs2 : said.length ≤ 140737488355328) (hr1 : rows.length ≤ 1000000) (har : R64 x.attr) (hc0 : 0 ≤ x.count) (hcn : x.count ≤ 2147483647) (hmx : x.first ≤ 9223372036854775807) (b : BatS) (ha : asmB x said rows = .ok b) {W0 w : World} {K : Know} {L : List Res} (h : St W0 w K L) :
  Calls Tryz.prog 74 #[.agg #[.int .i64 x.base, .int .i64 x.len, .int .i64 x.leader, .int .i64 x.sum, .int .i64 x.attr, .int .i64 x.last, .int .i64 x.first, .int .i64 x.maxt, .int .i64 x.prod, .int .i64 x.epoch, .int .i64 x.seq, .int .i64 x.count], .string (bb said), .string (bb rows)] w fun en w' => ∃ (q : Option Addr) (l : List (RecS × Value)) (cap : Nat), en = .returned (.tuple #[.agg #[.int .i64 b.base, .int .i64 b.leader, .bool b.app, .bool b.txn, .bool b.ctl, .int .i64 b.last, .int .i64 b.first, .int .i64 b.maxt, .int .i64 b.prod, .int .i64 b.epoch, .int .i64 b.seq, .slice q l.length cap], .int .i64 0]) ∧ l.map (·.1) = b.recs ∧ St W0 w' (K.and (Know.recs (.slice q l.length cap) l)) L := by
 obtain ⟨c1, c2, rs, hu, c3, rfl⟩ := asmB_ok ha
 obtain ⟨base, len, leader, sum, attr, last, first, maxt, prod, epoch, seq, count⟩ := x
 simp only at har hc0 hcn hmx c1 c2 hu c3
 obtain ⟨cnt, rfl⟩ : ∃ n : Nat, count = (n : Int) := ⟨count.toNat, by omega⟩
 rw [Int.toNat_natCast] at hu
 exact asm_ok said rows base len leader sum attr last first maxt prod epoch seq cnt _ rfl hs1 hs2 (by omega) c1 c2 har (by omega) hr1 hmx rs hu c3 h
set_option maxHeartbeats 2000000 in
set_option maxRecDepth 100000 in
theorem bat_read_pre (p : Nat) (i i1 i2 j : InS) (said : Bs) (x : PreS) (e e2 : Int) (hxl : -2147483648 ≤ x.len ∧ x.len < 2147483648) (hsl : said.length ≤ 140737488355328) (ht1 : i.take 61 = (said, i1)) (hp : (⟨said, 0, 0⟩ : InS).pre = (x, j)) (hj : j.err = e) (he : e ≠ 0) (hf : i1.fail e = i2) (he2 : i2.err = e2) (he3 : e2 ≠ 0) {W0 w : World} {K : Know} {L : List Res} (h : St W0 w K (.inp p i :: L)) :
  Calls Tryz.prog 42 #[inPtr p] w fun en w' => en = .returned (.agg #[.int .i64 0, .int .i64 0, .bool false, .bool false, .bool false, .int .i64 0, .int .i64 0, .int .i64 0, .int .i64 0, .int .i64 0, .int .i64 0, .slice none 0 0]) ∧ St W0 w' K (.inp p i2 :: L) := by
 have g1 := h.allocRaw #[.int .i64 0, .int .i64 0, .bool false, .bool false, .bool false, .int .i64 0, .int .i64 0, .int .i64 0, .int .i64 0, .int .i64 0, .int .i64 0, .slice none 0 0] 43
 obtain ⟨rb, hrb⟩ : ∃ b, w.heap.size = b := ⟨_, rfl⟩
 rw [hrb] at g1
 have H := Lib.hid g1
 have HT1 := Lib.hid ht1
 have HSL := Lib.hid hsl
 have HP := Lib.hid hp
 have HJ := Lib.hid hj
 have HF := Lib.hid hf
 have HT2 := Lib.hid (show i2.take (x.len - 49) = ([], i2) from InS.take_err (by rw [he2]; exact he3))
 have HE3 := Lib.hid he2
 have gz : (e == 0) = false := by rw [beq_eq_false_iff_ne]; exact he
 have gz2 : (e != 0) = true := by rw [bne_iff_ne]; exact he
 have gy : (e2 == 0) = false := by rw [beq_eq_false_iff_ne]; exact he3
 have gy2 : (e2 != 0) = true := by rw [bne_iff_ne]; exact he3
 have f1 : wrap64 (x.len - 49) = x.len - 49 := by unfold wrap64; omega
 have f2 : IntKind.i64.wrap (x.len - 49) = x.len - 49 := IntWalk.i64_in _ (by omega)
 clear h g1 ht1 hsl hp hj hf he2 he he3 hxl
 go_enter Tryz.func42, Tryz.ntmps42
 go_wp2_with (first
  | (go_at_call 72; (with_reducible refine (s_takeE p i i1 _ said HT1.out H.out.p1).mono ?_); rintro e_ wn ⟨rfl, h⟩; replace H := Lib.hid h; clear h)
  | (go_at_call 41; (with_reducible refine (s_new said HSL.out H.out).mono ?_); rintro e_ wn ⟨bi, rfl, h⟩; replace H := Lib.hid h; clear h)
  | (go_at_call 71; (with_reducible refine (prefix_readQ bi _ j x HP.out H.out).mono ?_); rintro e_ wn ⟨rfl, h⟩; replace H := Lib.hid h; clear h; have h := H.out; obtain ⟨pb, hpb⟩ : ∃ b, wn.heap.size = b := ⟨_, rfl⟩; have h := h.allocRaw #[.int .i64 x.base, .int .i64 x.len, .int .i64 x.leader, .int .i64 x.sum, .int .i64 x.attr, .int .i64 x.last, .int .i64 x.first, .int .i64 x.maxt, .int .i64 x.prod, .int .i64 x.epoch, .int .i64 x.seq, .int .i64 x.count] 81; rw [hpb] at h; obtain ⟨x0, x1, x2, x3, x4, x5, x6, x7, x8, x9, x10, x11, y0, y1, y2, y3, y4, y5, y6, y7, y8, y9, y10, y11⟩ := raw12 (b := pb) (h); replace H := Lib.hid h.p1; clear h)
  | (go_at_call 43; (with_reducible refine (s_errE bi j e HJ.out H.out).mono ?_); rintro e_ wn ⟨rfl, h⟩; replace H := Lib.hid h; clear h; obtain ⟨x0, x1, x2, x3, x4, x5, x6, x7, x8, x9, x10, x11, y0, y1, y2, y3, y4, y5, y6, y7, y8, y9, y10, y11⟩ := raw12 (b := pb) (H.out.p1))
  | (go_at_call 73; (with_reducible refine (s_failE p i1 i2 _ HF.out H.out.p2).mono ?_); rintro e_ wn ⟨rfl, h⟩; replace H := Lib.hid h; clear h; obtain ⟨x0, x1, x2, x3, x4, x5, x6, x7, x8, x9, x10, x11, y0, y1, y2, y3, y4, y5, y6, y7, y8, y9, y10, y11⟩ := raw12 (b := pb) (H.out.p2))
  | (go_at_call 72; (with_reducible refine (s_takeE p i2 i2 _ [] HT2.out H.out).mono ?_); rintro e_ wn ⟨rfl, h⟩; replace H := Lib.hid h; clear h; obtain ⟨x0, x1, x2, x3, x4, x5, x6, x7, x8, x9, x10, x11, y0, y1, y2, y3, y4, y5, y6, y7, y8, y9, y10, y11⟩ := raw12 (b := pb) (H.out.p2))
  | (go_at_call 43; (with_reducible refine (s_errE p i2 e2 HE3.out H.out).mono ?_); rintro e_ wn ⟨rfl, h⟩; replace H := Lib.hid h; clear h; obtain ⟨x0, x1, x2, x3, x4, x5, x6, x7, x8, x9, x10, x11, y0, y1, y2, y3, y4, y5, y6, y7, y8, y9, y10, y11⟩ := raw12 (b := pb) (H.out.p2); obtain ⟨a0, a1, a2, a3, a4, a5, a6, a7, a8, a9, a10, a11, f0, f1, f2, f3, f4, f5, f6, f7, f8, f9, f10, f11⟩ := raw12 (b := rb) (H.out.p3)))
 have hz : St W0 _ _ (.raw rb #[.int .i64 0, .int .i64 0, .bool false, .bool false, .bool false, .int .i64 0, .int .i64 0, .int .i64 0, .int .i64 0, .int .i64 0, .int .i64 0, .slice none 0 0] 43 :: _) := St.sets12 _ _ _ _ _ _ _ _ _ _ _ _ (H.out.p3)
 refine bodyPost_ret (rc_cell_only rfl _ _ rb [.int .i64 0, .int .i64 0, .bool false, .bool false, .bool false, .int .i64 0, .int .i64 0, .int .i64 0, .int .i64 0, .int .i64 0, .int .i64 0, .slice none 0 0] _ rfl (rc_range hz) Tryz.underlying43 rfl (by kernel_rfl)) rfl ?_
 exact ⟨rfl, hz.drop.p1.drop.p1.drop⟩

set_option maxHeartbeats 2000000 in
set_option maxRecDepth 100000 in
theorem bat_read_take (p : Nat) (i i1 i3 j : InS) (said rows : Bs) (x : PreS) (e2 : Int) (hxl : -2147483648 ≤ x.len ∧ x.len < 2147483648) (hsl : said.length ≤ 140737488355328) (ht1 : i.take 61 = (said, i1)) (hp : (⟨said, 0, 0⟩ : InS).pre = (x, j)) (hj : j.err = 0) (ht2 : i1.take (x.len - 49) = (rows, i3)) (he2 : i3.err = e2) (he3 : e2 ≠ 0) {W0 w : World} {K : Know} {L : List Res} (h : St W0 w K (.inp p i :: L)) :
  Calls Tryz.prog 42 #[inPtr p] w fun en w' => en = .returned (.agg #[.int .i64 0, .int .i64 0, .bool false, .bool false, .bool false, .int .i64 0, .int .i64 0, .int .i64 0, .int .i64 0, .int .i64 0, .int .i64 0, .slice none 0 0]) ∧ St W0 w' K (.inp p i3 :: L) := by
 have g1 := h.allocRaw #[.int .i64 0, .int .i64 0, .bool false, .bool false, .bool false, .int .i64 0, .int .i64 0, .int .i64 0, .int .i64 0, .int .i64 0, .int .i64 0, .slice none 0 0] 43
 obtain ⟨rb, hrb⟩ : ∃ b, w.heap.size = b := ⟨_, rfl⟩
 rw [hrb] at g1
 have H := Lib.hid g1
 have HT1 := Lib.hid ht1
 have HSL := Lib.hid hsl
 have HP := Lib.hid hp
 have HJ := Lib.hid hj
 have HT2 := Lib.hid ht2
 have HE3 := Lib.hid he2
 have gy : (e2 == 0) = false := by rw [beq_eq_false_iff_ne]; exact he3
 have gy2 : (e2 != 0) = true := by rw [bne_iff_ne]; exact he3
 have f1 : wrap64 (x.len - 49) = x.len - 49 := by unfold wrap64; omega
 have f2 : IntKind.i64.wrap (x.len - 49) = x.len - 49 := IntWalk.i64_in _ (by omega)
 clear h g1 ht1 hsl hp hj ht2 he2 he3 hxl
 go_enter Tryz.func42, Tryz.ntmps42
 go_wp2_with (first
  | (go_at_call 72; (with_reducible refine (s_takeE p i i1 _ said HT1.out H.out.p1).mono ?_); rintro e_ wn ⟨rfl, h⟩; replace H := Lib.hid h; clear h)
  | (go_at_call 41; (with_reducible refine (s_new said HSL.out H.out).mono ?_); rintro e_ wn ⟨bi, rfl, h⟩; replace H := Lib.hid h; clear h)
  | (go_at_call 71; (with_reducible refine (prefix_readQ bi _ j x HP.out H.out).mono ?_); rintro e_ wn ⟨rfl, h⟩; replace H := Lib.hid h; clear h; have h := H.out; obtain ⟨pb, hpb⟩ : ∃ b, wn.heap.size = b := ⟨_, rfl⟩; have h := h.allocRaw #[.int .i64 x.base, .int .i64 x.len, .int .i64 x.leader, .int .i64 x.sum, .int .i64 x.attr, .int .i64 x.last, .int .i64 x.first, .int .i64 x.maxt, .int .i64 x.prod, .int .i64 x.epoch, .int .i64 x.seq, .int .i64 x.count] 81; rw [hpb] at h; obtain ⟨x0, x1, x2, x3, x4, x5, x6, x7, x8, x9, x10, x11, y0, y1, y2, y3, y4, y5, y6, y7, y8, y9, y10, y11⟩ := raw12 (b := pb) (h); replace H := Lib.hid h.p1; clear h)
  | (go_at_call 43; (with_reducible refine (s_errE bi j 0 HJ.out H.out).mono ?_); rintro e_ wn ⟨rfl, h⟩; replace H := Lib.hid h; clear h; obtain ⟨x0, x1, x2, x3, x4, x5, x6, x7, x8, x9, x10, x11, y0, y1, y2, y3, y4, y5, y6, y7, y8, y9, y10, y11⟩ := raw12 (b := pb) (H.out.p1))
  | (go_at_call 72; (with_reducible refine (s_takeE p i1 i3 _ rows HT2.out H.out.p2).mono ?_); rintro e_ wn ⟨rfl, h⟩; replace H := Lib.hid h; clear h; obtain ⟨x0, x1, x2, x3, x4, x5, x6, x7, x8, x9, x10, x11, y0, y1, y2, y3, y4, y5, y6, y7, y8, y9, y10, y11⟩ := raw12 (b := pb) (H.out.p2))
  | (go_at_call 43; (with_reducible refine (s_errE p i3 e2 HE3.out H.out).mono ?_); rintro e_ wn ⟨rfl, h⟩; replace H := Lib.hid h; clear h; obtain ⟨x0, x1, x2, x3, x4, x5, x6, x7, x8, x9, x10, x11, y0, y1, y2, y3, y4, y5, y6, y7, y8, y9, y10, y11⟩ := raw12 (b := pb) (H.out.p2); obtain ⟨a0, a1, a2, a3, a4, a5, a6, a7, a8, a9, a10, a11, f0, f1, f2, f3, f4, f5, f6, f7, f8, f9, f10, f11⟩ := raw12 (b := rb) (H.out.p3)))
 have hz : St W0 _ _ (.raw rb #[.int .i64 0, .int .i64 0, .bool false, .bool false, .bool false, .int .i64 0, .int .i64 0, .int .i64 0, .int .i64 0, .int .i64 0, .int .i64 0, .slice none 0 0] 43 :: _) := St.sets12 _ _ _ _ _ _ _ _ _ _ _ _ (H.out.p3)
 refine bodyPost_ret (rc_cell_only rfl _ _ rb [.int .i64 0, .int .i64 0, .bool false, .bool false, .bool false, .int .i64 0, .int .i64 0, .int .i64 0, .int .i64 0, .int .i64 0, .int .i64 0, .slice none 0 0] _ rfl (rc_range hz) Tryz.underlying43 rfl (by kernel_rfl)) rfl ?_
 exact ⟨rfl, hz.drop.p1.drop.p1.drop⟩
set_option maxHeartbeats 4000000 in
set_option maxRecDepth 100000 in
theorem bat_read_ok (p : Nat) (i i1 i3 j : InS) (said rows : Bs) (x : PreS) (hxl : -2147483648 ≤ x.len ∧ x.len < 2147483648) (hs1 : 21 ≤ said.length) (hsl : said.length ≤ 140737488355328) (hr1 : rows.length ≤ 1000000) (har : R64 x.attr) (hc0 : 0 ≤ x.count) (hcn : x.count ≤ 2147483647) (hmx : x.first ≤ 9223372036854775807) (ht1 : i.take 61 = (said, i1)) (hp : (⟨said, 0, 0⟩ : InS).pre = (x, j)) (hj : j.err = 0) (ht2 : i1.take (x.len - 49) = (rows, i3)) (he3 : i3.err = 0) (b : BatS) (ha : asmB x said rows = .ok b) {W0 w : World} {K : Know} {L : List Res} (h : St W0 w K (.inp p i :: L)) :
  Calls Tryz.prog 42 #[inPtr p] w fun en w' => ∃ (q : Option Addr) (l : List (RecS × Value)) (cap : Nat), en = .returned (.agg #[.int .i64 b.base, .int .i64 b.leader, .bool b.app, .bool b.txn, .bool b.ctl, .int .i64 b.last, .int .i64 b.first, .int .i64 b.maxt, .int .i64 b.prod, .int .i64 b.epoch, .int .i64 b.seq, .slice q l.length cap]) ∧ l.map (·.1) = b.recs ∧ St W0 w' (K.and (Know.recs (.slice q l.length cap) l)) (.inp p i3 :: L) := by
 have g1 := h.allocRaw #[.int .i64 0, .int .i64 0, .bool false, .bool false, .bool false, .int .i64 0, .int .i64 0, .int .i64 0, .int .i64 0, .int .i64 0, .int .i64 0, .slice none 0 0] 43
 obtain ⟨rb, hrb⟩ : ∃ b, w.heap.size = b := ⟨_, rfl⟩
 rw [hrb] at g1
 have H := Lib.hid g1
 have HT1 := Lib.hid ht1
 have HSL := Lib.hid hsl
 have HS1 := Lib.hid hs1
 have HR1 := Lib.hid hr1
 have HAR := Lib.hid har
 have HC0 := Lib.hid hc0
 have HCN := Lib.hid hcn
 have HMX := Lib.hid hmx
 have HA := Lib.hid ha
 have HP := Lib.hid hp
 have HJ := Lib.hid hj
 have HT2 := Lib.hid ht2
 have HE3 := Lib.hid he3
 have f1 : wrap64 (x.len - 49) = x.len - 49 := by unfold wrap64; omega
 have f2 : IntKind.i64.wrap (x.len - 49) = x.len - 49 := IntWalk.i64_in _ (by omega)
 clear h g1 ht1 hsl hs1 hr1 har hc0 hcn hmx ha hp hj ht2 he3 hxl 
 go_enter Tryz.func42, Tryz.ntmps42
 go_wp2_with (first
  | (go_at_call 72; (with_reducible refine (s_takeE p i i1 _ said HT1.out H.out.p1).mono ?_); rintro e_ wn ⟨rfl, h⟩; replace H := Lib.hid h; clear h)
  | (go_at_call 41; (with_reducible refine (s_new said HSL.out H.out).mono ?_); rintro e_ wn ⟨bi, rfl, h⟩; replace H := Lib.hid h; clear h)
  | (go_at_call 71; (with_reducible refine (prefix_readQ bi _ j x HP.out H.out).mono ?_); rintro e_ wn ⟨rfl, h⟩; replace H := Lib.hid h; clear h; have h := H.out; obtain ⟨pb, hpb⟩ : ∃ b, wn.heap.size = b := ⟨_, rfl⟩; have h := h.allocRaw #[.int .i64 x.base, .int .i64 x.len, .int .i64 x.leader, .int .i64 x.sum, .int .i64 x.attr, .int .i64 x.last, .int .i64 x.first, .int .i64 x.maxt, .int .i64 x.prod, .int .i64 x.epoch, .int .i64 x.seq, .int .i64 x.count] 81; rw [hpb] at h; obtain ⟨x0, x1, x2, x3, x4, x5, x6, x7, x8, x9, x10, x11, y0, y1, y2, y3, y4, y5, y6, y7, y8, y9, y10, y11⟩ := raw12 (b := pb) (h); replace H := Lib.hid h.p1; clear h)
  | (go_at_call 43; (with_reducible refine (s_errE bi j 0 HJ.out H.out).mono ?_); rintro e_ wn ⟨rfl, h⟩; replace H := Lib.hid h; clear h; obtain ⟨x0, x1, x2, x3, x4, x5, x6, x7, x8, x9, x10, x11, y0, y1, y2, y3, y4, y5, y6, y7, y8, y9, y10, y11⟩ := raw12 (b := pb) (H.out.p1))
  | (go_at_call 72; (with_reducible refine (s_takeE p i1 i3 _ rows HT2.out H.out.p2).mono ?_); rintro e_ wn ⟨rfl, h⟩; replace H := Lib.hid h; clear h; obtain ⟨x0, x1, x2, x3, x4, x5, x6, x7, x8, x9, x10, x11, y0, y1, y2, y3, y4, y5, y6, y7, y8, y9, y10, y11⟩ := raw12 (b := pb) (H.out.p2))
  | (go_at_call 43; (with_reducible refine (s_errE p i3 0 HE3.out H.out).mono ?_); rintro e_ wn ⟨rfl, h⟩; replace H := Lib.hid h; clear h; obtain ⟨x0, x1, x2, x3, x4, x5, x6, x7, x8, x9, x10, x11, y0, y1, y2, y3, y4, y5, y6, y7, y8, y9, y10, y11⟩ := raw12 (b := pb) (H.out.p2); obtain ⟨a0, a1, a2, a3, a4, a5, a6, a7, a8, a9, a10, a11, f0, f1, f2, f3, f4, f5, f6, f7, f8, f9, f10, f11⟩ := raw12 (b := rb) (H.out.p3))
  | (go_at_call 74; (with_reducible refine (asm_good x said rows HS1.out HSL.out HR1.out HAR.out HC0.out HCN.out HMX.out b HA.out H.out).mono ?_); rintro e_ wn ⟨q, l, cap, rfl, hl, h⟩; have h := h.allocRaw #[.int .i64 b.base, .int .i64 b.leader, .bool b.app, .bool b.txn, .bool b.ctl, .int .i64 b.last, .int .i64 b.first, .int .i64 b.maxt, .int .i64 b.prod, .int .i64 b.epoch, .int .i64 b.seq, .slice q l.length cap] 43; obtain ⟨bB, hbB⟩ : ∃ b, wn.heap.size = b := ⟨_, rfl⟩; rw [hbB] at h; obtain ⟨c0, c1, c2, c3, c4, c5, c6, c7, c8, c9, c10, c11, g0, g1, g2, g3, g4, g5, g6, g7, g8, g9, g10, g11⟩ := raw12 (b := bB) (h); obtain ⟨a0, a1, a2, a3, a4, a5, a6, a7, a8, a9, a10, a11, f0, f1, f2, f3, f4, f5, f6, f7, f8, f9, f10, f11⟩ := raw12 (b := rb) (h.p4); replace H := Lib.hid h; clear h))
 have hz : St W0 _ _ (.raw rb #[.int .i64 b.base, .int .i64 b.leader, .bool b.app, .bool b.txn, .bool b.ctl, .int .i64 b.last, .int .i64 b.first, .int .i64 b.maxt, .int .i64 b.prod, .int .i64 b.epoch, .int .i64 b.seq, .slice q l.length cap] 43 :: _) := St.sets12 _ _ _ _ _ _ _ _ _ _ _ _ (H.out.p4)
 refine bodyPost_ret (rc_cell_only rfl _ _ rb [.int .i64 b.base, .int .i64 b.leader, .bool b.app, .bool b.txn, .bool b.ctl, .int .i64 b.last, .int .i64 b.first, .int .i64 b.maxt, .int .i64 b.prod, .int .i64 b.epoch, .int .i64 b.seq, .slice q l.length cap] _ rfl (rc_range hz) Tryz.underlying43 rfl (by kernel_rfl)) rfl ?_
 exact ⟨q, l, cap, rfl, hl, hz.drop.drop.p1.drop.p1.drop⟩

set_option maxHeartbeats 4000000 in
set_option maxRecDepth 100000 in
theorem bat_read_asm (p : Nat) (i i1 i3 j : InS) (said rows : Bs) (x : PreS) (hxl : -2147483648 ≤ x.len ∧ x.len < 2147483648) (hs1 : 21 ≤ said.length) (hsl : said.length ≤ 140737488355328) (hr1 : rows.length ≤ 1000000) (har : R64 x.attr) (hc0 : 0 ≤ x.count) (hcn : x.count ≤ 2147483647) (hmx : x.first ≤ 9223372036854775807) (ht1 : i.take 61 = (said, i1)) (hp : (⟨said, 0, 0⟩ : InS).pre = (x, j)) (hj : j.err = 0) (ht2 : i1.take (x.len - 49) = (rows, i3)) (he3 : i3.err = 0) (i4 : InS) (e : Int) (ha : asmB x said rows = .error e) (hf : i3.fail e = i4) {W0 w : World} {K : Know} {L : List Res} (h : St W0 w K (.inp p i :: L)) :
  Calls Tryz.prog 42 #[inPtr p] w fun en w' => en = .returned (.agg #[.int .i64 0, .int .i64 0, .bool false, .bool false, .bool false, .int .i64 0, .int .i64 0, .int .i64 0, .int .i64 0, .int .i64 0, .int .i64 0, .slice none 0 0]) ∧ St W0 w' K (.inp p i4 :: L) := by
 have g1 := h.allocRaw #[.int .i64 0, .int .i64 0, .bool false, .bool false, .bool false, .int .i64 0, .int .i64 0, .int .i64 0, .int .i64 0, .int .i64 0, .int .i64 0, .slice none 0 0] 43
 obtain ⟨rb, hrb⟩ : ∃ b, w.heap.size = b := ⟨_, rfl⟩
 rw [hrb] at g1
 have H := Lib.hid g1
 have HT1 := Lib.hid ht1
 have HSL := Lib.hid hsl
 have HS1 := Lib.hid hs1
 have HR1 := Lib.hid hr1
 have HAR := Lib.hid har
 have HC0 := Lib.hid hc0
 have HCN := Lib.hid hcn
 have HMX := Lib.hid hmx
 have HA := Lib.hid ha
 have HP := Lib.hid hp
 have HJ := Lib.hid hj
 have HT2 := Lib.hid ht2
 have HE3 := Lib.hid he3
 have HF := Lib.hid hf
 have gz : (e == 0) = false := by rw [beq_eq_false_iff_ne]; exact asmB_ne ha
 have gz2 : (e != 0) = true := by rw [bne_iff_ne]; exact asmB_ne ha
 have f1 : wrap64 (x.len - 49) = x.len - 49 := by unfold wrap64; omega
 have f2 : IntKind.i64.wrap (x.len - 49) = x.len - 49 := IntWalk.i64_in _ (by omega)
 clear h g1 ht1 hsl hs1 hr1 har hc0 hcn hmx ha hp hj ht2 he3 hxl hf
 go_enter Tryz.func42, Tryz.ntmps42
 go_wp2_with (first
  | (go_at_call 72; (with_reducible refine (s_takeE p i i1 _ said HT1.out H.out.p1).mono ?_); rintro e_ wn ⟨rfl, h⟩; replace H := Lib.hid h; clear h)
  | (go_at_call 41; (with_reducible refine (s_new said HSL.out H.out).mono ?_); rintro e_ wn ⟨bi, rfl, h⟩; replace H := Lib.hid h; clear h)
  | (go_at_call 71; (with_reducible refine (prefix_readQ bi _ j x HP.out H.out).mono ?_); rintro e_ wn ⟨rfl, h⟩; replace H := Lib.hid h; clear h; have h := H.out; obtain ⟨pb, hpb⟩ : ∃ b, wn.heap.size = b := ⟨_, rfl⟩; have h := h.allocRaw #[.int .i64 x.base, .int .i64 x.len, .int .i64 x.leader, .int .i64 x.sum, .int .i64 x.attr, .int .i64 x.last, .int .i64 x.first, .int .i64 x.maxt, .int .i64 x.prod, .int .i64 x.epoch, .int .i64 x.seq, .int .i64 x.count] 81; rw [hpb] at h; obtain ⟨x0, x1, x2, x3, x4, x5, x6, x7, x8, x9, x10, x11, y0, y1, y2, y3, y4, y5, y6, y7, y8, y9, y10, y11⟩ := raw12 (b := pb) (h); replace H := Lib.hid h.p1; clear h)
  | (go_at_call 43; (with_reducible refine (s_errE bi j 0 HJ.out H.out).mono ?_); rintro e_ wn ⟨rfl, h⟩; replace H := Lib.hid h; clear h; obtain ⟨x0, x1, x2, x3, x4, x5, x6, x7, x8, x9, x10, x11, y0, y1, y2, y3, y4, y5, y6, y7, y8, y9, y10, y11⟩ := raw12 (b := pb) (H.out.p1))
  | (go_at_call 72; (with_reducible refine (s_takeE p i1 i3 _ rows HT2.out H.out.p2).mono ?_); rintro e_ wn ⟨rfl, h⟩; replace H := Lib.hid h; clear h; obtain ⟨x0, x1, x2, x3, x4, x5, x6, x7, x8, x9, x10, x11, y0, y1, y2, y3, y4, y5, y6, y7, y8, y9, y10, y11⟩ := raw12 (b := pb) (H.out.p2))
  | (go_at_call 43; (with_reducible refine (s_errE p i3 0 HE3.out H.out).mono ?_); rintro e_ wn ⟨rfl, h⟩; replace H := Lib.hid h; clear h; obtain ⟨x0, x1, x2, x3, x4, x5, x6, x7, x8, x9, x10, x11, y0, y1, y2, y3, y4, y5, y6, y7, y8, y9, y10, y11⟩ := raw12 (b := pb) (H.out.p2); obtain ⟨a0, a1, a2, a3, a4, a5, a6, a7, a8, a9, a10, a11, f0, f1, f2, f3, f4, f5, f6, f7, f8, f9, f10, f11⟩ := raw12 (b := rb) (H.out.p3))
  | (go_at_call 74; (with_reducible refine (asm_err x said rows HS1.out HSL.out HR1.out HAR.out HC0.out HCN.out HMX.out e HA.out H.out).mono ?_); rintro e_ wn ⟨b, q, n, cap, rfl, h⟩; have h := h.allocRaw #[.int .i64 b.base, .int .i64 b.leader, .bool b.app, .bool b.txn, .bool b.ctl, .int .i64 b.last, .int .i64 b.first, .int .i64 b.maxt, .int .i64 b.prod, .int .i64 b.epoch, .int .i64 b.seq, .slice q n cap] 43; obtain ⟨bB, hbB⟩ : ∃ b, wn.heap.size = b := ⟨_, rfl⟩; rw [hbB] at h; obtain ⟨c0, c1, c2, c3, c4, c5, c6, c7, c8, c9, c10, c11, g0, g1, g2, g3, g4, g5, g6, g7, g8, g9, g10, g11⟩ := raw12 (b := bB) (h); obtain ⟨a0, a1, a2, a3, a4, a5, a6, a7, a8, a9, a10, a11, f0, f1, f2, f3, f4, f5, f6, f7, f8, f9, f10, f11⟩ := raw12 (b := rb) (h.p4); replace H := Lib.hid h; clear h)
  | (go_at_call 73; (with_reducible refine (s_failE p i3 i4 _ HF.out H.out.p1).mono ?_); rintro e_ wn ⟨rfl, h⟩; replace H := Lib.hid h; clear h; obtain ⟨c0, c1, c2, c3, c4, c5, c6, c7, c8, c9, c10, c11, g0, g1, g2, g3, g4, g5, g6, g7, g8, g9, g10, g11⟩ := raw12 (b := bB) (H.out.p1); obtain ⟨a0, a1, a2, a3, a4, a5, a6, a7, a8, a9, a10, a11, f0, f1, f2, f3, f4, f5, f6, f7, f8, f9, f10, f11⟩ := raw12 (b := rb) (H.out.p4)))
 have hz : St W0 _ _ (.raw rb #[.int .i64 0, .int .i64 0, .bool false, .bool false, .bool false, .int .i64 0, .int .i64 0, .int .i64 0, .int .i64 0, .int .i64 0, .int .i64 0, .slice none 0 0] 43 :: _) := St.sets12 _ _ _ _ _ _ _ _ _ _ _ _ (H.out.p4)
 refine bodyPost_ret (rc_cell_only rfl _ _ rb [.int .i64 0, .int .i64 0, .bool false, .bool false, .bool false, .int .i64 0, .int .i64 0, .int .i64 0, .int .i64 0, .int .i64 0, .int .i64 0, .slice none 0 0] _ rfl (rc_range hz) Tryz.underlying43 rfl (by kernel_rfl)) rfl ?_
 exact ⟨rfl, hz.drop.p1.drop.p1.drop.p1.drop⟩
theorem bat_read_good (p : Nat) (s : Bs) (pos : Nat) (hsl : s.length ≤ 1000000) (hp : pos ≤ s.length) (b : BatS) (n : Nat) (hr : reBat (s.drop pos) = .ok (b, n)) {W0 w : World} {K : Know} {L : List Res} (h : St W0 w K (.inp p ⟨s, pos, 0⟩ :: L)) :
  Calls Tryz.prog 42 #[inPtr p] w fun en w' => ∃ (q : Option Addr) (l : List (RecS × Value)) (cap : Nat), en = .returned (.agg #[.int .i64 b.base, .int .i64 b.leader, .bool b.app, .bool b.txn, .bool b.ctl, .int .i64 b.last, .int .i64 b.first, .int .i64 b.maxt, .int .i64 b.prod, .int .i64 b.epoch, .int .i64 b.seq, .slice q l.length cap]) ∧ l.map (·.1) = b.recs ∧ St W0 w' (K.and (Know.recs (.slice q l.length cap) l)) (.inp p ⟨s, pos + n, 0⟩ :: L) := by
 obtain ⟨x, hx, rfl, hn, ha⟩ := reBat_ok hr
 obtain ⟨r1, r2, r3, r4, r5, r6⟩ := pre_ranges hx
 have h61 := (rePre_ok hx).1
 rw [List.length_drop] at hn h61
 have hl61 : ((s.drop pos).take 61).length = 61 := by rw [List.length_take, List.length_drop]; omega
 have hrl : (((s.drop pos).drop 61).take (x.len - 49).toNat).length ≤ 1000000 := by rw [List.length_take, List.length_drop, List.length_drop]; omega
 have ht1 : (⟨s, pos, 0⟩ : InS).take 61 = ((s.drop pos).take 61, ⟨s, pos + 61, 0⟩) := InS.take_ok rfl (by omega) (by simp only [InS.left]; omega)
 have ht2 : (⟨s, pos + 61, 0⟩ : InS).take (x.len - 49) = (((s.drop pos).drop 61).take (x.len - 49).toNat, ⟨s, pos + 61 + (x.len - 49).toNat, 0⟩) := by
  rw [InS.take_ok rfl (by omega) (by simp only [InS.left]; omega), List.drop_drop]
 have hpre := pre_okA ((s.drop pos).take 61) 0 (by omega)
 rw [List.drop_zero, rePre_take _ (by rw [List.length_drop]; omega), hx] at hpre
 rw [← Nat.add_assoc]
 exact bat_read_ok p _ _ _ _ _ _ x r1 (by rw [hl61]; omega) (by rw [hl61]; omega) hrl r3 r4 r5 r6 ht1 hpre rfl ht2 rfl b ha h
theorem bat_read_bad (p : Nat) (s : Bs) (pos : Nat) (hsl : s.length ≤ 1000000) (hp : pos ≤ s.length) (e : Int) (hr : reBat (s.drop pos) = .error e) {W0 w : World} {K : Know} {L : List Res} (h : St W0 w K (.inp p ⟨s, pos, 0⟩ :: L)) :
   Calls Tryz.prog 42 #[inPtr p] w fun en w' => en = .returned (.agg #[.int .i64 0, .int .i64 0, .bool false, .bool false, .bool false, .int .i64 0, .int .i64 0, .int .i64 0, .int .i64 0, .int .i64 0, .int .i64 0, .slice none 0 0]) ∧ ∃ q, q ≤ s.length ∧ St W0 w' K (.inp p ⟨s, q, e⟩ :: L) := by
 have hne := reBat_ne hr
 by_cases h61 : s.length < pos + 61
 · unfold reBat at hr
   rw [rePre_short (by rw [List.length_drop]; omega)] at hr
   cases hr
   have ht1 : (⟨s, pos, 0⟩ : InS).take 61 = ([], ⟨s, pos, 1⟩) := InS.take_short (by omega) (by simp only [InS.left]; omega)
   obtain ⟨q, _, hpre⟩ := pre_shortA [] 0 (Nat.le_refl _) (by decide)
   exact (bat_read_pre p _ _ ⟨s, pos, 1⟩ _ [] PreS.zero 1 1 (by decide) (by decide) ht1 hpre rfl (by decide) rfl rfl (by decide) h).mono fun _ _ hh => ⟨hh.1, pos, hp, hh.2⟩
 have hl61 : ((s.drop pos).take 61).length = 61 := by rw [List.length_take, List.length_drop]; omega
 have ht1 : (⟨s, pos, 0⟩ : InS).take 61 = ((s.drop pos).take 61, ⟨s, pos + 61, 0⟩) := InS.take_ok rfl (by omega) (by simp only [InS.left]; omega)
 have hpre := pre_okA ((s.drop pos).take 61) 0 (by omega)
 rw [List.drop_zero, rePre_take _ (by rw [List.length_drop]; omega)] at hpre
 unfold reBat at hr
 cases hx : rePre (s.drop pos) with
 | error f =>
   rw [hx] at hr hpre
   simp only at hr hpre
   cases hr
   exact (bat_read_pre p _ _ ⟨s, pos + 61, e⟩ _ _ PreS.zero e e (by decide) (by rw [hl61]; omega) ht1 hpre rfl hne rfl rfl hne h).mono fun _ _ hh => ⟨hh.1, pos + 61, by omega, hh.2⟩
 | ok x =>
   rw [hx] at hr hpre
   simp only at hr hpre
   obtain ⟨r1, r2, r3, r4, r5, r6⟩ := pre_ranges hx
   by_cases hlen : (s.drop pos).length < 61 + (x.len - 49).toNat
   · rw [if_pos hlen] at hr
     cases hr
     rw [List.length_drop] at hlen
     have ht2 : (⟨s, pos + 61, 0⟩ : InS).take (x.len - 49) = ([], ⟨s, pos + 61, 1⟩) := InS.take_short (by omega) (by simp only [InS.left]; omega)
     exact (bat_read_take p _ _ _ _ _ _ x 1 r1 (by rw [hl61]; omega) ht1 hpre rfl ht2 rfl (by decide) h).mono fun _ _ hh => ⟨hh.1, pos + 61, by omega, hh.2⟩
   · rw [if_neg hlen] at hr
     rw [List.length_drop] at hlen
     have hrl : (((s.drop pos).drop 61).take (x.len - 49).toNat).length ≤ 1000000 := by rw [List.length_take, List.length_drop, List.length_drop]; omega
     have ht2 : (⟨s, pos + 61, 0⟩ : InS).take (x.len - 49) = (((s.drop pos).drop 61).take (x.len - 49).toNat, ⟨s, pos + 61 + (x.len - 49).toNat, 0⟩) := by
      rw [InS.take_ok rfl (by omega) (by simp only [InS.left]; omega), List.drop_drop]
     cases ha : asmB x ((s.drop pos).take 61) (((s.drop pos).drop 61).take (x.len - 49).toNat) with
     | ok b => rw [ha] at hr; cases hr
     | error f =>
      rw [ha] at hr
      simp only at hr
      cases hr
      exact (bat_read_asm p _ _ _ _ _ _ x r1 (by rw [hl61]; omega) (by rw [hl61]; omega) hrl r3 r4 r5 r6 ht1 hpre rfl ht2 rfl ⟨s, pos + 61 + (x.len - 49).toNat, e⟩ e ha rfl h).mono fun _ _ hh => ⟨hh.1, _, by omega, hh.2⟩
theorem setAll_getV : ∀ (vs : List Value) (o : Nat) (c : Array Value) (i : Nat), (setAll c o vs)[i]? = if o ≤ i ∧ i < o + vs.length ∧ i < c.size then vs[i - o]? else c[i]?
  | [], o, c, i => by
    show c[i]? = _
    rw [if_neg (by simp; omega)]
  | v :: r, o, c, i => by
    show (setAll (c.setIfInBounds o v) (o + 1) r)[i]? = _
    rw [setAll_getV r (o + 1) _ i]
    simp only [Array.size_setIfInBounds, List.length_cons]
    by_cases h1 : o + 1 ≤ i ∧ i < o + 1 + r.length ∧ i < c.size
    · rw [if_pos h1, if_pos (by omega)]
      obtain ⟨k, rfl⟩ : ∃ k, i = o + 1 + k := ⟨i - (o + 1), by omega⟩
      rw [show o + 1 + k - (o + 1) = k by omega, show o + 1 + k - o = k + 1 by omega]
      rfl
    · rw [if_neg h1, Array.getElem?_setIfInBounds]
      by_cases h2 : o = i
      · subst h2
        rw [if_pos rfl]
        by_cases h3 : o < c.size
        · rw [if_pos h3, if_pos (by omega), Nat.sub_self]; rfl
        · rw [if_neg h3, if_neg (by omega), Array.getElem?_eq_none (by omega)]
      · rw [if_neg h2, if_neg (by omega)]
theorem setAll_allV (c cs : Array Value) (h : c.size = cs.size) : setAll c 0 cs.toList = cs := by
 refine Array.ext_getElem? fun i => ?_
 rw [setAll_getV]
 by_cases h1 : i < cs.size
 · rw [if_pos (by simp; omega), Nat.sub_zero, Array.getElem?_toList]
 · rw [if_neg (by simp; omega), Array.getElem?_eq_none (by omega), Array.getElem?_eq_none (by omega)]

end Go.Proofs.YtngojlinfdokpaaGreat
