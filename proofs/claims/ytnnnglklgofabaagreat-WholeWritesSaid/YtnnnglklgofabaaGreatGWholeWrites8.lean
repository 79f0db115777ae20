/- A text. -/
import Derived.Test.YtnnnglklgofabaaGreatHdr1
import Derived.Test.YtnnnglklgofabaaGreatGWholeWrites7
import Derived.Test.YtnnnglklgofabaaGreatGWholeWrites4
import Derived.Test.YtnnnglklgofabaaGreatKeyP
import Derived.RegionTactic
import Derived.Deep.RegionHeld3
import Derived.Deep.DeepCutAuto
import Derived.WalkMore
import Derived.Test.YtnnnglklgofabaaGreatGWholeWrites5
import Derived.Test.YtnnnglklgofabaaGreatRef06b
import Derived.Test.YtnnnglklgofabaaGreatGWholeWrites3
import Derived.Test.YtnnnglklgofabaaGreatGWholeWrites2
import Derived.Test.YtnnnglklgofabaaGreatGWholeWrites1
/- A text. -/
namespace Go.Proofs.YtnnnglklgofabaaGreat
open Go.RowKit

def PTop.ts (x : PTop) : TopS := ⟨x.name, x.l.map PartR.idx⟩
theorem row_rows {α : Type} {R : List Value → α → Prop} {sz : Nat} (l : List α) (f : α → List Value) (hf : ∀ x ∈ l, (f x).length = sz ∧ R (f x) x) {w : World} {v : Value} {T : TypeId} {n : Nat} {xs : List Value} (hn : n = l.length) (hx : xs = l.flatMap f) (S1 : Nat → Prop) (h1 : (Res.row v T sz n xs).holds w S1) : (Know.flat R v sz l).p w S1 := by
 subst hn; subst hx; obtain ⟨⟨g1, g2⟩, g3⟩ := h1
 rcases g2 with ⟨rfl, h0⟩ | ⟨g, cap, cur, rfl, _, hg, hn, hcm, hcs, htake⟩
 · exact ⟨none, 0, by rw [h0], fun hh => absurd hh (by omega)⟩
 · have hS : S1 g := (g3 g).2 rfl; have hlt := heap_lt hg; refine ⟨_, cap, rfl, fun _ => ⟨g, 0, rfl, hS, hlt, fun i hi => ?_⟩⟩; obtain ⟨h2, h3⟩ := hf l[i] (List.getElem_mem hi); refine ⟨f l[i], h2, h3, fun q u hu => ?_⟩; rw [cell_at hg, Nat.zero_add]; have hq : q < sz := by rw [← h2]; exact (List.getElem?_eq_some_iff.1 hu).1
   exact zq19
theorem getD_app_l {α : Type} (l m : List α) (d : α) (k : Nat) (h : k < l.length) : (l ++ m).getD k d = l.getD k d := by
 rw [List.getD_eq_getElem?_getD, List.getD_eq_getElem?_getD, List.getElem?_append_left h]
theorem getD_app_r {α : Type} (l : List α) (x d : α) (k : Nat) (h : k = l.length) : (l ++ [x]).getD k d = x := by
 subst h; rw [List.getD_eq_getElem?_getD, List.getElem?_append_right (Nat.le_refl _), Nat.sub_self]
 rfl
theorem snoc_ind {α : Type} {P : List α → Prop} (h0 : P []) (h1 : ∀ t x, P t → P (t ++ [x])) : ∀ l, P l := by
 intro l; rw [← List.reverse_reverse l]
 induction l.reverse with
 | nil => exact h0
 | cons x t ih => rw [List.reverse_cons]; exact h1 _ _ ih
def icells (n : Int) : List Value := [.int .i64 n]
theorem elem_atop : ElemT Tryz.prog 129 (.agg #[.string ⟨#[]⟩, .slice none 0 0]) 2 40 := elemT_of (by kernel_rfl) rfl (by decide)
theorem elem_aint : ElemT Tryz.prog 3 (.int .i64 0) 1 8 := elemT_of (by kernel_rfl) rfl (by decide)
theorem St.freezeInts {W0 w : World} {K : Know} {L : List Res} {v : Value} {T : TypeId} {k : Nat} {l : List Int} {xs : List Value} (h : St W0 w K (.row v T 1 k xs :: L)) (hk : k = l.length) (hx : xs = l.flatMap icells) : St W0 w (K.and (Know.flat RI v 1 l)) L := by
 subst hk; subst hx; exact h.freezeRow (R := RI) (fun x _ => ⟨rfl, rfl⟩)
theorem allN_succ {n : Nat} {p : Nat → Bool} : allN (n + 1) p = (allN n p && p n) := by
 unfold allN; rw [List.range_succ, List.all_append]
 simp
theorem tRise_snoc (l : List TopS) (x : TopS) : tRise (l ++ [x]) = (tRise l && (tOk x && (l.isEmpty || Op.bytesLess ((l.map (·.name)).getD (l.length - 1) []) x.name))) := by
 unfold tRise riseS; rw [List.all_append, List.map_append, List.length_append, List.length_map, List.length_map]
 show ((l.all tOk && [x].all tOk) && allN (l.length + 1) (upS (l.map (·.name) ++ [x.name]))) = _
 rw [allN_succ]
 have e1 : allN l.length (upS (l.map (·.name) ++ [x.name])) = allN l.length (upS (l.map (·.name))) := by
  apply allN_ext
  intro k hk; unfold upS; rw [getD_app_l _ _ _ _ (by rw [List.length_map]; omega), getD_app_l _ _ _ _ (by rw [List.length_map]; omega)]
 have e2 : upS (l.map (·.name) ++ [x.name]) l.length = (l.isEmpty || Op.bytesLess ((l.map (·.name)).getD (l.length - 1) []) x.name) := by
  unfold upS; rw [show (l.map (·.name) ++ [x.name]).getD l.length [] = x.name from getD_app_r _ _ _ _ (by rw [List.length_map])]
  cases l with
  | nil => rfl
  | cons y t =>
   rw [getD_app_l _ _ _ _ (by rw [List.length_map]; simp)]
   rfl
 rw [e1, e2]; simp only [List.all_cons, List.all_nil, Bool.and_true]
 cases l.all tOk <;> cases allN l.length (upS (l.map (·.name))) <;> cases tOk x <;> simp
theorem riseP_snoc (l : List PartR) : ∀ (a : Int) (x : PartR), riseP a (l ++ [x]) = (riseP a l && (decide (((l.map PartR.idx).getLast?.getD a) < x.idx) && decide (x.idx ≤ 2147483647))) := by
 induction l with
 | nil => intro a x; simp [riseP]
 | cons y t ih =>
  intro a x
  show (decide (a < y.idx) && decide (y.idx ≤ 2147483647) && riseP y.idx (t ++ [x])) = _
  rw [ih]
  show _ = ((decide (a < y.idx) && decide (y.idx ≤ 2147483647) && riseP y.idx t) && _)
  have e : (List.map PartR.idx (y :: t)).getLast?.getD a = (List.map PartR.idx t).getLast?.getD y.idx := by
   cases t with
   | nil => rfl
   | cons z u => simp [List.getLast?_cons]
  rw [e]; simp only [Bool.and_assoc]
theorem riseP_last (l : List PartR) : ∀ (a : Int), riseP a l = true → a ≤ (l.map PartR.idx).getLast?.getD a := by
 induction l with
 | nil => intro a _; exact Int.le_refl _
 | cons y t ih =>
  intro a h; have h : (decide (a < y.idx) && decide (y.idx ≤ 2147483647) && riseP y.idx t) = true := h; simp only [Bool.and_eq_true, decide_eq_true_eq] at h; have h2 := ih y.idx h.2
  have e : (List.map PartR.idx (y :: t)).getLast?.getD a = (List.map PartR.idx t).getLast?.getD y.idx := by
   cases t with
   | nil => rfl
   | cons z u => simp [List.getLast?_cons]
  rw [e]
  omega
theorem getD_last (l : List Int) (h : l ≠ []) (a : Int) : l.getD (l.length - 1) 0 = l.getLast?.getD a := by
 rw [List.getLast?_eq_getElem?, List.getD_eq_getElem?_getD]; have : l.length - 1 < l.length := by have := List.length_pos_iff.2 h; omega
 rw [List.getElem?_eq_getElem this]
 rfl
def pRise2 (l : List Int) : Bool := allN l.length (fun k => decide (0 ≤ l.getD k 0 ∧ l.getD k 0 ≤ 2147483647) && upI l k)
theorem pRise2_snoc (l : List Int) (x : Int) : pRise2 (l ++ [x]) = (pRise2 l && (decide (0 ≤ x ∧ x ≤ 2147483647) && (l.isEmpty || decide (l.getD (l.length - 1) 0 < x)))) := by
 unfold pRise2; rw [List.length_append]
 show allN (l.length + 1) _ = _
 rw [allN_succ]
 have e1 : allN l.length (fun k => decide (0 ≤ (l ++ [x]).getD k 0 ∧ (l ++ [x]).getD k 0 ≤ 2147483647) && upI (l ++ [x]) k) = allN l.length (fun k => decide (0 ≤ l.getD k 0 ∧ l.getD k 0 ≤ 2147483647) && upI l k) := by
  apply allN_ext
  intro k hk; unfold upI; rw [getD_app_l _ _ _ _ hk, getD_app_l _ _ _ _ (by omega)]
 have e2 : (l ++ [x]).getD l.length 0 = x := getD_app_r _ _ _ _ rfl
 have e3 : upI (l ++ [x]) l.length = (l.isEmpty || decide (l.getD (l.length - 1) 0 < x)) := by
  unfold upI; rw [e2]
  cases l with
  | nil => rfl
  | cons y t =>
   rw [getD_app_l _ _ _ _ (by simp)]
   rfl
 rw [e1, e3]; simp only [e2]
theorem riseP_pRise2 (l : List PartR) : riseP (-1) l = pRise2 (l.map PartR.idx) := by
 refine snoc_ind (P := fun l => riseP (-1) l = pRise2 (l.map PartR.idx)) rfl (fun t x ih => ?_) l; rw [riseP_snoc, List.map_append]
 show _ = pRise2 (t.map PartR.idx ++ [x.idx])
 rw [pRise2_snoc, ← ih]
 cases hr : riseP (-1) t with
 | false => rfl
 | true =>
  have hl := riseP_last t (-1) hr; simp only [Bool.true_and]
  by_cases h0 : t = []
  · subst h0; simp only [List.map_nil, List.isEmpty_nil, Bool.true_or, Bool.and_true]
    show (decide ((-1 : Int) < x.idx) && decide (x.idx ≤ 2147483647)) = decide (0 ≤ x.idx ∧ x.idx ≤ 2147483647)
    rw [Bool.eq_iff_iff]; simp only [Bool.and_eq_true, decide_eq_true_eq]
    omega
  · have hm : t.map PartR.idx ≠ [] := by simpa using h0
    have hmE : (t.map PartR.idx).isEmpty = false := by cases t with
     | nil => exact absurd rfl h0
     | cons y u => rfl
    rw [hmE, Bool.false_or, getD_last _ hm (-1)]; rw [Bool.eq_iff_iff]; simp only [Bool.and_eq_true, decide_eq_true_eq]
    omega
theorem tOk_ts (x : PTop) (h : x.l.length ≠ 0) : tOk x.ts = (keyRight x.name && riseP (-1) x.l) := by
 rw [riseP_pRise2]; unfold tOk keyRight PTop.ts; simp only
 have e : pRise (x.l.map PartR.idx) = pRise2 (x.l.map PartR.idx) := by
  unfold pRise pRise2
  have : (x.l.map PartR.idx).isEmpty = false := by
   cases hx : x.l with
   | nil => rw [hx] at h; exact absurd rfl h
   | cons y t => rfl
  rw [this]
  rfl
 rw [e]
def aheadN (l : List TopS) : Bs := (l.map (·.name)).getD (l.length - 1) []
theorem bytesLess_nil (s : Bs) : Op.bytesLess [] s = !s.isEmpty := by cases s <;> rfl
theorem tRise_ts (l : List TopS) (x : PTop) (h : x.l.length ≠ 0) (hl : tRise l = true) : tRise (l ++ [x.ts]) = (keyRight x.name && Op.bytesLess (aheadN l) x.name && riseP (-1) x.l) := by
 rw [tRise_snoc, hl, Bool.true_and, tOk_ts x h]
 show ((keyRight x.name && riseP (-1) x.l) && (l.isEmpty || Op.bytesLess (aheadN l) x.name)) = _
 cases l with
 | nil =>
  show ((keyRight x.name && riseP (-1) x.l) && true) = (keyRight x.name && Op.bytesLess [] x.name && riseP (-1) x.l)
  rw [bytesLess_nil]; unfold keyRight
  cases x.name.isEmpty <;> simp
 | cons y t =>
  simp only [List.isEmpty_cons, Bool.false_or]
  cases keyRight x.name <;> cases riseP (-1) x.l <;> simp
theorem aheadN_snoc (l : List TopS) (x : PTop) : aheadN (l ++ [x.ts]) = x.name := by
 unfold aheadN; rw [List.map_append, List.length_append]
 show ((l.map (·.name)) ++ [x.ts.name]).getD (l.length + 1 - 1) [] = _
 exact getD_app_r _ _ _ _ (by rw [List.length_map]; omega)
theorem buildI25 (a : Int) (w : World) : (Instr.buildSlice 127 1 #[(0, .int .i64 a)]).run Tryz.prog w = .ok (.slice (some ⟨w.heap.size, 0, none⟩) 1 1) (w.alloc (.cells #[.int .i64 a] 3 (0, 0))) := by go_simp
theorem exec_buildI25 {o : Oper} {ρ : Operand → Value} (ps : Array (Nat × Value)) (v : Value) (w w' : World) (ho : execOp ρ o = (do pure (Next.value (← Instr.buildSlice 127 1 ps)))) (hb : (Instr.buildSlice 127 1 ps).run Tryz.prog w = .ok v w') : (execOp ρ o).run Tryz.prog w = .ok (.value v) w' := by
 rw [ho]; simp [hb]
set_option maxHeartbeats 4000000 in
set_option maxRecDepth 100000 in
theorem plain20 (nm : Bs) (pl : List PartR) (q : Option Addr) (cap : Nat) (hpl : pl.length ≤ 1000000) {W0 w : World} {K : Know} {L : List Res} (hk : K.has (Know.pparts (.slice q pl.length cap) pl)) (h : St W0 w K L) :
  Calls Tryz.prog 69 #[.agg #[.string (bb nm), .slice q pl.length cap]] w fun en w' => ∃ (q2 : Option Addr) (c2 : Nat) (K2 : Know), en = .returned (.agg #[.string (bb nm), .slice q2 pl.length c2]) ∧ K2.has K ∧ K2.has (Know.flat RI (.slice q2 pl.length c2) 1 (pl.map PartR.idx)) ∧ St W0 w' K2 L := by
 obtain ⟨ra, hra⟩ : ∃ b, w.heap.size = b := ⟨_, rfl⟩; obtain ⟨rb, hrb⟩ : ∃ b, ra + 1 = b := ⟨_, rfl⟩; obtain ⟨tb, htb⟩ : ∃ b, rb + 1 = b := ⟨_, rfl⟩; have h0 := ((h.allocRaw #[.string (bb nm), .slice q pl.length cap] 83).allocRaw #[.string ⟨#[]⟩, .slice none 0 0] 129).allocRaw #[.string (bb nm), .slice none 0 0] 129; simp only [World.size_alloc, hra, hrb, htb] at h0; have g0 := (h.allocRaw #[.string (bb nm), .slice q pl.length cap] 83).allocRaw #[.string ⟨#[]⟩, .slice none 0 0] 129; simp only [World.size_alloc, hra, hrb] at g0; have a0 := g0.p1.rawCell 0; have a1 := h0.p2.rawCell 1; simp at a0 a1; have H := Lib.hid h0; have HK := Lib.hid hk; have HN := Lib.hid hpl; have hni : (pl.length : Int) ≤ 1000000 := by omega
 clear h h0 g0 hk hpl; go_enter Tryz.func69, Tryz.ntmps69; go_wp2; clear a0 a1; go_loopw [4] (fun iv wr => ∃ (k : Nat) (v : Value), k ≤ pl.length ∧ iv = .int .i64 k ∧ St W0 wr K (.row v 3 1 k (((pl.take k).map PartR.idx).flatMap icells) :: .raw tb #[.string (bb nm), v] 129 :: .raw rb #[.string ⟨#[]⟩, .slice none 0 0] 129 :: .raw ra #[.string (bb nm), .slice q pl.length cap] 83 :: L)) (fun iv _ => pl.length - (intOf iv).toNat)
 case atStart => exact ⟨0, .slice none 0 0, Nat.zero_le _, rfl, H.out.nilRow 3 1⟩
 case round =>
  obtain ⟨k, v, hkl, rfl, hst⟩ := hrel; clear H; obtain ⟨qv0, cv0, hv0⟩ := hst.rowAny; subst hv0; have x1 := hst.p3.rawCell 1; simp at x1; have H := Lib.hid hst; clear hst
  by_cases hlt : k < pl.length
  · obtain ⟨pk, poff, hpq⟩ := pparts_at HK.out H.out (by omega); subst hpq; obtain ⟨y, hy⟩ : ∃ y, pl[k] = y := ⟨_, rfl⟩; have hkn : (k : Int) < (pl.length : Int) := by omega
    have HY := Lib.hid hy; have HKN := Lib.hid (show k ≤ 1000000 by have := HN.out; omega); obtain ⟨yi, yl, yq, ycap⟩ := y
    have HKA := Lib.hid (show ∀ (w' : World) (r1 r2 r3 : Res), St W0 w' K (r1 :: r2 :: r3 :: .raw ra #[.string (bb nm), .slice (some ⟨pk, poff, none⟩) pl.length cap] 83 :: L) → (w'.cell? ⟨ra, 1, none⟩ = some (.slice (some ⟨pk, poff, none⟩) pl.length cap) ∧ w'.cell? ⟨pk, poff + k * 2, none⟩ = some (.int .i64 yi)) from fun w' r1 r2 r3 hs => by
     have a1 := hs.p3.rawCell 1; obtain ⟨b1, _⟩ := pparts_cell HK.out hs k hlt _ HY.out; simp at a1
     exact ⟨a1, b1⟩)
    have HKB := Lib.hid (show ∀ (w' : World) (r0 r1 r2 r3 : Res), St W0 w' K (r0 :: r1 :: r2 :: r3 :: .raw ra #[.string (bb nm), .slice (some ⟨pk, poff, none⟩) pl.length cap] 83 :: L) → (w'.cell? ⟨ra, 1, none⟩ = some (.slice (some ⟨pk, poff, none⟩) pl.length cap) ∧ w'.cell? ⟨pk, poff + k * 2, none⟩ = some (.int .i64 yi)) from fun w' r0 r1 r2 r3 hs => by
     have a1 := hs.p4.rawCell 1; obtain ⟨b1, _⟩ := pparts_cell HK.out hs k hlt _ HY.out; simp at a1
     exact ⟨a1, b1⟩)
    clear hy; go_wp2; clear x1; have hs := H.out.drew; refine wp_region_held_drew (S := fun w' => w'.cell? ⟨ra, 1, none⟩ = some (.slice (some ⟨pk, poff, none⟩) pl.length cap) ∧ w'.cell? ⟨pk, poff + k * 2, none⟩ = some (.int .i64 yi)) (by kernel_rfl) (HKA.out _ _ _ _ hs) (fun hHeld => ?_); refine tQ 0 ⟨some 15, .fieldAddr 129 (.tmp 3) 1, 0, _, _, none⟩ ?_; simp only [Act.put, sA, sB, sC]; refine tQ 2 ⟨some 17, .fieldAddr 83 (.tmp 1) 1, 0, _, _, none⟩ ?_; simp only [Act.put, sA, sB, sC]; refine tQ 3 ⟨some 18, .load 81 (.tmp 17), 81, _, _, none⟩ ?_; simp only [Act.put, sA, sB, sC]; refine tQ 4 ⟨some 19, .move (.tmp 4), 3, _, _, none⟩ ?_; simp only [Act.put, sA, sB, sC]; refine tQ 5 ⟨some 20, .indexAddr 81 (.tmp 18) (.tmp 19), 0, _, _, none⟩ ?_; simp only [Act.put, sA, sB, sC]; refine tQ 6 ⟨some 21, .fieldAddr 85 (.tmp 20) 0, 0, _, _, none⟩ ?_; simp only [Act.put, sA, sB, sC]; refine tQ 7 ⟨some 22, .load 3 (.tmp 21), 3, _, _, none⟩ ?_; simp only [Act.put, sA, sB, sC]; refine wpAnyH_ready (rs := [1, 8]) (by kernel_rfl) (by simp) (AllReadyH.cons (o := ⟨some 16, .load 127 (.tmp 15), 127, _, _, none⟩) rfl (fun KK hK => ?_) (AllReadyH.cons (o := ⟨some 23, .buildSlice 127 1 #[(0, .tmp 22)], 127, _, _, none⟩) rfl (fun KK hK => ?_) AllReadyH.nil))
    focus
     have z1 := hs.p1.rawCell 1; simp at z1; go_simp; refine hK.out _ _ (HKA.out _ _ _ _ hs) (fun hHeld => ?_); clear hK KK
     try simp only [Act.put, sA, sB, sC]
     clear z1; refine wpAnyH_ready (rs := [8]) (by kernel_rfl) (by simp) (AllReadyH.cons (o := ⟨some 23, .buildSlice 127 1 #[(0, .tmp 22)], 127, _, _, none⟩) rfl (fun KK hK => ?_) AllReadyH.nil); rw [if_pos (by rfl)]; refine op_value (exec_buildI25 _ _ _ _ (by kernel_rfl) (buildI25 yi _)) ?_; obtain ⟨wy, b2, ey, eb, hs⟩ := hs.allocEx #[.int .i64 yi] 3; rw [ey, eb]; clear ey eb; refine hK.out _ _ (HKB.out _ _ _ _ _ hs) (fun hHeld => ?_); clear hK KK
     try simp only [Act.put, sA, sB, sC]
    rotate_left
    focus
     rw [if_pos (by rfl)]; refine op_value (exec_buildI25 _ _ _ _ (by kernel_rfl) (buildI25 yi _)) ?_; obtain ⟨wy, b2, ey, eb, hs⟩ := hs.allocEx #[.int .i64 yi] 3; rw [ey, eb]; clear ey eb; refine hK.out _ _ (HKB.out _ _ _ _ _ hs) (fun hHeld => ?_); clear hK KK
     try simp only [Act.put, sA, sB, sC]
     refine wpAnyH_ready (rs := [1]) (by kernel_rfl) (by simp) (AllReadyH.cons (o := ⟨some 16, .load 127 (.tmp 15), 127, _, _, none⟩) rfl (fun KK hK => ?_) AllReadyH.nil); have z1 := hs.p2.rawCell 1; simp at z1; go_simp; refine hK.out _ _ (HKB.out _ _ _ _ _ hs) (fun hHeld => ?_); clear hK KK
     try simp only [Act.put, sA, sB, sC]
     clear z1
    all_goals
     refine wpAnyH_ready (rs := [9]) (by kernel_rfl) (by simp) (AllReadyH.cons (o := ⟨some 24, .call { callee := .builtin .append, args := #[.tmp 16, .tmp 23], argTypes := #[127, 127] }, 127, _, _, none⟩) rfl (fun KK hK => ?_) AllReadyH.nil); rw [if_pos (by rfl)]; refine op_app1 (.tmp 16) (.tmp 23) 127 rfl 3 Tryz.underlying127 elem_aint _ _ _ (by rfl) b2 #[.int .i64 yi] 3 hs (by rfl) rfl (by simp [Value.oneCell']) (by have := HKN.out; unfold maxLen; omega) (by have := HKN.out; omega) (fun v' w' h => ?_); have hs := h; clear h; obtain ⟨qv, cv, hv⟩ := hs.rowAny; subst hv; refine hK.out _ _ (HKA.out _ _ _ _ hs) (fun hHeld => ?_); clear hK KK
     try simp only [Act.put, sA, sB, sC]
     refine tQ 10 ⟨some 25, .fieldAddr 129 (.tmp 3) 1, 0, _, _, none⟩ ?_; simp only [Act.put, sA, sB, sC]; refine wpAnyH_ready (rs := [11]) (by kernel_rfl) (by simp) (AllReadyH.cons (o := ⟨none, .store 127 (.tmp 25) (.tmp 24), 0, _, _, none⟩) rfl (fun KK hK => ?_) AllReadyH.nil); have hs := hs.p1; have q1 := hs.rawFree 1; have z1 := hs.rawCell 1; simp at z1; rw [if_pos (by rfl)]; refine op_skip (w' := w'.setCell ⟨tb, 1, none⟩ (.slice qv (k + 1) cv)) (by go_simp) ?_; obtain ⟨wz, ez, hs⟩ := hs.setExP 1 (.slice qv (k + 1) cv); rw [ez]; clear ez q1 z1; have hs := hs.p1; refine hK.out _ _ (HKA.out _ _ _ _ hs) (fun hHeld => ?_); clear hK KK
     try simp only [Act.put]
     refine wpAnyH_done (by kernel_rfl) ?_ _; clear hHeld; go_wp2_with fail; go_roundw
     case rel =>
      refine ⟨k + 1, .slice qv (k + 1) cv, hlt, by go_num, ?_⟩; rw [List.take_succ_eq_append_getElem hlt, HY.out, List.map_append, List.flatMap_append]; exact hs
     case measure => first | (simp [intOf]; done) | (simp [intOf]; omega)
  · obtain rfl : k = pl.length := by omega
    have y0 := H.out.p1.rawCell 0; have y1 := H.out.p1.rawCell 1; have w0 := H.out.p2.rawFree 0; have w1 := H.out.p2.rawFree 1; have v0 := H.out.p2.rawCell 0; have v1 := H.out.p2.rawCell 1; simp at y0 y1 v0 v1; go_wp2; have hz : St W0 _ _ (.raw rb #[.string (bb nm), .slice qv0 pl.length cv0] 129 :: _) := ((H.out.p2.rawSet 0 (.string (bb nm))).rawSet 1 (.slice qv0 pl.length cv0)); refine bodyPost_ret (rc_cell_onlyP rfl _ _ rb [.string (bb nm), .slice qv0 pl.length cv0] _ rfl (rc_rangeP hz) Tryz.underlying129 rfl (by kernel_rfl)) rfl ?_; have hr := hz.drop; rw [List.take_length] at hr; have hf := hr.freezeInts (l := pl.map PartR.idx) (by rw [List.length_map]) rfl; exact ⟨qv0, cv0, _, rfl, Know.has_left (Know.has_refl _), Know.has_right (Know.has_refl _), hf.drop.drop⟩
theorem rise14 (l : List (TopS × Value)) (q : Option Addr) (cap n : Nat) (hn : n = l.length) (r : Bool) (hr : tRise (l.map (·.1)) = r) (hf : FewT l) {W0 w : World} {K : Know} {L : List Res} (hk : K.has (Know.tops (.slice q n cap) l)) (h : St W0 w K L) :
  Calls Tryz.prog 70 #[.slice q n cap] w fun en w' => en = .returned (.bool r) ∧ St W0 w' K L := by
 subst hn; exact ref14_rise l q cap r hr hf hk h
theorem tops_of {K : Know} {v : Value} {l : List (TopS × Value)} (h : K.has (Know.flat RTop v 2 l)) (ha : ∀ x ∈ l, K.has (Know.flat RI x.2 1 x.1.parts)) : K.has (Know.tops v l) := fun w F hh => ⟨h w F hh, fun x hx => ha x hx w F hh⟩
theorem accK {K : Know} {acc : List (TopS × Value)} {nm : Bs} {pt : List Int} {v : Value} (ha : ∀ x ∈ acc, K.has (Know.flat RI x.2 1 x.1.parts)) (hv : K.has (Know.flat RI v 1 pt)) : ∀ x ∈ acc ++ [((⟨nm, pt⟩ : TopS), v)], K.has (Know.flat RI x.2 1 x.1.parts) := by
 intro x hx
 rcases List.mem_append.1 hx with hx | hx
 · exact ha x hx
 · rw [List.mem_singleton.1 hx]; exact hv
def RiseFew (l : List PTop) : Prop := ∀ j, j ≤ l.length → AllP (l.take j) → j ≤ 1000000 ∧ ∀ x ∈ l.take j, x.name.length ≤ 140737488355328 ∧ x.l.length ≤ 1000000
theorem fewT_acc {l : List PTop} {acc : List (TopS × Value)} {j : Nat} (h : RiseFew l) (hj : j ≤ l.length) (ha : AllP (l.take j)) (he : acc.map (·.1) = (l.take j).map PTop.ts) : FewT acc := by
 obtain ⟨g1, g2⟩ := h j hj ha; have hl := congrArg List.length he; rw [List.length_map, List.length_map, List.length_take] at hl; refine ⟨by omega, fun x hx => ?_⟩; have hm : x.1 ∈ (l.take j).map PTop.ts := he ▸ List.mem_map_of_mem hx; obtain ⟨y, hy, e⟩ := List.mem_map.1 hm; obtain ⟨a, b⟩ := g2 y hy; rw [← e]; exact ⟨a, by show (y.l.map PartR.idx).length ≤ _; rw [List.length_map]; exact b⟩
theorem allP_snoc {l : List PTop} {k : Nat} (hk : k < l.length) {x : PTop} (hx : l[k] = x) (ha : AllP (l.take k)) (h : x.l.length ≠ 0) : AllP (l.take (k + 1)) := by
 rw [List.take_succ_eq_append_getElem hk, hx]; intro y hy
 rcases List.mem_append.1 hy with hy | hy
 · exact ha y hy
 · rw [List.mem_singleton.1 hy]; exact h
set_option maxHeartbeats 4000000 in
set_option maxRecDepth 100000 in
theorem rise20 (l : List PTop) (q : Option Addr) (cap : Nat) (e : Int) (he : errTops l = e) (hll : l.length ≤ 3518437208780) (hfew : RiseFew l) {W0 w : World} {K : Know} {L : List Res} (hk : K.has (Know.ptops (.slice q l.length cap) l)) (h : St W0 w K L) :
   Calls Tryz.prog 35 #[.slice q l.length cap] w fun en w' => en = .returned (.int .i64 e) ∧ St W0 w' K L := by
 have H := Lib.hid h; have HKT := Lib.hid hk; have HF := Lib.hid hfew; have HLN := Lib.hid hll; have hni : (l.length : Int) ≤ 3518437208780 := by omega
 unfold errTops at he; clear h hk hfew
 by_cases h0 : l.length = 0
 · rw [if_pos h0] at he; subst he; rw [h0]; clear hni hll h0; go_enter Tryz.func35, Tryz.ntmps35; go_wp2; go_ret; exact ⟨rfl, H.out⟩
 rw [if_neg h0] at he; have hz : ((l.length : Int) == 0) = false := by rw [beq_eq_false_iff_ne]; omega
 have HR := Lib.hid (show errT [] (l.drop 0) = e by rw [List.drop_zero]; exact he); clear he hll h0; go_enter Tryz.func35, Tryz.ntmps35; go_wp2; clear hz; go_loopw [3, 4] (fun lv iv wr => ∃ (k : Nat) (acc : List (TopS × Value)) (K2 : Know), k ≤ l.length ∧ iv = .int .i64 k ∧ Hid (k = acc.length) ∧ Hid (acc.map (·.1) = (l.take k).map PTop.ts) ∧ Hid (AllP (l.take k)) ∧ Hid (tRise (acc.map (·.1)) = true) ∧ Hid (errT (aheadN (acc.map (·.1))) (l.drop k) = e) ∧ Hid (K2.has K) ∧ Hid (∀ x ∈ acc, K2.has (Know.flat RI x.2 1 x.1.parts)) ∧ St W0 wr K2 (.row lv 129 2 k (acc.flatMap tcells) :: L)) (fun _ iv _ => l.length - (intOf iv).toNat)
 case atStart => exact ⟨0, [], K, Nat.zero_le _, rfl, Lib.hid rfl, Lib.hid (by simp), Lib.hid (fun x hx => by simp at hx), Lib.hid rfl, HR, Lib.hid (Know.has_refl _), Lib.hid (fun x hx => by cases hx), H.out.emptyRow 129 2⟩
 case round =>
   obtain ⟨k, acc, K2, hkl, rfl, HAL, HTS, HAP, HTA, HC, HKK, HALL, hst⟩ := hrel; clear H; obtain ⟨qv0, cv0, hv0⟩ := hst.rowAny; subst hv0; have H := Lib.hid hst; clear hst HR
   by_cases hlt : k < l.length
   · obtain ⟨bk, off, hqq⟩ := ptops_at (Know.has_trans HKK.out HKT.out) H.out (by omega); obtain ⟨x, hx⟩ : ∃ x, l[k] = x := ⟨_, rfl⟩; have hmem : x ∈ l := hx ▸ List.getElem_mem hlt; have HK' := (Know.has_trans HKK.out HKT.out); rw [hqq] at HK'; obtain ⟨c0, c1⟩ := ptops_cell HK' H.out k hlt x hx; have HXK0 := ptops_parts (Know.has_trans HKK.out HKT.out) hmem; have hc := HC.out; rw [List.drop_eq_getElem_cons hlt, hx, errT_cons] at hc; have hkn : (k : Int) < (l.length : Int) := by omega
     have HX := Lib.hid hx; subst hqq
     by_cases h0 : x.l.length = 0
     · rw [if_pos h0] at hc; subst hc; have h0i : ((x.l.length : Int) == 0) = true := by rw [h0]; rfl
       have h0j : (x.l.length : Int) = 0 := by omega
       clear hx hmem HK' HXK0 h0; go_wp2; go_ret; exact ⟨rfl, H.out.drop.know HKK.out⟩
     rw [if_neg h0] at hc; have HAP2 := Lib.hid (allP_snoc hlt hx HAP.out h0); have hft := HF.out (k + 1) hlt HAP2.out; have hxn : x.l.length ≤ 1000000 := (hft.2 x (by rw [List.take_succ_eq_append_getElem hlt, hx]; exact List.mem_append_right _ (List.mem_singleton.2 rfl))).2; have htr := tRise_ts (acc.map (·.1)) x h0 HTA.out; have HAS := Lib.hid (aheadN_snoc (acc.map (·.1)) x); have h0i : ((x.l.length : Int) == 0) = false := by rw [beq_eq_false_iff_ne]; omega
     have h0j : ¬ ((x.l.length : Int) = 0) := by omega
     have HKN := Lib.hid (show k ≤ 3518437208780 by have := HLN.out; omega); obtain ⟨nm, xl, xq, xcap⟩ := x; simp only at c0 c1 HXK0 hc h0i h0j hxn; have HXK := Lib.hid HXK0; have HXN := Lib.hid hxn; have HTS2 := Lib.hid (show ∀ v : Value, (acc ++ [((⟨nm, xl.map PartR.idx⟩ : TopS), v)]).map (·.1) = (l.take (k + 1)).map PTop.ts from fun v => by rw [List.map_append, HTS.out, List.take_succ_eq_append_getElem hlt, HX.out, List.map_append]; rfl); have HFT := Lib.hid (show ∀ v : Value, FewT (acc ++ [((⟨nm, xl.map PartR.idx⟩ : TopS), v)]) from fun v => fewT_acc HF.out hlt HAP2.out (HTS2.out v)); have HLA := Lib.hid (show ∀ v : Value, k + 1 = (acc ++ [((⟨nm, xl.map PartR.idx⟩ : TopS), v)]).length from fun v => by rw [List.length_append, ← HAL.out]; rfl); have HXA := Lib.hid (show ∀ v : Value, acc.flatMap tcells ++ [.string (bb nm), v] = (acc ++ [((⟨nm, xl.map PartR.idx⟩ : TopS), v)]).flatMap tcells from fun v => by rw [List.flatMap_append]; rfl); clear hx hmem HK' HXK0 h0 hft hxn
     cases hb : (keyRight nm && Op.bytesLess (aheadN (acc.map (·.1))) nm && riseP (-1) xl) with
     | false =>
       rw [if_neg (by rw [hb]; exact Bool.false_ne_true)] at hc; subst hc; have HTR := Lib.hid (show ∀ v : Value, tRise ((acc ++ [((⟨nm, xl.map PartR.idx⟩ : TopS), v)]).map (·.1)) = false from fun v => by rw [List.map_append]; exact htr.trans hb); clear htr hb
       go_wp2_with (first
   | (go_at_call 69; (with_reducible refine (plain20 nm xl xq xcap HXN.out HXK.out H.out).mono ?_); rintro e_ wn ⟨q2, c2, K3, rfl, hk3, hki, h⟩; have HK3 := Lib.hid (Know.has_trans hk3 HKK.out); have HKI := Lib.hid hki; have HALL2 := Lib.hid (fun x hx => Know.has_trans hk3 (HALL.out x hx)); clear hk3 hki; replace H := Lib.hid h; clear h)
   | (at_builtin; refine wpl_app1_st rfl _ _ 110 rfl 129 Tryz.underlying110 elem_atop _ _ _ rfl H.out [.string (bb nm), .slice q2 xl.length c2] 129 (by first | rfl | (rw [World.size_alloc]; rfl)) rfl (by simp [Value.oneCell']) (by have := HKN.out; unfold maxLen; omega) (by have := HKN.out; omega) ?_; intro v' w' h; obtain ⟨qv, cv, hv⟩ := h.rowAny; subst hv; have HAF := Lib.hid (show K3.has K3 from Know.has_refl _); replace H := Lib.hid h; clear h)
   | (go_at_call 70; (obtain ⟨Kp, hp1, hp2, hpst, hback⟩ := H.out.lend (fun S1 hs1 _ => row_rows (acc ++ [(⟨nm, xl.map PartR.idx⟩, .slice q2 xl.length c2)]) tcells (R := RTop) (fun x _ => ⟨rfl, rfl⟩) (HLA.out _) (HXA.out _) S1 hs1)); (with_reducible refine (rise14 (acc ++ [(⟨nm, xl.map PartR.idx⟩, .slice q2 xl.length c2)]) qv cv (k + 1) (HLA.out _) false (HTR.out _) (HFT.out _) (tops_of hp2 (fun x hx => Know.has_trans hp1 (accK HALL2.out HKI.out x hx))) hpst).mono ?_); rintro e_ wn ⟨rfl, h⟩; have h := hback wn _ Kp (Know.has_refl _) h; clear hp1 hp2 hpst hback; replace H := Lib.hid h; clear h))
       go_ret; exact ⟨rfl, H.out.drop.know HK3.out⟩
     | true =>
       rw [if_pos hb] at hc; have HTR := Lib.hid (show ∀ v : Value, tRise ((acc ++ [((⟨nm, xl.map PartR.idx⟩ : TopS), v)]).map (·.1)) = true from fun v => by rw [List.map_append]; exact htr.trans hb); have HC2 := Lib.hid (show ∀ v : Value, errT (aheadN ((acc ++ [((⟨nm, xl.map PartR.idx⟩ : TopS), v)]).map (·.1))) (l.drop (k + 1)) = e from fun v => by rw [List.map_append]; exact (congrArg (fun a => errT a (l.drop (k + 1))) HAS.out).trans hc); clear htr hb hc
       go_wp2_with (first
   | (go_at_call 69; (with_reducible refine (plain20 nm xl xq xcap HXN.out HXK.out H.out).mono ?_); rintro e_ wn ⟨q2, c2, K3, rfl, hk3, hki, h⟩; have HK3 := Lib.hid (Know.has_trans hk3 HKK.out); have HKI := Lib.hid hki; have HALL2 := Lib.hid (fun x hx => Know.has_trans hk3 (HALL.out x hx)); clear hk3 hki; replace H := Lib.hid h; clear h)
   | (at_builtin; refine wpl_app1_st rfl _ _ 110 rfl 129 Tryz.underlying110 elem_atop _ _ _ rfl H.out [.string (bb nm), .slice q2 xl.length c2] 129 (by first | rfl | (rw [World.size_alloc]; rfl)) rfl (by simp [Value.oneCell']) (by have := HKN.out; unfold maxLen; omega) (by have := HKN.out; omega) ?_; intro v' w' h; obtain ⟨qv, cv, hv⟩ := h.rowAny; subst hv; have HAF := Lib.hid (show K3.has K3 from Know.has_refl _); replace H := Lib.hid h; clear h)
   | (go_at_call 70; (obtain ⟨Kp, hp1, hp2, hpst, hback⟩ := H.out.lend (fun S1 hs1 _ => row_rows (acc ++ [(⟨nm, xl.map PartR.idx⟩, .slice q2 xl.length c2)]) tcells (R := RTop) (fun x _ => ⟨rfl, rfl⟩) (HLA.out _) (HXA.out _) S1 hs1)); (with_reducible refine (rise14 (acc ++ [(⟨nm, xl.map PartR.idx⟩, .slice q2 xl.length c2)]) qv cv (k + 1) (HLA.out _) true (HTR.out _) (HFT.out _) (tops_of hp2 (fun x hx => Know.has_trans hp1 (accK HALL2.out HKI.out x hx))) hpst).mono ?_); rintro e_ wn ⟨rfl, h⟩; have h := hback wn _ Kp (Know.has_refl _) h; clear hp1 hp2 hpst hback; replace H := Lib.hid h; clear h))
       go_roundw
       case rel =>
        refine ⟨k + 1, acc ++ [((⟨nm, xl.map PartR.idx⟩ : TopS), .slice q2 xl.length c2)], K3, hlt, by go_num, Lib.hid (by rw [List.length_append, ← HAL.out]; rfl), Lib.hid (HTS2.out _), HAP2, Lib.hid (HTR.out _), Lib.hid (HC2.out _), HK3, Lib.hid (accK HALL2.out HKI.out), ?_⟩; rw [List.flatMap_append]; exact H.out
       case measure => first | (simp [intOf]; done) | (simp [intOf]; omega)
   · obtain rfl : k = l.length := by omega
     have hc := HC.out; rw [List.drop_length] at hc; have hc : 0 = e := hc; subst hc; go_wp2; go_ret; exact ⟨rfl, H.out.drop.know HKK.out⟩
structure CkB (x : BatR) : Prop where
  ck : CkR x
  base : Rn x.b.base

theorem zq28 {p : Prop} (h : p := by
  rw [if_neg (by simp)] at hc; have HC2 := Lib.hid hc; clear hc; go_wp2_with (go_at_call 71; clear c0 c1 c2 c3 c4 c5 c6 c7 c8 c9 c10 c11; (with_reducible refine (ref11_check _ _ _ _ _ _ _ _ _ _ _ xl _ _ 0 HBE.out HFI.out HB0.out HFB.out HLN.out HXK.out H.out).mono ?_); rintro e_ wn ⟨rfl, h⟩; obtain ⟨_, _, _, d3, d4, _⟩ := bats_cell HK.out h k hlt _ HX.out; replace H := Lib.hid h; clear h); go_roundw
  case rel => exact ⟨k + 1, hlt, by go_num, HC2, H.out⟩
  case measure => first | (simp [intOf]; done) | (simp [intOf]; omega)) : p := h
theorem zq29 {p : Prop} (h : p := by rw [if_pos (by simp)] at hc; subst hc; go_wp2_with (go_at_call 71; clear c0 c1 c2 c3 c4 c5 c6 c7 c8 c9 c10 c11; (with_reducible refine (ref11_check _ _ _ _ _ _ _ _ _ _ _ xl _ _ 0 HBE.out HFI.out HB0.out HFB.out HLN.out HXK.out H.out).mono ?_); rintro e_ wn ⟨rfl, h⟩; obtain ⟨_, _, _, d3, d4, _⟩ := bats_cell HK.out h k hlt _ HX.out; replace H := Lib.hid h; clear h); go_ret; exact ⟨rfl, H.out⟩) : p := h
theorem zq0 {p : Prop} (h : p := by
  obtain ⟨k, hkl, rfl, HC, hst⟩ := hrel; clear H HR; have H := Lib.hid hst; clear hst
  by_cases hlt : k < l.length
  · obtain ⟨bk, off, hqq⟩ := bats_at HK.out H.out (by omega); subst hqq; obtain ⟨x, hx⟩ : ∃ x, l[k] = x := ⟨_, rfl⟩; have hmem : x ∈ l := hx ▸ List.getElem_mem hlt; have hck := (HF.out x hmem).ck; have hbs := (HF.out x hmem).base; have hcell0 := bats_cell HK.out H.out k hlt x hx; have HXK0 := bats_recs HK.out hmem; have hc := HC.out; rw [List.drop_eq_getElem_cons hlt, hx, errBs_cons] at hc; have hkn : (k : Int) < (l.length : Int) := by omega
    have HX := Lib.hid hx; obtain ⟨⟨base, leader, app, txn2, ctl, last, first, maxt, prod, epoch, sq, rcs⟩, xl, xq, xcap⟩ := x; have hcell : wr.cell? ⟨bk, off + k * 12, none⟩ = some (.int .i64 base) ∧ wr.cell? ⟨bk, off + k * 12 + 1, none⟩ = some (.int .i64 leader) ∧ wr.cell? ⟨bk, off + k * 12 + 2, none⟩ = some (.bool app) ∧ wr.cell? ⟨bk, off + k * 12 + 3, none⟩ = some (.bool txn2) ∧ wr.cell? ⟨bk, off + k * 12 + 4, none⟩ = some (.bool ctl) ∧ wr.cell? ⟨bk, off + k * 12 + 5, none⟩ = some (.int .i64 last) ∧ wr.cell? ⟨bk, off + k * 12 + 6, none⟩ = some (.int .i64 first) ∧ wr.cell? ⟨bk, off + k * 12 + 7, none⟩ = some (.int .i64 maxt) ∧ wr.cell? ⟨bk, off + k * 12 + 8, none⟩ = some (.int .i64 prod) ∧ wr.cell? ⟨bk, off + k * 12 + 9, none⟩ = some (.int .i64 epoch) ∧ wr.cell? ⟨bk, off + k * 12 + 10, none⟩ = some (.int .i64 sq) ∧ wr.cell? ⟨bk, off + k * 12 + 11, none⟩ = some (.slice xq xl.length xcap) := hcell0; obtain ⟨c0, c1, c2, c3, c4, c5, c6, c7, c8, c9, c10, c11⟩ := hcell; have HXK := Lib.hid (show K.has (Know.recs (.slice xq xl.length xcap) xl) from HXK0); have HFI := Lib.hid (show first ≤ 9223372036854775807 from hck.first); have HB0 := Lib.hid (show Rn base from hbs); have HFB := Lib.hid (show FitB xl from hck.fit); have HLN := Lib.hid (show xl.length ≤ 1000000 from hck.len); obtain ⟨be, hbe⟩ : ∃ n, batErr ⟨base, leader, app, txn2, ctl, last, first, maxt, prod, epoch, sq, rcs⟩ = n := ⟨_, rfl⟩; have HBE := Lib.hid (show batErr ⟨base, leader, app, txn2, ctl, last, first, maxt, prod, epoch, sq, xl.map (·.1)⟩ = be by rw [show xl.map (·.1) = rcs from hck.recs]; exact hbe); have hc : (if be ≠ 0 then be else if ctl = true then 12 else if txn2 ≠ txn then 8 else errBs txn (l.drop (k + 1))) = e := by rw [← hbe]; exact hc
    clear hx hmem hck hbs hcell0 HXK0 hbe
    by_cases b0 : be = 0
    · subst b0; rw [if_neg (by simp)] at hc
      cases ctl with
      | true =>
       rw [if_pos rfl] at hc; subst hc; go_wp2_with (go_at_call 71; clear c0 c1 c2 c3 c4 c5 c6 c7 c8 c9 c10 c11; (with_reducible refine (ref11_check _ _ _ _ _ _ _ _ _ _ _ xl _ _ 0 HBE.out HFI.out HB0.out HFB.out HLN.out HXK.out H.out).mono ?_); rintro e_ wn ⟨rfl, h⟩; obtain ⟨_, _, _, d3, d4, _⟩ := bats_cell HK.out h k hlt _ HX.out; replace H := Lib.hid h; clear h); go_ret; exact ⟨rfl, H.out⟩
      | false =>
       rw [if_neg (by simp)] at hc
       cases txn2 <;> cases txn
       · -- none, none
         exact zq28
       · -- none, one
         exact zq29
       · -- one, none
         exact zq29
       · -- one, one
         exact zq28
    · rw [if_pos b0] at hc; subst hc; have g1 : (be == 0) = false := by rw [beq_eq_false_iff_ne]; exact b0
      have g2 : (be != 0) = true := by simp [bne, g1]
      have g3 : ¬ be = 0 := b0; clear b0; go_wp2_with (go_at_call 71; clear c0 c1 c2 c3 c4 c5 c6 c7 c8 c9 c10 c11; (with_reducible refine (ref11_check _ _ _ _ _ _ _ _ _ _ _ xl _ _ be HBE.out HFI.out HB0.out HFB.out HLN.out HXK.out H.out).mono ?_); rintro e_ wn ⟨rfl, h⟩; obtain ⟨_, _, _, d3, d4, _⟩ := bats_cell HK.out h k hlt _ HX.out; replace H := Lib.hid h; clear h); go_ret; exact ⟨rfl, H.out⟩
  · obtain rfl : k = l.length := by omega
    have hc := HC.out; rw [List.drop_length] at hc; have hc : 0 = e := hc; subst hc; go_wp2; go_ret; exact ⟨rfl, H.out⟩) : p := h
set_option maxHeartbeats 4000000 in
set_option maxRecDepth 100000 in
theorem batches_l1 (txn : Bool) (v : Int) (l : List BatR) (q : Option Addr) (cap : Nat) (e : Int) (he : errBs txn l = e) (h0 : l.length ≠ 0) (hv : ¬ v = 3) (hf : ∀ x ∈ l, CkB x) (hll : l.length ≤ 4398046511104) {W0 w : World} {K : Know} {L : List Res} (hk : K.has (Know.bats (.slice q l.length cap) l)) (h : St W0 w K L) :
  Calls Tryz.prog 36 #[.slice q l.length cap, .bool txn, .int .i64 v] w fun en w' => en = .returned (.int .i64 e) ∧ St W0 w' K L := by
 have H := Lib.hid h; have HK := Lib.hid hk; have HF := Lib.hid hf; have HR := Lib.hid (show errBs txn (l.drop 0) = e by rw [List.drop_zero]; exact he); have hni : (l.length : Int) ≤ 4398046511104 := by omega
 have z1 : ((l.length : Int) == 0) = false := by rw [beq_eq_false_iff_ne]; omega
 have z2 : ¬ ((l.length : Int) = 0) := by omega
 have z3 : (v == 3) = false := by rw [beq_eq_false_iff_ne]; exact hv
 have z4 : ¬ v = 3 := hv; clear hv; clear h hk he hll hf h0; go_enter Tryz.func36, Tryz.ntmps36; go_wp2; clear z1 z2 z3 z4; go_loopw [7] (fun iv wr => ∃ (k : Nat), k ≤ l.length ∧ iv = .int .i64 k ∧ Hid (errBs txn (l.drop k) = e) ∧ St W0 wr K L) (fun iv _ => l.length - (intOf iv).toNat)
 case atStart => exact ⟨0, Nat.zero_le _, rfl, HR, H.out⟩
 case round =>
  exact zq0

set_option maxHeartbeats 4000000 in
set_option maxRecDepth 100000 in
theorem batches_l2 (txn : Bool) (v : Int) (l : List BatR) (q : Option Addr) (cap : Nat) (e : Int) (he : errBs txn l = e) (h0 : l.length ≠ 0) (hv : v = 3) (h1 : ¬ 1 < l.length) (hf : ∀ x ∈ l, CkB x) (hll : l.length ≤ 4398046511104) {W0 w : World} {K : Know} {L : List Res} (hk : K.has (Know.bats (.slice q l.length cap) l)) (h : St W0 w K L) :
  Calls Tryz.prog 36 #[.slice q l.length cap, .bool txn, .int .i64 v] w fun en w' => en = .returned (.int .i64 e) ∧ St W0 w' K L := by
 have H := Lib.hid h; have HK := Lib.hid hk; have HF := Lib.hid hf; have HR := Lib.hid (show errBs txn (l.drop 0) = e by rw [List.drop_zero]; exact he); have hni : (l.length : Int) ≤ 4398046511104 := by omega
 have z1 : ((l.length : Int) == 0) = false := by rw [beq_eq_false_iff_ne]; omega
 have z2 : ¬ ((l.length : Int) = 0) := by omega
 subst hv; have z3 : ¬ 1 < (l.length : Int) := by omega
 clear h1; clear h hk he hll hf h0; go_enter Tryz.func36, Tryz.ntmps36; go_wp2; clear z1 z2 z3; go_loopw [7] (fun iv wr => ∃ (k : Nat), k ≤ l.length ∧ iv = .int .i64 k ∧ Hid (errBs txn (l.drop k) = e) ∧ St W0 wr K L) (fun iv _ => l.length - (intOf iv).toNat)
 case atStart => exact ⟨0, Nat.zero_le _, rfl, HR, H.out⟩
 case round =>
  exact zq0

set_option maxHeartbeats 2000000 in
set_option maxRecDepth 100000 in
theorem batches_0 (txn : Bool) (v : Int) (q : Option Addr) (cap : Nat) {W0 w : World} {K : Know} {L : List Res} (h : St W0 w K L) :
  Calls Tryz.prog 36 #[.slice q 0 cap, .bool txn, .int .i64 v] w fun en w' => en = .returned (.int .i64 10) ∧ St W0 w' K L := by
 have H := Lib.hid h; clear h; go_enter Tryz.func36, Tryz.ntmps36; go_wp2; go_ret; exact ⟨rfl, H.out⟩
set_option maxHeartbeats 2000000 in
set_option maxRecDepth 100000 in
theorem batches_3 (txn : Bool) (l : List BatR) (q : Option Addr) (cap : Nat) (h1 : 1 < l.length) {W0 w : World} {K : Know} {L : List Res} (h : St W0 w K L) :
  Calls Tryz.prog 36 #[.slice q l.length cap, .bool txn, .int .i64 3] w fun en w' => en = .returned (.int .i64 10) ∧ St W0 w' K L := by
 have H := Lib.hid h; have z1 : ((l.length : Int) == 0) = false := by rw [beq_eq_false_iff_ne]; omega
 have z2 : ¬ ((l.length : Int) = 0) := by omega
 have z3 : 1 < (l.length : Int) := by omega
 clear h h1; go_enter Tryz.func36, Tryz.ntmps36; go_wp2; go_ret; exact ⟨rfl, H.out⟩
def errB20 (txn : Bool) (v : Int) (l : List BatR) : Int := if l.length = 0 ∨ (v = 3 ∧ 1 < l.length) then 10 else errBs txn l
theorem batches20 (txn : Bool) (v : Int) (l : List BatR) (q : Option Addr) (cap : Nat) (e : Int) (he : errB20 txn v l = e) (hf : ∀ x ∈ l, CkB x) (hll : l.length ≤ 4398046511104) {W0 w : World} {K : Know} {L : List Res} (hk : K.has (Know.bats (.slice q l.length cap) l)) (h : St W0 w K L) :
   Calls Tryz.prog 36 #[.slice q l.length cap, .bool txn, .int .i64 v] w fun en w' => en = .returned (.int .i64 e) ∧ St W0 w' K L := by
 unfold errB20 at he
 by_cases h0 : l.length = 0
 · rw [if_pos (.inl h0)] at he; subst he; rw [h0]; exact batches_0 txn v q cap h
 · by_cases hv : v = 3
   · by_cases h1 : 1 < l.length
     · rw [if_pos (.inr ⟨hv, h1⟩)] at he; subst he; subst hv; exact batches_3 txn l q cap h1 h
     · rw [if_neg (by omega)] at he; exact batches_l2 txn v l q cap e he h0 hv h1 hf hll hk h
   · rw [if_neg (by omega)] at he; exact batches_l1 txn v l q cap e he h0 hv hf hll hk h
theorem errPs_b20 (txn : Bool) (v : Int) (x : PartR) (t : List PartR) : errPs txn v (x :: t) = if errB20 txn v x.l ≠ 0 then errB20 txn v x.l else errPs txn v t := by
 rw [errPs_cons]; unfold errB20
 by_cases h : x.l.length = 0 ∨ (v = 3 ∧ 1 < x.l.length)
 · rw [if_pos h, if_pos h, if_pos (by decide)]
 · rw [if_neg h, if_neg h]
theorem ifs_0 {b c e : Int} (h : (if (if (0 : Int) ≠ 0 then (0 : Int) else b) ≠ 0 then (if (0 : Int) ≠ 0 then (0 : Int) else b) else c) = e) : (if b ≠ 0 then b else c) = e := by
 have h1 : (if (0 : Int) ≠ 0 then (0 : Int) else b) = b := if_neg (fun hh => hh rfl); rw [h1] at h; exact h
structure CkP2 (x : PartR) : Prop where
  len : x.l.length ≤ 4398046511104
  bats : ∀ y ∈ x.l, CkB y
structure CkT2 (x : PTop) : Prop where
  len : x.l.length ≤ 4398046511104
  parts : ∀ y ∈ x.l, CkP2 y

set_option maxHeartbeats 4000000 in
set_option maxRecDepth 100000 in
theorem rck_r0 (dd : Bs) (ac tm v : Int) (l : List PTop) (q : Option Addr) (cap : Nat) (hf : ∀ x ∈ l, CkT2 x) (hfew : RiseFew l) (hll : l.length ≤ 3518437208780) (hne : dd ≠ []) {W0 w : World} {K : Know} {L : List Res} (hk : K.has (Know.ptops (.slice q l.length cap) l)) (h : St W0 w K L) :
  Calls Tryz.prog 10 #[.agg #[.bool true, .string (bb dd), .int .i64 ac, .int .i64 tm, .slice q l.length cap], .int .i64 v] w fun en w' => en = .returned (.int .i64 4) ∧ St W0 w' K L := by
 obtain ⟨rb, hrb⟩ : ∃ b, w.heap.size = b := ⟨_, rfl⟩; have g1 := h.allocRaw #[.bool true, .string (bb dd), .int .i64 ac, .int .i64 tm, .slice q l.length cap] 40; rw [hrb] at g1; have z0 := g1.rawCell 0; have z1 := g1.rawCell 1; have z2 := g1.rawCell 2; have z3 := g1.rawCell 3; have z4 := g1.rawCell 4; simp at z0 z1 z2 z3 z4; have H := Lib.hid g1; have HK := Lib.hid hk; have HF := Lib.hid hf; have HFW := Lib.hid hfew; have HLL := Lib.hid hll; have k1 : (dd == []) = false := by cases dd with | nil => exact absurd rfl hne | cons _ _ => rfl
 have k2 : (dd != []) = true := by simp [bne, k1]
 have k3 : ¬ dd = [] := hne; have k4 : ([] == dd) = false := by cases dd with | nil => exact absurd rfl hne | cons _ _ => rfl
 clear h g1 hk hf hfew hne; clear hll; go_enter Tryz.func10, Tryz.ntmps10; go_wp2_with (fail); go_ret; exact ⟨rfl, H.out.drop⟩

set_option maxHeartbeats 4000000 in
set_option maxRecDepth 100000 in
theorem rck_k0 (ac tm v : Int) (l : List PTop) (q : Option Addr) (cap : Nat) (hf : ∀ x ∈ l, CkT2 x) (hfew : RiseFew l) (hll : l.length ≤ 3518437208780)  {W0 w : World} {K : Know} {L : List Res} (hk : K.has (Know.ptops (.slice q l.length cap) l)) (h : St W0 w K L) :
  Calls Tryz.prog 10 #[.agg #[.bool false, .string ⟨#[]⟩, .int .i64 ac, .int .i64 tm, .slice q l.length cap], .int .i64 v] w fun en w' => en = .returned (.int .i64 4) ∧ St W0 w' K L := by
 obtain ⟨rb, hrb⟩ : ∃ b, w.heap.size = b := ⟨_, rfl⟩; have g1 := h.allocRaw #[.bool false, .string ⟨#[]⟩, .int .i64 ac, .int .i64 tm, .slice q l.length cap] 40; rw [hrb] at g1; have z0 := g1.rawCell 0; have z1 := g1.rawCell 1; have z2 := g1.rawCell 2; have z3 := g1.rawCell 3; have z4 := g1.rawCell 4; simp at z0 z1 z2 z3 z4; have H := Lib.hid g1; have HK := Lib.hid hk; have HF := Lib.hid hf; have HFW := Lib.hid hfew; have HLL := Lib.hid hll; clear h g1 hk hf hfew; clear hll; go_enter Tryz.func10, Tryz.ntmps10; go_wp2_with (fail); go_ret; exact ⟨rfl, H.out.drop⟩

set_option maxHeartbeats 4000000 in
set_option maxRecDepth 100000 in
theorem rck_k1 (dd : Bs) (ac tm v : Int) (l : List PTop) (q : Option Addr) (cap : Nat) (hf : ∀ x ∈ l, CkT2 x) (hfew : RiseFew l) (hll : l.length ≤ 3518437208780) (hlen : 32767 < dd.length) {W0 w : World} {K : Know} {L : List Res} (hk : K.has (Know.ptops (.slice q l.length cap) l)) (h : St W0 w K L) :
  Calls Tryz.prog 10 #[.agg #[.bool false, .string (bb dd), .int .i64 ac, .int .i64 tm, .slice q l.length cap], .int .i64 v] w fun en w' => en = .returned (.int .i64 4) ∧ St W0 w' K L := by
 obtain ⟨rb, hrb⟩ : ∃ b, w.heap.size = b := ⟨_, rfl⟩; have g1 := h.allocRaw #[.bool false, .string (bb dd), .int .i64 ac, .int .i64 tm, .slice q l.length cap] 40; rw [hrb] at g1; have z0 := g1.rawCell 0; have z1 := g1.rawCell 1; have z2 := g1.rawCell 2; have z3 := g1.rawCell 3; have z4 := g1.rawCell 4; simp at z0 z1 z2 z3 z4; have H := Lib.hid g1; have HK := Lib.hid hk; have HF := Lib.hid hf; have HFW := Lib.hid hfew; have HLL := Lib.hid hll; have k5 : ¬ (dd.length : Int) < 1 := by omega
 have k6 : 32767 < (dd.length : Int) := by omega
 have k7 : decide ((dd.length : Int) < 1) = false := decide_eq_false k5; have k8 : decide (32767 < (dd.length : Int)) = true := decide_eq_true k6; clear h g1 hk hf hfew hlen; clear hll; go_enter Tryz.func10, Tryz.ntmps10; go_wp2_with (fail); go_ret; exact ⟨rfl, H.out.drop⟩

set_option maxHeartbeats 4000000 in
set_option maxRecDepth 100000 in
theorem rck_a1_true (ac tm v : Int) (l : List PTop) (q : Option Addr) (cap : Nat) (hf : ∀ x ∈ l, CkT2 x) (hfew : RiseFew l) (hll : l.length ≤ 3518437208780) (n1 : ac < -1) {W0 w : World} {K : Know} {L : List Res} (hk : K.has (Know.ptops (.slice q l.length cap) l)) (h : St W0 w K L) :
  Calls Tryz.prog 10 #[.agg #[.bool true, .string ⟨#[]⟩, .int .i64 ac, .int .i64 tm, .slice q l.length cap], .int .i64 v] w fun en w' => en = .returned (.int .i64 11) ∧ St W0 w' K L := by
 obtain ⟨rb, hrb⟩ : ∃ b, w.heap.size = b := ⟨_, rfl⟩; have g1 := h.allocRaw #[.bool true, .string ⟨#[]⟩, .int .i64 ac, .int .i64 tm, .slice q l.length cap] 40; rw [hrb] at g1; have z0 := g1.rawCell 0; have z1 := g1.rawCell 1; have z2 := g1.rawCell 2; have z3 := g1.rawCell 3; have z4 := g1.rawCell 4; simp at z0 z1 z2 z3 z4; have H := Lib.hid g1; have HK := Lib.hid hk; have HF := Lib.hid hf; have HFW := Lib.hid hfew; have HLL := Lib.hid hll; have d1 : decide (ac < -1) = true := decide_eq_true n1; clear h g1 hk hf hfew n1; clear hll; go_enter Tryz.func10, Tryz.ntmps10; go_wp2_with (fail); go_ret; exact ⟨rfl, H.out.drop⟩

set_option maxHeartbeats 4000000 in
set_option maxRecDepth 100000 in
theorem rck_a2_true (ac tm v : Int) (l : List PTop) (q : Option Addr) (cap : Nat) (hf : ∀ x ∈ l, CkT2 x) (hfew : RiseFew l) (hll : l.length ≤ 3518437208780) (n1 : ¬ ac < -1) (n2 : 1 < ac) {W0 w : World} {K : Know} {L : List Res} (hk : K.has (Know.ptops (.slice q l.length cap) l)) (h : St W0 w K L) :
  Calls Tryz.prog 10 #[.agg #[.bool true, .string ⟨#[]⟩, .int .i64 ac, .int .i64 tm, .slice q l.length cap], .int .i64 v] w fun en w' => en = .returned (.int .i64 11) ∧ St W0 w' K L := by
 obtain ⟨rb, hrb⟩ : ∃ b, w.heap.size = b := ⟨_, rfl⟩; have g1 := h.allocRaw #[.bool true, .string ⟨#[]⟩, .int .i64 ac, .int .i64 tm, .slice q l.length cap] 40; rw [hrb] at g1; have z0 := g1.rawCell 0; have z1 := g1.rawCell 1; have z2 := g1.rawCell 2; have z3 := g1.rawCell 3; have z4 := g1.rawCell 4; simp at z0 z1 z2 z3 z4; have H := Lib.hid g1; have HK := Lib.hid hk; have HF := Lib.hid hf; have HFW := Lib.hid hfew; have HLL := Lib.hid hll; have d1 : decide (ac < -1) = false := decide_eq_false n1; have d2 : decide (1 < ac) = true := decide_eq_true n2; clear h g1 hk hf hfew n1 n2; clear hll; go_enter Tryz.func10, Tryz.ntmps10; go_wp2_with (fail); go_ret; exact ⟨rfl, H.out.drop⟩

set_option maxHeartbeats 4000000 in
set_option maxRecDepth 100000 in
theorem rck_a3_true (ac tm v : Int) (l : List PTop) (q : Option Addr) (cap : Nat) (hf : ∀ x ∈ l, CkT2 x) (hfew : RiseFew l) (hll : l.length ≤ 3518437208780) (n1 : ¬ ac < -1) (n2 : ¬ 1 < ac) (n3 : tm < 0) {W0 w : World} {K : Know} {L : List Res} (hk : K.has (Know.ptops (.slice q l.length cap) l)) (h : St W0 w K L) :
  Calls Tryz.prog 10 #[.agg #[.bool true, .string ⟨#[]⟩, .int .i64 ac, .int .i64 tm, .slice q l.length cap], .int .i64 v] w fun en w' => en = .returned (.int .i64 11) ∧ St W0 w' K L := by
 obtain ⟨rb, hrb⟩ : ∃ b, w.heap.size = b := ⟨_, rfl⟩; have g1 := h.allocRaw #[.bool true, .string ⟨#[]⟩, .int .i64 ac, .int .i64 tm, .slice q l.length cap] 40; rw [hrb] at g1; have z0 := g1.rawCell 0; have z1 := g1.rawCell 1; have z2 := g1.rawCell 2; have z3 := g1.rawCell 3; have z4 := g1.rawCell 4; simp at z0 z1 z2 z3 z4; have H := Lib.hid g1; have HK := Lib.hid hk; have HF := Lib.hid hf; have HFW := Lib.hid hfew; have HLL := Lib.hid hll; have d1 : decide (ac < -1) = false := decide_eq_false n1; have d2 : decide (1 < ac) = false := decide_eq_false n2; have d3 : decide (tm < 0) = true := decide_eq_true n3; clear h g1 hk hf hfew n1 n2 n3; clear hll; go_enter Tryz.func10, Tryz.ntmps10; go_wp2_with (fail); go_ret; exact ⟨rfl, H.out.drop⟩

set_option maxHeartbeats 4000000 in
set_option maxRecDepth 100000 in
theorem rck_a4_true (ac tm v : Int) (l : List PTop) (q : Option Addr) (cap : Nat) (hf : ∀ x ∈ l, CkT2 x) (hfew : RiseFew l) (hll : l.length ≤ 3518437208780) (n1 : ¬ ac < -1) (n2 : ¬ 1 < ac) (n3 : ¬ tm < 0) (n4 : 2147483647 < tm) {W0 w : World} {K : Know} {L : List Res} (hk : K.has (Know.ptops (.slice q l.length cap) l)) (h : St W0 w K L) :
  Calls Tryz.prog 10 #[.agg #[.bool true, .string ⟨#[]⟩, .int .i64 ac, .int .i64 tm, .slice q l.length cap], .int .i64 v] w fun en w' => en = .returned (.int .i64 11) ∧ St W0 w' K L := by
 obtain ⟨rb, hrb⟩ : ∃ b, w.heap.size = b := ⟨_, rfl⟩; have g1 := h.allocRaw #[.bool true, .string ⟨#[]⟩, .int .i64 ac, .int .i64 tm, .slice q l.length cap] 40; rw [hrb] at g1; have z0 := g1.rawCell 0; have z1 := g1.rawCell 1; have z2 := g1.rawCell 2; have z3 := g1.rawCell 3; have z4 := g1.rawCell 4; simp at z0 z1 z2 z3 z4; have H := Lib.hid g1; have HK := Lib.hid hk; have HF := Lib.hid hf; have HFW := Lib.hid hfew; have HLL := Lib.hid hll; have d1 : decide (ac < -1) = false := decide_eq_false n1; have d2 : decide (1 < ac) = false := decide_eq_false n2; have d3 : decide (tm < 0) = false := decide_eq_false n3; have d4 : decide (2147483647 < tm) = true := decide_eq_true n4; clear h g1 hk hf hfew n1 n2 n3 n4; clear hll; go_enter Tryz.func10, Tryz.ntmps10; go_wp2_with (fail); go_ret; exact ⟨rfl, H.out.drop⟩

set_option maxHeartbeats 4000000 in
set_option maxRecDepth 100000 in
theorem rck_t_true (ac tm v : Int) (l : List PTop) (q : Option Addr) (cap : Nat) (hf : ∀ x ∈ l, CkT2 x) (hfew : RiseFew l) (hll : l.length ≤ 3518437208780) (n1 : ¬ ac < -1) (n2 : ¬ 1 < ac) (n3 : ¬ tm < 0) (n4 : ¬ 2147483647 < tm) (e : Int) (het : errTops l = e) (h0 : e ≠ 0) {W0 w : World} {K : Know} {L : List Res} (hk : K.has (Know.ptops (.slice q l.length cap) l)) (h : St W0 w K L) :
  Calls Tryz.prog 10 #[.agg #[.bool true, .string ⟨#[]⟩, .int .i64 ac, .int .i64 tm, .slice q l.length cap], .int .i64 v] w fun en w' => en = .returned (.int .i64 e) ∧ St W0 w' K L := by
 obtain ⟨rb, hrb⟩ : ∃ b, w.heap.size = b := ⟨_, rfl⟩; have g1 := h.allocRaw #[.bool true, .string ⟨#[]⟩, .int .i64 ac, .int .i64 tm, .slice q l.length cap] 40; rw [hrb] at g1; have z0 := g1.rawCell 0; have z1 := g1.rawCell 1; have z2 := g1.rawCell 2; have z3 := g1.rawCell 3; have z4 := g1.rawCell 4; simp at z0 z1 z2 z3 z4; have H := Lib.hid g1; have HK := Lib.hid hk; have HF := Lib.hid hf; have HFW := Lib.hid hfew; have HLL := Lib.hid hll; have d1 : decide (ac < -1) = false := decide_eq_false n1; have d2 : decide (1 < ac) = false := decide_eq_false n2; have d3 : decide (tm < 0) = false := decide_eq_false n3; have d4 : decide (2147483647 < tm) = false := decide_eq_false n4; have HET := Lib.hid het; have e1 : (e == 0) = false := by rw [beq_eq_false_iff_ne]; exact h0
 have e3 : (e != 0) = true := by simp [bne, e1]
 clear h g1 hk hf hfew n1 n2 n3 n4 het h0; clear hll; go_enter Tryz.func10, Tryz.ntmps10
 go_wp2_with (first
  | (go_at_call 35; clear z0 z1 z2 z3 z4; (with_reducible refine (rise20 l q cap e HET.out HLL.out HFW.out HK.out H.out).mono ?_); rintro e_ wn ⟨rfl, h⟩; have z0 := h.rawCell 0; have z1 := h.rawCell 1; have z2 := h.rawCell 2; have z3 := h.rawCell 3; have z4 := h.rawCell 4; simp at z0 z1 z2 z3 z4; replace H := Lib.hid h; clear h))
 go_ret; exact ⟨rfl, H.out.drop⟩

theorem zq17 {p : Prop} (h : p := by
  try simp only [Act.put, sA, sB, sC]
  refine tQ 16 ⟨some 8, .assign (.tmp 95), 3, _, _, none⟩ ?_; simp only [Act.put, sA, sB, sC]; refine wpAnyH_done (by kernel_rfl) ?_ _; clear hHeld; go_wp2_with fail; go_roundw
  case rel => exact ⟨j + 1, hjt, by go_num, HC3, hs⟩
  case measure => first | (simp [intOf]; done) | (simp [intOf]; omega)) : p := h
theorem zq21 {p : Prop} (h : p := by
  try simp only [Act.put, sA, sB, sC]
  refine tQ 16 ⟨some 8, .assign (.tmp 95), 3, _, _, none⟩ ?_; simp only [Act.put, sA, sB, sC]; refine wpAnyH_done (by kernel_rfl) ?_ _; clear hHeld; go_wp2_with fail; go_ret; exact ⟨rfl, hs.drop⟩) : p := h
theorem zq26 {p : Prop} (h : p := by
  obtain rfl : k = l.length := by omega
  have hc := HC.out; rw [List.drop_length] at hc; have hc : 0 = e := hc; subst hc; go_wp2; go_ret; exact ⟨rfl, H.out.drop⟩) : p := h
set_option maxHeartbeats 4000000 in
set_option maxRecDepth 100000 in
theorem rck_p_true (ac tm v : Int) (l : List PTop) (q : Option Addr) (cap : Nat) (hf : ∀ x ∈ l, CkT2 x) (hfew : RiseFew l) (hll : l.length ≤ 3518437208780) (n1 : ¬ ac < -1) (n2 : ¬ 1 < ac) (n3 : ¬ tm < 0) (n4 : ¬ 2147483647 < tm) (het : errTops l = 0) (e : Int) (hep : errPT false v l = e) {W0 w : World} {K : Know} {L : List Res} (hk : K.has (Know.ptops (.slice q l.length cap) l)) (h : St W0 w K L) :
  Calls Tryz.prog 10 #[.agg #[.bool true, .string ⟨#[]⟩, .int .i64 ac, .int .i64 tm, .slice q l.length cap], .int .i64 v] w fun en w' => en = .returned (.int .i64 e) ∧ St W0 w' K L := by
 obtain ⟨rb, hrb⟩ : ∃ b, w.heap.size = b := ⟨_, rfl⟩; have g1 := h.allocRaw #[.bool true, .string ⟨#[]⟩, .int .i64 ac, .int .i64 tm, .slice q l.length cap] 40; rw [hrb] at g1; have z0 := g1.rawCell 0; have z1 := g1.rawCell 1; have z2 := g1.rawCell 2; have z3 := g1.rawCell 3; have z4 := g1.rawCell 4; simp at z0 z1 z2 z3 z4; have H := Lib.hid g1; have HK := Lib.hid hk; have HF := Lib.hid hf; have HFW := Lib.hid hfew; have HLL := Lib.hid hll; have d1 : decide (ac < -1) = false := decide_eq_false n1; have d2 : decide (1 < ac) = false := decide_eq_false n2; have d3 : decide (tm < 0) = false := decide_eq_false n3; have d4 : decide (2147483647 < tm) = false := decide_eq_false n4; have HET := Lib.hid het; clear h g1 hk hf hfew n1 n2 n3 n4 het; have HR := Lib.hid (show errPT false v (l.drop 0) = e by rw [List.drop_zero]; exact hep); have hni : (l.length : Int) ≤ 3518437208780 := by omega
 clear hep hll; go_enter Tryz.func10, Tryz.ntmps10; go_wp2_with (go_at_call 35; clear z0 z1 z2 z3 z4; (with_reducible refine (rise20 l q cap 0 HET.out HLL.out HFW.out HK.out H.out).mono ?_); rintro e_ wn ⟨rfl, h⟩; have z0 := h.rawCell 0; have z1 := h.rawCell 1; have z2 := h.rawCell 2; have z3 := h.rawCell 3; have z4 := h.rawCell 4; simp at z0 z1 z2 z3 z4; replace H := Lib.hid h; clear h); clear z0 z1 z2 z3 z4; go_loopw [6] (fun iv wr => ∃ (k : Nat), k ≤ l.length ∧ iv = .int .i64 k ∧ Hid (errPT false v (l.drop k) = e) ∧ St W0 wr K (.raw rb #[.bool true, .string ⟨#[]⟩, .int .i64 ac, .int .i64 tm, .slice q l.length cap] 40 :: L)) (fun iv _ => l.length - (intOf iv).toNat)
 case atStart => exact ⟨0, Nat.zero_le _, rfl, HR, H.out⟩
 case round =>
  obtain ⟨k, hkl, rfl, HC, hst⟩ := hrel; clear H HR; have H := Lib.hid hst; clear hst; have z4 := H.out.rawCell 4; simp at z4
  by_cases hlt : k < l.length
  · obtain ⟨bk, off, hqq⟩ := ptops_at HK.out H.out (by omega); obtain ⟨x, hx⟩ : ∃ x, l[k] = x := ⟨_, rfl⟩; have hmem : x ∈ l := hx ▸ List.getElem_mem hlt; have hck := HF.out x hmem; have HXK0 := ptops_parts HK.out hmem; have hc := HC.out; rw [List.drop_eq_getElem_cons hlt, hx, errPT_cons] at hc; have hkn : (k : Int) < (l.length : Int) := by omega
    have HX := Lib.hid hx; subst hqq; obtain ⟨nm, xl, xq, xcap⟩ := x; simp only at hc HXK0; have HXK := Lib.hid HXK0; have HXF := Lib.hid (show ∀ y ∈ xl, CkP2 y from hck.parts); have hxl : xl.length ≤ 4398046511104 := hck.len; have hxi : (xl.length : Int) ≤ 4398046511104 := by omega
    have HC2 := Lib.hid (show (if errPs false v (xl.drop 0) ≠ 0 then errPs false v (xl.drop 0) else errPT false v (l.drop (k + 1))) = e by rw [List.drop_zero]; exact hc); clear hx hmem hck HXK0 hxl hc; go_wp2_with fail; clear z4; go_loopw [7] (fun jv wr => ∃ (j : Nat), j ≤ xl.length ∧ jv = .int .i64 j ∧ Hid ((if errPs false v (xl.drop j) ≠ 0 then errPs false v (xl.drop j) else errPT false v (l.drop (k + 1))) = e) ∧ St W0 wr K (.raw rb #[.bool true, .string ⟨#[]⟩, .int .i64 ac, .int .i64 tm, .slice (some ⟨bk, off, none⟩) l.length cap] 40 :: L)) (fun jv _ => xl.length - (intOf jv).toNat)
    case atStart => exact ⟨0, Nat.zero_le _, rfl, HC2, H.out⟩
    case round =>
     obtain ⟨j, hjl, rfl, HD, hst⟩ := hrel; clear H HC2; have H := Lib.hid hst; clear hst; have z4 := H.out.rawCell 4; simp at z4; obtain ⟨_, c1⟩ := ptops_cell HK.out H.out k hlt _ HX.out; simp only at c1
     by_cases hjt : j < xl.length
     · obtain ⟨pk, poff, hpq⟩ := pparts_at HXK.out H.out (by omega); subst hpq; obtain ⟨y, hy⟩ : ∃ y, xl[j] = y := ⟨_, rfl⟩; have hmem : y ∈ xl := hy ▸ List.getElem_mem hjt; have hcy := HXF.out y hmem; have HYK0 := pparts_bats HXK.out hmem; have hd := HD.out; rw [List.drop_eq_getElem_cons hjt, hy, errPs_b20] at hd; have hjn : (j : Int) < (xl.length : Int) := by omega
       have HY := Lib.hid hy; obtain ⟨yi, yl, yq, ycap⟩ := y; simp only at hd HYK0; have HYK := Lib.hid HYK0; have HYF := Lib.hid (show ∀ z ∈ yl, CkB z from hcy.bats); have HYN := Lib.hid (show yl.length ≤ 4398046511104 from hcy.len); obtain ⟨be, hbe⟩ : ∃ n, errB20 false v yl = n := ⟨_, rfl⟩; have HBE := Lib.hid hbe; rw [hbe] at hd
       have HKP := Lib.hid (show ∀ (w' : World), St W0 w' K (.raw rb #[.bool true, .string ⟨#[]⟩, .int .i64 ac, .int .i64 tm, .slice (some ⟨bk, off, none⟩) l.length cap] 40 :: L) → (w'.cell? ⟨rb, 0, none⟩ = some (.bool true) ∧ w'.cell? ⟨rb, 4, none⟩ = some (.slice (some ⟨bk, off, none⟩) l.length cap) ∧ w'.cell? ⟨bk, off + k * 2 + 1, none⟩ = some (.slice (some ⟨pk, poff, none⟩) xl.length xcap) ∧ w'.cell? ⟨pk, poff + j * 2 + 1, none⟩ = some (.slice yq yl.length ycap)) from fun w' hs => by
         have a0 := hs.rawCell 0; have a4 := hs.rawCell 4; obtain ⟨_, b1⟩ := ptops_cell HK.out hs k hlt _ HX.out; obtain ⟨_, d1⟩ := pparts_cell HXK.out hs j hjt _ HY.out; simp at a0 a4
         exact ⟨a0, a4, b1, d1⟩)
       clear hy hmem hcy HYK0 hbe
       by_cases b0 : be = 0
       · subst b0; have HC3 := Lib.hid (ifs_0 hd); clear hd; go_wp2; have hs := H.out.drew; refine wp_region_held_drew (S := fun w' => w'.cell? ⟨rb, 0, none⟩ = some (.bool true) ∧ w'.cell? ⟨rb, 4, none⟩ = some (.slice (some ⟨bk, off, none⟩) l.length cap) ∧ w'.cell? ⟨bk, off + k * 2 + 1, none⟩ = some (.slice (some ⟨pk, poff, none⟩) xl.length xcap) ∧ w'.cell? ⟨pk, poff + j * 2 + 1, none⟩ = some (.slice yq yl.length ycap)) (by kernel_rfl) (HKP.out _ hs) (fun hHeld => ?_); refine tQ 0 ⟨some 80, .fieldAddr 40 (.tmp 2) 3, 0, _, _, none⟩ ?_; simp only [Act.put, sA, sB, sC]; refine tQ 1 ⟨some 81, .load 38 (.tmp 80), 38, _, _, none⟩ ?_; simp only [Act.put, sA, sB, sC]; refine tQ 2 ⟨some 82, .move (.tmp 6), 3, _, _, none⟩ ?_; simp only [Act.put, sA, sB, sC]; refine tQ 3 ⟨some 83, .indexAddr 38 (.tmp 81) (.tmp 82), 0, _, _, none⟩ ?_; simp only [Act.put, sA, sB, sC]; refine tQ 4 ⟨some 84, .fieldAddr 83 (.tmp 83) 1, 0, _, _, none⟩ ?_; simp only [Act.put, sA, sB, sC]; refine tQ 5 ⟨some 85, .load 81 (.tmp 84), 81, _, _, none⟩ ?_; simp only [Act.put, sA, sB, sC]; refine tQ 6 ⟨some 86, .move (.tmp 7), 3, _, _, none⟩ ?_; simp only [Act.put, sA, sB, sC]; refine tQ 7 ⟨some 87, .indexAddr 81 (.tmp 85) (.tmp 86), 0, _, _, none⟩ ?_; simp only [Act.put, sA, sB, sC]; refine tQ 8 ⟨some 88, .fieldAddr 85 (.tmp 87) 1, 0, _, _, none⟩ ?_; simp only [Act.put, sA, sB, sC]; refine tQ 9 ⟨some 89, .load 66 (.tmp 88), 66, _, _, none⟩ ?_; simp only [Act.put, sA, sB, sC]; refine tQ 10 ⟨some 90, .fieldAddr 40 (.tmp 2) 0, 0, _, _, none⟩ ?_; simp only [Act.put, sA, sB, sC]; refine tQ 11 ⟨some 91, .fieldAddr 23 (.tmp 90) 0, 0, _, _, none⟩ ?_; simp only [Act.put, sA, sB, sC]; refine tQ 12 ⟨some 92, .load 4 (.tmp 91), 4, _, _, none⟩ ?_; simp only [Act.put, sA, sB, sC]; refine tQ 13 ⟨some 93, .unOp UnOp.not 4 (.tmp 92), 4, _, _, none⟩ ?_; simp only [Act.put, sA, sB, sC]; refine tQ 14 ⟨some 94, .move (.tmp 1), 3, _, _, none⟩ ?_; simp only [Act.put, sA, sB, sC]; refine wpAnyH_ready (rs := [15]) (by kernel_rfl) (by simp) (AllReadyH.cons (o := ⟨some 95, .call { callee := .value (.func 36), args := #[.tmp 89, .tmp 93, .tmp 94], argTypes := #[66, 4, 3] }, 3, _, _, none⟩) rfl (fun KK hK => ?_) AllReadyH.nil); go_simp; go_at_call 36; with_reducible refine (batches20 false v yl yq ycap _ HBE.out HYF.out HYN.out HYK.out hs).mono ?_; rintro e wq ⟨rfl, hs⟩; refine hK.out _ _ (HKP.out _ hs) (fun hHeld => ?_); clear hK KK
         exact zq17
       · rw [if_pos b0, if_pos b0] at hd; subst hd; have g1 : (be == 0) = false := by rw [beq_eq_false_iff_ne]; exact b0
         have g2 : (be != 0) = true := by simp [bne, g1]
         have g3 : ¬ be = 0 := b0; clear b0; go_wp2; have hs := H.out.drew; refine wp_region_held_drew (S := fun w' => w'.cell? ⟨rb, 0, none⟩ = some (.bool true) ∧ w'.cell? ⟨rb, 4, none⟩ = some (.slice (some ⟨bk, off, none⟩) l.length cap) ∧ w'.cell? ⟨bk, off + k * 2 + 1, none⟩ = some (.slice (some ⟨pk, poff, none⟩) xl.length xcap) ∧ w'.cell? ⟨pk, poff + j * 2 + 1, none⟩ = some (.slice yq yl.length ycap)) (by kernel_rfl) (HKP.out _ hs) (fun hHeld => ?_); refine tQ 0 ⟨some 80, .fieldAddr 40 (.tmp 2) 3, 0, _, _, none⟩ ?_; simp only [Act.put, sA, sB, sC]; refine tQ 1 ⟨some 81, .load 38 (.tmp 80), 38, _, _, none⟩ ?_; simp only [Act.put, sA, sB, sC]; refine tQ 2 ⟨some 82, .move (.tmp 6), 3, _, _, none⟩ ?_; simp only [Act.put, sA, sB, sC]; refine tQ 3 ⟨some 83, .indexAddr 38 (.tmp 81) (.tmp 82), 0, _, _, none⟩ ?_; simp only [Act.put, sA, sB, sC]; refine tQ 4 ⟨some 84, .fieldAddr 83 (.tmp 83) 1, 0, _, _, none⟩ ?_; simp only [Act.put, sA, sB, sC]; refine tQ 5 ⟨some 85, .load 81 (.tmp 84), 81, _, _, none⟩ ?_; simp only [Act.put, sA, sB, sC]; refine tQ 6 ⟨some 86, .move (.tmp 7), 3, _, _, none⟩ ?_; simp only [Act.put, sA, sB, sC]; refine tQ 7 ⟨some 87, .indexAddr 81 (.tmp 85) (.tmp 86), 0, _, _, none⟩ ?_; simp only [Act.put, sA, sB, sC]; refine tQ 8 ⟨some 88, .fieldAddr 85 (.tmp 87) 1, 0, _, _, none⟩ ?_; simp only [Act.put, sA, sB, sC]; refine tQ 9 ⟨some 89, .load 66 (.tmp 88), 66, _, _, none⟩ ?_; simp only [Act.put, sA, sB, sC]; refine tQ 10 ⟨some 90, .fieldAddr 40 (.tmp 2) 0, 0, _, _, none⟩ ?_; simp only [Act.put, sA, sB, sC]; refine tQ 11 ⟨some 91, .fieldAddr 23 (.tmp 90) 0, 0, _, _, none⟩ ?_; simp only [Act.put, sA, sB, sC]; refine tQ 12 ⟨some 92, .load 4 (.tmp 91), 4, _, _, none⟩ ?_; simp only [Act.put, sA, sB, sC]; refine tQ 13 ⟨some 93, .unOp UnOp.not 4 (.tmp 92), 4, _, _, none⟩ ?_; simp only [Act.put, sA, sB, sC]; refine tQ 14 ⟨some 94, .move (.tmp 1), 3, _, _, none⟩ ?_; simp only [Act.put, sA, sB, sC]; refine wpAnyH_ready (rs := [15]) (by kernel_rfl) (by simp) (AllReadyH.cons (o := ⟨some 95, .call { callee := .value (.func 36), args := #[.tmp 89, .tmp 93, .tmp 94], argTypes := #[66, 4, 3] }, 3, _, _, none⟩) rfl (fun KK hK => ?_) AllReadyH.nil); go_simp; go_at_call 36; with_reducible refine (batches20 false v yl yq ycap _ HBE.out HYF.out HYN.out HYK.out hs).mono ?_; rintro e wq ⟨rfl, hs⟩; refine hK.out _ _ (HKP.out _ hs) (fun hHeld => ?_); clear hK KK
         exact zq21
     · obtain rfl : j = xl.length := by omega
       have hd := HD.out; rw [List.drop_length] at hd; have hd : errPT false v (l.drop (k + 1)) = e := hd; have HC4 := Lib.hid hd; clear hd; go_wp2; go_roundw
       case rel => exact ⟨k + 1, hlt, by go_num, HC4, H.out⟩
       case measure => first | (simp [intOf]; done) | (simp [intOf]; omega)
  · exact zq26

set_option maxHeartbeats 4000000 in
set_option maxRecDepth 100000 in
theorem rck_a1_false (dd : Bs) (ac tm v : Int) (l : List PTop) (q : Option Addr) (cap : Nat) (hf : ∀ x ∈ l, CkT2 x) (hfew : RiseFew l) (hll : l.length ≤ 3518437208780) (h1 : 1 ≤ dd.length) (h2 : dd.length ≤ 32767) (n1 : ac < -1) {W0 w : World} {K : Know} {L : List Res} (hk : K.has (Know.ptops (.slice q l.length cap) l)) (h : St W0 w K L) :
  Calls Tryz.prog 10 #[.agg #[.bool false, .string (bb dd), .int .i64 ac, .int .i64 tm, .slice q l.length cap], .int .i64 v] w fun en w' => en = .returned (.int .i64 11) ∧ St W0 w' K L := by
 obtain ⟨rb, hrb⟩ : ∃ b, w.heap.size = b := ⟨_, rfl⟩; have g1 := h.allocRaw #[.bool false, .string (bb dd), .int .i64 ac, .int .i64 tm, .slice q l.length cap] 40; rw [hrb] at g1; have z0 := g1.rawCell 0; have z1 := g1.rawCell 1; have z2 := g1.rawCell 2; have z3 := g1.rawCell 3; have z4 := g1.rawCell 4; simp at z0 z1 z2 z3 z4; have H := Lib.hid g1; have HK := Lib.hid hk; have HF := Lib.hid hf; have HFW := Lib.hid hfew; have HLL := Lib.hid hll; have k5 : ¬ (dd.length : Int) < 1 := by omega
 have k6 : ¬ 32767 < (dd.length : Int) := by omega
 have k7 : decide ((dd.length : Int) < 1) = false := decide_eq_false k5; have k8 : decide (32767 < (dd.length : Int)) = false := decide_eq_false k6; have d1 : decide (ac < -1) = true := decide_eq_true n1; clear h g1 hk hf hfew h1 h2 n1; clear hll; go_enter Tryz.func10, Tryz.ntmps10; go_wp2_with (fail); go_ret; exact ⟨rfl, H.out.drop⟩

set_option maxHeartbeats 4000000 in
set_option maxRecDepth 100000 in
theorem rck_a2_false (dd : Bs) (ac tm v : Int) (l : List PTop) (q : Option Addr) (cap : Nat) (hf : ∀ x ∈ l, CkT2 x) (hfew : RiseFew l) (hll : l.length ≤ 3518437208780) (h1 : 1 ≤ dd.length) (h2 : dd.length ≤ 32767) (n1 : ¬ ac < -1) (n2 : 1 < ac) {W0 w : World} {K : Know} {L : List Res} (hk : K.has (Know.ptops (.slice q l.length cap) l)) (h : St W0 w K L) :
  Calls Tryz.prog 10 #[.agg #[.bool false, .string (bb dd), .int .i64 ac, .int .i64 tm, .slice q l.length cap], .int .i64 v] w fun en w' => en = .returned (.int .i64 11) ∧ St W0 w' K L := by
 obtain ⟨rb, hrb⟩ : ∃ b, w.heap.size = b := ⟨_, rfl⟩; have g1 := h.allocRaw #[.bool false, .string (bb dd), .int .i64 ac, .int .i64 tm, .slice q l.length cap] 40; rw [hrb] at g1; have z0 := g1.rawCell 0; have z1 := g1.rawCell 1; have z2 := g1.rawCell 2; have z3 := g1.rawCell 3; have z4 := g1.rawCell 4; simp at z0 z1 z2 z3 z4; have H := Lib.hid g1; have HK := Lib.hid hk; have HF := Lib.hid hf; have HFW := Lib.hid hfew; have HLL := Lib.hid hll; have k5 : ¬ (dd.length : Int) < 1 := by omega
 have k6 : ¬ 32767 < (dd.length : Int) := by omega
 have k7 : decide ((dd.length : Int) < 1) = false := decide_eq_false k5; have k8 : decide (32767 < (dd.length : Int)) = false := decide_eq_false k6; have d1 : decide (ac < -1) = false := decide_eq_false n1; have d2 : decide (1 < ac) = true := decide_eq_true n2; clear h g1 hk hf hfew h1 h2 n1 n2; clear hll; go_enter Tryz.func10, Tryz.ntmps10; go_wp2_with (fail); go_ret; exact ⟨rfl, H.out.drop⟩

set_option maxHeartbeats 4000000 in
set_option maxRecDepth 100000 in
theorem rck_a3_false (dd : Bs) (ac tm v : Int) (l : List PTop) (q : Option Addr) (cap : Nat) (hf : ∀ x ∈ l, CkT2 x) (hfew : RiseFew l) (hll : l.length ≤ 3518437208780) (h1 : 1 ≤ dd.length) (h2 : dd.length ≤ 32767) (n1 : ¬ ac < -1) (n2 : ¬ 1 < ac) (n3 : tm < 0) {W0 w : World} {K : Know} {L : List Res} (hk : K.has (Know.ptops (.slice q l.length cap) l)) (h : St W0 w K L) :
  Calls Tryz.prog 10 #[.agg #[.bool false, .string (bb dd), .int .i64 ac, .int .i64 tm, .slice q l.length cap], .int .i64 v] w fun en w' => en = .returned (.int .i64 11) ∧ St W0 w' K L := by
 obtain ⟨rb, hrb⟩ : ∃ b, w.heap.size = b := ⟨_, rfl⟩; have g1 := h.allocRaw #[.bool false, .string (bb dd), .int .i64 ac, .int .i64 tm, .slice q l.length cap] 40; rw [hrb] at g1; have z0 := g1.rawCell 0; have z1 := g1.rawCell 1; have z2 := g1.rawCell 2; have z3 := g1.rawCell 3; have z4 := g1.rawCell 4; simp at z0 z1 z2 z3 z4; have H := Lib.hid g1; have HK := Lib.hid hk; have HF := Lib.hid hf; have HFW := Lib.hid hfew; have HLL := Lib.hid hll; have k5 : ¬ (dd.length : Int) < 1 := by omega
 have k6 : ¬ 32767 < (dd.length : Int) := by omega
 have k7 : decide ((dd.length : Int) < 1) = false := decide_eq_false k5; have k8 : decide (32767 < (dd.length : Int)) = false := decide_eq_false k6; have d1 : decide (ac < -1) = false := decide_eq_false n1; have d2 : decide (1 < ac) = false := decide_eq_false n2; have d3 : decide (tm < 0) = true := decide_eq_true n3; clear h g1 hk hf hfew h1 h2 n1 n2 n3; clear hll; go_enter Tryz.func10, Tryz.ntmps10; go_wp2_with (fail); go_ret; exact ⟨rfl, H.out.drop⟩

set_option maxHeartbeats 4000000 in
set_option maxRecDepth 100000 in
theorem rck_a4_false (dd : Bs) (ac tm v : Int) (l : List PTop) (q : Option Addr) (cap : Nat) (hf : ∀ x ∈ l, CkT2 x) (hfew : RiseFew l) (hll : l.length ≤ 3518437208780) (h1 : 1 ≤ dd.length) (h2 : dd.length ≤ 32767) (n1 : ¬ ac < -1) (n2 : ¬ 1 < ac) (n3 : ¬ tm < 0) (n4 : 2147483647 < tm) {W0 w : World} {K : Know} {L : List Res} (hk : K.has (Know.ptops (.slice q l.length cap) l)) (h : St W0 w K L) :
  Calls Tryz.prog 10 #[.agg #[.bool false, .string (bb dd), .int .i64 ac, .int .i64 tm, .slice q l.length cap], .int .i64 v] w fun en w' => en = .returned (.int .i64 11) ∧ St W0 w' K L := by
 obtain ⟨rb, hrb⟩ : ∃ b, w.heap.size = b := ⟨_, rfl⟩; have g1 := h.allocRaw #[.bool false, .string (bb dd), .int .i64 ac, .int .i64 tm, .slice q l.length cap] 40; rw [hrb] at g1; have z0 := g1.rawCell 0; have z1 := g1.rawCell 1; have z2 := g1.rawCell 2; have z3 := g1.rawCell 3; have z4 := g1.rawCell 4; simp at z0 z1 z2 z3 z4; have H := Lib.hid g1; have HK := Lib.hid hk; have HF := Lib.hid hf; have HFW := Lib.hid hfew; have HLL := Lib.hid hll; have k5 : ¬ (dd.length : Int) < 1 := by omega
 have k6 : ¬ 32767 < (dd.length : Int) := by omega
 have k7 : decide ((dd.length : Int) < 1) = false := decide_eq_false k5; have k8 : decide (32767 < (dd.length : Int)) = false := decide_eq_false k6; have d1 : decide (ac < -1) = false := decide_eq_false n1; have d2 : decide (1 < ac) = false := decide_eq_false n2; have d3 : decide (tm < 0) = false := decide_eq_false n3; have d4 : decide (2147483647 < tm) = true := decide_eq_true n4; clear h g1 hk hf hfew h1 h2 n1 n2 n3 n4; clear hll; go_enter Tryz.func10, Tryz.ntmps10; go_wp2_with (fail); go_ret; exact ⟨rfl, H.out.drop⟩

set_option maxHeartbeats 4000000 in
set_option maxRecDepth 100000 in
theorem rck_t_false (dd : Bs) (ac tm v : Int) (l : List PTop) (q : Option Addr) (cap : Nat) (hf : ∀ x ∈ l, CkT2 x) (hfew : RiseFew l) (hll : l.length ≤ 3518437208780) (h1 : 1 ≤ dd.length) (h2 : dd.length ≤ 32767) (n1 : ¬ ac < -1) (n2 : ¬ 1 < ac) (n3 : ¬ tm < 0) (n4 : ¬ 2147483647 < tm) (e : Int) (het : errTops l = e) (h0 : e ≠ 0) {W0 w : World} {K : Know} {L : List Res} (hk : K.has (Know.ptops (.slice q l.length cap) l)) (h : St W0 w K L) :
  Calls Tryz.prog 10 #[.agg #[.bool false, .string (bb dd), .int .i64 ac, .int .i64 tm, .slice q l.length cap], .int .i64 v] w fun en w' => en = .returned (.int .i64 e) ∧ St W0 w' K L := by
 obtain ⟨rb, hrb⟩ : ∃ b, w.heap.size = b := ⟨_, rfl⟩; have g1 := h.allocRaw #[.bool false, .string (bb dd), .int .i64 ac, .int .i64 tm, .slice q l.length cap] 40; rw [hrb] at g1; have z0 := g1.rawCell 0; have z1 := g1.rawCell 1; have z2 := g1.rawCell 2; have z3 := g1.rawCell 3; have z4 := g1.rawCell 4; simp at z0 z1 z2 z3 z4; have H := Lib.hid g1; have HK := Lib.hid hk; have HF := Lib.hid hf; have HFW := Lib.hid hfew; have HLL := Lib.hid hll; have k5 : ¬ (dd.length : Int) < 1 := by omega
 have k6 : ¬ 32767 < (dd.length : Int) := by omega
 have k7 : decide ((dd.length : Int) < 1) = false := decide_eq_false k5; have k8 : decide (32767 < (dd.length : Int)) = false := decide_eq_false k6; have d1 : decide (ac < -1) = false := decide_eq_false n1; have d2 : decide (1 < ac) = false := decide_eq_false n2; have d3 : decide (tm < 0) = false := decide_eq_false n3; have d4 : decide (2147483647 < tm) = false := decide_eq_false n4; have HET := Lib.hid het; have e1 : (e == 0) = false := by rw [beq_eq_false_iff_ne]; exact h0
 have e3 : (e != 0) = true := by simp [bne, e1]
 clear h g1 hk hf hfew h1 h2 n1 n2 n3 n4 het h0; clear hll; go_enter Tryz.func10, Tryz.ntmps10
 go_wp2_with (first
  | (go_at_call 35; clear z0 z1 z2 z3 z4; (with_reducible refine (rise20 l q cap e HET.out HLL.out HFW.out HK.out H.out).mono ?_); rintro e_ wn ⟨rfl, h⟩; have z0 := h.rawCell 0; have z1 := h.rawCell 1; have z2 := h.rawCell 2; have z3 := h.rawCell 3; have z4 := h.rawCell 4; simp at z0 z1 z2 z3 z4; replace H := Lib.hid h; clear h))
 go_ret; exact ⟨rfl, H.out.drop⟩

set_option maxHeartbeats 4000000 in
set_option maxRecDepth 100000 in
theorem rck_p_false (dd : Bs) (ac tm v : Int) (l : List PTop) (q : Option Addr) (cap : Nat) (hf : ∀ x ∈ l, CkT2 x) (hfew : RiseFew l) (hll : l.length ≤ 3518437208780) (h1 : 1 ≤ dd.length) (h2 : dd.length ≤ 32767) (n1 : ¬ ac < -1) (n2 : ¬ 1 < ac) (n3 : ¬ tm < 0) (n4 : ¬ 2147483647 < tm) (het : errTops l = 0) (e : Int) (hep : errPT true v l = e) {W0 w : World} {K : Know} {L : List Res} (hk : K.has (Know.ptops (.slice q l.length cap) l)) (h : St W0 w K L) :
  Calls Tryz.prog 10 #[.agg #[.bool false, .string (bb dd), .int .i64 ac, .int .i64 tm, .slice q l.length cap], .int .i64 v] w fun en w' => en = .returned (.int .i64 e) ∧ St W0 w' K L := by
 obtain ⟨rb, hrb⟩ : ∃ b, w.heap.size = b := ⟨_, rfl⟩; have g1 := h.allocRaw #[.bool false, .string (bb dd), .int .i64 ac, .int .i64 tm, .slice q l.length cap] 40; rw [hrb] at g1; have z0 := g1.rawCell 0; have z1 := g1.rawCell 1; have z2 := g1.rawCell 2; have z3 := g1.rawCell 3; have z4 := g1.rawCell 4; simp at z0 z1 z2 z3 z4; have H := Lib.hid g1; have HK := Lib.hid hk; have HF := Lib.hid hf; have HFW := Lib.hid hfew; have HLL := Lib.hid hll; have k5 : ¬ (dd.length : Int) < 1 := by omega
 have k6 : ¬ 32767 < (dd.length : Int) := by omega
 have k7 : decide ((dd.length : Int) < 1) = false := decide_eq_false k5; have k8 : decide (32767 < (dd.length : Int)) = false := decide_eq_false k6; have d1 : decide (ac < -1) = false := decide_eq_false n1; have d2 : decide (1 < ac) = false := decide_eq_false n2; have d3 : decide (tm < 0) = false := decide_eq_false n3; have d4 : decide (2147483647 < tm) = false := decide_eq_false n4; have HET := Lib.hid het; clear h g1 hk hf hfew h1 h2 n1 n2 n3 n4 het; have HR := Lib.hid (show errPT true v (l.drop 0) = e by rw [List.drop_zero]; exact hep); have hni : (l.length : Int) ≤ 3518437208780 := by omega
 clear hep hll; go_enter Tryz.func10, Tryz.ntmps10; go_wp2_with (go_at_call 35; clear z0 z1 z2 z3 z4; (with_reducible refine (rise20 l q cap 0 HET.out HLL.out HFW.out HK.out H.out).mono ?_); rintro e_ wn ⟨rfl, h⟩; have z0 := h.rawCell 0; have z1 := h.rawCell 1; have z2 := h.rawCell 2; have z3 := h.rawCell 3; have z4 := h.rawCell 4; simp at z0 z1 z2 z3 z4; replace H := Lib.hid h; clear h); clear z0 z1 z2 z3 z4; go_loopw [6] (fun iv wr => ∃ (k : Nat), k ≤ l.length ∧ iv = .int .i64 k ∧ Hid (errPT true v (l.drop k) = e) ∧ St W0 wr K (.raw rb #[.bool false, .string (bb dd), .int .i64 ac, .int .i64 tm, .slice q l.length cap] 40 :: L)) (fun iv _ => l.length - (intOf iv).toNat)
 case atStart => exact ⟨0, Nat.zero_le _, rfl, HR, H.out⟩
 case round =>
  obtain ⟨k, hkl, rfl, HC, hst⟩ := hrel; clear H HR; have H := Lib.hid hst; clear hst; have z4 := H.out.rawCell 4; simp at z4
  by_cases hlt : k < l.length
  · obtain ⟨bk, off, hqq⟩ := ptops_at HK.out H.out (by omega); obtain ⟨x, hx⟩ : ∃ x, l[k] = x := ⟨_, rfl⟩; have hmem : x ∈ l := hx ▸ List.getElem_mem hlt; have hck := HF.out x hmem; have HXK0 := ptops_parts HK.out hmem; have hc := HC.out; rw [List.drop_eq_getElem_cons hlt, hx, errPT_cons] at hc; have hkn : (k : Int) < (l.length : Int) := by omega
    have HX := Lib.hid hx; subst hqq; obtain ⟨nm, xl, xq, xcap⟩ := x; simp only at hc HXK0; have HXK := Lib.hid HXK0; have HXF := Lib.hid (show ∀ y ∈ xl, CkP2 y from hck.parts); have hxl : xl.length ≤ 4398046511104 := hck.len; have hxi : (xl.length : Int) ≤ 4398046511104 := by omega
    have HC2 := Lib.hid (show (if errPs true v (xl.drop 0) ≠ 0 then errPs true v (xl.drop 0) else errPT true v (l.drop (k + 1))) = e by rw [List.drop_zero]; exact hc); clear hx hmem hck HXK0 hxl hc; go_wp2_with fail; clear z4; go_loopw [7] (fun jv wr => ∃ (j : Nat), j ≤ xl.length ∧ jv = .int .i64 j ∧ Hid ((if errPs true v (xl.drop j) ≠ 0 then errPs true v (xl.drop j) else errPT true v (l.drop (k + 1))) = e) ∧ St W0 wr K (.raw rb #[.bool false, .string (bb dd), .int .i64 ac, .int .i64 tm, .slice (some ⟨bk, off, none⟩) l.length cap] 40 :: L)) (fun jv _ => xl.length - (intOf jv).toNat)
    case atStart => exact ⟨0, Nat.zero_le _, rfl, HC2, H.out⟩
    case round =>
     obtain ⟨j, hjl, rfl, HD, hst⟩ := hrel; clear H HC2; have H := Lib.hid hst; clear hst; have z4 := H.out.rawCell 4; simp at z4; obtain ⟨_, c1⟩ := ptops_cell HK.out H.out k hlt _ HX.out; simp only at c1
     by_cases hjt : j < xl.length
     · obtain ⟨pk, poff, hpq⟩ := pparts_at HXK.out H.out (by omega); subst hpq; obtain ⟨y, hy⟩ : ∃ y, xl[j] = y := ⟨_, rfl⟩; have hmem : y ∈ xl := hy ▸ List.getElem_mem hjt; have hcy := HXF.out y hmem; have HYK0 := pparts_bats HXK.out hmem; have hd := HD.out; rw [List.drop_eq_getElem_cons hjt, hy, errPs_b20] at hd; have hjn : (j : Int) < (xl.length : Int) := by omega
       have HY := Lib.hid hy; obtain ⟨yi, yl, yq, ycap⟩ := y; simp only at hd HYK0; have HYK := Lib.hid HYK0; have HYF := Lib.hid (show ∀ z ∈ yl, CkB z from hcy.bats); have HYN := Lib.hid (show yl.length ≤ 4398046511104 from hcy.len); obtain ⟨be, hbe⟩ : ∃ n, errB20 true v yl = n := ⟨_, rfl⟩; have HBE := Lib.hid hbe; rw [hbe] at hd
       have HKP := Lib.hid (show ∀ (w' : World), St W0 w' K (.raw rb #[.bool false, .string (bb dd), .int .i64 ac, .int .i64 tm, .slice (some ⟨bk, off, none⟩) l.length cap] 40 :: L) → (w'.cell? ⟨rb, 0, none⟩ = some (.bool false) ∧ w'.cell? ⟨rb, 4, none⟩ = some (.slice (some ⟨bk, off, none⟩) l.length cap) ∧ w'.cell? ⟨bk, off + k * 2 + 1, none⟩ = some (.slice (some ⟨pk, poff, none⟩) xl.length xcap) ∧ w'.cell? ⟨pk, poff + j * 2 + 1, none⟩ = some (.slice yq yl.length ycap)) from fun w' hs => by
         have a0 := hs.rawCell 0; have a4 := hs.rawCell 4; obtain ⟨_, b1⟩ := ptops_cell HK.out hs k hlt _ HX.out; obtain ⟨_, d1⟩ := pparts_cell HXK.out hs j hjt _ HY.out; simp at a0 a4
         exact ⟨a0, a4, b1, d1⟩)
       clear hy hmem hcy HYK0 hbe
       by_cases b0 : be = 0
       · subst b0; have HC3 := Lib.hid (ifs_0 hd); clear hd; go_wp2; have hs := H.out.drew; refine wp_region_held_drew (S := fun w' => w'.cell? ⟨rb, 0, none⟩ = some (.bool false) ∧ w'.cell? ⟨rb, 4, none⟩ = some (.slice (some ⟨bk, off, none⟩) l.length cap) ∧ w'.cell? ⟨bk, off + k * 2 + 1, none⟩ = some (.slice (some ⟨pk, poff, none⟩) xl.length xcap) ∧ w'.cell? ⟨pk, poff + j * 2 + 1, none⟩ = some (.slice yq yl.length ycap)) (by kernel_rfl) (HKP.out _ hs) (fun hHeld => ?_); refine tQ 0 ⟨some 80, .fieldAddr 40 (.tmp 2) 3, 0, _, _, none⟩ ?_; simp only [Act.put, sA, sB, sC]; refine tQ 1 ⟨some 81, .load 38 (.tmp 80), 38, _, _, none⟩ ?_; simp only [Act.put, sA, sB, sC]; refine tQ 2 ⟨some 82, .move (.tmp 6), 3, _, _, none⟩ ?_; simp only [Act.put, sA, sB, sC]; refine tQ 3 ⟨some 83, .indexAddr 38 (.tmp 81) (.tmp 82), 0, _, _, none⟩ ?_; simp only [Act.put, sA, sB, sC]; refine tQ 4 ⟨some 84, .fieldAddr 83 (.tmp 83) 1, 0, _, _, none⟩ ?_; simp only [Act.put, sA, sB, sC]; refine tQ 5 ⟨some 85, .load 81 (.tmp 84), 81, _, _, none⟩ ?_; simp only [Act.put, sA, sB, sC]; refine tQ 6 ⟨some 86, .move (.tmp 7), 3, _, _, none⟩ ?_; simp only [Act.put, sA, sB, sC]; refine tQ 7 ⟨some 87, .indexAddr 81 (.tmp 85) (.tmp 86), 0, _, _, none⟩ ?_; simp only [Act.put, sA, sB, sC]; refine tQ 8 ⟨some 88, .fieldAddr 85 (.tmp 87) 1, 0, _, _, none⟩ ?_; simp only [Act.put, sA, sB, sC]; refine tQ 9 ⟨some 89, .load 66 (.tmp 88), 66, _, _, none⟩ ?_; simp only [Act.put, sA, sB, sC]; refine tQ 10 ⟨some 90, .fieldAddr 40 (.tmp 2) 0, 0, _, _, none⟩ ?_; simp only [Act.put, sA, sB, sC]; refine tQ 11 ⟨some 91, .fieldAddr 23 (.tmp 90) 0, 0, _, _, none⟩ ?_; simp only [Act.put, sA, sB, sC]; refine tQ 12 ⟨some 92, .load 4 (.tmp 91), 4, _, _, none⟩ ?_; simp only [Act.put, sA, sB, sC]; refine tQ 13 ⟨some 93, .unOp UnOp.not 4 (.tmp 92), 4, _, _, none⟩ ?_; simp only [Act.put, sA, sB, sC]; refine tQ 14 ⟨some 94, .move (.tmp 1), 3, _, _, none⟩ ?_; simp only [Act.put, sA, sB, sC]; refine wpAnyH_ready (rs := [15]) (by kernel_rfl) (by simp) (AllReadyH.cons (o := ⟨some 95, .call { callee := .value (.func 36), args := #[.tmp 89, .tmp 93, .tmp 94], argTypes := #[66, 4, 3] }, 3, _, _, none⟩) rfl (fun KK hK => ?_) AllReadyH.nil); go_simp; go_at_call 36; with_reducible refine (batches20 true v yl yq ycap _ HBE.out HYF.out HYN.out HYK.out hs).mono ?_; rintro e wq ⟨rfl, hs⟩; refine hK.out _ _ (HKP.out _ hs) (fun hHeld => ?_); clear hK KK
         exact zq17
       · rw [if_pos b0, if_pos b0] at hd; subst hd; have g1 : (be == 0) = false := by rw [beq_eq_false_iff_ne]; exact b0
         have g2 : (be != 0) = true := by simp [bne, g1]
         have g3 : ¬ be = 0 := b0; clear b0; go_wp2; have hs := H.out.drew; refine wp_region_held_drew (S := fun w' => w'.cell? ⟨rb, 0, none⟩ = some (.bool false) ∧ w'.cell? ⟨rb, 4, none⟩ = some (.slice (some ⟨bk, off, none⟩) l.length cap) ∧ w'.cell? ⟨bk, off + k * 2 + 1, none⟩ = some (.slice (some ⟨pk, poff, none⟩) xl.length xcap) ∧ w'.cell? ⟨pk, poff + j * 2 + 1, none⟩ = some (.slice yq yl.length ycap)) (by kernel_rfl) (HKP.out _ hs) (fun hHeld => ?_); refine tQ 0 ⟨some 80, .fieldAddr 40 (.tmp 2) 3, 0, _, _, none⟩ ?_; simp only [Act.put, sA, sB, sC]; refine tQ 1 ⟨some 81, .load 38 (.tmp 80), 38, _, _, none⟩ ?_; simp only [Act.put, sA, sB, sC]; refine tQ 2 ⟨some 82, .move (.tmp 6), 3, _, _, none⟩ ?_; simp only [Act.put, sA, sB, sC]; refine tQ 3 ⟨some 83, .indexAddr 38 (.tmp 81) (.tmp 82), 0, _, _, none⟩ ?_; simp only [Act.put, sA, sB, sC]; refine tQ 4 ⟨some 84, .fieldAddr 83 (.tmp 83) 1, 0, _, _, none⟩ ?_; simp only [Act.put, sA, sB, sC]; refine tQ 5 ⟨some 85, .load 81 (.tmp 84), 81, _, _, none⟩ ?_; simp only [Act.put, sA, sB, sC]; refine tQ 6 ⟨some 86, .move (.tmp 7), 3, _, _, none⟩ ?_; simp only [Act.put, sA, sB, sC]; refine tQ 7 ⟨some 87, .indexAddr 81 (.tmp 85) (.tmp 86), 0, _, _, none⟩ ?_; simp only [Act.put, sA, sB, sC]; refine tQ 8 ⟨some 88, .fieldAddr 85 (.tmp 87) 1, 0, _, _, none⟩ ?_; simp only [Act.put, sA, sB, sC]; refine tQ 9 ⟨some 89, .load 66 (.tmp 88), 66, _, _, none⟩ ?_; simp only [Act.put, sA, sB, sC]; refine tQ 10 ⟨some 90, .fieldAddr 40 (.tmp 2) 0, 0, _, _, none⟩ ?_; simp only [Act.put, sA, sB, sC]; refine tQ 11 ⟨some 91, .fieldAddr 23 (.tmp 90) 0, 0, _, _, none⟩ ?_; simp only [Act.put, sA, sB, sC]; refine tQ 12 ⟨some 92, .load 4 (.tmp 91), 4, _, _, none⟩ ?_; simp only [Act.put, sA, sB, sC]; refine tQ 13 ⟨some 93, .unOp UnOp.not 4 (.tmp 92), 4, _, _, none⟩ ?_; simp only [Act.put, sA, sB, sC]; refine tQ 14 ⟨some 94, .move (.tmp 1), 3, _, _, none⟩ ?_; simp only [Act.put, sA, sB, sC]; refine wpAnyH_ready (rs := [15]) (by kernel_rfl) (by simp) (AllReadyH.cons (o := ⟨some 95, .call { callee := .value (.func 36), args := #[.tmp 89, .tmp 93, .tmp 94], argTypes := #[66, 4, 3] }, 3, _, _, none⟩) rfl (fun KK hK => ?_) AllReadyH.nil); go_simp; go_at_call 36; with_reducible refine (batches20 true v yl yq ycap _ HBE.out HYF.out HYN.out HYK.out hs).mono ?_; rintro e wq ⟨rfl, hs⟩; refine hK.out _ _ (HKP.out _ hs) (fun hHeld => ?_); clear hK KK
         exact zq21
     · obtain rfl : j = xl.length := by omega
       have hd := HD.out; rw [List.drop_length] at hd; have hd : errPT true v (l.drop (k + 1)) = e := hd; have HC4 := Lib.hid hd; clear hd; go_wp2; go_roundw
       case rel => exact ⟨k + 1, hlt, by go_num, HC4, H.out⟩
       case measure => first | (simp [intOf]; done) | (simp [intOf]; omega)
  · exact zq26

theorem ref20_check (nl : Bool) (dd : Bs) (ac tm v : Int) (l : List PTop) (q : Option Addr) (cap : Nat) (hf : ∀ x ∈ l, CkT2 x) (hfew : RiseFew l) (hll : l.length ≤ 3518437208780) (e : Int) (he : errReq ⟨nl, dd⟩ ac tm v l = e) {W0 w : World} {K : Know} {L : List Res} (hk : K.has (Know.ptops (.slice q l.length cap) l)) (h : St W0 w K L) :
  Calls Tryz.prog 10 #[.agg #[.bool nl, .string (bb dd), .int .i64 ac, .int .i64 tm, .slice q l.length cap], .int .i64 v] w fun en w' => en = .returned (.int .i64 e) ∧ St W0 w' K L := by
 unfold errReq at he
 cases nl with
 | true =>
  by_cases hd : dd = []
  · subst hd; rw [if_neg (by simp [BlobS.right])] at he
    by_cases n1 : ac < -1
    · rw [if_pos (.inl n1)] at he; subst he; exact rck_a1_true ac tm v l q cap hf hfew hll n1 hk h
    by_cases n2 : 1 < ac
    · rw [if_pos (.inr (.inl n2))] at he; subst he; exact rck_a2_true ac tm v l q cap hf hfew hll n1 n2 hk h
    by_cases n3 : tm < 0
    · rw [if_pos (.inr (.inr (.inl n3)))] at he; subst he; exact rck_a3_true ac tm v l q cap hf hfew hll n1 n2 n3 hk h
    by_cases n4 : 2147483647 < tm
    · rw [if_pos (.inr (.inr (.inr n4)))] at he; subst he; exact rck_a4_true ac tm v l q cap hf hfew hll n1 n2 n3 n4 hk h
    rw [if_neg (by omega)] at he
    by_cases ht : errTops l = 0
    · rw [if_neg (by simp [ht])] at he; exact rck_p_true ac tm v l q cap hf hfew hll n1 n2 n3 n4 ht e he hk h
    · rw [if_pos ht] at he; exact rck_t_true ac tm v l q cap hf hfew hll n1 n2 n3 n4 e he (by rw [← he]; exact ht) hk h
  · rw [if_pos (.inl (by unfold BlobS.right; cases dd with | nil => exact absurd rfl hd | cons _ _ => rfl))] at he; subst he; exact rck_r0 dd ac tm v l q cap hf hfew hll hd hk h
 | false =>
  by_cases hd : dd = []
  · subst hd; rw [if_pos (.inr ⟨rfl, rfl⟩)] at he; subst he; exact rck_k0 ac tm v l q cap hf hfew hll hk h
  · have h1 : 1 ≤ dd.length := List.length_pos_iff.2 hd
    by_cases h2 : dd.length ≤ 32767
    · have hkr : keyRight dd = true := by
        unfold keyRight; rw [decide_eq_true h2]
        cases dd with
        | nil => exact absurd rfl hd
        | cons _ _ => rfl
      rw [if_neg (by simp [BlobS.right, hkr])] at he
      by_cases n1 : ac < -1
      · rw [if_pos (.inl n1)] at he; subst he; exact rck_a1_false dd ac tm v l q cap hf hfew hll h1 h2 n1 hk h
      by_cases n2 : 1 < ac
      · rw [if_pos (.inr (.inl n2))] at he; subst he; exact rck_a2_false dd ac tm v l q cap hf hfew hll h1 h2 n1 n2 hk h
      by_cases n3 : tm < 0
      · rw [if_pos (.inr (.inr (.inl n3)))] at he; subst he; exact rck_a3_false dd ac tm v l q cap hf hfew hll h1 h2 n1 n2 n3 hk h
      by_cases n4 : 2147483647 < tm
      · rw [if_pos (.inr (.inr (.inr n4)))] at he; subst he; exact rck_a4_false dd ac tm v l q cap hf hfew hll h1 h2 n1 n2 n3 n4 hk h
      rw [if_neg (by omega)] at he
      by_cases ht : errTops l = 0
      · rw [if_neg (by simp [ht])] at he; exact rck_p_false dd ac tm v l q cap hf hfew hll h1 h2 n1 n2 n3 n4 ht e he hk h
      · rw [if_pos ht] at he; exact rck_t_false dd ac tm v l q cap hf hfew hll h1 h2 n1 n2 n3 n4 e he (by rw [← he]; exact ht) hk h
    · have hkr : keyRight dd = false := by
        unfold keyRight; rw [decide_eq_false h2, Bool.and_false]
      rw [if_pos (.inr ⟨rfl, hkr⟩)] at he; subst he; exact rck_k1 dd ac tm v l q cap hf hfew hll (by omega) hk h
end Go.Proofs.YtnnnglklgofabaaGreat
