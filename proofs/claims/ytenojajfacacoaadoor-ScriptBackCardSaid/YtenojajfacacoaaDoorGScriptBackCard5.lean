/- Batches (pure): small ones. -/
import Derived.Test.YtenojajfacacoaaDoorGScriptBackCard3
import Derived.Test.YtenojajfacacoaaDoorGScriptBackCard4
import Derived.Test.YtenojajfacacoaaDoorGScriptBackCard2
import Derived.Test.YtenojajfacacoaaDoorShl
import Derived.Lib.Join
import Derived.Test.YtenojajfacacoaaDoorRegOp
import Derived.RegionTactic
import Derived.WalkMore
import Derived.Deep.RegionHeld3
import Derived.Deep.DeepCutAuto
import Derived.Test.YtenojajfacacoaaDoorSc1P
import Derived.Test.YtenojajfacacoaaDoorSb1
import Derived.Test.YtenojajfacacoaaDoorSc6
import Derived.Test.YtenojajfacacoaaDoorGScriptBackCard1
/- A line of a script, read. -/
namespace Go.Proofs.YtenojajfacacoaaDoor
open Go.RowKit

theorem rd_line (rd wb : Nat) (s : BSt) (c : Int) (ch : List Int) (w0 : Bs) (r : List Bs) (hx : ∀ y ∈ w0 :: r, y.length ≤ 1000000) (hr : (w0 :: r).length ≤ 1000000) (hb : s.n ≤ 1000000 ∧ s.m ≤ 1000000 ∧ s.p ≤ 1000000) {W0 w : World} {K : Know} {L : List Res} (hlib : K.has Know.lib) (hk : K.has (Know.strs wb 0 (w0 :: r))) (hm : MemS rd s c ch W0 w K L) :
    Calls Tryd.prog 26 #[.pointer (some ⟨rd, 0, none⟩), .slice (some ⟨wb, 0, none⟩) (w0 :: r).length (w0 :: r).length] w fun en w' => ∃ b, en = .returned (.bool b) ∧ Came rd s c ch (rdLine s.n s.m c ch (w0 :: r)) W0 K L b w' := by
  obtain ⟨vB, vR, vH, q, cap, h, hs, hf⟩ := hm
  rcases ch with _ | ⟨j, u⟩
  · have h : St W0 w K (.raw rd #[vB, .int .i64 c, .slice q 0 cap] 65 :: s.rows vB vR vH L) := h
    have hl0 : rdLine s.n s.m c [] (w0 :: r) = if w0 = [99, 104, 117, 110, 107, 115] then (rdChunks r).map .chunks
      else if c ≠ -1 then none
      else if w0 = [99, 117, 116] then (rdCut r).map .cut
      else if w0 = [98, 97, 116, 99, 104] then (rdBat r).map .bat
      else if w0 = [114, 101, 99, 111, 114, 100] then (if s.n = 0 then none else (rdRec r).map .recd)
      else if w0 = [104, 101, 97, 100, 101, 114] then (if s.n = 0 ∨ s.m = 0 then none else (rdHdr r).map .hdr)
      else none := rfl
    by_cases h1 : w0 = [99, 104, 117, 110, 107, 115]
    · have hl := hl0.trans (if_pos h1)
      clear hl0
      subst h1
      rcases r with _ | ⟨a, t⟩
      · refine (disp_chunks0 (Came rd s c [] (((rdChunks []).map .chunks)) W0 K L) rd wb cap q vB c [] hk h ?_).mono ?_
        · intro w2 h2
          
          exact k_chunks rd wb 0 cap s c q vB vR vH [] (fun y hy => by cases hy) (Nat.zero_le _) hb hlib hs (strs_take hk 0) h2
        · rintro en w' ⟨b, rfl, h2⟩
          exact ⟨b, rfl, by rw [hl]; exact h2⟩
      · refine (disp_chunks (Came rd s c [] (((rdChunks (a :: t)).map .chunks)) W0 K L) rd wb t.length cap q vB c (a :: t) (by simp at hr; omega) hk h ?_).mono ?_
        · intro w2 h2
          
          exact k_chunks rd wb 1 cap s c q vB vR vH (a :: t) (fun y hy => hx y (List.mem_cons_of_mem _ hy)) (by simp at hr ⊢; omega) hb hlib hs (strs_drop hk 1) h2
        · rintro en w' ⟨b, rfl, h2⟩
          exact ⟨b, rfl, by rw [hl]; exact h2⟩
    rw [if_neg h1] at hl0
    by_cases hc : c = -1
    · rw [if_neg (fun h => h hc)] at hl0
      by_cases h2 : w0 = [99, 117, 116]
      · have hl := hl0.trans (if_pos h2)
        clear hl0
        subst h2
        rcases r with _ | ⟨a, t⟩
        · refine (disp_cut0 (Came rd s c [] (((rdCut []).map .cut)) W0 K L) rd wb cap q vB c [] hc hk h ?_).mono ?_
          · intro w2 h2
            subst hc
            exact k_cut rd wb 0 cap s q vB vR vH [] (fun y hy => by cases hy) (Nat.zero_le _) hb hlib hs (strs_take hk 0) h2
          · rintro en w' ⟨b, rfl, h2⟩
            exact ⟨b, rfl, by rw [hl]; exact h2⟩
        · refine (disp_cut (Came rd s c [] (((rdCut (a :: t)).map .cut)) W0 K L) rd wb t.length cap q vB c (a :: t) hc (by simp at hr; omega) hk h ?_).mono ?_
          · intro w2 h2
            subst hc
            exact k_cut rd wb 1 cap s q vB vR vH (a :: t) (fun y hy => hx y (List.mem_cons_of_mem _ hy)) (by simp at hr ⊢; omega) hb hlib hs (strs_drop hk 1) h2
          · rintro en w' ⟨b, rfl, h2⟩
            exact ⟨b, rfl, by rw [hl]; exact h2⟩
      rw [if_neg h2] at hl0
      by_cases h3 : w0 = [98, 97, 116, 99, 104]
      · have hl := hl0.trans (if_pos h3)
        clear hl0
        subst h3
        rcases r with _ | ⟨a, t⟩
        · refine (disp_batch0 (Came rd s c [] (((rdBat []).map .bat)) W0 K L) rd wb cap q vB c [] hc hk h ?_).mono ?_
          · intro w2 h2
            subst hc
            exact k_bat rd wb 0 cap s q vB vR vH [] (fun y hy => by cases hy) (Nat.zero_le _) hb hlib hs (strs_take hk 0) h2
          · rintro en w' ⟨b, rfl, h2⟩
            exact ⟨b, rfl, by rw [hl]; exact h2⟩
        · refine (disp_batch (Came rd s c [] (((rdBat (a :: t)).map .bat)) W0 K L) rd wb t.length cap q vB c (a :: t) hc (by simp at hr; omega) hk h ?_).mono ?_
          · intro w2 h2
            subst hc
            exact k_bat rd wb 1 cap s q vB vR vH (a :: t) (fun y hy => hx y (List.mem_cons_of_mem _ hy)) (by simp at hr ⊢; omega) hb hlib hs (strs_drop hk 1) h2
          · rintro en w' ⟨b, rfl, h2⟩
            exact ⟨b, rfl, by rw [hl]; exact h2⟩
      rw [if_neg h3] at hl0
      by_cases h4 : w0 = [114, 101, 99, 111, 114, 100]
      · have hl := hl0.trans (if_pos h4)
        clear hl0
        subst h4
        rcases r with _ | ⟨a, t⟩
        · refine (disp_record0 (Came rd s c [] ((if s.n = 0 then none else (rdRec []).map .recd)) W0 K L) rd wb cap q vB c [] hc hk h ?_).mono ?_
          · intro w2 h2
            subst hc
            exact k_rec rd wb 0 cap s q vB vR vH [] (fun y hy => by cases hy) (Nat.zero_le _) hb hlib hs (strs_take hk 0) h2
          · rintro en w' ⟨b, rfl, h2⟩
            exact ⟨b, rfl, by rw [hl]; exact h2⟩
        · refine (disp_record (Came rd s c [] ((if s.n = 0 then none else (rdRec (a :: t)).map .recd)) W0 K L) rd wb t.length cap q vB c (a :: t) hc (by simp at hr; omega) hk h ?_).mono ?_
          · intro w2 h2
            subst hc
            exact k_rec rd wb 1 cap s q vB vR vH (a :: t) (fun y hy => hx y (List.mem_cons_of_mem _ hy)) (by simp at hr ⊢; omega) hb hlib hs (strs_drop hk 1) h2
          · rintro en w' ⟨b, rfl, h2⟩
            exact ⟨b, rfl, by rw [hl]; exact h2⟩
      rw [if_neg h4] at hl0
      by_cases h5 : w0 = [104, 101, 97, 100, 101, 114]
      · have hl := hl0.trans (if_pos h5)
        clear hl0
        subst h5
        rcases r with _ | ⟨a, t⟩
        · refine (disp_header0 (Came rd s c [] ((if s.n = 0 ∨ s.m = 0 then none else (rdHdr []).map .hdr)) W0 K L) rd wb cap q vB c [] hc hk h ?_).mono ?_
          · intro w2 h2
            subst hc
            exact k_hdr rd wb 0 cap s q vB vR vH [] (fun y hy => by cases hy) (Nat.zero_le _) hb hlib hs (strs_take hk 0) h2
          · rintro en w' ⟨b, rfl, h2⟩
            exact ⟨b, rfl, by rw [hl]; exact h2⟩
        · refine (disp_header (Came rd s c [] ((if s.n = 0 ∨ s.m = 0 then none else (rdHdr (a :: t)).map .hdr)) W0 K L) rd wb t.length cap q vB c (a :: t) hc (by simp at hr; omega) hk h ?_).mono ?_
          · intro w2 h2
            subst hc
            exact k_hdr rd wb 1 cap s q vB vR vH (a :: t) (fun y hy => hx y (List.mem_cons_of_mem _ hy)) (by simp at hr ⊢; omega) hb hlib hs (strs_drop hk 1) h2
          · rintro en w' ⟨b, rfl, h2⟩
            exact ⟨b, rfl, by rw [hl]; exact h2⟩
      have hl := hl0.trans (if_neg h5)
      rcases r with _ | ⟨a, t⟩
      · refine (ref_word0 rd wb cap q vB c w0 [] hc h1 h2 h3 h4 h5 hk h).mono ?_
        rintro en w' ⟨rfl, h⟩
        exact ⟨_, rfl, .no hl (rows_drop h)⟩
      · refine (ref_word rd wb t.length cap q vB c w0 (a :: t) hc h1 h2 h3 h4 h5 (by simp at hr; omega) hk h).mono ?_
        rintro en w' ⟨rfl, h⟩
        exact ⟨_, rfl, .no hl (rows_drop h)⟩
    · have hl := hl0.trans (if_pos hc)
      rcases r with _ | ⟨a, t⟩
      · refine (ref_cut0 rd wb cap q vB c w0 [] hc h1 hk h).mono ?_
        rintro en w' ⟨rfl, h⟩
        exact ⟨_, rfl, .no hl (rows_drop h)⟩
      · refine (ref_cut rd wb t.length cap q vB c w0 (a :: t) hc h1 (by simp at hr; omega) hk h).mono ?_
        rintro en w' ⟨rfl, h⟩
        exact ⟨_, rfl, .no hl (rows_drop h)⟩
  · have hl : rdLine s.n s.m c (j :: u) (w0 :: r) = none := by simp [rdLine]
    rcases r with _ | ⟨a, t⟩
    · refine (ref_chunks0 rd wb cap q vB c w0 [] u.length hk h).mono ?_
      rintro en w' ⟨rfl, h⟩
      exact ⟨_, rfl, .no hl (rows_drop h)⟩
    · refine (ref_chunks rd wb t.length cap q vB c w0 (a :: t) u.length (by simp at hr; omega) hk h).mono ?_
      rintro en w' ⟨rfl, h⟩
      exact ⟨_, rfl, .no hl (rows_drop h)⟩

end Go.Proofs.YtenojajfacacoaaDoor
/- Texts, line by line (pure). -/
namespace Go.Proofs.YtenojajfacacoaaDoor
open Go.RowKit

theorem rd_line_no (rd wb nw : Nat) (s : BSt) (c : Int) (ch : List Int) (w0 : Bs) (r : List Bs) (hnw : nw = (w0 :: r).length) (hx : ∀ y ∈ w0 :: r, y.length ≤ 1000000) (hr : (w0 :: r).length ≤ 1000000) (hb : s.n ≤ 1000000 ∧ s.m ≤ 1000000 ∧ s.p ≤ 1000000) (hno : rdLine s.n s.m c ch (w0 :: r) = none) {W0 w : World} {K : Know} {L : List Res} (hlib : K.has Know.lib) (hk : K.has (Know.strs wb 0 (w0 :: r))) (hm : MemS rd s c ch W0 w K L) :
    Calls Tryd.prog 26 #[.pointer (some ⟨rd, 0, none⟩), .slice (some ⟨wb, 0, none⟩) nw nw] w fun en w' => ∃ K', en = .returned (.bool false) ∧ K'.has K ∧ St W0 w' K' L := by
  subst hnw
  refine (rd_line rd wb s c ch w0 r hx hr hb hlib hk hm).mono ?_
  rintro en w' ⟨b, rfl, K', hk', h⟩
  rw [hno] at h
  obtain ⟨rfl, h⟩ := h
  exact ⟨K', rfl, hk', h⟩
theorem rd_line_yes (rd wb nw : Nat) (s : BSt) (c : Int) (ch : List Int) (w0 : Bs) (r : List Bs) (k : Said) (hnw : nw = (w0 :: r).length) (hx : ∀ y ∈ w0 :: r, y.length ≤ 1000000) (hr : (w0 :: r).length ≤ 1000000) (hb : s.n ≤ 1000000 ∧ s.m ≤ 1000000 ∧ s.p ≤ 1000000) (hyes : rdLine s.n s.m c ch (w0 :: r) = some k) {W0 w : World} {K : Know} {L : List Res} (hlib : K.has Know.lib) (hk : K.has (Know.strs wb 0 (w0 :: r))) (hm : MemS rd s c ch W0 w K L) :
    Calls Tryd.prog 26 #[.pointer (some ⟨rd, 0, none⟩), .slice (some ⟨wb, 0, none⟩) nw nw] w fun en w' => ∃ K' vR vH, en = .returned (.bool true) ∧ K'.has K ∧ MemS rd (s.put vR vH k) (cutOf c k) (chOf ch k) W0 w' K' L := by
  subst hnw
  refine (rd_line rd wb s c ch w0 r hx hr hb hlib hk hm).mono ?_
  rintro en w' ⟨b, rfl, K', hk', h⟩
  rw [hyes] at h
  obtain ⟨rfl, vR, vH, h⟩ := h
  exact ⟨K', vR, vH, rfl, hk', h⟩
theorem parseL_no (n m : Nat) (c : Int) (ch : List Int) (ln : Nat) (l : Bs) (q : Bs) (r : List Bs) (h : rdLine n m c ch (partsC 32 l) = none) : parseL n m c ch ln (l :: q :: r) = ln := by
  show (match rdLine n m c ch (partsC 32 l) with | none => ln | some k => parseL (nOf n k) (mOf m k) (cutOf c k) (chOf ch k) (ln + 1) (q :: r)) = ln
  rw [h]
theorem parseL_yes (n m : Nat) (c : Int) (ch : List Int) (ln : Nat) (l : Bs) (q : Bs) (r : List Bs) (k : Said) (h : rdLine n m c ch (partsC 32 l) = some k) : parseL n m c ch ln (l :: q :: r) = parseL (nOf n k) (mOf m k) (cutOf c k) (chOf ch k) (ln + 1) (q :: r) := by
  show (match rdLine n m c ch (partsC 32 l) with | none => ln | some k => parseL (nOf n k) (mOf m k) (cutOf c k) (chOf ch k) (ln + 1) (q :: r)) = _
  rw [h]
/-- Up to where a text was read. -/
structure Upto (text t : Bs) (s : BSt) (c : Int) (ch : List Int) (ln : Nat) : Prop where
  txt : txtS s c ch ++ t = text
  cut : -1 ≤ c
  cutR : Rn c
  chR : ∀ v ∈ ch, Rn v
  fine : s.fine
  n : s.n ≤ ln
  m : s.m ≤ ln
  p : s.p ≤ ln
  one : 1 ≤ ln
  len : ln + t.length ≤ text.length + 1
  rest : parseL s.n s.m c ch ln (partsC 10 t) = parseL 0 0 (-1) [] 1 (partsC 10 text)
theorem Upto.next {text t : Bs} {s : BSt} {c : Int} {ch : List Int} {ln i : Nat} {k : Said} (u : Upto text t s c ch ln) (hi : i < t.length) (hp : partsC 10 t = t.take i :: partsC 10 (t.drop (i + 1))) (hl : rdLine s.n s.m c ch (partsC 32 (t.take i)) = some k) (ht : t = t.take i ++ 10 :: t.drop (i + 1)) (vR vH : Value) : Upto text (t.drop (i + 1)) (s.put vR vH k) (cutOf c k) (chOf ch k) (ln + 1) := by
  obtain ⟨h1, h2, h3, h4, h5, h6, h7, h8⟩ := line_one s c ch (t.take i) k vR vH u.cut u.cutR u.chR u.fine hl
  have h9 : nOf s.n k ≤ s.n + 1 := by cases k <;> simp [nOf]
  have h10 : mOf s.m k ≤ s.m + 1 := by cases k <;> simp [mOf]
  have := u.n; have := u.m; have := u.p; have := u.len
  refine ⟨?_, h5, h6, h7, h8, by omega, by omega, by omega, by omega, by simp; omega, ?_⟩
  · rw [h1, ← u.txt]
    conv => rhs; rw [ht]
    simp
  · rw [← u.rest, hp, h2, h3]
    obtain ⟨q, r, e⟩ := partsC_ne 10 (t.drop (i + 1))
    rw [e, parseL_yes _ _ _ _ _ _ _ _ k hl]
theorem parts_cut {c : UInt8} {t : Bs} {i : Nat} (h : i < t.length) (hp : partsC c t = t.take i :: partsC c (t.drop (i + 1))) : t = t.take i ++ c :: t.drop (i + 1) := by
  have h1 := join_parts c t
  obtain ⟨q, r, e⟩ := partsC_ne c (t.drop (i + 1))
  rw [hp, e, joinC_cons, ← e, join_parts] at h1
  exact h1.symm

end Go.Proofs.YtenojajfacacoaaDoor
/- Lines (pure). -/
namespace Go.Proofs.YtenojajfacacoaaDoor
open Go.RowKit

theorem sl_join (ws : List Bs) (t : Bs) (wb n cap : Nat) (hn : n = ws.length) (hnc : n ≤ cap) (hl : ws.length ≤ 1000000) (ht : Lib.join ws [10] = t) (htl : t.length ≤ 1000000) {W0 w : World} {K : Know} {L : List Res} (hk : K.has (Know.strs wb 0 ws)) (h : St W0 w K L) :
    Calls Tryd.prog 14 #[.slice (some ⟨wb, 0, none⟩) n cap, .string ⟨#[10]⟩] w fun e w' => e = .returned (.string (bb t)) ∧ St W0 w' K L := by
  subst hn
  obtain ⟨F, hF, _⟩ := h.get
  obtain ⟨_, h2, h3⟩ := hk _ _ hF
  have e1 : (ws.map bb).map (fun x => x.data.toList) = ws := by
    rw [List.map_map]
    conv => rhs; rw [← List.map_id ws]
    refine List.map_congr_left fun x _ => ?_
    simp
  have e2 : (⟨#[10]⟩ : ByteArray).data.toList = [10] := rfl
  have h4 := Tryd.strings_Join wb 0 cap (ws.map bb) ⟨#[10]⟩ w (fun j x hx => by
    rw [List.getElem?_map] at hx
    cases hj : ws[j]? with
    | none => rw [hj] at hx; cases hx
    | some y => rw [hj] at hx; injection hx with hx; subst hx; exact h3 j y hj) h2 (by simp; omega) (by simpa using hnc) (by rw [e1, e2, ht]; omega)
  rw [e1, e2, ht, List.length_map] at h4
  exact h4.mono (by rintro e w' ⟨rfl, hb⟩; exact ⟨rfl, h.below' hb⟩)
theorem sl_splitNL (s : Bs) (ws : List Bs) (n : Nat) (hn : ws.length = n) (hw : partsC 10 s = ws) (hs : s.length ≤ 1000000) {W0 w : World} {K : Know} {L : List Res} (hk : K.has Know.lib) (h : St W0 w K L) :
    Calls Tryd.prog 13 #[.string (bb s), .string ⟨#[10]⟩] w fun e w' => ∃ b, e = .returned (.slice (some ⟨b, 0, none⟩) n n) ∧ St W0 w' K (.raw b (ws.map fun x => Value.string (bb x)).toArray 9 :: L) := by
  subst hn hw
  obtain ⟨m, hm⟩ := lib_max hk h
  have h1 := Tryd.strings_Split (bb s) (bb [10]) m w (by have hz : (bb s).size = s.length := (by simp); omega) hm (by decide)
  have e0 := splitB_parts 10 s
  have e1 : Lib.countB (bb s) (bb [10]) + 1 = (partsC 10 s).length := by
    have h2 := Lib.splitB_all (bb [10]) (by decide) 0 _ (bb s) rfl
    rw [e0, List.length_map] at h2
    omega
  have e2 : (Lib.splitB (bb [10]) 0 (Lib.countB (bb s) (bb [10])) (bb s)).map Value.string = (partsC 10 s).map fun x => Value.string (bb x) := by
    rw [e0, List.map_map]
    rfl
  rw [e1, e2] at h1
  exact h1.mono (by rintro e w' ⟨rfl, rfl⟩; exact ⟨_, rfl, h.allocRaw _ _⟩)
theorem parts_free (c : UInt8) : ∀ s : Bs, ∀ y ∈ partsC c s, c ∉ y
  | [] => fun y hy => by rw [List.mem_singleton.1 hy]; exact List.not_mem_nil
  | x :: t => by
    have ih := parts_free c t
    obtain ⟨h, r, e⟩ := partsC_ne c t
    by_cases hx : x = c
    · rw [partsC_hit c x t hx]
      intro y hy
      rcases List.mem_cons.1 hy with rfl | hy
      · exact List.not_mem_nil
      · exact ih y hy
    · rw [partsC_miss c x t h r hx e]
      rw [e] at ih
      intro y hy
      rcases List.mem_cons.1 hy with rfl | hy
      · intro hc
        rcases List.mem_cons.1 hc with hc | hc
        · exact hx hc.symm
        · exact ih h (by simp) hc
      · exact ih y (by simp [hy])
theorem parts_app (c : UInt8) (t : Bs) : ∀ l : Bs, c ∉ l → partsC c (l ++ c :: t) = l :: partsC c t
  | [], _ => partsC_hit c c t rfl
  | x :: l, h => by
    have hx : ¬ x = c := fun e => h (by simp [e])
    exact partsC_miss c x _ l _ hx (parts_app c t l (fun hc => h (List.mem_cons_of_mem _ hc)))
/-- Lines, each with its end. -/
def linesT (ls : List Bs) : Bs := ls.flatMap fun l => l ++ [10]
theorem parts_lines : ∀ ls : List Bs, (∀ l ∈ ls, (10 : UInt8) ∉ l) → partsC 10 (linesT ls) = ls ++ [[]]
  | [], _ => rfl
  | l :: r, h => by
    have e : linesT (l :: r) = l ++ 10 :: linesT r := by unfold linesT; rw [List.flatMap_cons, List.append_assoc]; rfl
    rw [e, parts_app 10 _ l (h l (by simp)), parts_lines r (fun x hx => h x (by simp [hx]))]
    rfl
theorem join_lines : ∀ ls : List Bs, ls ≠ [] → Lib.join ls [10] ++ [10] = linesT ls
  | [], h => absurd rfl h
  | [l], _ => by rw [Lib.join_one]; simp [linesT]
  | l :: q :: r, _ => by
    have ih := join_lines (q :: r) (by simp)
    rw [Lib.join_cons] at ih ⊢
    have e : linesT (l :: q :: r) = l ++ ([10] ++ linesT (q :: r)) := by unfold linesT; rw [List.flatMap_cons, List.append_assoc]
    rw [e, ← ih]
    simp [Lib.joinTail]
theorem linesT_len : ∀ (ls : List Bs) (j : Nat), (linesT (ls.take j)).length ≤ (joinC 10 ls).length + 1
  | [], j => by simp [linesT]
  | [l], 0 => by simp [linesT]
  | [l], j + 1 => by simp [linesT, joinC]
  | l :: q :: r, 0 => by simp [linesT]
  | l :: q :: r, j + 1 => by
    have ih := linesT_len (q :: r) j
    have e : linesT ((l :: q :: r).take (j + 1)) = l ++ ([10] ++ linesT ((q :: r).take j)) := by unfold linesT; rw [List.take_succ_cons, List.flatMap_cons, List.append_assoc]
    rw [e, joinC_cons]
    simp only [List.length_append, List.length_cons, List.length_nil]
    omega
theorem parseL_yes' (n m : Nat) (c : Int) (ch : List Int) (ln : Nat) (l : Bs) (X : List Bs) (hX : X ≠ []) (k : Said) (h : rdLine n m c ch (partsC 32 l) = some k) : parseL n m c ch ln (l :: X) = parseL (nOf n k) (mOf m k) (cutOf c k) (chOf ch k) (ln + 1) X := by
  cases X with
  | nil => exact absurd rfl hX
  | cons q r => exact parseL_yes _ _ _ _ _ _ _ _ k h
/-- The lines ahead of one that ends a script are a script, and it isn't one more. -/
theorem parseL_ends : ∀ (ls : List Bs) (n m : Nat) (c : Int) (ch : List Int) (ln : Nat), 0 < ln → parseL n m c ch ln ls ≠ 0 → ∃ j, parseL n m c ch ln ls = ln + j ∧ ∃ hj : j < ls.length, parseL n m c ch ln (ls.take j ++ [[]]) = 0 ∧ (j + 1 = ls.length ∨ parseL n m c ch ln (ls.take j ++ [ls[j], []]) = ln + j)
  | [], n, m, c, ch, ln, h0, h => absurd rfl h
  | [l], n, m, c, ch, ln, h0, h => by
    by_cases hl : l = []
    · exact absurd (if_pos hl) h
    · exact ⟨0, if_neg hl, by simp, rfl, .inl rfl⟩
  | l :: q :: r, n, m, c, ch, ln, h0, h => by
    cases hr : rdLine n m c ch (partsC 32 l) with
    | none => exact ⟨0, parseL_no _ _ _ _ _ _ _ _ hr, by simp, rfl, .inr (parseL_no _ _ _ _ _ _ _ _ hr)⟩
    | some k =>
      have e := parseL_yes n m c ch ln l q r k hr
      rw [e] at h ⊢
      obtain ⟨j, h1, hj, h2, h3⟩ := parseL_ends (q :: r) _ _ _ _ (ln + 1) (Nat.succ_pos _) h
      refine ⟨j + 1, by rw [h1]; omega, by simp at hj ⊢; omega, ?_, ?_⟩
      · have e2 : (l :: q :: r).take (j + 1) ++ [[]] = l :: ((q :: r).take j ++ [[]]) := rfl
        rw [e2, parseL_yes' _ _ _ _ _ _ _ (by simp) k hr]
        exact h2
      · rcases h3 with h3 | h3
        · left; simp at h3 ⊢; omega
        · right
          have e2 : (l :: q :: r).take (j + 1) ++ [(l :: q :: r)[j + 1]'(by simp at hj ⊢; omega), []] = l :: ((q :: r).take j ++ [(q :: r)[j], []]) := rfl
          rw [e2, parseL_yes' _ _ _ _ _ _ _ (by simp) k hr, h3]
          omega

end Go.Proofs.YtenojajfacacoaaDoor
/- Lines, there and back (pure). -/
namespace Go.Proofs.YtenojajfacacoaaDoor
open Go.RowKit

/-- Neither a blank nor a line's end. -/
def plainW (s : Bs) : Prop := (32 : UInt8) ∉ s ∧ (10 : UInt8) ∉ s
theorem plain_cons {x : UInt8} {s : Bs} (h1 : x ≠ 32) (h2 : x ≠ 10) (h : plainW s) : plainW (x :: s) :=
  ⟨fun hc => by rcases List.mem_cons.1 hc with hc | hc; exact h1 hc.symm; exact h.1 hc, fun hc => by rcases List.mem_cons.1 hc with hc | hc; exact h2 hc.symm; exact h.2 hc⟩
theorem plain_app {s t : Bs} (h : plainW s) (k : plainW t) : plainW (s ++ t) :=
  ⟨fun hc => by rcases List.mem_append.1 hc with hc | hc; exact h.1 hc; exact k.1 hc, fun hc => by rcases List.mem_append.1 hc with hc | hc; exact h.2 hc; exact k.2 hc⟩
theorem plain_nil : plainW [] := ⟨List.not_mem_nil, List.not_mem_nil⟩
theorem digit_ne (d : Nat) (h : d < 10) : UInt8.ofNat (48 + d) ≠ 32 ∧ UInt8.ofNat (48 + d) ≠ 10 := by
  have e := digit_nat d h
  constructor <;> (intro hc; rw [hc] at e; simp at e; omega)
theorem plain_dec (u : Nat) : plainW (Lib.decDigits u) := by
  induction u using Nat.strongRecOn with
  | _ u ih =>
    by_cases hs : u < 10
    · rw [dec_small hs]; exact plain_cons (digit_ne u hs).1 (digit_ne u hs).2 plain_nil
    · rw [dec_big hs]
      exact plain_app (ih (u / 10) (by omega)) (plain_cons (digit_ne _ (by omega)).1 (digit_ne _ (by omega)).2 plain_nil)
theorem plain_num (n : Int) : plainW (numW n) := by
  unfold numW
  by_cases h0 : n < 0
  · obtain ⟨u, rfl⟩ : ∃ u : Nat, n = -(u : Int) := ⟨n.natAbs, by omega⟩
    rw [Lib.itoa_neg u (by omega)]
    exact plain_cons (by decide) (by decide) (plain_dec u)
  · obtain ⟨u, rfl⟩ : ∃ u : Nat, n = (u : Int) := ⟨n.natAbs, by omega⟩
    rw [Lib.itoa_nonneg]
    exact plain_dec u
theorem parts_plain : ∀ w : Bs, (32 : UInt8) ∉ w → partsC 32 w = [w]
  | [], _ => rfl
  | x :: t, h => by
    have hx : ¬ x = 32 := fun e => h (by simp [e])
    rcases t with _ | ⟨y, t⟩
    · exact partsC_miss 32 x [] [] [] hx rfl
    · exact partsC_miss 32 x _ _ _ hx (parts_plain (y :: t) (fun hc => h (List.mem_cons_of_mem _ hc)))
/-- The words of a line that was written. -/
theorem parts_words : ∀ (w : Bs) (ws : List Bs), (32 : UInt8) ∉ w → (∀ x ∈ ws, (32 : UInt8) ∉ x) → partsC 32 (w ++ ws.flatMap fun x => 32 :: x) = w :: ws
  | w, [], h, _ => by rw [List.flatMap_nil, List.append_nil]; exact parts_plain w h
  | w, x :: t, h, hs => by
    rw [List.flatMap_cons]
    show partsC 32 (w ++ 32 :: (x ++ t.flatMap fun x => 32 :: x)) = _
    rw [parts_app 32 _ w h, parts_words x t (hs x (by simp)) (fun y hy => hs y (by simp [hy]))]
theorem rdBat_back (b : BatS) (hb : batR b) (h0 : b.recs = []) : rdBat ((batN b).map numW ++ [letW b.app b.txn b.ctl]) = some b := by
  rw [rdBat_app _ _ (by simp [batN]), numsRd_back (batN b) hb]
  obtain ⟨h1, h2, h3, h4⟩ := letOk_back b.app b.txn b.ctl
  unfold batN
  simp only
  rw [if_pos h4, h1, h2, h3]
  obtain ⟨_, _, _, _, _, _, _, _, _, _, _, _⟩ := b
  simp only at h0
  subst h0
  rfl
theorem hexV_back (s : Bs) : hexV (hexW s) = (s, true) := by unfold hexV; rw [hexRd_back]
theorem hexW_none (s : Bs) : hexW s ≠ [110, 111, 110, 101] := by
  intro h
  have h1 := hexRd_back s
  rw [h] at h1
  have h2 : hexRd [110, 111, 110, 101] = none := by decide +kernel
  rw [h2] at h1
  cases h1
theorem blobV_back (b : BlobS) (ho : oddB b = false) : blobV (blobT b) = (b.null, b.data, true) := by
  unfold blobT
  by_cases hn : b.null = true
  · rw [if_pos hn, hn]
    unfold oddB at ho
    rw [hn] at ho
    have hd : b.data = [] := by simpa using ho
    rw [hd]
    rfl
  · rw [if_neg hn]
    unfold blobV
    rw [if_neg (hexW_none _), hexV_back]
    rw [Bool.not_eq_true] at hn
    rw [hn]
theorem rdRec_back (r : RecS) (h : recFine r) (h0 : r.hdrs = []) : rdRec [numW r.time, numW r.off, blobT r.key, blobT r.val] = some r := by
  have h1 := numsRd_back [r.time, r.off] (fun n hn => by
    simp only [List.mem_cons, List.not_mem_nil, or_false] at hn
    rcases hn with rfl | rfl
    · exact h.2.2.2.1
    · exact h.2.2.2.2)
  have h2 := blobV_back r.key h.1
  have h3 := blobV_back r.val h.2.1
  show (match numsRd [numW r.time, numW r.off] with | some [t, o] => if (blobV (blobT r.key)).2.2 && (blobV (blobT r.val)).2.2 then some (⟨t, o, ⟨(blobV (blobT r.key)).1, (blobV (blobT r.key)).2.1⟩, ⟨(blobV (blobT r.val)).1, (blobV (blobT r.val)).2.1⟩, []⟩ : RecS) else none | _ => none) = _
  rw [show numsRd [numW r.time, numW r.off] = some [r.time, r.off] from h1, h2, h3]
  obtain ⟨_, _, ⟨_, _⟩, ⟨_, _⟩, _⟩ := r
  simp only at h0
  subst h0
  rfl
theorem rdHdr_back (z : HdrS) (h : oddB z.val = false) : rdHdr [hexW z.key, blobT z.val] = some z := by
  have h2 := blobV_back z.val h
  show (if (hexV (hexW z.key)).2 && (blobV (blobT z.val)).2.2 then some (⟨(hexV (hexW z.key)).1, ⟨(blobV (blobT z.val)).1, (blobV (blobT z.val)).2.1⟩⟩ : HdrS) else none) = _
  rw [hexV_back, h2]
  obtain ⟨_, ⟨_, _⟩⟩ := z
  rfl
theorem rdCut_back (c : Int) (h : 0 ≤ c) (hr : Rn c) : rdCut [numW c] = some c := by
  unfold rdCut
  simp only
  rw [numRd_back c hr]
  simp only
  exact if_neg (by omega)
theorem rdChunks_back (l : List Int) (h0 : l ≠ []) (hr : ∀ v ∈ l, Rn v) : rdChunks (l.map numW) = some l := by
  unfold rdChunks
  rw [if_neg (by simpa using h0)]
  exact numsRd_back l hr
theorem plain_hexD : ∀ n, n < 16 → hexD n ≠ 32 ∧ hexD n ≠ 10 := by decide
theorem plain_hexL : ∀ s : Bs, plainW (hexL s)
  | [] => plain_nil
  | x :: t => by
    have h1 := plain_hexD (x.toNat / 16) (by have := x.toNat_lt; omega)
    have h2 := plain_hexD (x.toNat % 16) (by omega)
    exact plain_cons h1.1 h1.2 (plain_cons h2.1 h2.2 (plain_hexL t))
theorem plain_hexW (s : Bs) : plainW (hexW s) := by
  unfold hexW
  split
  · exact plain_cons (by decide) (by decide) plain_nil
  · exact plain_hexL s
theorem plain_blob (b : BlobS) : plainW (blobT b) := by
  unfold blobT
  split
  · exact ⟨by decide, by decide⟩
  · exact plain_hexW _
theorem plain_let : ∀ a t c : Bool, plainW (letW a t c) := by
  intro a t c
  cases a <;> cases t <;> cases c <;> exact ⟨by decide, by decide⟩

end Go.Proofs.YtenojajfacacoaaDoor
/- What lines are read as (pure). -/
namespace Go.Proofs.YtenojajfacacoaaDoor
open Go.RowKit

/-- The last one, changed. -/
def modL {α : Type} (f : α → α) : List α → List α
  | [] => []
  | [x] => [f x]
  | x :: y :: t => x :: modL f (y :: t)
theorem modL_snoc {α : Type} (f : α → α) : ∀ (l : List α) (x : α), modL f (l ++ [x]) = l ++ [f x]
  | [], _ => rfl
  | [_], _ => rfl
  | a :: b :: t, x => by
    show a :: modL f (b :: (t ++ [x])) = _
    rw [show b :: (t ++ [x]) = (b :: t) ++ [x] from rfl, modL_snoc f (b :: t) x]
    rfl
def BatS.with (b : BatS) (l : List RecS) : BatS := ⟨b.base, b.leader, b.app, b.txn, b.ctl, b.last, b.first, b.maxt, b.prod, b.epoch, b.seq, l⟩
def BtR.val (x : BtR) : BatS := x.b.with (x.l.map (·.1))
/-- What was read, without where it lies. -/
def BSt.vals : BSt → List BatS
  | .zero => []
  | .bat d b => d.map BtR.val ++ [b.with []]
  | .recd d b l r => d.map BtR.val ++ [b.with (l.map (·.1) ++ [r])]
def recWith (r : RecS) (h : HdrS) : RecS := ⟨r.time, r.off, r.key, r.val, r.hdrs ++ [h]⟩
def appV (vs : List BatS) : Said → List BatS
  | .bat b => vs ++ [b.with []]
  | .recd r => modL (fun b => b.with (b.recs ++ [r])) vs
  | .hdr h => modL (fun b => b.with (modL (fun r => recWith r h) b.recs)) vs
  | _ => vs
theorem close_vals (s : BSt) (vR vH : Value) : (s.close vR vH).map BtR.val = s.vals := by
  cases s with
  | zero => rfl
  | bat d b => show (d ++ [_]).map BtR.val = _; rw [List.map_append]; rfl
  | recd d b l r => show (d ++ [_]).map BtR.val = _; rw [List.map_append]; simp [BSt.vals, BtR.val]
theorem put_vals (s : BSt) (vR vH : Value) (c : Int) (ch : List Int) (ws : List Bs) (k : Said) (h : rdLine s.n s.m c ch ws = some k) : (s.put vR vH k).vals = appV s.vals k := by
  cases k with
  | chunks l => rfl
  | cut n => rfl
  | bat b => show (s.close vR vH).map BtR.val ++ [b.with []] = _; rw [close_vals]; rfl
  | recd r =>
    cases s with
    | zero =>
      exfalso
      cases ws with
      | nil => cases h
      | cons w t =>
        rw [rdLine_cons] at h
        simp only [BSt.n] at h
        repeat' first | (simp at h; done) | split at h
    | bat d b => show d.map BtR.val ++ [b.with ([] ++ [r])] = modL _ (d.map BtR.val ++ [b.with []]); rw [modL_snoc]; rfl
    | recd d b l r0 =>
      show d.map BtR.val ++ [b.with ((l ++ [(r0, vH)]).map (·.1) ++ [r])] = modL _ (d.map BtR.val ++ [b.with (l.map (·.1) ++ [r0])])
      rw [modL_snoc]
      simp [BatS.with]
  | hdr z =>
    cases s with
    | zero =>
      exfalso
      cases ws with
      | nil => cases h
      | cons w t =>
        rw [rdLine_cons] at h
        simp only [BSt.n] at h
        repeat' first | (simp at h; done) | split at h
    | bat d b =>
      exfalso
      cases ws with
      | nil => cases h
      | cons w t =>
        rw [rdLine_cons] at h
        simp only [BSt.n, BSt.m] at h
        repeat' first | (simp at h; done) | split at h
    | recd d b l r0 =>
      show d.map BtR.val ++ [b.with (l.map (·.1) ++ [recWith r0 z])] = modL _ (d.map BtR.val ++ [b.with (l.map (·.1) ++ [r0])])
      rw [modL_snoc]
      show _ = _ ++ [b.with (modL (fun r => recWith r z) (l.map (·.1) ++ [r0]))]
      rw [modL_snoc]
/-- A script that was read: its values, and what may come next. -/
structure VS where
  vs : List BatS
  n : Nat
  m : Nat
  c : Int
  ch : List Int
def VS.app (v : VS) (k : Said) : VS := ⟨appV v.vs k, nOf v.n k, mOf v.m k, cutOf v.c k, chOf v.ch k⟩
/-- What some lines are read as. -/
def readV (v : VS) : List Bs → Option VS
  | [] => some v
  | l :: t => match rdLine v.n v.m v.c v.ch (partsC 32 l) with
    | none => none
    | some k => readV (v.app k) t
theorem readV_snoc : ∀ (ls : List Bs) (v u : VS) (l : Bs) (k : Said), readV v ls = some u → rdLine u.n u.m u.c u.ch (partsC 32 l) = some k → readV v (ls ++ [l]) = some (u.app k)
  | [], v, u, l, k, h, hk => by
    injection h with h
    subst h
    show (match rdLine v.n v.m v.c v.ch (partsC 32 l) with | none => none | some k => readV (v.app k) []) = _
    rw [hk]
    rfl
  | a :: t, v, u, l, k, h, hk => by
    have h2 : (match rdLine v.n v.m v.c v.ch (partsC 32 a) with | none => none | some k => readV (v.app k) t) = some u := h
    show (match rdLine v.n v.m v.c v.ch (partsC 32 a) with | none => none | some k => readV (v.app k) (t ++ [l])) = _
    cases hr : rdLine v.n v.m v.c v.ch (partsC 32 a) with
    | none => rw [hr] at h2; cases h2
    | some k2 =>
      rw [hr] at h2
      exact readV_snoc t (v.app k2) u l k h2 hk

end Go.Proofs.YtenojajfacacoaaDoor
/- Scripts, there and back (pure). -/
namespace Go.Proofs.YtenojajfacacoaaDoor
open Go.RowKit

def lnB (b : BatS) : Bs := [98, 97, 116, 99, 104] ++ ((batN b).map numW ++ [letW b.app b.txn b.ctl]).flatMap fun x => 32 :: x
def lnR (r : RecS) : Bs := [114, 101, 99, 111, 114, 100] ++ [numW r.time, numW r.off, blobT r.key, blobT r.val].flatMap fun x => 32 :: x
def lnH (z : HdrS) : Bs := [104, 101, 97, 100, 101, 114] ++ [hexW z.key, blobT z.val].flatMap fun x => 32 :: x
def lnC (c : Int) : Bs := [99, 117, 116] ++ [numW c].flatMap fun x => 32 :: x
def lnK (l : List Int) : Bs := [99, 104, 117, 110, 107, 115] ++ (l.map numW).flatMap fun x => 32 :: x
theorem lnB_txt (b : BatS) : lnB b ++ [10] = batL b := by
  unfold lnB batL numsT
  simp [List.flatMap_append, List.flatMap_map]
theorem lnR_txt (r : RecS) : lnR r ++ [10] = recH r := by unfold lnR recH; simp
theorem lnH_txt (z : HdrS) : lnH z ++ [10] = hdrT z := by unfold lnH hdrT; simp
def lnsR (r : RecS) : List Bs := lnR r :: r.hdrs.map lnH
def lnsB (x : BtR) : List Bs := lnB x.b :: x.l.flatMap fun y => lnsR y.1
def lnsC (c : Int) : List Bs := if c < 0 then [] else [lnC c]
def lnsK (l : List Int) : List Bs := if l = [] then [] else [lnK l]
def linesOf (l : List BtR) (c : Int) (ch : List Int) : List Bs := l.flatMap lnsB ++ (lnsC c ++ lnsK ch)
theorem linesT_app (a b : List Bs) : linesT (a ++ b) = linesT a ++ linesT b := by unfold linesT; rw [List.flatMap_append]
theorem linesT_cons (a : Bs) (b : List Bs) : linesT (a :: b) = (a ++ [10]) ++ linesT b := by unfold linesT; rw [List.flatMap_cons]
theorem linesT_flat {α : Type} (f : α → List Bs) (g : α → Bs) (h : ∀ x, linesT (f x) = g x) : ∀ l : List α, linesT (l.flatMap f) = l.flatMap g
  | [] => rfl
  | x :: t => by rw [List.flatMap_cons, List.flatMap_cons, linesT_app, h, linesT_flat f g h t]
theorem lnsH_txt : ∀ l : List HdrS, linesT (l.map lnH) = l.flatMap hdrT
  | [] => rfl
  | x :: t => by rw [List.map_cons, linesT_cons, lnH_txt, lnsH_txt t, List.flatMap_cons]
theorem lnsR_txt (r : RecS) : linesT (lnsR r) = recT r := by unfold lnsR recT; rw [linesT_cons, lnR_txt, lnsH_txt]
theorem lnsB_txt (x : BtR) : linesT (lnsB x) = btT x := by unfold lnsB btT; rw [linesT_cons, lnB_txt, linesT_flat (fun y : RecS × Value => lnsR y.1) (fun y => recT y.1) (fun y => lnsR_txt y.1)]
theorem lines_txt (l : List BtR) (c : Int) (ch : List Int) : linesT (linesOf l c ch) = l.flatMap btT ++ (cutT c ++ chT ch) := by
  unfold linesOf
  rw [linesT_app, linesT_app, linesT_flat lnsB btT lnsB_txt]
  congr 2
  · unfold lnsC cutT; split
    · rfl
    · rw [linesT_cons]; unfold lnC; simp [linesT]
  · unfold lnsK chT; split
    · rfl
    · rw [linesT_cons]; unfold lnK numsT; simp [linesT, List.flatMap_map]
theorem plain_words : ∀ ws : List Bs, (∀ x ∈ ws, plainW x) → (10 : UInt8) ∉ ws.flatMap fun x => 32 :: x
  | [], _ => List.not_mem_nil
  | x :: t, h => by
    rw [List.flatMap_cons]
    intro hc
    rcases List.mem_append.1 hc with hc | hc
    · rcases List.mem_cons.1 hc with hc | hc
      · exact absurd hc (by decide)
      · exact (h x (by simp)).2 hc
    · exact plain_words t (fun y hy => h y (by simp [hy])) hc
theorem line_plain (w : Bs) (ws : List Bs) (hw : plainW w) (h : ∀ x ∈ ws, plainW x) : (10 : UInt8) ∉ w ++ ws.flatMap fun x => 32 :: x := fun hc => by
  rcases List.mem_append.1 hc with hc | hc
  · exact hw.2 hc
  · exact plain_words ws h hc
theorem plain_nums (l : List Int) : ∀ x ∈ l.map numW, plainW x := fun x hx => by
  obtain ⟨n, _, rfl⟩ := List.mem_map.1 hx
  exact plain_num n
theorem plain_bat (b : BatS) : ∀ x ∈ (batN b).map numW ++ [letW b.app b.txn b.ctl], plainW x := fun x hx => by
  rcases List.mem_append.1 hx with hx | hx
  · exact plain_nums _ x hx
  · rw [List.mem_singleton.1 hx]; exact plain_let _ _ _
theorem plain_rec (r : RecS) : ∀ x ∈ [numW r.time, numW r.off, blobT r.key, blobT r.val], plainW x := fun x hx => by
  simp only [List.mem_cons, List.not_mem_nil, or_false] at hx
  rcases hx with rfl | rfl | rfl | rfl
  · exact plain_num _
  · exact plain_num _
  · exact plain_blob _
  · exact plain_blob _
theorem plain_hdr (z : HdrS) : ∀ x ∈ [hexW z.key, blobT z.val], plainW x := fun x hx => by
  simp only [List.mem_cons, List.not_mem_nil, or_false] at hx
  rcases hx with rfl | rfl
  · exact plain_hexW _
  · exact plain_blob _
theorem lines_free (l : List BtR) (c : Int) (ch : List Int) : ∀ y ∈ linesOf l c ch, (10 : UInt8) ∉ y := by
  intro y hy
  unfold linesOf at hy
  rcases List.mem_append.1 hy with hy | hy
  · obtain ⟨x, _, hy⟩ := List.mem_flatMap.1 hy
    unfold lnsB at hy
    rcases List.mem_cons.1 hy with rfl | hy
    · exact line_plain _ _ ⟨by decide, by decide⟩ (plain_bat x.b)
    · obtain ⟨z, _, hy⟩ := List.mem_flatMap.1 hy
      unfold lnsR at hy
      rcases List.mem_cons.1 hy with rfl | hy
      · exact line_plain _ _ ⟨by decide, by decide⟩ (plain_rec z.1)
      · obtain ⟨u, _, rfl⟩ := List.mem_map.1 hy
        exact line_plain _ _ ⟨by decide, by decide⟩ (plain_hdr u)
  · rcases List.mem_append.1 hy with hy | hy
    · unfold lnsC at hy
      split at hy
      · cases hy
      · rw [List.mem_singleton.1 hy]
        exact line_plain _ [numW c] ⟨by decide, by decide⟩ (fun x hx => by rw [List.mem_singleton.1 hx]; exact plain_num c)
    · unfold lnsK at hy
      split at hy
      · cases hy
      · rw [List.mem_singleton.1 hy]
        exact line_plain _ _ ⟨by decide, by decide⟩ (plain_nums ch)
theorem parts_line (w : Bs) (ws : List Bs) (hw : plainW w) (h : ∀ x ∈ ws, plainW x) : partsC 32 (w ++ ws.flatMap fun x => 32 :: x) = w :: ws := parts_words w ws hw.1 (fun x hx => (h x hx).1)
theorem readV_cons (v : VS) (l : Bs) (t : List Bs) (k : Said) (h : rdLine v.n v.m v.c v.ch (partsC 32 l) = some k) : readV v (l :: t) = readV (v.app k) t := by
  show (match rdLine v.n v.m v.c v.ch (partsC 32 l) with | none => none | some k => readV (v.app k) t) = _
  rw [h]
theorem ln_bat (n m : Nat) (b : BatS) (hb : batR b) : rdLine n m (-1) [] (partsC 32 (lnB b)) = some (.bat (b.with [])) := by
  unfold lnB
  rw [parts_line _ _ ⟨by decide, by decide⟩ (plain_bat b)]
  have h := rdBat_back (b.with []) hb rfl
  have e : (batN (b.with [])).map numW ++ [letW (b.with []).app (b.with []).txn (b.with []).ctl] = (batN b).map numW ++ [letW b.app b.txn b.ctl] := rfl
  rw [e] at h
  rw [rdLine_cons, h]
  simp
def recOf (r : RecS) (l : List HdrS) : RecS := ⟨r.time, r.off, r.key, r.val, l⟩
theorem ln_rec (n m : Nat) (r : RecS) (hn : n ≠ 0) (h : recFine r) : rdLine n m (-1) [] (partsC 32 (lnR r)) = some (.recd (recOf r [])) := by
  unfold lnR
  rw [parts_line _ _ ⟨by decide, by decide⟩ (plain_rec r)]
  have h2 := rdRec_back (recOf r []) ⟨h.1, h.2.1, (fun z hz => by cases hz), h.2.2.2.1, h.2.2.2.2⟩ rfl
  have e : rdRec [numW r.time, numW r.off, blobT r.key, blobT r.val] = some (recOf r []) := h2
  rw [rdLine_cons, e]
  simp [hn]
theorem ln_hdr (n m : Nat) (z : HdrS) (hn : n ≠ 0) (hm : m ≠ 0) (h : oddB z.val = false) : rdLine n m (-1) [] (partsC 32 (lnH z)) = some (.hdr z) := by
  unfold lnH
  rw [parts_line _ _ ⟨by decide, by decide⟩ (plain_hdr z)]
  rw [rdLine_cons, rdHdr_back z h]
  simp [hn, hm]
theorem ln_cut (n m : Nat) (c : Int) (h : 0 ≤ c) (hr : Rn c) : rdLine n m (-1) [] (partsC 32 (lnC c)) = some (.cut c) := by
  unfold lnC
  rw [parts_line _ _ ⟨by decide, by decide⟩ (fun x hx => by rw [List.mem_singleton.1 hx]; exact plain_num c)]
  rw [rdLine_cons, rdCut_back c h hr]
  simp
theorem ln_chunks (n m : Nat) (c : Int) (l : List Int) (h0 : l ≠ []) (hr : ∀ v ∈ l, Rn v) : rdLine n m c [] (partsC 32 (lnK l)) = some (.chunks l) := by
  unfold lnK
  rw [parts_line _ _ ⟨by decide, by decide⟩ (plain_nums l)]
  rw [rdLine_cons, rdChunks_back l h0 hr]
  simp
theorem readV_hdrs (vs : List BatS) (B : BatS) (rs : List RecS) (r : RecS) (n m : Nat) (hn : n ≠ 0) (hm : m ≠ 0) (t : List Bs) : ∀ (hs hs0 : List HdrS), (∀ z ∈ hs, oddB z.val = false) → readV ⟨vs ++ [B.with (rs ++ [recOf r hs0])], n, m, -1, []⟩ (hs.map lnH ++ t) = readV ⟨vs ++ [B.with (rs ++ [recOf r (hs0 ++ hs)])], n, m, -1, []⟩ t
  | [], hs0, _ => by rw [List.append_nil]; rfl
  | z :: hs, hs0, h => by
    have e := readV_cons ⟨vs ++ [B.with (rs ++ [recOf r hs0])], n, m, -1, []⟩ (lnH z) (hs.map lnH ++ t) _ (ln_hdr n m z hn hm (h z (by simp)))
    have e2 : VS.app ⟨vs ++ [B.with (rs ++ [recOf r hs0])], n, m, -1, []⟩ (.hdr z) = ⟨vs ++ [B.with (rs ++ [recOf r (hs0 ++ [z])])], n, m, -1, []⟩ := by
      show VS.mk (modL (fun b => b.with (modL (fun r => recWith r z) b.recs)) (vs ++ [B.with (rs ++ [recOf r hs0])])) n m (-1) [] = _
      rw [modL_snoc]
      show VS.mk (vs ++ [B.with (modL (fun r => recWith r z) (rs ++ [recOf r hs0]))]) n m (-1) [] = _
      rw [modL_snoc]
      rfl
    rw [List.map_cons, List.cons_append, e, e2, readV_hdrs vs B rs r n m hn hm t hs (hs0 ++ [z]) (fun y hy => h y (by simp [hy])), List.append_assoc]
    rfl
theorem readV_rec (vs : List BatS) (B : BatS) (rs : List RecS) (r : RecS) (n m : Nat) (hn : n ≠ 0) (h : recFine r) (t : List Bs) : readV ⟨vs ++ [B.with rs], n, m, -1, []⟩ (lnsR r ++ t) = readV ⟨vs ++ [B.with (rs ++ [r])], n, m + 1, -1, []⟩ t := by
  have e := readV_cons ⟨vs ++ [B.with rs], n, m, -1, []⟩ (lnR r) (r.hdrs.map lnH ++ t) _ (ln_rec n m r hn h)
  have e2 : VS.app ⟨vs ++ [B.with rs], n, m, -1, []⟩ (.recd (recOf r [])) = ⟨vs ++ [B.with (rs ++ [recOf r []])], n, m + 1, -1, []⟩ := by
    show VS.mk (modL (fun b => b.with (b.recs ++ [recOf r []])) (vs ++ [B.with rs])) n (m + 1) (-1) [] = _
    rw [modL_snoc]
    rfl
  show readV _ (lnR r :: (r.hdrs.map lnH ++ t)) = _
  rw [e, e2, readV_hdrs vs B rs r n (m + 1) hn (Nat.succ_ne_zero m) t r.hdrs [] h.2.2.1]
  rfl
theorem readV_recs (vs : List BatS) (B : BatS) (n : Nat) (hn : n ≠ 0) (t : List Bs) : ∀ (l : List (RecS × Value)) (rs : List RecS) (m : Nat), (∀ y ∈ l, recFine y.1) → readV ⟨vs ++ [B.with rs], n, m, -1, []⟩ ((l.flatMap fun y => lnsR y.1) ++ t) = readV ⟨vs ++ [B.with (rs ++ l.map (·.1))], n, m + l.length, -1, []⟩ t
  | [], rs, m, _ => by simp
  | y :: l, rs, m, h => by
    rw [List.flatMap_cons, List.append_assoc, readV_rec vs B rs y.1 n m hn (h y (by simp)), readV_recs vs B n hn t l (rs ++ [y.1]) (m + 1) (fun z hz => h z (by simp [hz])), List.append_assoc, List.length_cons, Nat.add_right_comm]
    rfl
theorem readV_bats (t : List Bs) : ∀ (l : List BtR) (vs : List BatS) (n m : Nat), (∀ x ∈ l, btFine x) → ∃ n' m', readV ⟨vs, n, m, -1, []⟩ (l.flatMap lnsB ++ t) = readV ⟨vs ++ l.map BtR.val, n', m', -1, []⟩ t
  | [], vs, n, m, _ => ⟨n, m, by simp⟩
  | x :: l, vs, n, m, h => by
    have hx := h x (by simp)
    have e := readV_cons ⟨vs, n, m, -1, []⟩ (lnB x.b) ((x.l.flatMap fun y => lnsR y.1) ++ (l.flatMap lnsB ++ t)) _ (ln_bat n m x.b hx.1)
    have e2 : VS.app ⟨vs, n, m, -1, []⟩ (.bat (x.b.with [])) = ⟨vs ++ [x.b.with []], n + 1, 0, -1, []⟩ := rfl
    have e3 := readV_recs vs x.b (n + 1) (Nat.succ_ne_zero n) (l.flatMap lnsB ++ t) x.l [] 0 hx.2
    obtain ⟨n', m', e4⟩ := readV_bats t l (vs ++ [x.val]) (n + 1) (0 + x.l.length) (fun z hz => h z (by simp [hz]))
    refine ⟨n', m', ?_⟩
    rw [List.flatMap_cons, List.append_assoc]
    show readV _ (lnB x.b :: ((x.l.flatMap fun y => lnsR y.1) ++ (l.flatMap lnsB ++ t))) = _
    rw [e, e2, e3]
    show readV ⟨vs ++ [x.val], n + 1, 0 + x.l.length, -1, []⟩ _ = _
    rw [e4, List.append_assoc]
    rfl
/-- What was written is read. -/
theorem readV_print (l : List BtR) (c : Int) (ch : List Int) (hc : -1 ≤ c) (hcr : Rn c) (hchr : ∀ v ∈ ch, Rn v) (hf : ∀ x ∈ l, btFine x) : ∃ n m, readV ⟨[], 0, 0, -1, []⟩ (linesOf l c ch) = some ⟨l.map BtR.val, n, m, c, ch⟩ := by
  obtain ⟨n, m, e⟩ := readV_bats (lnsC c ++ lnsK ch) l [] 0 0 hf
  refine ⟨n, m, ?_⟩
  unfold linesOf
  rw [e, List.nil_append]
  have hk : ∀ c' : Int, readV ⟨l.map BtR.val, n, m, c', []⟩ (lnsK ch) = some ⟨l.map BtR.val, n, m, c', ch⟩ := by
    intro c'
    unfold lnsK
    split
    · rename_i h0; subst h0; rfl
    · rename_i h0
      rw [readV_cons _ _ _ _ (ln_chunks n m c' ch h0 hchr)]
      rfl
  unfold lnsC
  split
  · have e1 : c = -1 := by omega
    subst e1
    exact hk (-1)
  · rw [List.cons_append, readV_cons _ _ _ _ (ln_cut n m c (by omega) hcr)]
    exact hk c
theorem readV_parse : ∀ (ls : List Bs) (v u : VS) (ln : Nat), readV v ls = some u → parseL v.n v.m v.c v.ch ln (ls ++ [[]]) = 0
  | [], v, u, ln, _ => rfl
  | l :: t, v, u, ln, h => by
    have h2 : (match rdLine v.n v.m v.c v.ch (partsC 32 l) with | none => none | some k => readV (v.app k) t) = some u := h
    cases hr : rdLine v.n v.m v.c v.ch (partsC 32 l) with
    | none => rw [hr] at h2; cases h2
    | some k =>
      rw [hr] at h2
      rw [List.cons_append, parseL_yes' _ _ _ _ _ _ _ (by simp) k hr]
      exact readV_parse t (v.app k) u (ln + 1) h2
theorem script_good (l : List BtR) (c : Int) (ch : List Int) (text : Bs) (ht : l.flatMap btT ++ (cutT c ++ chT ch) = text) (hc : -1 ≤ c) (hcr : Rn c) (hchr : ∀ v ∈ ch, Rn v) (hf : ∀ x ∈ l, btFine x) : parseL 0 0 (-1) [] 1 (partsC 10 text) = 0 := by
  obtain ⟨n, m, e⟩ := readV_print l c ch hc hcr hchr hf
  rw [← ht, ← lines_txt, parts_lines _ (lines_free l c ch)]
  exact readV_parse _ ⟨[], 0, 0, -1, []⟩ _ 1 e
theorem script_one (l l' : List BtR) (c c' : Int) (ch ch' : List Int) (text : Bs) (ht : l.flatMap btT ++ (cutT c ++ chT ch) = text) (hc : -1 ≤ c) (hcr : Rn c) (hchr : ∀ v ∈ ch, Rn v) (hf : ∀ x ∈ l, btFine x) (ht' : l'.flatMap btT ++ (cutT c' ++ chT ch') = text) (hc' : -1 ≤ c') (hcr' : Rn c') (hchr' : ∀ v ∈ ch', Rn v) (hf' : ∀ x ∈ l', btFine x) : l'.map BtR.val = l.map BtR.val ∧ c' = c ∧ ch' = ch := by
  obtain ⟨n, m, e⟩ := readV_print l c ch hc hcr hchr hf
  obtain ⟨n', m', e'⟩ := readV_print l' c' ch' hc' hcr' hchr' hf'
  have h1 := parts_lines _ (lines_free l c ch)
  have h2 := parts_lines _ (lines_free l' c' ch')
  rw [lines_txt, ht] at h1
  rw [lines_txt, ht', h1] at h2
  have h3 := List.append_cancel_right h2
  rw [← h3, e] at e'
  injection e' with e'
  injection e' with a1 a2 a3 a4 a5
  exact ⟨a1.symm, a4.symm, a5.symm⟩

end Go.Proofs.YtenojajfacacoaaDoor
/- Rows that are known (pure). -/
namespace Go.Proofs.YtenojajfacacoaaDoor
open Go.RowKit

theorem flat_cutS {α : Type} (f : α → Bs) : ∀ (l : List α) (k : Nat) (h : k < l.length) (x : α), l[k] = x → (l.drop k).flatMap f = f x ++ (l.drop (k + 1)).flatMap f := fun l k h x hx => by
  rw [List.drop_eq_getElem_cons h, hx, List.flatMap_cons]
theorem ahead_le {a b S : Bs} (h : a ++ b = S) {n : Nat} (hs : S.length ≤ n) : a.length ≤ n := by
  have := congrArg List.length h
  rw [List.length_append] at this
  omega
theorem btrs_flat {K : Know} {v : Value} {l : List BtR} (h : K.has (Know.btrs v l)) : K.has (Know.flat RBt v 12 l) := fun w F x => (h w F x).1
theorem btrs_recs {K : Know} {v : Value} {l : List BtR} (h : K.has (Know.btrs v l)) {x : BtR} (hx : x ∈ l) : K.has (Know.recs x.v x.l) := fun w F y => (h w F y).2 x hx
theorem fl_form {α : Type} {R : List Value → α → Prop} {sz : Nat} {v : Value} {l : List α} {W0 w : World} {K : Know} {L : List Res} (hk : K.has (Know.flat R v sz l)) (h : St W0 w K L) : ∃ q cap, v = .slice q l.length cap := by
  obtain ⟨F, hF, _⟩ := h.get
  obtain ⟨q, cap, hv, _⟩ := (hk _ _ hF).at
  exact ⟨q, cap, hv⟩
theorem fl_at {α : Type} {R : List Value → α → Prop} {sz n cap : Nat} {q : Option Addr} {l : List α} {W0 w : World} {K : Know} {L : List Res} (hk : K.has (Know.flat R (.slice q n cap) sz l)) (h : St W0 w K L) (h0 : 0 < l.length) : ∃ b off, q = some ⟨b, off, none⟩ := by
  obtain ⟨F, hF, _⟩ := h.get
  obtain ⟨q2, cap2, hv, hr⟩ := (hk _ _ hF).at
  obtain ⟨b, off, hq, _⟩ := hr h0
  simp at hv
  exact ⟨b, off, hv.1.trans hq⟩
theorem fl_cell {α : Type} {R : List Value → α → Prop} {sz n cap b off : Nat} {l : List α} {W0 w : World} {K : Know} {L : List Res} (hk : K.has (Know.flat R (.slice (some ⟨b, off, none⟩) n cap) sz l)) (h : St W0 w K L) (i : Nat) (hi : i < l.length) : ∃ cs, R cs l[i] ∧ ∀ f u, cs[f]? = some u → w.cell? ⟨b, off + (i * sz + f), none⟩ = some u := by
  obtain ⟨F, hF, _⟩ := h.get
  obtain ⟨q2, cap2, hv, hr⟩ := (hk _ _ hF).at
  obtain ⟨b2, off2, hq, hc⟩ := hr (by omega)
  rw [hq] at hv
  simp at hv
  obtain ⟨⟨rfl, rfl⟩, _, _⟩ := hv
  obtain ⟨cs, _, h1, h2⟩ := hc i hi
  exact ⟨cs, h1, h2⟩
theorem btrs_cell {n cap b off : Nat} {l : List BtR} {W0 w : World} {K : Know} {L : List Res} (hk : K.has (Know.btrs (.slice (some ⟨b, off, none⟩) n cap) l)) (h : St W0 w K L) (i : Nat) (hi : i < l.length) (x : BtR) (hx : l[i] = x) :
    w.cell? ⟨b, off + i * 12, none⟩ = some (.int .i64 x.b.base) ∧ w.cell? ⟨b, off + i * 12 + 1, none⟩ = some (.int .i64 x.b.leader) ∧ w.cell? ⟨b, off + i * 12 + 2, none⟩ = some (.bool x.b.app) ∧ w.cell? ⟨b, off + i * 12 + 3, none⟩ = some (.bool x.b.txn) ∧ w.cell? ⟨b, off + i * 12 + 4, none⟩ = some (.bool x.b.ctl) ∧ w.cell? ⟨b, off + i * 12 + 5, none⟩ = some (.int .i64 x.b.last) ∧ w.cell? ⟨b, off + i * 12 + 6, none⟩ = some (.int .i64 x.b.first) ∧ w.cell? ⟨b, off + i * 12 + 7, none⟩ = some (.int .i64 x.b.maxt) ∧ w.cell? ⟨b, off + i * 12 + 8, none⟩ = some (.int .i64 x.b.prod) ∧ w.cell? ⟨b, off + i * 12 + 9, none⟩ = some (.int .i64 x.b.epoch) ∧ w.cell? ⟨b, off + i * 12 + 10, none⟩ = some (.int .i64 x.b.seq) ∧ w.cell? ⟨b, off + i * 12 + 11, none⟩ = some (x.v) := by
  subst hx
  obtain ⟨cs, h1, h2⟩ := fl_cell (btrs_flat hk) h i hi
  unfold RBt btcells bhead at h1
  subst h1
  refine ⟨?_, ?_, ?_, ?_, ?_, ?_, ?_, ?_, ?_, ?_, ?_, ?_⟩
  · exact h2 0 _ rfl
  · rw [Nat.add_assoc]; exact h2 1 _ rfl
  · rw [Nat.add_assoc]; exact h2 2 _ rfl
  · rw [Nat.add_assoc]; exact h2 3 _ rfl
  · rw [Nat.add_assoc]; exact h2 4 _ rfl
  · rw [Nat.add_assoc]; exact h2 5 _ rfl
  · rw [Nat.add_assoc]; exact h2 6 _ rfl
  · rw [Nat.add_assoc]; exact h2 7 _ rfl
  · rw [Nat.add_assoc]; exact h2 8 _ rfl
  · rw [Nat.add_assoc]; exact h2 9 _ rfl
  · rw [Nat.add_assoc]; exact h2 10 _ rfl
  · rw [Nat.add_assoc]; exact h2 11 _ rfl
theorem rints_cell {n cap b off : Nat} {l : List Int} {W0 w : World} {K : Know} {L : List Res} (hk : K.has (Know.flat RInt (.slice (some ⟨b, off, none⟩) n cap) 1 l)) (h : St W0 w K L) (i : Nat) (hi : i < l.length) (x : Int) (hx : l[i] = x) : w.cell? ⟨b, off + i, none⟩ = some (.int .i64 x) := by
  subst hx
  obtain ⟨cs, h1, h2⟩ := fl_cell hk h i hi
  unfold RInt at h1
  subst h1
  have := h2 0 _ rfl
  rwa [Nat.mul_one, Nat.add_zero] at this
theorem rhdr_cell {n cap b off : Nat} {l : List HdrS} {W0 w : World} {K : Know} {L : List Res} (hk : K.has (Know.flat RHdr (.slice (some ⟨b, off, none⟩) n cap) 3 l)) (h : St W0 w K L) (i : Nat) (hi : i < l.length) (x : HdrS) (hx : l[i] = x) : w.cell? ⟨b, off + i * 3, none⟩ = some (.string (bb x.key)) ∧ w.cell? ⟨b, off + i * 3 + 1, none⟩ = some (.bool x.val.null) ∧ w.cell? ⟨b, off + i * 3 + 2, none⟩ = some (.string (bb x.val.data)) := by
  subst hx
  obtain ⟨cs, h1, h2⟩ := fl_cell hk h i hi
  unfold RHdr at h1
  subst h1
  exact ⟨h2 0 _ rfl, by rw [Nat.add_assoc]; exact h2 1 _ rfl, by rw [Nat.add_assoc]; exact h2 2 _ rfl⟩

end Go.Proofs.YtenojajfacacoaaDoor
/- Numbers, by definition. -/
namespace Go.Proofs.YtenojajfacacoaaDoor
open Go.RowKit

set_option maxHeartbeats 4000000 in
set_option maxRecDepth 100000 in
theorem num_p0 (u : Nat) (hu : u ≤ 9223372036854775807) (hs : u < 10) {W0 w : World} {K : Know} {L : List Res} (h : St W0 w K L) :
    Calls Tryd.prog 27 #[.int .i64 u] w fun en w' => en = .returned (.string (bb (Lib.decDigits u))) ∧ St W0 w' K L := by
  obtain ⟨d, hd⟩ : ∃ d, u % 10 = d := ⟨_, rfl⟩
  obtain ⟨v, hv⟩ : ∃ v, u / 10 = v := ⟨_, rfl⟩
  have hd9 : d < 10 := by omega
  obtain ⟨c, hc⟩ : ∃ c, UInt8.ofNat (48 + d) = c := ⟨_, rfl⟩
  have hcn : (48 + (d : Int)) = c.toNat := by rw [← hc, UInt8.toNat_ofNat']; omega
  obtain ⟨nb, hnb⟩ : ∃ b, w.heap.size = b := ⟨_, rfl⟩
  have g1 := h.allocRaw #[.int .u8 (48 + (d : Int))] 5
  rw [hnb] at g1
  have cb := conv_byteS c _ hcn g1
  have H := Lib.hid g1
  have q1 : (u : Int).tmod 10 = (d : Int) := by rw [Int.tmod_eq_emod_of_nonneg (by omega)]; omega
  have q2 : (u : Int) % 10 = (d : Int) := by omega
  have q3 : (u : Int).tdiv 10 = (v : Int) := by rw [Int.tdiv_eq_ediv_of_nonneg (by omega)]; omega
  have q4 : (u : Int) / 10 = (v : Int) := by omega
  have r1 : ¬ ((u : Int) < 0) := by omega
  have r2 : decide ((u : Int) < 0) = false := decide_eq_false r1
  have r3 : (u : Int) < 10 := by omega
  have r4 : decide ((u : Int) < 10) = true := decide_eq_true r3
  have q5 : (48 + (d : Int)) % 256 = 48 + (d : Int) := by omega
  have HD := Lib.hid (show Lib.decDigits u = [c] from by rw [dec_small hs, ← hc]; rw [← hd, Nat.mod_eq_of_lt hs])
  have HWV := Lib.hid (show wrap64 ((v : Int)) = (v : Int) from IntWalk.wrap64_in _ (by omega))
  skip
  skip
  skip
  skip
  skip
  skip
  skip
  clear h g1 hu hs hd hv hc hcn hd9  
  go_enter Tryd.func27, Tryd.ntmps27
  go_wp2_with fail
  go_ret
  exact ⟨by rw [HD.out]; try rfl, H.out.drop⟩

set_option maxHeartbeats 4000000 in
set_option maxRecDepth 100000 in
theorem num_p1 (u : Nat) (hu : u ≤ 9223372036854775807) (hs : ¬ u < 10) {W0 w : World} {K : Know} {L : List Res} (hrec : ∀ w, St W0 w K L → Calls Tryd.prog 27 #[.int .i64 (u / 10 : Nat)] w fun en w' => en = .returned (.string (bb (Lib.decDigits (u / 10)))) ∧ St W0 w' K L) (h : St W0 w K L) :
    Calls Tryd.prog 27 #[.int .i64 u] w fun en w' => en = .returned (.string (bb (Lib.decDigits u))) ∧ St W0 w' K L := by
  obtain ⟨d, hd⟩ : ∃ d, u % 10 = d := ⟨_, rfl⟩
  obtain ⟨v, hv⟩ : ∃ v, u / 10 = v := ⟨_, rfl⟩
  have hd9 : d < 10 := by omega
  obtain ⟨c, hc⟩ : ∃ c, UInt8.ofNat (48 + d) = c := ⟨_, rfl⟩
  have hcn : (48 + (d : Int)) = c.toNat := by rw [← hc, UInt8.toNat_ofNat']; omega
  obtain ⟨nb, hnb⟩ : ∃ b, w.heap.size = b := ⟨_, rfl⟩
  have g1 := h.allocRaw #[.int .u8 (48 + (d : Int))] 5
  rw [hnb] at g1
  have cb := conv_byteS c _ hcn g1
  have H := Lib.hid g1
  have q1 : (u : Int).tmod 10 = (d : Int) := by rw [Int.tmod_eq_emod_of_nonneg (by omega)]; omega
  have q2 : (u : Int) % 10 = (d : Int) := by omega
  have q3 : (u : Int).tdiv 10 = (v : Int) := by rw [Int.tdiv_eq_ediv_of_nonneg (by omega)]; omega
  have q4 : (u : Int) / 10 = (v : Int) := by omega
  have r1 : ¬ ((u : Int) < 0) := by omega
  have r2 : decide ((u : Int) < 0) = false := decide_eq_false r1
  have r3 : ¬ ((u : Int) < 10) := by omega
  have r4 : decide ((u : Int) < 10) = false := decide_eq_false r3
  have q5 : (48 + (d : Int)) % 256 = 48 + (d : Int) := by omega
  have HD := Lib.hid (show Lib.decDigits u = (Lib.decDigits v ++ [c]) from by rw [dec_big hs, hd, hv, hc])
  have HWV := Lib.hid (show wrap64 ((v : Int)) = (v : Int) from IntWalk.wrap64_in _ (by omega))
  have HREC := Lib.hid hrec
  rw [hv] at HREC
  obtain ⟨p, hp⟩ : ∃ p, Lib.decDigits v = p := ⟨_, rfl⟩
  have hpl : p.length ≤ 30 := by rw [← hp]; exact dec_len v (by omega)
  have hpi : ¬ 9223372036854775807 < p.length + 1 := by omega
  rw [hp] at HREC
  rw [show Lib.decDigits v ++ [c] = p ++ [c] by rw [← hp] <;> rfl] at HD
  clear h g1 hu hs hd hv hc hcn hd9 hrec 
  go_enter Tryd.func27, Tryd.ntmps27
  go_wp2_with (go_at_call 27; rw [HWV.out]; (with_reducible refine (HREC.out _ H.out.drop).mono ?_); rintro e_ wn ⟨rfl, h⟩; replace H := Lib.hid h; clear h)
  go_ret
  exact ⟨by rw [HD.out]; try rfl, H.out⟩

set_option maxHeartbeats 4000000 in
set_option maxRecDepth 100000 in
theorem num_n0 (u : Nat) (hu : u ≤ 9223372036854775808) (h1 : 1 ≤ u) (hs : u < 10) {W0 w : World} {K : Know} {L : List Res} (h : St W0 w K L) :
    Calls Tryd.prog 27 #[.int .i64 (-(u : Int))] w fun en w' => en = .returned (.string (bb ((45 :: Lib.decDigits u)))) ∧ St W0 w' K L := by
  obtain ⟨d, hd⟩ : ∃ d, u % 10 = d := ⟨_, rfl⟩
  obtain ⟨v, hv⟩ : ∃ v, u / 10 = v := ⟨_, rfl⟩
  have hd9 : d < 10 := by omega
  obtain ⟨c, hc⟩ : ∃ c, UInt8.ofNat (48 + d) = c := ⟨_, rfl⟩
  have hcn : (48 + (d : Int)) = c.toNat := by rw [← hc, UInt8.toNat_ofNat']; omega
  obtain ⟨nb, hnb⟩ : ∃ b, w.heap.size = b := ⟨_, rfl⟩
  have g1 := h.allocRaw #[.int .u8 (48 + (d : Int))] 5
  rw [hnb] at g1
  have cb := conv_byteS c _ hcn g1
  have H := Lib.hid g1
  have q1 : (-(u : Int)).tmod 10 = -(d : Int) := by rw [Int.neg_tmod, Int.tmod_eq_emod_of_nonneg (by omega)]; omega
  have q3 : (-(u : Int)).tdiv 10 = -(v : Int) := by rw [Int.neg_tdiv, Int.tdiv_eq_ediv_of_nonneg (by omega)]; omega
  have r1 : (-(u : Int)) < 0 := by omega
  have r2 : decide ((-(u : Int)) < 0) = true := decide_eq_true r1
  have r5 : (0 : Int) < (u : Int) := by omega
  have r3 : -10 < (-(u : Int)) := by omega
  have r4 : decide (-10 < (-(u : Int))) = true := decide_eq_true r3
  have r6 : (u : Int) < 10 := by omega
  have q5 : (48 + (d : Int)) % 256 = 48 + (d : Int) := by omega
  have HD := Lib.hid (show (45 :: Lib.decDigits u) = [45, c] from by rw [dec_small hs, ← hc]; rw [← hd, Nat.mod_eq_of_lt hs])
  have HWV := Lib.hid (show wrap64 (-(v : Int)) = -(v : Int) from IntWalk.wrap64_in _ (by omega))
  skip
  skip
  skip
  skip
  skip
  skip
  skip
  clear h g1 hu hs hd hv hc hcn hd9  h1
  go_enter Tryd.func27, Tryd.ntmps27
  go_wp2_with fail
  go_ret
  exact ⟨by rw [HD.out]; try rfl, H.out.drop⟩

set_option maxHeartbeats 4000000 in
set_option maxRecDepth 100000 in
theorem num_n1 (u : Nat) (hu : u ≤ 9223372036854775808) (h1 : 1 ≤ u) (hs : ¬ u < 10) {W0 w : World} {K : Know} {L : List Res} (hrec : ∀ w, St W0 w K L → Calls Tryd.prog 27 #[.int .i64 (-((u / 10 : Nat) : Int))] w fun en w' => en = .returned (.string (bb (45 :: Lib.decDigits (u / 10)))) ∧ St W0 w' K L) (h : St W0 w K L) :
    Calls Tryd.prog 27 #[.int .i64 (-(u : Int))] w fun en w' => en = .returned (.string (bb ((45 :: Lib.decDigits u)))) ∧ St W0 w' K L := by
  obtain ⟨d, hd⟩ : ∃ d, u % 10 = d := ⟨_, rfl⟩
  obtain ⟨v, hv⟩ : ∃ v, u / 10 = v := ⟨_, rfl⟩
  have hd9 : d < 10 := by omega
  obtain ⟨c, hc⟩ : ∃ c, UInt8.ofNat (48 + d) = c := ⟨_, rfl⟩
  have hcn : (48 + (d : Int)) = c.toNat := by rw [← hc, UInt8.toNat_ofNat']; omega
  obtain ⟨nb, hnb⟩ : ∃ b, w.heap.size = b := ⟨_, rfl⟩
  have g1 := h.allocRaw #[.int .u8 (48 + (d : Int))] 5
  rw [hnb] at g1
  have cb := conv_byteS c _ hcn g1
  have H := Lib.hid g1
  have q1 : (-(u : Int)).tmod 10 = -(d : Int) := by rw [Int.neg_tmod, Int.tmod_eq_emod_of_nonneg (by omega)]; omega
  have q3 : (-(u : Int)).tdiv 10 = -(v : Int) := by rw [Int.neg_tdiv, Int.tdiv_eq_ediv_of_nonneg (by omega)]; omega
  have r1 : (-(u : Int)) < 0 := by omega
  have r2 : decide ((-(u : Int)) < 0) = true := decide_eq_true r1
  have r5 : (0 : Int) < (u : Int) := by omega
  have r3 : ¬ (-10 < (-(u : Int))) := by omega
  have r4 : decide (-10 < (-(u : Int))) = false := decide_eq_false r3
  have r6 : ¬ ((u : Int) < 10) := by omega
  have q5 : (48 + (d : Int)) % 256 = 48 + (d : Int) := by omega
  have HD := Lib.hid (show (45 :: Lib.decDigits u) = (45 :: (Lib.decDigits v ++ [c])) from by rw [dec_big hs, hd, hv, hc])
  have HWV := Lib.hid (show wrap64 (-(v : Int)) = -(v : Int) from IntWalk.wrap64_in _ (by omega))
  have HREC := Lib.hid hrec
  rw [hv] at HREC
  obtain ⟨p, hp⟩ : ∃ p, (45 :: Lib.decDigits v) = p := ⟨_, rfl⟩
  have hpl : p.length ≤ 30 := by rw [← hp]; exact Nat.succ_le_succ (dec_len2 v (by omega))
  have hpi : ¬ 9223372036854775807 < p.length + 1 := by omega
  rw [hp] at HREC
  rw [show 45 :: (Lib.decDigits v ++ [c]) = p ++ [c] by rw [← hp] <;> rfl] at HD
  clear h g1 hu hs hd hv hc hcn hd9 hrec h1
  go_enter Tryd.func27, Tryd.ntmps27
  go_wp2_with (go_at_call 27; rw [HWV.out]; (with_reducible refine (HREC.out _ H.out.drop).mono ?_); rintro e_ wn ⟨rfl, h⟩; replace H := Lib.hid h; clear h)
  go_ret
  exact ⟨by rw [HD.out]; try rfl, H.out⟩

theorem num_pos : ∀ (n u : Nat), u ≤ n → u ≤ 9223372036854775807 → ∀ {W0 w : World} {K : Know} {L : List Res}, St W0 w K L → Calls Tryd.prog 27 #[.int .i64 u] w fun en w' => en = .returned (.string (bb (Lib.decDigits u))) ∧ St W0 w' K L
  | 0, u, h, hu, _, _, _, _, hst => num_p0 u hu (by omega) hst
  | n + 1, u, h, hu, _, _, _, _, hst => by
    by_cases hs : u < 10
    · exact num_p0 u hu hs hst
    · exact num_p1 u hu hs (fun w' h' => num_pos n (u / 10) (by omega) (by omega) h') hst
theorem num_neg : ∀ (n u : Nat), u ≤ n → u ≤ 9223372036854775808 → 1 ≤ u → ∀ {W0 w : World} {K : Know} {L : List Res}, St W0 w K L → Calls Tryd.prog 27 #[.int .i64 (-(u : Int))] w fun en w' => en = .returned (.string (bb (45 :: Lib.decDigits u))) ∧ St W0 w' K L
  | 0, u, h, hu, h1, _, _, _, _, hst => absurd h (by omega)
  | n + 1, u, h, hu, h1, _, _, _, _, hst => by
    by_cases hs : u < 10
    · exact num_n0 u hu h1 hs hst
    · exact num_n1 u hu h1 hs (fun w' h' => num_neg n (u / 10) (by omega) (by omega) (by omega) h') hst
theorem rs_num (n : Int) (hn : Rn n) (t : Bs) (ht : numW n = t) {W0 w : World} {K : Know} {L : List Res} (h : St W0 w K L) : Calls Tryd.prog 27 #[.int .i64 n] w fun en w' => en = .returned (.string (bb t)) ∧ St W0 w' K L := by
  subst ht
  unfold Rn at hn
  by_cases h0 : n < 0
  · obtain ⟨u, rfl⟩ : ∃ u : Nat, n = -(u : Int) := ⟨n.natAbs, by omega⟩
    have e : numW (-(u : Int)) = 45 :: Lib.decDigits u := by unfold numW; exact Lib.itoa_neg u (by omega)
    rw [e]
    exact num_neg u u (Nat.le_refl _) (by omega) (by omega) h
  · obtain ⟨u, rfl⟩ : ∃ u : Nat, n = (u : Int) := ⟨n.natAbs, by omega⟩
    have e : numW (u : Int) = Lib.decDigits u := by unfold numW; exact Lib.itoa_nonneg u
    rw [e]
    exact num_pos u u (Nat.le_refl _) (by omega) h

end Go.Proofs.YtenojajfacacoaaDoor
/- A digit of a word, by definition. -/
namespace Go.Proofs.YtenojajfacacoaaDoor
open Go.RowKit

theorem op_appm {W0 w : World} {K : Know} {L : List Res} {o : Oper} {a : Act} {KK : Act → World → Prop} {Q : Exit → Act → World → Prop} (sl x : Operand) (t : TypeId)
    (ho : o.op = .call { callee := .builtin .append, args := #[sl, x], argTypes := #[t, t] })
    (e : TypeId) {z : Value} {size bytes : Nat} (ht : Tryd.prog.underlying t = some (.slice e)) (he : ElemT Tryd.prog e z size bytes)
    (v : Value) (n : Nat) (xs : List Value) (hs : a.eval sl = v) (bS m : Nat) (cs : Array Value) (T : TypeId) (hst : St W0 w K (.raw bS cs T :: .row v e size n xs :: L))
    (hx : a.eval x = .slice (some ⟨bS, 0, none⟩) m m) (hl : cs.toList.length = m * size) (h1 : ∀ u ∈ cs.toList, u.oneCell' = true)
    (h63 : n + m ≤ maxLen) (hbytes : (n + m) * bytes ≤ 140737488355328)
    (h : ∀ v' w', St W0 w' K (.row v' e size (n + m) (xs ++ cs.toList) :: L) → KK (a.put o.dst v') w') : o.wp Tryd.prog a w KK Q := by
  have hc := hst.rawCell
  have hst2 := hst.p1
  obtain ⟨⟨i, g1, g2, g3, g4⟩, g5, g6⟩ := he
  obtain ⟨v', w', hr, h2, h3, h4⟩ := app_val (P := Tryd.prog) w t o.type e i z size bytes ht g1 g2 g3 g4 g5 g6 v n xs hst2.rowGet ⟨bS, 0, none⟩ m m cs.toList hl (fun j u hj => by
    have ha : (⟨bS, 0, none⟩ : Addr).add j = ⟨bS, j, none⟩ := by unfold Addr.add; split <;> simp_all
    rw [ha, hc j]
    simpa using hj) h1 h63 hbytes
  unfold Oper.wp execOp
  simp only [ho, resolve, invoke, builtin, Sem.run_bind, Sem.run_pure, Result.andThen_ok, List.map_toArray, List.map_cons, List.map_nil, hs, hx, hr]
  exact h v' w' (hst2.rowGrown h2 h3 h4).p1.drop
theorem build2 (a b : Int) (w : World) : (Instr.buildSlice 56 2 #[(0, .int .u8 a), (1, .int .u8 b)]).run Tryd.prog w = .ok (.slice (some ⟨w.heap.size, 0, none⟩) 2 2) (w.alloc (.cells #[.int .u8 a, .int .u8 b] 5 (0, 0))) := by go_simp
theorem exec_build2 {o : Oper} {ρ : Operand → Value} (ps : Array (Nat × Value)) (v : Value) (w w' : World) (ho : execOp ρ o = (do pure (Next.value (← Instr.buildSlice 56 2 ps)))) (hb : (Instr.buildSlice 56 2 ps).run Tryd.prog w = .ok v w') : (execOp ρ o).run Tryd.prog w = .ok (.value v) w' := by
  rw [ho]
  simp [hb, Result.andThen]
set_option maxHeartbeats 4000000 in
set_option maxRecDepth 100000 in
theorem rs_digit (n : Nat) (hn : n < 16) {W0 w : World} {K : Know} {L : List Res} (h : St W0 w K L) :
    Calls Tryd.prog 37 #[.int .i64 n] w fun en w' => en = .returned (.int .u8 (hexD n).toNat) ∧ St W0 w' K L := by
  have H := Lib.hid h
  have hn1 : (n : Int) < 16 := by omega
  have HE := Lib.hid (show (hexD n).toNat = if n < 10 then 48 + n else 87 + n by unfold hexD; split <;> (rw [UInt8.toNat_ofNat']; omega))
  clear h hn
  by_cases h1 : n < 10
  · have h2 : (n : Int) < 10 := by omega
    have h3 : decide ((n : Int) < 10) = true := decide_eq_true h2
    rw [if_pos h1] at HE
    have h4 : (48 + (n : Int)) % 256 = (((hexD n).toNat : Nat) : Int) := by rw [HE.out]; omega
    clear h1
    go_enter Tryd.func37, Tryd.ntmps37
    go_wp2
    go_ret
    exact ⟨by rw [HE.out]; rfl, H.out⟩
  · have h2 : ¬ (n : Int) < 10 := by omega
    have h3 : decide ((n : Int) < 10) = false := decide_eq_false h2
    rw [if_neg h1] at HE
    clear h1
    go_enter Tryd.func37, Tryd.ntmps37
    go_wp2
    go_ret
    have e9 : (97 + (n : Int) - 10) = ((87 + n : Nat) : Int) := by omega
    exact ⟨by rw [HE.out, ← e9]; rfl, H.out⟩

theorem rs_digitE (v : Int) (n : Nat) (d : UInt8) (hv : v = n) (hn : n < 16) (hd : hexD n = d) {W0 w : World} {K : Know} {L : List Res} (h : St W0 w K L) :
    Calls Tryd.prog 37 #[.int .i64 v] w fun en w' => en = .returned (.int .u8 d.toNat) ∧ St W0 w' K L := by
  subst hv hd; exact rs_digit n hn h

end Go.Proofs.YtenojajfacacoaaDoor
/- Words, by definition. -/
namespace Go.Proofs.YtenojajfacacoaaDoor
open Go.RowKit

theorem wrap_i64 (x : Int) (h0 : -9223372036854775808 ≤ x) (h1 : x < 9223372036854775808) : IntKind.i64.wrap x = x := IntWalk.i64_in _ (by omega)
theorem nib1 (x : UInt8) : IntKind.i64.wrap ((IntKind.i64.wrap ((x.toNat : Nat) : Int)).tdiv 16) = ((x.toNat / 16 : Nat) : Int) := by
  have hx := x.toNat_lt
  rw [wrap_i64 ((x.toNat : Nat) : Int) (by omega) (by omega), Int.tdiv_eq_ediv_of_nonneg (by omega), wrap_i64 _ (by omega) (by omega)]
  rfl
theorem nib2 (x : UInt8) : (IntKind.i64.wrap ((x.toNat : Nat) : Int)).tmod 16 = ((x.toNat % 16 : Nat) : Int) := by
  have hx := x.toNat_lt
  rw [wrap_i64 ((x.toNat : Nat) : Int) (by omega) (by omega), Int.tmod_eq_emod_of_nonneg (by omega)]
  rfl
set_option maxHeartbeats 4000000 in
set_option maxRecDepth 100000 in
theorem rs_hex (s : Bs) (hs : s.length ≤ 1000000) {W0 w : World} {K : Know} {L : List Res} (h : St W0 w K L) :
    Calls Tryd.prog 17 #[.string (bb s)] w fun en w' => en = .returned (.string (bb (hexW s))) ∧ St W0 w' K L := by
  by_cases h0 : s = []
  · subst h0
    have H := Lib.hid h
    clear h
    go_enter Tryd.func17, Tryd.ntmps17
    go_wp2
    go_ret
    exact ⟨rfl, H.out⟩
  have hw : hexW s = hexL s := by unfold hexW; rw [if_neg h0]
  rw [hw]
  have q3 : (s == []) = false := by rw [beq_eq_false_iff_ne]; exact h0
  have q4 : (s != []) = true := by simp [bne, q3]
  have hsl : (s.length : Int) ≤ 1000000 := by omega
  have g1 := h.rowLit [] 5 1 0 (by simp) (Nat.zero_le _)
  have H := Lib.hid g1
  have HS := Lib.hid hs
  clear h g1 hs h0 hw
  go_enter Tryd.func17, Tryd.ntmps17
  go_wp2_with fail
  go_loopw [3, 4] (fun ov iv wr => ∃ (k cp : Nat) (q : Option Addr), k ≤ s.length ∧ iv = .int .i64 k ∧ ov = .slice q (2 * k) cp ∧ St W0 wr K (.row (.slice q (2 * k) cp) 5 1 (2 * k) (bvals (hexL (s.take k))) :: L)) (fun _ iv _ => s.length - (intOf iv).toNat)
  case atStart => exact ⟨0, 0, _, Nat.zero_le _, rfl, rfl, H.out⟩
  case round =>
    obtain ⟨k, cp, q, hk, rfl, rfl, hst⟩ := hrel
    clear H
    have H := Lib.hid hst
    clear hst
    by_cases hlt : k < s.length
    · have hlti : (k : Int) < (s.length : Int) := by omega
      have hx := (s[k]'hlt).toNat_lt
      have HQ1 := Lib.hid (show (s[k]'hlt).toNat / 16 < 16 by omega)
      have HQ2 := Lib.hid (show (s[k]'hlt).toNat % 16 < 16 by omega)
      have HV1 := Lib.hid (nib1 (s[k]'hlt))
      have HV2 := Lib.hid (nib2 (s[k]'hlt))
      obtain ⟨d1, hd1⟩ : ∃ d, hexD ((s[k]'hlt).toNat / 16) = d := ⟨_, rfl⟩
      obtain ⟨d2, hd2⟩ : ∃ d, hexD ((s[k]'hlt).toNat % 16) = d := ⟨_, rfl⟩
      have HD1 := Lib.hid hd1
      have HD2 := Lib.hid hd2
      have HTK := Lib.hid (show bvals (hexL (s.take k)) ++ [.int .u8 d1.toNat, .int .u8 d2.toNat] = bvals (hexL (s.take (k + 1))) by rw [← hexL_take s k hlt _ rfl, hd1, hd2]; simp [bvals])
      clear hx hd1 hd2
      go_upto_region 7 with fail
      have hs := H.out.drew
      clear H
      refine wp_region_held_drew (S := fun _ => True) (by kernel_rfl) trivial (fun hHeld => ?_)
      refine wpAnyH_take (i := 0) (oi := { dst := some 14, op := Op.move (Operand.tmp 3), type := 56, pos := "ref.go:37", after := #[], guard := none }) (v := ?_) rfl (by kernel_rfl) (by kernel_rfl) (by kernel_rfl) (fun _ _ _ h => h) (Or.inl ⟨by rfl, ?_⟩) (by assumption) ?_
      rotate_left
      · intro w hSw; (try dsimp only at hSw); go_simp; try with_reducible rfl
      simp only [Act.put, List.setIfInBounds_toArray, List.set_cons_zero, List.set_cons_succ]
      refine wpAnyH_take (i := 1) (oi := { dst := some 15, op := Op.move (Operand.tmp 0), type := 9, pos := "ref.go:37", after := #[], guard := none }) (v := ?_) rfl (by kernel_rfl) (by kernel_rfl) (by kernel_rfl) (fun _ _ _ h => h) (Or.inl ⟨by rfl, ?_⟩) (by assumption) ?_
      rotate_left
      · intro w hSw; (try dsimp only at hSw); go_simp; try with_reducible rfl
      simp only [Act.put, List.setIfInBounds_toArray, List.set_cons_zero, List.set_cons_succ]
      refine wpAnyH_take (i := 2) (oi := { dst := some 16, op := Op.move (Operand.tmp 4), type := 3, pos := "ref.go:37", after := #[], guard := none }) (v := ?_) rfl (by kernel_rfl) (by kernel_rfl) (by kernel_rfl) (fun _ _ _ h => h) (Or.inl ⟨by rfl, ?_⟩) (by assumption) ?_
      rotate_left
      · intro w hSw; (try dsimp only at hSw); go_simp; try with_reducible rfl
      simp only [Act.put, List.setIfInBounds_toArray, List.set_cons_zero, List.set_cons_succ]
      refine wpAnyH_take (i := 3) (oi := { dst := some 17, op := Op.index 9 (Operand.tmp 15) (Operand.tmp 16), type := 5, pos := "ref.go:37", after := #[{ on := 1, ground := Ground.data }, { on := 2, ground := Ground.data }], guard := none }) (v := ?_) rfl (by kernel_rfl) (by kernel_rfl) (by kernel_rfl) (fun _ _ _ h => h) (Or.inl ⟨by rfl, ?_⟩) (by assumption) ?_
      rotate_left
      · intro w hSw; (try dsimp only at hSw); go_simp; try with_reducible rfl
      simp only [Act.put, List.setIfInBounds_toArray, List.set_cons_zero, List.set_cons_succ]
      refine wpAnyH_take (i := 4) (oi := { dst := some 18, op := Op.convert 5 3 (Operand.tmp 17), type := 3, pos := "ref.go:37", after := #[{ on := 3, ground := Ground.data }], guard := none }) (v := ?_) rfl (by kernel_rfl) (by kernel_rfl) (by kernel_rfl) (fun _ _ _ h => h) (Or.inl ⟨by rfl, ?_⟩) (by assumption) ?_
      rotate_left
      · intro w hSw; (try dsimp only at hSw); go_simp; try with_reducible rfl
      simp only [Act.put, List.setIfInBounds_toArray, List.set_cons_zero, List.set_cons_succ]
      refine wpAnyH_take (i := 5) (oi := { dst := some 19, op := Op.binOp BinOp.quo 3 (Operand.tmp 18) (Operand.const (Value.int IntKind.i64 16)) 3, type := 3, pos := "ref.go:37", after := #[{ on := 4, ground := Ground.data }], guard := none }) (v := ?_) rfl (by kernel_rfl) (by kernel_rfl) (by kernel_rfl) (fun _ _ _ h => h) (Or.inl ⟨by rfl, ?_⟩) (by assumption) ?_
      rotate_left
      · intro w hSw; (try dsimp only at hSw); go_simp; try with_reducible rfl
      simp only [Act.put, List.setIfInBounds_toArray, List.set_cons_zero, List.set_cons_succ]
      refine wpAnyH_take (i := 7) (oi := { dst := some 21, op := Op.move (Operand.tmp 0), type := 9, pos := "ref.go:37", after := #[], guard := none }) (v := ?_) rfl (by kernel_rfl) (by kernel_rfl) (by kernel_rfl) (fun _ _ _ h => h) (Or.inl ⟨by rfl, ?_⟩) (by assumption) ?_
      rotate_left
      · intro w hSw; (try dsimp only at hSw); go_simp; try with_reducible rfl
      simp only [Act.put, List.setIfInBounds_toArray, List.set_cons_zero, List.set_cons_succ]
      refine wpAnyH_take (i := 8) (oi := { dst := some 22, op := Op.move (Operand.tmp 4), type := 3, pos := "ref.go:37", after := #[], guard := none }) (v := ?_) rfl (by kernel_rfl) (by kernel_rfl) (by kernel_rfl) (fun _ _ _ h => h) (Or.inl ⟨by rfl, ?_⟩) (by assumption) ?_
      rotate_left
      · intro w hSw; (try dsimp only at hSw); go_simp; try with_reducible rfl
      simp only [Act.put, List.setIfInBounds_toArray, List.set_cons_zero, List.set_cons_succ]
      refine wpAnyH_take (i := 9) (oi := { dst := some 23, op := Op.index 9 (Operand.tmp 21) (Operand.tmp 22), type := 5, pos := "ref.go:37", after := #[{ on := 7, ground := Ground.data }, { on := 8, ground := Ground.data }], guard := none }) (v := ?_) rfl (by kernel_rfl) (by kernel_rfl) (by kernel_rfl) (fun _ _ _ h => h) (Or.inl ⟨by rfl, ?_⟩) (by assumption) ?_
      rotate_left
      · intro w hSw; (try dsimp only at hSw); go_simp; try with_reducible rfl
      simp only [Act.put, List.setIfInBounds_toArray, List.set_cons_zero, List.set_cons_succ]
      refine wpAnyH_take (i := 10) (oi := { dst := some 24, op := Op.convert 5 3 (Operand.tmp 23), type := 3, pos := "ref.go:37", after := #[{ on := 9, ground := Ground.data }], guard := none }) (v := ?_) rfl (by kernel_rfl) (by kernel_rfl) (by kernel_rfl) (fun _ _ _ h => h) (Or.inl ⟨by rfl, ?_⟩) (by assumption) ?_
      rotate_left
      · intro w hSw; (try dsimp only at hSw); go_simp; try with_reducible rfl
      simp only [Act.put, List.setIfInBounds_toArray, List.set_cons_zero, List.set_cons_succ]
      refine wpAnyH_take (i := 11) (oi := { dst := some 25, op := Op.binOp BinOp.rem 3 (Operand.tmp 24) (Operand.const (Value.int IntKind.i64 16)) 3, type := 3, pos := "ref.go:37", after := #[{ on := 10, ground := Ground.data }], guard := none }) (v := ?_) rfl (by kernel_rfl) (by kernel_rfl) (by kernel_rfl) (fun _ _ _ h => h) (Or.inl ⟨by rfl, ?_⟩) (by assumption) ?_
      rotate_left
      · intro w hSw; (try dsimp only at hSw); go_simp; try with_reducible rfl
      simp only [Act.put, List.setIfInBounds_toArray, List.set_cons_zero, List.set_cons_succ]
      refine wpAnyH_ready (rs := [6]) (by kernel_rfl) (by simp) (AllReadyH.cons (o := { dst := some 20, op := Op.call { callee := Callee.value (Operand.func 37), args := #[Operand.tmp 19], argTypes := #[3] }, type := 5, pos := "ref.go:37", after := #[{ on := 5, ground := Ground.data }], guard := none }) rfl (fun KK hK => ?_) AllReadyH.nil)
      · go_simp
        go_at_call 37
        with_reducible refine (rs_digitE _ _ d1 ?_ HQ1.out HD1.out hs).mono ?_
        · exact HV1.out
        rintro e wq ⟨rfl, hs⟩
        refine hK.out _ _ (trivial) (fun hHeld => ?_)
        clear hK KK
        try simp only [Act.put, List.setIfInBounds_toArray, List.set_cons_zero, List.set_cons_succ]
        refine wpAnyH_ready (rs := [12]) (by kernel_rfl) (by simp) (AllReadyH.cons (o := { dst := some 26, op := Op.call { callee := Callee.value (Operand.func 37), args := #[Operand.tmp 25], argTypes := #[3] }, type := 5, pos := "ref.go:37", after := #[{ on := 11, ground := Ground.data }, { on := 6, ground := Ground.chain }], guard := none }) rfl (fun KK hK => ?_) AllReadyH.nil)
        · go_simp
          go_at_call 37
          with_reducible refine (rs_digitE _ _ d2 ?_ HQ2.out HD2.out hs).mono ?_
          · exact HV2.out
          rintro e wq ⟨rfl, hs⟩
          refine hK.out _ _ (trivial) (fun hHeld => ?_)
          clear hK KK
          try simp only [Act.put, List.setIfInBounds_toArray, List.set_cons_zero, List.set_cons_succ]
          refine wpAnyH_ready (rs := [13]) (by kernel_rfl) (by simp) (AllReadyH.cons (o := { dst := some 27, op := Op.buildSlice 56 2 #[(0, Operand.tmp 20), (1, Operand.tmp 26)], type := 56, pos := "ref.go:37", after := #[{ on := 6, ground := Ground.data }, { on := 12, ground := Ground.data }], guard := none }) rfl (fun KK hK => ?_) AllReadyH.nil)
          · rw [if_pos (by rfl)]
            refine op_value (exec_build2 _ _ _ _ (by kernel_rfl) (build2 d1.toNat d2.toNat wq)) ?_
            obtain ⟨wy, b2, ey, eb, hs⟩ := hs.allocEx #[.int .u8 d1.toNat, .int .u8 d2.toNat] 5
            rw [ey, eb]
            clear ey eb
            refine hK.out _ _ (trivial) (fun hHeld => ?_)
            clear hK KK
            try simp only [Act.put, List.setIfInBounds_toArray, List.set_cons_zero, List.set_cons_succ]
            refine wpAnyH_ready (rs := [14]) (by kernel_rfl) (by simp) (AllReadyH.cons (o := { dst := some 28, op := Op.call { callee := Callee.builtin Builtin.append, args := #[Operand.tmp 14, Operand.tmp 27], argTypes := #[56, 56] }, type := 56, pos := "ref.go:37", after := #[{ on := 0, ground := Ground.data }, { on := 13, ground := Ground.data }, { on := 12, ground := Ground.chain }], guard := none }) rfl (fun KK hK => ?_) AllReadyH.nil)
            · rw [if_pos (by rfl)]
              refine op_appm (.tmp 14) (.tmp 27) 56 rfl 5 Tryd.underlying56 elem_u8 _ _ _ (by rfl) b2 2 _ 5 hs (by rfl) rfl (by simp [Value.oneCell']) (by have := HS.out; unfold maxLen; omega) (by have := HS.out; omega) (fun v' w' h => ?_)
              have hs := h
              clear h
              obtain ⟨qv, cv, hv⟩ := hs.rowAny
              subst hv
              refine hK.out _ _ (trivial) (fun hHeld => ?_)
              clear hK KK
              try simp only [Act.put, List.setIfInBounds_toArray, List.set_cons_zero, List.set_cons_succ]
              refine wpAnyH_take (i := 15) (oi := { dst := some 3, op := Op.assign (Operand.tmp 28), type := 56, pos := "ref.go:37", after := #[{ on := 14, ground := Ground.data }, { on := 14, ground := Ground.chain }, { on := 0, ground := Ground.phase }, { on := 1, ground := Ground.phase }, { on := 2, ground := Ground.phase }, { on := 3, ground := Ground.phase }, { on := 4, ground := Ground.phase }, { on := 5, ground := Ground.phase }, { on := 6, ground := Ground.phase }, { on := 7, ground := Ground.phase }, { on := 8, ground := Ground.phase }, { on := 9, ground := Ground.phase }, { on := 10, ground := Ground.phase }, { on := 11, ground := Ground.phase }, { on := 12, ground := Ground.phase }, { on := 13, ground := Ground.phase }, { on := 14, ground := Ground.phase }], guard := none }) (v := ?_) rfl (by kernel_rfl) (by kernel_rfl) (by kernel_rfl) (fun _ _ _ h => h) (Or.inl ⟨by rfl, ?_⟩) (by assumption) ?_
              rotate_left
              · intro w hSw; (try dsimp only at hSw); go_simp; try with_reducible rfl
              simp only [Act.put, List.setIfInBounds_toArray, List.set_cons_zero, List.set_cons_succ]
              refine wpAnyH_done (by kernel_rfl) ?_ _
              clear hHeld
              have H := Lib.hid (show St W0 w' K (.row (.slice qv (2 * (k + 1)) cv) 5 1 (2 * (k + 1)) (bvals (hexL (s.take (k + 1)))) :: L) by rw [← HTK.out]; exact hs)
              clear hs
              go_wp2_with fail
              go_roundw
              case rel => exact ⟨k + 1, cv, qv, hlt, by go_num, rfl, H.out⟩
              case measure => first | (simp [intOf]; done) | (simp [intOf]; omega)
    · obtain rfl : k = s.length := by omega
      have hz : St W0 wr K (.row (.slice q (2 * s.length) cp) 5 1 (2 * s.length) (bvals (hexL s)) :: L) := by have h9 := H.out; rw [List.take_length] at h9; exact h9
      have hcv := hz.rowText (by rw [hexL_len])
      have H2 := Lib.hid hz
      clear H hz
      go_wp2_with fail
      go_ret
      exact ⟨rfl, H2.out.drop⟩

end Go.Proofs.YtenojajfacacoaaDoor
/- Words, by definition. -/
namespace Go.Proofs.YtenojajfacacoaaDoor
open Go.RowKit

set_option maxHeartbeats 4000000 in
set_option maxRecDepth 100000 in
theorem rs_blob (nl : Bool) (d t : Bs) (ht : blobT ⟨nl, d⟩ = t) (hd : d.length ≤ 1000000) {W0 w : World} {K : Know} {L : List Res} (h : St W0 w K L) :
    Calls Tryd.prog 29 #[.agg #[.bool nl, .string (bb d)]] w fun en w' => en = .returned (.string (bb t)) ∧ St W0 w' K L := by
  obtain ⟨xb, hxb⟩ : ∃ b, w.heap.size = b := ⟨_, rfl⟩
  have g1 := h.allocRaw #[.bool nl, .string (bb d)] 48
  rw [hxb] at g1
  have c0 := (g1).rawCell 0; have c1 := (g1).rawCell 1; simp at c0 c1
  have H := Lib.hid g1
  have HDL := Lib.hid hd
  subst ht
  clear h g1 hd
  cases nl
  · go_enter Tryd.func29, Tryd.ntmps29
    go_wp2_with (go_at_call 17; (with_reducible refine (rs_hex d HDL.out H.out).mono ?_); rintro e_ wn ⟨rfl, h⟩; replace H := Lib.hid h; clear h)
    go_ret
    exact ⟨rfl, H.out.drop⟩
  · go_enter Tryd.func29, Tryd.ntmps29
    go_wp2_with fail
    go_ret
    exact ⟨rfl, H.out.drop⟩
set_option maxHeartbeats 4000000 in
set_option maxRecDepth 100000 in
theorem rs_letters (a0 a1 a2 a3 a4 a5 a6 a7 : Value) (va vt vc : Bool) (v t : Value) (ht : t = .string (bb (letW va vt vc))) {W0 w : World} {K : Know} {L : List Res} (h : St W0 w K L) :
    Calls Tryd.prog 28 #[.agg #[a0, a1, .bool va, .bool vt, .bool vc, a2, a3, a4, a5, a6, a7, v]] w fun en w' => en = .returned t ∧ St W0 w' K L := by
  obtain ⟨xb, hxb⟩ : ∃ b, w.heap.size = b := ⟨_, rfl⟩
  have g1 := h.allocRaw #[a0, a1, .bool va, .bool vt, .bool vc, a2, a3, a4, a5, a6, a7, v] 45
  rw [hxb] at g1
  have c2 := g1.rawCell 2
  have c3 := g1.rawCell 3
  have c4 := g1.rawCell 4
  simp at c2 c3 c4
  have k0 : ((⟨#[]⟩ : ByteArray) ++ (⟨#[97]⟩ : ByteArray)) = ⟨#[97]⟩ := by rfl
  have k1 : ((⟨#[]⟩ : ByteArray) ++ (⟨#[116]⟩ : ByteArray)) = ⟨#[116]⟩ := by rfl
  have k2 : ((⟨#[]⟩ : ByteArray) ++ (⟨#[99]⟩ : ByteArray)) = ⟨#[99]⟩ := by rfl
  have k3 : ((⟨#[97]⟩ : ByteArray) ++ (⟨#[116]⟩ : ByteArray)) = ⟨#[97, 116]⟩ := by rfl
  have k4 : ((⟨#[97]⟩ : ByteArray) ++ (⟨#[99]⟩ : ByteArray)) = ⟨#[97, 99]⟩ := by rfl
  have k5 : ((⟨#[116]⟩ : ByteArray) ++ (⟨#[99]⟩ : ByteArray)) = ⟨#[116, 99]⟩ := by rfl
  have k6 : ((⟨#[97, 116]⟩ : ByteArray) ++ (⟨#[99]⟩ : ByteArray)) = ⟨#[97, 116, 99]⟩ := by rfl
  have j7 : (⟨#[97]⟩ : ByteArray).toList.isEmpty = false := by decide +kernel
  have j8 : (⟨#[116]⟩ : ByteArray).toList.isEmpty = false := by decide +kernel
  have j9 : (⟨#[99]⟩ : ByteArray).toList.isEmpty = false := by decide +kernel
  have j10 : (⟨#[97, 116]⟩ : ByteArray).toList.isEmpty = false := by decide +kernel
  have j11 : (⟨#[97, 99]⟩ : ByteArray).toList.isEmpty = false := by decide +kernel
  have j12 : (⟨#[116, 99]⟩ : ByteArray).toList.isEmpty = false := by decide +kernel
  have j13 : (⟨#[97, 116, 99]⟩ : ByteArray).toList.isEmpty = false := by decide +kernel
  have H := Lib.hid g1
  subst ht
  clear h g1
  cases va <;> cases vt <;> cases vc <;> (
    go_enter Tryd.func28, Tryd.ntmps28
    go_wp2_with fail
    go_ret
    exact ⟨rfl, H.out.drop⟩)

end Go.Proofs.YtenojajfacacoaaDoor
/- Lines, by definition (pure). -/
namespace Go.Proofs.YtenojajfacacoaaDoor
open Go.RowKit

theorem rs_hexT (s t : Bs) (ht : hexW s = t) (hs : s.length ≤ 1000000) {W0 w : World} {K : Know} {L : List Res} (h : St W0 w K L) :
    Calls Tryd.prog 17 #[.string (bb s)] w fun en w' => en = .returned (.string (bb t)) ∧ St W0 w' K L := by
  subst ht; exact rs_hex s hs h
theorem flat_le {α : Type} (f : α → Bs) : ∀ (l : List α), (∀ x ∈ l, 1 ≤ (f x).length) → l.length ≤ (l.flatMap f).length
  | [], _ => Nat.le_refl _
  | x :: t, h => by
    have h1 := flat_le f t (fun y hy => h y (by simp [hy]))
    have h2 := h x (by simp)
    rw [List.flatMap_cons, List.length_append, List.length_cons]
    omega
theorem hexW_len (s : Bs) : s.length ≤ (hexW s).length := by
  unfold hexW
  split
  · rename_i h; subst h; exact Nat.zero_le _
  · rw [hexL_len]; omega
theorem blobT_len (b : BlobS) (h : oddB b = false) : b.data.length ≤ (blobT b).length := by
  unfold blobT
  split
  · rename_i hn
    unfold oddB at h
    rw [hn] at h
    simp at h
    rw [h]; exact Nat.zero_le _
  · exact hexW_len _

end Go.Proofs.YtenojajfacacoaaDoor
/- Batches (pure): rows. -/
namespace Go.Proofs.YtenojajfacacoaaDoor
open Go.RowKit

def FitB (l : List (RecS × Value)) : Prop := ∀ x ∈ l, x.1.R ∧ HFit x.1.hdrs ∧ x.1.sum ≤ 1000000
theorem sum_hdrs {x : RecS} (h : x.sum ≤ 1000000) : x.hdrs.length ≤ 1000000 := by have := hsum_le x.hdrs; unfold RecS.sum at h; omega
theorem sum_data {x : RecS} (h : x.sum ≤ 1000000) : x.key.data.length ≤ 140737488355328 ∧ x.val.data.length ≤ 140737488355328 := by unfold RecS.sum at h; omega
theorem drop_recs (l : List (RecS × Value)) (k : Nat) (h : k < l.length) (x : RecS) (hx : l[k].1 = x) : (l.map (·.1)).drop k = x :: (l.map (·.1)).drop (k + 1) := by
  subst hx
  rw [List.drop_eq_getElem_cons (by simpa using h), List.getElem_map]
def GOf (r : Except Int Int) : Int := match r with | .ok g => g | .error _ => 0
theorem rowsC_cons (first last : Int) (r : RecS) (t : List RecS) (ah g : Int) : rowsC first last (r :: t) ah g = if r.off ≤ ah ∨ last < r.off then .error 13 else if r.time < -first ∨ 9223372036854775807 - first < r.time then .error 11 else rowsC first last t r.off (max g (first + r.time)) := rfl

end Go.Proofs.YtenojajfacacoaaDoor
/- Batches (pure): small ones. -/
namespace Go.Proofs.YtenojajfacacoaaDoor
open Go.RowKit

def FitW (l : List (RecS × Value)) : Prop := ∀ x ∈ l, x.1.R ∧ x.1.hdrs.length ≤ 9223372036854775807 ∧ HFit x.1.hdrs ∧ x.1.key.data.length ≤ 140737488351232 ∧ x.1.val.data.length ≤ 140737488351232
def hAll : List HdrS → Bool
  | [] => true
  | h :: t => decide (h.key.length + h.val.data.length ≤ 100) && hAll t
def smallRec (x : RecS) : Bool := decide (x.key.data.length + x.val.data.length ≤ 100) && (decide (x.hdrs.length ≤ 6) && hAll x.hdrs)
def rAll : List RecS → Bool
  | [] => true
  | r :: t => smallRec r && rAll t
def smallB (l : List RecS) : Bool := decide (l.length ≤ 12) && rAll l
theorem hAll_sum : ∀ (l : List HdrS), hAll l = true → hsum l ≤ 101 * l.length
  | [], _ => by simp [hsum]
  | h :: t, hh => by
    simp only [hAll, Bool.and_eq_true, decide_eq_true_eq] at hh
    have := hAll_sum t hh.2
    simp only [hsum, List.length_cons, List.map_cons, List.sum_cons] at *
    omega
theorem rAll_mem : ∀ (l : List RecS), rAll l = true → ∀ x ∈ l, smallRec x = true
  | [], _, _, h => by cases h
  | r :: t, hh, x, hx => by
    simp only [rAll, Bool.and_eq_true] at hh
    rcases List.mem_cons.1 hx with rfl | hx
    · exact hh.1
    · exact rAll_mem t hh.2 x hx
theorem smallRec_sum {x : RecS} (h : smallRec x = true) : x.sum ≤ 1000 := by
  unfold smallRec at h
  simp only [Bool.and_eq_true, decide_eq_true_eq] at h
  have := hAll_sum _ h.2.2
  unfold RecS.sum
  omega
theorem FitW.fit {l : List (RecS × Value)} (h : FitW l) (hs : smallB (l.map (·.1)) = true) : FitB l := by
  intro x hx
  unfold smallB at hs
  simp only [Bool.and_eq_true] at hs
  have h1 := smallRec_sum (rAll_mem _ hs.2 x.1 (List.mem_map.2 ⟨x, hx, rfl⟩))
  obtain ⟨a, b, c, _⟩ := h x hx
  exact ⟨a, c, by omega⟩
theorem smallB_len {l : List (RecS × Value)} (hs : smallB (l.map (·.1)) = true) : l.length ≤ 12 := by
  unfold smallB at hs
  simp only [Bool.and_eq_true, decide_eq_true_eq, List.length_map] at hs
  exact hs.1
theorem drop_hdrs (l : List HdrS) (k : Nat) (h : k < l.length) : l.drop k = l[k] :: l.drop (k + 1) := List.drop_eq_getElem_cons h

end Go.Proofs.YtenojajfacacoaaDoor
