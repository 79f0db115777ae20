/- Lines, by definition (pure). -/
import Derived.Test.YtenojajfacacoaaDoorGScriptParsesCard3
import Derived.Test.YtenojajfacacoaaDoorGScriptParsesCard4
import Derived.Test.YtenojajfacacoaaDoorGScriptParsesCard2
import Derived.Test.YtenojajfacacoaaDoorShl
import Derived.Lib.Join
import Derived.Test.YtenojajfacacoaaDoorSc7P
import Derived.Test.YtenojajfacacoaaDoorRegOp
import Derived.RegionTactic
import Derived.WalkMore
import Derived.Deep.RegionHeld3
import Derived.Deep.DeepCutAuto
import Derived.Lib.ItoaMem
import Derived.Lib.ItoaLen
import Derived.Test.YtenojajfacacoaaDoorSc1P
import Derived.Test.YtenojajfacacoaaDoorSb1
import Derived.Test.YtenojajfacacoaaDoorSc6
/- A line of a script, read. -/
namespace Go.Proofs.YtenojajfacacoaaDoor
open Go.RowKit

theorem rd_line (rd wb : Nat) (s : BSt) (c : Int) (ch : List Int) (w0 : Bs) (r : List Bs) (hx : ∀ y ∈ w0 :: r, y.length ≤ 1000000) (hr : (w0 :: r).length ≤ 1000000) (hb : s.n ≤ 1000000 ∧ s.m ≤ 1000000 ∧ s.p ≤ 1000000) {W0 w : World} {K : Know} {L : List Res} (hlib : K.has Know.lib) (hk : K.has (Know.strs wb 0 (w0 :: r))) (hm : MemS rd s c ch W0 w K L) :
    Calls Tryd.prog 26 #[.pointer (some ⟨rd, 0, none⟩), .slice (some ⟨wb, 0, none⟩) (w0 :: r).length (w0 :: r).length] w fun en w' => ∃ b, en = .returned (.bool b) ∧ Came rd s c ch (rdLine s.n s.m c ch (w0 :: r)) W0 K L b w' := by
  obtain ⟨vB, vR, vH, q, cap, h, hs, hf⟩ := hm
  rcases ch with _ | ⟨j, u⟩
  · have h : St W0 w K (.raw rd #[vB, .int .i64 c, .slice q 0 cap] 65 :: s.rows vB vR vH L) := h
    have hl0 : rdLine s.n s.m c [] (w0 :: r) = if w0 = [99, 104, 117, 110, 107, 115] then (rdChunks r).map .chunks
      else if c ≠ -1 then none
      else if w0 = [99, 117, 116] then (rdCut r).map .cut
      else if w0 = [98, 97, 116, 99, 104] then (rdBat r).map .bat
      else if w0 = [114, 101, 99, 111, 114, 100] then (if s.n = 0 then none else (rdRec r).map .recd)
      else if w0 = [104, 101, 97, 100, 101, 114] then (if s.n = 0 ∨ s.m = 0 then none else (rdHdr r).map .hdr)
      else none := rfl
    by_cases h1 : w0 = [99, 104, 117, 110, 107, 115]
    · have hl := hl0.trans (if_pos h1)
      clear hl0
      subst h1
      rcases r with _ | ⟨a, t⟩
      · refine (disp_chunks0 (Came rd s c [] (((rdChunks []).map .chunks)) W0 K L) rd wb cap q vB c [] hk h ?_).mono ?_
        · intro w2 h2
          
          exact k_chunks rd wb 0 cap s c q vB vR vH [] (fun y hy => by cases hy) (Nat.zero_le _) hb hlib hs (strs_take hk 0) h2
        · rintro en w' ⟨b, rfl, h2⟩
          exact ⟨b, rfl, by rw [hl]; exact h2⟩
      · refine (disp_chunks (Came rd s c [] (((rdChunks (a :: t)).map .chunks)) W0 K L) rd wb t.length cap q vB c (a :: t) (by simp at hr; omega) hk h ?_).mono ?_
        · intro w2 h2
          
          exact k_chunks rd wb 1 cap s c q vB vR vH (a :: t) (fun y hy => hx y (List.mem_cons_of_mem _ hy)) (by simp at hr ⊢; omega) hb hlib hs (strs_drop hk 1) h2
        · rintro en w' ⟨b, rfl, h2⟩
          exact ⟨b, rfl, by rw [hl]; exact h2⟩
    rw [if_neg h1] at hl0
    by_cases hc : c = -1
    · rw [if_neg (fun h => h hc)] at hl0
      by_cases h2 : w0 = [99, 117, 116]
      · have hl := hl0.trans (if_pos h2)
        clear hl0
        subst h2
        rcases r with _ | ⟨a, t⟩
        · refine (disp_cut0 (Came rd s c [] (((rdCut []).map .cut)) W0 K L) rd wb cap q vB c [] hc hk h ?_).mono ?_
          · intro w2 h2
            subst hc
            exact k_cut rd wb 0 cap s q vB vR vH [] (fun y hy => by cases hy) (Nat.zero_le _) hb hlib hs (strs_take hk 0) h2
          · rintro en w' ⟨b, rfl, h2⟩
            exact ⟨b, rfl, by rw [hl]; exact h2⟩
        · refine (disp_cut (Came rd s c [] (((rdCut (a :: t)).map .cut)) W0 K L) rd wb t.length cap q vB c (a :: t) hc (by simp at hr; omega) hk h ?_).mono ?_
          · intro w2 h2
            subst hc
            exact k_cut rd wb 1 cap s q vB vR vH (a :: t) (fun y hy => hx y (List.mem_cons_of_mem _ hy)) (by simp at hr ⊢; omega) hb hlib hs (strs_drop hk 1) h2
          · rintro en w' ⟨b, rfl, h2⟩
            exact ⟨b, rfl, by rw [hl]; exact h2⟩
      rw [if_neg h2] at hl0
      by_cases h3 : w0 = [98, 97, 116, 99, 104]
      · have hl := hl0.trans (if_pos h3)
        clear hl0
        subst h3
        rcases r with _ | ⟨a, t⟩
        · refine (disp_batch0 (Came rd s c [] (((rdBat []).map .bat)) W0 K L) rd wb cap q vB c [] hc hk h ?_).mono ?_
          · intro w2 h2
            subst hc
            exact k_bat rd wb 0 cap s q vB vR vH [] (fun y hy => by cases hy) (Nat.zero_le _) hb hlib hs (strs_take hk 0) h2
          · rintro en w' ⟨b, rfl, h2⟩
            exact ⟨b, rfl, by rw [hl]; exact h2⟩
        · refine (disp_batch (Came rd s c [] (((rdBat (a :: t)).map .bat)) W0 K L) rd wb t.length cap q vB c (a :: t) hc (by simp at hr; omega) hk h ?_).mono ?_
          · intro w2 h2
            subst hc
            exact k_bat rd wb 1 cap s q vB vR vH (a :: t) (fun y hy => hx y (List.mem_cons_of_mem _ hy)) (by simp at hr ⊢; omega) hb hlib hs (strs_drop hk 1) h2
          · rintro en w' ⟨b, rfl, h2⟩
            exact ⟨b, rfl, by rw [hl]; exact h2⟩
      rw [if_neg h3] at hl0
      by_cases h4 : w0 = [114, 101, 99, 111, 114, 100]
      · have hl := hl0.trans (if_pos h4)
        clear hl0
        subst h4
        rcases r with _ | ⟨a, t⟩
        · refine (disp_record0 (Came rd s c [] ((if s.n = 0 then none else (rdRec []).map .recd)) W0 K L) rd wb cap q vB c [] hc hk h ?_).mono ?_
          · intro w2 h2
            subst hc
            exact k_rec rd wb 0 cap s q vB vR vH [] (fun y hy => by cases hy) (Nat.zero_le _) hb hlib hs (strs_take hk 0) h2
          · rintro en w' ⟨b, rfl, h2⟩
            exact ⟨b, rfl, by rw [hl]; exact h2⟩
        · refine (disp_record (Came rd s c [] ((if s.n = 0 then none else (rdRec (a :: t)).map .recd)) W0 K L) rd wb t.length cap q vB c (a :: t) hc (by simp at hr; omega) hk h ?_).mono ?_
          · intro w2 h2
            subst hc
            exact k_rec rd wb 1 cap s q vB vR vH (a :: t) (fun y hy => hx y (List.mem_cons_of_mem _ hy)) (by simp at hr ⊢; omega) hb hlib hs (strs_drop hk 1) h2
          · rintro en w' ⟨b, rfl, h2⟩
            exact ⟨b, rfl, by rw [hl]; exact h2⟩
      rw [if_neg h4] at hl0
      by_cases h5 : w0 = [104, 101, 97, 100, 101, 114]
      · have hl := hl0.trans (if_pos h5)
        clear hl0
        subst h5
        rcases r with _ | ⟨a, t⟩
        · refine (disp_header0 (Came rd s c [] ((if s.n = 0 ∨ s.m = 0 then none else (rdHdr []).map .hdr)) W0 K L) rd wb cap q vB c [] hc hk h ?_).mono ?_
          · intro w2 h2
            subst hc
            exact k_hdr rd wb 0 cap s q vB vR vH [] (fun y hy => by cases hy) (Nat.zero_le _) hb hlib hs (strs_take hk 0) h2
          · rintro en w' ⟨b, rfl, h2⟩
            exact ⟨b, rfl, by rw [hl]; exact h2⟩
        · refine (disp_header (Came rd s c [] ((if s.n = 0 ∨ s.m = 0 then none else (rdHdr (a :: t)).map .hdr)) W0 K L) rd wb t.length cap q vB c (a :: t) hc (by simp at hr; omega) hk h ?_).mono ?_
          · intro w2 h2
            subst hc
            exact k_hdr rd wb 1 cap s q vB vR vH (a :: t) (fun y hy => hx y (List.mem_cons_of_mem _ hy)) (by simp at hr ⊢; omega) hb hlib hs (strs_drop hk 1) h2
          · rintro en w' ⟨b, rfl, h2⟩
            exact ⟨b, rfl, by rw [hl]; exact h2⟩
      have hl := hl0.trans (if_neg h5)
      rcases r with _ | ⟨a, t⟩
      · refine (ref_word0 rd wb cap q vB c w0 [] hc h1 h2 h3 h4 h5 hk h).mono ?_
        rintro en w' ⟨rfl, h⟩
        exact ⟨_, rfl, .no hl (rows_drop h)⟩
      · refine (ref_word rd wb t.length cap q vB c w0 (a :: t) hc h1 h2 h3 h4 h5 (by simp at hr; omega) hk h).mono ?_
        rintro en w' ⟨rfl, h⟩
        exact ⟨_, rfl, .no hl (rows_drop h)⟩
    · have hl := hl0.trans (if_pos hc)
      rcases r with _ | ⟨a, t⟩
      · refine (ref_cut0 rd wb cap q vB c w0 [] hc h1 hk h).mono ?_
        rintro en w' ⟨rfl, h⟩
        exact ⟨_, rfl, .no hl (rows_drop h)⟩
      · refine (ref_cut rd wb t.length cap q vB c w0 (a :: t) hc h1 (by simp at hr; omega) hk h).mono ?_
        rintro en w' ⟨rfl, h⟩
        exact ⟨_, rfl, .no hl (rows_drop h)⟩
  · have hl : rdLine s.n s.m c (j :: u) (w0 :: r) = none := by simp [rdLine]
    rcases r with _ | ⟨a, t⟩
    · refine (ref_chunks0 rd wb cap q vB c w0 [] u.length hk h).mono ?_
      rintro en w' ⟨rfl, h⟩
      exact ⟨_, rfl, .no hl (rows_drop h)⟩
    · refine (ref_chunks rd wb t.length cap q vB c w0 (a :: t) u.length (by simp at hr; omega) hk h).mono ?_
      rintro en w' ⟨rfl, h⟩
      exact ⟨_, rfl, .no hl (rows_drop h)⟩

end Go.Proofs.YtenojajfacacoaaDoor
/- Texts, line by line (pure). -/
namespace Go.Proofs.YtenojajfacacoaaDoor
open Go.RowKit

theorem rd_line_no (rd wb nw : Nat) (s : BSt) (c : Int) (ch : List Int) (w0 : Bs) (r : List Bs) (hnw : nw = (w0 :: r).length) (hx : ∀ y ∈ w0 :: r, y.length ≤ 1000000) (hr : (w0 :: r).length ≤ 1000000) (hb : s.n ≤ 1000000 ∧ s.m ≤ 1000000 ∧ s.p ≤ 1000000) (hno : rdLine s.n s.m c ch (w0 :: r) = none) {W0 w : World} {K : Know} {L : List Res} (hlib : K.has Know.lib) (hk : K.has (Know.strs wb 0 (w0 :: r))) (hm : MemS rd s c ch W0 w K L) :
    Calls Tryd.prog 26 #[.pointer (some ⟨rd, 0, none⟩), .slice (some ⟨wb, 0, none⟩) nw nw] w fun en w' => ∃ K', en = .returned (.bool false) ∧ K'.has K ∧ St W0 w' K' L := by
  subst hnw
  refine (rd_line rd wb s c ch w0 r hx hr hb hlib hk hm).mono ?_
  rintro en w' ⟨b, rfl, K', hk', h⟩
  rw [hno] at h
  obtain ⟨rfl, h⟩ := h
  exact ⟨K', rfl, hk', h⟩
theorem rd_line_yes (rd wb nw : Nat) (s : BSt) (c : Int) (ch : List Int) (w0 : Bs) (r : List Bs) (k : Said) (hnw : nw = (w0 :: r).length) (hx : ∀ y ∈ w0 :: r, y.length ≤ 1000000) (hr : (w0 :: r).length ≤ 1000000) (hb : s.n ≤ 1000000 ∧ s.m ≤ 1000000 ∧ s.p ≤ 1000000) (hyes : rdLine s.n s.m c ch (w0 :: r) = some k) {W0 w : World} {K : Know} {L : List Res} (hlib : K.has Know.lib) (hk : K.has (Know.strs wb 0 (w0 :: r))) (hm : MemS rd s c ch W0 w K L) :
    Calls Tryd.prog 26 #[.pointer (some ⟨rd, 0, none⟩), .slice (some ⟨wb, 0, none⟩) nw nw] w fun en w' => ∃ K' vR vH, en = .returned (.bool true) ∧ K'.has K ∧ MemS rd (s.put vR vH k) (cutOf c k) (chOf ch k) W0 w' K' L := by
  subst hnw
  refine (rd_line rd wb s c ch w0 r hx hr hb hlib hk hm).mono ?_
  rintro en w' ⟨b, rfl, K', hk', h⟩
  rw [hyes] at h
  obtain ⟨rfl, vR, vH, h⟩ := h
  exact ⟨K', vR, vH, rfl, hk', h⟩
theorem parseL_no (n m : Nat) (c : Int) (ch : List Int) (ln : Nat) (l : Bs) (q : Bs) (r : List Bs) (h : rdLine n m c ch (partsC 32 l) = none) : parseL n m c ch ln (l :: q :: r) = ln := by
  show (match rdLine n m c ch (partsC 32 l) with | none => ln | some k => parseL (nOf n k) (mOf m k) (cutOf c k) (chOf ch k) (ln + 1) (q :: r)) = ln
  rw [h]
theorem parseL_yes (n m : Nat) (c : Int) (ch : List Int) (ln : Nat) (l : Bs) (q : Bs) (r : List Bs) (k : Said) (h : rdLine n m c ch (partsC 32 l) = some k) : parseL n m c ch ln (l :: q :: r) = parseL (nOf n k) (mOf m k) (cutOf c k) (chOf ch k) (ln + 1) (q :: r) := by
  show (match rdLine n m c ch (partsC 32 l) with | none => ln | some k => parseL (nOf n k) (mOf m k) (cutOf c k) (chOf ch k) (ln + 1) (q :: r)) = _
  rw [h]
/-- Up to where a text was read. -/
structure Upto (text t : Bs) (s : BSt) (c : Int) (ch : List Int) (ln : Nat) : Prop where
  txt : txtS s c ch ++ t = text
  cut : -1 ≤ c
  cutR : Rn c
  chR : ∀ v ∈ ch, Rn v
  fine : s.fine
  n : s.n ≤ ln
  m : s.m ≤ ln
  p : s.p ≤ ln
  one : 1 ≤ ln
  len : ln + t.length ≤ text.length + 1
  rest : parseL s.n s.m c ch ln (partsC 10 t) = parseL 0 0 (-1) [] 1 (partsC 10 text)
theorem Upto.next {text t : Bs} {s : BSt} {c : Int} {ch : List Int} {ln i : Nat} {k : Said} (u : Upto text t s c ch ln) (hi : i < t.length) (hp : partsC 10 t = t.take i :: partsC 10 (t.drop (i + 1))) (hl : rdLine s.n s.m c ch (partsC 32 (t.take i)) = some k) (ht : t = t.take i ++ 10 :: t.drop (i + 1)) (vR vH : Value) : Upto text (t.drop (i + 1)) (s.put vR vH k) (cutOf c k) (chOf ch k) (ln + 1) := by
  obtain ⟨h1, h2, h3, h4, h5, h6, h7, h8⟩ := line_one s c ch (t.take i) k vR vH u.cut u.cutR u.chR u.fine hl
  have h9 : nOf s.n k ≤ s.n + 1 := by cases k <;> simp [nOf]
  have h10 : mOf s.m k ≤ s.m + 1 := by cases k <;> simp [mOf]
  have := u.n; have := u.m; have := u.p; have := u.len
  refine ⟨?_, h5, h6, h7, h8, by omega, by omega, by omega, by omega, by simp; omega, ?_⟩
  · rw [h1, ← u.txt]
    conv => rhs; rw [ht]
    simp
  · rw [← u.rest, hp, h2, h3]
    obtain ⟨q, r, e⟩ := partsC_ne 10 (t.drop (i + 1))
    rw [e, parseL_yes _ _ _ _ _ _ _ _ k hl]
theorem parts_cut {c : UInt8} {t : Bs} {i : Nat} (h : i < t.length) (hp : partsC c t = t.take i :: partsC c (t.drop (i + 1))) : t = t.take i ++ c :: t.drop (i + 1) := by
  have h1 := join_parts c t
  obtain ⟨q, r, e⟩ := partsC_ne c (t.drop (i + 1))
  rw [hp, e, joinC_cons, ← e, join_parts] at h1
  exact h1.symm

end Go.Proofs.YtenojajfacacoaaDoor
/- Lines (pure). -/
namespace Go.Proofs.YtenojajfacacoaaDoor
open Go.RowKit

theorem sl_join (ws : List Bs) (t : Bs) (wb n cap : Nat) (hn : n = ws.length) (hnc : n ≤ cap) (hl : ws.length ≤ 1000000) (ht : Lib.join ws [10] = t) (htl : t.length ≤ 1000000) {W0 w : World} {K : Know} {L : List Res} (hk : K.has (Know.strs wb 0 ws)) (h : St W0 w K L) :
    Calls Tryd.prog 14 #[.slice (some ⟨wb, 0, none⟩) n cap, .string ⟨#[10]⟩] w fun e w' => e = .returned (.string (bb t)) ∧ St W0 w' K L := by
  subst hn
  obtain ⟨F, hF, _⟩ := h.get
  obtain ⟨_, h2, h3⟩ := hk _ _ hF
  have e1 : (ws.map bb).map (fun x => x.data.toList) = ws := by
    rw [List.map_map]
    conv => rhs; rw [← List.map_id ws]
    refine List.map_congr_left fun x _ => ?_
    simp
  have e2 : (⟨#[10]⟩ : ByteArray).data.toList = [10] := rfl
  have h4 := Tryd.strings_Join wb 0 cap (ws.map bb) ⟨#[10]⟩ w (fun j x hx => by
    rw [List.getElem?_map] at hx
    cases hj : ws[j]? with
    | none => rw [hj] at hx; cases hx
    | some y => rw [hj] at hx; injection hx with hx; subst hx; exact h3 j y hj) h2 (by simp; omega) (by simpa using hnc) (by rw [e1, e2, ht]; omega)
  rw [e1, e2, ht, List.length_map] at h4
  exact h4.mono (by rintro e w' ⟨rfl, hb⟩; exact ⟨rfl, h.below' hb⟩)
theorem sl_splitNL (s : Bs) (ws : List Bs) (n : Nat) (hn : ws.length = n) (hw : partsC 10 s = ws) (hs : s.length ≤ 1000000) {W0 w : World} {K : Know} {L : List Res} (hk : K.has Know.lib) (h : St W0 w K L) :
    Calls Tryd.prog 13 #[.string (bb s), .string ⟨#[10]⟩] w fun e w' => ∃ b, e = .returned (.slice (some ⟨b, 0, none⟩) n n) ∧ St W0 w' K (.raw b (ws.map fun x => Value.string (bb x)).toArray 9 :: L) := by
  subst hn hw
  obtain ⟨m, hm⟩ := lib_max hk h
  have h1 := Tryd.strings_Split (bb s) (bb [10]) m w (by have hz : (bb s).size = s.length := (by simp); omega) hm (by decide)
  have e0 := splitB_parts 10 s
  have e1 : Lib.countB (bb s) (bb [10]) + 1 = (partsC 10 s).length := by
    have h2 := Lib.splitB_all (bb [10]) (by decide) 0 _ (bb s) rfl
    rw [e0, List.length_map] at h2
    omega
  have e2 : (Lib.splitB (bb [10]) 0 (Lib.countB (bb s) (bb [10])) (bb s)).map Value.string = (partsC 10 s).map fun x => Value.string (bb x) := by
    rw [e0, List.map_map]
    rfl
  rw [e1, e2] at h1
  exact h1.mono (by rintro e w' ⟨rfl, rfl⟩; exact ⟨_, rfl, h.allocRaw _ _⟩)
theorem parts_free (c : UInt8) : ∀ s : Bs, ∀ y ∈ partsC c s, c ∉ y
  | [] => fun y hy => by rw [List.mem_singleton.1 hy]; exact List.not_mem_nil
  | x :: t => by
    have ih := parts_free c t
    obtain ⟨h, r, e⟩ := partsC_ne c t
    by_cases hx : x = c
    · rw [partsC_hit c x t hx]
      intro y hy
      rcases List.mem_cons.1 hy with rfl | hy
      · exact List.not_mem_nil
      · exact ih y hy
    · rw [partsC_miss c x t h r hx e]
      rw [e] at ih
      intro y hy
      rcases List.mem_cons.1 hy with rfl | hy
      · intro hc
        rcases List.mem_cons.1 hc with hc | hc
        · exact hx hc.symm
        · exact ih h (by simp) hc
      · exact ih y (by simp [hy])
theorem parts_app (c : UInt8) (t : Bs) : ∀ l : Bs, c ∉ l → partsC c (l ++ c :: t) = l :: partsC c t
  | [], _ => partsC_hit c c t rfl
  | x :: l, h => by
    have hx : ¬ x = c := fun e => h (by simp [e])
    exact partsC_miss c x _ l _ hx (parts_app c t l (fun hc => h (List.mem_cons_of_mem _ hc)))
/-- Lines, each with its end. -/
def linesT (ls : List Bs) : Bs := ls.flatMap fun l => l ++ [10]
theorem parts_lines : ∀ ls : List Bs, (∀ l ∈ ls, (10 : UInt8) ∉ l) → partsC 10 (linesT ls) = ls ++ [[]]
  | [], _ => rfl
  | l :: r, h => by
    have e : linesT (l :: r) = l ++ 10 :: linesT r := by unfold linesT; rw [List.flatMap_cons, List.append_assoc]; rfl
    rw [e, parts_app 10 _ l (h l (by simp)), parts_lines r (fun x hx => h x (by simp [hx]))]
    rfl
theorem join_lines : ∀ ls : List Bs, ls ≠ [] → Lib.join ls [10] ++ [10] = linesT ls
  | [], h => absurd rfl h
  | [l], _ => by rw [Lib.join_one]; simp [linesT]
  | l :: q :: r, _ => by
    have ih := join_lines (q :: r) (by simp)
    rw [Lib.join_cons] at ih ⊢
    have e : linesT (l :: q :: r) = l ++ ([10] ++ linesT (q :: r)) := by unfold linesT; rw [List.flatMap_cons, List.append_assoc]
    rw [e, ← ih]
    simp [Lib.joinTail]
theorem linesT_len : ∀ (ls : List Bs) (j : Nat), (linesT (ls.take j)).length ≤ (joinC 10 ls).length + 1
  | [], j => by simp [linesT]
  | [l], 0 => by simp [linesT]
  | [l], j + 1 => by simp [linesT, joinC]
  | l :: q :: r, 0 => by simp [linesT]
  | l :: q :: r, j + 1 => by
    have ih := linesT_len (q :: r) j
    have e : linesT ((l :: q :: r).take (j + 1)) = l ++ ([10] ++ linesT ((q :: r).take j)) := by unfold linesT; rw [List.take_succ_cons, List.flatMap_cons, List.append_assoc]
    rw [e, joinC_cons]
    simp only [List.length_append, List.length_cons, List.length_nil]
    omega
theorem parseL_yes' (n m : Nat) (c : Int) (ch : List Int) (ln : Nat) (l : Bs) (X : List Bs) (hX : X ≠ []) (k : Said) (h : rdLine n m c ch (partsC 32 l) = some k) : parseL n m c ch ln (l :: X) = parseL (nOf n k) (mOf m k) (cutOf c k) (chOf ch k) (ln + 1) X := by
  cases X with
  | nil => exact absurd rfl hX
  | cons q r => exact parseL_yes _ _ _ _ _ _ _ _ k h
/-- The lines ahead of one that ends a script are a script, and it isn't one more. -/
theorem parseL_ends : ∀ (ls : List Bs) (n m : Nat) (c : Int) (ch : List Int) (ln : Nat), 0 < ln → parseL n m c ch ln ls ≠ 0 → ∃ j, parseL n m c ch ln ls = ln + j ∧ ∃ hj : j < ls.length, parseL n m c ch ln (ls.take j ++ [[]]) = 0 ∧ (j + 1 = ls.length ∨ parseL n m c ch ln (ls.take j ++ [ls[j], []]) = ln + j)
  | [], n, m, c, ch, ln, h0, h => absurd rfl h
  | [l], n, m, c, ch, ln, h0, h => by
    by_cases hl : l = []
    · exact absurd (if_pos hl) h
    · exact ⟨0, if_neg hl, by simp, rfl, .inl rfl⟩
  | l :: q :: r, n, m, c, ch, ln, h0, h => by
    cases hr : rdLine n m c ch (partsC 32 l) with
    | none => exact ⟨0, parseL_no _ _ _ _ _ _ _ _ hr, by simp, rfl, .inr (parseL_no _ _ _ _ _ _ _ _ hr)⟩
    | some k =>
      have e := parseL_yes n m c ch ln l q r k hr
      rw [e] at h ⊢
      obtain ⟨j, h1, hj, h2, h3⟩ := parseL_ends (q :: r) _ _ _ _ (ln + 1) (Nat.succ_pos _) h
      refine ⟨j + 1, by rw [h1]; omega, by simp at hj ⊢; omega, ?_, ?_⟩
      · have e2 : (l :: q :: r).take (j + 1) ++ [[]] = l :: ((q :: r).take j ++ [[]]) := rfl
        rw [e2, parseL_yes' _ _ _ _ _ _ _ (by simp) k hr]
        exact h2
      · rcases h3 with h3 | h3
        · left; simp at h3 ⊢; omega
        · right
          have e2 : (l :: q :: r).take (j + 1) ++ [(l :: q :: r)[j + 1]'(by simp at hj ⊢; omega), []] = l :: ((q :: r).take j ++ [(q :: r)[j], []]) := rfl
          rw [e2, parseL_yes' _ _ _ _ _ _ _ (by simp) k hr, h3]
          omega

end Go.Proofs.YtenojajfacacoaaDoor
/- Texts, read. -/
namespace Go.Proofs.YtenojajfacacoaaDoor
open Go.RowKit

set_option maxHeartbeats 8000000 in
set_option maxRecDepth 100000 in
theorem parse_any (text : Bs) (hl : text.length ≤ 5000) {W0 w : World} {K : Know} {L : List Res} (hlib : K.has Know.lib) (h : St W0 w K L) :
    Calls Tryd.prog 10 #[.string (bb text)] w fun en w' =>
      (parseL 0 0 (-1) [] 1 (partsC 10 text) = 0 ∧ ∃ (K' : Know) (l : List BtR) (c : Int) (ch : List Int) (vB : Value) (q : Option Addr) (cap : Nat), en = .returned (.tuple #[.agg #[vB, .int .i64 c, .slice q ch.length cap], .int .i64 0]) ∧ K'.has K ∧ K'.has (Know.btrs vB l) ∧ K'.has (Know.flat RInt (.slice q ch.length cap) 1 ch) ∧ l.flatMap btT ++ (cutT c ++ chT ch) = text ∧ -1 ≤ c ∧ Rn c ∧ (∀ v ∈ ch, Rn v) ∧ (∀ x ∈ l, btFine x) ∧ St W0 w' K' L) ∨
      (∃ (bad : Nat) (K' : Know), parseL 0 0 (-1) [] 1 (partsC 10 text) = bad ∧ 0 < bad ∧ bad ≤ 5001 ∧ en = .returned (.tuple #[.agg #[.slice none 0 0, .int .i64 0, .slice none 0 0], .int .i64 bad]) ∧ K'.has K ∧ St W0 w' K' L) := by
  obtain ⟨sb, hsb⟩ : ∃ b, w.heap.size = b := ⟨_, rfl⟩
  obtain ⟨rd, hrd⟩ : ∃ b, sb + 1 = b := ⟨_, rfl⟩
  have g1 := (h.allocRaw #[.slice none 0 0, .int .i64 0, .slice none 0 0] 25).allocRaw #[.slice none 0 0, .int .i64 (-1), .slice none 0 0] 65
  simp only [World.size_alloc, hsb, hrd] at g1
  have H := Lib.hid g1
  have HLIB := Lib.hid hlib
  clear h g1 hlib
  go_enter Tryd.func10, Tryd.ntmps10
  go_wp2_with fail
  go_loopw [0, 5] (fun tv nv wr => ∃ (K' : Know) (t : Bs) (s : BSt) (c : Int) (ch : List Int) (ln : Nat), tv = .string (bb t) ∧ nv = .int .i64 ln ∧ Hid (K'.has K) ∧ Hid (Upto text t s c ch ln) ∧ Hid (MemS rd s c ch W0 wr K' (.raw sb #[.slice none 0 0, .int .i64 0, .slice none 0 0] 25 :: L))) (fun _ nv _ => text.length + 2 - (intOf nv).toNat)
  case atStart => exact ⟨K, text, .zero, -1, [], 1, rfl, by rfl, Lib.hid (Know.has_refl _), Lib.hid ⟨rfl, by decide, by unfold Rn; decide, (fun v hv => by cases hv), trivial, Nat.zero_le _, Nat.zero_le _, Nat.zero_le _, Nat.le_refl _, by omega, rfl⟩, Lib.hid ⟨.slice none 0 0, .slice none 0 0, .slice none 0 0, none, 0, (((H.out.nilRow 45 12).nilRow 51 7).nilRow 54 3).p3.p3.p3.p3 |> fun h => by first | exact h | exact (((H.out.nilRow 54 3).p1.nilRow 51 7).p1.nilRow 45 12).p1, trivial, fun w F hh => ⟨none, 0, rfl, fun h0 => absurd h0 (Nat.lt_irrefl 0)⟩⟩⟩
  case round =>
    obtain ⟨K', t, s, c, ch, ln, rfl, rfl, HKK, HU, HMS⟩ := hrel
    clear H
    obtain ⟨vB, vR, vH, q, cap, hst, hs, hf⟩ := HMS.out
    have HS := Lib.hid hs
    have HF := Lib.hid hf
    have HLIB2 := Lib.hid (Know.has_trans HKK.out HLIB.out)
    have HTL := Lib.hid (show t.length ≤ 1000000 by have h4 := HU.out.len; omega)
    clear hs hf HMS
    by_cases ht : t = []
    · subst ht
      obtain ⟨qv, cv, hv⟩ := hst.p1.rowAny
      subst hv
      have H := Lib.hid hst
      have d0 := (hst).rawCell 0; have d1 := (hst).rawCell 1; have d2 := (hst).rawCell 2; simp at d0 d1 d2
      have e0 := (hst.p4).rawCell 0; have e1 := (hst.p4).rawCell 1; have e2 := (hst.p4).rawCell 2; simp at e0 e1 e2; have r0 := (hst.p4).rawFree 0; have r1 := (hst.p4).rawFree 1; have r2 := (hst.p4).rawFree 2
      clear hst
      go_wp2_with fail
      have hz : St W0 _ K' (.raw sb #[.slice qv s.n cv, .int .i64 c, .slice q ch.length cap] 25 :: _) := ((H.out.p4.rawSet 0 (.slice qv s.n cv)).rawSet 1 (.int .i64 c)).rawSet 2 (.slice q ch.length cap)
      refine bodyPost_ret (rc_cell_tmpS rfl _ _ sb [.slice qv s.n cv, .int .i64 c, .slice q ch.length cap] _ rfl (rc_rangeS hz) Tryd.underlying25 rfl (by kernel_rfl)) rfl ?_
      obtain ⟨K2, hk2, hc2, h2⟩ := closeS HS.out hz.drop
      obtain ⟨K3, hk3, hb3, h3⟩ := shutB h2.drop hc2
      refine .inl ⟨by rw [← HU.out.rest]; rfl, K3, s.close vR vH, c, ch, .slice qv s.n cv, q, cap, rfl, Know.has_trans hk3 (Know.has_trans hk2 HKK.out), hb3, Know.has_trans hk3 (Know.has_trans hk2 HF.out), ?_, HU.out.cut, HU.out.cutR, HU.out.chR, close_fine s vR vH HU.out.fine, h3⟩
      rw [close_txt, ← HU.out.txt]
      simp [txtS]
    · have t1 : (t == ([] : Bs)) = false := by rw [beq_eq_false_iff_ne]; exact ht
      have t2 : (([] : Bs) == t) = false := by rw [beq_eq_false_iff_ne]; exact fun h => ht h.symm
      have t3 : (t != ([] : Bs)) = true := by simp [bne, t1]
      have HB := Lib.hid (show ln ≤ 5001 ∧ 0 < ln by have h4 := HU.out.len; have h5 := HU.out.one; omega)
      have hlni : (ln : Int) ≤ 5001 := by have := HB.out; omega
      rcases cut_parts 10 t with ⟨hp, hcut⟩ | ⟨i, hi, hp, hcut⟩
      · have HR := Lib.hid (show parseL 0 0 (-1) [] 1 (partsC 10 text) = ln by rw [← HU.out.rest, hp]; exact if_neg ht)
        obtain ⟨line, hline⟩ : ∃ line, t = line := ⟨_, rfl⟩
        obtain ⟨rest, hrest⟩ : ∃ rest, rest = ([] : Bs) := ⟨_, rfl⟩
        have HCUT := Lib.hid (show Lib.cut t [10] = (line, rest, false) by rw [hcut, hrest, ← hline])
        have H := Lib.hid hst
        clear hst hp hcut hline hrest ht
        go_wp2_with (go_at_call 25; (try clear z0 z1 z2 y0 y1 y2); (with_reducible refine (sl_cutN t line rest false HCUT.out HTL.out HLIB2.out H.out).mono ?_); rintro e_ wn ⟨rfl, h⟩; have h := rows_drop h.drop; have y0 := (h).rawCell 0; have y1 := (h).rawCell 1; have y2 := (h).rawCell 2; simp at y0 y1 y2; have r0 := (h).rawFree 0; have r1 := (h).rawFree 1; have r2 := (h).rawFree 2; replace H := Lib.hid h; clear h)
        have hz : St W0 _ _ (.raw sb #[.slice none 0 0, .int .i64 0, .slice none 0 0] 25 :: _) := ((H.out.rawSet 0 (.slice none 0 0)).rawSet 1 (.int .i64 0)).rawSet 2 (.slice none 0 0)
        refine bodyPost_ret (rc_cell_tmpS rfl _ _ sb [.slice none 0 0, .int .i64 0, .slice none 0 0] _ rfl (rc_rangeS hz) Tryd.underlying25 rfl (by kernel_rfl)) rfl ?_
        exact .inr ⟨ln, K', HR.out, HB.out.2, HB.out.1, rfl, HKK.out, hz.drop⟩
      · obtain ⟨line, hline⟩ : ∃ line, t.take i = line := ⟨_, rfl⟩
        obtain ⟨rest, hrest⟩ : ∃ rest, t.drop (i + 1) = rest := ⟨_, rfl⟩
        have HCUT := Lib.hid (show Lib.cut t [10] = (line, rest, true) by rw [hcut, hline, hrest])
        obtain ⟨w0, r, hw0⟩ := partsC_ne 32 line
        obtain ⟨nw, hnw⟩ : ∃ nw, (w0 :: r).length = nw := ⟨_, rfl⟩
        have HNW := Lib.hid (show (w0 :: r).length = nw from hnw)
        have HNW2 := Lib.hid (show nw = (w0 :: r).length from hnw.symm)
        have HWO := Lib.hid (show wordsOf line = (w0 :: r).map bb by rw [wordsOf_parts, hw0])
        have HLL := Lib.hid (show line.length ≤ 1000000 by rw [← hline]; simp; have := HTL.out; omega)
        have HWX := Lib.hid (show ∀ y ∈ w0 :: r, y.length ≤ 1000000 from fun y hy => by have h9 := (partsC_len 32 line).2 y (by rw [hw0]; exact hy); have := HLL.out; omega)
        have HWL := Lib.hid (show (w0 :: r).length ≤ 1000000 by have h9 := (partsC_len 32 line).1; rw [hw0] at h9; have h8 : line.length ≤ 5000 := (by rw [← hline]; simp; have := HU.out.len; omega); omega)
        have HBD := Lib.hid (show s.n ≤ 1000000 ∧ s.m ≤ 1000000 ∧ s.p ≤ 1000000 from by have h1 := HU.out.n; have h2 := HU.out.m; have h3 := HU.out.p; have h4 := HU.out.len; omega)
        have HLN := Lib.hid (show ln ≤ 5001 by have h4 := HU.out.len; omega)
        have H := Lib.hid hst
        clear hst hcut hnw
        cases hno : rdLine s.n s.m c ch (w0 :: r) with
        | none =>
          have HNO := Lib.hid hno
          have HR := Lib.hid (show parseL 0 0 (-1) [] 1 (partsC 10 text) = ln by
            rw [← HU.out.rest, hp]
            obtain ⟨q9, r9, e9⟩ := partsC_ne 10 (t.drop (i + 1))
            rw [e9]
            exact parseL_no _ _ _ _ _ _ _ _ (by rw [hline, hw0]; exact hno))
          clear hno hp hline hrest hw0 ht hi
          go_wp2_with (first
    | (go_at_call 25; (try clear z0 z1 z2 y0 y1 y2); (with_reducible refine (sl_cutN t line rest true HCUT.out HTL.out HLIB2.out H.out).mono ?_); rintro e_ wn ⟨rfl, h⟩; replace H := Lib.hid h; clear h)
    | (go_at_call 13; (with_reducible refine (sl_splitN line (w0 :: r) nw HNW.out HWO.out HLL.out HLIB2.out H.out).mono ?_); rintro e_ wn ⟨wb, rfl, h⟩; have h := h.strs; have HKW := Lib.hid (Know.has_right (a := K') (Know.has_refl (Know.strs wb 0 (w0 :: r)))); have HLIB3 := Lib.hid (Know.has_left (b := Know.strs wb 0 (w0 :: r)) HLIB2.out); have HM := Lib.hid (show MemS rd s c ch W0 wn (K'.and (Know.strs wb 0 (w0 :: r))) (.raw sb #[.slice none 0 0, .int .i64 0, .slice none 0 0] 25 :: L) from ⟨vB, vR, vH, q, cap, h, HS.out.mono (Know.has_left (Know.has_refl _)), Know.has_left HF.out⟩); clear h H)
    | (go_at_call 26; (with_reducible refine (rd_line_no rd wb nw s c ch w0 r HNW2.out HWX.out HWL.out HBD.out HNO.out HLIB3.out HKW.out HM.out).mono ?_); rintro e_ wn ⟨K2, rfl, hk2, h⟩; have HK2 := Lib.hid hk2; clear hk2; have y0 := (h).rawCell 0; have y1 := (h).rawCell 1; have y2 := (h).rawCell 2; simp at y0 y1 y2; have r0 := (h).rawFree 0; have r1 := (h).rawFree 1; have r2 := (h).rawFree 2; replace H := Lib.hid h; clear h))
          have hz : St W0 _ _ (.raw sb #[.slice none 0 0, .int .i64 0, .slice none 0 0] 25 :: _) := ((H.out.rawSet 0 (.slice none 0 0)).rawSet 1 (.int .i64 0)).rawSet 2 (.slice none 0 0)
          refine bodyPost_ret (rc_cell_tmpS rfl _ _ sb [.slice none 0 0, .int .i64 0, .slice none 0 0] _ rfl (rc_rangeS hz) Tryd.underlying25 rfl (by kernel_rfl)) rfl ?_
          exact .inr ⟨ln, K2, HR.out, HB.out.2, HB.out.1, rfl, Know.has_trans HK2.out (Know.has_left HKK.out), hz.drop⟩
        | some k =>
          have HNO := Lib.hid hno
          have HNX := Lib.hid (fun vR vH => HU.out.next hi hp (by rw [hline, hw0]; exact hno) (parts_cut hi hp) vR vH)
          rw [hrest] at HNX
          clear hno hp hline hrest hw0 ht hi
          go_wp2_with (first
    | (go_at_call 25; (try clear z0 z1 z2 y0 y1 y2); (with_reducible refine (sl_cutN t line rest true HCUT.out HTL.out HLIB2.out H.out).mono ?_); rintro e_ wn ⟨rfl, h⟩; replace H := Lib.hid h; clear h)
    | (go_at_call 13; (with_reducible refine (sl_splitN line (w0 :: r) nw HNW.out HWO.out HLL.out HLIB2.out H.out).mono ?_); rintro e_ wn ⟨wb, rfl, h⟩; have h := h.strs; have HKW := Lib.hid (Know.has_right (a := K') (Know.has_refl (Know.strs wb 0 (w0 :: r)))); have HLIB3 := Lib.hid (Know.has_left (b := Know.strs wb 0 (w0 :: r)) HLIB2.out); have HM := Lib.hid (show MemS rd s c ch W0 wn (K'.and (Know.strs wb 0 (w0 :: r))) (.raw sb #[.slice none 0 0, .int .i64 0, .slice none 0 0] 25 :: L) from ⟨vB, vR, vH, q, cap, h, HS.out.mono (Know.has_left (Know.has_refl _)), Know.has_left HF.out⟩); clear h H)
    | (go_at_call 26; (with_reducible refine (rd_line_yes rd wb nw s c ch w0 r k HNW2.out HWX.out HWL.out HBD.out HNO.out HLIB3.out HKW.out HM.out).mono ?_); rintro e_ wn ⟨K2, vR2, vH2, rfl, hk2, hm2⟩; have HK2 := Lib.hid hk2; have HM2 := Lib.hid hm2; clear hk2 hm2))
          go_roundw
          case rel => exact ⟨K2, rest, _, _, _, ln + 1, rfl, by go_num, Lib.hid (Know.has_trans HK2.out (Know.has_left HKK.out)), Lib.hid (HNX.out vR2 vH2), HM2⟩
          case measure => have := HB.out; have := (HNX.out vR2 vH2).len; first | (simp [intOf]; done) | (simp [intOf]; omega)

end Go.Proofs.YtenojajfacacoaaDoor
/- Rows that are known (pure). -/
namespace Go.Proofs.YtenojajfacacoaaDoor
open Go.RowKit

theorem flat_cutS {α : Type} (f : α → Bs) : ∀ (l : List α) (k : Nat) (h : k < l.length) (x : α), l[k] = x → (l.drop k).flatMap f = f x ++ (l.drop (k + 1)).flatMap f := fun l k h x hx => by
  rw [List.drop_eq_getElem_cons h, hx, List.flatMap_cons]
theorem ahead_le {a b S : Bs} (h : a ++ b = S) {n : Nat} (hs : S.length ≤ n) : a.length ≤ n := by
  have := congrArg List.length h
  rw [List.length_append] at this
  omega
theorem btrs_flat {K : Know} {v : Value} {l : List BtR} (h : K.has (Know.btrs v l)) : K.has (Know.flat RBt v 12 l) := fun w F x => (h w F x).1
theorem btrs_recs {K : Know} {v : Value} {l : List BtR} (h : K.has (Know.btrs v l)) {x : BtR} (hx : x ∈ l) : K.has (Know.recs x.v x.l) := fun w F y => (h w F y).2 x hx
theorem fl_form {α : Type} {R : List Value → α → Prop} {sz : Nat} {v : Value} {l : List α} {W0 w : World} {K : Know} {L : List Res} (hk : K.has (Know.flat R v sz l)) (h : St W0 w K L) : ∃ q cap, v = .slice q l.length cap := by
  obtain ⟨F, hF, _⟩ := h.get
  obtain ⟨q, cap, hv, _⟩ := (hk _ _ hF).at
  exact ⟨q, cap, hv⟩
theorem fl_at {α : Type} {R : List Value → α → Prop} {sz n cap : Nat} {q : Option Addr} {l : List α} {W0 w : World} {K : Know} {L : List Res} (hk : K.has (Know.flat R (.slice q n cap) sz l)) (h : St W0 w K L) (h0 : 0 < l.length) : ∃ b off, q = some ⟨b, off, none⟩ := by
  obtain ⟨F, hF, _⟩ := h.get
  obtain ⟨q2, cap2, hv, hr⟩ := (hk _ _ hF).at
  obtain ⟨b, off, hq, _⟩ := hr h0
  simp at hv
  exact ⟨b, off, hv.1.trans hq⟩
theorem fl_cell {α : Type} {R : List Value → α → Prop} {sz n cap b off : Nat} {l : List α} {W0 w : World} {K : Know} {L : List Res} (hk : K.has (Know.flat R (.slice (some ⟨b, off, none⟩) n cap) sz l)) (h : St W0 w K L) (i : Nat) (hi : i < l.length) : ∃ cs, R cs l[i] ∧ ∀ f u, cs[f]? = some u → w.cell? ⟨b, off + (i * sz + f), none⟩ = some u := by
  obtain ⟨F, hF, _⟩ := h.get
  obtain ⟨q2, cap2, hv, hr⟩ := (hk _ _ hF).at
  obtain ⟨b2, off2, hq, hc⟩ := hr (by omega)
  rw [hq] at hv
  simp at hv
  obtain ⟨⟨rfl, rfl⟩, _, _⟩ := hv
  obtain ⟨cs, _, h1, h2⟩ := hc i hi
  exact ⟨cs, h1, h2⟩
theorem btrs_cell {n cap b off : Nat} {l : List BtR} {W0 w : World} {K : Know} {L : List Res} (hk : K.has (Know.btrs (.slice (some ⟨b, off, none⟩) n cap) l)) (h : St W0 w K L) (i : Nat) (hi : i < l.length) (x : BtR) (hx : l[i] = x) :
    w.cell? ⟨b, off + i * 12, none⟩ = some (.int .i64 x.b.base) ∧ w.cell? ⟨b, off + i * 12 + 1, none⟩ = some (.int .i64 x.b.leader) ∧ w.cell? ⟨b, off + i * 12 + 2, none⟩ = some (.bool x.b.app) ∧ w.cell? ⟨b, off + i * 12 + 3, none⟩ = some (.bool x.b.txn) ∧ w.cell? ⟨b, off + i * 12 + 4, none⟩ = some (.bool x.b.ctl) ∧ w.cell? ⟨b, off + i * 12 + 5, none⟩ = some (.int .i64 x.b.last) ∧ w.cell? ⟨b, off + i * 12 + 6, none⟩ = some (.int .i64 x.b.first) ∧ w.cell? ⟨b, off + i * 12 + 7, none⟩ = some (.int .i64 x.b.maxt) ∧ w.cell? ⟨b, off + i * 12 + 8, none⟩ = some (.int .i64 x.b.prod) ∧ w.cell? ⟨b, off + i * 12 + 9, none⟩ = some (.int .i64 x.b.epoch) ∧ w.cell? ⟨b, off + i * 12 + 10, none⟩ = some (.int .i64 x.b.seq) ∧ w.cell? ⟨b, off + i * 12 + 11, none⟩ = some (x.v) := by
  subst hx
  obtain ⟨cs, h1, h2⟩ := fl_cell (btrs_flat hk) h i hi
  unfold RBt btcells bhead at h1
  subst h1
  refine ⟨?_, ?_, ?_, ?_, ?_, ?_, ?_, ?_, ?_, ?_, ?_, ?_⟩
  · exact h2 0 _ rfl
  · rw [Nat.add_assoc]; exact h2 1 _ rfl
  · rw [Nat.add_assoc]; exact h2 2 _ rfl
  · rw [Nat.add_assoc]; exact h2 3 _ rfl
  · rw [Nat.add_assoc]; exact h2 4 _ rfl
  · rw [Nat.add_assoc]; exact h2 5 _ rfl
  · rw [Nat.add_assoc]; exact h2 6 _ rfl
  · rw [Nat.add_assoc]; exact h2 7 _ rfl
  · rw [Nat.add_assoc]; exact h2 8 _ rfl
  · rw [Nat.add_assoc]; exact h2 9 _ rfl
  · rw [Nat.add_assoc]; exact h2 10 _ rfl
  · rw [Nat.add_assoc]; exact h2 11 _ rfl
theorem rints_cell {n cap b off : Nat} {l : List Int} {W0 w : World} {K : Know} {L : List Res} (hk : K.has (Know.flat RInt (.slice (some ⟨b, off, none⟩) n cap) 1 l)) (h : St W0 w K L) (i : Nat) (hi : i < l.length) (x : Int) (hx : l[i] = x) : w.cell? ⟨b, off + i, none⟩ = some (.int .i64 x) := by
  subst hx
  obtain ⟨cs, h1, h2⟩ := fl_cell hk h i hi
  unfold RInt at h1
  subst h1
  have := h2 0 _ rfl
  rwa [Nat.mul_one, Nat.add_zero] at this
theorem rhdr_cell {n cap b off : Nat} {l : List HdrS} {W0 w : World} {K : Know} {L : List Res} (hk : K.has (Know.flat RHdr (.slice (some ⟨b, off, none⟩) n cap) 3 l)) (h : St W0 w K L) (i : Nat) (hi : i < l.length) (x : HdrS) (hx : l[i] = x) : w.cell? ⟨b, off + i * 3, none⟩ = some (.string (bb x.key)) ∧ w.cell? ⟨b, off + i * 3 + 1, none⟩ = some (.bool x.val.null) ∧ w.cell? ⟨b, off + i * 3 + 2, none⟩ = some (.string (bb x.val.data)) := by
  subst hx
  obtain ⟨cs, h1, h2⟩ := fl_cell hk h i hi
  unfold RHdr at h1
  subst h1
  exact ⟨h2 0 _ rfl, by rw [Nat.add_assoc]; exact h2 1 _ rfl, by rw [Nat.add_assoc]; exact h2 2 _ rfl⟩

end Go.Proofs.YtenojajfacacoaaDoor
/- Digits (pure). -/
namespace Go.Proofs.YtenojajfacacoaaDoor
open Go.RowKit

theorem conv_byteS (c : UInt8) (n : Int) (hn : n = c.toNat) {W0 w : World} {K : Know} {L : List Res} {b : Nat} {T : TypeId} (h : St W0 w K (.raw b #[.int .u8 n] T :: L)) :
    (convert 56 9 (.slice (some ⟨b, 0, none⟩) 1 1)).run Tryd.prog w = .ok (.string (bb [c])) w := by
  subst hn
  refine run_convert_bytes_back (P := Tryd.prog) w 56 9 5 ⟨b, 0, none⟩ 1 [c] Tryd.underlying56 Tryd.underlying5 Tryd.underlying9 (fun j hj => ?_)
  have hj : j = 0 := by simp at hj; exact hj
  subst hj
  exact h.rawCell 0
theorem dec_small {u : Nat} (h : u < 10) : Lib.decDigits u = [UInt8.ofNat (48 + u)] := by rw [Lib.decDigits, dif_pos h]
theorem dec_len2 (v : Nat) (h : v ≤ 9223372036854775807) : (Lib.decDigits v).length ≤ 29 := by
  have h1 := Lib.itoa_length_le v (by omega) (by omega)
  rw [Lib.itoa_nonneg] at h1
  omega
theorem dec_len (v : Nat) (h : v ≤ 9223372036854775807) : (Lib.decDigits v).length ≤ 30 := Nat.le_succ_of_le (dec_len2 v h)
theorem dec_big {u : Nat} (h : ¬ u < 10) : Lib.decDigits u = Lib.decDigits (u / 10) ++ [UInt8.ofNat (48 + u % 10)] := by rw [Lib.decDigits, dif_neg h]

end Go.Proofs.YtenojajfacacoaaDoor
/- Numbers, by definition. -/
namespace Go.Proofs.YtenojajfacacoaaDoor
open Go.RowKit

set_option maxHeartbeats 4000000 in
set_option maxRecDepth 100000 in
theorem num_p0 (u : Nat) (hu : u ≤ 9223372036854775807) (hs : u < 10) {W0 w : World} {K : Know} {L : List Res} (h : St W0 w K L) :
    Calls Tryd.prog 27 #[.int .i64 u] w fun en w' => en = .returned (.string (bb (Lib.decDigits u))) ∧ St W0 w' K L := by
  obtain ⟨d, hd⟩ : ∃ d, u % 10 = d := ⟨_, rfl⟩
  obtain ⟨v, hv⟩ : ∃ v, u / 10 = v := ⟨_, rfl⟩
  have hd9 : d < 10 := by omega
  obtain ⟨c, hc⟩ : ∃ c, UInt8.ofNat (48 + d) = c := ⟨_, rfl⟩
  have hcn : (48 + (d : Int)) = c.toNat := by rw [← hc, UInt8.toNat_ofNat']; omega
  obtain ⟨nb, hnb⟩ : ∃ b, w.heap.size = b := ⟨_, rfl⟩
  have g1 := h.allocRaw #[.int .u8 (48 + (d : Int))] 5
  rw [hnb] at g1
  have cb := conv_byteS c _ hcn g1
  have H := Lib.hid g1
  have q1 : (u : Int).tmod 10 = (d : Int) := by rw [Int.tmod_eq_emod_of_nonneg (by omega)]; omega
  have q2 : (u : Int) % 10 = (d : Int) := by omega
  have q3 : (u : Int).tdiv 10 = (v : Int) := by rw [Int.tdiv_eq_ediv_of_nonneg (by omega)]; omega
  have q4 : (u : Int) / 10 = (v : Int) := by omega
  have r1 : ¬ ((u : Int) < 0) := by omega
  have r2 : decide ((u : Int) < 0) = false := decide_eq_false r1
  have r3 : (u : Int) < 10 := by omega
  have r4 : decide ((u : Int) < 10) = true := decide_eq_true r3
  have q5 : (48 + (d : Int)) % 256 = 48 + (d : Int) := by omega
  have HD := Lib.hid (show Lib.decDigits u = [c] from by rw [dec_small hs, ← hc]; rw [← hd, Nat.mod_eq_of_lt hs])
  have HWV := Lib.hid (show wrap64 ((v : Int)) = (v : Int) from IntWalk.wrap64_in _ (by omega))
  skip
  skip
  skip
  skip
  skip
  skip
  skip
  clear h g1 hu hs hd hv hc hcn hd9  
  go_enter Tryd.func27, Tryd.ntmps27
  go_wp2_with fail
  go_ret
  exact ⟨by rw [HD.out]; try rfl, H.out.drop⟩

set_option maxHeartbeats 4000000 in
set_option maxRecDepth 100000 in
theorem num_p1 (u : Nat) (hu : u ≤ 9223372036854775807) (hs : ¬ u < 10) {W0 w : World} {K : Know} {L : List Res} (hrec : ∀ w, St W0 w K L → Calls Tryd.prog 27 #[.int .i64 (u / 10 : Nat)] w fun en w' => en = .returned (.string (bb (Lib.decDigits (u / 10)))) ∧ St W0 w' K L) (h : St W0 w K L) :
    Calls Tryd.prog 27 #[.int .i64 u] w fun en w' => en = .returned (.string (bb (Lib.decDigits u))) ∧ St W0 w' K L := by
  obtain ⟨d, hd⟩ : ∃ d, u % 10 = d := ⟨_, rfl⟩
  obtain ⟨v, hv⟩ : ∃ v, u / 10 = v := ⟨_, rfl⟩
  have hd9 : d < 10 := by omega
  obtain ⟨c, hc⟩ : ∃ c, UInt8.ofNat (48 + d) = c := ⟨_, rfl⟩
  have hcn : (48 + (d : Int)) = c.toNat := by rw [← hc, UInt8.toNat_ofNat']; omega
  obtain ⟨nb, hnb⟩ : ∃ b, w.heap.size = b := ⟨_, rfl⟩
  have g1 := h.allocRaw #[.int .u8 (48 + (d : Int))] 5
  rw [hnb] at g1
  have cb := conv_byteS c _ hcn g1
  have H := Lib.hid g1
  have q1 : (u : Int).tmod 10 = (d : Int) := by rw [Int.tmod_eq_emod_of_nonneg (by omega)]; omega
  have q2 : (u : Int) % 10 = (d : Int) := by omega
  have q3 : (u : Int).tdiv 10 = (v : Int) := by rw [Int.tdiv_eq_ediv_of_nonneg (by omega)]; omega
  have q4 : (u : Int) / 10 = (v : Int) := by omega
  have r1 : ¬ ((u : Int) < 0) := by omega
  have r2 : decide ((u : Int) < 0) = false := decide_eq_false r1
  have r3 : ¬ ((u : Int) < 10) := by omega
  have r4 : decide ((u : Int) < 10) = false := decide_eq_false r3
  have q5 : (48 + (d : Int)) % 256 = 48 + (d : Int) := by omega
  have HD := Lib.hid (show Lib.decDigits u = (Lib.decDigits v ++ [c]) from by rw [dec_big hs, hd, hv, hc])
  have HWV := Lib.hid (show wrap64 ((v : Int)) = (v : Int) from IntWalk.wrap64_in _ (by omega))
  have HREC := Lib.hid hrec
  rw [hv] at HREC
  obtain ⟨p, hp⟩ : ∃ p, Lib.decDigits v = p := ⟨_, rfl⟩
  have hpl : p.length ≤ 30 := by rw [← hp]; exact dec_len v (by omega)
  have hpi : ¬ 9223372036854775807 < p.length + 1 := by omega
  rw [hp] at HREC
  rw [show Lib.decDigits v ++ [c] = p ++ [c] by rw [← hp] <;> rfl] at HD
  clear h g1 hu hs hd hv hc hcn hd9 hrec 
  go_enter Tryd.func27, Tryd.ntmps27
  go_wp2_with (go_at_call 27; rw [HWV.out]; (with_reducible refine (HREC.out _ H.out.drop).mono ?_); rintro e_ wn ⟨rfl, h⟩; replace H := Lib.hid h; clear h)
  go_ret
  exact ⟨by rw [HD.out]; try rfl, H.out⟩

set_option maxHeartbeats 4000000 in
set_option maxRecDepth 100000 in
theorem num_n0 (u : Nat) (hu : u ≤ 9223372036854775808) (h1 : 1 ≤ u) (hs : u < 10) {W0 w : World} {K : Know} {L : List Res} (h : St W0 w K L) :
    Calls Tryd.prog 27 #[.int .i64 (-(u : Int))] w fun en w' => en = .returned (.string (bb ((45 :: Lib.decDigits u)))) ∧ St W0 w' K L := by
  obtain ⟨d, hd⟩ : ∃ d, u % 10 = d := ⟨_, rfl⟩
  obtain ⟨v, hv⟩ : ∃ v, u / 10 = v := ⟨_, rfl⟩
  have hd9 : d < 10 := by omega
  obtain ⟨c, hc⟩ : ∃ c, UInt8.ofNat (48 + d) = c := ⟨_, rfl⟩
  have hcn : (48 + (d : Int)) = c.toNat := by rw [← hc, UInt8.toNat_ofNat']; omega
  obtain ⟨nb, hnb⟩ : ∃ b, w.heap.size = b := ⟨_, rfl⟩
  have g1 := h.allocRaw #[.int .u8 (48 + (d : Int))] 5
  rw [hnb] at g1
  have cb := conv_byteS c _ hcn g1
  have H := Lib.hid g1
  have q1 : (-(u : Int)).tmod 10 = -(d : Int) := by rw [Int.neg_tmod, Int.tmod_eq_emod_of_nonneg (by omega)]; omega
  have q3 : (-(u : Int)).tdiv 10 = -(v : Int) := by rw [Int.neg_tdiv, Int.tdiv_eq_ediv_of_nonneg (by omega)]; omega
  have r1 : (-(u : Int)) < 0 := by omega
  have r2 : decide ((-(u : Int)) < 0) = true := decide_eq_true r1
  have r5 : (0 : Int) < (u : Int) := by omega
  have r3 : -10 < (-(u : Int)) := by omega
  have r4 : decide (-10 < (-(u : Int))) = true := decide_eq_true r3
  have r6 : (u : Int) < 10 := by omega
  have q5 : (48 + (d : Int)) % 256 = 48 + (d : Int) := by omega
  have HD := Lib.hid (show (45 :: Lib.decDigits u) = [45, c] from by rw [dec_small hs, ← hc]; rw [← hd, Nat.mod_eq_of_lt hs])
  have HWV := Lib.hid (show wrap64 (-(v : Int)) = -(v : Int) from IntWalk.wrap64_in _ (by omega))
  skip
  skip
  skip
  skip
  skip
  skip
  skip
  clear h g1 hu hs hd hv hc hcn hd9  h1
  go_enter Tryd.func27, Tryd.ntmps27
  go_wp2_with fail
  go_ret
  exact ⟨by rw [HD.out]; try rfl, H.out.drop⟩

set_option maxHeartbeats 4000000 in
set_option maxRecDepth 100000 in
theorem num_n1 (u : Nat) (hu : u ≤ 9223372036854775808) (h1 : 1 ≤ u) (hs : ¬ u < 10) {W0 w : World} {K : Know} {L : List Res} (hrec : ∀ w, St W0 w K L → Calls Tryd.prog 27 #[.int .i64 (-((u / 10 : Nat) : Int))] w fun en w' => en = .returned (.string (bb (45 :: Lib.decDigits (u / 10)))) ∧ St W0 w' K L) (h : St W0 w K L) :
    Calls Tryd.prog 27 #[.int .i64 (-(u : Int))] w fun en w' => en = .returned (.string (bb ((45 :: Lib.decDigits u)))) ∧ St W0 w' K L := by
  obtain ⟨d, hd⟩ : ∃ d, u % 10 = d := ⟨_, rfl⟩
  obtain ⟨v, hv⟩ : ∃ v, u / 10 = v := ⟨_, rfl⟩
  have hd9 : d < 10 := by omega
  obtain ⟨c, hc⟩ : ∃ c, UInt8.ofNat (48 + d) = c := ⟨_, rfl⟩
  have hcn : (48 + (d : Int)) = c.toNat := by rw [← hc, UInt8.toNat_ofNat']; omega
  obtain ⟨nb, hnb⟩ : ∃ b, w.heap.size = b := ⟨_, rfl⟩
  have g1 := h.allocRaw #[.int .u8 (48 + (d : Int))] 5
  rw [hnb] at g1
  have cb := conv_byteS c _ hcn g1
  have H := Lib.hid g1
  have q1 : (-(u : Int)).tmod 10 = -(d : Int) := by rw [Int.neg_tmod, Int.tmod_eq_emod_of_nonneg (by omega)]; omega
  have q3 : (-(u : Int)).tdiv 10 = -(v : Int) := by rw [Int.neg_tdiv, Int.tdiv_eq_ediv_of_nonneg (by omega)]; omega
  have r1 : (-(u : Int)) < 0 := by omega
  have r2 : decide ((-(u : Int)) < 0) = true := decide_eq_true r1
  have r5 : (0 : Int) < (u : Int) := by omega
  have r3 : ¬ (-10 < (-(u : Int))) := by omega
  have r4 : decide (-10 < (-(u : Int))) = false := decide_eq_false r3
  have r6 : ¬ ((u : Int) < 10) := by omega
  have q5 : (48 + (d : Int)) % 256 = 48 + (d : Int) := by omega
  have HD := Lib.hid (show (45 :: Lib.decDigits u) = (45 :: (Lib.decDigits v ++ [c])) from by rw [dec_big hs, hd, hv, hc])
  have HWV := Lib.hid (show wrap64 (-(v : Int)) = -(v : Int) from IntWalk.wrap64_in _ (by omega))
  have HREC := Lib.hid hrec
  rw [hv] at HREC
  obtain ⟨p, hp⟩ : ∃ p, (45 :: Lib.decDigits v) = p := ⟨_, rfl⟩
  have hpl : p.length ≤ 30 := by rw [← hp]; exact Nat.succ_le_succ (dec_len2 v (by omega))
  have hpi : ¬ 9223372036854775807 < p.length + 1 := by omega
  rw [hp] at HREC
  rw [show 45 :: (Lib.decDigits v ++ [c]) = p ++ [c] by rw [← hp] <;> rfl] at HD
  clear h g1 hu hs hd hv hc hcn hd9 hrec h1
  go_enter Tryd.func27, Tryd.ntmps27
  go_wp2_with (go_at_call 27; rw [HWV.out]; (with_reducible refine (HREC.out _ H.out.drop).mono ?_); rintro e_ wn ⟨rfl, h⟩; replace H := Lib.hid h; clear h)
  go_ret
  exact ⟨by rw [HD.out]; try rfl, H.out⟩

theorem num_pos : ∀ (n u : Nat), u ≤ n → u ≤ 9223372036854775807 → ∀ {W0 w : World} {K : Know} {L : List Res}, St W0 w K L → Calls Tryd.prog 27 #[.int .i64 u] w fun en w' => en = .returned (.string (bb (Lib.decDigits u))) ∧ St W0 w' K L
  | 0, u, h, hu, _, _, _, _, hst => num_p0 u hu (by omega) hst
  | n + 1, u, h, hu, _, _, _, _, hst => by
    by_cases hs : u < 10
    · exact num_p0 u hu hs hst
    · exact num_p1 u hu hs (fun w' h' => num_pos n (u / 10) (by omega) (by omega) h') hst
theorem num_neg : ∀ (n u : Nat), u ≤ n → u ≤ 9223372036854775808 → 1 ≤ u → ∀ {W0 w : World} {K : Know} {L : List Res}, St W0 w K L → Calls Tryd.prog 27 #[.int .i64 (-(u : Int))] w fun en w' => en = .returned (.string (bb (45 :: Lib.decDigits u))) ∧ St W0 w' K L
  | 0, u, h, hu, h1, _, _, _, _, hst => absurd h (by omega)
  | n + 1, u, h, hu, h1, _, _, _, _, hst => by
    by_cases hs : u < 10
    · exact num_n0 u hu h1 hs hst
    · exact num_n1 u hu h1 hs (fun w' h' => num_neg n (u / 10) (by omega) (by omega) (by omega) h') hst
theorem rs_num (n : Int) (hn : Rn n) (t : Bs) (ht : numW n = t) {W0 w : World} {K : Know} {L : List Res} (h : St W0 w K L) : Calls Tryd.prog 27 #[.int .i64 n] w fun en w' => en = .returned (.string (bb t)) ∧ St W0 w' K L := by
  subst ht
  unfold Rn at hn
  by_cases h0 : n < 0
  · obtain ⟨u, rfl⟩ : ∃ u : Nat, n = -(u : Int) := ⟨n.natAbs, by omega⟩
    have e : numW (-(u : Int)) = 45 :: Lib.decDigits u := by unfold numW; exact Lib.itoa_neg u (by omega)
    rw [e]
    exact num_neg u u (Nat.le_refl _) (by omega) (by omega) h
  · obtain ⟨u, rfl⟩ : ∃ u : Nat, n = (u : Int) := ⟨n.natAbs, by omega⟩
    have e : numW (u : Int) = Lib.decDigits u := by unfold numW; exact Lib.itoa_nonneg u
    rw [e]
    exact num_pos u u (Nat.le_refl _) (by omega) h

end Go.Proofs.YtenojajfacacoaaDoor
/- A digit of a word, by definition. -/
namespace Go.Proofs.YtenojajfacacoaaDoor
open Go.RowKit

theorem op_appm {W0 w : World} {K : Know} {L : List Res} {o : Oper} {a : Act} {KK : Act → World → Prop} {Q : Exit → Act → World → Prop} (sl x : Operand) (t : TypeId)
    (ho : o.op = .call { callee := .builtin .append, args := #[sl, x], argTypes := #[t, t] })
    (e : TypeId) {z : Value} {size bytes : Nat} (ht : Tryd.prog.underlying t = some (.slice e)) (he : ElemT Tryd.prog e z size bytes)
    (v : Value) (n : Nat) (xs : List Value) (hs : a.eval sl = v) (bS m : Nat) (cs : Array Value) (T : TypeId) (hst : St W0 w K (.raw bS cs T :: .row v e size n xs :: L))
    (hx : a.eval x = .slice (some ⟨bS, 0, none⟩) m m) (hl : cs.toList.length = m * size) (h1 : ∀ u ∈ cs.toList, u.oneCell' = true)
    (h63 : n + m ≤ maxLen) (hbytes : (n + m) * bytes ≤ 140737488355328)
    (h : ∀ v' w', St W0 w' K (.row v' e size (n + m) (xs ++ cs.toList) :: L) → KK (a.put o.dst v') w') : o.wp Tryd.prog a w KK Q := by
  have hc := hst.rawCell
  have hst2 := hst.p1
  obtain ⟨⟨i, g1, g2, g3, g4⟩, g5, g6⟩ := he
  obtain ⟨v', w', hr, h2, h3, h4⟩ := app_val (P := Tryd.prog) w t o.type e i z size bytes ht g1 g2 g3 g4 g5 g6 v n xs hst2.rowGet ⟨bS, 0, none⟩ m m cs.toList hl (fun j u hj => by
    have ha : (⟨bS, 0, none⟩ : Addr).add j = ⟨bS, j, none⟩ := by unfold Addr.add; split <;> simp_all
    rw [ha, hc j]
    simpa using hj) h1 h63 hbytes
  unfold Oper.wp execOp
  simp only [ho, resolve, invoke, builtin, Sem.run_bind, Sem.run_pure, Result.andThen_ok, List.map_toArray, List.map_cons, List.map_nil, hs, hx, hr]
  exact h v' w' (hst2.rowGrown h2 h3 h4).p1.drop
theorem build2 (a b : Int) (w : World) : (Instr.buildSlice 56 2 #[(0, .int .u8 a), (1, .int .u8 b)]).run Tryd.prog w = .ok (.slice (some ⟨w.heap.size, 0, none⟩) 2 2) (w.alloc (.cells #[.int .u8 a, .int .u8 b] 5 (0, 0))) := by go_simp
theorem exec_build2 {o : Oper} {ρ : Operand → Value} (ps : Array (Nat × Value)) (v : Value) (w w' : World) (ho : execOp ρ o = (do pure (Next.value (← Instr.buildSlice 56 2 ps)))) (hb : (Instr.buildSlice 56 2 ps).run Tryd.prog w = .ok v w') : (execOp ρ o).run Tryd.prog w = .ok (.value v) w' := by
  rw [ho]
  simp [hb, Result.andThen]
set_option maxHeartbeats 4000000 in
set_option maxRecDepth 100000 in
theorem rs_digit (n : Nat) (hn : n < 16) {W0 w : World} {K : Know} {L : List Res} (h : St W0 w K L) :
    Calls Tryd.prog 37 #[.int .i64 n] w fun en w' => en = .returned (.int .u8 (hexD n).toNat) ∧ St W0 w' K L := by
  have H := Lib.hid h
  have hn1 : (n : Int) < 16 := by omega
  have HE := Lib.hid (show (hexD n).toNat = if n < 10 then 48 + n else 87 + n by unfold hexD; split <;> (rw [UInt8.toNat_ofNat']; omega))
  clear h hn
  by_cases h1 : n < 10
  · have h2 : (n : Int) < 10 := by omega
    have h3 : decide ((n : Int) < 10) = true := decide_eq_true h2
    rw [if_pos h1] at HE
    have h4 : (48 + (n : Int)) % 256 = (((hexD n).toNat : Nat) : Int) := by rw [HE.out]; omega
    clear h1
    go_enter Tryd.func37, Tryd.ntmps37
    go_wp2
    go_ret
    exact ⟨by rw [HE.out]; rfl, H.out⟩
  · have h2 : ¬ (n : Int) < 10 := by omega
    have h3 : decide ((n : Int) < 10) = false := decide_eq_false h2
    rw [if_neg h1] at HE
    clear h1
    go_enter Tryd.func37, Tryd.ntmps37
    go_wp2
    go_ret
    have e9 : (97 + (n : Int) - 10) = ((87 + n : Nat) : Int) := by omega
    exact ⟨by rw [HE.out, ← e9]; rfl, H.out⟩

theorem rs_digitE (v : Int) (n : Nat) (d : UInt8) (hv : v = n) (hn : n < 16) (hd : hexD n = d) {W0 w : World} {K : Know} {L : List Res} (h : St W0 w K L) :
    Calls Tryd.prog 37 #[.int .i64 v] w fun en w' => en = .returned (.int .u8 d.toNat) ∧ St W0 w' K L := by
  subst hv hd; exact rs_digit n hn h

end Go.Proofs.YtenojajfacacoaaDoor
/- Words, by definition. -/
namespace Go.Proofs.YtenojajfacacoaaDoor
open Go.RowKit

theorem wrap_i64 (x : Int) (h0 : -9223372036854775808 ≤ x) (h1 : x < 9223372036854775808) : IntKind.i64.wrap x = x := IntWalk.i64_in _ (by omega)
theorem nib1 (x : UInt8) : IntKind.i64.wrap ((IntKind.i64.wrap ((x.toNat : Nat) : Int)).tdiv 16) = ((x.toNat / 16 : Nat) : Int) := by
  have hx := x.toNat_lt
  rw [wrap_i64 ((x.toNat : Nat) : Int) (by omega) (by omega), Int.tdiv_eq_ediv_of_nonneg (by omega), wrap_i64 _ (by omega) (by omega)]
  rfl
theorem nib2 (x : UInt8) : (IntKind.i64.wrap ((x.toNat : Nat) : Int)).tmod 16 = ((x.toNat % 16 : Nat) : Int) := by
  have hx := x.toNat_lt
  rw [wrap_i64 ((x.toNat : Nat) : Int) (by omega) (by omega), Int.tmod_eq_emod_of_nonneg (by omega)]
  rfl
set_option maxHeartbeats 4000000 in
set_option maxRecDepth 100000 in
theorem rs_hex (s : Bs) (hs : s.length ≤ 1000000) {W0 w : World} {K : Know} {L : List Res} (h : St W0 w K L) :
    Calls Tryd.prog 17 #[.string (bb s)] w fun en w' => en = .returned (.string (bb (hexW s))) ∧ St W0 w' K L := by
  by_cases h0 : s = []
  · subst h0
    have H := Lib.hid h
    clear h
    go_enter Tryd.func17, Tryd.ntmps17
    go_wp2
    go_ret
    exact ⟨rfl, H.out⟩
  have hw : hexW s = hexL s := by unfold hexW; rw [if_neg h0]
  rw [hw]
  have q3 : (s == []) = false := by rw [beq_eq_false_iff_ne]; exact h0
  have q4 : (s != []) = true := by simp [bne, q3]
  have hsl : (s.length : Int) ≤ 1000000 := by omega
  have g1 := h.rowLit [] 5 1 0 (by simp) (Nat.zero_le _)
  have H := Lib.hid g1
  have HS := Lib.hid hs
  clear h g1 hs h0 hw
  go_enter Tryd.func17, Tryd.ntmps17
  go_wp2_with fail
  go_loopw [3, 4] (fun ov iv wr => ∃ (k cp : Nat) (q : Option Addr), k ≤ s.length ∧ iv = .int .i64 k ∧ ov = .slice q (2 * k) cp ∧ St W0 wr K (.row (.slice q (2 * k) cp) 5 1 (2 * k) (bvals (hexL (s.take k))) :: L)) (fun _ iv _ => s.length - (intOf iv).toNat)
  case atStart => exact ⟨0, 0, _, Nat.zero_le _, rfl, rfl, H.out⟩
  case round =>
    obtain ⟨k, cp, q, hk, rfl, rfl, hst⟩ := hrel
    clear H
    have H := Lib.hid hst
    clear hst
    by_cases hlt : k < s.length
    · have hlti : (k : Int) < (s.length : Int) := by omega
      have hx := (s[k]'hlt).toNat_lt
      have HQ1 := Lib.hid (show (s[k]'hlt).toNat / 16 < 16 by omega)
      have HQ2 := Lib.hid (show (s[k]'hlt).toNat % 16 < 16 by omega)
      have HV1 := Lib.hid (nib1 (s[k]'hlt))
      have HV2 := Lib.hid (nib2 (s[k]'hlt))
      obtain ⟨d1, hd1⟩ : ∃ d, hexD ((s[k]'hlt).toNat / 16) = d := ⟨_, rfl⟩
      obtain ⟨d2, hd2⟩ : ∃ d, hexD ((s[k]'hlt).toNat % 16) = d := ⟨_, rfl⟩
      have HD1 := Lib.hid hd1
      have HD2 := Lib.hid hd2
      have HTK := Lib.hid (show bvals (hexL (s.take k)) ++ [.int .u8 d1.toNat, .int .u8 d2.toNat] = bvals (hexL (s.take (k + 1))) by rw [← hexL_take s k hlt _ rfl, hd1, hd2]; simp [bvals])
      clear hx hd1 hd2
      go_upto_region 7 with fail
      have hs := H.out.drew
      clear H
      refine wp_region_held_drew (S := fun _ => True) (by kernel_rfl) trivial (fun hHeld => ?_)
      refine wpAnyH_take (i := 0) (oi := { dst := some 14, op := Op.move (Operand.tmp 3), type := 56, pos := "ref.go:37", after := #[], guard := none }) (v := ?_) rfl (by kernel_rfl) (by kernel_rfl) (by kernel_rfl) (fun _ _ _ h => h) (Or.inl ⟨by rfl, ?_⟩) (by assumption) ?_
      rotate_left
      · intro w hSw; (try dsimp only at hSw); go_simp; try with_reducible rfl
      simp only [Act.put, List.setIfInBounds_toArray, List.set_cons_zero, List.set_cons_succ]
      refine wpAnyH_take (i := 1) (oi := { dst := some 15, op := Op.move (Operand.tmp 0), type := 9, pos := "ref.go:37", after := #[], guard := none }) (v := ?_) rfl (by kernel_rfl) (by kernel_rfl) (by kernel_rfl) (fun _ _ _ h => h) (Or.inl ⟨by rfl, ?_⟩) (by assumption) ?_
      rotate_left
      · intro w hSw; (try dsimp only at hSw); go_simp; try with_reducible rfl
      simp only [Act.put, List.setIfInBounds_toArray, List.set_cons_zero, List.set_cons_succ]
      refine wpAnyH_take (i := 2) (oi := { dst := some 16, op := Op.move (Operand.tmp 4), type := 3, pos := "ref.go:37", after := #[], guard := none }) (v := ?_) rfl (by kernel_rfl) (by kernel_rfl) (by kernel_rfl) (fun _ _ _ h => h) (Or.inl ⟨by rfl, ?_⟩) (by assumption) ?_
      rotate_left
      · intro w hSw; (try dsimp only at hSw); go_simp; try with_reducible rfl
      simp only [Act.put, List.setIfInBounds_toArray, List.set_cons_zero, List.set_cons_succ]
      refine wpAnyH_take (i := 3) (oi := { dst := some 17, op := Op.index 9 (Operand.tmp 15) (Operand.tmp 16), type := 5, pos := "ref.go:37", after := #[{ on := 1, ground := Ground.data }, { on := 2, ground := Ground.data }], guard := none }) (v := ?_) rfl (by kernel_rfl) (by kernel_rfl) (by kernel_rfl) (fun _ _ _ h => h) (Or.inl ⟨by rfl, ?_⟩) (by assumption) ?_
      rotate_left
      · intro w hSw; (try dsimp only at hSw); go_simp; try with_reducible rfl
      simp only [Act.put, List.setIfInBounds_toArray, List.set_cons_zero, List.set_cons_succ]
      refine wpAnyH_take (i := 4) (oi := { dst := some 18, op := Op.convert 5 3 (Operand.tmp 17), type := 3, pos := "ref.go:37", after := #[{ on := 3, ground := Ground.data }], guard := none }) (v := ?_) rfl (by kernel_rfl) (by kernel_rfl) (by kernel_rfl) (fun _ _ _ h => h) (Or.inl ⟨by rfl, ?_⟩) (by assumption) ?_
      rotate_left
      · intro w hSw; (try dsimp only at hSw); go_simp; try with_reducible rfl
      simp only [Act.put, List.setIfInBounds_toArray, List.set_cons_zero, List.set_cons_succ]
      refine wpAnyH_take (i := 5) (oi := { dst := some 19, op := Op.binOp BinOp.quo 3 (Operand.tmp 18) (Operand.const (Value.int IntKind.i64 16)) 3, type := 3, pos := "ref.go:37", after := #[{ on := 4, ground := Ground.data }], guard := none }) (v := ?_) rfl (by kernel_rfl) (by kernel_rfl) (by kernel_rfl) (fun _ _ _ h => h) (Or.inl ⟨by rfl, ?_⟩) (by assumption) ?_
      rotate_left
      · intro w hSw; (try dsimp only at hSw); go_simp; try with_reducible rfl
      simp only [Act.put, List.setIfInBounds_toArray, List.set_cons_zero, List.set_cons_succ]
      refine wpAnyH_take (i := 7) (oi := { dst := some 21, op := Op.move (Operand.tmp 0), type := 9, pos := "ref.go:37", after := #[], guard := none }) (v := ?_) rfl (by kernel_rfl) (by kernel_rfl) (by kernel_rfl) (fun _ _ _ h => h) (Or.inl ⟨by rfl, ?_⟩) (by assumption) ?_
      rotate_left
      · intro w hSw; (try dsimp only at hSw); go_simp; try with_reducible rfl
      simp only [Act.put, List.setIfInBounds_toArray, List.set_cons_zero, List.set_cons_succ]
      refine wpAnyH_take (i := 8) (oi := { dst := some 22, op := Op.move (Operand.tmp 4), type := 3, pos := "ref.go:37", after := #[], guard := none }) (v := ?_) rfl (by kernel_rfl) (by kernel_rfl) (by kernel_rfl) (fun _ _ _ h => h) (Or.inl ⟨by rfl, ?_⟩) (by assumption) ?_
      rotate_left
      · intro w hSw; (try dsimp only at hSw); go_simp; try with_reducible rfl
      simp only [Act.put, List.setIfInBounds_toArray, List.set_cons_zero, List.set_cons_succ]
      refine wpAnyH_take (i := 9) (oi := { dst := some 23, op := Op.index 9 (Operand.tmp 21) (Operand.tmp 22), type := 5, pos := "ref.go:37", after := #[{ on := 7, ground := Ground.data }, { on := 8, ground := Ground.data }], guard := none }) (v := ?_) rfl (by kernel_rfl) (by kernel_rfl) (by kernel_rfl) (fun _ _ _ h => h) (Or.inl ⟨by rfl, ?_⟩) (by assumption) ?_
      rotate_left
      · intro w hSw; (try dsimp only at hSw); go_simp; try with_reducible rfl
      simp only [Act.put, List.setIfInBounds_toArray, List.set_cons_zero, List.set_cons_succ]
      refine wpAnyH_take (i := 10) (oi := { dst := some 24, op := Op.convert 5 3 (Operand.tmp 23), type := 3, pos := "ref.go:37", after := #[{ on := 9, ground := Ground.data }], guard := none }) (v := ?_) rfl (by kernel_rfl) (by kernel_rfl) (by kernel_rfl) (fun _ _ _ h => h) (Or.inl ⟨by rfl, ?_⟩) (by assumption) ?_
      rotate_left
      · intro w hSw; (try dsimp only at hSw); go_simp; try with_reducible rfl
      simp only [Act.put, List.setIfInBounds_toArray, List.set_cons_zero, List.set_cons_succ]
      refine wpAnyH_take (i := 11) (oi := { dst := some 25, op := Op.binOp BinOp.rem 3 (Operand.tmp 24) (Operand.const (Value.int IntKind.i64 16)) 3, type := 3, pos := "ref.go:37", after := #[{ on := 10, ground := Ground.data }], guard := none }) (v := ?_) rfl (by kernel_rfl) (by kernel_rfl) (by kernel_rfl) (fun _ _ _ h => h) (Or.inl ⟨by rfl, ?_⟩) (by assumption) ?_
      rotate_left
      · intro w hSw; (try dsimp only at hSw); go_simp; try with_reducible rfl
      simp only [Act.put, List.setIfInBounds_toArray, List.set_cons_zero, List.set_cons_succ]
      refine wpAnyH_ready (rs := [6]) (by kernel_rfl) (by simp) (AllReadyH.cons (o := { dst := some 20, op := Op.call { callee := Callee.value (Operand.func 37), args := #[Operand.tmp 19], argTypes := #[3] }, type := 5, pos := "ref.go:37", after := #[{ on := 5, ground := Ground.data }], guard := none }) rfl (fun KK hK => ?_) AllReadyH.nil)
      · go_simp
        go_at_call 37
        with_reducible refine (rs_digitE _ _ d1 ?_ HQ1.out HD1.out hs).mono ?_
        · exact HV1.out
        rintro e wq ⟨rfl, hs⟩
        refine hK.out _ _ (trivial) (fun hHeld => ?_)
        clear hK KK
        try simp only [Act.put, List.setIfInBounds_toArray, List.set_cons_zero, List.set_cons_succ]
        refine wpAnyH_ready (rs := [12]) (by kernel_rfl) (by simp) (AllReadyH.cons (o := { dst := some 26, op := Op.call { callee := Callee.value (Operand.func 37), args := #[Operand.tmp 25], argTypes := #[3] }, type := 5, pos := "ref.go:37", after := #[{ on := 11, ground := Ground.data }, { on := 6, ground := Ground.chain }], guard := none }) rfl (fun KK hK => ?_) AllReadyH.nil)
        · go_simp
          go_at_call 37
          with_reducible refine (rs_digitE _ _ d2 ?_ HQ2.out HD2.out hs).mono ?_
          · exact HV2.out
          rintro e wq ⟨rfl, hs⟩
          refine hK.out _ _ (trivial) (fun hHeld => ?_)
          clear hK KK
          try simp only [Act.put, List.setIfInBounds_toArray, List.set_cons_zero, List.set_cons_succ]
          refine wpAnyH_ready (rs := [13]) (by kernel_rfl) (by simp) (AllReadyH.cons (o := { dst := some 27, op := Op.buildSlice 56 2 #[(0, Operand.tmp 20), (1, Operand.tmp 26)], type := 56, pos := "ref.go:37", after := #[{ on := 6, ground := Ground.data }, { on := 12, ground := Ground.data }], guard := none }) rfl (fun KK hK => ?_) AllReadyH.nil)
          · rw [if_pos (by rfl)]
            refine op_value (exec_build2 _ _ _ _ (by kernel_rfl) (build2 d1.toNat d2.toNat wq)) ?_
            obtain ⟨wy, b2, ey, eb, hs⟩ := hs.allocEx #[.int .u8 d1.toNat, .int .u8 d2.toNat] 5
            rw [ey, eb]
            clear ey eb
            refine hK.out _ _ (trivial) (fun hHeld => ?_)
            clear hK KK
            try simp only [Act.put, List.setIfInBounds_toArray, List.set_cons_zero, List.set_cons_succ]
            refine wpAnyH_ready (rs := [14]) (by kernel_rfl) (by simp) (AllReadyH.cons (o := { dst := some 28, op := Op.call { callee := Callee.builtin Builtin.append, args := #[Operand.tmp 14, Operand.tmp 27], argTypes := #[56, 56] }, type := 56, pos := "ref.go:37", after := #[{ on := 0, ground := Ground.data }, { on := 13, ground := Ground.data }, { on := 12, ground := Ground.chain }], guard := none }) rfl (fun KK hK => ?_) AllReadyH.nil)
            · rw [if_pos (by rfl)]
              refine op_appm (.tmp 14) (.tmp 27) 56 rfl 5 Tryd.underlying56 elem_u8 _ _ _ (by rfl) b2 2 _ 5 hs (by rfl) rfl (by simp [Value.oneCell']) (by have := HS.out; unfold maxLen; omega) (by have := HS.out; omega) (fun v' w' h => ?_)
              have hs := h
              clear h
              obtain ⟨qv, cv, hv⟩ := hs.rowAny
              subst hv
              refine hK.out _ _ (trivial) (fun hHeld => ?_)
              clear hK KK
              try simp only [Act.put, List.setIfInBounds_toArray, List.set_cons_zero, List.set_cons_succ]
              refine wpAnyH_take (i := 15) (oi := { dst := some 3, op := Op.assign (Operand.tmp 28), type := 56, pos := "ref.go:37", after := #[{ on := 14, ground := Ground.data }, { on := 14, ground := Ground.chain }, { on := 0, ground := Ground.phase }, { on := 1, ground := Ground.phase }, { on := 2, ground := Ground.phase }, { on := 3, ground := Ground.phase }, { on := 4, ground := Ground.phase }, { on := 5, ground := Ground.phase }, { on := 6, ground := Ground.phase }, { on := 7, ground := Ground.phase }, { on := 8, ground := Ground.phase }, { on := 9, ground := Ground.phase }, { on := 10, ground := Ground.phase }, { on := 11, ground := Ground.phase }, { on := 12, ground := Ground.phase }, { on := 13, ground := Ground.phase }, { on := 14, ground := Ground.phase }], guard := none }) (v := ?_) rfl (by kernel_rfl) (by kernel_rfl) (by kernel_rfl) (fun _ _ _ h => h) (Or.inl ⟨by rfl, ?_⟩) (by assumption) ?_
              rotate_left
              · intro w hSw; (try dsimp only at hSw); go_simp; try with_reducible rfl
              simp only [Act.put, List.setIfInBounds_toArray, List.set_cons_zero, List.set_cons_succ]
              refine wpAnyH_done (by kernel_rfl) ?_ _
              clear hHeld
              have H := Lib.hid (show St W0 w' K (.row (.slice qv (2 * (k + 1)) cv) 5 1 (2 * (k + 1)) (bvals (hexL (s.take (k + 1)))) :: L) by rw [← HTK.out]; exact hs)
              clear hs
              go_wp2_with fail
              go_roundw
              case rel => exact ⟨k + 1, cv, qv, hlt, by go_num, rfl, H.out⟩
              case measure => first | (simp [intOf]; done) | (simp [intOf]; omega)
    · obtain rfl : k = s.length := by omega
      have hz : St W0 wr K (.row (.slice q (2 * s.length) cp) 5 1 (2 * s.length) (bvals (hexL s)) :: L) := by have h9 := H.out; rw [List.take_length] at h9; exact h9
      have hcv := hz.rowText (by rw [hexL_len])
      have H2 := Lib.hid hz
      clear H hz
      go_wp2_with fail
      go_ret
      exact ⟨rfl, H2.out.drop⟩

end Go.Proofs.YtenojajfacacoaaDoor
/- Words, by definition. -/
namespace Go.Proofs.YtenojajfacacoaaDoor
open Go.RowKit

set_option maxHeartbeats 4000000 in
set_option maxRecDepth 100000 in
theorem rs_blob (nl : Bool) (d t : Bs) (ht : blobT ⟨nl, d⟩ = t) (hd : d.length ≤ 1000000) {W0 w : World} {K : Know} {L : List Res} (h : St W0 w K L) :
    Calls Tryd.prog 29 #[.agg #[.bool nl, .string (bb d)]] w fun en w' => en = .returned (.string (bb t)) ∧ St W0 w' K L := by
  obtain ⟨xb, hxb⟩ : ∃ b, w.heap.size = b := ⟨_, rfl⟩
  have g1 := h.allocRaw #[.bool nl, .string (bb d)] 48
  rw [hxb] at g1
  have c0 := (g1).rawCell 0; have c1 := (g1).rawCell 1; simp at c0 c1
  have H := Lib.hid g1
  have HDL := Lib.hid hd
  subst ht
  clear h g1 hd
  cases nl
  · go_enter Tryd.func29, Tryd.ntmps29
    go_wp2_with (go_at_call 17; (with_reducible refine (rs_hex d HDL.out H.out).mono ?_); rintro e_ wn ⟨rfl, h⟩; replace H := Lib.hid h; clear h)
    go_ret
    exact ⟨rfl, H.out.drop⟩
  · go_enter Tryd.func29, Tryd.ntmps29
    go_wp2_with fail
    go_ret
    exact ⟨rfl, H.out.drop⟩
set_option maxHeartbeats 4000000 in
set_option maxRecDepth 100000 in
theorem rs_letters (a0 a1 a2 a3 a4 a5 a6 a7 : Value) (va vt vc : Bool) (v t : Value) (ht : t = .string (bb (letW va vt vc))) {W0 w : World} {K : Know} {L : List Res} (h : St W0 w K L) :
    Calls Tryd.prog 28 #[.agg #[a0, a1, .bool va, .bool vt, .bool vc, a2, a3, a4, a5, a6, a7, v]] w fun en w' => en = .returned t ∧ St W0 w' K L := by
  obtain ⟨xb, hxb⟩ : ∃ b, w.heap.size = b := ⟨_, rfl⟩
  have g1 := h.allocRaw #[a0, a1, .bool va, .bool vt, .bool vc, a2, a3, a4, a5, a6, a7, v] 45
  rw [hxb] at g1
  have c2 := g1.rawCell 2
  have c3 := g1.rawCell 3
  have c4 := g1.rawCell 4
  simp at c2 c3 c4
  have k0 : ((⟨#[]⟩ : ByteArray) ++ (⟨#[97]⟩ : ByteArray)) = ⟨#[97]⟩ := by rfl
  have k1 : ((⟨#[]⟩ : ByteArray) ++ (⟨#[116]⟩ : ByteArray)) = ⟨#[116]⟩ := by rfl
  have k2 : ((⟨#[]⟩ : ByteArray) ++ (⟨#[99]⟩ : ByteArray)) = ⟨#[99]⟩ := by rfl
  have k3 : ((⟨#[97]⟩ : ByteArray) ++ (⟨#[116]⟩ : ByteArray)) = ⟨#[97, 116]⟩ := by rfl
  have k4 : ((⟨#[97]⟩ : ByteArray) ++ (⟨#[99]⟩ : ByteArray)) = ⟨#[97, 99]⟩ := by rfl
  have k5 : ((⟨#[116]⟩ : ByteArray) ++ (⟨#[99]⟩ : ByteArray)) = ⟨#[116, 99]⟩ := by rfl
  have k6 : ((⟨#[97, 116]⟩ : ByteArray) ++ (⟨#[99]⟩ : ByteArray)) = ⟨#[97, 116, 99]⟩ := by rfl
  have j7 : (⟨#[97]⟩ : ByteArray).toList.isEmpty = false := by decide +kernel
  have j8 : (⟨#[116]⟩ : ByteArray).toList.isEmpty = false := by decide +kernel
  have j9 : (⟨#[99]⟩ : ByteArray).toList.isEmpty = false := by decide +kernel
  have j10 : (⟨#[97, 116]⟩ : ByteArray).toList.isEmpty = false := by decide +kernel
  have j11 : (⟨#[97, 99]⟩ : ByteArray).toList.isEmpty = false := by decide +kernel
  have j12 : (⟨#[116, 99]⟩ : ByteArray).toList.isEmpty = false := by decide +kernel
  have j13 : (⟨#[97, 116, 99]⟩ : ByteArray).toList.isEmpty = false := by decide +kernel
  have H := Lib.hid g1
  subst ht
  clear h g1
  cases va <;> cases vt <;> cases vc <;> (
    go_enter Tryd.func28, Tryd.ntmps28
    go_wp2_with fail
    go_ret
    exact ⟨rfl, H.out.drop⟩)

end Go.Proofs.YtenojajfacacoaaDoor
/- Lines, by definition (pure). -/
namespace Go.Proofs.YtenojajfacacoaaDoor
open Go.RowKit

theorem rs_hexT (s t : Bs) (ht : hexW s = t) (hs : s.length ≤ 1000000) {W0 w : World} {K : Know} {L : List Res} (h : St W0 w K L) :
    Calls Tryd.prog 17 #[.string (bb s)] w fun en w' => en = .returned (.string (bb t)) ∧ St W0 w' K L := by
  subst ht; exact rs_hex s hs h
theorem flat_le {α : Type} (f : α → Bs) : ∀ (l : List α), (∀ x ∈ l, 1 ≤ (f x).length) → l.length ≤ (l.flatMap f).length
  | [], _ => Nat.le_refl _
  | x :: t, h => by
    have h1 := flat_le f t (fun y hy => h y (by simp [hy]))
    have h2 := h x (by simp)
    rw [List.flatMap_cons, List.length_append, List.length_cons]
    omega
theorem hexW_len (s : Bs) : s.length ≤ (hexW s).length := by
  unfold hexW
  split
  · rename_i h; subst h; exact Nat.zero_le _
  · rw [hexL_len]; omega
theorem blobT_len (b : BlobS) (h : oddB b = false) : b.data.length ≤ (blobT b).length := by
  unfold blobT
  split
  · rename_i hn
    unfold oddB at h
    rw [hn] at h
    simp at h
    rw [h]; exact Nat.zero_le _
  · exact hexW_len _

end Go.Proofs.YtenojajfacacoaaDoor
