/- A batch, written. -/
import Derived.Test.YtenojajfacacoaaDoorGScriptBackCard5
import Derived.Test.YtenojajfacacoaaDoorGScriptBackCard2
import Derived.Test.YtenojajfacacoaaDoorSc7P
import Derived.Test.YtenojajfacacoaaDoorRegOp
import Derived.RegionTactic
import Derived.WalkMore
import Derived.Deep.RegionHeld3
import Derived.Deep.DeepCutAuto
import Derived.Test.YtenojajfacacoaaDoorSc9P
import Derived.Test.YtenojajfacacoaaDoorGScriptBackCard1
import Derived.Test.YtenojajfacacoaaDoorSc1P
import Derived.Test.YtenojajfacacoaaDoorSb1
import Derived.Test.YtenojajfacacoaaDoorSc4
/- How long the text of a script is (pure). -/
namespace Go.Proofs.YtenojajfacacoaaDoor
open Go.RowKit

theorem numW_len (n : Int) (h : Rn n) : (numW n).length ≤ 31 := by
  unfold Rn at h
  unfold numW
  by_cases h0 : n < 0
  · obtain ⟨u, rfl⟩ : ∃ u : Nat, n = -(u : Int) := ⟨n.natAbs, by omega⟩
    rw [Lib.itoa_neg u (by omega)]
    by_cases hu : u ≤ 9223372036854775807
    · have := dec_len2 u hu; rw [List.length_cons]; omega
    · have e : u = 9223372036854775808 := by omega
      subst e
      have h9 : (Lib.decDigits 9223372036854775808).length = (Lib.decDigits 922337203685477580 ++ [UInt8.ofNat (48 + 9223372036854775808 % 10)]).length := by rw [dec_big (by omega)]
      rw [List.length_append] at h9
      have := dec_len2 922337203685477580 (by omega)
      rw [List.length_cons, h9, List.length_cons, List.length_nil]; omega
  · obtain ⟨u, rfl⟩ : ∃ u : Nat, n = (u : Int) := ⟨n.natAbs, by omega⟩
    rw [Lib.itoa_nonneg]
    have := dec_len2 u (by omega); omega
theorem hexW_le (s : Bs) : (hexW s).length ≤ 2 * s.length + 1 := by
  unfold hexW
  split
  · simp
  · rw [hexL_len]; omega
theorem blobT_le (b : BlobS) : (blobT b).length ≤ 2 * b.data.length + 4 := by
  unfold blobT
  split
  · simp
  · have := hexW_le b.data; omega
theorem flat_leC {α : Type} (f : α → Bs) (n : Nat) : ∀ (l : List α), (∀ x ∈ l, (f x).length ≤ n) → (l.flatMap f).length ≤ l.length * n
  | [], _ => by simp
  | x :: t, h => by
    have h1 := flat_leC f n t (fun y hy => h y (by simp [hy]))
    have h2 := h x (by simp)
    rw [List.flatMap_cons, List.length_append, List.length_cons, Nat.succ_mul]
    omega
theorem hAll_mem : ∀ (l : List HdrS), hAll l = true → ∀ z ∈ l, z.key.length + z.val.data.length ≤ 100
  | [], _, _, h => by cases h
  | r :: t, hh, x, hx => by
    simp only [hAll, Bool.and_eq_true, decide_eq_true_eq] at hh
    rcases List.mem_cons.1 hx with rfl | hx
    · exact hh.1
    · exact hAll_mem t hh.2 x hx
theorem recT_le (r : RecS) (h : smallRec r = true) (hr : Rn r.time ∧ Rn r.off) : (recT r).length ≤ 2000 := by
  unfold smallRec at h
  simp only [Bool.and_eq_true, decide_eq_true_eq] at h
  obtain ⟨h1, h2, h3⟩ := h
  have a1 := numW_len r.time hr.1
  have a2 := numW_len r.off hr.2
  have a3 := blobT_le r.key
  have a4 := blobT_le r.val
  have a5 := flat_leC hdrT 220 r.hdrs (fun z hz => by
    have b1 := hAll_mem r.hdrs h3 z hz
    have b2 := hexW_le z.key
    have b3 := blobT_le z.val
    unfold hdrT
    simp only [List.length_append, List.length_cons, List.length_nil]
    omega)
  unfold recT recH
  simp only [List.length_append, List.length_cons, List.length_nil]
  omega
theorem numsT_le (l : List Int) (h : ∀ n ∈ l, Rn n) : (numsT l).length ≤ l.length * 32 := flat_leC _ 32 l (fun n hn => by have := numW_len n (h n hn); simp only [List.length_cons]; omega)
theorem batL_le (b : BatS) (h : batR b) : (batL b).length ≤ 300 := by
  have h1 := numsT_le (batN b) h
  have h2 : (letW b.app b.txn b.ctl).length ≤ 3 := by cases b.app <;> cases b.txn <;> cases b.ctl <;> decide
  unfold batL
  simp only [List.length_append, List.length_cons, List.length_nil]
  have h3 : (batN b).length = 8 := rfl
  omega
theorem btT_le (x : BtR) (h : smallB (x.l.map (·.1)) = true) (hb : batR x.b) (hr : ∀ y ∈ x.l, Rn y.1.time ∧ Rn y.1.off) : (btT x).length ≤ 30000 := by
  unfold smallB at h
  simp only [Bool.and_eq_true, decide_eq_true_eq, List.length_map] at h
  have h1 := batL_le x.b hb
  have h2 := flat_leC (fun y : RecS × Value => recT y.1) 2000 x.l (fun y hy => recT_le y.1 (rAll_mem _ h.2 y.1 (List.mem_map.2 ⟨y, hy, rfl⟩)) (hr y hy))
  unfold btT
  rw [List.length_append]
  omega
def smallS (l : List BtR) (ch : List Int) : Bool := decide (l.length ≤ 8) && (decide (ch.length ≤ 200) && l.all fun x => smallB (x.l.map (·.1)))
theorem script_le (l : List BtR) (c : Int) (ch : List Int) (h : smallS l ch = true) (hc : Rn c) (hch : ∀ v ∈ ch, Rn v) (hb : ∀ x ∈ l, batR x.b) (hr : ∀ x ∈ l, ∀ y ∈ x.l, Rn y.1.time ∧ Rn y.1.off) : (l.flatMap btT ++ (cutT c ++ chT ch)).length ≤ 300000 := by
  unfold smallS at h
  simp only [Bool.and_eq_true, decide_eq_true_eq, List.all_eq_true] at h
  obtain ⟨h1, h2, h3⟩ := h
  have a1 := flat_leC btT 30000 l (fun x hx => btT_le x (h3 x hx) (hb x hx) (hr x hx))
  have a2 := numsT_le ch hch
  have a3 := numW_len c hc
  have a4 : (cutT c).length ≤ 40 := by unfold cutT; split <;> simp only [List.length_append, List.length_cons, List.length_nil] <;> omega
  have a5 : (chT ch).length ≤ 7000 := by unfold chT; split <;> simp only [List.length_append, List.length_cons, List.length_nil] <;> omega
  rw [List.length_append, List.length_append]
  omega
/-- A script can be told. -/
def mayP (l : List BtR) (c : Int) : Prop := -1 ≤ c ∧ ∀ x ∈ l, ∀ y ∈ x.l, oddB y.1.key = false ∧ oddB y.1.val = false ∧ ∀ z ∈ y.1.hdrs, oddB z.val = false
theorem may_fine {l : List BtR} {c : Int} (h : mayP l c) (hb : ∀ x ∈ l, batR x.b) (hr : ∀ x ∈ l, ∀ y ∈ x.l, Rn y.1.time ∧ Rn y.1.off) : ∀ x ∈ l, btFine x := fun x hx => ⟨hb x hx, fun y hy => ⟨(h.2 x hx y hy).1, (h.2 x hx y hy).2.1, (h.2 x hx y hy).2.2, (hr x hx y hy).1, (hr x hx y hy).2⟩⟩

end Go.Proofs.YtenojajfacacoaaDoor
/- Texts, read. -/
namespace Go.Proofs.YtenojajfacacoaaDoor
open Go.RowKit

set_option maxHeartbeats 8000000 in
set_option maxRecDepth 100000 in
theorem parse_any (text : Bs) (hl : text.length ≤ 900000) {W0 w : World} {K : Know} {L : List Res} (hlib : K.has Know.lib) (h : St W0 w K L) :
    Calls Tryd.prog 10 #[.string (bb text)] w fun en w' =>
      (parseL 0 0 (-1) [] 1 (partsC 10 text) = 0 ∧ ∃ (K' : Know) (l : List BtR) (c : Int) (ch : List Int) (vB : Value) (q : Option Addr) (cap : Nat), en = .returned (.tuple #[.agg #[vB, .int .i64 c, .slice q ch.length cap], .int .i64 0]) ∧ K'.has K ∧ K'.has (Know.btrs vB l) ∧ K'.has (Know.flat RInt (.slice q ch.length cap) 1 ch) ∧ l.flatMap btT ++ (cutT c ++ chT ch) = text ∧ -1 ≤ c ∧ Rn c ∧ (∀ v ∈ ch, Rn v) ∧ (∀ x ∈ l, btFine x) ∧ St W0 w' K' L) ∨
      (∃ (bad : Nat) (K' : Know), parseL 0 0 (-1) [] 1 (partsC 10 text) = bad ∧ 0 < bad ∧ bad ≤ 900001 ∧ en = .returned (.tuple #[.agg #[.slice none 0 0, .int .i64 0, .slice none 0 0], .int .i64 bad]) ∧ K'.has K ∧ St W0 w' K' L) := by
  obtain ⟨sb, hsb⟩ : ∃ b, w.heap.size = b := ⟨_, rfl⟩
  obtain ⟨rd, hrd⟩ : ∃ b, sb + 1 = b := ⟨_, rfl⟩
  have g1 := (h.allocRaw #[.slice none 0 0, .int .i64 0, .slice none 0 0] 25).allocRaw #[.slice none 0 0, .int .i64 (-1), .slice none 0 0] 65
  simp only [World.size_alloc, hsb, hrd] at g1
  have H := Lib.hid g1
  have HLIB := Lib.hid hlib
  clear h g1 hlib
  go_enter Tryd.func10, Tryd.ntmps10
  go_wp2_with fail
  go_loopw [0, 5] (fun tv nv wr => ∃ (K' : Know) (t : Bs) (s : BSt) (c : Int) (ch : List Int) (ln : Nat), tv = .string (bb t) ∧ nv = .int .i64 ln ∧ Hid (K'.has K) ∧ Hid (Upto text t s c ch ln) ∧ Hid (MemS rd s c ch W0 wr K' (.raw sb #[.slice none 0 0, .int .i64 0, .slice none 0 0] 25 :: L))) (fun _ nv _ => text.length + 2 - (intOf nv).toNat)
  case atStart => exact ⟨K, text, .zero, -1, [], 1, rfl, by rfl, Lib.hid (Know.has_refl _), Lib.hid ⟨rfl, by decide, by unfold Rn; decide, (fun v hv => by cases hv), trivial, Nat.zero_le _, Nat.zero_le _, Nat.zero_le _, Nat.le_refl _, by omega, rfl⟩, Lib.hid ⟨.slice none 0 0, .slice none 0 0, .slice none 0 0, none, 0, (((H.out.nilRow 45 12).nilRow 51 7).nilRow 54 3).p3.p3.p3.p3 |> fun h => by first | exact h | exact (((H.out.nilRow 54 3).p1.nilRow 51 7).p1.nilRow 45 12).p1, trivial, fun w F hh => ⟨none, 0, rfl, fun h0 => absurd h0 (Nat.lt_irrefl 0)⟩⟩⟩
  case round =>
    obtain ⟨K', t, s, c, ch, ln, rfl, rfl, HKK, HU, HMS⟩ := hrel
    clear H
    obtain ⟨vB, vR, vH, q, cap, hst, hs, hf⟩ := HMS.out
    have HS := Lib.hid hs
    have HF := Lib.hid hf
    have HLIB2 := Lib.hid (Know.has_trans HKK.out HLIB.out)
    have HTL := Lib.hid (show t.length ≤ 1000000 by have h4 := HU.out.len; omega)
    clear hs hf HMS
    by_cases ht : t = []
    · subst ht
      obtain ⟨qv, cv, hv⟩ := hst.p1.rowAny
      subst hv
      have H := Lib.hid hst
      have d0 := (hst).rawCell 0; have d1 := (hst).rawCell 1; have d2 := (hst).rawCell 2; simp at d0 d1 d2
      have e0 := (hst.p4).rawCell 0; have e1 := (hst.p4).rawCell 1; have e2 := (hst.p4).rawCell 2; simp at e0 e1 e2; have r0 := (hst.p4).rawFree 0; have r1 := (hst.p4).rawFree 1; have r2 := (hst.p4).rawFree 2
      clear hst
      go_wp2_with fail
      have hz : St W0 _ K' (.raw sb #[.slice qv s.n cv, .int .i64 c, .slice q ch.length cap] 25 :: _) := ((H.out.p4.rawSet 0 (.slice qv s.n cv)).rawSet 1 (.int .i64 c)).rawSet 2 (.slice q ch.length cap)
      refine bodyPost_ret (rc_cell_tmpS rfl _ _ sb [.slice qv s.n cv, .int .i64 c, .slice q ch.length cap] _ rfl (rc_rangeS hz) Tryd.underlying25 rfl (by kernel_rfl)) rfl ?_
      obtain ⟨K2, hk2, hc2, h2⟩ := closeS HS.out hz.drop
      obtain ⟨K3, hk3, hb3, h3⟩ := shutB h2.drop hc2
      refine .inl ⟨by rw [← HU.out.rest]; rfl, K3, s.close vR vH, c, ch, .slice qv s.n cv, q, cap, rfl, Know.has_trans hk3 (Know.has_trans hk2 HKK.out), hb3, Know.has_trans hk3 (Know.has_trans hk2 HF.out), ?_, HU.out.cut, HU.out.cutR, HU.out.chR, close_fine s vR vH HU.out.fine, h3⟩
      rw [close_txt, ← HU.out.txt]
      simp [txtS]
    · have t1 : (t == ([] : Bs)) = false := by rw [beq_eq_false_iff_ne]; exact ht
      have t2 : (([] : Bs) == t) = false := by rw [beq_eq_false_iff_ne]; exact fun h => ht h.symm
      have t3 : (t != ([] : Bs)) = true := by simp [bne, t1]
      have HB := Lib.hid (show ln ≤ 900001 ∧ 0 < ln by have h4 := HU.out.len; have h5 := HU.out.one; omega)
      have hlni : (ln : Int) ≤ 900001 := by have := HB.out; omega
      rcases cut_parts 10 t with ⟨hp, hcut⟩ | ⟨i, hi, hp, hcut⟩
      · have HR := Lib.hid (show parseL 0 0 (-1) [] 1 (partsC 10 text) = ln by rw [← HU.out.rest, hp]; exact if_neg ht)
        obtain ⟨line, hline⟩ : ∃ line, t = line := ⟨_, rfl⟩
        obtain ⟨rest, hrest⟩ : ∃ rest, rest = ([] : Bs) := ⟨_, rfl⟩
        have HCUT := Lib.hid (show Lib.cut t [10] = (line, rest, false) by rw [hcut, hrest, ← hline])
        have H := Lib.hid hst
        clear hst hp hcut hline hrest ht
        go_wp2_with (go_at_call 25; (try clear z0 z1 z2 y0 y1 y2); (with_reducible refine (sl_cutN t line rest false HCUT.out HTL.out HLIB2.out H.out).mono ?_); rintro e_ wn ⟨rfl, h⟩; have h := rows_drop h.drop; have y0 := (h).rawCell 0; have y1 := (h).rawCell 1; have y2 := (h).rawCell 2; simp at y0 y1 y2; have r0 := (h).rawFree 0; have r1 := (h).rawFree 1; have r2 := (h).rawFree 2; replace H := Lib.hid h; clear h)
        have hz : St W0 _ _ (.raw sb #[.slice none 0 0, .int .i64 0, .slice none 0 0] 25 :: _) := ((H.out.rawSet 0 (.slice none 0 0)).rawSet 1 (.int .i64 0)).rawSet 2 (.slice none 0 0)
        refine bodyPost_ret (rc_cell_tmpS rfl _ _ sb [.slice none 0 0, .int .i64 0, .slice none 0 0] _ rfl (rc_rangeS hz) Tryd.underlying25 rfl (by kernel_rfl)) rfl ?_
        exact .inr ⟨ln, K', HR.out, HB.out.2, HB.out.1, rfl, HKK.out, hz.drop⟩
      · obtain ⟨line, hline⟩ : ∃ line, t.take i = line := ⟨_, rfl⟩
        obtain ⟨rest, hrest⟩ : ∃ rest, t.drop (i + 1) = rest := ⟨_, rfl⟩
        have HCUT := Lib.hid (show Lib.cut t [10] = (line, rest, true) by rw [hcut, hline, hrest])
        obtain ⟨w0, r, hw0⟩ := partsC_ne 32 line
        obtain ⟨nw, hnw⟩ : ∃ nw, (w0 :: r).length = nw := ⟨_, rfl⟩
        have HNW := Lib.hid (show (w0 :: r).length = nw from hnw)
        have HNW2 := Lib.hid (show nw = (w0 :: r).length from hnw.symm)
        have HWO := Lib.hid (show wordsOf line = (w0 :: r).map bb by rw [wordsOf_parts, hw0])
        have HLL := Lib.hid (show line.length ≤ 1000000 by rw [← hline]; simp; have := HTL.out; omega)
        have HWX := Lib.hid (show ∀ y ∈ w0 :: r, y.length ≤ 1000000 from fun y hy => by have h9 := (partsC_len 32 line).2 y (by rw [hw0]; exact hy); have := HLL.out; omega)
        have HWL := Lib.hid (show (w0 :: r).length ≤ 1000000 by have h9 := (partsC_len 32 line).1; rw [hw0] at h9; have h8 : line.length ≤ 900000 := (by rw [← hline]; simp; have := HU.out.len; omega); omega)
        have HBD := Lib.hid (show s.n ≤ 1000000 ∧ s.m ≤ 1000000 ∧ s.p ≤ 1000000 from by have h1 := HU.out.n; have h2 := HU.out.m; have h3 := HU.out.p; have h4 := HU.out.len; omega)
        have HLN := Lib.hid (show ln ≤ 900001 by have h4 := HU.out.len; omega)
        have H := Lib.hid hst
        clear hst hcut hnw
        cases hno : rdLine s.n s.m c ch (w0 :: r) with
        | none =>
          have HNO := Lib.hid hno
          have HR := Lib.hid (show parseL 0 0 (-1) [] 1 (partsC 10 text) = ln by
            rw [← HU.out.rest, hp]
            obtain ⟨q9, r9, e9⟩ := partsC_ne 10 (t.drop (i + 1))
            rw [e9]
            exact parseL_no _ _ _ _ _ _ _ _ (by rw [hline, hw0]; exact hno))
          clear hno hp hline hrest hw0 ht hi
          go_wp2_with (first
    | (go_at_call 25; (try clear z0 z1 z2 y0 y1 y2); (with_reducible refine (sl_cutN t line rest true HCUT.out HTL.out HLIB2.out H.out).mono ?_); rintro e_ wn ⟨rfl, h⟩; replace H := Lib.hid h; clear h)
    | (go_at_call 13; (with_reducible refine (sl_splitN line (w0 :: r) nw HNW.out HWO.out HLL.out HLIB2.out H.out).mono ?_); rintro e_ wn ⟨wb, rfl, h⟩; have h := h.strs; have HKW := Lib.hid (Know.has_right (a := K') (Know.has_refl (Know.strs wb 0 (w0 :: r)))); have HLIB3 := Lib.hid (Know.has_left (b := Know.strs wb 0 (w0 :: r)) HLIB2.out); have HM := Lib.hid (show MemS rd s c ch W0 wn (K'.and (Know.strs wb 0 (w0 :: r))) (.raw sb #[.slice none 0 0, .int .i64 0, .slice none 0 0] 25 :: L) from ⟨vB, vR, vH, q, cap, h, HS.out.mono (Know.has_left (Know.has_refl _)), Know.has_left HF.out⟩); clear h H)
    | (go_at_call 26; (with_reducible refine (rd_line_no rd wb nw s c ch w0 r HNW2.out HWX.out HWL.out HBD.out HNO.out HLIB3.out HKW.out HM.out).mono ?_); rintro e_ wn ⟨K2, rfl, hk2, h⟩; have HK2 := Lib.hid hk2; clear hk2; have y0 := (h).rawCell 0; have y1 := (h).rawCell 1; have y2 := (h).rawCell 2; simp at y0 y1 y2; have r0 := (h).rawFree 0; have r1 := (h).rawFree 1; have r2 := (h).rawFree 2; replace H := Lib.hid h; clear h))
          have hz : St W0 _ _ (.raw sb #[.slice none 0 0, .int .i64 0, .slice none 0 0] 25 :: _) := ((H.out.rawSet 0 (.slice none 0 0)).rawSet 1 (.int .i64 0)).rawSet 2 (.slice none 0 0)
          refine bodyPost_ret (rc_cell_tmpS rfl _ _ sb [.slice none 0 0, .int .i64 0, .slice none 0 0] _ rfl (rc_rangeS hz) Tryd.underlying25 rfl (by kernel_rfl)) rfl ?_
          exact .inr ⟨ln, K2, HR.out, HB.out.2, HB.out.1, rfl, Know.has_trans HK2.out (Know.has_left HKK.out), hz.drop⟩
        | some k =>
          have HNO := Lib.hid hno
          have HNX := Lib.hid (fun vR vH => HU.out.next hi hp (by rw [hline, hw0]; exact hno) (parts_cut hi hp) vR vH)
          rw [hrest] at HNX
          clear hno hp hline hrest hw0 ht hi
          go_wp2_with (first
    | (go_at_call 25; (try clear z0 z1 z2 y0 y1 y2); (with_reducible refine (sl_cutN t line rest true HCUT.out HTL.out HLIB2.out H.out).mono ?_); rintro e_ wn ⟨rfl, h⟩; replace H := Lib.hid h; clear h)
    | (go_at_call 13; (with_reducible refine (sl_splitN line (w0 :: r) nw HNW.out HWO.out HLL.out HLIB2.out H.out).mono ?_); rintro e_ wn ⟨wb, rfl, h⟩; have h := h.strs; have HKW := Lib.hid (Know.has_right (a := K') (Know.has_refl (Know.strs wb 0 (w0 :: r)))); have HLIB3 := Lib.hid (Know.has_left (b := Know.strs wb 0 (w0 :: r)) HLIB2.out); have HM := Lib.hid (show MemS rd s c ch W0 wn (K'.and (Know.strs wb 0 (w0 :: r))) (.raw sb #[.slice none 0 0, .int .i64 0, .slice none 0 0] 25 :: L) from ⟨vB, vR, vH, q, cap, h, HS.out.mono (Know.has_left (Know.has_refl _)), Know.has_left HF.out⟩); clear h H)
    | (go_at_call 26; (with_reducible refine (rd_line_yes rd wb nw s c ch w0 r k HNW2.out HWX.out HWL.out HBD.out HNO.out HLIB3.out HKW.out HM.out).mono ?_); rintro e_ wn ⟨K2, vR2, vH2, rfl, hk2, hm2⟩; have HK2 := Lib.hid hk2; have HM2 := Lib.hid hm2; clear hk2 hm2))
          go_roundw
          case rel => exact ⟨K2, rest, _, _, _, ln + 1, rfl, by go_num, Lib.hid (Know.has_trans HK2.out (Know.has_left HKK.out)), Lib.hid (HNX.out vR2 vH2), HM2⟩
          case measure => have := HB.out; have := (HNX.out vR2 vH2).len; first | (simp [intOf]; done) | (simp [intOf]; omega)

end Go.Proofs.YtenojajfacacoaaDoor
/- Words between blanks (pure). -/
namespace Go.Proofs.YtenojajfacacoaaDoor
open Go.RowKit

theorem join_joinC : ∀ ws : List Bs, Lib.join ws [32] = joinC 32 ws
  | [] => rfl
  | w :: r => by
    rw [Lib.join_cons, joinC_flat]
    congr 1
theorem sc_join (ws : List Bs) (t : Bs) (wb n cap : Nat) (hn : n = ws.length) (hnc : n ≤ cap) (hl : ws.length ≤ 1000000) (ht : joinC 32 ws = t) (htl : t.length ≤ 1000000) {W0 w : World} {K : Know} {L : List Res} (hk : K.has (Know.strs wb 0 ws)) (h : St W0 w K L) :
    Calls Tryd.prog 14 #[.slice (some ⟨wb, 0, none⟩) n cap, .string ⟨#[32]⟩] w fun e w' => e = .returned (.string (bb t)) ∧ St W0 w' K L := by
  subst hn
  obtain ⟨F, hF, _⟩ := h.get
  obtain ⟨_, h2, h3⟩ := hk _ _ hF
  have e1 : (ws.map bb).map (fun x => x.data.toList) = ws := by
    rw [List.map_map]
    conv => rhs; rw [← List.map_id ws]
    refine List.map_congr_left fun x _ => ?_
    simp
  have e2 : (⟨#[32]⟩ : ByteArray).data.toList = [32] := rfl
  have h4 := Tryd.strings_Join wb 0 cap (ws.map bb) ⟨#[32]⟩ w (fun j x hx => by
    rw [List.getElem?_map] at hx
    cases hj : ws[j]? with
    | none => rw [hj] at hx; cases hx
    | some y => rw [hj] at hx; injection hx with hx; subst hx; exact h3 j y hj) h2 (by simp; omega) (by simpa using hnc) (by rw [e1, e2, join_joinC, ht]; omega)
  rw [e1, e2, join_joinC, ht, List.length_map] at h4
  exact h4.mono (by rintro e w' ⟨rfl, hb⟩; exact ⟨rfl, h.below' hb⟩)
theorem elem_strS : ElemT Tryd.prog 9 (.string ⟨#[]⟩) 1 16 := elemT_of (by kernel_rfl) rfl (by decide)
def scellS (s : Bs) : List Value := [.string (bb s)]
theorem St.rowStrs {W0 w : World} {K : Know} {L : List Res} {v : Value} {ws : List Bs} {T : TypeId} (h : St W0 w K (.row v T 1 ws.length (ws.flatMap scellS) :: L)) (h0 : 0 < ws.length) : ∃ wb cap, v = .slice (some ⟨wb, 0, none⟩) ws.length cap ∧ ws.length ≤ cap ∧ St W0 w (K.and (Know.strs wb 0 ws)) L := by
  obtain ⟨g, cap, hv⟩ := h.rowSlice h0
  subst hv
  have hcc := h.rowGet
  refine ⟨g, cap, rfl, ?_, h.freeze fun F S1 _ hr => ?_⟩
  · rcases hcc.2 with ⟨hv, _⟩ | ⟨g2, cap2, cur, hv, hle, _⟩
    · cases hv
    · injection hv with _ _ hv; subst hv; omega
  · obtain ⟨⟨g1, g2⟩, g3⟩ := hr
    rcases g2 with ⟨hv, _⟩ | ⟨g4, cap4, cur, hv, _, hg, hn, hcm, hcs, htake⟩
    · cases hv
    · injection hv with hv1 hv2 hv3
      injection hv1 with hv1
      injection hv1 with hv1
      subst hv1
      have hlt := heap_lt hg
      refine ⟨.inr ⟨(g3 _).2 rfl, hlt⟩, hlt, fun j x hx => ?_⟩
      rw [cell_at hg, Nat.zero_add]
      have hj : j < ws.length := (List.getElem?_eq_some_iff.1 hx).1
      have e := flatMap_get ws scellS 1 (fun _ _ => rfl) j hj 0 (by omega)
      rw [(List.getElem?_eq_some_iff.1 hx).2, Nat.mul_one, Nat.add_zero] at e
      rw [← htake, List.getElem?_take_of_lt (by omega)] at e
      simpa [scellS] using e

end Go.Proofs.YtenojajfacacoaaDoor
/- Bytes in words. -/
namespace Go.Proofs.YtenojajfacacoaaDoor
open Go.RowKit

set_option maxHeartbeats 4000000 in
set_option maxRecDepth 100000 in
theorem sc_hex (s : Bs) (hs : s.length ≤ 1000000) {W0 w : World} {K : Know} {L : List Res} (h : St W0 w K L) :
    Calls Tryd.prog 15 #[.string (bb s)] w fun en w' => en = .returned (.string (bb (hexW s))) ∧ St W0 w' K L := by
  by_cases h0 : s = []
  · subst h0
    have H := Lib.hid h
    clear h
    go_enter Tryd.func15, Tryd.ntmps15
    go_wp2
    go_ret
    exact ⟨rfl, H.out⟩
  have hw : hexW s = hexL s := by unfold hexW; rw [if_neg h0]
  rw [hw]
  have q3 : (s == []) = false := by rw [beq_eq_false_iff_ne]; exact h0
  have q4 : (s != []) = true := by simp [bne, q3]
  have hsl : (s.length : Int) ≤ 1000000 := by omega
  obtain ⟨b, hb⟩ : ∃ b, w.heap.size = b := ⟨_, rfl⟩
  have g1 := h.sbNew
  rw [hb] at g1
  have H := Lib.hid g1
  have HS := Lib.hid hs
  have H0 := Lib.hid h0
  clear h g1 hs h0 hw
  go_enter Tryd.func15, Tryd.ntmps15
  go_wp2_with fail
  go_loopw [9] (fun iv wr => ∃ k : Nat, k ≤ s.length ∧ iv = .int .i64 k ∧ St W0 wr K (.gen (sbG b (hexL (s.take k))) :: L)) (fun iv _ => s.length - (intOf iv).toNat)
  case atStart => exact ⟨0, Nat.zero_le _, rfl, H.out⟩
  case round =>
    obtain ⟨k, hk, rfl, hst⟩ := hrel
    clear H
    have H := Lib.hid hst
    clear hst
    by_cases hlt : k < s.length
    · have hlti : (k : Int) < (s.length : Int) := by omega
      obtain ⟨x, hx⟩ : ∃ x, s[k] = x := ⟨_, rfl⟩
      have q1 : 0 ≤ (((s[k]'hlt).toNat : Nat) : Int) / 16 ∧ (((s[k]'hlt).toNat : Nat) : Int) / 16 < 16 := by have := (s[k]'hlt).toNat_lt; omega
      have q2 : 0 ≤ (((s[k]'hlt).toNat : Nat) : Int) % 16 ∧ (((s[k]'hlt).toNat : Nat) : Int) % 16 < 16 := by omega
      have HLA := Lib.hid (show (hexL (s.take k)).length ≤ 1000000000000 by rw [hexL_len, List.length_take]; have := HS.out; omega)
      have HLB := Lib.hid (show (hexL (s.take k) ++ [hexD ((s[k]'hlt).toNat / 16)]).length ≤ 1000000000000 by rw [List.length_append, hexL_len, List.length_take]; have := HS.out; simp only [List.length_singleton]; omega)
      have HTK := Lib.hid (hexL_take s k hlt _ rfl)
      clear hx
      go_wp2_with (first
        | (go_at_call 35; (with_reducible refine (sb_byte b (hexL (s.take k)) _ HLA.out H.out).mono ?_); rintro e_ wn ⟨rfl, h⟩; rw [digA] at h; replace H := Lib.hid h; clear h)
        | (go_at_call 35; (with_reducible refine (sb_byte b (hexL (s.take k) ++ [hexD ((s[k]'hlt).toNat / 16)]) _ HLB.out H.out).mono ?_); rintro e_ wn ⟨rfl, h⟩; rw [digA] at h; have h : St W0 wn K (.gen (sbG b (hexL (s.take (k + 1)))) :: L) := (by rw [← HTK.out]; exact h); replace H := Lib.hid h; clear h))
      go_roundw
      case rel => exact ⟨k + 1, hlt, by go_num, H.out⟩
      case measure => first | (simp [intOf]; done) | (simp [intOf]; omega)
    · obtain rfl : k = s.length := by omega
      have HZ := Lib.hid (show hexL s ≠ [] from fun e => H0.out (List.eq_nil_of_length_eq_zero (by have := congrArg List.length e; rw [hexL_len] at this; simp only [List.length_nil] at this; omega)))
      have H2 := Lib.hid (show St W0 wr K (.gen (sbG b (hexL s)) :: L) by have h9 := H.out; rw [List.take_length] at h9; exact h9)
      clear H
      have H := H2
      clear H2
      go_wp2_with (go_at_call 24; (with_reducible refine (sb_text b (hexL s) HZ.out H.out).mono ?_); rintro e_ wn ⟨rfl, h⟩; replace H := Lib.hid h; clear h)
      go_ret
      exact ⟨rfl, H.out⟩

end Go.Proofs.YtenojajfacacoaaDoor
/- Words of blobs. -/
namespace Go.Proofs.YtenojajfacacoaaDoor
open Go.RowKit

theorem sc_hexT (s t : Bs) (ht : hexW s = t) (hs : s.length ≤ 1000000) {W0 w : World} {K : Know} {L : List Res} (h : St W0 w K L) :
    Calls Tryd.prog 15 #[.string (bb s)] w fun en w' => en = .returned (.string (bb t)) ∧ St W0 w' K L := by
  subst ht; exact sc_hex s hs h
set_option maxHeartbeats 4000000 in
set_option maxRecDepth 100000 in
theorem sc_blobWord (nl : Bool) (d t : Bs) (ht : blobT ⟨nl, d⟩ = t) (hd : d.length ≤ 1000000) {W0 w : World} {K : Know} {L : List Res} (h : St W0 w K L) :
    Calls Tryd.prog 39 #[.agg #[.bool nl, .string (bb d)]] w fun en w' => en = .returned (.string (bb t)) ∧ St W0 w' K L := by
  obtain ⟨xb, hxb⟩ : ∃ b, w.heap.size = b := ⟨_, rfl⟩
  have g1 := h.allocRaw #[.bool nl, .string (bb d)] 48
  rw [hxb] at g1
  have c0 := (g1).rawCell 0; have c1 := (g1).rawCell 1; simp at c0 c1
  have H := Lib.hid g1
  have HDL := Lib.hid hd
  subst ht
  clear h g1 hd
  cases nl
  · go_enter Tryd.func39, Tryd.ntmps39
    go_wp2_with (go_at_call 15; (with_reducible refine (sc_hex d HDL.out H.out).mono ?_); rintro e_ wn ⟨rfl, h⟩; replace H := Lib.hid h; clear h)
    go_ret
    exact ⟨rfl, H.out.drop⟩
  · go_enter Tryd.func39, Tryd.ntmps39
    go_wp2_with fail
    go_ret
    exact ⟨rfl, H.out.drop⟩

theorem sb_nl (b : Nat) (l : Bs) (hl : l.length ≤ 1000000000000) {W0 w : World} {K : Know} {L : List Res} (h : St W0 w K (.gen (sbG b l) :: L)) : Calls Tryd.prog 35 #[.pointer (some ⟨b, 0, none⟩), .int .u8 10] w fun en w' => en = .returned .nilIface ∧ St W0 w' K (.gen (sbG b (l ++ [10])) :: L) := sb_byte b l 10 hl h
set_option maxHeartbeats 4000000 in
set_option maxRecDepth 100000 in
theorem sc_line (b : Nat) (l : Bs) (ws : List Bs) (t : Bs) (wb n cap : Nat) (hn : n = ws.length) (hnc : n ≤ cap) (hl : ws.length ≤ 1000000) (ht : joinC 32 ws = t) (htl : t.length ≤ 1000000) (hll : l.length ≤ 1000000) {W0 w : World} {K : Know} {L : List Res} (hk : K.has (Know.strs wb 0 ws)) (h : St W0 w K (.gen (sbG b l) :: L)) :
    Calls Tryd.prog 21 #[.pointer (some ⟨b, 0, none⟩), .slice (some ⟨wb, 0, none⟩) n cap] w fun en w' => en = .returned (.tuple #[]) ∧ St W0 w' K (.gen (sbG b (l ++ (t ++ [10]))) :: L) := by
  have H := Lib.hid h
  have HK := Lib.hid hk
  have HN := Lib.hid hn
  have HNC := Lib.hid hnc
  have HWL := Lib.hid hl
  have HT := Lib.hid ht
  have HTL := Lib.hid htl
  have HB1 := Lib.hid (show l.length + t.length ≤ 1000000000000 by omega)
  have HB2 := Lib.hid (show (l ++ t).length ≤ 1000000000000 by rw [List.length_append]; omega)
  clear h hk hn hnc hl ht htl hll
  go_enter Tryd.func21, Tryd.ntmps21
  go_wp2_with (first
    | (go_at_call 14; (with_reducible refine (sc_join ws t wb n cap HN.out HNC.out HWL.out HT.out HTL.out HK.out H.out).mono ?_); rintro e_ wn ⟨rfl, h⟩; replace H := Lib.hid h; clear h)
    | (go_at_call 34; (with_reducible refine (sb_str b l t HB1.out H.out).mono ?_); rintro e_ wn ⟨rfl, h⟩; replace H := Lib.hid h; clear h)
    | (go_at_call 35; (with_reducible refine (sb_nl b (l ++ t) HB2.out H.out).mono ?_); rintro e_ wn ⟨rfl, h⟩; replace H := Lib.hid h; clear h))
  go_end0
  exact ⟨rfl, by rw [← List.append_assoc]; exact H.out⟩

end Go.Proofs.YtenojajfacacoaaDoor
/- Numbers in words. -/
namespace Go.Proofs.YtenojajfacacoaaDoor
open Go.RowKit

set_option maxHeartbeats 4000000 in
set_option maxRecDepth 100000 in
theorem sc_numbers (q : Option Addr) (cap : Nat) (l : List Int) (hl : l.length ≤ 1000000) (hr : ∀ n ∈ l, Rn n) {W0 w : World} {K : Know} {L : List Res} (hlib : K.has Know.lib) (hk : K.has (Know.flat RInt (.slice q l.length cap) 1 l)) (h : St W0 w K L) :
    Calls Tryd.prog 23 #[.slice q l.length cap] w fun en w' => ∃ v', en = .returned v' ∧ St W0 w' K (.row v' 9 1 (l.map numW).length ((l.map numW).flatMap scellS) :: L) := by
  have H := Lib.hid h
  have HLIB := Lib.hid hlib
  have HK := Lib.hid hk
  have HRR := Lib.hid hr
  have HL := Lib.hid hl
  clear h hlib hk hr hl
  go_enter Tryd.func23, Tryd.ntmps23
  go_wp2_with fail
  go_loopw [3, 8] (fun sv iv wr => ∃ (k : Nat), k ≤ l.length ∧ iv = .int .i64 k ∧ St W0 wr K (.row sv 9 1 k (((l.take k).map numW).flatMap scellS) :: L)) (fun _ iv _ => l.length - (intOf iv).toNat)
  case atStart => exact ⟨0, Nat.zero_le _, rfl, H.out.nilRow 9 1⟩
  case round =>
    obtain ⟨k, hk', rfl, hst⟩ := hrel
    clear H
    obtain ⟨qv, cv, hv⟩ := hst.rowAny
    subst hv
    have H := Lib.hid hst
    clear hst
    have hli : (l.length : Int) ≤ 1000000 := by have := HL.out; omega
    by_cases hk : k < l.length
    · obtain ⟨ib, io, hqq⟩ := fl_at HK.out H.out (by omega)
      subst hqq
      obtain ⟨n, hn⟩ : ∃ n, l[k] = n := ⟨_, rfl⟩
      have c0 := rints_cell HK.out H.out k hk n hn
      have hrn := HRR.out n (hn ▸ List.getElem_mem hk)
      unfold Rn at hrn
      have HR1 := Lib.hid hrn.1
      have HR2 := Lib.hid (show n ≤ 9223372036854775807 by omega)
      obtain ⟨t, ht⟩ : ∃ t, Lib.itoa n = t := ⟨_, rfl⟩
      have HT := Lib.hid ht
      have HLB := Lib.hid (show k ≤ 1000000 by omega)
      have HNX := Lib.hid (show ((l.take (k + 1)).map numW).flatMap scellS = ((l.take k).map numW).flatMap scellS ++ [.string (bb t)] by
        rw [List.take_succ_eq_append_getElem hk, hn, List.map_append, List.flatMap_append, ← ht]
        rfl)
      have hki : (k : Int) < (l.length : Int) := by omega
      clear hn hrn ht
      go_wp2_with (first
    | (go_at_call 22; (with_reducible refine (sl_itoa n HR1.out HR2.out HLIB.out H.out).mono ?_); rintro e_ wn ⟨rfl, h⟩; rw [HT.out]; replace H := Lib.hid h; clear h)
    | (at_builtin; refine wpl_app1_st rfl _ _ 36 rfl 9 Tryd.underlying36 elem_strS _ _ _ rfl H.out [.string (bb t)] 9 rfl rfl (by simp [Value.oneCell']) (by have := HLB.out; unfold maxLen; omega) (by have := HLB.out; omega) ?_; intro v' w' h; obtain ⟨qv, cv, hv⟩ := h.rowAny; subst hv; replace H := Lib.hid h; clear h))
      go_roundw
      case rel => exact ⟨k + 1, hk, by go_num, by rw [HNX.out]; exact H.out⟩
      case measure => first | (simp [intOf]; done) | (simp [intOf]; omega)
    · have hq : k = l.length := by omega
      subst hq
      have HE := Lib.hid (show ((l.take l.length).map numW).flatMap scellS = (l.map numW).flatMap scellS by rw [List.take_length])
      go_wp2_with fail
      go_ret
      exact ⟨_, rfl, by have h9 := H.out; rw [HE.out] at h9; simpa using h9⟩

end Go.Proofs.YtenojajfacacoaaDoor
/- Words of numbers, known. -/
namespace Go.Proofs.YtenojajfacacoaaDoor
open Go.RowKit

theorem sc_numbersE (q : Option Addr) (n cap : Nat) (l : List Int) (hn : n = l.length) (hl : l.length ≤ 1000000) (hr : ∀ n ∈ l, Rn n) (h0 : 0 < l.length) {W0 w : World} {K : Know} {L : List Res} (hlib : K.has Know.lib) (hk : K.has (Know.flat RInt (.slice q l.length cap) 1 l)) (h : St W0 w K L) :
    Calls Tryd.prog 23 #[.slice q n cap] w fun en w' => ∃ wb wc, en = .returned (.slice (some ⟨wb, 0, none⟩) n wc) ∧ n ≤ wc ∧ St W0 w' (K.and (Know.strs wb 0 (l.map numW))) L := by
  subst hn
  refine (sc_numbers q cap l hl hr hlib hk h).mono ?_
  rintro en w' ⟨v', rfl, h2⟩
  obtain ⟨wb, wc, hv, hle, h3⟩ := h2.rowStrs (by simpa using h0)
  rw [List.length_map] at hv hle
  exact ⟨wb, wc, by rw [hv], hle, h3⟩
theorem strs_add {W0 w : World} {K : Know} {L : List Res} {wb : Nat} {ws : List Bs} (hk : K.has (Know.strs wb 0 ws)) (h : St W0 w K L) : ∀ j u, (ws.flatMap scellS)[j]? = some u → w.cell? ((⟨wb, 0, none⟩ : Addr).add j) = some u := by
  obtain ⟨F, hF, _⟩ := h.get
  obtain ⟨_, _, h3⟩ := hk _ _ hF
  intro j u hu
  have ha : (⟨wb, 0, none⟩ : Addr).add j = ⟨wb, j, none⟩ := by unfold Addr.add; split <;> simp_all
  have hj : j < ws.length := by
    have h9 := (List.getElem?_eq_some_iff.1 hu).1
    have e : ∀ l : List Bs, (l.flatMap scellS).length = l.length := fun l => by
      induction l with
      | nil => rfl
      | cons a t ih => rw [List.flatMap_cons, List.length_append, ih, List.length_cons]; show 1 + _ = _; omega
    rwa [e] at h9
  have e := flatMap_get ws scellS 1 (fun _ _ => rfl) j hj 0 (by omega)
  rw [Nat.mul_one, Nat.add_zero, hu] at e
  have e2 : u = .string (bb ws[j]) := by injection e
  have h4 := h3 j ws[j] (List.getElem?_eq_getElem hj)
  rw [Nat.zero_add] at h4
  rw [ha, h4, e2]
theorem scells_len : ∀ l : List Bs, (l.flatMap scellS).length = l.length
  | [] => rfl
  | a :: t => by rw [List.flatMap_cons, List.length_append, scells_len t, List.length_cons]; show 1 + _ = _; omega
theorem scells_one (l : List Bs) : ∀ u ∈ l.flatMap scellS, u.oneCell' = true := by
  intro u hu
  obtain ⟨x, _, hx⟩ := List.mem_flatMap.1 hu
  rw [List.mem_singleton.1 hx]
  rfl

end Go.Proofs.YtenojajfacacoaaDoor
/- Lines of words, built. -/
namespace Go.Proofs.YtenojajfacacoaaDoor
open Go.RowKit

theorem buildW5 (a0 a1 a2 a3 a4 : ByteArray) (w : World) : (Instr.buildSlice 36 5 #[(0, .string a0), (1, .string a1), (2, .string a2), (3, .string a3), (4, .string a4)]).run Tryd.prog w = .ok (.slice (some ⟨w.heap.size, 0, none⟩) 5 5) (w.alloc (.cells #[.string a0, .string a1, .string a2, .string a3, .string a4] 9 (0, 0))) := by go_simp
theorem exec_buildW5 {o : Oper} {ρ : Operand → Value} (ps : Array (Nat × Value)) (v : Value) (w w' : World) (ho : execOp ρ o = (do pure (Next.value (← Instr.buildSlice 36 5 ps)))) (hb : (Instr.buildSlice 36 5 ps).run Tryd.prog w = .ok v w') : (execOp ρ o).run Tryd.prog w = .ok (.value v) w' := by
  rw [ho]
  simp [hb, Result.andThen]

theorem buildW3 (a0 a1 a2 : ByteArray) (w : World) : (Instr.buildSlice 36 3 #[(0, .string a0), (1, .string a1), (2, .string a2)]).run Tryd.prog w = .ok (.slice (some ⟨w.heap.size, 0, none⟩) 3 3) (w.alloc (.cells #[.string a0, .string a1, .string a2] 9 (0, 0))) := by go_simp
theorem exec_buildW3 {o : Oper} {ρ : Operand → Value} (ps : Array (Nat × Value)) (v : Value) (w w' : World) (ho : execOp ρ o = (do pure (Next.value (← Instr.buildSlice 36 3 ps)))) (hb : (Instr.buildSlice 36 3 ps).run Tryd.prog w = .ok v w') : (execOp ρ o).run Tryd.prog w = .ok (.value v) w' := by
  rw [ho]
  simp [hb, Result.andThen]

theorem sc_lineR (b : Nat) (l : Bs) (ws : List Bs) (t : Bs) (wb n : Nat) (cs : Array Value) (hcs : cs = (ws.map fun x => Value.string (bb x)).toArray) (hn : n = ws.length) (hl : ws.length ≤ 1000000) (ht : joinC 32 ws = t) (htl : t.length ≤ 1000000) (hll : l.length ≤ 1000000) {T : TypeId} {W0 w : World} {K : Know} {L : List Res} (h : St W0 w K (.raw wb cs T :: .gen (sbG b l) :: L)) :
    Calls Tryd.prog 21 #[.pointer (some ⟨b, 0, none⟩), .slice (some ⟨wb, 0, none⟩) n n] w fun en w' => en = .returned (.tuple #[]) ∧ St W0 w' K (.gen (sbG b (l ++ (t ++ [10]))) :: L) := by
  subst hcs
  have h2 := h.strs
  refine (sc_line b l ws t wb n n hn (Nat.le_refl _) hl ht htl hll (Know.has_right (Know.has_refl _)) h2).mono ?_
  rintro en w' ⟨rfl, h3⟩
  exact ⟨rfl, h3.know (Know.has_left (Know.has_refl _))⟩
theorem sl_num (n : Int) (hn : Rn n) (t : Bs) (ht : numW n = t) {W0 w : World} {K : Know} {L : List Res} (hlib : K.has Know.lib) (h : St W0 w K L) :
    Calls Tryd.prog 22 #[.int .i64 n] w fun en w' => en = .returned (.string (bb t)) ∧ St W0 w' K L := by
  subst ht
  unfold Rn at hn
  exact sl_itoa n hn.1 (by omega) hlib h

end Go.Proofs.YtenojajfacacoaaDoor
/- Lines of words (pure, and built). -/
namespace Go.Proofs.YtenojajfacacoaaDoor
open Go.RowKit

theorem buildW2 (a0 a1 : ByteArray) (w : World) : (Instr.buildSlice 36 2 #[(0, .string a0), (1, .string a1)]).run Tryd.prog w = .ok (.slice (some ⟨w.heap.size, 0, none⟩) 2 2) (w.alloc (.cells #[.string a0, .string a1] 9 (0, 0))) := by go_simp
theorem exec_buildW2 {o : Oper} {ρ : Operand → Value} (ps : Array (Nat × Value)) (v : Value) (w w' : World) (ho : execOp ρ o = (do pure (Next.value (← Instr.buildSlice 36 2 ps)))) (hb : (Instr.buildSlice 36 2 ps).run Tryd.prog w = .ok v w') : (execOp ρ o).run Tryd.prog w = .ok (.value v) w' := by
  rw [ho]
  simp [hb, Result.andThen]

theorem sc_lineW (b : Nat) (l : Bs) (ws : List Bs) (t : Bs) (wb n cv : Nat) (cs : List Value) (hcs : cs = ws.flatMap scellS) (hn : n = ws.length) (h0 : 0 < n) (hl : ws.length ≤ 1000000) (ht : joinC 32 ws = t) (htl : t.length ≤ 1000000) (hll : l.length ≤ 1000000) {W0 w : World} {K : Know} {L : List Res} (h : St W0 w K (.row (.slice (some ⟨wb, 0, none⟩) n cv) 9 1 n cs :: .gen (sbG b l) :: L)) :
    Calls Tryd.prog 21 #[.pointer (some ⟨b, 0, none⟩), .slice (some ⟨wb, 0, none⟩) n cv] w fun en w' => en = .returned (.tuple #[]) ∧ St W0 w' K (.gen (sbG b (l ++ (t ++ [10]))) :: L) := by
  subst hcs hn
  obtain ⟨wb3, cv3, hv3, hle3, h10⟩ := h.rowStrs h0
  injection hv3 with hv4 hv5 hv6
  injection hv4 with hv4
  injection hv4 with hv4
  subst hv4 hv6
  refine (sc_line b l ws t wb ws.length cv rfl hle3 hl ht htl hll (Know.has_right (Know.has_refl _)) h10).mono ?_
  rintro en w' ⟨rfl, h3⟩
  exact ⟨rfl, h3.know (Know.has_left (Know.has_refl _))⟩
theorem script_nil {l : List BtR} {c : Int} {ch : List Int} (h : l.flatMap btT ++ (cutT c ++ chT ch) = []) : l = [] ∧ c < 0 ∧ ch = [] := by
  have h1 := List.append_eq_nil_iff.1 h
  have h2 := List.append_eq_nil_iff.1 h1.2
  refine ⟨?_, ?_, ?_⟩
  · cases l with
    | nil => rfl
    | cons x t =>
      have h3 := h1.1
      rw [List.flatMap_cons] at h3
      have h4 := (List.append_eq_nil_iff.1 h3).1
      unfold btT batL at h4
      simp at h4
  · have h3 := h2.1
    unfold cutT at h3
    split at h3
    · assumption
    · simp at h3
  · have h3 := h2.2
    unfold chT at h3
    split at h3
    · assumption
    · simp at h3

end Go.Proofs.YtenojajfacacoaaDoor
/- A text of nothing. -/
namespace Go.Proofs.YtenojajfacacoaaDoor
open Go.RowKit

set_option maxHeartbeats 4000000 in
set_option maxRecDepth 100000 in
theorem sb_text0 (b : Nat) {W0 w : World} {K : Know} {L : List Res} (h : St W0 w K (.raw b #[.pointer none, .slice none 0 0] 58 :: L)) :
    Calls Tryd.prog 24 #[.pointer (some ⟨b, 0, none⟩)] w fun en w' => en = .returned (.string (bb [])) ∧ St W0 w' K L := by
  have h1 := h.drew
  have c0 := (h1).rawCell 0; have c1 := (h1).rawCell 1; simp at c0 c1
  have hSD : (Builtin.unsafeSliceData_ #[56] 86 #[.slice none 0 0]).run Tryd.prog w.drew = .ok (.pointer none) w.drew := Lib.run_unsafeSliceData_nil _ _ _ _ _
  have hUS : (Builtin.unsafeString_ #[86, 3] 9 #[.pointer none, .int .i64 0]).run Tryd.prog w.drew = .ok (.string (bb [])) w.drew := Lib.run_unsafeString_none _ _ _ _ _
  have H := Lib.hid h1.drop
  clear h h1
  go_enter Tryd.func24, Tryd.ntmps24
  go_wp2
  go_region
  go_wp2
  go_ret
  exact ⟨rfl, H.out⟩
set_option maxHeartbeats 4000000 in
set_option maxRecDepth 100000 in
theorem pr_nil (qb q : Option Addr) (bcap cap : Nat) {W0 w : World} {K : Know} {L : List Res} (h : St W0 w K L) :
    Calls Tryd.prog 9 #[.agg #[.slice qb 0 bcap, .int .i64 (-1), .slice q 0 cap]] w fun en w' => en = .returned (.string (bb [])) ∧ St W0 w' K L := by
  obtain ⟨rb, hrb⟩ : ∃ b, w.heap.size = b := ⟨_, rfl⟩
  obtain ⟨sb, hsb⟩ : ∃ b, rb + 1 = b := ⟨_, rfl⟩
  have g1 := h.allocRaw #[.slice qb 0 bcap, .int .i64 (-1), .slice q 0 cap] 25
  rw [hrb] at g1
  have g2 := g1.allocRaw #[.pointer none, .slice none 0 0] 58
  simp only [World.size_alloc, hrb, hsb] at g2
  have z0 := (g2.p1).rawCell 0; have z1 := (g2.p1).rawCell 1; have z2 := (g2.p1).rawCell 2; simp at z0 z1 z2
  have H := Lib.hid g2
  clear h g1 g2
  go_enter Tryd.func9, Tryd.ntmps9
  go_wp2_with fail
  go_loopw [9] (fun iv wr => iv = .int .i64 0 ∧ St W0 wr K (.raw sb #[.pointer none, .slice none 0 0] 58 :: .raw rb #[.slice qb 0 bcap, .int .i64 (-1), .slice q 0 cap] 25 :: L)) (fun _ _ => 0)
  case atStart => exact ⟨rfl, H.out⟩
  case round =>
    obtain ⟨rfl, hst⟩ := hrel
    clear H
    have H := Lib.hid hst
    clear hst z0 z1 z2
    have z0 := (H.out.p1).rawCell 0; have z1 := (H.out.p1).rawCell 1; have z2 := (H.out.p1).rawCell 2; simp at z0 z1 z2
    go_wp2_with (go_at_call 24; (with_reducible refine (sb_text0 sb H.out).mono ?_); rintro e_ wn ⟨rfl, h⟩; replace H := Lib.hid h; clear h)
    go_ret
    exact ⟨rfl, H.out.drop⟩

end Go.Proofs.YtenojajfacacoaaDoor
/- A batch, written. -/
namespace Go.Proofs.YtenojajfacacoaaDoor
open Go.RowKit

set_option maxHeartbeats 16000000 in
set_option maxRecDepth 100000 in
theorem sc_batch (x : BtR) (ob : Nat) (o S : Bs) (xq : Option Addr) (xcap : Nat) (hxv : x.v = .slice xq x.l.length xcap) (hfine : btFine x) (hS : o ++ btT x = S) (hl : S.length ≤ 1000000) {W0 w : World} {K : Know} {L : List Res} (hlib : K.has Know.lib) (hk : K.has (Know.recs x.v x.l)) (h : St W0 w K (.gen (sbG ob o) :: L)) :
    Calls Tryd.prog 20 #[.pointer (some ⟨ob, 0, none⟩), .agg #[.int .i64 x.b.base, .int .i64 x.b.leader, .bool x.b.app, .bool x.b.txn, .bool x.b.ctl, .int .i64 x.b.last, .int .i64 x.b.first, .int .i64 x.b.maxt, .int .i64 x.b.prod, .int .i64 x.b.epoch, .int .i64 x.b.seq, .slice xq x.l.length xcap]] w fun en w' => en = .returned (.tuple #[]) ∧ St W0 w' K (.gen (sbG ob S) :: L) := by
  rw [hxv] at hk
  have hbr := hfine.1
  have HXF := Lib.hid hfine.2
  have HXK := Lib.hid hk
  have HSL := Lib.hid hl
  have HLIB := Lib.hid hlib
  have e9 := congrArg List.length hS
  rw [List.length_append] at e9
  have e8 : (batL x.b).length ≤ (btT x).length ∧ x.l.length ≤ (btT x).length := by
    have h9 := flat_le (fun y : RecS × Value => recT y.1) x.l (fun h _ => by unfold recT recH; simp)
    unfold btT
    rw [List.length_append]
    omega
  have hol : o.length ≤ 1000000 := by omega
  have HXB := Lib.hid (show (x.l.length : Int) ≤ 1000000 by omega)
  have eB : ∀ t, joinC 32 ([98, 97, 116, 99, 104] :: ((batN x.b).map numW ++ [letW x.b.app x.b.txn x.b.ctl])) = t → t ++ [10] = batL x.b := by
    intro t ht
    rw [← ht, joinC_flat]
    exact lnB_txt x.b
  have HEB := Lib.hid eB
  have hTL : ∀ t, joinC 32 ([98, 97, 116, 99, 104] :: ((batN x.b).map numW ++ [letW x.b.app x.b.txn x.b.ctl])) = t → t.length ≤ 1000000 := by
    intro t ht
    have h9 := congrArg List.length (eB t ht)
    rw [List.length_append] at h9
    omega
  have HHS := Lib.hid hS
  have HHTL := Lib.hid hTL
  clear hfine hl hxv hk eB hS e9 e8 hTL
  obtain ⟨tb, htb⟩ : ∃ b, w.heap.size = b := ⟨_, rfl⟩
  obtain ⟨lb, hlb⟩ : ∃ b, tb + 1 = b := ⟨_, rfl⟩
  obtain ⟨rb9, hrb9⟩ : ∃ b, lb + 1 = b := ⟨_, rfl⟩
  have g1 := h.allocRaw #[.int .i64 x.b.base, .int .i64 x.b.leader, .bool x.b.app, .bool x.b.txn, .bool x.b.ctl, .int .i64 x.b.last, .int .i64 x.b.first, .int .i64 x.b.maxt, .int .i64 x.b.prod, .int .i64 x.b.epoch, .int .i64 x.b.seq, .slice xq x.l.length xcap] 45
  rw [htb] at g1
  have y0 := g1.rawCell 0; have y1 := g1.rawCell 1; have y2 := g1.rawCell 2; have y3 := g1.rawCell 3; have y4 := g1.rawCell 4; have y5 := g1.rawCell 5; have y6 := g1.rawCell 6; have y7 := g1.rawCell 7; have y8 := g1.rawCell 8; have y9 := g1.rawCell 9; have y10 := g1.rawCell 10; have y11 := g1.rawCell 11; simp at y0 y1 y2 y3 y4 y5 y6 y7 y8 y9 y10 y11
  have g2 := g1.allocRaw #[.int .i64 x.b.base, .int .i64 x.b.leader, .int .i64 x.b.last, .int .i64 x.b.first, .int .i64 x.b.maxt, .int .i64 x.b.prod, .int .i64 x.b.epoch, .int .i64 x.b.seq] 83
  simp only [World.size_alloc, htb, hlb] at g2
  have g3 := g2.freeze (K' := Know.flat RInt (.slice (some ⟨lb, 0, none⟩) 8 8) 1 (batN x.b)) (fun F S1 _ hr => by
    refine ⟨_, _, rfl, fun _ => ⟨lb, 0, rfl, .inr ⟨(hr.2 lb).2 rfl, heap_lt hr.1⟩, heap_lt hr.1, fun i hi => ⟨[.int .i64 (batN x.b)[i]], rfl, rfl, fun f u hu => ?_⟩⟩⟩
    rcases f with _ | f
    · rw [cell_at hr.1]
      simp at hu
      subst hu
      have hi8 : i < 8 := hi
      rcases i with _ | _ | _ | _ | _ | _ | _ | _ | i <;> first | rfl | omega
    · simp at hu)
  have HKI := Lib.hid (show (K.and (Know.flat RInt (.slice (some ⟨lb, 0, none⟩) 8 8) 1 (batN x.b))).has (Know.flat RInt (.slice (some ⟨lb, 0, none⟩) (batN x.b).length 8) 1 (batN x.b)) from Know.has_right (Know.has_refl _))
  have HL1 := Lib.hid (show (K.and (Know.flat RInt (.slice (some ⟨lb, 0, none⟩) 8 8) 1 (batN x.b))).has Know.lib from Know.has_left hlib)
  have HN8 := Lib.hid (show 8 = (batN x.b).length from rfl)
  have HN9 := Lib.hid (show (batN x.b).length ≤ 1000000 from by simp [batN])
  have HN7 := Lib.hid (show 0 < (batN x.b).length from by simp [batN])
  have HNR := Lib.hid (show ∀ n ∈ batN x.b, Rn n from hbr)
  have HOL := Lib.hid hol
  have H := Lib.hid g3
  clear h g1 g2 g3 hbr hol
  go_enter Tryd.func20, Tryd.ntmps20
  go_upto_region 3 with (first
    | (go_at_call 23; have hl0 := H.out.rowLit [.string ⟨#[98, 97, 116, 99, 104]⟩] 9 1 1 rfl (by unfold maxLen; omega); simp only [World.size_alloc, htb, hlb, hrb9] at hl0; (with_reducible refine (sc_numbersE (some ⟨lb, 0, none⟩) 8 8 (batN x.b) HN8.out HN9.out HNR.out HN7.out HL1.out HKI.out hl0).mono ?_); rintro e_ wn ⟨wb, wc, rfl, hwc, h⟩; have HWC := Lib.hid hwc; clear hwc; replace H := Lib.hid h; clear h)
    | (at_builtin; refine wpl_app_st rfl _ _ 36 rfl 9 Tryd.underlying36 elem_strS _ _ _ rfl H.out ⟨wb, 0, none⟩ 8 wc (((batN x.b).map numW).flatMap scellS) rfl (by rw [scells_len]; rfl) (strs_add (Know.has_right (Know.has_refl _)) H.out) (scells_one _) (by unfold maxLen; omega) (by omega) ?_; intro v' w' h; obtain ⟨qv, cv, hv⟩ := h.rowAny; subst hv; replace H := Lib.hid h; clear h))
  have y2 := H.out.p1.rawCell 2
  have y3 := H.out.p1.rawCell 3
  have y4 := H.out.p1.rawCell 4
  simp at y2 y3 y4
  obtain ⟨lw, hlw⟩ : ∃ lw, letW x.b.app x.b.txn x.b.ctl = lw := ⟨_, rfl⟩
  have HLW := Lib.hid hlw
  obtain ⟨ws, hws⟩ : ∃ ws, [98, 97, 116, 99, 104] :: ((batN x.b).map numW ++ [lw]) = ws := ⟨_, rfl⟩
  have HWS := Lib.hid hws
  have HWN := Lib.hid (show 10 = ws.length by rw [← hws]; rfl)
  obtain ⟨t, ht⟩ : ∃ t, joinC 32 ws = t := ⟨_, rfl⟩
  have HT := Lib.hid ht
  have HTL := Lib.hid (show t.length ≤ 1000000 from HHTL.out _ (by rw [hlw, hws]; exact ht))
  have HS0 := Lib.hid (show (o ++ (t ++ [10])) ++ (x.l.drop 0).flatMap (fun y : RecS × Value => recT y.1) = S by
    rw [HEB.out t (by rw [hlw, hws]; exact ht), ← HHS.out]
    unfold btT
    rw [List.drop_zero, List.append_assoc])
  clear hlw hws ht
  go_upto_region 4 with (first
    | (go_at_call 38; (try clear y2 y3 y4); (with_reducible refine (sc_let x.b.app x.b.txn x.b.ctl H.out).mono ?_); rintro e_ wn ⟨rfl, h⟩; rw [HLW.out]; replace H := Lib.hid h; clear h)
    | (at_builtin; refine wpl_app1_st rfl _ _ 36 rfl 9 Tryd.underlying36 elem_strS _ _ _ rfl H.out [.string (bb lw)] 9 rfl rfl (by simp [Value.oneCell']) (by unfold maxLen; omega) (by omega) ?_; intro v' w' h; obtain ⟨wb2, cv2, hv⟩ := h.rowSlice (by omega); subst hv; replace H := Lib.hid h; clear h)
    | (go_at_call 21; have h9 : St W0 _ _ (.row (.slice (some ⟨wb2, 0, none⟩) (1 + 8 + 1) cv2) 9 1 ws.length (ws.flatMap scellS) :: _) := (by rw [← HWN.out, ← HWS.out]; exact H.out); obtain ⟨wb3, cv3, hv3, hle3, h10⟩ := h9.rowStrs (by rw [← HWN.out]; omega); injection hv3 with hv4 hv5 hv6; injection hv4 with hv4; injection hv4 with hv4; subst hv4; subst hv6; (with_reducible refine (sc_line ob o ws t wb2 10 cv2 HWN.out (by have := HWN.out; omega) (by have := HWN.out; omega) HT.out HTL.out HOL.out (Know.has_right (Know.has_refl _)) h10.p1).mono ?_); rintro e_ wn ⟨rfl, h⟩; replace H := Lib.hid h; clear h))
  have h5 := (H.out.know (Know.has_left (Know.has_left (Know.has_left (Know.has_refl _)))) : St W0 _ K _)
  have y11 := h5.p1.rawCell 11
  simp at y11
  clear H HKI HL1
  have H := Lib.hid h5
  clear h5
  go_wp2_with fail
  clear y11
  go_loopw [47] (fun iv wr => ∃ (k3 : Nat) (E : Bs), k3 ≤ x.l.length ∧ iv = .int .i64 k3 ∧ Hid (E ++ (x.l.drop k3).flatMap (fun y : RecS × Value => recT y.1) = S) ∧ St W0 wr K (.gen (sbG ob E) :: .raw tb #[.int .i64 x.b.base, .int .i64 x.b.leader, .bool x.b.app, .bool x.b.txn, .bool x.b.ctl, .int .i64 x.b.last, .int .i64 x.b.first, .int .i64 x.b.maxt, .int .i64 x.b.prod, .int .i64 x.b.epoch, .int .i64 x.b.seq, .slice xq x.l.length xcap] 45 :: L)) (fun iv _ => x.l.length - (intOf iv).toNat)
  case atStart => exact ⟨0, _, Nat.zero_le _, rfl, HS0, H.out⟩
  case round =>
    obtain ⟨k3, E, hk3', rfl, HE, hst3⟩ := hrel
    clear H
    have H := Lib.hid hst3
    clear hst3
    have hkb3 : (x.l.length : Int) ≤ 1000000 := HXB.out
    by_cases hk3 : k3 < x.l.length
    · obtain ⟨eb, eo, hxq⟩ := recs_at HXK.out H.out (by omega)
      subst hxq
      obtain ⟨⟨r, vh⟩, hy⟩ : ∃ y, x.l[k3] = y := ⟨_, rfl⟩
      have hmem : (r, vh) ∈ x.l := hy ▸ List.getElem_mem hk3
      have hHK0 := recs_hdrs HXK.out hmem
      obtain ⟨hq, hcap, hvh⟩ := fl_form hHK0 H.out
      simp only at hvh
      subst hvh
      have cc := recs_cell HXK.out H.out k3 hk3 _ hy
      simp only [← Nat.add_assoc] at cc
      obtain ⟨c0, c1, c2, c3, c4, c5, c6⟩ := cc
      try simp only at c0 c1 c2 c3 c4 c5 c6
      obtain ⟨d2, hd2⟩ : ∃ t, numW r.time = t := ⟨_, rfl⟩
      obtain ⟨d4, hd4⟩ : ∃ t, numW r.off = t := ⟨_, rfl⟩
      obtain ⟨d6, hd6⟩ : ∃ t, blobT r.key = t := ⟨_, rfl⟩
      obtain ⟨d8, hd8⟩ : ∃ t, blobT r.val = t := ⟨_, rfl⟩
      obtain ⟨t, ht⟩ : ∃ t, lnR r = t := ⟨_, rfl⟩
      obtain ⟨R3, hR3⟩ : ∃ R3, (x.l.drop (k3 + 1)).flatMap (fun y : RecS × Value => recT y.1) = R3 := ⟨_, rfl⟩
      have HRF := Lib.hid (HXF.out _ hmem : recFine r)
      have hU : (E ++ (t ++ [10])) ++ ((r.hdrs.drop 0).flatMap hdrT ++ R3) = S := by
        rw [← HE.out, flat_cutS (fun y : RecS × Value => recT y.1) x.l k3 hk3 _ hy, ← ht, lnR_txt, ← hR3]
        simp only [recT, List.drop_zero, List.append_assoc]
      have HUS := Lib.hid (Lib.hid hU)
      have h8 := congrArg List.length hU
      have h7 := HSL.out
      have h9 := flat_le hdrT r.hdrs (fun h _ => by unfold hdrT; simp)
      rw [List.drop_zero] at h8
      simp only [List.length_append, List.length_cons, List.length_nil] at h8
      have HHK := Lib.hid (show K.has (Know.flat RHdr (.slice hq r.hdrs.length hcap) 3 r.hdrs) from hHK0)
      have HHB := Lib.hid (show (r.hdrs.length : Int) ≤ 1000000 by omega)
      have HT := Lib.hid (show joinC 32 [[114, 101, 99, 111, 114, 100], d2, d4, d6, d8] = t by rw [joinC_flat, ← hd2, ← hd4, ← hd6, ← hd8, ← ht]; rfl)
      have HTL := Lib.hid (show t.length ≤ 1000000 by omega)
      have HEL := Lib.hid (show E.length ≤ 1000000 by omega)
      have HL5 := Lib.hid (show [[114, 101, 99, 111, 114, 100], d2, d4, d6, d8].length ≤ 1000000 by simp)
      have hlt2 : d6.length ≤ t.length ∧ d8.length ≤ t.length := by
        rw [← ht, ← hd6, ← hd8]
        unfold lnR
        simp only [List.flatMap_cons, List.flatMap_nil, List.length_append, List.length_cons, List.length_nil]
        omega
      have HR3 := Lib.hid hR3
      have HRT := Lib.hid HRF.out.2.2.2.1
      have HRO := Lib.hid HRF.out.2.2.2.2
      have HD2 := Lib.hid hd2
      have HD4 := Lib.hid hd4
      have HD6 := Lib.hid (show blobT ⟨r.key.null, r.key.data⟩ = d6 from hd6)
      have HD8 := Lib.hid (show blobT ⟨r.val.null, r.val.data⟩ = d8 from hd8)
      have HKL := Lib.hid (show r.key.data.length ≤ 1000000 by have := blobT_len r.key HRF.out.1; rw [hd6] at this; omega)
      have HVL := Lib.hid (show r.val.data.length ≤ 1000000 by have := blobT_len r.val HRF.out.2.1; rw [hd8] at this; omega)
      obtain ⟨t9, ht9⟩ : ∃ b, wr.heap.size = b := ⟨_, rfl⟩
      have g9 := (H.out.allocRaw #[.int .i64 r.time, .int .i64 r.off, .bool r.key.null, .string (bb r.key.data), .bool r.val.null, .string (bb r.val.data), .slice hq r.hdrs.length hcap] 51).p1
      rw [ht9] at g9
      have KP7 := Lib.hid (show ∀ (w' : World) (L' : List Res), St W0 w' K (.raw t9 #[.int .i64 r.time, .int .i64 r.off, .bool r.key.null, .string (bb r.key.data), .bool r.val.null, .string (bb r.val.data), .slice hq r.hdrs.length hcap] 51 :: L') → (w'.cell? ⟨t9, 0, none⟩ = some (.int .i64 r.time) ∧ w'.cell? ⟨t9, 1, none⟩ = some (.int .i64 r.off) ∧ w'.cell? ⟨t9, 2, none⟩ = some (.bool r.key.null) ∧ w'.cell? ⟨t9, 3, none⟩ = some (.string (bb r.key.data)) ∧ w'.cell? ⟨t9, 4, none⟩ = some (.bool r.val.null) ∧ w'.cell? ⟨t9, 5, none⟩ = some (.string (bb r.val.data))) from fun w' L' h' => ⟨h'.rawCell 0, h'.rawCell 1, h'.rawCell 2, h'.rawCell 3, h'.rawCell 4, h'.rawCell 5⟩)
      have hk3i : (k3 : Int) < (x.l.length : Int) := by omega
      clear H hU h8 h7 h9 hlt2 hd2 hd4 hd6 hd8 ht hy hmem hHK0 hR3
      have H := Lib.hid g9
      clear g9
      go_upto_region 7 with fail
      have hs := H.out.drew
      clear H c0 c1 c2 c3 c4 c5 c6
      refine wp_region_held_drew (S := fun w' => w'.cell? ⟨t9, 0, none⟩ = some (.int .i64 r.time) ∧ w'.cell? ⟨t9, 1, none⟩ = some (.int .i64 r.off) ∧ w'.cell? ⟨t9, 2, none⟩ = some (.bool r.key.null) ∧ w'.cell? ⟨t9, 3, none⟩ = some (.string (bb r.key.data)) ∧ w'.cell? ⟨t9, 4, none⟩ = some (.bool r.val.null) ∧ w'.cell? ⟨t9, 5, none⟩ = some (.string (bb r.val.data))) (by kernel_rfl) (KP7.out _ _ hs.p1) (fun hHeld => ?_)
      refine wpAnyH_take (i := 0) (oi := { dst := some 51, op := Op.move (Operand.tmp 0), type := 55, pos := "script.go:50", after := #[], guard := none }) (v := ?_) rfl (by kernel_rfl) (by kernel_rfl) (by kernel_rfl) (fun _ _ _ h => h) (Or.inl ⟨by rfl, ?_⟩) (by assumption) ?_
      rotate_left
      · intro w hSw; (try dsimp only at hSw); go_simp; try with_reducible rfl
      simp only [Act.put, List.setIfInBounds_toArray, List.set_cons_zero, List.set_cons_succ]
      refine wpAnyH_take (i := 1) (oi := { dst := some 52, op := Op.fieldAddr 51 (Operand.tmp 7) 0, type := 0, pos := "script.go:50", after := #[], guard := none }) (v := ?_) rfl (by kernel_rfl) (by kernel_rfl) (by kernel_rfl) (fun _ _ _ h => h) (Or.inl ⟨by rfl, ?_⟩) (by assumption) ?_
      rotate_left
      · intro w hSw; (try dsimp only at hSw); go_simp; try with_reducible rfl
      simp only [Act.put, List.setIfInBounds_toArray, List.set_cons_zero, List.set_cons_succ]
      refine wpAnyH_take (i := 2) (oi := { dst := some 53, op := Op.load 3 (Operand.tmp 52), type := 3, pos := "script.go:50", after := #[{ on := 1, ground := Ground.data }], guard := none }) (v := ?_) rfl (by kernel_rfl) (by kernel_rfl) (by kernel_rfl) (fun _ _ _ h => h) (Or.inl ⟨by rfl, ?_⟩) (by assumption) ?_
      rotate_left
      · intro w hSw; (try dsimp only at hSw); go_simp; try with_reducible rfl
      simp only [Act.put, List.setIfInBounds_toArray, List.set_cons_zero, List.set_cons_succ]
      refine wpAnyH_take (i := 4) (oi := { dst := some 55, op := Op.fieldAddr 51 (Operand.tmp 7) 1, type := 0, pos := "script.go:50", after := #[], guard := none }) (v := ?_) rfl (by kernel_rfl) (by kernel_rfl) (by kernel_rfl) (fun _ _ _ h => h) (Or.inl ⟨by rfl, ?_⟩) (by assumption) ?_
      rotate_left
      · intro w hSw; (try dsimp only at hSw); go_simp; try with_reducible rfl
      simp only [Act.put, List.setIfInBounds_toArray, List.set_cons_zero, List.set_cons_succ]
      refine wpAnyH_take (i := 5) (oi := { dst := some 56, op := Op.load 3 (Operand.tmp 55), type := 3, pos := "script.go:50", after := #[{ on := 4, ground := Ground.data }], guard := none }) (v := ?_) rfl (by kernel_rfl) (by kernel_rfl) (by kernel_rfl) (fun _ _ _ h => h) (Or.inl ⟨by rfl, ?_⟩) (by assumption) ?_
      rotate_left
      · intro w hSw; (try dsimp only at hSw); go_simp; try with_reducible rfl
      simp only [Act.put, List.setIfInBounds_toArray, List.set_cons_zero, List.set_cons_succ]
      refine wpAnyH_take (i := 7) (oi := { dst := some 58, op := Op.fieldAddr 51 (Operand.tmp 7) 2, type := 0, pos := "script.go:50", after := #[], guard := none }) (v := ?_) rfl (by kernel_rfl) (by kernel_rfl) (by kernel_rfl) (fun _ _ _ h => h) (Or.inl ⟨by rfl, ?_⟩) (by assumption) ?_
      rotate_left
      · intro w hSw; (try dsimp only at hSw); go_simp; try with_reducible rfl
      simp only [Act.put, List.setIfInBounds_toArray, List.set_cons_zero, List.set_cons_succ]
      refine wpAnyH_take (i := 8) (oi := { dst := some 59, op := Op.load 48 (Operand.tmp 58), type := 48, pos := "script.go:50", after := #[{ on := 7, ground := Ground.data }], guard := none }) (v := ?_) rfl (by kernel_rfl) (by kernel_rfl) (by kernel_rfl) (fun _ _ _ h => h) (Or.inl ⟨by rfl, ?_⟩) (by assumption) ?_
      rotate_left
      · intro w hSw; (try dsimp only at hSw); go_simp; try with_reducible rfl
      simp only [Act.put, List.setIfInBounds_toArray, List.set_cons_zero, List.set_cons_succ]
      refine wpAnyH_take (i := 10) (oi := { dst := some 61, op := Op.fieldAddr 51 (Operand.tmp 7) 3, type := 0, pos := "script.go:50", after := #[], guard := none }) (v := ?_) rfl (by kernel_rfl) (by kernel_rfl) (by kernel_rfl) (fun _ _ _ h => h) (Or.inl ⟨by rfl, ?_⟩) (by assumption) ?_
      rotate_left
      · intro w hSw; (try dsimp only at hSw); go_simp; try with_reducible rfl
      simp only [Act.put, List.setIfInBounds_toArray, List.set_cons_zero, List.set_cons_succ]
      refine wpAnyH_take (i := 11) (oi := { dst := some 62, op := Op.load 48 (Operand.tmp 61), type := 48, pos := "script.go:50", after := #[{ on := 10, ground := Ground.data }], guard := none }) (v := ?_) rfl (by kernel_rfl) (by kernel_rfl) (by kernel_rfl) (fun _ _ _ h => h) (Or.inl ⟨by rfl, ?_⟩) (by assumption) ?_
      rotate_left
      · intro w hSw; (try dsimp only at hSw); go_simp; try with_reducible rfl
      simp only [Act.put, List.setIfInBounds_toArray, List.set_cons_zero, List.set_cons_succ]
      refine wpAnyH_ready (rs := [3]) (by kernel_rfl) (by simp) (AllReadyH.cons (o := { dst := some 54, op := Op.call { callee := Callee.value (Operand.func 22), args := #[Operand.tmp 53], argTypes := #[3] }, type := 9, pos := "script.go:50", after := #[{ on := 2, ground := Ground.data }], guard := none }) rfl (fun KK hK => ?_) AllReadyH.nil)
      · go_simp
        go_at_call 22
        with_reducible refine (sl_num r.time HRT.out d2 HD2.out HLIB.out hs).mono ?_
        rintro e wq ⟨rfl, hs⟩
        refine hK.out _ _ (KP7.out _ _ hs.p1) (fun hHeld => ?_)
        clear hK KK
        try simp only [Act.put, List.setIfInBounds_toArray, List.set_cons_zero, List.set_cons_succ]
        refine wpAnyH_ready (rs := [6]) (by kernel_rfl) (by simp) (AllReadyH.cons (o := { dst := some 57, op := Op.call { callee := Callee.value (Operand.func 22), args := #[Operand.tmp 56], argTypes := #[3] }, type := 9, pos := "script.go:50", after := #[{ on := 5, ground := Ground.data }, { on := 3, ground := Ground.chain }], guard := none }) rfl (fun KK hK => ?_) AllReadyH.nil)
        · go_simp
          go_at_call 22
          with_reducible refine (sl_num r.off HRO.out d4 HD4.out HLIB.out hs).mono ?_
          rintro e wq ⟨rfl, hs⟩
          refine hK.out _ _ (KP7.out _ _ hs.p1) (fun hHeld => ?_)
          clear hK KK
          try simp only [Act.put, List.setIfInBounds_toArray, List.set_cons_zero, List.set_cons_succ]
          refine wpAnyH_ready (rs := [9]) (by kernel_rfl) (by simp) (AllReadyH.cons (o := { dst := some 60, op := Op.call { callee := Callee.value (Operand.func 39), args := #[Operand.tmp 59], argTypes := #[48] }, type := 9, pos := "script.go:50", after := #[{ on := 8, ground := Ground.data }, { on := 6, ground := Ground.chain }], guard := none }) rfl (fun KK hK => ?_) AllReadyH.nil)
          · go_simp
            go_at_call 39
            with_reducible refine (sc_blobWord r.key.null r.key.data d6 HD6.out HKL.out hs).mono ?_
            rintro e wq ⟨rfl, hs⟩
            refine hK.out _ _ (KP7.out _ _ hs.p1) (fun hHeld => ?_)
            clear hK KK
            try simp only [Act.put, List.setIfInBounds_toArray, List.set_cons_zero, List.set_cons_succ]
            refine wpAnyH_ready (rs := [12]) (by kernel_rfl) (by simp) (AllReadyH.cons (o := { dst := some 63, op := Op.call { callee := Callee.value (Operand.func 39), args := #[Operand.tmp 62], argTypes := #[48] }, type := 9, pos := "script.go:50", after := #[{ on := 11, ground := Ground.data }, { on := 9, ground := Ground.chain }], guard := none }) rfl (fun KK hK => ?_) AllReadyH.nil)
            · go_simp
              go_at_call 39
              with_reducible refine (sc_blobWord r.val.null r.val.data d8 HD8.out HVL.out hs).mono ?_
              rintro e wq ⟨rfl, hs⟩
              refine hK.out _ _ (KP7.out _ _ hs.p1) (fun hHeld => ?_)
              clear hK KK
              try simp only [Act.put, List.setIfInBounds_toArray, List.set_cons_zero, List.set_cons_succ]
              refine wpAnyH_ready (rs := [13]) (by kernel_rfl) (by simp) (AllReadyH.cons (o := { dst := some 64, op := Op.buildSlice 36 5 #[(0, Operand.const (Value.string { data := #[114, 101, 99, 111, 114, 100] })), (1, Operand.tmp 54), (2, Operand.tmp 57), (3, Operand.tmp 60), (4, Operand.tmp 63)], type := 36, pos := "script.go:50", after := #[{ on := 3, ground := Ground.data }, { on := 6, ground := Ground.data }, { on := 9, ground := Ground.data }, { on := 12, ground := Ground.data }], guard := none }) rfl (fun KK hK => ?_) AllReadyH.nil)
              · rw [if_pos (by rfl)]
                refine op_value (exec_buildW5 _ _ _ _ (by kernel_rfl) (buildW5 ⟨#[114, 101, 99, 111, 114, 100]⟩ (bb d2) (bb d4) (bb d6) (bb d8) _)) ?_
                obtain ⟨wy, nb, ey, eb, hs⟩ := hs.allocEx #[.string ⟨#[114, 101, 99, 111, 114, 100]⟩, .string (bb d2), .string (bb d4), .string (bb d6), .string (bb d8)] 9
                rw [ey, eb]
                clear ey eb
                refine hK.out _ _ (KP7.out _ _ hs.p2) (fun hHeld => ?_)
                clear hK KK
                try simp only [Act.put, List.setIfInBounds_toArray, List.set_cons_zero, List.set_cons_succ]
                refine wpAnyH_ready (rs := [14]) (by kernel_rfl) (by simp) (AllReadyH.cons (o := { dst := some 65, op := Op.call { callee := Callee.value (Operand.func 21), args := #[Operand.tmp 51, Operand.tmp 64], argTypes := #[55, 36] }, type := 0, pos := "script.go:50", after := #[{ on := 0, ground := Ground.data }, { on := 13, ground := Ground.data }, { on := 12, ground := Ground.chain }], guard := none }) rfl (fun KK hK => ?_) AllReadyH.nil)
                · go_simp
                  go_at_call 21
                  with_reducible refine (sc_lineR ob E [[114, 101, 99, 111, 114, 100], d2, d4, d6, d8] t nb 5 _ rfl rfl HL5.out HT.out HTL.out HEL.out hs).mono ?_
                  rintro e wq ⟨rfl, hs⟩
                  refine hK.out _ _ (KP7.out _ _ hs.p1) (fun hHeld => ?_)
                  clear hK KK
                  try simp only [Act.put, List.setIfInBounds_toArray, List.set_cons_zero, List.set_cons_succ]
                  refine wpAnyH_done (by kernel_rfl) ?_ _
                  clear hHeld
                  have H := Lib.hid hs
                  have z6 := hs.p1.rawCell 6
                  simp at z6
                  clear hs
                  go_wp2_with fail
                  go_loopw [69] (fun iv wr => ∃ (k4 : Nat) (E4 : Bs), k4 ≤ r.hdrs.length ∧ iv = .int .i64 k4 ∧ Hid (E4 ++ ((r.hdrs.drop k4).flatMap hdrT ++ R3) = S) ∧ St W0 wr K (.gen (sbG ob E4) :: .raw t9 #[.int .i64 r.time, .int .i64 r.off, .bool r.key.null, .string (bb r.key.data), .bool r.val.null, .string (bb r.val.data), .slice hq r.hdrs.length hcap] 51 :: .raw tb #[.int .i64 x.b.base, .int .i64 x.b.leader, .bool x.b.app, .bool x.b.txn, .bool x.b.ctl, .int .i64 x.b.last, .int .i64 x.b.first, .int .i64 x.b.maxt, .int .i64 x.b.prod, .int .i64 x.b.epoch, .int .i64 x.b.seq, .slice (some ⟨eb, eo, none⟩) x.l.length xcap] 45 :: L)) (fun iv _ => r.hdrs.length - (intOf iv).toNat)
                  case atStart => exact ⟨0, _, Nat.zero_le _, rfl, HUS.out, H.out⟩
                  case round =>
                    obtain ⟨k4, E4, hk4', rfl, HE4, hst4⟩ := hrel
                    clear H
                    have H := Lib.hid hst4
                    clear hst4
                    have hkb4 : (r.hdrs.length : Int) ≤ 1000000 := HHB.out
                    by_cases hk4 : k4 < r.hdrs.length
                    · obtain ⟨hb, ho, hhq⟩ := fl_at HHK.out H.out (by omega)
                      subst hhq
                      obtain ⟨z, hz⟩ : ∃ z, r.hdrs[k4] = z := ⟨_, rfl⟩
                      obtain ⟨c0, c1, c2⟩ := rhdr_cell HHK.out H.out k4 hk4 z hz
                      obtain ⟨d2, hd2⟩ : ∃ t, hexW z.key = t := ⟨_, rfl⟩
                      obtain ⟨d4, hd4⟩ : ∃ t, blobT z.val = t := ⟨_, rfl⟩
                      obtain ⟨t, ht⟩ : ∃ t, lnH z = t := ⟨_, rfl⟩
                      have hV : (E4 ++ (t ++ [10])) ++ ((r.hdrs.drop (k4 + 1)).flatMap hdrT ++ R3) = S := by
                        rw [← HE4.out, flat_cutS hdrT r.hdrs k4 hk4 z hz, ← ht, lnH_txt]
                        simp only [List.append_assoc]
                      have HVS := Lib.hid (Lib.hid hV)
                      have h8 := congrArg List.length hV
                      have h7 := HSL.out
                      simp only [List.length_append, List.length_cons, List.length_nil] at h8
                      have hm := HRF.out.2.2.1 z (hz ▸ List.getElem_mem hk4)
                      have HT := Lib.hid (show joinC 32 [[104, 101, 97, 100, 101, 114], d2, d4] = t by rw [joinC_flat, ← hd2, ← hd4, ← ht]; rfl)
                      have hlt := congrArg List.length ht
                      have HTL := Lib.hid (show t.length ≤ 1000000 by omega)
                      have HEL := Lib.hid (show E4.length ≤ 1000000 by omega)
                      have HL3 := Lib.hid (show [[104, 101, 97, 100, 101, 114], d2, d4].length ≤ 1000000 by simp)
                      have hlt2 : d2.length ≤ t.length ∧ d4.length ≤ t.length := by
                        rw [← ht, ← hd2, ← hd4]
                        unfold lnH
                        simp only [List.flatMap_cons, List.flatMap_nil, List.length_append, List.length_cons, List.length_nil]
                        omega
                      have HD2 := Lib.hid hd2
                      have HD4 := Lib.hid (show blobT ⟨z.val.null, z.val.data⟩ = d4 from hd4)
                      have HKL := Lib.hid (show z.key.length ≤ 1000000 by have := hexW_len z.key; rw [hd2] at this; omega)
                      have HVL := Lib.hid (show z.val.data.length ≤ 1000000 by have := blobT_len z.val hm; rw [hd4] at this; omega)
                      obtain ⟨u9, hu9⟩ : ∃ b, wr.heap.size = b := ⟨_, rfl⟩
                      have g9 := (H.out.allocRaw #[.string (bb z.key), .bool z.val.null, .string (bb z.val.data)] 54).p1
                      rw [hu9] at g9
                      have KP11 := Lib.hid (show ∀ (w' : World) (L' : List Res), St W0 w' K (.raw u9 #[.string (bb z.key), .bool z.val.null, .string (bb z.val.data)] 54 :: L') → (w'.cell? ⟨u9, 0, none⟩ = some (.string (bb z.key)) ∧ w'.cell? ⟨u9, 1, none⟩ = some (.bool z.val.null) ∧ w'.cell? ⟨u9, 2, none⟩ = some (.string (bb z.val.data))) from fun w' L' h' => ⟨h'.rawCell 0, h'.rawCell 1, h'.rawCell 2⟩)
                      have hk4i : (k4 : Int) < (r.hdrs.length : Int) := by omega
                      clear H hV h8 h7 hm hlt hlt2 hd2 hd4 ht hz
                      have H := Lib.hid g9
                      clear g9
                      go_upto_region 11 with fail
                      have hs := H.out.drew
                      clear H c0 c1 c2
                      refine wp_region_held_drew (S := fun w' => w'.cell? ⟨u9, 0, none⟩ = some (.string (bb z.key)) ∧ w'.cell? ⟨u9, 1, none⟩ = some (.bool z.val.null) ∧ w'.cell? ⟨u9, 2, none⟩ = some (.string (bb z.val.data))) (by kernel_rfl) (KP11.out _ _ hs.p1) (fun hHeld => ?_)
                      refine wpAnyH_take (i := 0) (oi := { dst := some 73, op := Op.move (Operand.tmp 0), type := 55, pos := "script.go:52", after := #[], guard := none }) (v := ?_) rfl (by kernel_rfl) (by kernel_rfl) (by kernel_rfl) (fun _ _ _ h => h) (Or.inl ⟨by rfl, ?_⟩) (by assumption) ?_
                      rotate_left
                      · intro w hSw; (try dsimp only at hSw); go_simp; (try simp only [List.getElem?_cons_zero, Option.getD_some]); (try go_simp); try with_reducible rfl
                      simp only [Act.put, List.setIfInBounds_toArray, List.set_cons_zero, List.set_cons_succ]
                      refine wpAnyH_take (i := 1) (oi := { dst := some 74, op := Op.fieldAddr 54 (Operand.tmp 9) 0, type := 0, pos := "script.go:52", after := #[], guard := none }) (v := ?_) rfl (by kernel_rfl) (by kernel_rfl) (by kernel_rfl) (fun _ _ _ h => h) (Or.inl ⟨by rfl, ?_⟩) (by assumption) ?_
                      rotate_left
                      · intro w hSw; (try dsimp only at hSw); go_simp; (try simp only [List.getElem?_cons_zero, Option.getD_some]); (try go_simp); try with_reducible rfl
                      simp only [Act.put, List.setIfInBounds_toArray, List.set_cons_zero, List.set_cons_succ]
                      refine wpAnyH_take (i := 2) (oi := { dst := some 75, op := Op.load 9 (Operand.tmp 74), type := 9, pos := "script.go:52", after := #[{ on := 1, ground := Ground.data }], guard := none }) (v := ?_) rfl (by kernel_rfl) (by kernel_rfl) (by kernel_rfl) (fun _ _ _ h => h) (Or.inl ⟨by rfl, ?_⟩) (by assumption) ?_
                      rotate_left
                      · intro w hSw; (try dsimp only at hSw); go_simp; (try simp only [List.getElem?_cons_zero, Option.getD_some]); (try go_simp); try with_reducible rfl
                      simp only [Act.put, List.setIfInBounds_toArray, List.set_cons_zero, List.set_cons_succ]
                      refine wpAnyH_take (i := 4) (oi := { dst := some 77, op := Op.fieldAddr 54 (Operand.tmp 9) 1, type := 0, pos := "script.go:52", after := #[], guard := none }) (v := ?_) rfl (by kernel_rfl) (by kernel_rfl) (by kernel_rfl) (fun _ _ _ h => h) (Or.inl ⟨by rfl, ?_⟩) (by assumption) ?_
                      rotate_left
                      · intro w hSw; (try dsimp only at hSw); go_simp; (try simp only [List.getElem?_cons_zero, Option.getD_some]); (try go_simp); try with_reducible rfl
                      simp only [Act.put, List.setIfInBounds_toArray, List.set_cons_zero, List.set_cons_succ]
                      refine wpAnyH_take (i := 5) (oi := { dst := some 78, op := Op.load 48 (Operand.tmp 77), type := 48, pos := "script.go:52", after := #[{ on := 4, ground := Ground.data }], guard := none }) (v := ?_) rfl (by kernel_rfl) (by kernel_rfl) (by kernel_rfl) (fun _ _ _ h => h) (Or.inl ⟨by rfl, ?_⟩) (by assumption) ?_
                      rotate_left
                      · intro w hSw; (try dsimp only at hSw); go_simp; (try simp only [List.getElem?_cons_zero, Option.getD_some]); (try go_simp); try with_reducible rfl
                      simp only [Act.put, List.setIfInBounds_toArray, List.set_cons_zero, List.set_cons_succ]
                      refine wpAnyH_ready (rs := [3]) (by kernel_rfl) (by simp) (AllReadyH.cons (o := { dst := some 76, op := Op.call { callee := Callee.value (Operand.func 15), args := #[Operand.tmp 75], argTypes := #[9] }, type := 9, pos := "script.go:52", after := #[{ on := 2, ground := Ground.data }], guard := none }) rfl (fun KK hK => ?_) AllReadyH.nil)
                      · go_simp
                        go_at_call 15
                        with_reducible refine (sc_hexT z.key d2 HD2.out HKL.out hs).mono ?_
                        rintro e wq ⟨rfl, hs⟩
                        refine hK.out _ _ (KP11.out _ _ hs.p1) (fun hHeld => ?_)
                        clear hK KK
                        try simp only [Act.put, List.setIfInBounds_toArray, List.set_cons_zero, List.set_cons_succ]
                        refine wpAnyH_ready (rs := [6]) (by kernel_rfl) (by simp) (AllReadyH.cons (o := { dst := some 79, op := Op.call { callee := Callee.value (Operand.func 39), args := #[Operand.tmp 78], argTypes := #[48] }, type := 9, pos := "script.go:52", after := #[{ on := 5, ground := Ground.data }, { on := 3, ground := Ground.chain }], guard := none }) rfl (fun KK hK => ?_) AllReadyH.nil)
                        · go_simp
                          go_at_call 39
                          with_reducible refine (sc_blobWord z.val.null z.val.data d4 HD4.out HVL.out hs).mono ?_
                          rintro e wq ⟨rfl, hs⟩
                          refine hK.out _ _ (KP11.out _ _ hs.p1) (fun hHeld => ?_)
                          clear hK KK
                          try simp only [Act.put, List.setIfInBounds_toArray, List.set_cons_zero, List.set_cons_succ]
                          refine wpAnyH_ready (rs := [7]) (by kernel_rfl) (by simp) (AllReadyH.cons (o := { dst := some 80, op := Op.buildSlice 36 3 #[(0, Operand.const (Value.string { data := #[104, 101, 97, 100, 101, 114] })), (1, Operand.tmp 76), (2, Operand.tmp 79)], type := 36, pos := "script.go:52", after := #[{ on := 3, ground := Ground.data }, { on := 6, ground := Ground.data }], guard := none }) rfl (fun KK hK => ?_) AllReadyH.nil)
                          · rw [if_pos (by rfl)]
                            refine op_value (exec_buildW3 _ _ _ _ (by kernel_rfl) (buildW3 ⟨#[104, 101, 97, 100, 101, 114]⟩ (bb d2) (bb d4) _)) ?_
                            obtain ⟨wy, nb, ey, eb, hs⟩ := hs.allocEx #[.string ⟨#[104, 101, 97, 100, 101, 114]⟩, .string (bb d2), .string (bb d4)] 9
                            rw [ey, eb]
                            clear ey eb
                            refine hK.out _ _ (KP11.out _ _ hs.p2) (fun hHeld => ?_)
                            clear hK KK
                            try simp only [Act.put, List.setIfInBounds_toArray, List.set_cons_zero, List.set_cons_succ]
                            refine wpAnyH_ready (rs := [8]) (by kernel_rfl) (by simp) (AllReadyH.cons (o := { dst := some 81, op := Op.call { callee := Callee.value (Operand.func 21), args := #[Operand.tmp 73, Operand.tmp 80], argTypes := #[55, 36] }, type := 0, pos := "script.go:52", after := #[{ on := 0, ground := Ground.data }, { on := 7, ground := Ground.data }, { on := 6, ground := Ground.chain }], guard := none }) rfl (fun KK hK => ?_) AllReadyH.nil)
                            · go_simp
                              go_at_call 21
                              with_reducible refine (sc_lineR ob E4 [[104, 101, 97, 100, 101, 114], d2, d4] t nb 3 _ rfl rfl HL3.out HT.out HTL.out HEL.out hs).mono ?_
                              rintro e wq ⟨rfl, hs⟩
                              refine hK.out _ _ (KP11.out _ _ hs.p1) (fun hHeld => ?_)
                              clear hK KK
                              try simp only [Act.put, List.setIfInBounds_toArray, List.set_cons_zero, List.set_cons_succ]
                              refine wpAnyH_done (by kernel_rfl) ?_ _
                              clear hHeld
                              have hs := hs.p1.drop
                              have H := Lib.hid hs
                              clear hs
                              go_wp2_with fail
                              go_roundw
                              case rel => exact ⟨k4 + 1, _, hk4, by go_num, HVS.out, H.out⟩
                              case measure => first | (simp [intOf]; done) | (simp [intOf]; omega)
                    · have hq4 : k4 = r.hdrs.length := by omega
                      have HE5 := Lib.hid (show E4 ++ R3 = S by have h9 := HE4.out; rw [hq4, List.drop_length] at h9; exact h9)
                      have hk4i : ¬ ((k4 : Int) < (r.hdrs.length : Int)) := by omega
                      go_wp2_with fail
                      go_roundw
                      case rel => exact ⟨k3 + 1, E4, hk3, by go_num, Lib.hid (by rw [HR3.out]; exact HE5.out), H.out.p1.drop⟩
                      case measure => first | (simp [intOf]; done) | (simp [intOf]; omega)
    · have hq3 : k3 = x.l.length := by omega
      have HE3' := Lib.hid (show E = S by have h9 := HE.out; rw [hq3, List.drop_length] at h9; simpa using h9)
      have hk3i : ¬ ((k3 : Int) < (x.l.length : Int)) := by omega
      go_wp2_with fail
      go_end0
      exact ⟨rfl, by rw [← HE3'.out]; exact H.out.p1.drop⟩

end Go.Proofs.YtenojajfacacoaaDoor
