/- What any text is read as is a script whose text this is, or there is a line at which it ends to be one: proved of every text, the library's own variables as the program lays them. -/
import Derived.Test.YtenojajfacacoaaDoorGScriptParsesCard5
import Derived.Test.YtenojajfacacoaaDoorGScriptParsesCard6
import Derived.RegionTactic
import Derived.Test.YtenojajfacacoaaDoorSc9
import Derived.Test.YtenojajfacacoaaDoorRegOp
import Derived.WalkMore
import Derived.Deep.RegionHeld3
import Derived.Deep.DeepCutAuto
import Derived.Test.YtenojajfacacoaaDoorGScriptParsesCard2
import Derived.Test.YtenojajfacacoaaDoorSc1P
import Derived.Test.YtenojajfacacoaaDoorSb1
import Derived.Test.YtenojajfacacoaaDoorCards
import Derived.Test.YtenojajfacacoaaDoorLaw
import Derived.OpenShut
import Derived.MakeChecks
import Derived.LaidMore
import Derived.Lib.LaidTab
import Derived.Stop.LaidErr
import Derived.Test.YtenojajfacacoaaDoorSc4
import Derived.Test.YtenojajfacacoaaDoorTie
import Derived.Deep.DeepHandedRow
import Derived.SevenTiedAt
import Derived.Test.YtenojajfacacoaaDoorArgs
/- Texts that are no scripts. -/
namespace Go.Proofs.YtenojajfacacoaaDoor
open Go.RowKit

theorem mem_flat_le {α : Type} (f : α → Bs) : ∀ (l : List α) (x : α), x ∈ l → (f x).length ≤ (l.flatMap f).length
  | [], x, h => by cases h
  | y :: t, x, h => by
    rw [List.flatMap_cons, List.length_append]
    rcases List.mem_cons.1 h with rfl | h
    · omega
    · have := mem_flat_le f t x h; omega
theorem l_small {l : List BtR} {r S : Bs} (h : l.flatMap btT ++ r = S) (hs : S.length ≤ 5000) : (l.length : Int) ≤ 1000000 ∧ (∀ x ∈ l, (x.l.length : Int) ≤ 1000000) ∧ ∀ x ∈ l, ∀ y ∈ x.l, (y.1.hdrs.length : Int) ≤ 1000000 := by
  have h1 := ahead_le h hs
  have h2 := flat_le btT l (fun x _ => by unfold btT batL; simp)
  refine ⟨by omega, fun x hx => ?_, fun x hx y hy => ?_⟩
  · have h3 := mem_flat_le btT l x hx
    have h4 := flat_le (fun y : RecS × Value => recT y.1) x.l (fun y _ => by unfold recT recH; simp)
    unfold btT at h3
    rw [List.length_append] at h3
    unfold btT at h1
    omega
  · have h3 := mem_flat_le btT l x hx
    have h4 := mem_flat_le (fun y : RecS × Value => recT y.1) x.l y hy
    have h5 := flat_le hdrT y.1.hdrs (fun z _ => by unfold hdrT; simp)
    unfold btT at h3 h1
    unfold recT at h4 h3 h1
    simp only [List.length_append] at h3 h4
    omega
theorem bb_nil0 : (⟨#[]⟩ : ByteArray) = bb [] := rfl
def badOf (text : Bs) : Nat := parseL 0 0 (-1) [] 1 (partsC 10 text)
theorem parse_good (sv : ByteArray) (text : Bs) (hsv : sv = bb text) (hl : text.length ≤ 5000) (h0 : badOf text = 0) {W0 w : World} {K : Know} {L : List Res} (hlib : K.has Know.lib) (h : St W0 w K L) :
    Calls Tryd.prog 10 #[.string sv] w fun en w' => ∃ (K' : Know) (l : List BtR) (c : Int) (ch : List Int) (vB : Value) (q : Option Addr) (cap : Nat), en = .returned (.tuple #[.agg #[vB, .int .i64 c, .slice q ch.length cap], .int .i64 0]) ∧ K'.has K ∧ K'.has (Know.btrs vB l) ∧ K'.has (Know.flat RInt (.slice q ch.length cap) 1 ch) ∧ l.flatMap btT ++ (cutT c ++ chT ch) = text ∧ -1 ≤ c ∧ Rn c ∧ (∀ v ∈ ch, Rn v) ∧ (∀ x ∈ l, btFine x) ∧ St W0 w' K' L := by
  subst hsv
  refine (parse_any text hl hlib h).mono ?_
  rintro en w' (⟨_, h⟩ | ⟨bad, K', h1, h2, _⟩)
  · exact h
  · exact absurd (h1.symm.trans h0) (by omega)
theorem parse_ends (sv : ByteArray) (text : Bs) (bad : Nat) (hsv : sv = bb text) (hl : text.length ≤ 5000) (h0 : badOf text = bad) (hp : 0 < bad) {W0 w : World} {K : Know} {L : List Res} (hlib : K.has Know.lib) (h : St W0 w K L) :
    Calls Tryd.prog 10 #[.string sv] w fun en w' => ∃ (K' : Know), en = .returned (.tuple #[.agg #[.slice none 0 0, .int .i64 0, .slice none 0 0], .int .i64 bad]) ∧ K'.has K ∧ St W0 w' K' L := by
  subst hsv
  refine (parse_any text hl hlib h).mono ?_
  rintro en w' (⟨h1, _⟩ | ⟨b, K', h1, h2, _, h3, h4, h5⟩)
  · exact absurd (h0.symm.trans h1) (by omega)
  · have e : b = bad := h1.symm.trans h0
    subst e
    exact ⟨K', h3, h4, h5⟩
theorem parse_val (sv : ByteArray) (text : Bs) (a : Nat) (hsv : sv = bb text) (hl : text.length ≤ 5000) (h0 : badOf text = a) {W0 w : World} {K : Know} {L : List Res} (hlib : K.has Know.lib) (h : St W0 w K L) :
    Calls Tryd.prog 10 #[.string sv] w fun en w' => ∃ (K' : Know) (v0 : Value) (n : Nat) (cp : Nat) (p : Option Addr) (c : Int) (q : Option Addr) (m cap : Nat), en = .returned (.tuple #[.agg #[.slice p n cp, .int .i64 c, .slice q m cap], .int .i64 a]) ∧ K'.has K ∧ St W0 w' K' L := by
  subst hsv
  refine (parse_any text hl hlib h).mono ?_
  rintro en w' (⟨h1, K', l, c, ch, vB, q, cap, rfl, h3, h4, h5, h6, h7, h8, h9, h10, h11⟩ | ⟨b, K', h1, h2, _, rfl, h4, h5⟩)
  · obtain ⟨p, cp, hv⟩ := fl_form (btrs_flat h4) h11
    have e : a = 0 := h0.symm.trans h1
    subst e hv
    exact ⟨K', .slice none 0 0, l.length, cp, p, c, q, ch.length, cap, rfl, h3, h11⟩
  · have e : b = a := h1.symm.trans h0
    subst e
    exact ⟨K', .slice none 0 0, 0, 0, none, 0, none, 0, 0, rfl, h4, h5⟩
/-- What is known of a text that is no script. -/
theorem badOf_ends (text : Bs) (hb : badOf text ≠ 0) : ∃ j line, badOf text = j + 1 ∧ j < (partsC 10 text).length ∧ (partsC 10 text)[j]? = some line ∧ badOf (linesT ((partsC 10 text).take j)) = 0 ∧ (j + 1 = (partsC 10 text).length ∨ badOf (linesT ((partsC 10 text).take j) ++ line ++ [10]) = j + 1) ∧ (linesT ((partsC 10 text).take j) ++ line ++ [10]).length ≤ text.length + 1 := by
  obtain ⟨j, h1, hj, h2, h3⟩ := parseL_ends (partsC 10 text) 0 0 (-1) [] 1 (by omega) hb
  have hfree := parts_free 10 text
  have hp1 : partsC 10 (linesT ((partsC 10 text).take j)) = (partsC 10 text).take j ++ [[]] := parts_lines _ (fun l hl => hfree l (List.mem_of_mem_take hl))
  have hp2 : partsC 10 (linesT ((partsC 10 text).take j) ++ (partsC 10 text)[j] ++ [10]) = (partsC 10 text).take j ++ [(partsC 10 text)[j], []] := by
    have e : linesT ((partsC 10 text).take j) ++ (partsC 10 text)[j] ++ [10] = linesT ((partsC 10 text).take j ++ [(partsC 10 text)[j]]) := by unfold linesT; rw [List.flatMap_append]; simp
    rw [e, parts_lines _ (fun l hl => by
      rcases List.mem_append.1 hl with hl | hl
      · exact hfree l (List.mem_of_mem_take hl)
      · rw [List.mem_singleton.1 hl]; exact hfree _ (List.getElem_mem hj))]
    rw [List.append_assoc]
    rfl
  refine ⟨j, (partsC 10 text)[j], by unfold badOf; rw [h1]; omega, hj, List.getElem?_eq_getElem hj, by unfold badOf; rw [hp1]; exact h2, ?_, ?_⟩
  · rcases h3 with h3 | h3
    · exact .inl h3
    · right; unfold badOf; rw [hp2, h3]; omega
  · have h9 := linesT_len (partsC 10 text) (j + 1)
    rw [join_parts, List.take_succ_eq_append_getElem hj] at h9
    have e : linesT ((partsC 10 text).take j) ++ (partsC 10 text)[j] ++ [10] = linesT ((partsC 10 text).take j ++ [(partsC 10 text)[j]]) := by unfold linesT; rw [List.flatMap_append]; simp
    rw [e]
    exact h9
theorem rs_printE (S : Bs) (vB : Value) (c : Int) (q : Option Addr) (cap : Nat) (ch : List Int) (l : List BtR) (hS : l.flatMap btT ++ (cutT c ++ chT ch) = S) (hl : S.length ≤ 5000) (hcr : Rn c) (hchr : ∀ v ∈ ch, Rn v) (hfine : ∀ x ∈ l, btFine x) {W0 w : World} {K : Know} {L : List Res} (hkb : K.has (Know.btrs vB l)) (hkc : K.has (Know.flat RInt (.slice q ch.length cap) 1 ch)) (h : St W0 w K L) :
    Calls Tryd.prog 11 #[.agg #[vB, .int .i64 c, .slice q ch.length cap]] w fun en w' => en = .returned (.string (bb S)) ∧ St W0 w' K L := rs_print vB c q cap ch l S hS (by omega) hcr hchr hfine hkb hkc h
theorem rs_mayE (S : Bs) (vB : Value) (c : Int) (q : Option Addr) (cap : Nat) (ch : List Int) (l : List BtR) (hS : l.flatMap btT ++ (cutT c ++ chT ch) = S) (hl : S.length ≤ 5000) (hc : -1 ≤ c) (hfine : ∀ x ∈ l, btFine x) {W0 w : World} {K : Know} {L : List Res} (hkb : K.has (Know.btrs vB l)) (h : St W0 w K L) :
    Calls Tryd.prog 8 #[.agg #[vB, .int .i64 c, .slice q ch.length cap]] w fun en w' => en = .returned (.bool true) ∧ St W0 w' K L := rs_may vB c q cap ch l hc hfine (l_small hS hl).1 (l_small hS hl).2.1 (l_small hS hl).2.2 hkb h

end Go.Proofs.YtenojajfacacoaaDoor
/- Lines of scripts, told apart. -/
namespace Go.Proofs.YtenojajfacacoaaDoor
open Go.RowKit

set_option maxHeartbeats 4000000 in
set_option maxRecDepth 100000 in
theorem rd_read_cut (rd wb : Nat) (v : Value) (n : Int) (x : Bs) (hx : numRd x = some n) (hn : 0 ≤ n) (hxl : x.length ≤ 1000000) {W0 w : World} {K : Know} {L : List Res} (hlib : K.has Know.lib) (hk : K.has (Know.strs wb 0 [[99, 117, 116], x])) (h : St W0 w K (.raw rd #[v, .int .i64 (-1), .slice none 0 0] 65 :: L)) :
    Calls Tryd.prog 26 #[.pointer (some ⟨rd, 0, none⟩), .slice (some ⟨wb, 0, none⟩) 2 2] w fun en w' => en = .returned (.bool true) ∧ St W0 w' K (.raw rd #[v, .int .i64 n, .slice none 0 0] 65 :: L) := by
  have HX := Lib.hid hx
  have HN := Lib.hid hn
  have HXL := Lib.hid hxl
  have HK1 := Lib.hid (show K.has (Know.strs wb 1 [x]) from strs_drop hk 1)
  clear hx hn hxl
  have c0 : w.cell? ⟨wb, 0, none⟩ = some (.string (bb [99, 117, 116])) := strs_cell hk h 0 (by simp)
  have d0 := (h).rawCell 0; have d1 := (h).rawCell 1; have d2 := (h).rawCell 2; simp at d0 d1 d2
  have HK := Lib.hid hk
  have HLIB := Lib.hid hlib
  have H := Lib.hid h
  clear h hk hlib
  go_enter Tryd.func26, Tryd.ntmps26
  go_upto_region 1 with fail
  go_region
  all_goals (
    go_wp2_with (go_at_call 43; (with_reducible refine (rd_cut rd wb 1 1 v (.slice none 0 0) (-1) n x HX.out HN.out HXL.out HLIB.out HK1.out H.out.drew).mono ?_); rintro e_ wn ⟨rfl, h⟩; replace H := Lib.hid h; clear h)
    go_ret
    exact ⟨rfl, H.out⟩)

set_option maxHeartbeats 4000000 in
set_option maxRecDepth 100000 in
theorem rd_read_batch (rd wb : Nat) (v : Value) (n : Nat) (xs : List Value) (ws : List Bs) (s : Bs) (n0 n1 n2 n3 n4 n5 n6 n7 : Int) (va vt vc : Bool) (hw : 8 = ws.length) (hns : numsRd ws = some [n0, n1, n2, n3, n4, n5, n6, n7]) (hva : hasB s 97 = va) (hvt : hasB s 116 = vt) (hvc : hasB s 99 = vc) (hok : (letW va vt vc == s) = true) (hn : n ≤ 1000000) (hxl : ∀ y ∈ ws, y.length ≤ 1000000) {W0 w : World} {K : Know} {L : List Res} (hlib : K.has Know.lib) (hk : K.has (Know.strs wb 0 ([98, 97, 116, 99, 104] :: (ws ++ [s])))) (h : St W0 w K (.raw rd #[v, .int .i64 (-1), .slice none 0 0] 65 :: .row v 45 12 n xs :: L)) :
    Calls Tryd.prog 26 #[.pointer (some ⟨rd, 0, none⟩), .slice (some ⟨wb, 0, none⟩) 10 10] w fun en w' => ∃ v', en = .returned (.bool true) ∧ St W0 w' K (.raw rd #[v', .int .i64 (-1), .slice none 0 0] 65 :: .row v' 45 12 (n + 1) (xs ++ [.int .i64 n0, .int .i64 n1, .bool va, .bool vt, .bool vc, .int .i64 n2, .int .i64 n3, .int .i64 n4, .int .i64 n5, .int .i64 n6, .int .i64 n7, .slice none 0 0]) :: L) := by
  have HW := Lib.hid hw
  have HNS := Lib.hid hns
  have HVA := Lib.hid hva
  have HVT := Lib.hid hvt
  have HVC := Lib.hid hvc
  have HOK := Lib.hid hok
  have HN := Lib.hid hn
  have HXL := Lib.hid hxl
  have HK1 := Lib.hid (show K.has (Know.strs wb 1 (ws ++ [s])) from strs_drop hk 1)
  clear hw hns hva hvt hvc hok hn hxl
  have c0 : w.cell? ⟨wb, 0, none⟩ = some (.string (bb [98, 97, 116, 99, 104])) := strs_cell hk h 0 (by simp)
  have d0 := (h).rawCell 0; have d1 := (h).rawCell 1; have d2 := (h).rawCell 2; simp at d0 d1 d2
  have HK := Lib.hid hk
  have HLIB := Lib.hid hlib
  have H := Lib.hid h
  clear h hk hlib
  go_enter Tryd.func26, Tryd.ntmps26
  go_upto_region 1 with fail
  go_region
  all_goals (
    go_wp2_with (go_at_call 44; (with_reducible refine (rd_batch rd wb 1 9 v (.slice none 0 0) (-1) n xs ws s n0 n1 n2 n3 n4 n5 n6 n7 va vt vc true HW.out HNS.out HVA.out HVT.out HVC.out HOK.out HN.out HXL.out (by decide) HLIB.out HK1.out H.out.drew).mono ?_); rintro e_ wn ⟨v2, rfl, h⟩; replace H := Lib.hid h; clear h)
    go_ret
    exact ⟨_, rfl, H.out⟩)
set_option maxHeartbeats 4000000 in
set_option maxRecDepth 100000 in
theorem rd_read_no (rd wb : Nat) (v : Value) (c : Int) (ws : List Bs) (hc : c ≠ -1) {W0 w : World} {K : Know} {L : List Res} (hlib : K.has Know.lib) (hk : K.has (Know.strs wb 0 ([98, 97, 116, 99, 104] :: ws))) (h : St W0 w K (.raw rd #[v, .int .i64 c, .slice none 0 0] 65 :: L)) :
    Calls Tryd.prog 26 #[.pointer (some ⟨rd, 0, none⟩), .slice (some ⟨wb, 0, none⟩) 10 10] w fun en w' => en = .returned (.bool false) ∧ St W0 w' K (.raw rd #[v, .int .i64 c, .slice none 0 0] 65 :: L) := by
  have q1 : (c == -1) = false := by rw [beq_eq_false_iff_ne]; exact hc
  have q2 : (c != -1) = true := by simp [bne, q1]
  clear hc
  have c0 : w.cell? ⟨wb, 0, none⟩ = some (.string (bb [98, 97, 116, 99, 104])) := strs_cell hk h 0 (by simp)
  have d0 := (h).rawCell 0; have d1 := (h).rawCell 1; have d2 := (h).rawCell 2; simp at d0 d1 d2
  have HK := Lib.hid hk
  have HLIB := Lib.hid hlib
  have H := Lib.hid h
  clear h hk hlib
  go_enter Tryd.func26, Tryd.ntmps26
  go_upto_region 1 with fail
  go_region
  all_goals (
    go_wp2_with fail
    go_ret
    exact ⟨rfl, H.out.drew⟩)

end Go.Proofs.YtenojajfacacoaaDoor
/- Two texts, read. -/
namespace Go.Proofs.YtenojajfacacoaaDoor
open Go.RowKit

set_option maxHeartbeats 4000000 in
set_option maxRecDepth 100000 in
theorem parse_k1 {W0 w : World} {K : Know} {L : List Res} (hlib : K.has Know.lib) (h : St W0 w K L) :
    Calls Tryd.prog 10 #[.string (bb [98, 97, 116, 99, 104, 32, 48, 32, 45, 49, 32, 48, 32, 48, 32, 48, 32, 45, 49, 32, 45, 49, 32, 45, 49, 32, 45, 10, 99, 117, 116, 32, 53, 10])] w fun en w' => ∃ (v : Value) (K' : Know), en = .returned (.tuple #[.agg #[v, .int .i64 5, .slice none 0 0], .int .i64 0]) ∧ K'.has K ∧ St W0 w' K' (.row v 45 12 1 [.int .i64 0, .int .i64 (-1), .bool false, .bool false, .bool false, .int .i64 0, .int .i64 0, .int .i64 0, .int .i64 (-1), .int .i64 (-1), .int .i64 (-1), .slice none 0 0] :: L) := by
  obtain ⟨sb, hsb⟩ : ∃ b, w.heap.size = b := ⟨_, rfl⟩
  obtain ⟨rd, hrd⟩ : ∃ b, sb + 1 = b := ⟨_, rfl⟩
  have g1 := (h.allocRaw #[.slice none 0 0, .int .i64 0, .slice none 0 0] 25).allocRaw #[.slice none 0 0, .int .i64 (-1), .slice none 0 0] 65
  simp only [World.size_alloc, hsb, hrd] at g1
  have H := Lib.hid g1
  have HLIB := Lib.hid hlib
  clear h g1 hlib
  go_enter Tryd.func10, Tryd.ntmps10
  go_wp2_with fail
  go_loopw [0, 5] (fun tv nv wr => ∃ (K' : Know) (v : Value), Hid (K'.has K) ∧ ((tv = .string (bb [98, 97, 116, 99, 104, 32, 48, 32, 45, 49, 32, 48, 32, 48, 32, 48, 32, 45, 49, 32, 45, 49, 32, 45, 49, 32, 45, 10, 99, 117, 116, 32, 53, 10]) ∧ nv = .int .i64 1 ∧ St W0 wr K' (.raw rd #[v, .int .i64 (-1), .slice none 0 0] 65 :: .row v 45 12 0 [] :: .raw sb #[.slice none 0 0, .int .i64 0, .slice none 0 0] 25 :: L)) ∨ (tv = .string (bb [99, 117, 116, 32, 53, 10]) ∧ nv = .int .i64 2 ∧ St W0 wr K' (.raw rd #[v, .int .i64 (-1), .slice none 0 0] 65 :: .row v 45 12 1 [.int .i64 0, .int .i64 (-1), .bool false, .bool false, .bool false, .int .i64 0, .int .i64 0, .int .i64 0, .int .i64 (-1), .int .i64 (-1), .int .i64 (-1), .slice none 0 0] :: .raw sb #[.slice none 0 0, .int .i64 0, .slice none 0 0] 25 :: L)) ∨ (tv = .string (bb []) ∧ nv = .int .i64 3 ∧ St W0 wr K' (.raw rd #[v, .int .i64 5, .slice none 0 0] 65 :: .row v 45 12 1 [.int .i64 0, .int .i64 (-1), .bool false, .bool false, .bool false, .int .i64 0, .int .i64 0, .int .i64 0, .int .i64 (-1), .int .i64 (-1), .int .i64 (-1), .slice none 0 0] :: .raw sb #[.slice none 0 0, .int .i64 0, .slice none 0 0] 25 :: L)))) (fun _ nv _ => 4 - (intOf nv).toNat)
  case atStart => exact ⟨K, _, Lib.hid (Know.has_refl _), .inl ⟨rfl, rfl, (H.out.nilRow 45 12).p1⟩⟩
  case round =>
    obtain ⟨K', v, HKK, hd⟩ := hrel
    clear H
    have HLIB2 := Lib.hid (Know.has_trans HKK.out HLIB.out)
    rcases hd with ⟨rfl, rfl, hst⟩ | ⟨rfl, rfl, hst⟩ | ⟨rfl, rfl, hst⟩
    · have H := Lib.hid hst
      clear hst
      go_wp2_with (first
    | (go_at_call 25; (with_reducible refine (sl_cutN [98, 97, 116, 99, 104, 32, 48, 32, 45, 49, 32, 48, 32, 48, 32, 48, 32, 45, 49, 32, 45, 49, 32, 45, 49, 32, 45, 10, 99, 117, 116, 32, 53, 10] [98, 97, 116, 99, 104, 32, 48, 32, 45, 49, 32, 48, 32, 48, 32, 48, 32, 45, 49, 32, 45, 49, 32, 45, 49, 32, 45] [99, 117, 116, 32, 53, 10] true kc1 (by decide) HLIB2.out H.out).mono ?_); rintro e_ wn ⟨rfl, h⟩; replace H := Lib.hid h; clear h)
    | (go_at_call 13; (with_reducible refine (sl_splitN [98, 97, 116, 99, 104, 32, 48, 32, 45, 49, 32, 48, 32, 48, 32, 48, 32, 45, 49, 32, 45, 49, 32, 45, 49, 32, 45] [[98, 97, 116, 99, 104], [48], [45, 49], [48], [48], [48], [45, 49], [45, 49], [45, 49], [45]] 10 rfl kwA (by decide) HLIB2.out H.out).mono ?_); rintro e_ wn ⟨wb, rfl, h⟩; have h := h.strs; have HKW := Lib.hid (Know.has_right (a := K') (Know.has_refl (Know.strs wb 0 [[98, 97, 116, 99, 104], [48], [45, 49], [48], [48], [48], [45, 49], [45, 49], [45, 49], [45]]))); have HLIB3 := Lib.hid (Know.has_left (b := Know.strs wb 0 [[98, 97, 116, 99, 104], [48], [45, 49], [48], [48], [48], [45, 49], [45, 49], [45, 49], [45]]) HLIB2.out); have HKW2 := Lib.hid (show (K'.and (Know.strs wb 0 [[98, 97, 116, 99, 104], [48], [45, 49], [48], [48], [48], [45, 49], [45, 49], [45, 49], [45]])).has (Know.strs wb 0 ([98, 97, 116, 99, 104] :: ([[48], [45, 49], [48], [48], [48], [45, 49], [45, 49], [45, 49]] ++ [[45]]))) from HKW.out); replace H := Lib.hid h; clear h)
    | (go_at_call 26; (with_reducible refine (rd_read_batch rd wb _ 0 [] [[48], [45, 49], [48], [48], [48], [45, 49], [45, 49], [45, 49]] [45] 0 (-1) 0 0 0 (-1) (-1) (-1) false false false rfl kn8 (by decide +kernel) (by decide +kernel) (by decide +kernel) (by decide +kernel) (by decide) (by decide) HLIB3.out HKW2.out H.out).mono ?_); rintro e_ wn ⟨v2, rfl, h⟩; replace H := Lib.hid h; clear h))
      go_roundw
      case rel => exact ⟨_, v2, Lib.hid (Know.has_left HKK.out), .inr (.inl ⟨rfl, by go_num, H.out⟩)⟩
      case measure => first | (simp [intOf]; done) | (simp [intOf]; omega)
    · have H := Lib.hid hst
      clear hst
      go_wp2_with (first
    | (go_at_call 25; (with_reducible refine (sl_cutN [99, 117, 116, 32, 53, 10] [99, 117, 116, 32, 53] [] true kc2 (by decide) HLIB2.out H.out).mono ?_); rintro e_ wn ⟨rfl, h⟩; replace H := Lib.hid h; clear h)
    | (go_at_call 13; (with_reducible refine (sl_splitN [99, 117, 116, 32, 53] [[99, 117, 116], [53]] 2 rfl kwB (by decide) HLIB2.out H.out).mono ?_); rintro e_ wn ⟨wb, rfl, h⟩; have h := h.strs; have HKW := Lib.hid (Know.has_right (a := K') (Know.has_refl (Know.strs wb 0 [[99, 117, 116], [53]]))); have HLIB3 := Lib.hid (Know.has_left (b := Know.strs wb 0 [[99, 117, 116], [53]]) HLIB2.out); replace H := Lib.hid h; clear h)
    | (go_at_call 26; (with_reducible refine (rd_read_cut rd wb _ 5 [53] kn5 (by decide) (by decide) HLIB3.out HKW.out H.out).mono ?_); rintro e_ wn ⟨rfl, h⟩; replace H := Lib.hid h; clear h))
      go_roundw
      case rel => exact ⟨_, v, Lib.hid (Know.has_left HKK.out), .inr (.inr ⟨rfl, by go_num, H.out⟩)⟩
      case measure => first | (simp [intOf]; done) | (simp [intOf]; omega)
    · obtain ⟨qv, cv, hv⟩ := hst.p1.rowAny
      subst hv
      have H := Lib.hid hst
      have d0 := (hst).rawCell 0; have d1 := (hst).rawCell 1; have d2 := (hst).rawCell 2; simp at d0 d1 d2
      have e0 := (hst.p2).rawCell 0; have e1 := (hst.p2).rawCell 1; have e2 := (hst.p2).rawCell 2; simp at e0 e1 e2; have r0 := (hst.p2).rawFree 0; have r1 := (hst.p2).rawFree 1; have r2 := (hst.p2).rawFree 2
      clear hst
      go_wp2_with fail
      have hz : St W0 _ K' (.raw sb #[.slice qv 1 cv, .int .i64 5, .slice none 0 0] 25 :: _) := ((H.out.p2.rawSet 0 (.slice qv 1 cv)).rawSet 1 (.int .i64 5)).rawSet 2 (.slice none 0 0)
      refine bodyPost_ret (rc_cell_tmpS rfl _ _ sb [.slice qv 1 cv, .int .i64 5, .slice none 0 0] _ rfl (rc_rangeS hz) Tryd.underlying25 rfl (by kernel_rfl)) rfl ?_
      exact ⟨_, K', rfl, HKK.out, hz.drop.drop⟩
set_option maxHeartbeats 4000000 in
set_option maxRecDepth 100000 in
theorem parse_k2 {W0 w : World} {K : Know} {L : List Res} (hlib : K.has Know.lib) (h : St W0 w K L) :
    Calls Tryd.prog 10 #[.string (bb [99, 117, 116, 32, 53, 10, 98, 97, 116, 99, 104, 32, 48, 32, 45, 49, 32, 48, 32, 48, 32, 48, 32, 45, 49, 32, 45, 49, 32, 45, 49, 32, 45, 10])] w fun en w' => ∃ K' : Know, en = .returned (.tuple #[.agg #[.slice none 0 0, .int .i64 0, .slice none 0 0], .int .i64 2]) ∧ K'.has K ∧ St W0 w' K' L := by
  obtain ⟨sb, hsb⟩ : ∃ b, w.heap.size = b := ⟨_, rfl⟩
  obtain ⟨rd, hrd⟩ : ∃ b, sb + 1 = b := ⟨_, rfl⟩
  have g1 := (h.allocRaw #[.slice none 0 0, .int .i64 0, .slice none 0 0] 25).allocRaw #[.slice none 0 0, .int .i64 (-1), .slice none 0 0] 65
  simp only [World.size_alloc, hsb, hrd] at g1
  have H := Lib.hid g1
  have HLIB := Lib.hid hlib
  clear h g1 hlib
  go_enter Tryd.func10, Tryd.ntmps10
  go_wp2_with fail
  go_loopw [0, 5] (fun tv nv wr => ∃ (K' : Know), Hid (K'.has K) ∧ ((tv = .string (bb [99, 117, 116, 32, 53, 10, 98, 97, 116, 99, 104, 32, 48, 32, 45, 49, 32, 48, 32, 48, 32, 48, 32, 45, 49, 32, 45, 49, 32, 45, 49, 32, 45, 10]) ∧ nv = .int .i64 1 ∧ St W0 wr K' (.raw rd #[.slice none 0 0, .int .i64 (-1), .slice none 0 0] 65 :: .raw sb #[.slice none 0 0, .int .i64 0, .slice none 0 0] 25 :: L)) ∨ (tv = .string (bb [98, 97, 116, 99, 104, 32, 48, 32, 45, 49, 32, 48, 32, 48, 32, 48, 32, 45, 49, 32, 45, 49, 32, 45, 49, 32, 45, 10]) ∧ nv = .int .i64 2 ∧ St W0 wr K' (.raw rd #[.slice none 0 0, .int .i64 5, .slice none 0 0] 65 :: .raw sb #[.slice none 0 0, .int .i64 0, .slice none 0 0] 25 :: L)))) (fun _ nv _ => 4 - (intOf nv).toNat)
  case atStart => exact ⟨K, Lib.hid (Know.has_refl _), .inl ⟨rfl, rfl, H.out⟩⟩
  case round =>
    obtain ⟨K', HKK, hd⟩ := hrel
    clear H
    have HLIB2 := Lib.hid (Know.has_trans HKK.out HLIB.out)
    rcases hd with ⟨rfl, rfl, hst⟩ | ⟨rfl, rfl, hst⟩
    · have H := Lib.hid hst
      clear hst
      go_wp2_with (first
    | (go_at_call 25; (with_reducible refine (sl_cutN [99, 117, 116, 32, 53, 10, 98, 97, 116, 99, 104, 32, 48, 32, 45, 49, 32, 48, 32, 48, 32, 48, 32, 45, 49, 32, 45, 49, 32, 45, 49, 32, 45, 10] [99, 117, 116, 32, 53] [98, 97, 116, 99, 104, 32, 48, 32, 45, 49, 32, 48, 32, 48, 32, 48, 32, 45, 49, 32, 45, 49, 32, 45, 49, 32, 45, 10] true kc3 (by decide) HLIB2.out H.out).mono ?_); rintro e_ wn ⟨rfl, h⟩; replace H := Lib.hid h; clear h)
    | (go_at_call 13; (with_reducible refine (sl_splitN [99, 117, 116, 32, 53] [[99, 117, 116], [53]] 2 rfl kwB (by decide) HLIB2.out H.out).mono ?_); rintro e_ wn ⟨wb, rfl, h⟩; have h := h.strs; have HKW := Lib.hid (Know.has_right (a := K') (Know.has_refl (Know.strs wb 0 [[99, 117, 116], [53]]))); have HLIB3 := Lib.hid (Know.has_left (b := Know.strs wb 0 [[99, 117, 116], [53]]) HLIB2.out); replace H := Lib.hid h; clear h)
    | (go_at_call 26; (with_reducible refine (rd_read_cut rd wb _ 5 [53] kn5 (by decide) (by decide) HLIB3.out HKW.out H.out).mono ?_); rintro e_ wn ⟨rfl, h⟩; replace H := Lib.hid h; clear h))
      go_roundw
      case rel => exact ⟨_, Lib.hid (Know.has_left HKK.out), .inr ⟨rfl, by go_num, H.out⟩⟩
      case measure => first | (simp [intOf]; done) | (simp [intOf]; omega)
    · have H := Lib.hid hst
      clear hst
      go_wp2_with (first
    | (go_at_call 25; (with_reducible refine (sl_cutN [98, 97, 116, 99, 104, 32, 48, 32, 45, 49, 32, 48, 32, 48, 32, 48, 32, 45, 49, 32, 45, 49, 32, 45, 49, 32, 45, 10] [98, 97, 116, 99, 104, 32, 48, 32, 45, 49, 32, 48, 32, 48, 32, 48, 32, 45, 49, 32, 45, 49, 32, 45, 49, 32, 45] [] true kc4 (by decide) HLIB2.out H.out).mono ?_); rintro e_ wn ⟨rfl, h⟩; replace H := Lib.hid h; clear h)
    | (go_at_call 13; (with_reducible refine (sl_splitN [98, 97, 116, 99, 104, 32, 48, 32, 45, 49, 32, 48, 32, 48, 32, 48, 32, 45, 49, 32, 45, 49, 32, 45, 49, 32, 45] [[98, 97, 116, 99, 104], [48], [45, 49], [48], [48], [48], [45, 49], [45, 49], [45, 49], [45]] 10 rfl kwA (by decide) HLIB2.out H.out).mono ?_); rintro e_ wn ⟨wb, rfl, h⟩; have h := h.strs; have HKW := Lib.hid (Know.has_right (a := K') (Know.has_refl (Know.strs wb 0 [[98, 97, 116, 99, 104], [48], [45, 49], [48], [48], [48], [45, 49], [45, 49], [45, 49], [45]]))); have HLIB3 := Lib.hid (Know.has_left (b := Know.strs wb 0 [[98, 97, 116, 99, 104], [48], [45, 49], [48], [48], [48], [45, 49], [45, 49], [45, 49], [45]]) HLIB2.out); have HKW2 := Lib.hid (show (K'.and (Know.strs wb 0 [[98, 97, 116, 99, 104], [48], [45, 49], [48], [48], [48], [45, 49], [45, 49], [45, 49], [45]])).has (Know.strs wb 0 ([98, 97, 116, 99, 104] :: ([[48], [45, 49], [48], [48], [48], [45, 49], [45, 49], [45, 49]] ++ [[45]]))) from HKW.out); replace H := Lib.hid h; clear h)
    | (go_at_call 26; (with_reducible refine (rd_read_no rd wb _ 5 ([[48], [45, 49], [48], [48], [48], [45, 49], [45, 49], [45, 49]] ++ [[45]]) (by decide) HLIB3.out HKW2.out H.out).mono ?_); rintro e_ wn ⟨rfl, h⟩; have e0 := (h.p1).rawCell 0; have e1 := (h.p1).rawCell 1; have e2 := (h.p1).rawCell 2; simp at e0 e1 e2; have r0 := (h.p1).rawFree 0; have r1 := (h.p1).rawFree 1; have r2 := (h.p1).rawFree 2; replace H := Lib.hid h; clear h))
      have hz : St W0 _ _ (.raw sb #[.slice none 0 0, .int .i64 0, .slice none 0 0] 25 :: _) := ((H.out.p1.rawSet 0 (.slice none 0 0)).rawSet 1 (.int .i64 0)).rawSet 2 (.slice none 0 0)
      refine bodyPost_ret (rc_cell_tmpS rfl _ _ sb [.slice none 0 0, .int .i64 0, .slice none 0 0] _ rfl (rc_rangeS hz) Tryd.underlying25 rfl (by kernel_rfl)) rfl ?_
      exact ⟨_, rfl, Know.has_left HKK.out, hz.drop.drop⟩

end Go.Proofs.YtenojajfacacoaaDoor
/- Bytes in words. -/
namespace Go.Proofs.YtenojajfacacoaaDoor
open Go.RowKit

set_option maxHeartbeats 4000000 in
set_option maxRecDepth 100000 in
theorem sc_hex (s : Bs) (hs : s.length ≤ 1000000) {W0 w : World} {K : Know} {L : List Res} (h : St W0 w K L) :
    Calls Tryd.prog 15 #[.string (bb s)] w fun en w' => en = .returned (.string (bb (hexW s))) ∧ St W0 w' K L := by
  by_cases h0 : s = []
  · subst h0
    have H := Lib.hid h
    clear h
    go_enter Tryd.func15, Tryd.ntmps15
    go_wp2
    go_ret
    exact ⟨rfl, H.out⟩
  have hw : hexW s = hexL s := by unfold hexW; rw [if_neg h0]
  rw [hw]
  have q3 : (s == []) = false := by rw [beq_eq_false_iff_ne]; exact h0
  have q4 : (s != []) = true := by simp [bne, q3]
  have hsl : (s.length : Int) ≤ 1000000 := by omega
  obtain ⟨b, hb⟩ : ∃ b, w.heap.size = b := ⟨_, rfl⟩
  have g1 := h.sbNew
  rw [hb] at g1
  have H := Lib.hid g1
  have HS := Lib.hid hs
  have H0 := Lib.hid h0
  clear h g1 hs h0 hw
  go_enter Tryd.func15, Tryd.ntmps15
  go_wp2_with fail
  go_loopw [9] (fun iv wr => ∃ k : Nat, k ≤ s.length ∧ iv = .int .i64 k ∧ St W0 wr K (.gen (sbG b (hexL (s.take k))) :: L)) (fun iv _ => s.length - (intOf iv).toNat)
  case atStart => exact ⟨0, Nat.zero_le _, rfl, H.out⟩
  case round =>
    obtain ⟨k, hk, rfl, hst⟩ := hrel
    clear H
    have H := Lib.hid hst
    clear hst
    by_cases hlt : k < s.length
    · have hlti : (k : Int) < (s.length : Int) := by omega
      obtain ⟨x, hx⟩ : ∃ x, s[k] = x := ⟨_, rfl⟩
      have q1 : 0 ≤ (((s[k]'hlt).toNat : Nat) : Int) / 16 ∧ (((s[k]'hlt).toNat : Nat) : Int) / 16 < 16 := by have := (s[k]'hlt).toNat_lt; omega
      have q2 : 0 ≤ (((s[k]'hlt).toNat : Nat) : Int) % 16 ∧ (((s[k]'hlt).toNat : Nat) : Int) % 16 < 16 := by omega
      have HLA := Lib.hid (show (hexL (s.take k)).length ≤ 1000000000000 by rw [hexL_len, List.length_take]; have := HS.out; omega)
      have HLB := Lib.hid (show (hexL (s.take k) ++ [hexD ((s[k]'hlt).toNat / 16)]).length ≤ 1000000000000 by rw [List.length_append, hexL_len, List.length_take]; have := HS.out; simp only [List.length_singleton]; omega)
      have HTK := Lib.hid (hexL_take s k hlt _ rfl)
      clear hx
      go_wp2_with (first
        | (go_at_call 35; (with_reducible refine (sb_byte b (hexL (s.take k)) _ HLA.out H.out).mono ?_); rintro e_ wn ⟨rfl, h⟩; rw [digA] at h; replace H := Lib.hid h; clear h)
        | (go_at_call 35; (with_reducible refine (sb_byte b (hexL (s.take k) ++ [hexD ((s[k]'hlt).toNat / 16)]) _ HLB.out H.out).mono ?_); rintro e_ wn ⟨rfl, h⟩; rw [digA] at h; have h : St W0 wn K (.gen (sbG b (hexL (s.take (k + 1)))) :: L) := (by rw [← HTK.out]; exact h); replace H := Lib.hid h; clear h))
      go_roundw
      case rel => exact ⟨k + 1, hlt, by go_num, H.out⟩
      case measure => first | (simp [intOf]; done) | (simp [intOf]; omega)
    · obtain rfl : k = s.length := by omega
      have HZ := Lib.hid (show hexL s ≠ [] from fun e => H0.out (List.eq_nil_of_length_eq_zero (by have := congrArg List.length e; rw [hexL_len] at this; simp only [List.length_nil] at this; omega)))
      have H2 := Lib.hid (show St W0 wr K (.gen (sbG b (hexL s)) :: L) by have h9 := H.out; rw [List.take_length] at h9; exact h9)
      clear H
      have H := H2
      clear H2
      go_wp2_with (go_at_call 24; (with_reducible refine (sb_text b (hexL s) HZ.out H.out).mono ?_); rintro e_ wn ⟨rfl, h⟩; replace H := Lib.hid h; clear h)
      go_ret
      exact ⟨rfl, H.out⟩

end Go.Proofs.YtenojajfacacoaaDoor
/- A script speaks. -/
namespace Go.Proofs.YtenojajfacacoaaDoor
open Go.RowKit

theorem sc_hex61 {W0 w : World} {K : Know} {L : List Res} (h : St W0 w K L) : Calls Tryd.prog 15 #[.string ⟨#[97]⟩] w fun en w' => en = .returned (.string ⟨#[54, 49]⟩) ∧ St W0 w' K L := sc_hex [97] (by decide) h
theorem parse_k1' {W0 w : World} {K : Know} {L : List Res} (hlib : K.has Know.lib) (h : St W0 w K L) :
    Calls Tryd.prog 10 #[.string ⟨#[98, 97, 116, 99, 104, 32, 48, 32, 45, 49, 32, 48, 32, 48, 32, 48, 32, 45, 49, 32, 45, 49, 32, 45, 49, 32, 45, 10, 99, 117, 116, 32, 53, 10]⟩] w fun en w' => ∃ (v : Value) (K' : Know), en = .returned (.tuple #[.agg #[v, .int .i64 5, .slice none 0 0], .int .i64 0]) ∧ K'.has K ∧ St W0 w' K' (.row v 45 12 1 [.int .i64 0, .int .i64 (-1), .bool false, .bool false, .bool false, .int .i64 0, .int .i64 0, .int .i64 0, .int .i64 (-1), .int .i64 (-1), .int .i64 (-1), .slice none 0 0] :: L) := parse_k1 hlib h
theorem parse_k2' {W0 w : World} {K : Know} {L : List Res} (hlib : K.has Know.lib) (h : St W0 w K L) :
    Calls Tryd.prog 10 #[.string ⟨#[99, 117, 116, 32, 53, 10, 98, 97, 116, 99, 104, 32, 48, 32, 45, 49, 32, 48, 32, 48, 32, 48, 32, 45, 49, 32, 45, 49, 32, 45, 49, 32, 45, 10]⟩] w fun en w' => ∃ K' : Know, en = .returned (.tuple #[.agg #[.slice none 0 0, .int .i64 0, .slice none 0 0], .int .i64 2]) ∧ K'.has K ∧ St W0 w' K' L := parse_k2 hlib h
set_option maxHeartbeats 4000000 in
set_option maxRecDepth 100000 in
theorem speaks25 {W0 w : World} {K : Know} {L : List Res} (hlib : K.has Know.lib) (h : St W0 w K L) :
    Calls Tryd.prog 6 #[] w fun en w' => ∃ K' : Know, en = .returned (.bool true) ∧ K'.has K ∧ St W0 w' K' L := by
  have H := Lib.hid h
  have HLIB := Lib.hid hlib
  clear h hlib
  go_enter Tryd.func6, Tryd.ntmps6
  go_wp2_with (first
    | (go_at_call 10; (with_reducible refine (parse_k1' HLIB.out H.out).mono ?_); rintro e_ wn ⟨v, K1, rfl, hkk, h⟩; have HK1 := Lib.hid hkk; clear hkk; obtain ⟨g, cv, hv⟩ := h.rowSlice (by decide); subst hv; obtain ⟨xb, hxb⟩ : ∃ y, wn.heap.size = y := ⟨_, rfl⟩; have h := h.allocRaw #[.slice (some ⟨g, 0, none⟩) 1 cv, .int .i64 5, .slice none 0 0] 25; rw [hxb] at h; have x0 := (h).rawCell 0; have x1 := (h).rawCell 1; have x2 := (h).rawCell 2; simp at x0 x1 x2; have z8 := h.p1.rowCell 8 (by decide); simp at z8; replace H := Lib.hid h; clear h)
    | (go_at_call 10; clear x0 x1 x2 z8; (with_reducible refine (parse_k2' (Know.has_trans HK1.out HLIB.out) H.out).mono ?_); rintro e_ wn ⟨K2, rfl, hkk, h⟩; have HK2 := Lib.hid hkk; clear hkk; obtain ⟨yb, hyb⟩ : ∃ y, wn.heap.size = y := ⟨_, rfl⟩; have h := h.allocRaw #[.slice none 0 0, .int .i64 0, .slice none 0 0] 25; rw [hyb] at h; have x0 := (h.p1).rawCell 0; have x1 := (h.p1).rawCell 1; have x2 := (h.p1).rawCell 2; simp at x0 x1 x2; have z8 := h.p2.rowCell 8 (by decide); simp at z8; replace H := Lib.hid h; clear h)
    | (go_at_call 15; (try clear x0 x1 x2 z8); (with_reducible refine (sc_hex61 H.out).mono ?_); rintro e_ wn ⟨rfl, h⟩; have x0 := (h.p1).rawCell 0; have x1 := (h.p1).rawCell 1; have x2 := (h.p1).rawCell 2; simp at x0 x1 x2; have z8 := h.p2.rowCell 8 (by decide); simp at z8; replace H := Lib.hid h; clear h))
  go_ret
  exact ⟨K2, rfl, Know.has_trans HK2.out HK1.out, H.out.drop.drop.drop⟩

end Go.Proofs.YtenojajfacacoaaDoor
/- Scripts that are none. -/
namespace Go.Proofs.YtenojajfacacoaaDoor
open Go.RowKit

set_option maxHeartbeats 4000000 in
set_option maxRecDepth 100000 in
theorem same_nil {W0 w : World} {K : Know} {L : List Res} (h : St W0 w K L) : Calls Tryd.prog 30 #[.slice none 0 0, .slice none 0 0] w fun en w' => en = .returned (.bool true) ∧ St W0 w' K L := by
  have H := Lib.hid h
  clear h
  go_enter Tryd.func30, Tryd.ntmps30
  go_wp2_with fail
  go_loopw [5] (fun iv wr => iv = .int .i64 0 ∧ St W0 wr K L) (fun _ _ => 0)
  case atStart => exact ⟨rfl, H.out⟩
  case round =>
    obtain ⟨rfl, hst⟩ := hrel
    clear H
    have H := Lib.hid hst
    clear hst
    go_wp2_with fail
    go_ret
    exact ⟨rfl, H.out⟩
set_option maxHeartbeats 4000000 in
set_option maxRecDepth 100000 in
theorem rows_nil {W0 w : World} {K : Know} {L : List Res} (h : St W0 w K L) : Calls Tryd.prog 31 #[.slice none 0 0, .slice none 0 0] w fun en w' => en = .returned (.bool true) ∧ St W0 w' K L := by
  have H := Lib.hid h
  clear h
  go_enter Tryd.func31, Tryd.ntmps31
  go_wp2_with fail
  go_loopw [5] (fun iv wr => iv = .int .i64 0 ∧ St W0 wr K L) (fun _ _ => 0)
  case atStart => exact ⟨rfl, H.out⟩
  case round =>
    obtain ⟨rfl, hst⟩ := hrel
    clear H
    have H := Lib.hid hst
    clear hst
    go_wp2_with fail
    go_ret
    exact ⟨rfl, H.out⟩
set_option maxHeartbeats 4000000 in
set_option maxRecDepth 100000 in
theorem same_zero {W0 w : World} {K : Know} {L : List Res} (h : St W0 w K L) : Calls Tryd.prog 12 #[.agg #[.slice none 0 0, .int .i64 0, .slice none 0 0], .agg #[.slice none 0 0, .int .i64 0, .slice none 0 0]] w fun en w' => en = .returned (.bool true) ∧ St W0 w' K L := by
  obtain ⟨xa, hxa⟩ : ∃ b, w.heap.size = b := ⟨_, rfl⟩
  obtain ⟨xb, hxb⟩ : ∃ b, xa + 1 = b := ⟨_, rfl⟩
  have g1 := (h.allocRaw #[.slice none 0 0, .int .i64 0, .slice none 0 0] 25).allocRaw #[.slice none 0 0, .int .i64 0, .slice none 0 0] 25
  simp only [World.size_alloc, hxa, hxb] at g1
  have c0 := (g1).rawCell 0; have c1 := (g1).rawCell 1; have c2 := (g1).rawCell 2; simp at c0 c1 c2
  have d0 := (g1.p1).rawCell 0; have d1 := (g1.p1).rawCell 1; have d2 := (g1.p1).rawCell 2; simp at d0 d1 d2
  have H := Lib.hid g1
  clear h g1
  go_enter Tryd.func12, Tryd.ntmps12
  go_wp2_with (first
    | (go_at_call 30; (with_reducible refine (same_nil H.out).mono ?_); rintro e_ wn ⟨rfl, h⟩; have c0 := (h).rawCell 0; have c1 := (h).rawCell 1; have c2 := (h).rawCell 2; simp at c0 c1 c2; have d0 := (h.p1).rawCell 0; have d1 := (h.p1).rawCell 1; have d2 := (h.p1).rawCell 2; simp at d0 d1 d2; replace H := Lib.hid h; clear h)
    | (go_at_call 31; (with_reducible refine (rows_nil H.out).mono ?_); rintro e_ wn ⟨rfl, h⟩; replace H := Lib.hid h; clear h))
  go_ret
  exact ⟨rfl, H.out.drop.drop⟩

end Go.Proofs.YtenojajfacacoaaDoor
/- Texts, read and told. -/
namespace Go.Proofs.YtenojajfacacoaaDoor
open Go.RowKit

set_option maxHeartbeats 8000000 in
set_option maxRecDepth 100000 in
theorem sp_long (text : Bs)  (hl : 4000 < text.length) {W0 w : World} {K : Know} (hlib : K.has Know.lib) (h : St W0 w K []) :
    Calls Tryd.prog 4 #[.string (bb text)] w fun en w' => en = .returned (.bool true) ∧ Below W0.heap.size W0 w' := by
  have H := Lib.hid h
  have HLIB := Lib.hid hlib
  have hl1 : 4000 < (text.length : Int) := by omega
  have hl2 : decide (4000 < (text.length : Int)) = true := decide_eq_true hl1
  clear h hlib hl
  go_enter Tryd.func4, Tryd.ntmps4
  go_wp2_with (first
    | (go_at_call 6; (with_reducible refine (speaks25 HLIB.out H.out).mono ?_); rintro e_ wn ⟨K1, rfl, hkk, h⟩; have HL1 := Lib.hid (Know.has_trans hkk HLIB.out); clear hkk; replace H := Lib.hid h; clear h))
  go_ret
  exact ⟨rfl, H.out.below⟩

set_option maxHeartbeats 8000000 in
set_option maxRecDepth 100000 in
theorem sp_good (text : Bs)  (hl : text.length ≤ 4000) (hb : badOf text = 0) {W0 w : World} {K : Know} (hlib : K.has Know.lib) (h : St W0 w K []) :
    Calls Tryd.prog 4 #[.string (bb text)] w fun en w' => en = .returned (.bool true) ∧ Below W0.heap.size W0 w' := by
  have H := Lib.hid h
  have HLIB := Lib.hid hlib
  have hl1 : ¬ 4000 < (text.length : Int) := by omega
  have hl2 : decide (4000 < (text.length : Int)) = false := decide_eq_false hl1
  have HTL := Lib.hid (show text.length ≤ 5000 by omega)
  have HB := Lib.hid hb
  have e1 : (text == text) = true := by simp
  clear h hlib hl hb
  go_enter Tryd.func4, Tryd.ntmps4
  go_wp2_with (first
    | (go_at_call 6; (with_reducible refine (speaks25 HLIB.out H.out).mono ?_); rintro e_ wn ⟨K1, rfl, hkk, h⟩; have HL1 := Lib.hid (Know.has_trans hkk HLIB.out); clear hkk; replace H := Lib.hid h; clear h)
    | (go_at_call 10; (with_reducible refine (parse_good _ text rfl HTL.out HB.out HL1.out H.out).mono ?_); rintro e_ wn ⟨K2, l, c, ch, vB, q, cap, rfl, hkk, hkb, hkc, hS, hc, hcr, hchr, hfine, h⟩; have HL2 := Lib.hid (Know.has_trans hkk HL1.out); have HKB := Lib.hid hkb; have HKC := Lib.hid hkc; have HS := Lib.hid hS; have HC := Lib.hid hc; have HCR := Lib.hid hcr; have HCHR := Lib.hid hchr; have HFN := Lib.hid hfine; obtain ⟨qb, bcap, hvB⟩ := fl_form (btrs_flat hkb) h; subst hvB; clear hkk hkb hkc hS hc hcr hchr hfine; obtain ⟨xb, hxb⟩ : ∃ y, wn.heap.size = y := ⟨_, rfl⟩; have h := h.allocRaw #[.slice qb l.length bcap, .int .i64 c, .slice q ch.length cap] 25; rw [hxb] at h; have x0 := (h).rawCell 0; have x1 := (h).rawCell 1; have x2 := (h).rawCell 2; simp at x0 x1 x2; replace H := Lib.hid h; clear h)
    | (go_at_call 8; (with_reducible refine (rs_mayE text _ c q cap ch l HS.out HTL.out HC.out HFN.out HKB.out H.out).mono ?_); rintro e_ wn ⟨rfl, h⟩; have x0 := (h).rawCell 0; have x1 := (h).rawCell 1; have x2 := (h).rawCell 2; simp at x0 x1 x2; replace H := Lib.hid h; clear h)
    | (go_at_call 11; (with_reducible refine (rs_printE text _ c q cap ch l HS.out HTL.out HCR.out HCHR.out HFN.out HKB.out HKC.out H.out).mono ?_); rintro e_ wn ⟨rfl, h⟩; replace H := Lib.hid h; clear h))
  go_ret
  exact ⟨rfl, H.out.below⟩

end Go.Proofs.YtenojajfacacoaaDoor
/- Texts that end at once. -/
namespace Go.Proofs.YtenojajfacacoaaDoor
open Go.RowKit

set_option maxHeartbeats 8000000 in
set_option maxRecDepth 100000 in
theorem sp_one (text : Bs) (j N a : Nat) (line ahead t3 : Bs) (hl : text.length ≤ 4000) (hb : badOf text = j + 1) (hN : (partsC 10 text).length = N) (hj : j < N) (hx : (partsC 10 text)[j]? = some line) (ha : linesT ((partsC 10 text).take j) = ahead) (hg : badOf ahead = 0) (hal : t3.length ≤ text.length + 1) (ht3 : ahead ++ line ++ [10] = t3) (ha3 : badOf t3 = a) (hae : a = j + 1) (hj0 : j = 0) {W0 w : World} {K : Know} (hlib : K.has Know.lib) (h : St W0 w K []) :
    Calls Tryd.prog 4 #[.string (bb text)] w fun en w' => en = .returned (.bool true) ∧ Below W0.heap.size W0 w' := by
  have H := Lib.hid h
  have HLIB := Lib.hid hlib
  have hl1 : ¬ 4000 < (text.length : Int) := by omega
  have hl2 : decide (4000 < (text.length : Int)) = false := decide_eq_false hl1
  have HTL := Lib.hid (show text.length ≤ 5000 by omega)
  have HB := Lib.hid hb
  have HBP := Lib.hid (show 0 < j + 1 from Nat.succ_pos j)
  have HN := Lib.hid hN
  have HX := Lib.hid hx
  have HG := Lib.hid hg
  have HA3 := Lib.hid ha3
  have ht4 := congrArg List.length ht3
  simp only [List.length_append, List.length_cons, List.length_nil] at ht4
  have HAL := Lib.hid (show ahead.length ≤ 5000 by omega)
  have HT3L := Lib.hid (show t3.length ≤ 5000 by omega)
  obtain ⟨bad, hbad⟩ : ∃ bad, j + 1 = bad := ⟨_, rfl⟩
  rw [hbad] at HB HBP
  have b1 : ((bad : Int) == 0) = false := by rw [beq_eq_false_iff_ne]; omega
  have b2 : ¬ ((bad : Int) < 1) := by omega
  have b3 : decide ((bad : Int) < 1) = false := decide_eq_false b2
  have b4 : ¬ ((N : Int) < (bad : Int)) := by omega
  have b5 : decide ((N : Int) < (bad : Int)) = false := decide_eq_false b4
  have b6 : (bad : Int) - 1 = (j : Int) := by omega
  have b7 : (j : Int) < (N : Int) := by omega
  have b8 : (bad : Int) ≤ 1000000 := by have := (partsC_len 10 text).1; omega
  have b9 : (0 : Int) ≤ (j : Int) := by omega
  have e1 : (ahead == ahead) = true := by simp
  have e2 : (([] : Bs) == []) = true := rfl
  have p1 : ((0 : Int) == 0) = true := rfl
  have b10 : ¬ (1 : Int) < (bad : Int) := by omega
  have b11 : decide ((1 : Int) < (bad : Int)) = false := decide_eq_false b10
  have c1 : ((a : Int) == (bad : Int)) = true := by rw [beq_iff_eq]; omega
  have ha0 : ahead = [] := by rw [← ha, hj0]; rfl
  subst ha0
  have k2 : (⟨#[]⟩ : ByteArray) ++ bb line = bb line := by rw [show (⟨#[]⟩ : ByteArray) = bb [] from rfl]; exact bb_append [] line
  have k3 : bb line ++ (⟨#[10]⟩ : ByteArray) = bb t3 := by rw [← ht3]; exact bb_append line [10]
  have g2 : ¬ (9223372036854775807 < line.length) := by omega
  have g3 : ¬ (9223372036854775807 < line.length + 1) := by omega
  have tk1 : True := trivial
  clear h hlib hl hb hN hj hx ha hg hal ha3 ht4 hj0 hbad hae ht3
  go_enter Tryd.func4, Tryd.ntmps4
  go_wp2_with (first
    | (go_at_call 6; (with_reducible refine (speaks25 HLIB.out H.out).mono ?_); rintro e_ wn ⟨K1, rfl, hkk, h⟩; have HL1 := Lib.hid (Know.has_trans hkk HLIB.out); clear hkk; replace H := Lib.hid h; clear h)
    | (go_at_call 10; (with_reducible refine (parse_ends _ text bad rfl HTL.out HB.out HBP.out HL1.out H.out).mono ?_); rintro e_ wn ⟨K2, rfl, hkk, h⟩; have HL2 := Lib.hid (Know.has_trans hkk HL1.out); clear hkk; obtain ⟨xb, hxb⟩ : ∃ y, wn.heap.size = y := ⟨_, rfl⟩; have h := h.allocRaw #[.slice none 0 0, .int .i64 0, .slice none 0 0] 25; rw [hxb] at h; have x0 := (h).rawCell 0; have x1 := (h).rawCell 1; have x2 := (h).rawCell 2; simp at x0 x1 x2; replace H := Lib.hid h; clear h)
    | (go_at_call 13; (with_reducible refine (sl_splitNL text (partsC 10 text) N HN.out rfl (by have := HTL.out; omega) HL2.out H.out).mono ?_); rintro e_ wn ⟨lb, rfl, h⟩; have h := h.strs; have HL3 := Lib.hid (Know.has_left (b := Know.strs lb 0 (partsC 10 text)) HL2.out); have HKW := Lib.hid (Know.has_right (a := K2) (Know.has_refl (Know.strs lb 0 (partsC 10 text)))); have x0 := (h).rawCell 0; have x1 := (h).rawCell 1; have x2 := (h).rawCell 2; simp at x0 x1 x2; replace H := Lib.hid h; clear h)
    | (go_at_call 12; (with_reducible refine (same_zero H.out).mono ?_); rintro e_ wn ⟨rfl, h⟩; (try clear x0 x1 x2); replace H := Lib.hid h; clear h)
    | (go_at_call 10; have _t := tk1; clear _t; (with_reducible refine (parse_good _ [] bb_nil0 HAL.out HG.out HL3.out H.out).mono ?_); rintro e_ wn ⟨K3, l, c, ch, vB, q, cap, rfl, hkk, hkb, hkc, hS, hc, hcr, hchr, hfine, h⟩; have HK3 := Lib.hid hkk; have HL4 := Lib.hid (Know.has_trans hkk HL3.out); have HKB := Lib.hid hkb; have HKC := Lib.hid hkc; have HS := Lib.hid hS; have HC := Lib.hid hc; have HCR := Lib.hid hcr; have HCHR := Lib.hid hchr; have HFN := Lib.hid hfine; obtain ⟨qb, bcap, hvB⟩ := fl_form (btrs_flat hkb) h; subst hvB; clear hkk hkb hkc hS hc hcr hchr hfine; obtain ⟨yb, hyb⟩ : ∃ y, wn.heap.size = y := ⟨_, rfl⟩; have h := h.allocRaw #[.slice qb l.length bcap, .int .i64 c, .slice q ch.length cap] 25; rw [hyb] at h; have y0 := (h).rawCell 0; have y1 := (h).rawCell 1; have y2 := (h).rawCell 2; simp at y0 y1 y2; have l0 := strs_fact (Know.has_trans HK3.out HKW.out) j line HX.out _ _ h; simp only [Nat.zero_add] at l0; replace H := Lib.hid h; clear h; clear tk1)
    | (go_at_call 10; clear y0 y1 y2 l0; (with_reducible refine (parse_val _ t3 a rfl HT3L.out HA3.out HL4.out H.out).mono ?_); rintro e_ wn ⟨K4, v0, n3, cp3, pp3, c3, q3, m3, cap3, rfl, hkk, h⟩; have HK4 := Lib.hid hkk; clear hkk; obtain ⟨zb, hzb⟩ : ∃ y, wn.heap.size = y := ⟨_, rfl⟩; have h := h.allocRaw #[.slice pp3 n3 cp3, .int .i64 c3, .slice q3 m3 cap3] 25; rw [hzb] at h; have y0 := (h.p1).rawCell 0; have y1 := (h.p1).rawCell 1; have y2 := (h.p1).rawCell 2; simp at y0 y1 y2; replace H := Lib.hid h; clear h)
    | (go_at_call 11; (with_reducible refine (rs_printE [] _ c q cap ch l HS.out HAL.out HCR.out HCHR.out HFN.out (Know.has_trans HK4.out HKB.out) (Know.has_trans HK4.out HKC.out) H.out).mono ?_); rintro e_ wn ⟨rfl, h⟩; replace H := Lib.hid h; clear h))
  go_ret
  exact ⟨rfl, H.out.below⟩

end Go.Proofs.YtenojajfacacoaaDoor
/- Texts that end. -/
namespace Go.Proofs.YtenojajfacacoaaDoor
open Go.RowKit

set_option maxHeartbeats 8000000 in
set_option maxRecDepth 100000 in
theorem sp_more (text : Bs) (j N a : Nat) (line ahead t3 : Bs) (hl : text.length ≤ 4000) (hb : badOf text = j + 1) (hN : (partsC 10 text).length = N) (hj : j < N) (hx : (partsC 10 text)[j]? = some line) (ha : linesT ((partsC 10 text).take j) = ahead) (hg : badOf ahead = 0) (hal : t3.length ≤ text.length + 1) (ht3 : ahead ++ line ++ [10] = t3) (ha3 : badOf t3 = a) (hae : a = j + 1) (hj0 : 0 < j) {W0 w : World} {K : Know} (hlib : K.has Know.lib) (h : St W0 w K []) :
    Calls Tryd.prog 4 #[.string (bb text)] w fun en w' => en = .returned (.bool true) ∧ Below W0.heap.size W0 w' := by
  have H := Lib.hid h
  have HLIB := Lib.hid hlib
  have hl1 : ¬ 4000 < (text.length : Int) := by omega
  have hl2 : decide (4000 < (text.length : Int)) = false := decide_eq_false hl1
  have HTL := Lib.hid (show text.length ≤ 5000 by omega)
  have HB := Lib.hid hb
  have HBP := Lib.hid (show 0 < j + 1 from Nat.succ_pos j)
  have HN := Lib.hid hN
  have HX := Lib.hid hx
  have HG := Lib.hid hg
  have HA3 := Lib.hid ha3
  have ht4 := congrArg List.length ht3
  simp only [List.length_append, List.length_cons, List.length_nil] at ht4
  have HAL := Lib.hid (show ahead.length ≤ 5000 by omega)
  have HT3L := Lib.hid (show t3.length ≤ 5000 by omega)
  obtain ⟨bad, hbad⟩ : ∃ bad, j + 1 = bad := ⟨_, rfl⟩
  rw [hbad] at HB HBP
  have b1 : ((bad : Int) == 0) = false := by rw [beq_eq_false_iff_ne]; omega
  have b2 : ¬ ((bad : Int) < 1) := by omega
  have b3 : decide ((bad : Int) < 1) = false := decide_eq_false b2
  have b4 : ¬ ((N : Int) < (bad : Int)) := by omega
  have b5 : decide ((N : Int) < (bad : Int)) = false := decide_eq_false b4
  have b6 : (bad : Int) - 1 = (j : Int) := by omega
  have b7 : (j : Int) < (N : Int) := by omega
  have b8 : (bad : Int) ≤ 1000000 := by have := (partsC_len 10 text).1; omega
  have b9 : (0 : Int) ≤ (j : Int) := by omega
  have e1 : (ahead == ahead) = true := by simp
  have e2 : (([] : Bs) == []) = true := rfl
  have p1 : ((0 : Int) == 0) = true := rfl
  have b10 : (1 : Int) < (bad : Int) := by omega
  have b11 : decide ((1 : Int) < (bad : Int)) = true := decide_eq_true b10
  have c1 : ((a : Int) == (bad : Int)) = true := by rw [beq_iff_eq]; omega
  obtain ⟨t1, ht1⟩ : ∃ t1, Lib.join ((partsC 10 text).take j) [10] = t1 := ⟨_, rfl⟩
  have hta : t1 ++ [10] = ahead := by
    rw [← ht1, ← ha]
    exact join_lines _ (by intro h0; have := congrArg List.length h0; rw [List.length_take] at this; simp only [List.length_nil] at this; omega)
  have hta2 := congrArg List.length hta
  simp only [List.length_append, List.length_cons, List.length_nil] at hta2
  have HT1 := Lib.hid ht1
  have HT1L := Lib.hid (show t1.length ≤ 1000000 by omega)
  have HTJ := Lib.hid (show j = ((partsC 10 text).take j).length by rw [List.length_take]; omega)
  have HJN := Lib.hid (show j ≤ N by omega)
  have HTJL := Lib.hid (show ((partsC 10 text).take j).length ≤ 1000000 by rw [List.length_take]; omega)
  have k1 : bb t1 ++ (⟨#[10]⟩ : ByteArray) = bb ahead := by rw [← hta]; exact bb_append t1 [10]
  have g1 : ¬ (9223372036854775807 < t1.length + 1) := by omega
  obtain ⟨t2, ht2⟩ : ∃ t2, ahead ++ line = t2 := ⟨_, rfl⟩
  have k2 : bb ahead ++ bb line = bb t2 := by rw [← ht2]; exact bb_append _ _
  have k3 : bb t2 ++ (⟨#[10]⟩ : ByteArray) = bb t3 := by rw [← ht3, ← ht2]; exact bb_append _ _
  have ht5 := congrArg List.length ht2
  rw [List.length_append] at ht5
  have g2 : ¬ (9223372036854775807 < ahead.length + line.length) := by omega
  have g3 : ¬ (9223372036854775807 < t2.length + 1) := by omega
  have tk1 : True := trivial
  clear h hlib hl hb hN hj hx ha hg hal ha3 ht4 hj0 hbad hae ht3 ht1 hta hta2 ht2 ht5
  go_enter Tryd.func4, Tryd.ntmps4
  go_wp2_with (first
    | (go_at_call 6; (with_reducible refine (speaks25 HLIB.out H.out).mono ?_); rintro e_ wn ⟨K1, rfl, hkk, h⟩; have HL1 := Lib.hid (Know.has_trans hkk HLIB.out); clear hkk; replace H := Lib.hid h; clear h)
    | (go_at_call 10; (with_reducible refine (parse_ends _ text bad rfl HTL.out HB.out HBP.out HL1.out H.out).mono ?_); rintro e_ wn ⟨K2, rfl, hkk, h⟩; have HL2 := Lib.hid (Know.has_trans hkk HL1.out); clear hkk; obtain ⟨xb, hxb⟩ : ∃ y, wn.heap.size = y := ⟨_, rfl⟩; have h := h.allocRaw #[.slice none 0 0, .int .i64 0, .slice none 0 0] 25; rw [hxb] at h; have x0 := (h).rawCell 0; have x1 := (h).rawCell 1; have x2 := (h).rawCell 2; simp at x0 x1 x2; replace H := Lib.hid h; clear h)
    | (go_at_call 13; (with_reducible refine (sl_splitNL text (partsC 10 text) N HN.out rfl (by have := HTL.out; omega) HL2.out H.out).mono ?_); rintro e_ wn ⟨lb, rfl, h⟩; have h := h.strs; have HL3 := Lib.hid (Know.has_left (b := Know.strs lb 0 (partsC 10 text)) HL2.out); have HKW := Lib.hid (Know.has_right (a := K2) (Know.has_refl (Know.strs lb 0 (partsC 10 text)))); have x0 := (h).rawCell 0; have x1 := (h).rawCell 1; have x2 := (h).rawCell 2; simp at x0 x1 x2; replace H := Lib.hid h; clear h)
    | (go_at_call 12; (with_reducible refine (same_zero H.out).mono ?_); rintro e_ wn ⟨rfl, h⟩; (try clear x0 x1 x2); replace H := Lib.hid h; clear h)
    | (go_at_call 14; (with_reducible refine (sl_join ((partsC 10 text).take j) t1 lb j N HTJ.out HJN.out HTJL.out HT1.out HT1L.out (strs_take HKW.out j) H.out).mono ?_); rintro e_ wn ⟨rfl, h⟩; replace H := Lib.hid h; clear h)
    | (go_at_call 10; have _t := tk1; clear _t; (with_reducible refine (parse_good _ ahead rfl HAL.out HG.out HL3.out H.out).mono ?_); rintro e_ wn ⟨K3, l, c, ch, vB, q, cap, rfl, hkk, hkb, hkc, hS, hc, hcr, hchr, hfine, h⟩; have HK3 := Lib.hid hkk; have HL4 := Lib.hid (Know.has_trans hkk HL3.out); have HKB := Lib.hid hkb; have HKC := Lib.hid hkc; have HS := Lib.hid hS; have HC := Lib.hid hc; have HCR := Lib.hid hcr; have HCHR := Lib.hid hchr; have HFN := Lib.hid hfine; obtain ⟨qb, bcap, hvB⟩ := fl_form (btrs_flat hkb) h; subst hvB; clear hkk hkb hkc hS hc hcr hchr hfine; obtain ⟨yb, hyb⟩ : ∃ y, wn.heap.size = y := ⟨_, rfl⟩; have h := h.allocRaw #[.slice qb l.length bcap, .int .i64 c, .slice q ch.length cap] 25; rw [hyb] at h; have y0 := (h).rawCell 0; have y1 := (h).rawCell 1; have y2 := (h).rawCell 2; simp at y0 y1 y2; have l0 := strs_fact (Know.has_trans HK3.out HKW.out) j line HX.out _ _ h; simp only [Nat.zero_add] at l0; replace H := Lib.hid h; clear h; clear tk1)
    | (go_at_call 10; clear y0 y1 y2 l0; (with_reducible refine (parse_val _ t3 a rfl HT3L.out HA3.out HL4.out H.out).mono ?_); rintro e_ wn ⟨K4, v0, n3, cp3, pp3, c3, q3, m3, cap3, rfl, hkk, h⟩; have HK4 := Lib.hid hkk; clear hkk; obtain ⟨zb, hzb⟩ : ∃ y, wn.heap.size = y := ⟨_, rfl⟩; have h := h.allocRaw #[.slice pp3 n3 cp3, .int .i64 c3, .slice q3 m3 cap3] 25; rw [hzb] at h; have y0 := (h.p1).rawCell 0; have y1 := (h.p1).rawCell 1; have y2 := (h.p1).rawCell 2; simp at y0 y1 y2; replace H := Lib.hid h; clear h)
    | (go_at_call 11; (with_reducible refine (rs_printE ahead _ c q cap ch l HS.out HAL.out HCR.out HCHR.out HFN.out (Know.has_trans HK4.out HKB.out) (Know.has_trans HK4.out HKC.out) H.out).mono ?_); rintro e_ wn ⟨rfl, h⟩; replace H := Lib.hid h; clear h))
  go_ret
  exact ⟨rfl, H.out.below⟩

end Go.Proofs.YtenojajfacacoaaDoor
/- Texts that end at once, at their end. -/
namespace Go.Proofs.YtenojajfacacoaaDoor
open Go.RowKit

set_option maxHeartbeats 8000000 in
set_option maxRecDepth 100000 in
theorem sp_oneL (text : Bs) (j N a : Nat) (line ahead t3 : Bs) (hl : text.length ≤ 4000) (hb : badOf text = j + 1) (hN : (partsC 10 text).length = N) (hj : j < N) (hx : (partsC 10 text)[j]? = some line) (ha : linesT ((partsC 10 text).take j) = ahead) (hg : badOf ahead = 0) (hal : t3.length ≤ text.length + 1) (ht3 : ahead ++ line ++ [10] = t3) (ha3 : badOf t3 = a) (hjn : j + 1 = N) (hne : a ≠ j + 1) (hj0 : j = 0) {W0 w : World} {K : Know} (hlib : K.has Know.lib) (h : St W0 w K []) :
    Calls Tryd.prog 4 #[.string (bb text)] w fun en w' => en = .returned (.bool true) ∧ Below W0.heap.size W0 w' := by
  have H := Lib.hid h
  have HLIB := Lib.hid hlib
  have hl1 : ¬ 4000 < (text.length : Int) := by omega
  have hl2 : decide (4000 < (text.length : Int)) = false := decide_eq_false hl1
  have HTL := Lib.hid (show text.length ≤ 5000 by omega)
  have HB := Lib.hid hb
  have HBP := Lib.hid (show 0 < j + 1 from Nat.succ_pos j)
  have HN := Lib.hid hN
  have HX := Lib.hid hx
  have HG := Lib.hid hg
  have HA3 := Lib.hid ha3
  have ht4 := congrArg List.length ht3
  simp only [List.length_append, List.length_cons, List.length_nil] at ht4
  have HAL := Lib.hid (show ahead.length ≤ 5000 by omega)
  have HT3L := Lib.hid (show t3.length ≤ 5000 by omega)
  obtain ⟨bad, hbad⟩ : ∃ bad, j + 1 = bad := ⟨_, rfl⟩
  rw [hbad] at HB HBP
  have b1 : ((bad : Int) == 0) = false := by rw [beq_eq_false_iff_ne]; omega
  have b2 : ¬ ((bad : Int) < 1) := by omega
  have b3 : decide ((bad : Int) < 1) = false := decide_eq_false b2
  have b4 : ¬ ((N : Int) < (bad : Int)) := by omega
  have b5 : decide ((N : Int) < (bad : Int)) = false := decide_eq_false b4
  have b6 : (bad : Int) - 1 = (j : Int) := by omega
  have b7 : (j : Int) < (N : Int) := by omega
  have b8 : (bad : Int) ≤ 1000000 := by have := (partsC_len 10 text).1; omega
  have b9 : (0 : Int) ≤ (j : Int) := by omega
  have e1 : (ahead == ahead) = true := by simp
  have e2 : (([] : Bs) == []) = true := rfl
  have p1 : ((0 : Int) == 0) = true := rfl
  have b10 : ¬ (1 : Int) < (bad : Int) := by omega
  have b11 : decide ((1 : Int) < (bad : Int)) = false := decide_eq_false b10
  have c1 : ((a : Int) == (bad : Int)) = false := by rw [beq_eq_false_iff_ne]; omega
  have c2 : ((bad : Int) == (N : Int)) = true := by rw [beq_iff_eq]; omega
  have ha0 : ahead = [] := by rw [← ha, hj0]; rfl
  subst ha0
  have k2 : (⟨#[]⟩ : ByteArray) ++ bb line = bb line := by rw [show (⟨#[]⟩ : ByteArray) = bb [] from rfl]; exact bb_append [] line
  have k3 : bb line ++ (⟨#[10]⟩ : ByteArray) = bb t3 := by rw [← ht3]; exact bb_append line [10]
  have g2 : ¬ (9223372036854775807 < line.length) := by omega
  have g3 : ¬ (9223372036854775807 < line.length + 1) := by omega
  have tk1 : True := trivial
  clear h hlib hl hb hN hj hx ha hg hal ha3 ht4 hj0 hbad hjn hne ht3
  go_enter Tryd.func4, Tryd.ntmps4
  go_wp2_with (first
    | (go_at_call 6; (with_reducible refine (speaks25 HLIB.out H.out).mono ?_); rintro e_ wn ⟨K1, rfl, hkk, h⟩; have HL1 := Lib.hid (Know.has_trans hkk HLIB.out); clear hkk; replace H := Lib.hid h; clear h)
    | (go_at_call 10; (with_reducible refine (parse_ends _ text bad rfl HTL.out HB.out HBP.out HL1.out H.out).mono ?_); rintro e_ wn ⟨K2, rfl, hkk, h⟩; have HL2 := Lib.hid (Know.has_trans hkk HL1.out); clear hkk; obtain ⟨xb, hxb⟩ : ∃ y, wn.heap.size = y := ⟨_, rfl⟩; have h := h.allocRaw #[.slice none 0 0, .int .i64 0, .slice none 0 0] 25; rw [hxb] at h; have x0 := (h).rawCell 0; have x1 := (h).rawCell 1; have x2 := (h).rawCell 2; simp at x0 x1 x2; replace H := Lib.hid h; clear h)
    | (go_at_call 13; (with_reducible refine (sl_splitNL text (partsC 10 text) N HN.out rfl (by have := HTL.out; omega) HL2.out H.out).mono ?_); rintro e_ wn ⟨lb, rfl, h⟩; have h := h.strs; have HL3 := Lib.hid (Know.has_left (b := Know.strs lb 0 (partsC 10 text)) HL2.out); have HKW := Lib.hid (Know.has_right (a := K2) (Know.has_refl (Know.strs lb 0 (partsC 10 text)))); have x0 := (h).rawCell 0; have x1 := (h).rawCell 1; have x2 := (h).rawCell 2; simp at x0 x1 x2; replace H := Lib.hid h; clear h)
    | (go_at_call 12; (with_reducible refine (same_zero H.out).mono ?_); rintro e_ wn ⟨rfl, h⟩; (try clear x0 x1 x2); replace H := Lib.hid h; clear h)
    | (go_at_call 10; have _t := tk1; clear _t; (with_reducible refine (parse_good _ [] bb_nil0 HAL.out HG.out HL3.out H.out).mono ?_); rintro e_ wn ⟨K3, l, c, ch, vB, q, cap, rfl, hkk, hkb, hkc, hS, hc, hcr, hchr, hfine, h⟩; have HK3 := Lib.hid hkk; have HL4 := Lib.hid (Know.has_trans hkk HL3.out); have HKB := Lib.hid hkb; have HKC := Lib.hid hkc; have HS := Lib.hid hS; have HC := Lib.hid hc; have HCR := Lib.hid hcr; have HCHR := Lib.hid hchr; have HFN := Lib.hid hfine; obtain ⟨qb, bcap, hvB⟩ := fl_form (btrs_flat hkb) h; subst hvB; clear hkk hkb hkc hS hc hcr hchr hfine; obtain ⟨yb, hyb⟩ : ∃ y, wn.heap.size = y := ⟨_, rfl⟩; have h := h.allocRaw #[.slice qb l.length bcap, .int .i64 c, .slice q ch.length cap] 25; rw [hyb] at h; have y0 := (h).rawCell 0; have y1 := (h).rawCell 1; have y2 := (h).rawCell 2; simp at y0 y1 y2; have l0 := strs_fact (Know.has_trans HK3.out HKW.out) j line HX.out _ _ h; simp only [Nat.zero_add] at l0; replace H := Lib.hid h; clear h; clear tk1)
    | (go_at_call 10; clear y0 y1 y2 l0; (with_reducible refine (parse_val _ t3 a rfl HT3L.out HA3.out HL4.out H.out).mono ?_); rintro e_ wn ⟨K4, v0, n3, cp3, pp3, c3, q3, m3, cap3, rfl, hkk, h⟩; have HK4 := Lib.hid hkk; clear hkk; obtain ⟨zb, hzb⟩ : ∃ y, wn.heap.size = y := ⟨_, rfl⟩; have h := h.allocRaw #[.slice pp3 n3 cp3, .int .i64 c3, .slice q3 m3 cap3] 25; rw [hzb] at h; have y0 := (h.p1).rawCell 0; have y1 := (h.p1).rawCell 1; have y2 := (h.p1).rawCell 2; simp at y0 y1 y2; replace H := Lib.hid h; clear h)
    | (go_at_call 11; (with_reducible refine (rs_printE [] _ c q cap ch l HS.out HAL.out HCR.out HCHR.out HFN.out (Know.has_trans HK4.out HKB.out) (Know.has_trans HK4.out HKC.out) H.out).mono ?_); rintro e_ wn ⟨rfl, h⟩; replace H := Lib.hid h; clear h))
  go_ret
  exact ⟨rfl, H.out.below⟩

end Go.Proofs.YtenojajfacacoaaDoor
/- Texts that end at their end. -/
namespace Go.Proofs.YtenojajfacacoaaDoor
open Go.RowKit

set_option maxHeartbeats 8000000 in
set_option maxRecDepth 100000 in
theorem sp_moreL (text : Bs) (j N a : Nat) (line ahead t3 : Bs) (hl : text.length ≤ 4000) (hb : badOf text = j + 1) (hN : (partsC 10 text).length = N) (hj : j < N) (hx : (partsC 10 text)[j]? = some line) (ha : linesT ((partsC 10 text).take j) = ahead) (hg : badOf ahead = 0) (hal : t3.length ≤ text.length + 1) (ht3 : ahead ++ line ++ [10] = t3) (ha3 : badOf t3 = a) (hjn : j + 1 = N) (hne : a ≠ j + 1) (hj0 : 0 < j) {W0 w : World} {K : Know} (hlib : K.has Know.lib) (h : St W0 w K []) :
    Calls Tryd.prog 4 #[.string (bb text)] w fun en w' => en = .returned (.bool true) ∧ Below W0.heap.size W0 w' := by
  have H := Lib.hid h
  have HLIB := Lib.hid hlib
  have hl1 : ¬ 4000 < (text.length : Int) := by omega
  have hl2 : decide (4000 < (text.length : Int)) = false := decide_eq_false hl1
  have HTL := Lib.hid (show text.length ≤ 5000 by omega)
  have HB := Lib.hid hb
  have HBP := Lib.hid (show 0 < j + 1 from Nat.succ_pos j)
  have HN := Lib.hid hN
  have HX := Lib.hid hx
  have HG := Lib.hid hg
  have HA3 := Lib.hid ha3
  have ht4 := congrArg List.length ht3
  simp only [List.length_append, List.length_cons, List.length_nil] at ht4
  have HAL := Lib.hid (show ahead.length ≤ 5000 by omega)
  have HT3L := Lib.hid (show t3.length ≤ 5000 by omega)
  obtain ⟨bad, hbad⟩ : ∃ bad, j + 1 = bad := ⟨_, rfl⟩
  rw [hbad] at HB HBP
  have b1 : ((bad : Int) == 0) = false := by rw [beq_eq_false_iff_ne]; omega
  have b2 : ¬ ((bad : Int) < 1) := by omega
  have b3 : decide ((bad : Int) < 1) = false := decide_eq_false b2
  have b4 : ¬ ((N : Int) < (bad : Int)) := by omega
  have b5 : decide ((N : Int) < (bad : Int)) = false := decide_eq_false b4
  have b6 : (bad : Int) - 1 = (j : Int) := by omega
  have b7 : (j : Int) < (N : Int) := by omega
  have b8 : (bad : Int) ≤ 1000000 := by have := (partsC_len 10 text).1; omega
  have b9 : (0 : Int) ≤ (j : Int) := by omega
  have e1 : (ahead == ahead) = true := by simp
  have e2 : (([] : Bs) == []) = true := rfl
  have p1 : ((0 : Int) == 0) = true := rfl
  have b10 : (1 : Int) < (bad : Int) := by omega
  have b11 : decide ((1 : Int) < (bad : Int)) = true := decide_eq_true b10
  have c1 : ((a : Int) == (bad : Int)) = false := by rw [beq_eq_false_iff_ne]; omega
  have c2 : ((bad : Int) == (N : Int)) = true := by rw [beq_iff_eq]; omega
  obtain ⟨t1, ht1⟩ : ∃ t1, Lib.join ((partsC 10 text).take j) [10] = t1 := ⟨_, rfl⟩
  have hta : t1 ++ [10] = ahead := by
    rw [← ht1, ← ha]
    exact join_lines _ (by intro h0; have := congrArg List.length h0; rw [List.length_take] at this; simp only [List.length_nil] at this; omega)
  have hta2 := congrArg List.length hta
  simp only [List.length_append, List.length_cons, List.length_nil] at hta2
  have HT1 := Lib.hid ht1
  have HT1L := Lib.hid (show t1.length ≤ 1000000 by omega)
  have HTJ := Lib.hid (show j = ((partsC 10 text).take j).length by rw [List.length_take]; omega)
  have HJN := Lib.hid (show j ≤ N by omega)
  have HTJL := Lib.hid (show ((partsC 10 text).take j).length ≤ 1000000 by rw [List.length_take]; omega)
  have k1 : bb t1 ++ (⟨#[10]⟩ : ByteArray) = bb ahead := by rw [← hta]; exact bb_append t1 [10]
  have g1 : ¬ (9223372036854775807 < t1.length + 1) := by omega
  obtain ⟨t2, ht2⟩ : ∃ t2, ahead ++ line = t2 := ⟨_, rfl⟩
  have k2 : bb ahead ++ bb line = bb t2 := by rw [← ht2]; exact bb_append _ _
  have k3 : bb t2 ++ (⟨#[10]⟩ : ByteArray) = bb t3 := by rw [← ht3, ← ht2]; exact bb_append _ _
  have ht5 := congrArg List.length ht2
  rw [List.length_append] at ht5
  have g2 : ¬ (9223372036854775807 < ahead.length + line.length) := by omega
  have g3 : ¬ (9223372036854775807 < t2.length + 1) := by omega
  have tk1 : True := trivial
  clear h hlib hl hb hN hj hx ha hg hal ha3 ht4 hj0 hbad hjn hne ht3 ht1 hta hta2 ht2 ht5
  go_enter Tryd.func4, Tryd.ntmps4
  go_wp2_with (first
    | (go_at_call 6; (with_reducible refine (speaks25 HLIB.out H.out).mono ?_); rintro e_ wn ⟨K1, rfl, hkk, h⟩; have HL1 := Lib.hid (Know.has_trans hkk HLIB.out); clear hkk; replace H := Lib.hid h; clear h)
    | (go_at_call 10; (with_reducible refine (parse_ends _ text bad rfl HTL.out HB.out HBP.out HL1.out H.out).mono ?_); rintro e_ wn ⟨K2, rfl, hkk, h⟩; have HL2 := Lib.hid (Know.has_trans hkk HL1.out); clear hkk; obtain ⟨xb, hxb⟩ : ∃ y, wn.heap.size = y := ⟨_, rfl⟩; have h := h.allocRaw #[.slice none 0 0, .int .i64 0, .slice none 0 0] 25; rw [hxb] at h; have x0 := (h).rawCell 0; have x1 := (h).rawCell 1; have x2 := (h).rawCell 2; simp at x0 x1 x2; replace H := Lib.hid h; clear h)
    | (go_at_call 13; (with_reducible refine (sl_splitNL text (partsC 10 text) N HN.out rfl (by have := HTL.out; omega) HL2.out H.out).mono ?_); rintro e_ wn ⟨lb, rfl, h⟩; have h := h.strs; have HL3 := Lib.hid (Know.has_left (b := Know.strs lb 0 (partsC 10 text)) HL2.out); have HKW := Lib.hid (Know.has_right (a := K2) (Know.has_refl (Know.strs lb 0 (partsC 10 text)))); have x0 := (h).rawCell 0; have x1 := (h).rawCell 1; have x2 := (h).rawCell 2; simp at x0 x1 x2; replace H := Lib.hid h; clear h)
    | (go_at_call 12; (with_reducible refine (same_zero H.out).mono ?_); rintro e_ wn ⟨rfl, h⟩; (try clear x0 x1 x2); replace H := Lib.hid h; clear h)
    | (go_at_call 14; (with_reducible refine (sl_join ((partsC 10 text).take j) t1 lb j N HTJ.out HJN.out HTJL.out HT1.out HT1L.out (strs_take HKW.out j) H.out).mono ?_); rintro e_ wn ⟨rfl, h⟩; replace H := Lib.hid h; clear h)
    | (go_at_call 10; have _t := tk1; clear _t; (with_reducible refine (parse_good _ ahead rfl HAL.out HG.out HL3.out H.out).mono ?_); rintro e_ wn ⟨K3, l, c, ch, vB, q, cap, rfl, hkk, hkb, hkc, hS, hc, hcr, hchr, hfine, h⟩; have HK3 := Lib.hid hkk; have HL4 := Lib.hid (Know.has_trans hkk HL3.out); have HKB := Lib.hid hkb; have HKC := Lib.hid hkc; have HS := Lib.hid hS; have HC := Lib.hid hc; have HCR := Lib.hid hcr; have HCHR := Lib.hid hchr; have HFN := Lib.hid hfine; obtain ⟨qb, bcap, hvB⟩ := fl_form (btrs_flat hkb) h; subst hvB; clear hkk hkb hkc hS hc hcr hchr hfine; obtain ⟨yb, hyb⟩ : ∃ y, wn.heap.size = y := ⟨_, rfl⟩; have h := h.allocRaw #[.slice qb l.length bcap, .int .i64 c, .slice q ch.length cap] 25; rw [hyb] at h; have y0 := (h).rawCell 0; have y1 := (h).rawCell 1; have y2 := (h).rawCell 2; simp at y0 y1 y2; have l0 := strs_fact (Know.has_trans HK3.out HKW.out) j line HX.out _ _ h; simp only [Nat.zero_add] at l0; replace H := Lib.hid h; clear h; clear tk1)
    | (go_at_call 10; clear y0 y1 y2 l0; (with_reducible refine (parse_val _ t3 a rfl HT3L.out HA3.out HL4.out H.out).mono ?_); rintro e_ wn ⟨K4, v0, n3, cp3, pp3, c3, q3, m3, cap3, rfl, hkk, h⟩; have HK4 := Lib.hid hkk; clear hkk; obtain ⟨zb, hzb⟩ : ∃ y, wn.heap.size = y := ⟨_, rfl⟩; have h := h.allocRaw #[.slice pp3 n3 cp3, .int .i64 c3, .slice q3 m3 cap3] 25; rw [hzb] at h; have y0 := (h.p1).rawCell 0; have y1 := (h.p1).rawCell 1; have y2 := (h.p1).rawCell 2; simp at y0 y1 y2; replace H := Lib.hid h; clear h)
    | (go_at_call 11; (with_reducible refine (rs_printE ahead _ c q cap ch l HS.out HAL.out HCR.out HCHR.out HFN.out (Know.has_trans HK4.out HKB.out) (Know.has_trans HK4.out HKC.out) H.out).mono ?_); rintro e_ wn ⟨rfl, h⟩; replace H := Lib.hid h; clear h))
  go_ret
  exact ⟨rfl, H.out.below⟩

end Go.Proofs.YtenojajfacacoaaDoor
/- Any text, read and told. -/
namespace Go.Proofs.YtenojajfacacoaaDoor
open Go.RowKit

theorem scriptParses_any (text : Bs) {W0 w : World} {K : Know} (hlib : K.has Know.lib) (h : St W0 w K []) :
    Calls Tryd.prog 4 #[.string (bb text)] w fun en w' => en = .returned (.bool true) ∧ Below W0.heap.size W0 w' := by
  by_cases hl : text.length ≤ 4000
  · by_cases hb : badOf text = 0
    · exact sp_good text hl hb hlib h
    · obtain ⟨j, line, h1, h2, h3, h4, h5, h6⟩ := badOf_ends text hb
      by_cases hae : badOf (linesT ((partsC 10 text).take j) ++ line ++ [10]) = j + 1
      · by_cases hj0 : j = 0
        · exact sp_one text j _ _ line _ _ hl h1 rfl h2 h3 rfl h4 h6 rfl rfl hae hj0 hlib h
        · exact sp_more text j _ _ line _ _ hl h1 rfl h2 h3 rfl h4 h6 rfl rfl hae (by omega) hlib h
      · have hjn := h5.resolve_right hae
        by_cases hj0 : j = 0
        · exact sp_oneL text j _ _ line _ _ hl h1 rfl h2 h3 rfl h4 h6 rfl rfl hjn hae hj0 hlib h
        · exact sp_moreL text j _ _ line _ _ hl h1 rfl h2 h3 rfl h4 h6 rfl rfl hjn hae (by omega) hlib h
  · exact sp_long text (by omega) hlib h

end Go.Proofs.YtenojajfacacoaaDoor
/- The library's variables, out of what the row lists. -/
namespace Go.Proofs.YtenojajfacacoaaDoor
open Go.ChangeShapes Go.WideShapes Go.ChangeAt Go.RowKit

theorem var?_block {P : Program} {W : World} {n : String} {cs : Array Value} {g : Nat} (h : W.var? P n = some cs) (hg : P.globalNamed n = some g) : ∃ T fz, W.heap[g]? = some (.cells cs T fz) := by
  unfold World.var? at h
  rw [hg, Option.bind_some] at h
  split at h
  · rename_i c T fz hb
    injection h with h
    subst h
    exact ⟨T, fz, hb⟩
  · cases h
theorem gPow : Tryd.prog.globalNamed "internal/strconv.uint64pow10" = some 1 := by kernel_rfl
theorem gPowT : (Tryd.prog.globals[1]?).map (·.type) = some 118 := by kernel_rfl
theorem gSyn : Tryd.prog.globalNamed "strconv.ErrSyntax" = some 6 := by kernel_rfl
theorem gSynT : (Tryd.prog.globals[6]?).map (·.type) = some 76 := by kernel_rfl
theorem gRng : Tryd.prog.globalNamed "strconv.ErrRange" = some 7 := by kernel_rfl
theorem gRngT : (Tryd.prog.globals[7]?).map (·.type) = some 76 := by kernel_rfl
theorem cES : Tryd.prog.cellsOf 147 = 1 := by kernel_rfl
theorem cStr : Tryd.prog.cellsOf 9 = 1 := by kernel_rfl
theorem starE : "*" ++ "errors.errorString" = "*errors.errorString" := by decide
theorem rowE (u : TypeId) (h : Tryd.prog.typeName? 3 u = some "*errors.errorString") : u = 145 :=
  typeName_ptr_named (nm := "errors.errorString") (by rw [starE]; kernel_rfl) (by kernel_rfl) (by decide) u (by rw [starE]; exact h)
theorem pow_data : Rows.laid_internal_strconv_uint64pow10 (H := Unit) = Lib.tabData .u64 Lib.pow10Tab := by kernel_rfl
theorem lib_of_laid {W : World} (h : laidMetH Tryd.prog [("math/bits.deBruijn32tab", Rows.laid_math_bits_deBruijn32tab), ("math/bits.deBruijn64tab", Rows.laid_math_bits_deBruijn64tab), ("internal/strconv.uint64pow10", Rows.laid_internal_strconv_uint64pow10), ("unicode/utf8.acceptRanges", Rows.laid_unicode_utf8_acceptRanges), ("strconv.ErrRange", Rows.laid_strconv_ErrRange), ("strconv.ErrSyntax", Rows.laid_strconv_ErrSyntax), ("unicode/utf8.first", Rows.laid_unicode_utf8_first)] W) (hsh : W.ShapedOpen Tryd.prog) : Know.lib.p W (· < W.heap.size) := by
  rw [MakeChecks.laidMetH_plain _ _ _ (by as_aux_lemma => kernel_rfl)] at h
  have lt : ∀ {g : Nat} {o : Obj}, W.heap[g]? = some o → g < W.heap.size := fun h => heap_lt h
  refine ⟨⟨?_, ?_⟩, ?_, ?_⟩
  · obtain ⟨m, hm⟩ : ∃ m, W.cell? ⟨0, 0, none⟩ = some (.int .i64 m) := Go.Proofs.cell_of_shapedOpen_int (zero := #[.int .i64 0]) (t := 3) hsh (of_decide_eq_true (by kernel_rfl)) (by kernel_rfl) rfl (by kernel_rfl) (by kernel_rfl) Tryd.underlying3
    unfold World.cell? at hm
    split at hm
    · rename_i c T fz hb
      exact ⟨lt hb, _, hb, m, c, T, fz, rfl, hm⟩
    · cases hm
  · have h2 := h.tail.tail
    rw [pow_data] at h2
    have h3 := Lib.tabIs_of_head gPow gPowT Tryd.underlying118 Tryd.underlying109 (by kernel_rfl) (by kernel_rfl) h2
    obtain ⟨T, fz, hb⟩ := var?_block h3 gPow
    exact ⟨lt hb, _, hb, T, fz, rfl⟩
  · obtain ⟨a, s, hv, _⟩ := laid_sentinel h.tail.tail.tail.tail.tail gSyn gSynT Tryd.underlying76 rowE Tryd.underlying145 Tryd.underlying147 rfl rfl Tryd.underlying9 cES cStr
    obtain ⟨T, fz, hb⟩ := var?_block hv gSyn
    exact ⟨lt hb, _, hb, _, _, T, fz, rfl⟩
  · obtain ⟨a, s, hv, _⟩ := laid_sentinel h.tail.tail.tail.tail gRng gRngT Tryd.underlying76 rowE Tryd.underlying145 Tryd.underlying147 rfl rfl Tryd.underlying9 cES cStr
    obtain ⟨T, fz, hb⟩ := var?_block hv gRng
    exact ⟨lt hb, _, hb, _, _, T, fz, rfl⟩
/-- So many blocks has the settled world. -/
noncomputable def lowS : Nat := (World.holding Tryd.prog default ⟨#[], #[], []⟩).heap.size
noncomputable def putG (w : World) (g : Nat) (cs : Array Value) : World := { w with heap := w.heap.modify g fun
      | .cells _ t frozen => .cells cs t frozen
      | o => o }
/-- A world for the witness: the settled one, the library's variables holding what their initialisers lay. -/
noncomputable def scWorld (os : Os) : World :=
  putG (putG (putG (putG (putG (putG (putG (World.holding Tryd.prog os ⟨#[.cells #[.string ⟨#[118, 97, 108, 117, 101, 32, 111, 117, 116, 32, 111, 102, 32, 114, 97, 110, 103, 101]⟩] 147, .cells #[.string ⟨#[105, 110, 118, 97, 108, 105, 100, 32, 115, 121, 110, 116, 97, 120]⟩] 147], #[], []⟩)
    1 #[.int .u64 1, .int .u64 10, .int .u64 100, .int .u64 1000, .int .u64 10000, .int .u64 100000, .int .u64 1000000, .int .u64 10000000, .int .u64 100000000, .int .u64 1000000000, .int .u64 10000000000, .int .u64 100000000000, .int .u64 1000000000000, .int .u64 10000000000000, .int .u64 100000000000000, .int .u64 1000000000000000, .int .u64 10000000000000000, .int .u64 100000000000000000, .int .u64 1000000000000000000, .int .u64 10000000000000000000])
    4 #[.int .u8 0, .int .u8 1, .int .u8 28, .int .u8 2, .int .u8 29, .int .u8 14, .int .u8 24, .int .u8 3, .int .u8 30, .int .u8 22, .int .u8 20, .int .u8 15, .int .u8 25, .int .u8 17, .int .u8 4, .int .u8 8, .int .u8 31, .int .u8 27, .int .u8 13, .int .u8 23, .int .u8 21, .int .u8 19, .int .u8 16, .int .u8 7, .int .u8 26, .int .u8 12, .int .u8 18, .int .u8 6, .int .u8 11, .int .u8 5, .int .u8 10, .int .u8 9])
    5 #[.int .u8 0, .int .u8 1, .int .u8 56, .int .u8 2, .int .u8 57, .int .u8 49, .int .u8 28, .int .u8 3, .int .u8 61, .int .u8 58, .int .u8 42, .int .u8 50, .int .u8 38, .int .u8 29, .int .u8 17, .int .u8 4, .int .u8 62, .int .u8 47, .int .u8 59, .int .u8 36, .int .u8 45, .int .u8 43, .int .u8 51, .int .u8 22, .int .u8 53, .int .u8 39, .int .u8 33, .int .u8 30, .int .u8 24, .int .u8 18, .int .u8 12, .int .u8 5, .int .u8 63, .int .u8 55, .int .u8 48, .int .u8 27, .int .u8 60, .int .u8 41, .int .u8 37, .int .u8 16, .int .u8 46, .int .u8 35, .int .u8 44, .int .u8 21, .int .u8 52, .int .u8 32, .int .u8 23, .int .u8 11, .int .u8 54, .int .u8 26, .int .u8 40, .int .u8 15, .int .u8 34, .int .u8 20, .int .u8 31, .int .u8 10, .int .u8 25, .int .u8 14, .int .u8 19, .int .u8 9, .int .u8 13, .int .u8 8, .int .u8 7, .int .u8 6])
    3 #[.int .u8 128, .int .u8 191, .int .u8 160, .int .u8 191, .int .u8 128, .int .u8 159, .int .u8 144, .int .u8 191, .int .u8 128, .int .u8 143, .int .u8 0, .int .u8 0, .int .u8 0, .int .u8 0, .int .u8 0, .int .u8 0, .int .u8 0, .int .u8 0, .int .u8 0, .int .u8 0, .int .u8 0, .int .u8 0, .int .u8 0, .int .u8 0, .int .u8 0, .int .u8 0, .int .u8 0, .int .u8 0, .int .u8 0, .int .u8 0, .int .u8 0, .int .u8 0])
    7 #[.iface 145 (.pointer (some ⟨lowS, 0, none⟩))])
    6 #[.iface 145 (.pointer (some ⟨lowS + 1, 0, none⟩))])
    2 #[.int .u8 240, .int .u8 240, .int .u8 240, .int .u8 240, .int .u8 240, .int .u8 240, .int .u8 240, .int .u8 240, .int .u8 240, .int .u8 240, .int .u8 240, .int .u8 240, .int .u8 240, .int .u8 240, .int .u8 240, .int .u8 240, .int .u8 240, .int .u8 240, .int .u8 240, .int .u8 240, .int .u8 240, .int .u8 240, .int .u8 240, .int .u8 240, .int .u8 240, .int .u8 240, .int .u8 240, .int .u8 240, .int .u8 240, .int .u8 240, .int .u8 240, .int .u8 240, .int .u8 240, .int .u8 240, .int .u8 240, .int .u8 240, .int .u8 240, .int .u8 240, .int .u8 240, .int .u8 240, .int .u8 240, .int .u8 240, .int .u8 240, .int .u8 240, .int .u8 240, .int .u8 240, .int .u8 240, .int .u8 240, .int .u8 240, .int .u8 240, .int .u8 240, .int .u8 240, .int .u8 240, .int .u8 240, .int .u8 240, .int .u8 240, .int .u8 240, .int .u8 240, .int .u8 240, .int .u8 240, .int .u8 240, .int .u8 240, .int .u8 240, .int .u8 240, .int .u8 240, .int .u8 240, .int .u8 240, .int .u8 240, .int .u8 240, .int .u8 240, .int .u8 240, .int .u8 240, .int .u8 240, .int .u8 240, .int .u8 240, .int .u8 240, .int .u8 240, .int .u8 240, .int .u8 240, .int .u8 240, .int .u8 240, .int .u8 240, .int .u8 240, .int .u8 240, .int .u8 240, .int .u8 240, .int .u8 240, .int .u8 240, .int .u8 240, .int .u8 240, .int .u8 240, .int .u8 240, .int .u8 240, .int .u8 240, .int .u8 240, .int .u8 240, .int .u8 240, .int .u8 240, .int .u8 240, .int .u8 240, .int .u8 240, .int .u8 240, .int .u8 240, .int .u8 240, .int .u8 240, .int .u8 240, .int .u8 240, .int .u8 240, .int .u8 240, .int .u8 240, .int .u8 240, .int .u8 240, .int .u8 240, .int .u8 240, .int .u8 240, .int .u8 240, .int .u8 240, .int .u8 240, .int .u8 240, .int .u8 240, .int .u8 240, .int .u8 240, .int .u8 240, .int .u8 240, .int .u8 240, .int .u8 240, .int .u8 240, .int .u8 240, .int .u8 241, .int .u8 241, .int .u8 241, .int .u8 241, .int .u8 241, .int .u8 241, .int .u8 241, .int .u8 241, .int .u8 241, .int .u8 241, .int .u8 241, .int .u8 241, .int .u8 241, .int .u8 241, .int .u8 241, .int .u8 241, .int .u8 241, .int .u8 241, .int .u8 241, .int .u8 241, .int .u8 241, .int .u8 241, .int .u8 241, .int .u8 241, .int .u8 241, .int .u8 241, .int .u8 241, .int .u8 241, .int .u8 241, .int .u8 241, .int .u8 241, .int .u8 241, .int .u8 241, .int .u8 241, .int .u8 241, .int .u8 241, .int .u8 241, .int .u8 241, .int .u8 241, .int .u8 241, .int .u8 241, .int .u8 241, .int .u8 241, .int .u8 241, .int .u8 241, .int .u8 241, .int .u8 241, .int .u8 241, .int .u8 241, .int .u8 241, .int .u8 241, .int .u8 241, .int .u8 241, .int .u8 241, .int .u8 241, .int .u8 241, .int .u8 241, .int .u8 241, .int .u8 241, .int .u8 241, .int .u8 241, .int .u8 241, .int .u8 241, .int .u8 241, .int .u8 241, .int .u8 241, .int .u8 2, .int .u8 2, .int .u8 2, .int .u8 2, .int .u8 2, .int .u8 2, .int .u8 2, .int .u8 2, .int .u8 2, .int .u8 2, .int .u8 2, .int .u8 2, .int .u8 2, .int .u8 2, .int .u8 2, .int .u8 2, .int .u8 2, .int .u8 2, .int .u8 2, .int .u8 2, .int .u8 2, .int .u8 2, .int .u8 2, .int .u8 2, .int .u8 2, .int .u8 2, .int .u8 2, .int .u8 2, .int .u8 2, .int .u8 2, .int .u8 19, .int .u8 3, .int .u8 3, .int .u8 3, .int .u8 3, .int .u8 3, .int .u8 3, .int .u8 3, .int .u8 3, .int .u8 3, .int .u8 3, .int .u8 3, .int .u8 3, .int .u8 35, .int .u8 3, .int .u8 3, .int .u8 52, .int .u8 4, .int .u8 4, .int .u8 4, .int .u8 68, .int .u8 241, .int .u8 241, .int .u8 241, .int .u8 241, .int .u8 241, .int .u8 241, .int .u8 241, .int .u8 241, .int .u8 241, .int .u8 241, .int .u8 241]

end Go.Proofs.YtenojajfacacoaaDoor
/- What any text is read as is a script whose text this is, or there is a line at which it ends to be one: proved of every text, the library's own variables as the program lays them. -/
namespace Go.Proofs.YtenojajfacacoaaDoor
open Go.ChangeShapes Go.WideShapes Go.ChangeAt Go.ChangeMaps Go.RowKit

set_option maxRecDepth 100000 in
theorem scriptParses_met (os : Os) : laidMet Tryd.prog Rows.scriptParsesRow.laid ((scWorld os).forCall (fun _ _ => 0) ⟨#[], #[.string ⟨#[]⟩], []⟩).memory := laidMet_of_run' 8 (by as_aux_lemma => kernel_rfl) (by as_aux_lemma => kernel_rfl)
theorem scriptParses_reads (os : Os) {H : Type} (enc : TypeId × Value → H) : ∃ places, DataW.whole enc Tryd.prog ((scWorld os).forCall (fun _ _ => 0) ⟨#[], #[.string ⟨#[]⟩], []⟩).memory Tryd.f4.params.toList Rows.scriptParsesSpec.vars false #[.string ⟨#[]⟩].toList 8 = some ([.lit (.string [])], [], places) := ⟨[], by as_aux_lemma => kernel_rfl⟩
set_option maxRecDepth 100000 in
theorem scriptParses_lifted (os : Os) (started : os.Started) (H : Type) (enc : TypeId × Value → H) (F : Stop.Interp) :
    ReturnsInHanded {} Tryd.checked os 4 .any ((OpenSpec.ofChange Rows.scriptParsesSpec).preRow enc Tryd.prog Tryd.f4 Rows.scriptParsesRow.domain false Rows.scriptParsesRow.laid) (((OpenSpec.ofChange Rows.scriptParsesSpec).at F).post enc Tryd.prog Tryd.f4 false true false false) := by
  obtain ⟨places, hx⟩ := scriptParses_reads os enc
  refine returnsInHanded_of_row (C := Tryd.checked) (s := OpenSpec.ofChange Rows.scriptParsesSpec) Tryd.own started (by as_aux_lemma => kernel_rfl) Tryd.func4
    (witness_row_at (enc := enc) (C := Tryd.checked) false (scWorld os) #[.string ⟨#[]⟩] rfl (by as_aux_lemma => kernel_rfl) (by as_aux_lemma => kernel_rfl) (by as_aux_lemma => kernel_rfl)
      (OpenSpec.preRow_of_cond 8 hx (by as_aux_lemma => kernel_rfl) (fun k hk => by cases hk) (by as_aux_lemma => kernel_rfl) (scriptParses_met os))) ?_
  intro W base args ds gs before hval0 hW _ _ hsz0 hL hSh _
  have hval : ∀ (j : Nat) t v, Tryd.f4.params[j]? = some t → args[j]? = some v → Value.okWide Tryd.prog W .any base t v := hval0
  clear hval0
  have hlib := lib_of_laid hL hSh
  refine law_contract (n := 1) (tb := 4) (s := Rows.scriptParsesSpec) rfl rfl rfl Tryd.underlying4 (by intro ds h; match ds, h with | [d0], _ => rfl) (by as_aux_lemma => kernel_rfl) hW ?_
  intro p hA0 hlt
  have hA : DataW.TrodAll enc Tryd.prog W 0 (fun _ => true) true Tryd.f4.params.toList args.toList ds p := hA0
  clear hA0
  rw [Tryd.params4] at hA hval
  obtain ⟨v0, d0, rfl, rfl, h0⟩ := trodAll_one hA
  obtain ⟨s0, rfl, rfl, rfl, ws0⟩ := open_string Tryd.underlying9 (hval 0 9 v0 rfl rfl) h0
  exact scriptParses_any s0.data.toList (Know.has_refl _) (St.start hlib)

theorem scriptParses_said : Rows.ScriptParsesSaid :=
  OpenClaim.holds_of_cond 4 Tryd.f4 rfl rfl rfl rfl rfl rfl rfl ⟨rfl, rfl, rfl, rfl, rfl⟩ rfl rfl rfl rfl rfl (by as_aux_lemma => kernel_rfl) Tryd.func4 (by as_aux_lemma => kernel_rfl)
    (of_decide_eq_true (by as_aux_lemma => kernel_rfl)) (by as_aux_lemma => (unfold Func.isWrapper; rw [if_neg (by as_aux_lemma => decide +kernel)]; exact ⟨rfl, rfl⟩))
    (fun os started H enc _ F => by rw [OpenClaim.pre_eq_preRow]; exact scriptParses_lifted os started H enc F)

theorem scriptParses_plain (f : FuncId) (fn : Func) (hf : Tryd.pinned.checked.prog.funcNamed "cursitor/cursitorlaw25.ScriptParses" = some f) (hfn : Tryd.pinned.checked.prog.funcs[f]? = some fn) :
    true = Tryd.pinned.checked.prog.looks [] ∧ ∀ (j : Nat) t, fn.params[j]? = some t → Tryd.pinned.checked.prog.wantsStandIn t = false := by
  obtain rfl : f = 4 := Option.some.inj ((show Tryd.prog.funcNamed "cursitor/cursitorlaw25.ScriptParses" = some 4 by as_aux_lemma => kernel_rfl).symm.trans hf) |>.symm
  obtain rfl : fn = Tryd.f4 := (Option.some.inj (Tryd.func4.symm.trans hfn)).symm
  refine ⟨by as_aux_lemma => kernel_rfl, fun j t ht => ?_⟩
  rw [Tryd.params4] at ht
  have hm : t ∈ [9] := by simpa using Array.mem_of_getElem? ht
  have hall : ([9].all fun u => !Tryd.prog.wantsStandIn u) = true := by as_aux_lemma => kernel_rfl
  exact (show Tryd.prog.wantsStandIn t = false by simpa using List.all_eq_true.1 hall t hm)

theorem scriptParsesCard_holds : Rows.ScriptParsesCardSaid :=
  Claim7.holds_tied_plain_at .later [] _ _ _ _ scriptParses_said (fun _ h => by cases h) (by as_aux_lemma => kernel_rfl) (fun _ h => by cases h) scriptParses_row_tie rfl ⟨rfl, rfl⟩ (by as_aux_lemma => kernel_rfl) rfl scriptParses_plain (by as_aux_lemma => kernel_rfl)

end Go.Proofs.YtenojajfacacoaaDoor
