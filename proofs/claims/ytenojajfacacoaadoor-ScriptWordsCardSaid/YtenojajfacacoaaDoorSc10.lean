/- Lines of scripts, told apart. -/
import Derived.Test.YtenojajfacacoaaDoorSc9
import Derived.Test.YtenojajfacacoaaDoorRegOp
import Derived.RegionTactic
import Derived.WalkMore
import Derived.Deep.RegionHeld3
import Derived.Deep.DeepCutAuto
namespace Go.Proofs.YtenojajfacacoaaDoor
open Go.RowKit

set_option maxHeartbeats 4000000 in
set_option maxRecDepth 100000 in
theorem rd_read_cut (rd wb : Nat) (v : Value) (n : Int) (x : Bs) (hx : numRd x = some n) (hn : 0 ≤ n) (hxl : x.length ≤ 1000000) {W0 w : World} {K : Know} {L : List Res} (hlib : K.has Know.lib) (hk : K.has (Know.strs wb 0 [[99, 117, 116], x])) (h : St W0 w K (.raw rd #[v, .int .i64 (-1), .slice none 0 0] 65 :: L)) :
    Calls Tryd.prog 26 #[.pointer (some ⟨rd, 0, none⟩), .slice (some ⟨wb, 0, none⟩) 2 2] w fun en w' => en = .returned (.bool true) ∧ St W0 w' K (.raw rd #[v, .int .i64 n, .slice none 0 0] 65 :: L) := by
  have HX := Lib.hid hx
  have HN := Lib.hid hn
  have HXL := Lib.hid hxl
  have HK1 := Lib.hid (show K.has (Know.strs wb 1 [x]) from strs_drop hk 1)
  clear hx hn hxl
  have c0 : w.cell? ⟨wb, 0, none⟩ = some (.string (bb [99, 117, 116])) := strs_cell hk h 0 (by simp)
  have d0 := (h).rawCell 0; have d1 := (h).rawCell 1; have d2 := (h).rawCell 2; simp at d0 d1 d2
  have HK := Lib.hid hk
  have HLIB := Lib.hid hlib
  have H := Lib.hid h
  clear h hk hlib
  go_enter Tryd.func26, Tryd.ntmps26
  go_upto_region 1 with fail
  go_region
  all_goals (
    go_wp2_with (go_at_call 43; (with_reducible refine (rd_cut rd wb 1 1 v (.slice none 0 0) (-1) n x HX.out HN.out HXL.out HLIB.out HK1.out H.out.drew).mono ?_); rintro e_ wn ⟨rfl, h⟩; replace H := Lib.hid h; clear h)
    go_ret
    exact ⟨rfl, H.out⟩)

set_option maxHeartbeats 4000000 in
set_option maxRecDepth 100000 in
theorem rd_read_batch (rd wb : Nat) (v : Value) (n : Nat) (xs : List Value) (ws : List Bs) (s : Bs) (n0 n1 n2 n3 n4 n5 n6 n7 : Int) (va vt vc : Bool) (hw : 8 = ws.length) (hns : numsRd ws = some [n0, n1, n2, n3, n4, n5, n6, n7]) (hva : hasB s 97 = va) (hvt : hasB s 116 = vt) (hvc : hasB s 99 = vc) (hok : (letW va vt vc == s) = true) (hn : n ≤ 1000000) (hxl : ∀ y ∈ ws, y.length ≤ 1000000) {W0 w : World} {K : Know} {L : List Res} (hlib : K.has Know.lib) (hk : K.has (Know.strs wb 0 ([98, 97, 116, 99, 104] :: (ws ++ [s])))) (h : St W0 w K (.raw rd #[v, .int .i64 (-1), .slice none 0 0] 65 :: .row v 45 12 n xs :: L)) :
    Calls Tryd.prog 26 #[.pointer (some ⟨rd, 0, none⟩), .slice (some ⟨wb, 0, none⟩) 10 10] w fun en w' => ∃ v', en = .returned (.bool true) ∧ St W0 w' K (.raw rd #[v', .int .i64 (-1), .slice none 0 0] 65 :: .row v' 45 12 (n + 1) (xs ++ [.int .i64 n0, .int .i64 n1, .bool va, .bool vt, .bool vc, .int .i64 n2, .int .i64 n3, .int .i64 n4, .int .i64 n5, .int .i64 n6, .int .i64 n7, .slice none 0 0]) :: L) := by
  have HW := Lib.hid hw
  have HNS := Lib.hid hns
  have HVA := Lib.hid hva
  have HVT := Lib.hid hvt
  have HVC := Lib.hid hvc
  have HOK := Lib.hid hok
  have HN := Lib.hid hn
  have HXL := Lib.hid hxl
  have HK1 := Lib.hid (show K.has (Know.strs wb 1 (ws ++ [s])) from strs_drop hk 1)
  clear hw hns hva hvt hvc hok hn hxl
  have c0 : w.cell? ⟨wb, 0, none⟩ = some (.string (bb [98, 97, 116, 99, 104])) := strs_cell hk h 0 (by simp)
  have d0 := (h).rawCell 0; have d1 := (h).rawCell 1; have d2 := (h).rawCell 2; simp at d0 d1 d2
  have HK := Lib.hid hk
  have HLIB := Lib.hid hlib
  have H := Lib.hid h
  clear h hk hlib
  go_enter Tryd.func26, Tryd.ntmps26
  go_upto_region 1 with fail
  go_region
  all_goals (
    go_wp2_with (go_at_call 44; (with_reducible refine (rd_batch rd wb 1 9 v (.slice none 0 0) (-1) n xs ws s n0 n1 n2 n3 n4 n5 n6 n7 va vt vc HW.out HNS.out HVA.out HVT.out HVC.out HOK.out HN.out HXL.out (by decide) HLIB.out HK1.out H.out.drew).mono ?_); rintro e_ wn ⟨v2, rfl, h⟩; replace H := Lib.hid h; clear h)
    go_ret
    exact ⟨_, rfl, H.out⟩)
set_option maxHeartbeats 4000000 in
set_option maxRecDepth 100000 in
theorem rd_read_no (rd wb : Nat) (v : Value) (c : Int) (ws : List Bs) (hc : c ≠ -1) {W0 w : World} {K : Know} {L : List Res} (hlib : K.has Know.lib) (hk : K.has (Know.strs wb 0 ([98, 97, 116, 99, 104] :: ws))) (h : St W0 w K (.raw rd #[v, .int .i64 c, .slice none 0 0] 65 :: L)) :
    Calls Tryd.prog 26 #[.pointer (some ⟨rd, 0, none⟩), .slice (some ⟨wb, 0, none⟩) 10 10] w fun en w' => en = .returned (.bool false) ∧ St W0 w' K (.raw rd #[v, .int .i64 c, .slice none 0 0] 65 :: L) := by
  have q1 : (c == -1) = false := by rw [beq_eq_false_iff_ne]; exact hc
  have q2 : (c != -1) = true := by simp [bne, q1]
  clear hc
  have c0 : w.cell? ⟨wb, 0, none⟩ = some (.string (bb [98, 97, 116, 99, 104])) := strs_cell hk h 0 (by simp)
  have d0 := (h).rawCell 0; have d1 := (h).rawCell 1; have d2 := (h).rawCell 2; simp at d0 d1 d2
  have HK := Lib.hid hk
  have HLIB := Lib.hid hlib
  have H := Lib.hid h
  clear h hk hlib
  go_enter Tryd.func26, Tryd.ntmps26
  go_upto_region 1 with fail
  go_region
  all_goals (
    go_wp2_with fail
    go_ret
    exact ⟨rfl, H.out.drew⟩)

end Go.Proofs.YtenojajfacacoaaDoor
