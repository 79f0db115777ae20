/- Lines of scripts: where the bytes end. -/
import Derived.Test.YtenojajfacacoaaDoorSc5
import Derived.Test.YtenojajfacacoaaDoorSc7
import Derived.Test.YtenojajfacacoaaDoorRegOp
import Derived.RegionTactic
import Derived.WalkMore
import Derived.Deep.RegionHeld3
import Derived.Deep.DeepCutAuto
namespace Go.Proofs.YtenojajfacacoaaDoor
open Go.RowKit

theorem sc_nums_good (nb : Nat) (cs : Array Value) (T : TypeId) (wb off cap ncap : Nat) (ws : List Bs) (vs : List Int) (n : Nat) (hw : n = ws.length) (hvs : numsRd ws = some vs) (hn : cs.size = ws.length) (hl : ws.length ≤ 1000000) (hx : ∀ x ∈ ws, x.length ≤ 1000000) {W0 w : World} {K : Know} {L : List Res} (hlib : K.has Know.lib) (hk : K.has (Know.strs wb off ws)) (h : St W0 w K (.raw nb cs T :: L)) :
    Calls Tryd.prog 56 #[.slice (some ⟨nb, 0, none⟩) n ncap, .slice (some ⟨wb, off, none⟩) n cap] w fun en w' => en = .returned (.bool true) ∧ St W0 w' K (.raw nb (vs.map fun v => Value.int .i64 v).toArray T :: L) := by
  subst hw
  refine (sc_nums nb cs T wb off cap ncap ws hn hl hx hlib hk h).mono ?_
  rintro e w' ⟨cs', rfl, h1, h2, h3⟩
  rw [hvs]
  refine ⟨rfl, ?_⟩
  have h4 := h2 vs hvs
  rw [← h4]
  exact h3

set_option maxHeartbeats 4000000 in
set_option maxRecDepth 100000 in
theorem rd_cut (rd wb off cap : Nat) (v ch : Value) (c n : Int) (x : Bs) (hx : numRd x = some n) (hn : 0 ≤ n) (hxl : x.length ≤ 1000000) {W0 w : World} {K : Know} {L : List Res} (hlib : K.has Know.lib) (hk : K.has (Know.strs wb off [x])) (h : St W0 w K (.raw rd #[v, .int .i64 c, ch] 65 :: L)) :
    Calls Tryd.prog 43 #[.pointer (some ⟨rd, 0, none⟩), .slice (some ⟨wb, off, none⟩) 1 cap] w fun en w' => en = .returned (.bool true) ∧ St W0 w' K (.raw rd #[v, .int .i64 n, ch] 65 :: L) := by
  obtain ⟨nb, hnb⟩ : ∃ b, w.heap.size = b := ⟨_, rfl⟩
  have g1 := h.allocRaw #[.int .i64 0] 93
  rw [hnb] at g1
  have H := Lib.hid g1
  have HK := Lib.hid hk
  have HLIB := Lib.hid hlib
  have HNS := Lib.hid (show numsRd [x] = some [n] by show (match numRd x with | none => none | some v => (numsRd []).map (v :: ·)) = _; rw [hx]; rfl)
  have HXL := Lib.hid (show ∀ y ∈ [x], y.length ≤ 1000000 from fun y hy => by rw [List.mem_singleton.1 hy]; exact hxl)
  have HL1 := Lib.hid (show [x].length ≤ 1000000 by simp)
  have q1 : ¬ n < 0 := by omega
  have q2 : decide (n < 0) = false := decide_eq_false q1
  clear h g1 hk hlib hx hxl hn
  go_enter Tryd.func43, Tryd.ntmps43
  go_wp2_with (go_at_call 56; (with_reducible refine (sc_nums_good nb #[.int .i64 0] 93 wb off cap 1 [x] [n] 1 rfl HNS.out rfl HL1.out HXL.out HLIB.out HK.out H.out).mono ?_); rintro e_ wn ⟨rfl, h⟩; have h : St W0 wn K (.raw nb #[.int .i64 n] 93 :: _) := h; have c0 := h.rawCell 0; simp at c0; have d0 := (h.p1).rawCell 0; have d1 := (h.p1).rawCell 1; have d2 := (h.p1).rawCell 2; simp at d0 d1 d2; have r0 := (h.p1).rawFree 0; have r1 := (h.p1).rawFree 1; have r2 := (h.p1).rawFree 2; replace H := Lib.hid h; clear h)
  go_ret
  exact ⟨rfl, H.out.p1.rawSet 1 (.int .i64 n) |>.p1 |>.drop⟩

end Go.Proofs.YtenojajfacacoaaDoor
