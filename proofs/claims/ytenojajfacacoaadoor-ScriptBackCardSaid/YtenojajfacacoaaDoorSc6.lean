/- Letters in words. -/
import Derived.Test.YtenojajfacacoaaDoorSc6P
import Derived.Test.YtenojajfacacoaaDoorRegOp
import Derived.RegionTactic
import Derived.WalkMore
import Derived.Deep.RegionHeld3
import Derived.Deep.DeepCutAuto
namespace Go.Proofs.YtenojajfacacoaaDoor
open Go.RowKit

set_option maxHeartbeats 4000000 in
set_option maxRecDepth 100000 in
theorem sc_let_ttt {W0 w : World} {K : Know} {L : List Res} (h : St W0 w K L) :
    Calls Tryd.prog 38 #[.agg #[.bool true, .bool true, .bool true]] w fun en w' => en = .returned (.string (bb (letW true true true))) ∧ St W0 w' K L := by
  have hi : ∀ w, (Instr.index 85 (.agg #[.bool true, .bool true, .bool true]) (.int .i64 0)).run Tryd.prog w = .ok (.bool true) w := fun _ => by kernel_rfl
  have hi1 : ∀ w, (Instr.index 85 (.agg #[.bool true, .bool true, .bool true]) (.int .i64 1)).run Tryd.prog w = .ok (.bool true) w := fun _ => by kernel_rfl
  have hi2 : ∀ w, (Instr.index 85 (.agg #[.bool true, .bool true, .bool true]) (.int .i64 2)).run Tryd.prog w = .ok (.bool true) w := fun _ => by kernel_rfl
  obtain ⟨b, hb⟩ : ∃ b, w.heap.size = b := ⟨_, rfl⟩
  have g1 := h.allocRaw #[.bool true, .bool true, .bool true] 85
  rw [hb] at g1
  have c0 := (g1).rawCell 0; have c1 := (g1).rawCell 1; have c2 := (g1).rawCell 2; simp at c0 c1 c2
  have H := Lib.hid g1
  clear h g1
  go_enter Tryd.func38, Tryd.ntmps38
  go_wp2_with fail
  go_loopw [3, 7] (fun sv iv wr => ((iv = .int .i64 0 ∧ sv = .string ⟨#[]⟩) ∨ (iv = .int .i64 1 ∧ sv = .string ⟨#[97]⟩) ∨ (iv = .int .i64 2 ∧ sv = .string ⟨#[97, 116]⟩) ∨ (iv = .int .i64 3 ∧ sv = .string ⟨#[97, 116, 99]⟩)) ∧ St W0 wr K (.raw b #[.bool true, .bool true, .bool true] 85 :: L)) (fun _ iv _ => 4 - (intOf iv).toNat)
  case atStart => exact ⟨.inl ⟨rfl, rfl⟩, H.out⟩
  case round =>
    obtain ⟨hd, hst⟩ := hrel
    clear H c0 c1 c2
    have H := Lib.hid hst
    clear hst
    rcases hd with ⟨rfl, rfl⟩ | ⟨rfl, rfl⟩ | ⟨rfl, rfl⟩ | ⟨rfl, rfl⟩
    · go_wp2_with fail
      go_roundw
      case rel => exact ⟨.inr (.inl ⟨by go_num, by rfl⟩), H.out⟩
      case measure => first | (simp [intOf]; done) | (simp [intOf]; omega)
    · go_wp2_with fail
      go_roundw
      case rel => exact ⟨.inr (.inr (.inl ⟨by go_num, by rfl⟩)), H.out⟩
      case measure => first | (simp [intOf]; done) | (simp [intOf]; omega)
    · go_wp2_with fail
      go_roundw
      case rel => exact ⟨.inr (.inr (.inr ⟨by go_num, by rfl⟩)), H.out⟩
      case measure => first | (simp [intOf]; done) | (simp [intOf]; omega)
    · go_wp2_with fail
      go_ret
      exact ⟨by rfl, H.out.drop⟩

set_option maxHeartbeats 4000000 in
set_option maxRecDepth 100000 in
theorem sc_let_ttf {W0 w : World} {K : Know} {L : List Res} (h : St W0 w K L) :
    Calls Tryd.prog 38 #[.agg #[.bool true, .bool true, .bool false]] w fun en w' => en = .returned (.string (bb (letW true true false))) ∧ St W0 w' K L := by
  have hi : ∀ w, (Instr.index 85 (.agg #[.bool true, .bool true, .bool false]) (.int .i64 0)).run Tryd.prog w = .ok (.bool true) w := fun _ => by kernel_rfl
  have hi1 : ∀ w, (Instr.index 85 (.agg #[.bool true, .bool true, .bool false]) (.int .i64 1)).run Tryd.prog w = .ok (.bool true) w := fun _ => by kernel_rfl
  have hi2 : ∀ w, (Instr.index 85 (.agg #[.bool true, .bool true, .bool false]) (.int .i64 2)).run Tryd.prog w = .ok (.bool false) w := fun _ => by kernel_rfl
  obtain ⟨b, hb⟩ : ∃ b, w.heap.size = b := ⟨_, rfl⟩
  have g1 := h.allocRaw #[.bool true, .bool true, .bool false] 85
  rw [hb] at g1
  have c0 := (g1).rawCell 0; have c1 := (g1).rawCell 1; have c2 := (g1).rawCell 2; simp at c0 c1 c2
  have H := Lib.hid g1
  clear h g1
  go_enter Tryd.func38, Tryd.ntmps38
  go_wp2_with fail
  go_loopw [3, 7] (fun sv iv wr => ((iv = .int .i64 0 ∧ sv = .string ⟨#[]⟩) ∨ (iv = .int .i64 1 ∧ sv = .string ⟨#[97]⟩) ∨ (iv = .int .i64 2 ∧ sv = .string ⟨#[97, 116]⟩) ∨ (iv = .int .i64 3 ∧ sv = .string ⟨#[97, 116]⟩)) ∧ St W0 wr K (.raw b #[.bool true, .bool true, .bool false] 85 :: L)) (fun _ iv _ => 4 - (intOf iv).toNat)
  case atStart => exact ⟨.inl ⟨rfl, rfl⟩, H.out⟩
  case round =>
    obtain ⟨hd, hst⟩ := hrel
    clear H c0 c1 c2
    have H := Lib.hid hst
    clear hst
    rcases hd with ⟨rfl, rfl⟩ | ⟨rfl, rfl⟩ | ⟨rfl, rfl⟩ | ⟨rfl, rfl⟩
    · go_wp2_with fail
      go_roundw
      case rel => exact ⟨.inr (.inl ⟨by go_num, by rfl⟩), H.out⟩
      case measure => first | (simp [intOf]; done) | (simp [intOf]; omega)
    · go_wp2_with fail
      go_roundw
      case rel => exact ⟨.inr (.inr (.inl ⟨by go_num, by rfl⟩)), H.out⟩
      case measure => first | (simp [intOf]; done) | (simp [intOf]; omega)
    · go_wp2_with fail
      go_roundw
      case rel => exact ⟨.inr (.inr (.inr ⟨by go_num, by rfl⟩)), H.out⟩
      case measure => first | (simp [intOf]; done) | (simp [intOf]; omega)
    · go_wp2_with fail
      go_ret
      exact ⟨by rfl, H.out.drop⟩

set_option maxHeartbeats 4000000 in
set_option maxRecDepth 100000 in
theorem sc_let_tft {W0 w : World} {K : Know} {L : List Res} (h : St W0 w K L) :
    Calls Tryd.prog 38 #[.agg #[.bool true, .bool false, .bool true]] w fun en w' => en = .returned (.string (bb (letW true false true))) ∧ St W0 w' K L := by
  have hi : ∀ w, (Instr.index 85 (.agg #[.bool true, .bool false, .bool true]) (.int .i64 0)).run Tryd.prog w = .ok (.bool true) w := fun _ => by kernel_rfl
  have hi1 : ∀ w, (Instr.index 85 (.agg #[.bool true, .bool false, .bool true]) (.int .i64 1)).run Tryd.prog w = .ok (.bool false) w := fun _ => by kernel_rfl
  have hi2 : ∀ w, (Instr.index 85 (.agg #[.bool true, .bool false, .bool true]) (.int .i64 2)).run Tryd.prog w = .ok (.bool true) w := fun _ => by kernel_rfl
  obtain ⟨b, hb⟩ : ∃ b, w.heap.size = b := ⟨_, rfl⟩
  have g1 := h.allocRaw #[.bool true, .bool false, .bool true] 85
  rw [hb] at g1
  have c0 := (g1).rawCell 0; have c1 := (g1).rawCell 1; have c2 := (g1).rawCell 2; simp at c0 c1 c2
  have H := Lib.hid g1
  clear h g1
  go_enter Tryd.func38, Tryd.ntmps38
  go_wp2_with fail
  go_loopw [3, 7] (fun sv iv wr => ((iv = .int .i64 0 ∧ sv = .string ⟨#[]⟩) ∨ (iv = .int .i64 1 ∧ sv = .string ⟨#[97]⟩) ∨ (iv = .int .i64 2 ∧ sv = .string ⟨#[97]⟩) ∨ (iv = .int .i64 3 ∧ sv = .string ⟨#[97, 99]⟩)) ∧ St W0 wr K (.raw b #[.bool true, .bool false, .bool true] 85 :: L)) (fun _ iv _ => 4 - (intOf iv).toNat)
  case atStart => exact ⟨.inl ⟨rfl, rfl⟩, H.out⟩
  case round =>
    obtain ⟨hd, hst⟩ := hrel
    clear H c0 c1 c2
    have H := Lib.hid hst
    clear hst
    rcases hd with ⟨rfl, rfl⟩ | ⟨rfl, rfl⟩ | ⟨rfl, rfl⟩ | ⟨rfl, rfl⟩
    · go_wp2_with fail
      go_roundw
      case rel => exact ⟨.inr (.inl ⟨by go_num, by rfl⟩), H.out⟩
      case measure => first | (simp [intOf]; done) | (simp [intOf]; omega)
    · go_wp2_with fail
      go_roundw
      case rel => exact ⟨.inr (.inr (.inl ⟨by go_num, by rfl⟩)), H.out⟩
      case measure => first | (simp [intOf]; done) | (simp [intOf]; omega)
    · go_wp2_with fail
      go_roundw
      case rel => exact ⟨.inr (.inr (.inr ⟨by go_num, by rfl⟩)), H.out⟩
      case measure => first | (simp [intOf]; done) | (simp [intOf]; omega)
    · go_wp2_with fail
      go_ret
      exact ⟨by rfl, H.out.drop⟩

set_option maxHeartbeats 4000000 in
set_option maxRecDepth 100000 in
theorem sc_let_tff {W0 w : World} {K : Know} {L : List Res} (h : St W0 w K L) :
    Calls Tryd.prog 38 #[.agg #[.bool true, .bool false, .bool false]] w fun en w' => en = .returned (.string (bb (letW true false false))) ∧ St W0 w' K L := by
  have hi : ∀ w, (Instr.index 85 (.agg #[.bool true, .bool false, .bool false]) (.int .i64 0)).run Tryd.prog w = .ok (.bool true) w := fun _ => by kernel_rfl
  have hi1 : ∀ w, (Instr.index 85 (.agg #[.bool true, .bool false, .bool false]) (.int .i64 1)).run Tryd.prog w = .ok (.bool false) w := fun _ => by kernel_rfl
  have hi2 : ∀ w, (Instr.index 85 (.agg #[.bool true, .bool false, .bool false]) (.int .i64 2)).run Tryd.prog w = .ok (.bool false) w := fun _ => by kernel_rfl
  obtain ⟨b, hb⟩ : ∃ b, w.heap.size = b := ⟨_, rfl⟩
  have g1 := h.allocRaw #[.bool true, .bool false, .bool false] 85
  rw [hb] at g1
  have c0 := (g1).rawCell 0; have c1 := (g1).rawCell 1; have c2 := (g1).rawCell 2; simp at c0 c1 c2
  have H := Lib.hid g1
  clear h g1
  go_enter Tryd.func38, Tryd.ntmps38
  go_wp2_with fail
  go_loopw [3, 7] (fun sv iv wr => ((iv = .int .i64 0 ∧ sv = .string ⟨#[]⟩) ∨ (iv = .int .i64 1 ∧ sv = .string ⟨#[97]⟩) ∨ (iv = .int .i64 2 ∧ sv = .string ⟨#[97]⟩) ∨ (iv = .int .i64 3 ∧ sv = .string ⟨#[97]⟩)) ∧ St W0 wr K (.raw b #[.bool true, .bool false, .bool false] 85 :: L)) (fun _ iv _ => 4 - (intOf iv).toNat)
  case atStart => exact ⟨.inl ⟨rfl, rfl⟩, H.out⟩
  case round =>
    obtain ⟨hd, hst⟩ := hrel
    clear H c0 c1 c2
    have H := Lib.hid hst
    clear hst
    rcases hd with ⟨rfl, rfl⟩ | ⟨rfl, rfl⟩ | ⟨rfl, rfl⟩ | ⟨rfl, rfl⟩
    · go_wp2_with fail
      go_roundw
      case rel => exact ⟨.inr (.inl ⟨by go_num, by rfl⟩), H.out⟩
      case measure => first | (simp [intOf]; done) | (simp [intOf]; omega)
    · go_wp2_with fail
      go_roundw
      case rel => exact ⟨.inr (.inr (.inl ⟨by go_num, by rfl⟩)), H.out⟩
      case measure => first | (simp [intOf]; done) | (simp [intOf]; omega)
    · go_wp2_with fail
      go_roundw
      case rel => exact ⟨.inr (.inr (.inr ⟨by go_num, by rfl⟩)), H.out⟩
      case measure => first | (simp [intOf]; done) | (simp [intOf]; omega)
    · go_wp2_with fail
      go_ret
      exact ⟨by rfl, H.out.drop⟩

set_option maxHeartbeats 4000000 in
set_option maxRecDepth 100000 in
theorem sc_let_ftt {W0 w : World} {K : Know} {L : List Res} (h : St W0 w K L) :
    Calls Tryd.prog 38 #[.agg #[.bool false, .bool true, .bool true]] w fun en w' => en = .returned (.string (bb (letW false true true))) ∧ St W0 w' K L := by
  have hi : ∀ w, (Instr.index 85 (.agg #[.bool false, .bool true, .bool true]) (.int .i64 0)).run Tryd.prog w = .ok (.bool false) w := fun _ => by kernel_rfl
  have hi1 : ∀ w, (Instr.index 85 (.agg #[.bool false, .bool true, .bool true]) (.int .i64 1)).run Tryd.prog w = .ok (.bool true) w := fun _ => by kernel_rfl
  have hi2 : ∀ w, (Instr.index 85 (.agg #[.bool false, .bool true, .bool true]) (.int .i64 2)).run Tryd.prog w = .ok (.bool true) w := fun _ => by kernel_rfl
  obtain ⟨b, hb⟩ : ∃ b, w.heap.size = b := ⟨_, rfl⟩
  have g1 := h.allocRaw #[.bool false, .bool true, .bool true] 85
  rw [hb] at g1
  have c0 := (g1).rawCell 0; have c1 := (g1).rawCell 1; have c2 := (g1).rawCell 2; simp at c0 c1 c2
  have H := Lib.hid g1
  clear h g1
  go_enter Tryd.func38, Tryd.ntmps38
  go_wp2_with fail
  go_loopw [3, 7] (fun sv iv wr => ((iv = .int .i64 0 ∧ sv = .string ⟨#[]⟩) ∨ (iv = .int .i64 1 ∧ sv = .string ⟨#[]⟩) ∨ (iv = .int .i64 2 ∧ sv = .string ⟨#[116]⟩) ∨ (iv = .int .i64 3 ∧ sv = .string ⟨#[116, 99]⟩)) ∧ St W0 wr K (.raw b #[.bool false, .bool true, .bool true] 85 :: L)) (fun _ iv _ => 4 - (intOf iv).toNat)
  case atStart => exact ⟨.inl ⟨rfl, rfl⟩, H.out⟩
  case round =>
    obtain ⟨hd, hst⟩ := hrel
    clear H c0 c1 c2
    have H := Lib.hid hst
    clear hst
    rcases hd with ⟨rfl, rfl⟩ | ⟨rfl, rfl⟩ | ⟨rfl, rfl⟩ | ⟨rfl, rfl⟩
    · go_wp2_with fail
      go_roundw
      case rel => exact ⟨.inr (.inl ⟨by go_num, by rfl⟩), H.out⟩
      case measure => first | (simp [intOf]; done) | (simp [intOf]; omega)
    · go_wp2_with fail
      go_roundw
      case rel => exact ⟨.inr (.inr (.inl ⟨by go_num, by rfl⟩)), H.out⟩
      case measure => first | (simp [intOf]; done) | (simp [intOf]; omega)
    · go_wp2_with fail
      go_roundw
      case rel => exact ⟨.inr (.inr (.inr ⟨by go_num, by rfl⟩)), H.out⟩
      case measure => first | (simp [intOf]; done) | (simp [intOf]; omega)
    · go_wp2_with fail
      go_ret
      exact ⟨by rfl, H.out.drop⟩

set_option maxHeartbeats 4000000 in
set_option maxRecDepth 100000 in
theorem sc_let_ftf {W0 w : World} {K : Know} {L : List Res} (h : St W0 w K L) :
    Calls Tryd.prog 38 #[.agg #[.bool false, .bool true, .bool false]] w fun en w' => en = .returned (.string (bb (letW false true false))) ∧ St W0 w' K L := by
  have hi : ∀ w, (Instr.index 85 (.agg #[.bool false, .bool true, .bool false]) (.int .i64 0)).run Tryd.prog w = .ok (.bool false) w := fun _ => by kernel_rfl
  have hi1 : ∀ w, (Instr.index 85 (.agg #[.bool false, .bool true, .bool false]) (.int .i64 1)).run Tryd.prog w = .ok (.bool true) w := fun _ => by kernel_rfl
  have hi2 : ∀ w, (Instr.index 85 (.agg #[.bool false, .bool true, .bool false]) (.int .i64 2)).run Tryd.prog w = .ok (.bool false) w := fun _ => by kernel_rfl
  obtain ⟨b, hb⟩ : ∃ b, w.heap.size = b := ⟨_, rfl⟩
  have g1 := h.allocRaw #[.bool false, .bool true, .bool false] 85
  rw [hb] at g1
  have c0 := (g1).rawCell 0; have c1 := (g1).rawCell 1; have c2 := (g1).rawCell 2; simp at c0 c1 c2
  have H := Lib.hid g1
  clear h g1
  go_enter Tryd.func38, Tryd.ntmps38
  go_wp2_with fail
  go_loopw [3, 7] (fun sv iv wr => ((iv = .int .i64 0 ∧ sv = .string ⟨#[]⟩) ∨ (iv = .int .i64 1 ∧ sv = .string ⟨#[]⟩) ∨ (iv = .int .i64 2 ∧ sv = .string ⟨#[116]⟩) ∨ (iv = .int .i64 3 ∧ sv = .string ⟨#[116]⟩)) ∧ St W0 wr K (.raw b #[.bool false, .bool true, .bool false] 85 :: L)) (fun _ iv _ => 4 - (intOf iv).toNat)
  case atStart => exact ⟨.inl ⟨rfl, rfl⟩, H.out⟩
  case round =>
    obtain ⟨hd, hst⟩ := hrel
    clear H c0 c1 c2
    have H := Lib.hid hst
    clear hst
    rcases hd with ⟨rfl, rfl⟩ | ⟨rfl, rfl⟩ | ⟨rfl, rfl⟩ | ⟨rfl, rfl⟩
    · go_wp2_with fail
      go_roundw
      case rel => exact ⟨.inr (.inl ⟨by go_num, by rfl⟩), H.out⟩
      case measure => first | (simp [intOf]; done) | (simp [intOf]; omega)
    · go_wp2_with fail
      go_roundw
      case rel => exact ⟨.inr (.inr (.inl ⟨by go_num, by rfl⟩)), H.out⟩
      case measure => first | (simp [intOf]; done) | (simp [intOf]; omega)
    · go_wp2_with fail
      go_roundw
      case rel => exact ⟨.inr (.inr (.inr ⟨by go_num, by rfl⟩)), H.out⟩
      case measure => first | (simp [intOf]; done) | (simp [intOf]; omega)
    · go_wp2_with fail
      go_ret
      exact ⟨by rfl, H.out.drop⟩

set_option maxHeartbeats 4000000 in
set_option maxRecDepth 100000 in
theorem sc_let_fft {W0 w : World} {K : Know} {L : List Res} (h : St W0 w K L) :
    Calls Tryd.prog 38 #[.agg #[.bool false, .bool false, .bool true]] w fun en w' => en = .returned (.string (bb (letW false false true))) ∧ St W0 w' K L := by
  have hi : ∀ w, (Instr.index 85 (.agg #[.bool false, .bool false, .bool true]) (.int .i64 0)).run Tryd.prog w = .ok (.bool false) w := fun _ => by kernel_rfl
  have hi1 : ∀ w, (Instr.index 85 (.agg #[.bool false, .bool false, .bool true]) (.int .i64 1)).run Tryd.prog w = .ok (.bool false) w := fun _ => by kernel_rfl
  have hi2 : ∀ w, (Instr.index 85 (.agg #[.bool false, .bool false, .bool true]) (.int .i64 2)).run Tryd.prog w = .ok (.bool true) w := fun _ => by kernel_rfl
  obtain ⟨b, hb⟩ : ∃ b, w.heap.size = b := ⟨_, rfl⟩
  have g1 := h.allocRaw #[.bool false, .bool false, .bool true] 85
  rw [hb] at g1
  have c0 := (g1).rawCell 0; have c1 := (g1).rawCell 1; have c2 := (g1).rawCell 2; simp at c0 c1 c2
  have H := Lib.hid g1
  clear h g1
  go_enter Tryd.func38, Tryd.ntmps38
  go_wp2_with fail
  go_loopw [3, 7] (fun sv iv wr => ((iv = .int .i64 0 ∧ sv = .string ⟨#[]⟩) ∨ (iv = .int .i64 1 ∧ sv = .string ⟨#[]⟩) ∨ (iv = .int .i64 2 ∧ sv = .string ⟨#[]⟩) ∨ (iv = .int .i64 3 ∧ sv = .string ⟨#[99]⟩)) ∧ St W0 wr K (.raw b #[.bool false, .bool false, .bool true] 85 :: L)) (fun _ iv _ => 4 - (intOf iv).toNat)
  case atStart => exact ⟨.inl ⟨rfl, rfl⟩, H.out⟩
  case round =>
    obtain ⟨hd, hst⟩ := hrel
    clear H c0 c1 c2
    have H := Lib.hid hst
    clear hst
    rcases hd with ⟨rfl, rfl⟩ | ⟨rfl, rfl⟩ | ⟨rfl, rfl⟩ | ⟨rfl, rfl⟩
    · go_wp2_with fail
      go_roundw
      case rel => exact ⟨.inr (.inl ⟨by go_num, by rfl⟩), H.out⟩
      case measure => first | (simp [intOf]; done) | (simp [intOf]; omega)
    · go_wp2_with fail
      go_roundw
      case rel => exact ⟨.inr (.inr (.inl ⟨by go_num, by rfl⟩)), H.out⟩
      case measure => first | (simp [intOf]; done) | (simp [intOf]; omega)
    · go_wp2_with fail
      go_roundw
      case rel => exact ⟨.inr (.inr (.inr ⟨by go_num, by rfl⟩)), H.out⟩
      case measure => first | (simp [intOf]; done) | (simp [intOf]; omega)
    · go_wp2_with fail
      go_ret
      exact ⟨by rfl, H.out.drop⟩

set_option maxHeartbeats 4000000 in
set_option maxRecDepth 100000 in
theorem sc_let_fff {W0 w : World} {K : Know} {L : List Res} (h : St W0 w K L) :
    Calls Tryd.prog 38 #[.agg #[.bool false, .bool false, .bool false]] w fun en w' => en = .returned (.string (bb (letW false false false))) ∧ St W0 w' K L := by
  have hi : ∀ w, (Instr.index 85 (.agg #[.bool false, .bool false, .bool false]) (.int .i64 0)).run Tryd.prog w = .ok (.bool false) w := fun _ => by kernel_rfl
  have hi1 : ∀ w, (Instr.index 85 (.agg #[.bool false, .bool false, .bool false]) (.int .i64 1)).run Tryd.prog w = .ok (.bool false) w := fun _ => by kernel_rfl
  have hi2 : ∀ w, (Instr.index 85 (.agg #[.bool false, .bool false, .bool false]) (.int .i64 2)).run Tryd.prog w = .ok (.bool false) w := fun _ => by kernel_rfl
  obtain ⟨b, hb⟩ : ∃ b, w.heap.size = b := ⟨_, rfl⟩
  have g1 := h.allocRaw #[.bool false, .bool false, .bool false] 85
  rw [hb] at g1
  have c0 := (g1).rawCell 0; have c1 := (g1).rawCell 1; have c2 := (g1).rawCell 2; simp at c0 c1 c2
  have H := Lib.hid g1
  clear h g1
  go_enter Tryd.func38, Tryd.ntmps38
  go_wp2_with fail
  go_loopw [3, 7] (fun sv iv wr => ((iv = .int .i64 0 ∧ sv = .string ⟨#[]⟩) ∨ (iv = .int .i64 1 ∧ sv = .string ⟨#[]⟩) ∨ (iv = .int .i64 2 ∧ sv = .string ⟨#[]⟩) ∨ (iv = .int .i64 3 ∧ sv = .string ⟨#[]⟩)) ∧ St W0 wr K (.raw b #[.bool false, .bool false, .bool false] 85 :: L)) (fun _ iv _ => 4 - (intOf iv).toNat)
  case atStart => exact ⟨.inl ⟨rfl, rfl⟩, H.out⟩
  case round =>
    obtain ⟨hd, hst⟩ := hrel
    clear H c0 c1 c2
    have H := Lib.hid hst
    clear hst
    rcases hd with ⟨rfl, rfl⟩ | ⟨rfl, rfl⟩ | ⟨rfl, rfl⟩ | ⟨rfl, rfl⟩
    · go_wp2_with fail
      go_roundw
      case rel => exact ⟨.inr (.inl ⟨by go_num, by rfl⟩), H.out⟩
      case measure => first | (simp [intOf]; done) | (simp [intOf]; omega)
    · go_wp2_with fail
      go_roundw
      case rel => exact ⟨.inr (.inr (.inl ⟨by go_num, by rfl⟩)), H.out⟩
      case measure => first | (simp [intOf]; done) | (simp [intOf]; omega)
    · go_wp2_with fail
      go_roundw
      case rel => exact ⟨.inr (.inr (.inr ⟨by go_num, by rfl⟩)), H.out⟩
      case measure => first | (simp [intOf]; done) | (simp [intOf]; omega)
    · go_wp2_with fail
      go_ret
      exact ⟨by rfl, H.out.drop⟩

theorem sc_let (a t c : Bool) {W0 w : World} {K : Know} {L : List Res} (h : St W0 w K L) :
    Calls Tryd.prog 38 #[.agg #[.bool a, .bool t, .bool c]] w fun en w' => en = .returned (.string (bb (letW a t c))) ∧ St W0 w' K L := by
  cases a <;> cases t <;> cases c
  · exact sc_let_fff h
  · exact sc_let_fft h
  · exact sc_let_ftf h
  · exact sc_let_ftt h
  · exact sc_let_tff h
  · exact sc_let_tft h
  · exact sc_let_ttf h
  · exact sc_let_ttt h

end Go.Proofs.YtenojajfacacoaaDoor
