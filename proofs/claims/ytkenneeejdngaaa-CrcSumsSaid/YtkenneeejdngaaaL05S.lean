/- Layer 5, walked: what it stands on. -/
import Derived.Test.YtkenneeejdngaaaCrcS
import Derived.Test.YtkenneeejdngaaaBytesR
namespace Go.Proofs.Ytkenneeejdngaaa
open Go.RowKit

theorem St.freezeStrs {W0 w : World} {K : Know} {L : List Res} {r : Nat} (l : List Bs) (h : St W0 w K (.raw r (l.map fun s => Value.string (bb s)).toArray 9 :: L)) : St W0 w (K.and (Know.strs (.slice (some ⟨r, 0, none⟩) l.length l.length) l)) L := by
  refine h.freeze fun F S1 _ h1 => ?_
  have hlt := heap_lt h1.1
  refine ⟨some ⟨r, 0, none⟩, l.length, rfl, fun _ => ⟨r, 0, rfl, .inr ⟨(h1.2 r).2 rfl, hlt⟩, hlt, fun i hi => ?_⟩⟩
  refine ⟨[.string (bb l[i])], rfl, rfl, fun f u hu => ?_⟩
  rw [cell_at h1.1]
  cases f with
  | zero =>
    simp at hu
    subst hu
    simp [hi]
  | succ f => simp at hu
theorem crc_sumR (b r n : Nat) (l : List Bs) (x : Nat) (hn : l.length = n) (hx : (crcParts 0#32 l).toNat = x) (hs : ∀ s ∈ l, s.length ≤ 140737488355328) (hl : l.length ≤ 9223372036854775807) {W0 w : World} {K : Know} {L : List Res} (h : St W0 w K (.raw r (l.map fun s => Value.string (bb s)).toArray 9 :: .raw b (tabC 256) 90 :: L)) :
    Calls Try.prog 19 #[tabPtr b, .slice (some ⟨r, 0, none⟩) n n] w fun en w' => en = .returned (.int .u32 x) ∧ St W0 w' K (.raw b (tabC 256) 90 :: L) := by
  subst hn; subst hx
  exact (crc_sum b _ l hl hs (Know.has_right (Know.has_refl _)) (h.freezeStrs l)).mono fun en w' hh => ⟨hh.1, hh.2.know (Know.has_left (Know.has_refl _))⟩
theorem crc_sum0 (b : Nat) {W0 w : World} {K : Know} {L : List Res} (h : St W0 w K (.raw b (tabC 256) 90 :: L)) :
    Calls Try.prog 19 #[tabPtr b, .slice none 0 0] w fun en w' => en = .returned (.int .u32 0) ∧ St W0 w' K (.raw b (tabC 256) 90 :: L) :=
  crc_sum b (.slice none 0 0) [] (by simp) (by simp) (fun _ _ _ => ⟨none, 0, rfl, fun h => absurd h (by simp)⟩) h
set_option maxHeartbeats 1000000 in
set_option maxRecDepth 100000 in
theorem speaks05 {W0 w : World} {K : Know} {L : List Res} (h : St W0 w K L) :
    Calls Try.prog 15 #[] w fun en w' => en = .returned (.bool true) ∧ St W0 w' K L := by
  have H := Lib.hid h
  have k1 : True := trivial
  clear h
  go_enter Try.func15, Try.ntmps15
  go_wp2_with (first
    | (go_at_call 16; refine (crc_new H.out).mono ?_; rintro e wn ⟨bt, rfl, h⟩; replace H := Lib.hid h; clear h)
    | (go_at_call 19; have _t := k1; clear _t; refine (crc_sumR bt _ 2 [[49, 50, 51, 52], [53, 54, 55, 56, 57]] 3808858755 rfl (by decide +kernel) (by decide) (by decide) (H.out.allocRaw #[.string (bb [49, 50, 51, 52]), .string (bb [53, 54, 55, 56, 57])] 9)).mono ?_; rintro e wn ⟨rfl, h⟩; replace H := Lib.hid h; clear h k1; have k2 : True := trivial)
    | (go_at_call 19; have _t := k2; clear _t; refine (crc_sum0 bt H.out).mono ?_; rintro e wn ⟨rfl, h⟩; replace H := Lib.hid h; clear h k2))
  go_ret
  exact ⟨rfl, H.out.drop⟩

theorem conv_st {W0 w : World} {K : Know} {L : List Res} (_h : St W0 w K L) (s : Bs) :
    ∃ C cap, s.length ≤ C.size ∧ (∀ j (h : j < s.length), C[j]? = some (.int .u8 (s[j].toNat : Int))) ∧
      (convert 9 32 (.string (bb s))).run Try.prog w = .ok (.slice (some ⟨w.heap.size, 0, none⟩) s.length cap) (w.drew.alloc (.cells C 5 (C.size, C.size + 1))) := conv_bytes' w s

end Go.Proofs.Ytkenneeejdngaaa
