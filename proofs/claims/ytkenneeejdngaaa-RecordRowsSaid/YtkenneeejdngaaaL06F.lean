/- Layer 6, walked: HeaderFinds. -/
import Derived.Test.YtkenneeejdngaaaHdr3
namespace Go.Proofs.Ytkenneeejdngaaa
open Go.RowKit

theorem find_take (l : List HdrS) (key : Bs) (k : Nat) (h : k < l.length) : findS (l.take (k + 1)) key = findStep key (findS (l.take k) key) l[k] := by
  unfold findS
  rw [List.take_succ_eq_append_getElem h, List.foldl_append]
  rfl
set_option maxHeartbeats 1000000 in
set_option maxRecDepth 100000 in
theorem headerFinds_walk (v : Value) (l : List HdrS) (key : Bs) (hl : l.length ≤ 9223372036854775807) (hkl : key.length ≤ 9223372036854775807) {W0 w : World} {K : Know} (hk : K.has (Know.flat RHdr v 3 l)) (h : St W0 w K []) :
    Calls Try.prog 7 #[v, .string (bb key)] w fun en w' => en = .returned (.bool true) ∧ Below W0.heap.size W0 w' := by
  obtain ⟨q, cap, rfl⟩ := flat_form hk h
  have H := Lib.hid h
  have HK := Lib.hid hk
  have HL := Lib.hid hl
  clear h hk hkl
  by_cases h2 : 200 < key.length
  · have hlen : decide ((200 : Int) < (key.length : Int)) = true := decide_eq_true (by omega)
    clear h2 hl
    go_enter Try.func7, Try.ntmps7
    go_wp2_with (first
      | (go_at_call 20; refine (speaks06  (by first | (first | with_reducible exact H.out | with_reducible exact H.out.p1 | with_reducible exact H.out.p2 | with_reducible exact H.out.p3 | with_reducible exact H.out.p4 | with_reducible exact H.out.p5) | ((repeat first | with_reducible refine St.drewN ?_ _ | with_reducible refine St.drew ?_ | with_reducible refine St.alloc ?_ _); first | with_reducible exact H.out | with_reducible exact H.out.p1 | with_reducible exact H.out.p2 | with_reducible exact H.out.p3 | with_reducible exact H.out.p4 | with_reducible exact H.out.p5))).mono ?_; rintro e wn ⟨rfl, h⟩; replace H := Lib.hid h; clear h)
      | (go_at_call 21; refine (l06_small _ l HL.out HK.out (by first | (first | with_reducible exact H.out | with_reducible exact H.out.p1 | with_reducible exact H.out.p2 | with_reducible exact H.out.p3 | with_reducible exact H.out.p4 | with_reducible exact H.out.p5) | ((repeat first | with_reducible refine St.drewN ?_ _ | with_reducible refine St.drew ?_ | with_reducible refine St.alloc ?_ _); first | with_reducible exact H.out | with_reducible exact H.out.p1 | with_reducible exact H.out.p2 | with_reducible exact H.out.p3 | with_reducible exact H.out.p4 | with_reducible exact H.out.p5))).mono ?_; rintro e wn ⟨r, rfl, h⟩; replace H := Lib.hid h; clear h; cases r))
    all_goals (go_ret; exact ⟨rfl, H.out.below⟩)
  · have hlen : decide ((200 : Int) < (key.length : Int)) = false := decide_eq_false (by omega)
    clear h2
    go_enter Try.func7, Try.ntmps7
    go_wp2_with (first
      | (go_at_call 20; refine (speaks06  (by first | (first | with_reducible exact H.out | with_reducible exact H.out.p1 | with_reducible exact H.out.p2 | with_reducible exact H.out.p3 | with_reducible exact H.out.p4 | with_reducible exact H.out.p5) | ((repeat first | with_reducible refine St.drewN ?_ _ | with_reducible refine St.drew ?_ | with_reducible refine St.alloc ?_ _); first | with_reducible exact H.out | with_reducible exact H.out.p1 | with_reducible exact H.out.p2 | with_reducible exact H.out.p3 | with_reducible exact H.out.p4 | with_reducible exact H.out.p5))).mono ?_; rintro e wn ⟨rfl, h⟩; replace H := Lib.hid h; clear h)
      | (go_at_call 21; refine (l06_small _ l HL.out HK.out (by first | (first | with_reducible exact H.out | with_reducible exact H.out.p1 | with_reducible exact H.out.p2 | with_reducible exact H.out.p3 | with_reducible exact H.out.p4 | with_reducible exact H.out.p5) | ((repeat first | with_reducible refine St.drewN ?_ _ | with_reducible refine St.drew ?_ | with_reducible refine St.alloc ?_ _); first | with_reducible exact H.out | with_reducible exact H.out.p1 | with_reducible exact H.out.p2 | with_reducible exact H.out.p3 | with_reducible exact H.out.p4 | with_reducible exact H.out.p5))).mono ?_; rintro e wn ⟨r, rfl, h⟩; replace H := Lib.hid h; clear h; cases r))
    · go_ret
      exact ⟨rfl, H.out.below⟩
    · have H1 := Lib.hid (H.out.allocRaw #[.bool false, .string ⟨#[]⟩] 55)
      obtain ⟨b5, hb5⟩ : ∃ b5, wn.heap.size = b5 := ⟨_, rfl⟩
      rw [hb5] at H1 ⊢
      clear hb5
      go_loopw [6, 24] (fun tv iv wr => ∃ (k : Nat) (a : BlobS × Bool), k ≤ l.length ∧ iv = .int .i64 k ∧ tv = .bool a.2 ∧ findS (l.take k) key = a ∧ St W0 wr K [.raw b5 #[.bool a.1.null, .string (bb a.1.data)] 55]) (fun _ iv _ => l.length - (intOf iv).toNat)
      case atStart => exact ⟨0, (⟨false, []⟩, false), Nat.zero_le _, rfl, rfl, rfl, H1.out⟩
      case round =>
        obtain ⟨k, a, hkk, rfl, rfl, ha, hst⟩ := hrel
        have HA := Lib.hid ha
        have HST := Lib.hid hst
        clear ha
        by_cases hlt : k < l.length
        · obtain ⟨b, off, hq, c0, c1, c2⟩ := hdr_cells HK.out hst k hlt
          subst hq
          have hft := find_take l key k hlt
          obtain ⟨x, hx⟩ : ∃ x, l[k]'hlt = x := ⟨_, rfl⟩
          rw [hx, HA.out] at hft
          rw [hx] at c0 c1 c2
          have HF := Lib.hid hft
          have z0 := HST.out.rawCell 0
          have z1 := HST.out.rawCell 1
          have g0 := HST.out.rawFree 0
          have g1 := HST.out.rawFree 1
          simp at z0 z1
          have hb5 := heap_lt HST.out.rawGet
          clear hst hx hft
          by_cases he : x.key = key
          · have hb : (x.key == key) = true := by simp [he]
            have HE := Lib.hid he
            clear he
            go_wp2
            go_roundw
            case rel =>
              refine ⟨k + 1, (x.val, true), hlt, by go_num, rfl, by rw [HF.out]; exact if_pos HE.out, ?_⟩
              exact ((HST.out.rawSet 0 _).rawSet 1 _).alloc _
            case measure => first | (simp [intOf]; done) | (simp [intOf]; omega)
          · have hb : (x.key == key) = false := by simp [he]
            have HE := Lib.hid he
            clear he
            go_wp2
            go_roundw
            case rel => exact ⟨k + 1, a, hlt, by go_num, rfl, by rw [HF.out]; exact if_neg HE.out, HST.out.alloc _⟩
            case measure => first | (simp [intOf]; done) | (simp [intOf]; omega)
        · have hke : k = l.length := by omega
          subst hke
          rw [List.take_length] at HA
          obtain ⟨r, hr⟩ : ∃ r, a = r := ⟨_, rfl⟩
          subst hr
          have H := HST
          have EF := HA
          clear hst HST H1
          go_wp2_with (go_at_call 33; refine (header_find _ l key HL.out HK.out (by first | (first | with_reducible exact H.out | with_reducible exact H.out.p1 | with_reducible exact H.out.p2 | with_reducible exact H.out.p3 | with_reducible exact H.out.p4 | with_reducible exact H.out.p5) | ((repeat first | with_reducible refine St.drewN ?_ _ | with_reducible refine St.drew ?_ | with_reducible refine St.alloc ?_ _); first | with_reducible exact H.out | with_reducible exact H.out.p1 | with_reducible exact H.out.p2 | with_reducible exact H.out.p3 | with_reducible exact H.out.p4 | with_reducible exact H.out.p5))).mono ?_; (repeat first | rw [EF.out]); rintro e wn ⟨rfl, h⟩; replace H := Lib.hid h; clear h; have c0 := H.out.cellOf (b := b5) (c := #[.bool a.1.null, .string (bb a.1.data)]) (T := 55) (by simp) 0; have c1 := H.out.cellOf (b := b5) (c := #[.bool a.1.null, .string (bb a.1.data)]) (T := 55) (by simp) 1; simp at c0 c1; have hb5 := heap_lt H.out.rawGet; unfold bv)
          go_ret
          exact ⟨rfl, (H.out.alloc _).below⟩

theorem rhdr_start {W : World} {v : Value} {l : List HdrS} (hr : RowsOf (fun _ cs x => RHdr cs x) (· < W.heap.size) W v 3 l) : St W W (Know.flat RHdr v 3 l) [] := St.start hr
theorem headerFinds_any (l : List HdrS) (v : Value) (key : Bs) (w : World) (hr : RowsOf (fun _ cs x => RHdr cs x) (· < w.heap.size) w v 3 l) (hl : l.length ≤ maxLen) (hk : key.length ≤ maxLen) :
    Calls Try.prog 7 #[v, .string (bb key)] w fun en w' => en = .returned (.bool true) ∧ Below w.heap.size w w' :=
  headerFinds_walk v l key hl hk (Know.has_refl _) (rhdr_start hr)

end Go.Proofs.Ytkenneeejdngaaa
