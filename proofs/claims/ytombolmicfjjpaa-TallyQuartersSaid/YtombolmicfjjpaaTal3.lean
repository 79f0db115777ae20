/- Sums of sizes, turned. -/
import Derived.Test.YtombolmicfjjpaaTal2P
import Derived.Test.YtombolmicfjjpaaHdr1
import Derived.Laws.Cover2
namespace Go.Proofs.Ytombolmicfjjpaa
open Go.RowKit

def RIt (cs : List Value) (x : Int) : Prop := cs = [.int .i64 x]
theorem fi_at {α : Type} {R : List Value → α → Prop} {sz n cap : Nat} {q : Option Addr} {l : List α} {W0 w : World} {K : Know} {L : List Res} (hk : K.has (Know.flat R (.slice q n cap) sz l)) (h : St W0 w K L) (h0 : 0 < l.length) : ∃ b off, q = some ⟨b, off, none⟩ := by
  obtain ⟨F, hF, _⟩ := h.get
  obtain ⟨q2, cap2, hv, hr⟩ := (hk _ _ hF).at
  obtain ⟨b, off, hq, _⟩ := hr h0
  simp at hv
  exact ⟨b, off, hv.1.trans hq⟩
theorem fi_cell {α : Type} {R : List Value → α → Prop} {sz n cap b off : Nat} {l : List α} {W0 w : World} {K : Know} {L : List Res} (hk : K.has (Know.flat R (.slice (some ⟨b, off, none⟩) n cap) sz l)) (h : St W0 w K L) (i : Nat) (hi : i < l.length) : ∃ cs, R cs l[i] ∧ ∀ f u, cs[f]? = some u → w.cell? ⟨b, off + (i * sz + f), none⟩ = some u := by
  obtain ⟨F, hF, _⟩ := h.get
  obtain ⟨q2, cap2, hv, hr⟩ := (hk _ _ hF).at
  obtain ⟨b2, off2, hq, hc⟩ := hr (by omega)
  rw [hq] at hv
  simp at hv
  obtain ⟨⟨rfl, rfl⟩, _, _⟩ := hv
  obtain ⟨cs, _, h1, h2⟩ := hc i hi
  exact ⟨cs, h1, h2⟩

set_option maxHeartbeats 1000000 in
set_option maxRecDepth 100000 in
theorem tal_quarter (k : Int) (l : List Int) (q0 : Option Addr) (cap : Nat) (hl : Lim 2147483648 l) (hn : l.length ≤ 1000) {W0 w : World} {K : Know} {L : List Res} (hk : K.has (Know.flat RIt (.slice q0 l.length cap) 1 l)) (h : St W0 w K L) :
    Calls Try.prog 66 #[.int .i64 k, .slice q0 l.length cap] w fun en w' => ∃ x y, en = .returned (.complex .f64 x y) ∧ FI x (qa k l l.length).1 ∧ FI y (qa k l l.length).2 ∧ St W0 w' K L := by
  have H := Lib.hid h
  have HK := Lib.hid hk
  have HL := Lib.hid hl
  have hni : (l.length : Int) ≤ 1000 := by omega
  clear h hk hl
  go_enter Try.func66, Try.ntmps66
  go_wp2
  go_loopw [5, 6, 7, 10] (fun sv _ _ iv wr => ∃ (i : Nat) (x y : Nat), i ≤ l.length ∧ iv = .int .i64 i ∧ sv = .complex .f64 x y ∧ Hid (FI x (qa k l i).1) ∧ Hid (FI y (qa k l i).2) ∧ St W0 wr K L) (fun _ _ _ iv _ => l.length - (intOf iv).toNat)
  case atStart => exact ⟨0, 0, 0, Nat.zero_le _, rfl, rfl, Lib.hid FI.zero, Lib.hid FI.zero, H.out⟩
  case round =>
    obtain ⟨i, x, y, hi, rfl, rfl, FX, FY, hst⟩ := hrel
    clear H
    have H := Lib.hid hst
    clear hst
    by_cases hlt : i < l.length
    · obtain ⟨b, off, hqq⟩ := fi_at HK.out H.out (by omega)
      subst hqq
      obtain ⟨cs, hR, hc⟩ := fi_cell HK.out H.out i hlt
      obtain ⟨s, hs⟩ : ∃ s, l[i] = s := ⟨_, rfl⟩
      rw [hs] at hR
      unfold RIt at hR
      subst hR
      have c0 := hc 0 _ rfl
      rw [Nat.mul_one, Nat.add_zero] at c0
      have hsM := HL.out s (hs ▸ List.getElem_mem hlt)
      have hgd : l.getD i 0 = s := by rw [List.getD_eq_getElem?_getD, List.getElem?_eq_getElem hlt, hs]; rfl
      obtain ⟨r, hr⟩ : ∃ r, (k * (i : Int)) % 4 = r := ⟨_, rfl⟩
      obtain ⟨q, hq⟩ : ∃ q, IntKind.i64.wrap (k * (i : Int)) = q := ⟨_, rfl⟩
      have HQ := Lib.hid (show q % 4 = r by rw [mod4_wrap k i q hq, hr])
      have FS := Lib.hid (FI.conv s (by unfold Wh; omega))
      have hst1 : (qa k l (i + 1)).1 = (qa k l i).1 + (turnI r s 0).1 := by rw [← hr, ← hgd]; rfl
      have hst2 : (qa k l (i + 1)).2 = (qa k l i).2 + (turnI r s 0).2 := by rw [← hr, ← hgd]; rfl
      have hw := qa_wh k l HL.out (i + 1) (by omega)
      have WX := Lib.hid (show Wh ((qa k l i).1 + (turnI r s 0).1) by rw [← hst1]; exact hw.1)
      have WY := Lib.hid (show Wh ((qa k l i).2 + (turnI r s 0).2) by rw [← hst2]; exact hw.2)
      have S1 := Lib.hid hst1
      have S2 := Lib.hid hst2
      have hii : (i : Int) < (l.length : Int) := by omega
      clear hc hs hsM hgd hr hst1 hst2 hw
      go_wp2_with (go_at_call 68; (with_reducible refine (tal_turn (floatOfInt .f64 s) 0 s 0 FS.out FI.zero q r HQ.out H.out).mono ?_); rintro e_ wn ⟨x2, y2, rfl, hx2, hy2, h⟩; obtain ⟨x3, ex, fx⟩ := FI.add FX.out hx2 WX.out; obtain ⟨y3, ey, fy⟩ := FI.add FY.out hy2 WY.out; have hadd := run_cadd 105 ex ey; have FX3 := Lib.hid fx; have FY3 := Lib.hid fy; clear ex ey fx fy hx2 hy2; replace H := Lib.hid h; clear h)
      go_roundw
      case rel => exact ⟨i + 1, x3, y3, hlt, by go_num, rfl, Lib.hid (by rw [S1.out]; exact FX3.out), Lib.hid (by rw [S2.out]; exact FY3.out), H.out⟩
      case measure => first | (simp [intOf]; done) | (simp [intOf]; omega)
    · obtain rfl : i = l.length := by omega
      go_wp2
      go_ret
      exact ⟨x, y, rfl, FX.out, FY.out, H.out⟩

end Go.Proofs.Ytombolmicfjjpaa
