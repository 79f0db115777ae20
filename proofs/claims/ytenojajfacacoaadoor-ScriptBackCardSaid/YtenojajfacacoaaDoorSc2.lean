/- Bytes of words. -/
import Derived.Test.YtenojajfacacoaaDoorSc2P
import Derived.Test.YtenojajfacacoaaDoorSb1
import Derived.Test.YtenojajfacacoaaDoorShl
import Derived.Test.YtenojajfacacoaaDoorRegOp
import Derived.RegionTactic
import Derived.WalkMore
namespace Go.Proofs.YtenojajfacacoaaDoor
open Go.RowKit

theorem sl_same {f : FuncId} {a : Array Value} {r : Value} {W0 w : World} {K : Know} {L : List Res} (c : Calls Tryd.prog f a w fun e w' => e = .returned r ∧ w' = w) (h : St W0 w K L) : Calls Tryd.prog f a w fun e w' => e = .returned r ∧ St W0 w' K L :=
  c.mono (by rintro e w' ⟨rfl, rfl⟩; exact ⟨rfl, h⟩)
theorem sl_dig (c : UInt8) (v : Int) (hv : digI c = v) {W0 w : World} {K : Know} {L : List Res} (h : St W0 w K L) :
    Calls Tryd.prog 36 #[.string ⟨#[48, 49, 50, 51, 52, 53, 54, 55, 56, 57, 97, 98, 99, 100, 101, 102]⟩, .int .u8 c.toNat] w fun e w' => e = .returned (.int .i64 v) ∧ St W0 w' K L := by
  have h1 := Tryd.strings_IndexByte ⟨#[48, 49, 50, 51, 52, 53, 54, 55, 56, 57, 97, 98, 99, 100, 101, 102]⟩ c.toNat w
  have e1 : Lib.indexByte (⟨#[48, 49, 50, 51, 52, 53, 54, 55, 56, 57, 97, 98, 99, 100, 101, 102]⟩ : ByteArray).data.toList ((c.toNat : Int).toNat.toUInt8) = v := by
    have e2 : (c.toNat : Int).toNat.toUInt8 = c := by rw [Int.toNat_natCast]; exact UInt8.ofNat_toNat
    rw [e2]
    exact hv
  rw [e1] at h1
  exact sl_same h1 h

theorem or_all : ∀ a b : Fin 16, bits BinOp.or IntKind.i64 ((a.1 : Int) * 16) (b.1 : Int) = (a.1 : Int) * 16 + (b.1 : Int) := by decide +kernel
theorem or_hex (va vb : Int) (ha : 0 ≤ va ∧ va < 16) (hb : 0 ≤ vb ∧ vb < 16) : bits BinOp.or IntKind.i64 (va * 16) vb % 256 = (((UInt8.ofNat (va * 16 + vb).toNat).toNat : Nat) : Int) := by
  have h := or_all ⟨va.toNat, by omega⟩ ⟨vb.toNat, by omega⟩
  simp only at h
  rw [Int.toNat_of_nonneg ha.1, Int.toNat_of_nonneg hb.1] at h
  rw [h, UInt8.toNat_ofNat']
  omega

set_option maxHeartbeats 4000000 in
set_option maxRecDepth 100000 in
theorem sc_bytes_no (s : Bs) (h1 : s ≠ [45]) (h2 : s = [] ∨ s.length % 2 ≠ 0) (hs : s.length ≤ 1000000) {W0 w : World} {K : Know} {L : List Res} (h : St W0 w K L) :
    Calls Tryd.prog 16 #[.string (bb s)] w fun en w' => en = .returned (.tuple #[.string ⟨#[]⟩, .bool false]) ∧ St W0 w' K L := by
  have q1 : (s == [45]) = false := by rw [beq_eq_false_iff_ne]; exact h1
  have H := Lib.hid h
  rcases h2 with rfl | h2
  · clear h h1
    go_enter Tryd.func16, Tryd.ntmps16
    go_wp2
    go_ret2
    exact ⟨rfl, H.out⟩
  · have q3 : (s == []) = false := by rw [beq_eq_false_iff_ne]; rintro rfl; exact h2 rfl
    have q4 : (s != []) = true := by simp [bne, q3]
    have hsl : (s.length : Int) ≤ 1000000 := by omega
    have q5 : (s.length : Int) % 2 = 1 := by omega
    have q6 : (s.length : Int).tmod 2 = 1 := by rw [Int.tmod_eq_emod_of_nonneg (by omega)]; exact q5
    clear h h1 h2
    go_enter Tryd.func16, Tryd.ntmps16
    go_wp2
    go_ret2
    exact ⟨rfl, H.out⟩
set_option maxHeartbeats 4000000 in
set_option maxRecDepth 100000 in
theorem sc_bytes_dash {W0 w : World} {K : Know} {L : List Res} (h : St W0 w K L) :
    Calls Tryd.prog 16 #[.string ⟨#[45]⟩] w fun en w' => en = .returned (.tuple #[.string ⟨#[]⟩, .bool true]) ∧ St W0 w' K L := by
  have H := Lib.hid h
  clear h
  go_enter Tryd.func16, Tryd.ntmps16
  go_wp2
  go_ret2
  exact ⟨rfl, H.out⟩
/-- What bytes a word has, and whether it is one. -/
def hexR (s : Bs) : Bs × Bool := match hexRL s with
  | some c => (c, true)
  | none => ([], false)
set_option maxHeartbeats 4000000 in
set_option maxRecDepth 100000 in
theorem sc_bytes_go (s : Bs) (h1 : s ≠ [45]) (h2 : s ≠ []) (h3 : s.length % 2 = 0) (hs : s.length ≤ 1000000) {W0 w : World} {K : Know} {L : List Res} (h : St W0 w K L) :
    Calls Tryd.prog 16 #[.string (bb s)] w fun en w' => en = .returned (.tuple #[.string (bb (hexR s).1), .bool (hexR s).2]) ∧ St W0 w' K L := by
  have q1 : (s == [45]) = false := by rw [beq_eq_false_iff_ne]; exact h1
  have q3 : (s == []) = false := by rw [beq_eq_false_iff_ne]; exact h2
  have q4 : (s != []) = true := by simp [bne, q3]
  have hsl : (s.length : Int) ≤ 1000000 := by omega
  have q5 : (s.length : Int) % 2 = 0 := by omega
  have q6 : (s.length : Int).tmod 2 = 0 := by rw [Int.tmod_eq_emod_of_nonneg (by omega)]; exact q5
  have H3 := Lib.hid h3
  have H2 := Lib.hid h2
  obtain ⟨b, hb⟩ : ∃ b, w.heap.size = b := ⟨_, rfl⟩
  have g1 := h.sbNew
  rw [hb] at g1
  have H := Lib.hid g1
  clear h g1 h1 h2 h3
  go_enter Tryd.func16, Tryd.ntmps16
  go_wp2_with fail
  go_loopw [5] (fun iv wr => ∃ (j : Nat) (d : Bs), j ≤ s.length ∧ iv = .int .i64 j ∧ Hid (j % 2 = 0) ∧ Hid (d.length ≤ j) ∧ Hid (hexRL s = (hexRL (s.drop j)).map (d ++ ·)) ∧ St W0 wr K (.gen (sbG b d) :: L)) (fun iv _ => s.length - (intOf iv).toNat)
  case atStart => exact ⟨0, [], Nat.zero_le _, rfl, Lib.hid rfl, Lib.hid (Nat.le_refl _), Lib.hid (by rw [List.drop_zero]; cases hexRL s <;> rfl), H.out⟩
  case round =>
    obtain ⟨j, d, hj, rfl, HJ, HD, HX, hst⟩ := hrel
    clear H
    have H := Lib.hid hst
    clear hst
    by_cases hlt : j < s.length
    · have hj1 : j + 1 < s.length := by have := HJ.out; have := H3.out; omega
      have hi0 : (j : Int) < (s.length : Int) := by omega
      have hi1 : (j : Int) + 1 < (s.length : Int) := by omega
      have hi2 : 0 ≤ (j : Int) + 1 := by omega
      have hi3 : 0 ≤ (j : Int) + 1 ∧ (j : Int) + 1 < (s.length : Int) := ⟨hi2, hi1⟩
      obtain ⟨va, hva⟩ : ∃ v, digI (s[j]'hlt) = v := ⟨_, rfl⟩
      obtain ⟨vb, hvb⟩ : ∃ v, digI (s[j + 1]'hj1) = v := ⟨_, rfl⟩
      have HA := Lib.hid hva
      have HB := Lib.hid hvb
      have ca := digI_cases (s[j]'hlt)
      have cb := digI_cases (s[j + 1]'hj1)
      rw [hva] at ca
      rw [hvb] at cb
      clear hva hvb
      by_cases hab : va = -1 ∨ vb = -1
      · have HZ := Lib.hid (show hexR s = ([], false) by unfold hexR; rw [hexRL_bad s d j hj1 HX.out (by rw [HA.out, HB.out]; exact hab)])
        have ya : va < 0 ∨ 0 ≤ va := by omega
        have yb : vb < 0 ∨ 0 ≤ vb := by omega
        clear ca cb
        rcases ya with ya | ya
        · have z1 : decide (va < 0) = true := decide_eq_true ya
          clear hab yb
          go_wp2_with (first
    | (go_at_call 36; (with_reducible refine (sl_dig _ va ?_ H.out).mono ?_); exact HA.out; rintro e_ wn ⟨rfl, h⟩; replace H := Lib.hid h; clear h)
    | (go_at_call 36; (with_reducible refine (sl_dig _ vb ?_ H.out).mono ?_); exact HB.out; rintro e_ wn ⟨rfl, h⟩; replace H := Lib.hid h; clear h))
          go_ret2
          rw [HZ.out]
          exact ⟨rfl, H.out.drop⟩
        · have yb : vb < 0 := by omega
          have z0 : ¬ va < 0 := by omega
          have z1 : decide (va < 0) = false := decide_eq_false z0
          have z2 : decide (vb < 0) = true := decide_eq_true yb
          clear hab
          go_wp2_with (first
    | (go_at_call 36; (with_reducible refine (sl_dig _ va ?_ H.out).mono ?_); exact HA.out; rintro e_ wn ⟨rfl, h⟩; replace H := Lib.hid h; clear h)
    | (go_at_call 36; (with_reducible refine (sl_dig _ vb ?_ H.out).mono ?_); exact HB.out; rintro e_ wn ⟨rfl, h⟩; replace H := Lib.hid h; clear h))
          go_ret2
          rw [HZ.out]
          exact ⟨rfl, H.out.drop⟩
      · have ya : 0 ≤ va ∧ va < 16 := by omega
        have yb : 0 ≤ vb ∧ vb < 16 := by omega
        have z1 : ¬ va < 0 := by omega
        have z2 : ¬ vb < 0 := by omega
        have z3 : decide (va < 0) = false := decide_eq_false z1
        have z4 : decide (vb < 0) = false := decide_eq_false z2
        have HS := Lib.hid (hexRL_step s d j hj1 HX.out (by rw [HA.out]; omega) (by rw [HB.out]; omega))
        have HL := Lib.hid (show d.length ≤ 1000000000000 by have := HD.out; omega)
        clear ca cb hab
        obtain ⟨y, hy⟩ : ∃ y, UInt8.ofNat (digI (s[j]'hlt) * 16 + digI (s[j + 1]'hj1)).toNat = y := ⟨_, rfl⟩
        rw [hy] at HS
        have HOR := Lib.hid (show bits BinOp.or IntKind.i64 (va * 16) vb % 256 = ((y.toNat : Nat) : Int) by rw [← hy, HA.out, HB.out]; exact or_hex va vb ya yb)
        have HD2 := Lib.hid (show (d ++ [y]).length ≤ j + 2 by rw [List.length_append, List.length_singleton]; have := HD.out; omega)
        have HJ2 := Lib.hid (show (j + 2) % 2 = 0 by have := HJ.out; omega)
        clear hy
        go_wp2_with (first
    | (go_at_call 36; (with_reducible refine (sl_dig _ va ?_ H.out).mono ?_); exact HA.out; rintro e_ wn ⟨rfl, h⟩; replace H := Lib.hid h; clear h)
    | (go_at_call 36; (with_reducible refine (sl_dig _ vb ?_ H.out).mono ?_); exact HB.out; rintro e_ wn ⟨rfl, h⟩; replace H := Lib.hid h; clear h)
    | (go_at_call 35; rw [HOR.out]; (with_reducible refine (sb_byte b d y HL.out H.out).mono ?_); rintro e_ wn ⟨rfl, h⟩; replace H := Lib.hid h; clear h))
        go_roundw
        case rel => exact ⟨j + 2, d ++ [y], by omega, by go_num, HJ2, HD2, HS, H.out⟩
        case measure => first | (simp [intOf]; done) | (simp [intOf]; omega)
    · obtain rfl : j = s.length := by omega
      have hx := HX.out
      rw [List.drop_length] at hx
      have hx2 : hexRL s = some d := by rw [hx]; show some (d ++ []) = some d; rw [List.append_nil]
      have HZ := Lib.hid (show hexR s = (d, true) by unfold hexR; rw [hx2])
      have HDN := Lib.hid (show d ≠ [] from fun e => by subst e; exact H2.out (hexRL_one s [] hx2).symm)
      clear hx hx2
      go_wp2_with (go_at_call 24; (with_reducible refine (sb_text b d HDN.out H.out).mono ?_); rintro e_ wn ⟨rfl, h⟩; replace H := Lib.hid h; clear h)
      go_ret2
      rw [HZ.out]
      exact ⟨rfl, H.out⟩
/-- script.Bytes, of any word. -/
def hexV (s : Bs) : Bs × Bool := match hexRd s with
  | some c => (c, true)
  | none => ([], false)
theorem sc_bytes (s : Bs) (hs : s.length ≤ 1000000) {W0 w : World} {K : Know} {L : List Res} (h : St W0 w K L) :
    Calls Tryd.prog 16 #[.string (bb s)] w fun en w' => en = .returned (.tuple #[.string (bb (hexV s).1), .bool (hexV s).2]) ∧ St W0 w' K L := by
  by_cases h1 : s = [45]
  · subst h1
    exact sc_bytes_dash h
  by_cases h2 : s = [] ∨ s.length % 2 ≠ 0
  · have e : hexV s = ([], false) := by
      unfold hexV hexRd
      rw [if_neg h1]
      by_cases h3 : s = []
      · rw [if_pos h3]
      · rw [if_neg h3, hexRL_odd s (h2.resolve_left h3)]
    rw [e]
    exact sc_bytes_no s h1 h2 hs h
  · have h3 : s ≠ [] := fun e => h2 (.inl e)
    have e : hexV s = hexR s := by
      unfold hexV hexRd hexR
      rw [if_neg h1, if_neg h3]
    rw [e]
    exact sc_bytes_go s h1 h3 (by omega) hs h

end Go.Proofs.YtenojajfacacoaaDoor
