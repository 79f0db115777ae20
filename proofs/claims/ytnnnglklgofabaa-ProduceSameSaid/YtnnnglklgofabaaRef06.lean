/- A text. -/
import Derived.Test.YtnnnglklgofabaaHdrP
import Derived.Deep.RegionHeld3
import Derived.Deep.DeepCutAuto
namespace Go.Proofs.Ytnnnglklgofabaa
open Go.RowKit

theorem hdr_cells4 {W0 w : World} {K : Know} {L : List Res} {l : List HdrS} {b off cap : Nat} (hk : K.has (Know.flat RHdr (.slice (some ⟨b, off, none⟩) l.length cap) 3 l)) {i : Nat} {x : HdrS} (hi : i < l.length) (hx : l[i]'hi = x) (h : St W0 w K L) :
  w.cell? ⟨b, off + i * 3, none⟩ = some (.string (bb x.key)) ∧ w.cell? ⟨b, off + i * 3 + 1, none⟩ = some (.bool x.val.null) ∧ w.cell? ⟨b, off + i * 3 + 2, none⟩ = some (.string (bb x.val.data)) ∧ St W0 w K L := by
 obtain ⟨b', off', hq, c0, c1, c2⟩ := hdr_cells hk h i hi
 cases hq
 rw [hx] at c0 c1 c2
 exact ⟨c0, c1, c2, h⟩
theorem encV_le (b : BlobS) (h : b.data.length ≤ 140737488355328) : (encV b).length ≤ b.data.length + 10 := by
 have hr := b.len_range h
 have := putU_len _ (foldN_lt hr.1 hr.2)
 unfold encV
 rw [List.length_append]; omega
theorem encH_le (x : HdrS) (h : x.size ≤ 140737488355328) : (encH x).length ≤ x.size := by
 unfold HdrS.size at *
 have h1 := encV_le ⟨false, x.key⟩ (by simp only; omega)
 have h2 := encV_le x.val (by omega)
 unfold encH
 simp only at h1
 rw [List.length_append]; omega
theorem encHs_le : ∀ (l : List HdrS), hsize l ≤ 140737488355328 → (l.flatMap encH).length ≤ hsize l
  | [], _ => by simp
  | x :: t, h => by
    have e : hsize (x :: t) = x.size + hsize t := rfl
    have h1 := encH_le x (by omega)
    have h2 := encHs_le t (by omega)
    rw [List.flatMap_cons, List.length_append]; omega

theorem hdr_bool (n : Bool) (d : Bs) (n' : Bool) (d' : Bs) (k k' : Bs) (h : ¬ (⟨k, ⟨n, d⟩⟩ : HdrS) = ⟨k', ⟨n', d'⟩⟩) : (k == k') = false ∨ (k = k' ∧ (n == n') = false) ∨ (k = k' ∧ n = n' ∧ (d == d') = false) := by
 by_cases h1 : k = k'
 · subst h1
   by_cases h2 : n = n'
   · subst h2
     by_cases h3 : d = d'
     · subst h3; exact absurd rfl h
     · exact .inr (.inr ⟨rfl, rfl, by simpa using h3⟩)
   · exact .inr (.inl ⟨rfl, by simpa using h2⟩)
 · exact .inl (by simpa using h1)
set_option maxHeartbeats 1000000 in
set_option maxRecDepth 100000 in
theorem ref06_same (va vb : Value) (a b : List HdrS) (hl : a.length ≤ 9223372036854775807) (hl2 : b.length ≤ 9223372036854775807) {W0 w : World} {K : Know} {L : List Res} (hka : K.has (Know.flat RHdr va 3 a)) (hkb : K.has (Know.flat RHdr vb 3 b)) (h : St W0 w K L) :
   Calls Try.prog 63 #[va, vb] w fun en w' => en = .returned (.bool (decide (a = b))) ∧ St W0 w' K L := by
 obtain ⟨q, cap, rfl⟩ := flat_form hka h
 obtain ⟨q2, cap2, rfl⟩ := flat_form hkb h
 have H := Lib.hid h
 have HA := Lib.hid hka
 have HB := Lib.hid hkb
 clear h hka hkb
 by_cases hlen : a.length = b.length
 · have HLEN := Lib.hid hlen
   have hq : ∀ (P : Prop) [Decidable P], decide P = decide P := fun _ _ => rfl
   obtain ⟨r, hr⟩ : ∃ r, decide (a = b) = r := ⟨_, rfl⟩
   have HR := Lib.hid hr
   rw [hr]
   rw [← hlen]
   clear hr hlen hq
   go_enter Try.func63, Try.ntmps63
   go_wp2
   go_loopw [5] (fun iv wr => ∃ k : Nat, k ≤ a.length ∧ iv = .int .i64 k ∧ a.take k = b.take k ∧ St W0 wr K L) (fun iv _ => a.length - (intOf iv).toNat)
   case atStart => exact ⟨0, Nat.zero_le _, rfl, by simp, H.out⟩
   case round =>
    obtain ⟨k, hk, rfl, heq, hst⟩ := hrel
    have HEQ := Lib.hid heq
    clear heq
    by_cases hlt : k < a.length
    · have hltb : k < b.length := by have := HLEN.out; omega
      obtain ⟨ba, oa, hqa, ya⟩ := hdr_cells HA.out hst k hlt
      obtain ⟨bb', ob, hqb, yb⟩ := hdr_cells HB.out hst k hltb
      subst hqa
      subst hqb
      clear ya yb
      have ea : a.take (k + 1) = a.take k ++ [a[k]'hlt] := List.take_succ_eq_append_getElem hlt
      have eb : b.take (k + 1) = b.take k ++ [b[k]'hltb] := List.take_succ_eq_append_getElem hltb
      have hne : a[k]'hlt ≠ b[k]'hltb → a ≠ b := by rintro h rfl; exact h rfl
      obtain ⟨x, hx⟩ : ∃ x, a[k]'hlt = x := ⟨_, rfl⟩
      obtain ⟨y, hy⟩ : ∃ y, b[k]'hltb = y := ⟨_, rfl⟩
      obtain ⟨c0, c1, c2, hy1⟩ := hdr_cells4 HA.out hlt hx hst
      obtain ⟨d0, d1, d2, hy2⟩ := hdr_cells4 HB.out hltb hy hst
      rw [hx] at ea hne
      rw [hy] at eb hne
      have EA := Lib.hid (And.intro ea (And.intro eb hne))
      have HST := Lib.hid hst
      clear ea eb hne hx hy hltb hst hy1 hy2
      obtain ⟨kx, ⟨nx, dx⟩⟩ := x
      obtain ⟨ky, ⟨ny, dy⟩⟩ := y
      simp only at c0 c1 c2 d0 d1 d2
      by_cases hxy : (⟨kx, ⟨nx, dx⟩⟩ : HdrS) = ⟨ky, ⟨ny, dy⟩⟩
      · cases hxy
        go_wp2
        go_quiet (fail)
        go_wp2
        go_roundw
        case rel => exact ⟨k + 1, hlt, by go_num, by rw [EA.out.1, EA.out.2.1, HEQ.out], HST.out.drewN _⟩
        case measure => first | (simp [intOf]; done) | (simp [intOf]; omega)
      · have HNE := Lib.hid (EA.out.2.2 hxy)
        have hb := hdr_bool _ _ _ _ _ _ hxy
        clear hxy EA
        rcases hb with hb | ⟨rfl, hb⟩ | ⟨rfl, rfl, hb⟩
        all_goals
         go_wp2
         go_quiet (fail)
         go_wp2
         go_ret
         exact ⟨ret_bool (by rw [← HR.out]; exact (decide_eq_false HNE.out).symm), HST.out.drewN _⟩
    · have hke : k = a.length := by omega
      subst hke
      go_wp2
      go_ret
      refine ⟨ret_bool ?_, hst⟩
      have h := HEQ.out
      rw [List.take_of_length_le (by omega), List.take_of_length_le (by have := HLEN.out; omega)] at h
      rw [← HR.out]
      exact (decide_eq_true h).symm
 · obtain ⟨r, hr⟩ : ∃ r, decide (a = b) = r := ⟨_, rfl⟩
   have HR := Lib.hid hr
   have hne : ¬ ((a.length : Int) = (b.length : Int)) := by omega
   have HLEN := Lib.hid hlen
   rw [hr]
   clear hr hlen
   go_enter Try.func63, Try.ntmps63
   go_wp2
   go_ret
   exact ⟨ret_bool (by rw [← HR.out]; exact (decide_eq_false (by rintro rfl; exact HLEN.out rfl)).symm), H.out⟩

end Go.Proofs.Ytnnnglklgofabaa
