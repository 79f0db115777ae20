/- A text. -/
import Derived.Test.YtnnnglklgofabaaGreatRef04
import Derived.Test.YtnnnglklgofabaaGreatHdrP
import Derived.Deep.RegionHeld3
import Derived.Deep.DeepCutAuto
namespace Go.Proofs.YtnnnglklgofabaaGreat
open Go.RowKit

set_option maxHeartbeats 1000000 in
set_option maxRecDepth 100000 in
theorem ref06_int (n : Int) (hn : -9223372036854775808 ≤ n ∧ n < 9223372036854775808) {W0 w : World} {K : Know} {L : List Res} (h : St W0 w K L) :
  Calls Tryz.prog 110 #[.int .i64 n] w fun en w' => en = .returned (.string (bb (encI n))) ∧ St W0 w' K L := by
 have H := Lib.hid h; have HN := Lib.hid hn; have HF := Lib.hid (foldN_lt hn.1 hn.2); clear h hn; go_enter Tryz.func110, Tryz.ntmps110
 go_wp2_with (first
  | (go_at_call 144; (with_reducible refine (ref_fold _ HN.out H.out).mono ?_); rintro e wn ⟨rfl, h⟩; replace H := Lib.hid h; clear h)
  | (go_at_call 143; (with_reducible refine (ref_put _ HF.out H.out).mono ?_); rintro e wn ⟨rfl, h⟩; replace H := Lib.hid h; clear h))
 go_ret; exact ⟨rfl, H.out⟩

set_option maxHeartbeats 1000000 in
set_option maxRecDepth 100000 in
theorem ref06_right (v : Value) (l : List HdrS) (hl : l.length ≤ 9223372036854775807) {W0 w : World} {K : Know} {L : List Res} (hk : K.has (Know.flat RHdr v 3 l)) (h : St W0 w K L) :
   Calls Tryz.prog 134 #[v] w fun en w' => en = .returned (.bool (hright l)) ∧ St W0 w' K L := by
 obtain ⟨q, cap, rfl⟩ := flat_form hk h; have H := Lib.hid h; have HK := Lib.hid hk; clear h hk; go_enter Tryz.func134, Tryz.ntmps134; go_wp2; go_loopw [3] (fun iv wr => ∃ (k : Nat), k ≤ l.length ∧ iv = .int .i64 k ∧ hright (l.take k) = true ∧ St W0 wr K L) (fun iv _ => l.length - (intOf iv).toNat)
 case atStart => exact ⟨0, Nat.zero_le _, rfl, rfl, H.out⟩
 case round =>
   obtain ⟨k, hk, rfl, hr, hst⟩ := hrel; have HR := Lib.hid hr; have HST := Lib.hid hst; clear hr
   by_cases hlt : k < l.length
   · obtain ⟨b, off, hq, c0, c1, c2⟩ := hdr_cells HK.out hst k hlt; subst hq
     have hnx : hright (l.take (k + 1)) = (l[k]'hlt).val.right := by
       have := HR.out; unfold hright at *; rw [List.take_succ_eq_append_getElem hlt, List.all_append, this]
       simp
     have hall : (l[k]'hlt).val.right = false → hright l = false := by
       intro h; unfold hright; rw [List.all_eq_false]; exact ⟨_, List.getElem_mem hlt, by rw [h]; decide⟩
     obtain ⟨x, hx⟩ : ∃ x, l[k]'hlt = x := ⟨_, rfl⟩; rw [hx] at c0 c1 c2 hnx hall; have HX := Lib.hid (And.intro hnx hall); clear hst hx hnx hall; obtain ⟨kx, ⟨n, d⟩⟩ := x; simp only at c0 c1 c2
     have key : ∀ (r : Bool), (n && !d.isEmpty) = !r → (⟨n, d⟩ : BlobS).right = r := by
       intro r hr; unfold BlobS.right
       cases n <;> cases r <;> cases d <;> simp_all
     have HKEY := Lib.hid key; clear key
     cases n <;> cases d
     all_goals
       go_wp2
       first
       | (go_roundw
          case rel => exact ⟨k + 1, hlt, by go_num, by rw [HX.out.1]; rfl, HST.out⟩
          case measure => first | (simp [intOf]; done) | (simp [intOf]; omega))
       | (go_ret
          exact ⟨ret_bool (HX.out.2 rfl).symm, HST.out⟩)
   · have hke : k = l.length := by omega
     subst hke; rw [List.take_length] at HR; clear hst; go_wp2; go_ret; exact ⟨ret_bool HR.out.symm, HST.out⟩

theorem hdr_cells4 {W0 w : World} {K : Know} {L : List Res} {l : List HdrS} {b off cap : Nat} (hk : K.has (Know.flat RHdr (.slice (some ⟨b, off, none⟩) l.length cap) 3 l)) {i : Nat} {x : HdrS} (hi : i < l.length) (hx : l[i]'hi = x) (h : St W0 w K L) :
  w.cell? ⟨b, off + i * 3, none⟩ = some (.string (bb x.key)) ∧ w.cell? ⟨b, off + i * 3 + 1, none⟩ = some (.bool x.val.null) ∧ w.cell? ⟨b, off + i * 3 + 2, none⟩ = some (.string (bb x.val.data)) ∧ St W0 w K L := by
 obtain ⟨b', off', hq, c0, c1, c2⟩ := hdr_cells hk h i hi
 cases hq
 rw [hx] at c0 c1 c2; exact ⟨c0, c1, c2, h⟩
theorem ref04_variedQ (n : Bool) (d r : Bs) (hr : encV ⟨n, d⟩ = r) (hb : d.length ≤ 70368744177664) {W0 w : World} {K : Know} {L : List Res} (h : St W0 w K L) :
  Calls Tryz.prog 111 #[.agg #[.bool n, .string (bb d)]] w fun en w' => en = .returned (.string (bb r)) ∧ St W0 w' K L := by
 subst hr; exact ref04_varied ⟨n, d⟩ hb h
theorem encV_le (b : BlobS) (h : b.data.length ≤ 140737488355328) : (encV b).length ≤ b.data.length + 10 := by
 have hr := b.len_range h; have := putU_len _ (foldN_lt hr.1 hr.2); unfold encV; rw [List.length_append]; omega
theorem encH_le (x : HdrS) (h : x.size ≤ 140737488355328) : (encH x).length ≤ x.size := by
 unfold HdrS.size at *; have h1 := encV_le ⟨false, x.key⟩ (by simp only; omega); have h2 := encV_le x.val (by omega); unfold encH; simp only at h1; rw [List.length_append]; omega
theorem encHs_le : ∀ (l : List HdrS), hsize l ≤ 140737488355328 → (l.flatMap encH).length ≤ hsize l
  | [], _ => by simp
  | x :: t, h => by
    have e : hsize (x :: t) = x.size + hsize t := rfl; have h1 := encH_le x (by omega); have h2 := encHs_le t (by omega); rw [List.flatMap_cons, List.length_append]; omega

set_option maxHeartbeats 1000000 in
set_option maxRecDepth 100000 in
theorem ref06_write (v : Value) (l : List HdrS) (hs : hsize l ≤ 70368744177664) {W0 w : World} {K : Know} {L : List Res} (hk : K.has (Know.flat RHdr v 3 l)) (h : St W0 w K L) :
  Calls Tryz.prog 112 #[v] w fun en w' => en = .returned (.string (bb (encHs l))) ∧ St W0 w' K L := by
 obtain ⟨q, cap, rfl⟩ := flat_form hk h
 have hl : l.length ≤ 70368744177664 := by
  have : l.length ≤ hsize l := by
    have h1 := hsum_le l
    omega
  omega
 have H := Lib.hid h; have HK := Lib.hid hk; have HS := Lib.hid hs; have HN := Lib.hid (show -9223372036854775808 ≤ (l.length : Int) ∧ (l.length : Int) < 9223372036854775808 by omega); have HI := Lib.hid (show (encI l.length).length ≤ 10 from putU_len _ (foldN_lt HN.out.1 HN.out.2)); clear h hk hs; go_enter Tryz.func112, Tryz.ntmps112; go_wp2_with (go_at_call 110; (with_reducible refine (ref06_int _ HN.out H.out).mono ?_); rintro e wn ⟨rfl, h⟩; replace H := Lib.hid h; clear h); go_loopw [3, 4] (fun sv iv wr => ∃ (k : Nat), k ≤ l.length ∧ iv = .int .i64 k ∧ sv = .string (bb (encI l.length ++ (l.take k).flatMap encH)) ∧ St W0 wr K L) (fun _ iv _ => l.length - (intOf iv).toNat)
 case atStart => exact ⟨0, Nat.zero_le _, rfl, by rw [List.take_zero, List.flatMap_nil, List.append_nil], H.out⟩
 case round =>
  obtain ⟨k, hk, rfl, rfl, hst⟩ := hrel
  by_cases hlt : k < l.length
  · obtain ⟨b, off, hq, _⟩ := hdr_cells HK.out hst k hlt; subst hq; have hsp := hsize_split l k hlt; have hle := encHs_le (l.take k) (by have := HS.out; omega); have hn : (l.take (k + 1)).flatMap encH = (l.take k).flatMap encH ++ encH (l[k]'hlt) := by rw [List.take_succ_eq_append_getElem hlt, List.flatMap_append]; simp
    obtain ⟨x, hx⟩ : ∃ x, l[k]'hlt = x := ⟨_, rfl⟩; rw [hx] at hn hsp; have hst1 := hst.drew; obtain ⟨c0, c1, c2, _⟩ := hdr_cells4 HK.out hlt hx hst1; have HKX := Lib.hid (fun (w' : World) (h' : St W0 w' K L) => hdr_cells4 HK.out hlt hx h'); obtain ⟨e0, he0⟩ : ∃ e, encI l.length ++ (l.take k).flatMap encH = e := ⟨_, rfl⟩; have hel : e0.length ≤ 10 + hsize (l.take k) := by rw [← he0, List.length_append]; have := HI.out; omega
    rw [he0]; obtain ⟨v1, hv1⟩ : ∃ r, encV ⟨false, x.key⟩ = r := ⟨_, rfl⟩; obtain ⟨v2, hv2⟩ : ∃ r, encV ⟨x.val.null, x.val.data⟩ = r := ⟨_, rfl⟩; have hxs : x.size = x.key.length + x.val.data.length + 32 := rfl; have hb1 := encV_le ⟨false, x.key⟩ (by simp only; have := HS.out; omega); have hb2 := encV_le ⟨x.val.null, x.val.data⟩ (by simp only; have := HS.out; omega); rw [hv1] at hb1; rw [hv2] at hb2; simp only at hb1 hb2; have hz1 : ¬ (9223372036854775807 < e0.length + v1.length) := by have := HS.out; omega
    have hz2 : ¬ (9223372036854775807 < e0.length + v1.length + v2.length) := by have := HS.out; omega
    have B1 := Lib.hid (show x.key.length ≤ 70368744177664 by have := HS.out; omega); have B2 := Lib.hid (show x.val.data.length ≤ 70368744177664 by have := HS.out; omega); have V1 := Lib.hid hv1; have V2 := Lib.hid hv2; have HE := Lib.hid (show e0 ++ v1 ++ v2 = encI l.length ++ (l.take (k + 1)).flatMap encH by rw [hn, ← List.append_assoc, he0, ← hv1, ← hv2, List.append_assoc]; rfl); clear hst hsp hle hn hx he0 hel hv1 hv2 hxs hb1 hb2; go_wp2_with fail
    go_region_held3 (fun w' => w'.cell? ⟨b, off + k * 3, none⟩ = some (.string (bb x.key)) ∧ w'.cell? ⟨b, off + k * 3 + 1, none⟩ = some (.bool x.val.null) ∧ w'.cell? ⟨b, off + k * 3 + 2, none⟩ = some (.string (bb x.val.data)) ∧ St W0 w' K L)
     (exact HKX.out _ (by assumption))
     (first
      | (go_at_call 111; with_reducible refine (ref04_variedQ false x.key v1 V1.out B1.out zq46).mono ?_; rintro e wn ⟨rfl, h⟩)
      | (go_at_call 111; with_reducible refine (ref04_variedQ x.val.null x.val.data v2 V2.out B2.out zq46).mono ?_; rintro e wn ⟨rfl, h⟩))
    all_goals
     have hst := (show St W0 _ K L by first | assumption | (go_split_ands; assumption)); go_wp2; go_roundw
     case rel => exact ⟨k + 1, hlt, by go_num, by rw [← HE.out]; simp, hst⟩
     case measure => first | (simp [intOf]; done) | (simp [intOf]; omega)
  · have hke : k = l.length := by omega
    subst hke; rw [List.take_length]; go_wp2; go_ret; exact ⟨rfl, hst⟩

theorem hdr_bool (n : Bool) (d : Bs) (n' : Bool) (d' : Bs) (k k' : Bs) (h : ¬ (⟨k, ⟨n, d⟩⟩ : HdrS) = ⟨k', ⟨n', d'⟩⟩) : (k == k') = false ∨ (k = k' ∧ (n == n') = false) ∨ (k = k' ∧ n = n' ∧ (d == d') = false) := by
 by_cases h1 : k = k'
 · subst h1
   by_cases h2 : n = n'
   · subst h2
     by_cases h3 : d = d'
     · subst h3; exact absurd rfl h
     · exact .inr (.inr ⟨rfl, rfl, by simpa using h3⟩)
   · exact .inr (.inl ⟨rfl, by simpa using h2⟩)
 · exact .inl (by simpa using h1)
theorem zq7 {p : Prop} (h : p := by
  obtain ⟨k, hk, rfl, heq, hst⟩ := hrel; have HEQ := Lib.hid heq; clear heq
  by_cases hlt : k < a.length
  · have hltb : k < b.length := by have := HLEN.out; omega
    obtain ⟨ba, oa, hqa, ya⟩ := hdr_cells HA.out hst k hlt; obtain ⟨bb', ob, hqb, yb⟩ := hdr_cells HB.out hst k hltb; subst hqa; subst hqb; clear ya yb; have ea : a.take (k + 1) = a.take k ++ [a[k]'hlt] := List.take_succ_eq_append_getElem hlt; have eb : b.take (k + 1) = b.take k ++ [b[k]'hltb] := List.take_succ_eq_append_getElem hltb; have hne : a[k]'hlt ≠ b[k]'hltb → a ≠ b := by rintro h rfl; exact h rfl
    obtain ⟨x, hx⟩ : ∃ x, a[k]'hlt = x := ⟨_, rfl⟩; obtain ⟨y, hy⟩ : ∃ y, b[k]'hltb = y := ⟨_, rfl⟩; obtain ⟨c0, c1, c2, hy1⟩ := hdr_cells4 HA.out hlt hx hst; obtain ⟨d0, d1, d2, hy2⟩ := hdr_cells4 HB.out hltb hy hst; rw [hx] at ea hne; rw [hy] at eb hne; have EA := Lib.hid (And.intro ea (And.intro eb hne)); have HST := Lib.hid hst; clear ea eb hne hx hy hltb hst hy1 hy2; obtain ⟨kx, ⟨nx, dx⟩⟩ := x; obtain ⟨ky, ⟨ny, dy⟩⟩ := y; simp only at c0 c1 c2 d0 d1 d2
    by_cases hxy : (⟨kx, ⟨nx, dx⟩⟩ : HdrS) = ⟨ky, ⟨ny, dy⟩⟩
    · cases hxy
      go_wp2
      go_quiet (fail)
      go_wp2; go_roundw
      case rel => exact ⟨k + 1, hlt, by go_num, by rw [EA.out.1, EA.out.2.1, HEQ.out], HST.out.drewN _⟩
      case measure => first | (simp [intOf]; done) | (simp [intOf]; omega)
    · have HNE := Lib.hid (EA.out.2.2 hxy); have hb := hdr_bool _ _ _ _ _ _ hxy; clear hxy EA
      rcases hb with hb | ⟨rfl, hb⟩ | ⟨rfl, rfl, hb⟩
      all_goals
       go_wp2
       go_quiet (fail)
       go_wp2; go_ret; exact ⟨ret_bool (by rw [← HR.out]; exact (decide_eq_false HNE.out).symm), HST.out.drewN _⟩
  · have hke : k = a.length := by omega
    subst hke; go_wp2; go_ret; refine ⟨ret_bool ?_, hst⟩; have h := HEQ.out; rw [List.take_of_length_le (by omega), List.take_of_length_le (by have := HLEN.out; omega)] at h; rw [← HR.out]; exact (decide_eq_true h).symm) : p := h
set_option maxHeartbeats 1000000 in
set_option maxRecDepth 100000 in
theorem ref06_same (va vb : Value) (a b : List HdrS) (hl : a.length ≤ 9223372036854775807) (hl2 : b.length ≤ 9223372036854775807) {W0 w : World} {K : Know} {L : List Res} (hka : K.has (Know.flat RHdr va 3 a)) (hkb : K.has (Know.flat RHdr vb 3 b)) (h : St W0 w K L) :
   Calls Tryz.prog 145 #[va, vb] w fun en w' => en = .returned (.bool (decide (a = b))) ∧ St W0 w' K L := by
 obtain ⟨q, cap, rfl⟩ := flat_form hka h; obtain ⟨q2, cap2, rfl⟩ := flat_form hkb h; have H := Lib.hid h; have HA := Lib.hid hka; have HB := Lib.hid hkb; clear h hka hkb
 by_cases hlen : a.length = b.length
 · have HLEN := Lib.hid hlen; have hq : ∀ (P : Prop) [Decidable P], decide P = decide P := fun _ _ => rfl
   obtain ⟨r, hr⟩ : ∃ r, decide (a = b) = r := ⟨_, rfl⟩; have HR := Lib.hid hr; rw [hr]; rw [← hlen]; clear hr hlen hq; go_enter Tryz.func145, Tryz.ntmps145; go_wp2; go_loopw [5] (fun iv wr => ∃ k : Nat, k ≤ a.length ∧ iv = .int .i64 k ∧ a.take k = b.take k ∧ St W0 wr K L) (fun iv _ => a.length - (intOf iv).toNat)
   case atStart => exact ⟨0, Nat.zero_le _, rfl, by simp, H.out⟩
   case round =>
    exact zq7
 · obtain ⟨r, hr⟩ : ∃ r, decide (a = b) = r := ⟨_, rfl⟩; have HR := Lib.hid hr; have hne : ¬ ((a.length : Int) = (b.length : Int)) := by omega
   have HLEN := Lib.hid hlen; rw [hr]; clear hr hlen; go_enter Tryz.func145, Tryz.ntmps145; go_wp2; go_ret; exact ⟨ret_bool (by rw [← HR.out]; exact (decide_eq_false (by rintro rfl; exact HLEN.out rfl)).symm), H.out⟩

end Go.Proofs.YtnnnglklgofabaaGreat
