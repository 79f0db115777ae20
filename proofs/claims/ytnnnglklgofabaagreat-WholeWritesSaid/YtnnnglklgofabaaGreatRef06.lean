/- A text. -/
import Derived.Test.YtnnnglklgofabaaGreatHdrP
import Derived.Deep.RegionHeld3
import Derived.Deep.DeepCutAuto
namespace Go.Proofs.YtnnnglklgofabaaGreat
open Go.RowKit

set_option maxHeartbeats 1000000 in
set_option maxRecDepth 100000 in
theorem ref06_right (v : Value) (l : List HdrS) (hl : l.length ≤ 9223372036854775807) {W0 w : World} {K : Know} {L : List Res} (hk : K.has (Know.flat RHdr v 3 l)) (h : St W0 w K L) :
   Calls Tryz.prog 134 #[v] w fun en w' => en = .returned (.bool (hright l)) ∧ St W0 w' K L := by
 obtain ⟨q, cap, rfl⟩ := flat_form hk h; have H := Lib.hid h; have HK := Lib.hid hk; clear h hk; go_enter Tryz.func134, Tryz.ntmps134; go_wp2; go_loopw [3] (fun iv wr => ∃ (k : Nat), k ≤ l.length ∧ iv = .int .i64 k ∧ hright (l.take k) = true ∧ St W0 wr K L) (fun iv _ => l.length - (intOf iv).toNat)
 case atStart => exact ⟨0, Nat.zero_le _, rfl, rfl, H.out⟩
 case round =>
   obtain ⟨k, hk, rfl, hr, hst⟩ := hrel; have HR := Lib.hid hr; have HST := Lib.hid hst; clear hr
   by_cases hlt : k < l.length
   · obtain ⟨b, off, hq, c0, c1, c2⟩ := hdr_cells HK.out hst k hlt; subst hq
     have hnx : hright (l.take (k + 1)) = (l[k]'hlt).val.right := by
       have := HR.out; unfold hright at *; rw [List.take_succ_eq_append_getElem hlt, List.all_append, this]
       simp
     have hall : (l[k]'hlt).val.right = false → hright l = false := by
       intro h; unfold hright; rw [List.all_eq_false]; exact ⟨_, List.getElem_mem hlt, by rw [h]; decide⟩
     obtain ⟨x, hx⟩ : ∃ x, l[k]'hlt = x := ⟨_, rfl⟩; rw [hx] at c0 c1 c2 hnx hall; have HX := Lib.hid (And.intro hnx hall); clear hst hx hnx hall; obtain ⟨kx, ⟨n, d⟩⟩ := x; simp only at c0 c1 c2
     have key : ∀ (r : Bool), (n && !d.isEmpty) = !r → (⟨n, d⟩ : BlobS).right = r := by
       intro r hr; unfold BlobS.right
       cases n <;> cases r <;> cases d <;> simp_all
     have HKEY := Lib.hid key; clear key
     cases n <;> cases d
     all_goals
       go_wp2
       first
       | (go_roundw
          case rel => exact ⟨k + 1, hlt, by go_num, by rw [HX.out.1]; rfl, HST.out⟩
          case measure => first | (simp [intOf]; done) | (simp [intOf]; omega))
       | (go_ret
          exact ⟨ret_bool (HX.out.2 rfl).symm, HST.out⟩)
   · have hke : k = l.length := by omega
     subst hke; rw [List.take_length] at HR; clear hst; go_wp2; go_ret; exact ⟨ret_bool HR.out.symm, HST.out⟩

theorem hdr_cells4 {W0 w : World} {K : Know} {L : List Res} {l : List HdrS} {b off cap : Nat} (hk : K.has (Know.flat RHdr (.slice (some ⟨b, off, none⟩) l.length cap) 3 l)) {i : Nat} {x : HdrS} (hi : i < l.length) (hx : l[i]'hi = x) (h : St W0 w K L) :
  w.cell? ⟨b, off + i * 3, none⟩ = some (.string (bb x.key)) ∧ w.cell? ⟨b, off + i * 3 + 1, none⟩ = some (.bool x.val.null) ∧ w.cell? ⟨b, off + i * 3 + 2, none⟩ = some (.string (bb x.val.data)) ∧ St W0 w K L := by
 obtain ⟨b', off', hq, c0, c1, c2⟩ := hdr_cells hk h i hi
 cases hq
 rw [hx] at c0 c1 c2; exact ⟨c0, c1, c2, h⟩
theorem encV_le (b : BlobS) (h : b.data.length ≤ 140737488355328) : (encV b).length ≤ b.data.length + 10 := by
 have hr := b.len_range h; have := putU_len _ (foldN_lt hr.1 hr.2); unfold encV; rw [List.length_append]; omega
theorem encH_le (x : HdrS) (h : x.size ≤ 140737488355328) : (encH x).length ≤ x.size := by
 unfold HdrS.size at *; have h1 := encV_le ⟨false, x.key⟩ (by simp only; omega); have h2 := encV_le x.val (by omega); unfold encH; simp only at h1; rw [List.length_append]; omega
theorem encHs_le : ∀ (l : List HdrS), hsize l ≤ 140737488355328 → (l.flatMap encH).length ≤ hsize l
  | [], _ => by simp
  | x :: t, h => by
    have e : hsize (x :: t) = x.size + hsize t := rfl; have h1 := encH_le x (by omega); have h2 := encHs_le t (by omega); rw [List.flatMap_cons, List.length_append]; omega

end Go.Proofs.YtnnnglklgofabaaGreat
