/- A text. -/
import Derived.Test.YtnnnglklgofabaaGreatVPure
import Derived.Test.YtnnnglklgofabaaGreatGrow
import Derived.Test.YtnnnglklgofabaaGreatS3
namespace Go.Proofs.YtnnnglklgofabaaGreat
open Go.RowKit

set_option maxHeartbeats 1000000 in
set_option maxRecDepth 100000 in
theorem ref_digits (u : Nat) (hu : u < 18446744073709551616) {W0 w : World} {K : Know} {L : List Res} (h : St W0 w K L) :
  Calls Tryz.prog 168 #[.int .u64 u] w fun en w' => ∃ v, en = .returned v ∧ St W0 w' K (.row v 5 1 (digN u).length (bvals (digN u)) :: L) := by
 have H := Lib.hid h; have HU := Lib.hid hu; have HL := Lib.hid (putU_len u hu); have hl1 := (H.out.rowLit [.int .u8 (u % 128)] 5 1 1 rfl (by decide)); have H1 := Lib.hid hl1; have hw : IntKind.u8.wrap (IntKind.u64.wrap ((u : Int) % 128)) = ((u : Int) % 128) := by rw [IntKind.wrap_u64, IntKind.wrap_u8]; omega
 have hw2 : IntKind.u8.wrap ((u : Int) % 128) = ((u : Int) % 128) := by rw [IntKind.wrap_u8]; omega
 clear h hu hl1; go_enter Tryz.func168, Tryz.ntmps168; go_wp2; go_loopw [0, 3] (fun nv ov wr => ∃ (v : Nat) (pre : Bs), nv = .int .u64 v ∧ v ≤ u ∧ pre ++ digN v = digN u ∧ St W0 wr K (.row ov 5 1 (pre.length + 1) (bvals (pre ++ [UInt8.ofNat (v % 128)])) :: L)) (fun nv _ _ => (intOf nv).toNat)
 case atStart =>
  refine ⟨u, [], rfl, Nat.le_refl _, rfl, ?_⟩; rw [bvals_mod]; exact H1.out
 case round =>
  obtain ⟨v, pre, rfl, hv, hd, hs⟩ := hrel; have HV := Lib.hid hv; have HD := Lib.hid hd; have HS := Lib.hid hs; clear hv hs
  by_cases hlt : v < 128
  · have hp := digN_small hlt; rw [hp] at hd; have HP := Lib.hid hd; clear hp hd; go_wp2; go_ret; refine ⟨_, rfl, ?_⟩; have h1 := HS.out; rw [Nat.mod_eq_of_lt hlt, HP.out] at h1; have h2 : pre.length + 1 = (digN u).length := by rw [← HP.out]; simp
    rw [h2] at h1; exact h1
  · have hp := digN_big hlt; rw [hp] at hd
    have hlen : pre.length + 2 ≤ 11 := by
     have h1 := HL.out; rw [← digN_length, ← hd] at h1; simp at h1
     omega
    have HP := Lib.hid hd
    have hq : IntKind.u64.wrap ((v : Int) / 128) = ((v / 128 : Nat) : Int) := by
     have := HV.out; have := HU.out; rw [IntKind.wrap_u64]; omega
    have HN := Lib.hid hlen; clear hp hd; go_wp2_with (at_builtin; refine wpl_app1_st rfl _ _ 29 rfl 5 Tryz.underlying29 elem_u8 _ _ _ rfl HS.out [.int .u8 (((v / 128 : Nat) : Int) % 128)] 5 rfl rfl (by simp [Value.oneCell']) (by have := HN.out; unfold maxLen; omega) (by have := HN.out; omega) ?_; intro v' w' h; have HS2 := Lib.hid h; clear h); go_roundw
    case rel =>
     refine ⟨v / 128, pre ++ [UInt8.ofNat (v % 128)], rfl, by have := HV.out; omega, by rw [← HP.out]; simp, ?_⟩; have h1 := HS2.out; rw [← bvals_mod] at h1; rw [List.length_append]; exact h1
    case measure => first | (simp [intOf]; done) | (simp [intOf]; omega)

set_option maxHeartbeats 1000000 in
set_option maxRecDepth 100000 in
theorem ref_put (u : Nat) (hu : u < 18446744073709551616) {W0 w : World} {K : Know} {L : List Res} (h : St W0 w K L) :
  Calls Tryz.prog 143 #[.int .u64 u] w fun en w' => en = .returned (.string (bb (putU u))) ∧ St W0 w' K L := by
 have H := Lib.hid h; have HU := Lib.hid hu; have hl := putU_len u hu; rw [← digN_length] at hl; have hpos := digN_pos u; have HM := Lib.hid (putU_mk u); have HLT := Lib.hid (digN_lt u); clear h hu; go_enter Tryz.func143, Tryz.ntmps143; go_wp2_with (go_at_call 168; refine (ref_digits u HU.out H.out).mono ?_; rintro e w1 ⟨v, rfl, h1⟩; have HR := Lib.hid h1; clear h1); generalize digN u = ds at *; obtain ⟨g, cap, hv⟩ := HR.out.rowSlice hpos; subst hv; go_wp2; go_loopw [4] (fun iv wr => ∃ i : Nat, i ≤ ds.length - 1 ∧ iv = .int .i64 i ∧ St W0 wr K (.row (.slice (some ⟨g, 0, none⟩) ds.length cap) 5 1 ds.length (bvals (mk ds i)) :: L)) (fun iv _ => ds.length - (intOf iv).toNat)
 case atStart => exact ⟨0, Nat.zero_le _, rfl, by rw [mk_zero]; exact HR.out⟩
 case round =>
  obtain ⟨i, hi, rfl, hs⟩ := hrel; have HS := Lib.hid hs; clear hs
  by_cases hlt : i < ds.length - 1
  · have hil : i < ds.length := by omega
    have hc := HS.out.rowCell i (by omega); have hf := HS.out.rowFree i; have hg := mk_get ds i hil; have hb : (bvals (mk ds i))[i]? = some (.int .u8 ds[i].toNat) := by simp only [bvals, List.getElem?_map, hg, Option.map_some]
    rw [hb] at hc; have hset := mk_succ ds i hil; have hsm := HLT.out ds[i] (List.getElem_mem hil); generalize ds[i] = c at *; have hw : IntKind.u8.wrap ((c.toNat : Int) + 128) = ((c.toNat : Int) + 128) := by rw [IntKind.wrap_u8]; omega
    have HSET := Lib.hid hset; clear hg hb hset; go_wp2; go_roundw
    case rel =>
     refine ⟨i + 1, by omega, by go_num, ?_⟩; have h1 := HS.out.rowSet i (.int .u8 ((c.toNat : Int) + 128))
     have e : Value.int .u8 ((c.toNat : Int) + 128) = .int .u8 ((UInt8.ofNat (c.toNat + 128)).toNat : Int) := by
      congr 1
      simp
      omega
     rw [← HSET.out, ← bvals_set, ← e]; exact h1
    case measure => first | (simp [intOf]; done) | (simp [intOf]; omega)
  · have hie : i = ds.length - 1 := by omega
    have hconv := HS.out.rowText (s := mk ds i) (mk_length ds i).symm; have HI := Lib.hid hie; clear hie; go_wp2; go_ret; exact ⟨ret_str (by rw [HM.out, HI.out]), HS.out.drop⟩

end Go.Proofs.YtnnnglklgofabaaGreat
