/- A text. -/
import Derived.Test.YtnnnglklgofabaaGreatHdr1
namespace Go.Proofs.YtnnnglklgofabaaGreat
open Go.RowKit

theorem elem_hdr : ElemT Tryz.prog 121 (.agg #[.string ⟨#[]⟩, .bool false, .string ⟨#[]⟩]) 3 40 := elemT_of (by kernel_rfl) rfl (by decide)
def InS.hdrLoop : Nat → List HdrS → InS → List HdrS × InS
  | 0, acc, i => (acc, i)
  | n + 1, acc, i =>
    if i.name.2.varied.2.err = 0 then InS.hdrLoop n (acc ++ [⟨i.name.1, i.name.2.varied.1⟩]) i.name.2.varied.2
    else ([], i.name.2.varied.2)
def InS.hdrHead (i : InS) : InS := if i.vint.1 < 0 then i.vint.2.fail 4 else if (i.vint.2.left : Int) < 2 * i.vint.1 then i.vint.2.fail 1 else i.vint.2
def InS.hdrs (i : InS) : List HdrS × InS := InS.hdrLoop i.vint.1.toNat [] i.hdrHead
theorem know_nil {α : Type} (R : List Value → α → Prop) (sz : Nat) (K : Know) : K.has (K.and (Know.flat R (.slice none 0 0) sz [])) := fun _ _ h => ⟨h, none, 0, rfl, fun h => absurd h (by simp)⟩

theorem zq32 {p : Prop} (h : p := by have HKE := Lib.hid hke; clear hke hk; go_wp2; go_ret; refine ⟨_, rfl, ?_⟩; have h1 := HLOOP.out; rw [HKE.out] at h1; rw [← h1]; exact HST.out.freezeRow (fun x _ => ⟨rfl, rfl⟩)) : p := h
set_option maxHeartbeats 1000000 in
set_option maxRecDepth 100000 in
theorem header_read (p : Nat) (i : InS) {W0 w : World} {K : Know} {L : List Res} (h : St W0 w K (.inp p i :: L)) :
   Calls Tryz.prog 190 #[inPtr p] w fun en w' => ∃ v, en = .returned v ∧ St W0 w' (K.and (Know.flat RHdr v 3 i.hdrs.1)) (.inp p i.hdrs.2 :: L) := by
 have H := Lib.hid h; have hv := i.vint_range; obtain ⟨a, ha⟩ : ∃ a, i.vint = a := ⟨_, rfl⟩; obtain ⟨j, hj⟩ : ∃ j, i.hdrHead = j := ⟨_, rfl⟩; have hjj : j = if a.1 < 0 then a.2.fail 4 else if (a.2.left : Int) < 2 * a.1 then a.2.fail 1 else a.2 := by rw [← hj, ← ha]; rfl
 have hH : i.hdrs = InS.hdrLoop a.1.toNat [] j := by unfold InS.hdrs; rw [hj, ha]
 rw [ha] at hv; rw [hH]; have EA := Lib.hid ha; clear h ha hj hH; obtain ⟨n, c⟩ := a; simp only at hv hjj ⊢
 by_cases h1 : n < 0
 · rw [if_pos h1] at hjj; subst hjj; go_enter Tryz.func190, Tryz.ntmps190
   go_wp2_with (first
    | (go_at_call 189; refine (sv_int _ _ stQ).mono ?_; (repeat first | rw [EA.out]); rintro e wn ⟨rfl, h⟩; replace H := Lib.hid h; clear h)
    | (go_at_call 52; refine (s_left _ _ stQ).mono ?_; rintro e wn ⟨rfl, h⟩; replace H := Lib.hid h; clear h)
    | (go_at_call 47; refine (s_fail _ _ _ stQ).mono ?_; rintro e wn ⟨rfl, h⟩; replace H := Lib.hid h; clear h))
   go_loopw [4, 20] (fun lv kv wr => ∃ (k : Nat) (i' : InS) (acc : List HdrS), k ≤ n.toNat ∧ kv = .int .i64 k ∧ acc.length = k ∧ InS.hdrLoop (n.toNat - k) acc i' = InS.hdrLoop n.toNat [] _ ∧ St W0 wr K (.row lv 121 3 acc.length (acc.flatMap hcells) :: .inp p i' :: L)) (fun _ kv _ => n.toNat - (intOf kv).toNat)
   case atStart => exact ⟨0, _, [], Nat.zero_le _, rfl, rfl, rfl, H.out.nilRow 121 3⟩
   case round =>
    obtain ⟨k, i', acc, hk, rfl, hacc, hloop, hst⟩ := hrel; have HACC := Lib.hid hacc; have HLOOP := Lib.hid hloop; have HST := Lib.hid hst; have HK := Lib.hid (show k ≤ 2147483648 by omega); clear hacc hloop hst; have hke : n.toNat - k = 0 := by omega
    have hlt : ¬ (k : Int) < n := by omega
    exact zq32
 by_cases h2 : (c.left : Int) < 2 * n
 all_goals
   rw [if_neg h1] at hjj
   first | rw [if_pos h2] at hjj | rw [if_neg h2] at hjj
   subst hjj; go_enter Tryz.func190, Tryz.ntmps190
   go_wp2_with (first
    | (go_at_call 189; refine (sv_int _ _ stQ).mono ?_; (repeat first | rw [EA.out]); rintro e wn ⟨rfl, h⟩; replace H := Lib.hid h; clear h)
    | (go_at_call 52; refine (s_left _ _ stQ).mono ?_; rintro e wn ⟨rfl, h⟩; replace H := Lib.hid h; clear h)
    | (go_at_call 47; refine (s_fail _ _ _ stQ).mono ?_; rintro e wn ⟨rfl, h⟩; replace H := Lib.hid h; clear h))
   go_loopw [4, 20] (fun lv kv wr => ∃ (k : Nat) (i' : InS) (acc : List HdrS), k ≤ n.toNat ∧ kv = .int .i64 k ∧ acc.length = k ∧ InS.hdrLoop (n.toNat - k) acc i' = InS.hdrLoop n.toNat [] _ ∧ St W0 wr K (.row lv 121 3 acc.length (acc.flatMap hcells) :: .inp p i' :: L)) (fun _ kv _ => n.toNat - (intOf kv).toNat)
   case atStart => exact ⟨0, _, [], Nat.zero_le _, rfl, rfl, rfl, H.out.nilRow 121 3⟩
   case round =>
    obtain ⟨k, i', acc, hk, rfl, hacc, hloop, hst⟩ := hrel; have HACC := Lib.hid hacc; have HLOOP := Lib.hid hloop; have HST := Lib.hid hst; have HK := Lib.hid (show k ≤ 2147483648 by omega); clear hacc hloop hst
    by_cases hlt : (k : Int) < n
    · have hstep : n.toNat - k = (n.toNat - (k + 1)) + 1 := by omega
      have HSTEP := Lib.hid hstep; obtain ⟨x, hx⟩ : ∃ x, i'.name = x := ⟨_, rfl⟩; obtain ⟨y, hy⟩ : ∃ y, x.2.varied = y := ⟨_, rfl⟩; have EX := Lib.hid hx; have EY := Lib.hid hy; have HLN : InS.hdrLoop ((n.toNat - (k + 1)) + 1) acc i' = if y.2.err = 0 then InS.hdrLoop (n.toNat - (k + 1)) (acc ++ [⟨x.1, y.1⟩]) y.2 else ([], y.2) := by simp only [InS.hdrLoop, hx, hy]
      replace HLN := Lib.hid HLN; have H := HST; clear hstep hx hy hk HST
      by_cases he : y.2.err = 0
      all_goals
        have hb : (y.2.err != 0) = decide (y.2.err ≠ 0) := by by_cases h : y.2.err = 0 <;> simp [h]
        first | rw [decide_eq_true he] at hb | rw [decide_eq_false (not_not_intro he)] at hb
        have HE := Lib.hid he; clear he
        go_wp2_with (first
         | (go_at_call 185; refine (blob_name _ _ stQ).mono ?_; (repeat first | rw [EX.out]); rintro e wn ⟨rfl, h⟩; replace H := Lib.hid h; clear h)
         | (go_at_call 187; refine (blob_varied _ _ stQ).mono ?_; (repeat first | rw [EY.out]); rintro e wn ⟨rfl, h⟩; replace H := Lib.hid h; clear h; unfold bv)
         | (go_at_call 20; refine (s_err _ _ stQ).mono ?_; rintro e wn ⟨rfl, h⟩; replace H := Lib.hid h; clear h)
         | (at_builtin; refine wpl_app1_st rfl _ _ 117 rfl 121 Tryz.underlying117 elem_hdr _ _ _ rfl H.out.p1 [.string (bb x.1), .bool y.1.null, .string (bb y.1.data)] 121 rfl rfl (by simp [Value.oneCell']) (by have := HACC.out; have := HK.out; unfold maxLen; omega) (by have := HACC.out; have := HK.out; omega) ?_; intro v' w' h; replace H := Lib.hid h; clear h))
      · go_roundw
        case rel =>
         refine ⟨k + 1, y.2, acc ++ [⟨x.1, y.1⟩], by omega, by go_num, by simp [HACC.out], ?_, ?_⟩
         · have h1 := HLOOP.out; rw [HSTEP.out, HLN.out, if_pos HE.out] at h1; exact h1
         · refine H.out.p1.cast ?_; simp [hcells]
        case measure => first | (simp [intOf]; done) | (simp [intOf]; omega)
      · go_ret; refine ⟨.slice none 0 0, rfl, ?_⟩; have h1 := HLOOP.out; rw [HSTEP.out, HLN.out, if_neg HE.out] at h1; rw [← h1]; exact (H.out.p1.drop).know (know_nil _ _ _)
    · have hke : n.toNat - k = 0 := by omega
      exact zq32

end Go.Proofs.YtnnnglklgofabaaGreat
