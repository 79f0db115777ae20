/- Which of the three requests any bytes begin with, or why with none, is the document's, and they are its bytes: proved of every text. -/
import Derived.Test.YtombolmicfjjpaaGTxnReads11
import Derived.Test.YtombolmicfjjpaaGTxnReads12
import Derived.Test.YtombolmicfjjpaaGTxnReads13
import Derived.Test.YtombolmicfjjpaaGTxnReads14
import Derived.Test.YtombolmicfjjpaaGTxnReads15
import Derived.Test.YtombolmicfjjpaaGTxnReads8
import Derived.Test.YtombolmicfjjpaaArgs
/- TxnReads, any. -/
namespace Go.Proofs.Ytombolmicfjjpaa
open Go.RowKit

theorem trr_220 (n m : Int) (s : Bs) (hl : s.length ≤ 2000) (hwn : IntKind.u8.wrap n = n) (h3 : n.tmod 3 = 0) (hv : m.tmod 2 = 0) {W0 w : World} {K : Know} {L : List Res} (h : St W0 w K L) :
    Calls Try.prog 8 #[.int .u8 n, .int .u8 m, .string (bb s)] w fun en w' => en = .returned (.bool true) ∧ Below W0.heap.size W0 w' := by
  cases hf : refixed 2 s with
  | error ef =>
    obtain ⟨i1, e1, e2, h0⟩ := fix_errQ hf
    have e3 : i1.int 4 = (0, i1) := int_stuckM 4 (by decide) (by decide) i1 (by rw [e2]; exact h0)
    refine trr_bad n m 22 0 (ef) s hl hv (by decide) (by decide) h0 (fun _ _ _ _ h => law18_kinds0 n h3 hwn h) (fun W0 w K L b h => ?_) (fun W0 w K L h => ?_) h
    · refine (l18r_220_err b ⟨s, 0, 0⟩ i1 i1 false [] 0 e1 e3 ef e2 h0 h).mono ?_
      rintro e_ wn ⟨rfl, h2⟩
      exact ⟨i1, rfl, e2, h2⟩
    · exact r18_220_err s hl ef hf h0 h
  | ok x =>
    obtain ⟨⟨nl, d⟩, kk⟩ := x
    obtain ⟨hkl, e1⟩ := fix_okQ hf
    obtain ⟨o1, _, o3, o4⟩ := refixed_one s _ kk hf
    have hdl : d.length ≤ 140737488355328 := by simp only at o4; omega
    by_cases c4 : s.length < kk + 4
    · obtain ⟨q4, e2⟩ := int_shortM 4 (by decide) (by decide) s kk hkl c4
      refine trr_bad n m 22 0 (1) s hl hv (by decide) (by decide) (by decide) (fun _ _ _ _ h => law18_kinds0 n h3 hwn h) (fun W0 w K L b h => ?_) (fun W0 w K L h => ?_) h
      · refine (l18r_220_err b ⟨s, 0, 0⟩ _ _ nl d 0 e1 e2 1 rfl (by decide) h).mono ?_
        rintro e_ wn ⟨rfl, h2⟩
        exact ⟨_, rfl, rfl, h2⟩
      · cases nl with
        | true => exact r18_220_s4T s hl kk d hf hkl c4 h
        | false => exact r18_220_s4F s hl kk d hf hkl c4 h
    have e2 := int_okA 4 (by decide) (by decide) s kk (by omega)
    obtain ⟨tm, htm⟩ : ∃ tm, sInt ((s.drop kk).take 4) = tm := ⟨_, rfl⟩
    have e2 : (⟨s, kk, 0⟩ : InS).int 4 = (tm, ⟨s, kk + 4, 0⟩) := by rw [← htm]; exact e2
    have rtm : -9223372036854775808 ≤ tm ∧ tm < 9223372036854775808 := by rw [← htm]; exact sInt_range _ (by rw [List.length_take]; omega)
    by_cases hE : begE 0 nl d tm (-1) (-1) = 0
    rotate_left
    · refine trr_bad n m 22 0 (begE 0 nl d tm (-1) (-1)) s hl hv (by decide) (by decide) hE (fun _ _ _ _ h => law18_kinds0 n h3 hwn h) (fun W0 w K L b h => ?_) (fun W0 w K L h => ?_) h
      · refine (l18r_220_chk b ⟨s, 0, 0⟩ _ _ _ nl d tm e1 e2 rfl _ rfl hE rfl hdl h).mono ?_
        rintro e_ wn ⟨rfl, h2⟩
        exact ⟨_, rfl, rfl, h2⟩
      · cases nl with
        | true => exact r18_220_chkT s hl kk d hf hkl (by omega) tm htm _ rfl hE h
        | false => exact r18_220_chkF s hl kk d hf hkl (by omega) tm htm _ rfl hE h
    have hil := (idOk_len (begE_ok hE).1).1
    refine trr_good n m 22 0 s hl hv (by decide) (by decide) nl d tm (-1) (-1) [] false (kk + 4) (by omega) ⟨by decide, fun x hx => by cases hx⟩ (fun _ _ _ _ h => law18_kinds0 n h3 hwn h) (fun W0 w K L b h => ?_) (fun W0 w K L h => ?_) (fun q cap lr hlr W0 w K L hk h => ?_) h
    · refine (l18r_220_ok b ⟨s, 0, 0⟩ _ _ nl d tm e1 e2 rfl hE hdl h).mono ?_
      rintro e_ wn ⟨rfl, h2⟩
      exact ⟨none, 0, [], rfl, rfl, h2.know (tops_nil K)⟩
    · cases nl with
      | true =>
        refine (r18_220_okT s hl kk d hf hkl (by omega) tm htm hE h).mono ?_
        rintro e_ wn ⟨rfl, h2⟩
        exact ⟨none, 0, [], rfl, rfl, h2.know (tops_nil K)⟩
      | false =>
        refine (r18_220_okF s hl kk d hf hkl (by omega) tm htm hE h).mono ?_
        rintro e_ wn ⟨rfl, h2⟩
        exact ⟨none, 0, [], rfl, rfl, h2.know (tops_nil K)⟩
    · exact ref18_write220 nl d tm (-1) (-1) lr q cap false _ (by rw [← htm]; exact enc_22 s 0 nl d kk _ false hf (by omega) (by decide) (-1) (-1)) hil rtm (by decide) (by decide) hk h

theorem trr_221 (n m : Int) (s : Bs) (hl : s.length ≤ 2000) (hwn : IntKind.u8.wrap n = n) (h3 : n.tmod 3 = 0) (hv : m.tmod 2 = 1) {W0 w : World} {K : Know} {L : List Res} (h : St W0 w K L) :
    Calls Try.prog 8 #[.int .u8 n, .int .u8 m, .string (bb s)] w fun en w' => en = .returned (.bool true) ∧ Below W0.heap.size W0 w' := by
  cases hf : refixed 2 s with
  | error ef =>
    obtain ⟨i1, e1, e2, h0⟩ := fix_errQ hf
    have e3 : i1.int 4 = (0, i1) := int_stuckM 4 (by decide) (by decide) i1 (by rw [e2]; exact h0)
    have e4 := two_stuck i1 (by rw [e2]; exact h0)
    refine trr_bad n m 22 1 (ef) s hl hv (by decide) (by decide) h0 (fun _ _ _ _ h => law18_kinds0 n h3 hwn h) (fun W0 w K L b h => ?_) (fun W0 w K L h => ?_) h
    · refine (l18r_221_err b ⟨s, 0, 0⟩ i1 i1 i1 i1 false [] 0 0 0 e1 e3 e4.1 e4.2 ef e2 h0 h).mono ?_
      rintro e_ wn ⟨rfl, h2⟩
      exact ⟨i1, rfl, e2, h2⟩
    · exact r18_221_err s hl ef hf h0 h
  | ok x =>
    obtain ⟨⟨nl, d⟩, kk⟩ := x
    obtain ⟨hkl, e1⟩ := fix_okQ hf
    obtain ⟨o1, _, o3, o4⟩ := refixed_one s _ kk hf
    have hdl : d.length ≤ 140737488355328 := by simp only at o4; omega
    by_cases c4 : s.length < kk + 4
    · obtain ⟨q4, e2⟩ := int_shortM 4 (by decide) (by decide) s kk hkl c4
      have e4 := two_stuck ⟨s, q4, 1⟩ (show (1 : Int) ≠ 0 by decide)
      refine trr_bad n m 22 1 (1) s hl hv (by decide) (by decide) (by decide) (fun _ _ _ _ h => law18_kinds0 n h3 hwn h) (fun W0 w K L b h => ?_) (fun W0 w K L h => ?_) h
      · refine (l18r_221_err b ⟨s, 0, 0⟩ _ _ _ _ nl d 0 0 0 e1 e2 e4.1 e4.2 1 rfl (by decide) h).mono ?_
        rintro e_ wn ⟨rfl, h2⟩
        exact ⟨_, rfl, rfl, h2⟩
      · cases nl with
        | true => exact r18_221_s4T s hl kk d hf hkl c4 h
        | false => exact r18_221_s4F s hl kk d hf hkl c4 h
    have e2 := int_okA 4 (by decide) (by decide) s kk (by omega)
    obtain ⟨tm, htm⟩ : ∃ tm, sInt ((s.drop kk).take 4) = tm := ⟨_, rfl⟩
    have e2 : (⟨s, kk, 0⟩ : InS).int 4 = (tm, ⟨s, kk + 4, 0⟩) := by rw [← htm]; exact e2
    have rtm : -9223372036854775808 ≤ tm ∧ tm < 9223372036854775808 := by rw [← htm]; exact sInt_range _ (by rw [List.length_take]; omega)
    by_cases c10 : s.length < kk + 4 + 10
    · obtain ⟨p, e, i3, i4, e3, e4, e5⟩ := two_short s (kk + 4) (by omega) c10
      refine trr_bad n m 22 1 (1) s hl hv (by decide) (by decide) (by decide) (fun _ _ _ _ h => law18_kinds0 n h3 hwn h) (fun W0 w K L b h => ?_) (fun W0 w K L h => ?_) h
      · refine (l18r_221_err b ⟨s, 0, 0⟩ _ _ i3 i4 nl d tm p e e1 e2 e3 e4 1 e5 (by decide) h).mono ?_
        rintro e_ wn ⟨rfl, h2⟩
        exact ⟨_, rfl, e5, h2⟩
      · cases nl with
        | true => exact r18_221_s10T s hl kk d hf hkl (by omega) tm htm c10 h
        | false => exact r18_221_s10F s hl kk d hf hkl (by omega) tm htm c10 h
    obtain ⟨e3, e4⟩ := two_okQ s (kk + 4) (by omega)
    obtain ⟨p, hp⟩ : ∃ p, sInt ((s.drop (kk + 4)).take 8) = p := ⟨_, rfl⟩
    obtain ⟨e, he⟩ : ∃ e, sInt ((s.drop (kk + 4 + 8)).take 2) = e := ⟨_, rfl⟩
    rw [hp] at e3
    rw [he] at e4
    have rp : -9223372036854775808 ≤ p ∧ p < 9223372036854775808 := by rw [← hp]; exact sInt_range _ (by rw [List.length_take]; omega)
    have re : -9223372036854775808 ≤ e ∧ e < 9223372036854775808 := by rw [← he]; exact sInt_range _ (by rw [List.length_take]; omega)
    by_cases hE : begE 1 nl d tm p e = 0
    rotate_left
    · refine trr_bad n m 22 1 (begE 1 nl d tm p e) s hl hv (by decide) (by decide) hE (fun _ _ _ _ h => law18_kinds0 n h3 hwn h) (fun W0 w K L b h => ?_) (fun W0 w K L h => ?_) h
      · refine (l18r_221_chk b ⟨s, 0, 0⟩ _ _ _ _ _ nl d tm p e e1 e2 e3 e4 rfl _ rfl hE rfl hdl h).mono ?_
        rintro e_ wn ⟨rfl, h2⟩
        exact ⟨_, rfl, rfl, h2⟩
      · cases nl with
        | true => exact r18_221_chkT s hl kk d hf hkl (by omega) tm htm (by omega) p e hp he _ rfl hE h
        | false => exact r18_221_chkF s hl kk d hf hkl (by omega) tm htm (by omega) p e hp he _ rfl hE h
    have hil := (idOk_len (begE_ok hE).1).1
    refine trr_good n m 22 1 s hl hv (by decide) (by decide) nl d tm p e [] false (kk + 4 + 10) (by omega) ⟨by decide, fun x hx => by cases hx⟩ (fun _ _ _ _ h => law18_kinds0 n h3 hwn h) (fun W0 w K L b h => ?_) (fun W0 w K L h => ?_) (fun q cap lr hlr W0 w K L hk h => ?_) h
    · refine (l18r_221_ok b ⟨s, 0, 0⟩ _ _ _ _ nl d tm p e e1 e2 e3 e4 rfl hE hdl h).mono ?_
      rintro e_ wn ⟨rfl, h2⟩
      exact ⟨none, 0, [], rfl, rfl, h2.know (tops_nil K)⟩
    · cases nl with
      | true =>
        refine (r18_221_okT s hl kk d hf hkl (by omega) tm htm (by omega) p e hp he hE h).mono ?_
        rintro e_ wn ⟨rfl, h2⟩
        exact ⟨none, 0, [], rfl, rfl, h2.know (tops_nil K)⟩
      | false =>
        refine (r18_221_okF s hl kk d hf hkl (by omega) tm htm (by omega) p e hp he hE h).mono ?_
        rintro e_ wn ⟨rfl, h2⟩
        exact ⟨none, 0, [], rfl, rfl, h2.know (tops_nil K)⟩
    · exact ref18_write221 nl d tm p e lr q cap false _ (by rw [← htm, ← hp, ← he]; exact enc_221 s nl d kk _ false hf (by omega)) hil rtm rp re hk h

theorem trr_24 (n m : Int) (s : Bs) (hl : s.length ≤ 2000) (hwn : IntKind.u8.wrap n = n) (h3 : n.tmod 3 = 1) (v : Int) (hv : m.tmod 2 = v) (hv1 : IntKind.u8.wrap v = v) (hv2 : IntKind.i64.wrap v = v) {W0 w : World} {K : Know} {L : List Res} (h : St W0 w K L) :
    Calls Try.prog 8 #[.int .u8 n, .int .u8 m, .string (bb s)] w fun en w' => en = .returned (.bool true) ∧ Below W0.heap.size W0 w' := by
  cases hf : refixed 2 s with
  | error ef =>
    obtain ⟨i1, e1, e2, h0⟩ := text_errQ (textP_errQ hf)
    have e4 := two_stuck i1 (by rw [e2]; exact h0)
    have e5 : (i1).tops = ([], i1) := rds_tops.stuck i1 (by rw [e2]; exact h0)
    refine trr_bad n m 24 v (ef) s hl hv hv1 hv2 h0 (fun _ _ _ _ h => law18_kinds1 n h3 hwn h) (fun W0 w K L b h => ?_) (fun W0 w K L h => ?_) h
    · refine (l18r_24_err b v ⟨s, 0, 0⟩ i1 i1 i1 i1 [] 0 0 [] e1 e4.1 e4.2 e5 ef e2 h0 h).mono ?_
      rintro e_ wn ⟨rfl, h2⟩
      exact ⟨_, rfl, e2, h2⟩
    · exact r18_24_err v s hl ef hf h0 h
  | ok x =>
    obtain ⟨⟨nl, d⟩, kk⟩ := x
    obtain ⟨hkl, _⟩ := fix_okQ hf
    obtain ⟨o1, _, o3, o4⟩ := refixed_one s _ kk hf
    have hdl : d.length ≤ 140737488355328 := by simp only at o4; omega
    cases nl with
    | true =>
      obtain ⟨i1, e1, e2, h0⟩ := text_errQ (textP_nullQ hf)
      have e4 := two_stuck i1 (by rw [e2]; exact h0)
      have e5 : (i1).tops = ([], i1) := rds_tops.stuck i1 (by rw [e2]; exact h0)
      refine trr_bad n m 24 v (4) s hl hv hv1 hv2 h0 (fun _ _ _ _ h => law18_kinds1 n h3 hwn h) (fun W0 w K L b h => ?_) (fun W0 w K L h => ?_) h
      · refine (l18r_24_err b v ⟨s, 0, 0⟩ i1 i1 i1 i1 [] 0 0 [] e1 e4.1 e4.2 e5 4 e2 h0 h).mono ?_
        rintro e_ wn ⟨rfl, h2⟩
        exact ⟨_, rfl, e2, h2⟩
      · exact r18_24_null v s hl kk d hf hkl h
    | false =>
      obtain ⟨_, e1⟩ := text_okQ (textP_okQ hf)
      by_cases c10 : s.length < kk + 10
      · obtain ⟨p, e, i3, i4, e3, e4, e5⟩ := two_short s kk hkl c10
        have e6 : (i4).tops = ([], i4) := rds_tops.stuck i4 (by rw [e5]; decide)
        refine trr_bad n m 24 v (1) s hl hv hv1 hv2 (by decide) (fun _ _ _ _ h => law18_kinds1 n h3 hwn h) (fun W0 w K L b h => ?_) (fun W0 w K L h => ?_) h
        · refine (l18r_24_err b v ⟨s, 0, 0⟩ _ i3 i4 i4 d p e [] e1 e3 e4 e6 1 e5 (by decide) h).mono ?_
          rintro e_ wn ⟨rfl, h2⟩
          exact ⟨_, rfl, e5, h2⟩
        · exact r18_24_s10 v s hl kk d hf hkl c10 h
      obtain ⟨e3, e4⟩ := two_okQ s kk (by omega)
      obtain ⟨p, hp⟩ : ∃ p, sInt ((s.drop kk).take 8) = p := ⟨_, rfl⟩
      obtain ⟨e, he⟩ : ∃ e, sInt ((s.drop (kk + 8)).take 2) = e := ⟨_, rfl⟩
      rw [hp] at e3
      rw [he] at e4
      have rp : -9223372036854775808 ≤ p ∧ p < 9223372036854775808 := by rw [← hp]; exact sInt_range _ (by rw [List.length_take]; omega)
      have re : -9223372036854775808 ≤ e ∧ e < 9223372036854775808 := by rw [← he]; exact sInt_range _ (by rw [List.length_take]; omega)
      obtain ⟨⟨l, mm, ef⟩, hr⟩ : ∃ r, topsR (s.drop (kk + 10)) = r := ⟨_, rfl⟩
      by_cases h0 : ef = 0
      rotate_left
      · obtain ⟨_, q5, _, e5⟩ := rds_tops.err s (kk + 10) ef (by omega) (topsR_err hr h0)
        refine trr_bad n m 24 v (ef) s hl hv hv1 hv2 h0 (fun _ _ _ _ h => law18_kinds1 n h3 hwn h) (fun W0 w K L b h => ?_) (fun W0 w K L h => ?_) h
        · refine (l18r_24_err b v ⟨s, 0, 0⟩ _ _ _ _ d p e [] e1 e3 e4 e5 ef rfl h0 h).mono ?_
          rintro e_ wn ⟨rfl, h2⟩
          exact ⟨_, rfl, rfl, h2⟩
        · exact r18_24_tops v s hl kk d hf hkl (by omega) p e hp he l mm ef hr h0 h
      subst h0
      obtain ⟨hml, e5⟩ := rds_tops.ok s (kk + 10) l mm (by omega) (topsR_ok hr)
      have hfl : FewL l := topsP_few (topsR_ok hr) (by rw [List.length_drop]; omega)
      by_cases hE : addE d p e l = 0
      rotate_left
      · refine trr_bad n m 24 v (addE d p e l) s hl hv hv1 hv2 hE (fun _ _ _ _ h => law18_kinds1 n h3 hwn h) (fun W0 w K L b h => ?_) (fun W0 w K L h => ?_) h
        · refine (l18r_24_chk b v ⟨s, 0, 0⟩ _ _ _ _ _ d p e l e1 e3 e4 e5 rfl _ rfl hE rfl hdl hfl h).mono ?_
          rintro e_ wn ⟨rfl, h2⟩
          exact ⟨_, rfl, rfl, h2⟩
        · exact r18_24_chk v s hl kk d hf hkl (by omega) p e hp he l mm hr hml _ rfl hE h
      have hil := ((keyRight_iff d).1 (chkW_ok (addE_ok hE).1).1).2
      refine trr_good n m 24 v s hl hv hv1 hv2 false d 0 p e l false (kk + 10 + mm) hml hfl (fun _ _ _ _ h => law18_kinds1 n h3 hwn h) (fun W0 w K L b h => ?_) (fun W0 w K L h => ?_) (fun q cap lr hlr W0 w K L hk h => ?_) h
      · exact l18r_24_ok b v ⟨s, 0, 0⟩ _ _ _ _ d p e l e1 e3 e4 e5 rfl hE hdl hfl h
      · exact r18_24_ok v s hl kk d hf hkl (by omega) p e hp he l mm hr hml hE h
      · exact ref18_write24 v false d 0 p e lr q cap false _ (by rw [hlr, ← hp, ← he]; exact enc_24 s v d kk mm l 0 false hf (by omega) hr) hil (by decide) rp re (fit_of_rise lr (fewT_of (by rw [hlr]; exact hfl)) (by rw [hlr]; exact riseE_ok (addE_ok hE).2)) hk h

theorem trr_26 (n m : Int) (s : Bs) (hl : s.length ≤ 2000) (hwn : IntKind.u8.wrap n = n) (h3 : n.tmod 3 = 2) (v : Int) (hv : m.tmod 2 = v) (hv1 : IntKind.u8.wrap v = v) (hv2 : IntKind.i64.wrap v = v) {W0 w : World} {K : Know} {L : List Res} (h : St W0 w K L) :
    Calls Try.prog 8 #[.int .u8 n, .int .u8 m, .string (bb s)] w fun en w' => en = .returned (.bool true) ∧ Below W0.heap.size W0 w' := by
  cases hf : refixed 2 s with
  | error ef =>
    obtain ⟨i1, e1, e2, h0⟩ := text_errQ (textP_errQ hf)
    have e4 := two_stuck i1 (by rw [e2]; exact h0)
    have e5 := bool_stuckQ i1 (by rw [e2]; exact h0)
    refine trr_bad n m 26 v (ef) s hl hv hv1 hv2 h0 (fun _ _ _ _ h => law18_kinds2 n h3 hwn h) (fun W0 w K L b h => ?_) (fun W0 w K L h => ?_) h
    · refine (l18r_26_err b v ⟨s, 0, 0⟩ i1 i1 i1 _ [] 0 0 _ e1 e4.1 e4.2 rfl ef (e5.trans e2) h0 h).mono ?_
      rintro e_ wn ⟨rfl, h2⟩
      exact ⟨_, rfl, e5.trans e2, h2⟩
    · exact r18_26_err v s hl ef hf h0 h
  | ok x =>
    obtain ⟨⟨nl, d⟩, kk⟩ := x
    obtain ⟨hkl, _⟩ := fix_okQ hf
    obtain ⟨o1, _, o3, o4⟩ := refixed_one s _ kk hf
    have hdl : d.length ≤ 140737488355328 := by simp only at o4; omega
    cases nl with
    | true =>
      obtain ⟨i1, e1, e2, h0⟩ := text_errQ (textP_nullQ hf)
      have e4 := two_stuck i1 (by rw [e2]; exact h0)
      have e5 := bool_stuckQ i1 (by rw [e2]; exact h0)
      refine trr_bad n m 26 v (4) s hl hv hv1 hv2 h0 (fun _ _ _ _ h => law18_kinds2 n h3 hwn h) (fun W0 w K L b h => ?_) (fun W0 w K L h => ?_) h
      · refine (l18r_26_err b v ⟨s, 0, 0⟩ i1 i1 i1 _ [] 0 0 _ e1 e4.1 e4.2 rfl 4 (e5.trans e2) h0 h).mono ?_
        rintro e_ wn ⟨rfl, h2⟩
        exact ⟨_, rfl, e5.trans e2, h2⟩
      · exact r18_26_null v s hl kk d hf hkl h
    | false =>
      obtain ⟨_, e1⟩ := text_okQ (textP_okQ hf)
      by_cases c10 : s.length < kk + 10
      · obtain ⟨p, e, i3, i4, e3, e4, e5⟩ := two_short s kk hkl c10
        have e6 := bool_stuckQ i4 (by rw [e5]; decide)
        refine trr_bad n m 26 v (1) s hl hv hv1 hv2 (by decide) (fun _ _ _ _ h => law18_kinds2 n h3 hwn h) (fun W0 w K L b h => ?_) (fun W0 w K L h => ?_) h
        · refine (l18r_26_err b v ⟨s, 0, 0⟩ _ i3 i4 _ d p e _ e1 e3 e4 rfl 1 (e6.trans e5) (by decide) h).mono ?_
          rintro e_ wn ⟨rfl, h2⟩
          exact ⟨_, rfl, e6.trans e5, h2⟩
        · exact r18_26_s10 v s hl kk d hf hkl c10 h
      obtain ⟨e3, e4⟩ := two_okQ s kk (by omega)
      obtain ⟨p, hp⟩ : ∃ p, sInt ((s.drop kk).take 8) = p := ⟨_, rfl⟩
      obtain ⟨e, he⟩ : ∃ e, sInt ((s.drop (kk + 8)).take 2) = e := ⟨_, rfl⟩
      rw [hp] at e3
      rw [he] at e4
      have rp : -9223372036854775808 ≤ p ∧ p < 9223372036854775808 := by rw [← hp]; exact sInt_range _ (by rw [List.length_take]; omega)
      have re : -9223372036854775808 ≤ e ∧ e < 9223372036854775808 := by rw [← he]; exact sInt_range _ (by rw [List.length_take]; omega)
      by_cases c1 : s.length < kk + 10 + 1
      · have e5 := bool_shortQ s (kk + 10) (by omega) c1
        refine trr_bad n m 26 v (1) s hl hv hv1 hv2 (by decide) (fun _ _ _ _ h => law18_kinds2 n h3 hwn h) (fun W0 w K L b h => ?_) (fun W0 w K L h => ?_) h
        · refine (l18r_26_err b v ⟨s, 0, 0⟩ _ _ _ _ d p e _ e1 e3 e4 rfl 1 e5 (by decide) h).mono ?_
          rintro e_ wn ⟨rfl, h2⟩
          exact ⟨_, rfl, e5, h2⟩
        · exact r18_26_s1 v s hl kk d hf hkl (by omega) p e hp he c1 h
      obtain ⟨y, hy⟩ : ∃ y, s[kk + 10]? = some y := ⟨_, List.getElem?_eq_getElem (by omega)⟩
      by_cases hb : 1 < (y.toNat : Int)
      · have e5 := bool_badQ s (kk + 10) y hy hb
        refine trr_bad n m 26 v (11) s hl hv hv1 hv2 (by decide) (fun _ _ _ _ h => law18_kinds2 n h3 hwn h) (fun W0 w K L b h => ?_) (fun W0 w K L h => ?_) h
        · refine (l18r_26_err b v ⟨s, 0, 0⟩ _ _ _ _ d p e _ e1 e3 e4 rfl 11 e5 (by decide) h).mono ?_
          rintro e_ wn ⟨rfl, h2⟩
          exact ⟨_, rfl, e5, h2⟩
        · exact r18_26_byte v s hl kk d hf hkl (by omega) p e hp he (by omega) y hy hb h
      obtain ⟨e5, e6⟩ := bool_okQ s (kk + 10) y hy hb
      obtain ⟨c, hc⟩ : ∃ c, ((y.toNat : Int) == 1) = c := ⟨_, rfl⟩
      rw [hc] at e5
      by_cases hE : chkW d p e = 0
      rotate_left
      · refine trr_bad n m 26 v (chkW d p e) s hl hv hv1 hv2 hE (fun _ _ _ _ h => law18_kinds2 n h3 hwn h) (fun W0 w K L b h => ?_) (fun W0 w K L h => ?_) h
        · refine (l18r_26_chk b v ⟨s, 0, 0⟩ _ _ _ _ _ d p e c e1 e3 e4 e5 rfl _ rfl hE rfl hdl h).mono ?_
          rintro e_ wn ⟨rfl, h2⟩
          exact ⟨_, rfl, rfl, h2⟩
        · exact r18_26_chk v s hl kk d hf hkl (by omega) p e hp he (by omega) y hy hb c hc _ rfl hE h
      have hil := ((keyRight_iff d).1 (chkW_ok hE).1).2
      have hen := fun l' => enc_26 s v d kk l' 0 y hf (by omega) hy hb
      rw [hc] at hen
      refine trr_good n m 26 v s hl hv hv1 hv2 false d 0 p e [] c (kk + 10 + 1) (by omega) ⟨by decide, fun x hx => by cases hx⟩ (fun _ _ _ _ h => law18_kinds2 n h3 hwn h) (fun W0 w K L b h => ?_) (fun W0 w K L h => ?_) (fun q cap lr hlr W0 w K L hk h => ?_) h
      · refine (l18r_26_ok b v ⟨s, 0, 0⟩ _ _ _ _ d p e c e1 e3 e4 e5 rfl hE hdl h).mono ?_
        rintro e_ wn ⟨rfl, h2⟩
        exact ⟨none, 0, [], rfl, rfl, h2.know (tops_nil K)⟩
      · refine (r18_26_ok v s hl kk d hf hkl (by omega) p e hp he (by omega) y hy hb c hc hE h).mono ?_
        rintro e_ wn ⟨rfl, h2⟩
        exact ⟨none, 0, [], rfl, rfl, h2.know (tops_nil K)⟩
      · cases c with
        | true => exact ref18_write26t v false d 0 p e lr q cap _ (by rw [← hp, ← he]; exact hen _) hil (by decide) rp re hk h
        | false => exact ref18_write26f v false d 0 p e lr q cap _ (by rw [← hp, ← he]; exact hen _) hil (by decide) rp re hk h

theorem mod3Q (n : Int) (h : 0 ≤ n ∧ n < 256) : n.tmod 3 = 0 ∨ n.tmod 3 = 1 ∨ n.tmod 3 = 2 := by
  rw [Int.tmod_eq_emod_of_nonneg h.1]
  omega
theorem mod2Q (n : Int) (h : 0 ≤ n ∧ n < 256) : n.tmod 2 = 0 ∨ n.tmod 2 = 1 := by
  rw [Int.tmod_eq_emod_of_nonneg h.1]
  omega
theorem txnReads_any (n m : Int) (s : Bs) (W : World) (hn : 0 ≤ n ∧ n < 256) (hm : 0 ≤ m ∧ m < 256) (_ : s.length ≤ 9223372036854775807) :
    Calls Try.prog 8 #[.int .u8 n, .int .u8 m, .string (bb s)] W fun en w' => en = .returned (.bool true) ∧ Below W.heap.size W w' := by
  have h : St W W Know.none [] := St.start (K := Know.none) trivial
  have hwn : IntKind.u8.wrap n = n := by rw [IntKind.wrap_u8]; omega
  by_cases hl : s.length ≤ 2000
  rotate_left
  · exact trr_long n m s (by omega) h
  rcases mod3Q n hn with h3 | h3 | h3
  · rcases mod2Q m hm with h2 | h2
    · exact trr_220 n m s hl hwn h3 h2 h
    · exact trr_221 n m s hl hwn h3 h2 h
  · rcases mod2Q m hm with h2 | h2
    · exact trr_24 n m s hl hwn h3 0 h2 (by decide) (by decide) h
    · exact trr_24 n m s hl hwn h3 1 h2 (by decide) (by decide) h
  · rcases mod2Q m hm with h2 | h2
    · exact trr_26 n m s hl hwn h3 0 h2 (by decide) (by decide) h
    · exact trr_26 n m s hl hwn h3 1 h2 (by decide) (by decide) h

end Go.Proofs.Ytombolmicfjjpaa

/- Which of the three requests any bytes begin with, or why with none, is the document's, and they are its bytes: proved of every text. -/
namespace Go.Proofs.Ytombolmicfjjpaa
open Go.ChangeShapes Go.WideShapes Go.ChangeAt Go.ChangeMaps Go.RowKit

set_option maxRecDepth 100000 in
theorem txnReads_lifted (os : Os) (started : os.Started) (H : Type) (enc : TypeId × Value → H) :
    ReturnsInHanded {} Try.checked os 8 .any (Rows.txnReadsSpec.pre6 enc Try.prog Try.f8 Rows.txnReadsRow.domain false) (Rows.txnReadsSpec.post enc Try.prog Try.f8 false true false false) := by
  refine returnsInHanded_of_change (C := Try.checked) Try.own started (by as_aux_lemma => kernel_rfl) Try.func8
    (ChangeSpec.witness6 (enc := enc) (C := Try.checked) false ⟨#[], #[.int .u8 0, .int .u8 0, .string ⟨#[]⟩], []⟩ 8 (by as_aux_lemma => kernel_rfl) (by as_aux_lemma => kernel_rfl) (by as_aux_lemma => kernel_rfl) (by as_aux_lemma => kernel_rfl)) ?_
  intro W base args ds gs before hval0 hW hcnd _
  have hval : ∀ (j : Nat) t v, Try.f8.params[j]? = some t → args[j]? = some v → Value.okWide Try.prog W .any base t v := hval0
  clear hval0
  refine law_contract (n := 3) (tb := 4) rfl rfl rfl Try.underlying4 (by intro ds h; match ds, h with | [d0, d1, d2], _ => rfl) (by as_aux_lemma => kernel_rfl) hW ?_
  intro p hA0 hlt
  have hA : DataW.TrodAll enc Try.prog W 0 (fun _ => true) true Try.f8.params.toList args.toList ds p := hA0
  clear hA0
  rw [Try.params8] at hA hval
  obtain ⟨v0, v1, v2, d0, d1, d2, p0, p1, p2, rfl, rfl, rfl, h0, h1, h2⟩ := trodAll_three hA
  obtain ⟨a0, rfl, rfl, rfl, wa0⟩ := open_int Try.underlying5 (hval 0 5 v0 rfl rfl) h0
  have r0 := wf_u8 wa0
  obtain ⟨a1, rfl, rfl, rfl, wa1⟩ := open_int Try.underlying5 (hval 1 5 v1 rfl rfl) h1
  have r1 := wf_u8 wa1
  obtain ⟨s2, rfl, rfl, rfl, ws2⟩ := open_string Try.underlying9 (hval 2 9 v2 rfl rfl) h2
  exact txnReads_any a0 a1 s2.data.toList W r0 r1 ws2

theorem txnReads_holds : Rows.TxnReadsSaid :=
  OpenClaim.holds_of_wide 8 Try.f8 rfl rfl rfl rfl rfl rfl rfl ⟨rfl, rfl, rfl, rfl, rfl⟩ rfl rfl rfl rfl rfl (by as_aux_lemma => kernel_rfl) Try.func8 (by as_aux_lemma => kernel_rfl)
    (of_decide_eq_true (by as_aux_lemma => kernel_rfl)) (by as_aux_lemma => (unfold Func.isWrapper; rw [if_neg (by as_aux_lemma => decide +kernel)]; exact ⟨rfl, rfl⟩))
    (fun os started H enc _ => txnReads_lifted os started H enc)

end Go.Proofs.Ytombolmicfjjpaa
