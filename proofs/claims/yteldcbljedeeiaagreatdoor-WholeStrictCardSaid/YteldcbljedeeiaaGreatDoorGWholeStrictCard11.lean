/- A text. -/
import Derived.Test.YteldcbljedeeiaaGreatDoorGWholeStrictCard5
import Derived.Test.YteldcbljedeeiaaGreatDoorGWholeStrictCard10
import Derived.Test.YteldcbljedeeiaaGreatDoorGWholeStrictCard4
import Derived.Handy
import Derived.Test.YteldcbljedeeiaaGreatDoorGWholeStrictCard8
/- A text. -/
namespace Go.Proofs.YteldcbljedeeiaaGreatDoor
open Go.RowKit

set_option maxHeartbeats 2000000 in
set_option maxRecDepth 100000 in
theorem beg_was (v:Int) (nl:Bool) (d:Bs) (tm p e:Int) (r:Bool) (hr:was v p e=r){W0 w:World}{K:Know}{L:List Res}(h:St W0 w K L):
   Calls Tryz.prog 209 #[.agg #[.bool nl,.string (bb d),.int .i64 tm,.int .i64 p,.int .i64 e],.int .i64 v] w fun en w'=>en=.returned (.bool r)∧St W0 w' K L:=by
 have H:=Lib.hid (h.allocRaw #[.bool nl,.string (bb d),.int .i64 tm,.int .i64 p,.int .i64 e] 27);subst hr;obtain⟨c,hc⟩:∃c,who p e=c:=⟨_,rfl⟩;have HW:=Lib.hid hc;unfold was;rw[hc];clear h hc
 by_cases h1:p= -1
 · have g1:(p== -1)=true:=by rw[beq_iff_eq];exact h1
   by_cases h2:e= -1
   · have g2:(e== -1)=true:=by rw[beq_iff_eq];exact h2
     rw[g1,g2];clear h1 h2;go_enter Tryz.func209,Tryz.ntmps209
     go_wp2_with (first
   |(go_at_call 241;(with_reducible refine(txn_who p e _ HW.out H.out).mono ?_);rintro e_ wn ⟨rfl,h⟩;replace H:=Lib.hid h;clear h))
     go_ret;exact⟨rfl,H.out.drop⟩
   · have g2:(e== -1)=false:=by rw[beq_eq_false_iff_ne];exact h2
     rw[g1,g2];clear h1 h2
     by_cases h3:v=1
     · have g3:(v==1)=true:=by rw[beq_iff_eq];exact h3
       rw[g3];clear h3
       cases c with
       |true=>
        go_enter Tryz.func209,Tryz.ntmps209
        go_wp2_with (first
   |(go_at_call 241;(with_reducible refine(txn_who p e _ HW.out H.out).mono ?_);rintro e_ wn ⟨rfl,h⟩;replace H:=Lib.hid h;clear h))
        go_ret;exact⟨rfl,H.out.drop⟩
       |false=>
        go_enter Tryz.func209,Tryz.ntmps209
        go_wp2_with (first
   |(go_at_call 241;(with_reducible refine(txn_who p e _ HW.out H.out).mono ?_);rintro e_ wn ⟨rfl,h⟩;replace H:=Lib.hid h;clear h))
        go_ret;exact⟨rfl,H.out.drop⟩
     · have g3:(v==1)=false:=by rw[beq_eq_false_iff_ne];exact h3
       rw[g3];clear h3;go_enter Tryz.func209,Tryz.ntmps209
       go_wp2_with (first
   |(go_at_call 241;(with_reducible refine(txn_who p e _ HW.out H.out).mono ?_);rintro e_ wn ⟨rfl,h⟩;replace H:=Lib.hid h;clear h))
       go_ret;exact⟨rfl,H.out.drop⟩
 · have g1:(p== -1)=false:=by rw[beq_eq_false_iff_ne];exact h1
   rw[g1];clear h1
   by_cases h3:v=1
   · have g3:(v==1)=true:=by rw[beq_iff_eq];exact h3
     rw[g3];clear h3
     cases c with
     |true=>
       go_enter Tryz.func209,Tryz.ntmps209
       go_wp2_with (first
   |(go_at_call 241;(with_reducible refine(txn_who p e _ HW.out H.out).mono ?_);rintro e_ wn ⟨rfl,h⟩;replace H:=Lib.hid h;clear h))
       go_ret;exact⟨rfl,H.out.drop⟩
     |false=>
       go_enter Tryz.func209,Tryz.ntmps209
       go_wp2_with (first
   |(go_at_call 241;(with_reducible refine(txn_who p e _ HW.out H.out).mono ?_);rintro e_ wn ⟨rfl,h⟩;replace H:=Lib.hid h;clear h))
       go_ret;exact⟨rfl,H.out.drop⟩
   · have g3:(v==1)=false:=by rw[beq_eq_false_iff_ne];exact h3
     rw[g3];clear h3;go_enter Tryz.func209,Tryz.ntmps209
     go_wp2_with (first
   |(go_at_call 241;(with_reducible refine(txn_who p e _ HW.out H.out).mono ?_);rintro e_ wn ⟨rfl,h⟩;replace H:=Lib.hid h;clear h))
     go_ret;exact⟨rfl,H.out.drop⟩

theorem blob_rightQT (u:Bool) (d:Bs) (r:Bool) (hr:(⟨u,d⟩:BlobS).right=r){W0 w:World}{K:Know}{L:List Res}(h:St W0 w K L):
  Calls Tryz.prog 149 #[.agg #[.bool u,.string (bb d)]] w fun en w'=>en=.returned (.bool r)∧St W0 w' K L:=by
 subst hr;exact blob_right ⟨u,d⟩ h
set_option maxHeartbeats 8000000 in
set_option maxRecDepth 100000 in
theorem beg_check (v:Int) (nl:Bool) (d:Bs) (tm p e:Int) (r:Int) (hr:begE v nl d tm p e=r) (hl:d.length≤140737488355328){W0 w:World}{K:Know}{L:List Res}(h:St W0 w K L):
  Calls Tryz.prog 156 #[.agg #[.bool nl,.string (bb d),.int .i64 tm,.int .i64 p,.int .i64 e],.int .i64 v] w fun en w'=>en=.returned (.int .i64 r)∧St W0 w' K L:=by
 have H:=Lib.hid (h.allocRaw #[.bool nl,.string (bb d),.int .i64 tm,.int .i64 p,.int .i64 e] 27);have HDL:=Lib.hid hl;clear h hl
 cases nl with
 |true=>
  by_cases hd:d=[]
  · subst hd;have HBR:=Lib.hid (show(⟨true,[]⟩:BlobS).right=true from rfl);rw[show begE v true [] tm p e=if tm<0∨2147483647<tm then 11 else if was v p e=false then 11 else 0 by unfold begE;rw[show idOk true []=true from rfl];rfl]at hr
    by_cases h1:tm<0
    · rw[if_pos (.inl h1)]at hr;subst hr;go_enter Tryz.func156,Tryz.ntmps156
      go_wp2_with (first
  |(go_at_call 149;(with_reducible refine(blob_rightQT _ [] _ HBR.out H.out).mono ?_);rintro e_ wn ⟨rfl,h⟩;have c0:=h.rawCell 0;have c1:=h.rawCell 1;have c2:=h.rawCell 2;have c3:=h.rawCell 3;have c4:=h.rawCell 4;simp at c0 c1 c2 c3 c4;replace H:=Lib.hid h;clear h)
  |(go_at_call 209;(with_reducible refine(beg_was v true [] tm p e _ HWS.out H.out).mono ?_);rintro e_ wn ⟨rfl,h⟩;replace H:=Lib.hid h;clear h))
      go_ret;exact⟨rfl,H.out.drop⟩
    by_cases h2:2147483647<tm
    · rw[if_pos (.inr h2)]at hr;subst hr;go_enter Tryz.func156,Tryz.ntmps156
      go_wp2_with (first
  |(go_at_call 149;(with_reducible refine(blob_rightQT _ [] _ HBR.out H.out).mono ?_);rintro e_ wn ⟨rfl,h⟩;have c0:=h.rawCell 0;have c1:=h.rawCell 1;have c2:=h.rawCell 2;have c3:=h.rawCell 3;have c4:=h.rawCell 4;simp at c0 c1 c2 c3 c4;replace H:=Lib.hid h;clear h)
  |(go_at_call 209;(with_reducible refine(beg_was v true [] tm p e _ HWS.out H.out).mono ?_);rintro e_ wn ⟨rfl,h⟩;replace H:=Lib.hid h;clear h))
      go_ret;exact⟨rfl,H.out.drop⟩
    rw[if_neg (by omega)]at hr;obtain⟨ws,hws⟩:∃ws,was v p e=ws:=⟨_,rfl⟩;have HWS:=Lib.hid hws;rw[hws]at hr;clear hws
    cases ws with
    |true=>
      obtain rfl:(0:Int)=r:=hr;go_enter Tryz.func156,Tryz.ntmps156
      go_wp2_with (first
  |(go_at_call 149;(with_reducible refine(blob_rightQT _ [] _ HBR.out H.out).mono ?_);rintro e_ wn ⟨rfl,h⟩;have c0:=h.rawCell 0;have c1:=h.rawCell 1;have c2:=h.rawCell 2;have c3:=h.rawCell 3;have c4:=h.rawCell 4;simp at c0 c1 c2 c3 c4;replace H:=Lib.hid h;clear h)
  |(go_at_call 209;(with_reducible refine(beg_was v true [] tm p e _ HWS.out H.out).mono ?_);rintro e_ wn ⟨rfl,h⟩;replace H:=Lib.hid h;clear h))
      go_ret;exact⟨rfl,H.out.drop⟩
    |false=>
      obtain rfl:(11:Int)=r:=hr;go_enter Tryz.func156,Tryz.ntmps156
      go_wp2_with (first
  |(go_at_call 149;(with_reducible refine(blob_rightQT _ [] _ HBR.out H.out).mono ?_);rintro e_ wn ⟨rfl,h⟩;have c0:=h.rawCell 0;have c1:=h.rawCell 1;have c2:=h.rawCell 2;have c3:=h.rawCell 3;have c4:=h.rawCell 4;simp at c0 c1 c2 c3 c4;replace H:=Lib.hid h;clear h)
  |(go_at_call 209;(with_reducible refine(beg_was v true [] tm p e _ HWS.out H.out).mono ?_);rintro e_ wn ⟨rfl,h⟩;replace H:=Lib.hid h;clear h))
      go_ret;exact⟨rfl,H.out.drop⟩
  · have HBR:=Lib.hid (show(⟨true,d⟩:BlobS).right=false by unfold BlobS.right;cases d with|nil=>exact absurd rfl hd|cons _ _=>rfl);have hid:idOk true d=false:=by cases d with|nil=>exact absurd rfl hd|cons _ _=>rfl
    obtain rfl:(4:Int)=r:=by rw[←hr];unfold begE;rw[hid];rfl
    clear hr hid hd;go_enter Tryz.func156,Tryz.ntmps156
    go_wp2_with (first
  |(go_at_call 149;(with_reducible refine(blob_rightQT _ d _ HBR.out H.out).mono ?_);rintro e_ wn ⟨rfl,h⟩;have c0:=h.rawCell 0;have c1:=h.rawCell 1;have c2:=h.rawCell 2;have c3:=h.rawCell 3;have c4:=h.rawCell 4;simp at c0 c1 c2 c3 c4;replace H:=Lib.hid h;clear h))
    go_ret;exact⟨rfl,H.out.drop⟩
 |false=>
  have HBR:=Lib.hid (show(⟨false,d⟩:BlobS).right=true from rfl);obtain⟨kr,hkr⟩:∃kr,keyRight d=kr:=⟨_,rfl⟩;have HKR:=Lib.hid hkr
  cases kr with
  |true=>
    have hid:idOk false d=true:=hkr;rw[show begE v false d tm p e=if tm<0∨2147483647<tm then 11 else if was v p e=false then 11 else 0 by unfold begE;rw[hid];rfl]at hr;clear hid hkr
    by_cases h1:tm<0
    · rw[if_pos (.inl h1)]at hr;subst hr;go_enter Tryz.func156,Tryz.ntmps156
      go_wp2_with (first
  |(go_at_call 149;(with_reducible refine(blob_rightQT _ d _ HBR.out H.out).mono ?_);rintro e_ wn ⟨rfl,h⟩;have c0:=h.rawCell 0;have c1:=h.rawCell 1;have c2:=h.rawCell 2;have c3:=h.rawCell 3;have c4:=h.rawCell 4;simp at c0 c1 c2 c3 c4;replace H:=Lib.hid h;clear h)
  |(go_at_call 88;(with_reducible refine(key_right' d _ HDL.out HKR.out H.out).mono ?_);rintro e_ wn ⟨rfl,h⟩;have c0:=h.rawCell 0;have c1:=h.rawCell 1;have c2:=h.rawCell 2;have c3:=h.rawCell 3;have c4:=h.rawCell 4;simp at c0 c1 c2 c3 c4;replace H:=Lib.hid h;clear h)
  |(go_at_call 209;(with_reducible refine(beg_was v false d tm p e _ HWS.out H.out).mono ?_);rintro e_ wn ⟨rfl,h⟩;replace H:=Lib.hid h;clear h))
      go_ret;exact⟨rfl,H.out.drop⟩
    by_cases h2:2147483647<tm
    · rw[if_pos (.inr h2)]at hr;subst hr;go_enter Tryz.func156,Tryz.ntmps156
      go_wp2_with (first
  |(go_at_call 149;(with_reducible refine(blob_rightQT _ d _ HBR.out H.out).mono ?_);rintro e_ wn ⟨rfl,h⟩;have c0:=h.rawCell 0;have c1:=h.rawCell 1;have c2:=h.rawCell 2;have c3:=h.rawCell 3;have c4:=h.rawCell 4;simp at c0 c1 c2 c3 c4;replace H:=Lib.hid h;clear h)
  |(go_at_call 88;(with_reducible refine(key_right' d _ HDL.out HKR.out H.out).mono ?_);rintro e_ wn ⟨rfl,h⟩;have c0:=h.rawCell 0;have c1:=h.rawCell 1;have c2:=h.rawCell 2;have c3:=h.rawCell 3;have c4:=h.rawCell 4;simp at c0 c1 c2 c3 c4;replace H:=Lib.hid h;clear h)
  |(go_at_call 209;(with_reducible refine(beg_was v false d tm p e _ HWS.out H.out).mono ?_);rintro e_ wn ⟨rfl,h⟩;replace H:=Lib.hid h;clear h))
      go_ret;exact⟨rfl,H.out.drop⟩
    rw[if_neg (by omega)]at hr;obtain⟨ws,hws⟩:∃ws,was v p e=ws:=⟨_,rfl⟩;have HWS:=Lib.hid hws;rw[hws]at hr;clear hws
    cases ws with
    |true=>
      obtain rfl:(0:Int)=r:=hr;go_enter Tryz.func156,Tryz.ntmps156
      go_wp2_with (first
  |(go_at_call 149;(with_reducible refine(blob_rightQT _ d _ HBR.out H.out).mono ?_);rintro e_ wn ⟨rfl,h⟩;have c0:=h.rawCell 0;have c1:=h.rawCell 1;have c2:=h.rawCell 2;have c3:=h.rawCell 3;have c4:=h.rawCell 4;simp at c0 c1 c2 c3 c4;replace H:=Lib.hid h;clear h)
  |(go_at_call 88;(with_reducible refine(key_right' d _ HDL.out HKR.out H.out).mono ?_);rintro e_ wn ⟨rfl,h⟩;have c0:=h.rawCell 0;have c1:=h.rawCell 1;have c2:=h.rawCell 2;have c3:=h.rawCell 3;have c4:=h.rawCell 4;simp at c0 c1 c2 c3 c4;replace H:=Lib.hid h;clear h)
  |(go_at_call 209;(with_reducible refine(beg_was v false d tm p e _ HWS.out H.out).mono ?_);rintro e_ wn ⟨rfl,h⟩;replace H:=Lib.hid h;clear h))
      go_ret;exact⟨rfl,H.out.drop⟩
    |false=>
      obtain rfl:(11:Int)=r:=hr;go_enter Tryz.func156,Tryz.ntmps156
      go_wp2_with (first
  |(go_at_call 149;(with_reducible refine(blob_rightQT _ d _ HBR.out H.out).mono ?_);rintro e_ wn ⟨rfl,h⟩;have c0:=h.rawCell 0;have c1:=h.rawCell 1;have c2:=h.rawCell 2;have c3:=h.rawCell 3;have c4:=h.rawCell 4;simp at c0 c1 c2 c3 c4;replace H:=Lib.hid h;clear h)
  |(go_at_call 88;(with_reducible refine(key_right' d _ HDL.out HKR.out H.out).mono ?_);rintro e_ wn ⟨rfl,h⟩;have c0:=h.rawCell 0;have c1:=h.rawCell 1;have c2:=h.rawCell 2;have c3:=h.rawCell 3;have c4:=h.rawCell 4;simp at c0 c1 c2 c3 c4;replace H:=Lib.hid h;clear h)
  |(go_at_call 209;(with_reducible refine(beg_was v false d tm p e _ HWS.out H.out).mono ?_);rintro e_ wn ⟨rfl,h⟩;replace H:=Lib.hid h;clear h))
      go_ret;exact⟨rfl,H.out.drop⟩
  |false=>
    have hid:idOk false d=false:=hkr;obtain rfl:(4:Int)=r:=by rw[←hr];unfold begE;rw[hid];rfl
    clear hr hid hkr;go_enter Tryz.func156,Tryz.ntmps156
    go_wp2_with (first
  |(go_at_call 149;(with_reducible refine(blob_rightQT _ d _ HBR.out H.out).mono ?_);rintro e_ wn ⟨rfl,h⟩;have c0:=h.rawCell 0;have c1:=h.rawCell 1;have c2:=h.rawCell 2;have c3:=h.rawCell 3;have c4:=h.rawCell 4;simp at c0 c1 c2 c3 c4;replace H:=Lib.hid h;clear h)
  |(go_at_call 88;(with_reducible refine(key_right' d _ HDL.out HKR.out H.out).mono ?_);rintro e_ wn ⟨rfl,h⟩;have c0:=h.rawCell 0;have c1:=h.rawCell 1;have c2:=h.rawCell 2;have c3:=h.rawCell 3;have c4:=h.rawCell 4;simp at c0 c1 c2 c3 c4;replace H:=Lib.hid h;clear h))
    go_ret;exact⟨rfl,H.out.drop⟩

set_option maxHeartbeats 8000000 in
set_option maxRecDepth 100000 in
theorem add_check (d:Bs) (p e:Int) (l:List (TopS×Value)) (q:Option Addr) (cap:Nat) (r:Int) (hr:addE d p e (l.map (·.1))=r) (hl:d.length≤140737488355328) (hf:FewT l){W0 w:World}{K:Know}{L:List Res}(hk:K.has (Know.tops (.slice q l.length cap) l)) (h:St W0 w K L):
   Calls Tryz.prog 158 #[.agg #[.string (bb d),.int .i64 p,.int .i64 e,.slice q l.length cap]] w fun en w'=>en=.returned (.int .i64 r)∧St W0 w' K L:=by
 have H:=Lib.hid (h.allocRaw #[.string (bb d),.int .i64 p,.int .i64 e,.slice q l.length cap] 30);have HDL:=Lib.hid hl;have HF:=Lib.hid hf;have HK:=Lib.hid hk;obtain⟨cw,hcw⟩:∃cw,chkW d p e=cw:=⟨_,rfl⟩;have HC:=Lib.hid hcw;unfold addE at hr;rw[hcw]at hr;clear h hl hf hk hcw
 by_cases h0:cw=0
 · subst h0;have HE:=Lib.hid (show riseE (l.map (·.1))=r from hr);clear hr;go_enter Tryz.func158,Tryz.ntmps158
   go_wp2_with (first
   |(go_at_call 210;(with_reducible refine(txn_checkWriter d p e _ HC.out HDL.out H.out).mono ?_);rintro e_ wn ⟨rfl,h⟩;have c3:=h.rawCell 3;simp at c3;replace H:=Lib.hid h;clear h)
   |(go_at_call 211;(with_reducible refine(txn_rise l q cap r HE.out HF.out HK.out H.out).mono ?_);rintro e_ wn ⟨rfl,h⟩;replace H:=Lib.hid h;clear h))
   go_ret;exact⟨rfl,H.out.drop⟩
 · rw[if_pos h0]at hr;subst hr;have g1:(cw==0)=false:=by rw[beq_eq_false_iff_ne];exact h0
   have g2:(cw !=0)=true:=by simp[bne,g1]
   clear h0;go_enter Tryz.func158,Tryz.ntmps158
   go_wp2_with (first
   |(go_at_call 210;(with_reducible refine(txn_checkWriter d p e _ HC.out HDL.out H.out).mono ?_);rintro e_ wn ⟨rfl,h⟩;have c3:=h.rawCell 3;simp at c3;replace H:=Lib.hid h;clear h))
   go_ret;exact⟨rfl,H.out.drop⟩
theorem blob_putFixedT (p:Nat) (e e2:Bs) (u:Bool) (s:Bs) (he:e++encF 2 ⟨u,s⟩=e2) (hr:(⟨u,s⟩:BlobS).right=true) (hf:fits (⟨u,s⟩:BlobS).len 2) (hs:s.length≤32767) (hl:e.length≤100000000000000){W0 w:World}{K:Know}{L:List Res}(h:St W0 w K (.out p ⟨e,0⟩::L)):
  Calls Tryz.prog 96 #[outPtr p,.agg #[.bool u,.string (bb s)],.int .i64 2] w fun en w'=>en=.returned (.tuple #[])∧St W0 w' K (.out p ⟨e2,0⟩::L):=by
 have h2:=blob_putFixed p ⟨e,0⟩ ⟨u,s⟩ 2 h zq30
 have e3:(⟨e,0⟩:OutS).putFixed ⟨u,s⟩ 2=⟨e2,0⟩:=by
  unfold OutS.putFixed OutS.int;rw[if_pos hf,←he]
  cases u with
  |true=>
   have h3:s=[]:=by cases s with|nil=>rfl|cons _ _=>cases hr
   subst h3
   show(⟨(e++beBytes (⟨true,[]⟩:BlobS).len 2)++[],0⟩:OutS)=_
   rw[List.append_assoc]
   rfl
  |false=>
   exact zq18
 rw[e3]at h2;exact h2
set_option maxHeartbeats 1000000 in
set_option maxRecDepth 100000 in
theorem beg_clo (bB vB:Nat) (v:Int) (nl:Bool) (d:Bs) (tm p e:Int) (r:Int) (hr:begE v nl d tm p e=r) (hl:d.length≤140737488355328){W0 w:World}{K:Know}{L:List Res}(c0:w.cell? ⟨bB,0,none⟩=some (.bool nl)) (c1:w.cell? ⟨bB,1,none⟩=some (.string (bb d))) (c2:w.cell? ⟨bB,2,none⟩=some (.int .i64 tm)) (c3:w.cell? ⟨bB,3,none⟩=some (.int .i64 p)) (c4:w.cell? ⟨bB,4,none⟩=some (.int .i64 e)) (cv:w.cell? ⟨vB,0,none⟩=some (.int .i64 v)) (h:St W0 w K L):
  Calls Tryz.prog 155 #[.pointer (some ⟨bB,0,none⟩),.pointer (some ⟨vB,0,none⟩)] w fun en w'=>en=.returned (.int .i64 r)∧St W0 w' K L:=by
 have H:=Lib.hid h;have HR:=Lib.hid hr;have HL:=Lib.hid hl;clear h hr hl;go_enter Tryz.func155,Tryz.ntmps155;go_wp2_with (go_at_call 156;(with_reducible refine(beg_check v nl d tm p e _ HR.out HL.out H.out).mono ?_);rintro e_ wn ⟨rfl,h⟩;replace H:=Lib.hid h;clear h);go_ret;exact⟨rfl,H.out⟩

set_option maxHeartbeats 2000000 in
set_option maxRecDepth 100000 in
theorem may_beg (b:Nat) (o o2:OutS) (bB vB:Nat) (v:Int) (nl:Bool) (d:Bs) (tm p e:Int) (r:Int) (t:Bool) (hr:begE v nl d tm p e=r) (hl:d.length≤140737488355328) (ht:(r==0)=t) (ho:(if r=0 then o else o.fail r)=o2){W0 w:World}{K:Know}{L:List Res}(h:St W0 w K (.out b o::.raw vB #[.int .i64 v] 3::.raw bB #[.bool nl,.string (bb d),.int .i64 tm,.int .i64 p,.int .i64 e] 27::L)):
   Calls Tryz.prog 154 #[outPtr b,.func (.func 155) #[] #[.pointer (some ⟨bB,0,none⟩),.pointer (some ⟨vB,0,none⟩)]] w fun en w'=>en=.returned (.bool t)∧St W0 w' K (.out b o2::.raw vB #[.int .i64 v] 3::.raw bB #[.bool nl,.string (bb d),.int .i64 tm,.int .i64 p,.int .i64 e] 27::L):=by
 have H:=Lib.hid h;have C0:=Lib.hid (show w.cell? ⟨bB,0,none⟩=some (.bool nl) by have:=h.p2.rawCell 0;simpa using this);have C1:=Lib.hid (show w.cell? ⟨bB,1,none⟩=some (.string (bb d)) by have:=h.p2.rawCell 1;simpa using this);have C2:=Lib.hid (show w.cell? ⟨bB,2,none⟩=some (.int .i64 tm) by have:=h.p2.rawCell 2;simpa using this);have C3:=Lib.hid (show w.cell? ⟨bB,3,none⟩=some (.int .i64 p) by have:=h.p2.rawCell 3;simpa using this);have C4:=Lib.hid (show w.cell? ⟨bB,4,none⟩=some (.int .i64 e) by have:=h.p2.rawCell 4;simpa using this);have CV:=Lib.hid (show w.cell? ⟨vB,0,none⟩=some (.int .i64 v) by have:=h.p1.rawCell 0;simpa using this);have HR:=Lib.hid hr;have HL:=Lib.hid hl;clear h hr hl
 by_cases h0:r=0
 · rw[if_pos h0]at ho;subst ho h0;obtain rfl:true=t:=ht;go_enter Tryz.func154,Tryz.ntmps154;go_wp2_with (go_at_call 155;(with_reducible refine(beg_clo bB vB v nl d tm p e _ HR.out HL.out C0.out C1.out C2.out C3.out C4.out CV.out H.out).mono ?_);rintro e_ wn ⟨rfl,h⟩;replace H:=Lib.hid h;clear h);go_ret;exact⟨rfl,H.out⟩
 · rw[if_neg h0]at ho;have HO:=Lib.hid ho;have g0:(r==0)=false:=by rw[beq_eq_false_iff_ne];exact h0
   have g00:(r !=0)=true:=by simp[bne,g0]
   rw[g0]at ht;subst ht;clear ho h0;go_enter Tryz.func154,Tryz.ntmps154
   go_wp2_with (first
   |(go_at_call 155;(with_reducible refine(beg_clo bB vB v nl d tm p e _ HR.out HL.out C0.out C1.out C2.out C3.out C4.out CV.out H.out).mono ?_);rintro e_ wn ⟨rfl,h⟩;replace H:=Lib.hid h;clear h)
   |(go_at_call 95;(with_reducible refine(so_failT b _ _ _ HO.out H.out).mono ?_);rintro e_ wn ⟨rfl,h⟩;replace H:=Lib.hid h;clear h))
   go_ret;exact⟨rfl,H.out⟩

set_option maxHeartbeats 2000000 in
set_option maxRecDepth 100000 in
theorem may_add (b:Nat) (o o2:OutS) (d:Bs) (p e:Int) (l:List (TopS×Value)) (q:Option Addr) (cap:Nat) (r:Int) (t:Bool) (hr:addE d p e (l.map (·.1))=r) (hl:d.length≤140737488355328) (hf:FewT l) (ht:(r==0)=t) (ho:(if r=0 then o else o.fail r)=o2){W0 w:World}{K:Know}{L:List Res}(hk:K.has (Know.tops (.slice q l.length cap) l)) (h:St W0 w K (.out b o::L)):
   Calls Tryz.prog 154 #[outPtr b,.func (.func 158) #[.agg #[.string (bb d),.int .i64 p,.int .i64 e,.slice q l.length cap]] #[]] w fun en w'=>en=.returned (.bool t)∧St W0 w' K (.out b o2::L):=by
 have H:=Lib.hid h;have HR:=Lib.hid hr;have HL:=Lib.hid hl;have HF:=Lib.hid hf;have HK:=Lib.hid hk;clear h hr hl hf hk
 by_cases h0:r=0
 · rw[if_pos h0]at ho;subst ho h0;obtain rfl:true=t:=ht;go_enter Tryz.func154,Tryz.ntmps154;go_wp2_with (go_at_call 158;(with_reducible refine(add_check d p e l q cap _ HR.out HL.out HF.out HK.out H.out).mono ?_);rintro e_ wn ⟨rfl,h⟩;replace H:=Lib.hid h;clear h);go_ret;exact⟨rfl,H.out⟩
 · rw[if_neg h0]at ho;have HO:=Lib.hid ho;have g0:(r==0)=false:=by rw[beq_eq_false_iff_ne];exact h0
   have g00:(r !=0)=true:=by simp[bne,g0]
   rw[g0]at ht;subst ht;clear ho h0;go_enter Tryz.func154,Tryz.ntmps154
   go_wp2_with (first
   |(go_at_call 158;(with_reducible refine(add_check d p e l q cap _ HR.out HL.out HF.out HK.out H.out).mono ?_);rintro e_ wn ⟨rfl,h⟩;replace H:=Lib.hid h;clear h)
   |(go_at_call 95;(with_reducible refine(so_failT b _ _ _ HO.out H.out).mono ?_);rintro e_ wn ⟨rfl,h⟩;replace H:=Lib.hid h;clear h))
   go_ret;exact⟨rfl,H.out⟩
theorem blob_fixedT (p:Nat) (i j:InS) (n:Bool) (d:Bs) (hx:i.fixed 2=(⟨n,d⟩,j)){W0 w:World}{K:Know}{L:List Res}(h:St W0 w K (.inp p i::L)):
  Calls Tryz.prog 117 #[inPtr p,.int .i64 2] w fun en w'=>en=.returned (.agg #[.bool n,.string (bb d)])∧St W0 w' K (.inp p j::L):=by
 have:=blob_fixed p i 2 h;rw[hx]at this;exact this
set_option maxHeartbeats 1000000 in
set_option maxRecDepth 100000 in
theorem vsd_check (v:Int) (nl:Bool) (d:Bs) (tm p e:Int) (r:Int) (hr:begE v nl d tm p e=r) (hl:d.length≤140737488355328){W0 w:World}{K:Know}{L:List Res}(h:St W0 w K L):
  Calls Tryz.prog 274 #[.agg #[.bool nl,.string (bb d),.int .i64 tm,.int .i64 p,.int .i64 e,.int .i64 v]] w fun en w'=>en=.returned (.int .i64 r)∧St W0 w' K L:=by
 have H:=Lib.hid (h.allocRaw #[.bool nl,.string (bb d),.int .i64 tm,.int .i64 p,.int .i64 e,.int .i64 v] 269);have HR:=Lib.hid hr;have HL:=Lib.hid hl;clear h hr hl;go_enter Tryz.func274,Tryz.ntmps274;go_wp2_with (go_at_call 156;(with_reducible refine(beg_check v nl d tm p e _ HR.out HL.out H.out).mono ?_);rintro e_ wn ⟨rfl,h⟩;replace H:=Lib.hid h;clear h);go_ret;exact⟨rfl,H.out.drop⟩
set_option maxHeartbeats 1000000 in
set_option maxRecDepth 100000 in
theorem whole_err (b:Nat) (i:InS) (e:Int) (hi:i.err=e) (h0:e≠0) (v:Value){W0 w:World}{K:Know}{L:List Res}(h:St W0 w K (.inp b i::L)):
  Calls Tryz.prog 177 #[inPtr b,v] w fun en w'=>en=.returned (.bool false)∧St W0 w' K (.inp b i::L):=by
 have H:=Lib.hid h;have HI:=Lib.hid hi;have g1:(e==0)=false:=by rw[beq_eq_false_iff_ne];exact h0
 have g2:(e !=0)=true:=by simp[bne,g1]
 clear h hi h0;go_enter Tryz.func177,Tryz.ntmps177;go_wp2_with (go_at_call 22;(with_reducible refine(s_errV b _ _ HI.out H.out).mono ?_);rintro e_ wn ⟨rfl,h⟩;replace H:=Lib.hid h;clear h);go_ret;exact⟨rfl,H.out⟩
theorem s_failW (p:Nat) (i j:InS) (e:Int) (hx:i.fail e=j){W0 w:World}{K:Know}{L:List Res}(h:St W0 w K (.inp p i::L)):
  Calls Tryz.prog 70 #[inPtr p,.int .i64 e] w fun en w'=>en=.returned (.tuple #[])∧St W0 w' K (.inp p j::L):=by
 subst hx;exact s_fail p i e h

set_option maxHeartbeats 2000000 in
set_option maxRecDepth 100000 in
theorem whole_beg (b:Nat) (i j:InS) (v:Int) (nl:Bool) (d:Bs) (tm p e:Int) (r:Int) (t:Bool) (hr:begE v nl d tm p e=r) (hl:d.length≤140737488355328) (hi:i.err=0) (ht:(r==0)=t) (hj:(if r=0 then i else i.fail r)=j){W0 w:World}{K:Know}{L:List Res}(h:St W0 w K (.inp b i::L)):
   Calls Tryz.prog 177 #[inPtr b,.iface 269 (.agg #[.bool nl,.string (bb d),.int .i64 tm,.int .i64 p,.int .i64 e,.int .i64 v])] w fun en w'=>en=.returned (.bool t)∧St W0 w' K (.inp b j::L):=by
 have H:=Lib.hid h;have HI:=Lib.hid hi;have HR:=Lib.hid hr;have HL:=Lib.hid hl;clear h hr hl;clear hi
 by_cases h0:r=0
 · rw[if_pos h0]at hj;subst hj h0;obtain rfl:true=t:=ht;go_enter Tryz.func177,Tryz.ntmps177
   go_wp2_with (first
   |(go_at_call 22;(with_reducible refine(s_errV b _ _ HI.out H.out).mono ?_);rintro e_ wn ⟨rfl,h⟩;replace H:=Lib.hid h;clear h)
   |(go_at_call 274;(with_reducible refine(vsd_check v nl d tm p e _ HR.out HL.out H.out).mono ?_);rintro e_ wn ⟨rfl,h⟩;replace H:=Lib.hid h;clear h))
   go_ret;exact⟨rfl,H.out⟩
 · rw[if_neg h0]at hj;have HJ:=Lib.hid hj;have g0:(r==0)=false:=by rw[beq_eq_false_iff_ne];exact h0
   have g00:(r !=0)=true:=by simp[bne,g0]
   rw[g0]at ht;subst ht;clear hj h0;go_enter Tryz.func177,Tryz.ntmps177
   go_wp2_with (first
   |(go_at_call 22;(with_reducible refine(s_errV b _ _ HI.out H.out).mono ?_);rintro e_ wn ⟨rfl,h⟩;replace H:=Lib.hid h;clear h)
   |(go_at_call 274;(with_reducible refine(vsd_check v nl d tm p e _ HR.out HL.out H.out).mono ?_);rintro e_ wn ⟨rfl,h⟩;replace H:=Lib.hid h;clear h)
   |(go_at_call 70;(with_reducible refine(s_failW b _ _ _ HJ.out H.out).mono ?_);rintro e_ wn ⟨rfl,h⟩;replace H:=Lib.hid h;clear h))
   go_ret;exact⟨rfl,H.out⟩

set_option maxHeartbeats 2000000 in
set_option maxRecDepth 100000 in
theorem whole_add (b:Nat) (i j:InS) (d:Bs) (p e:Int) (l:List (TopS×Value)) (q:Option Addr) (cap:Nat) (r:Int) (t:Bool) (hr:addE d p e (l.map (·.1))=r) (hl:d.length≤140737488355328) (hf:FewT l) (hi:i.err=0) (ht:(r==0)=t) (hj:(if r=0 then i else i.fail r)=j){W0 w:World}{K:Know}{L:List Res}(hk:K.has (Know.tops (.slice q l.length cap) l)) (h:St W0 w K (.inp b i::L)):
   Calls Tryz.prog 177 #[inPtr b,.iface 30 (.agg #[.string (bb d),.int .i64 p,.int .i64 e,.slice q l.length cap])] w fun en w'=>en=.returned (.bool t)∧St W0 w' K (.inp b j::L):=by
 have H:=Lib.hid h;have HI:=Lib.hid hi;have HR:=Lib.hid hr;have HL:=Lib.hid hl;have HF:=Lib.hid hf;have HK:=Lib.hid hk;clear h hr hl hf hk;clear hi
 by_cases h0:r=0
 · rw[if_pos h0]at hj;subst hj h0;obtain rfl:true=t:=ht;go_enter Tryz.func177,Tryz.ntmps177
   go_wp2_with (first
   |(go_at_call 22;(with_reducible refine(s_errV b _ _ HI.out H.out).mono ?_);rintro e_ wn ⟨rfl,h⟩;replace H:=Lib.hid h;clear h)
   |(go_at_call 158;(with_reducible refine(add_check d p e l q cap _ HR.out HL.out HF.out HK.out H.out).mono ?_);rintro e_ wn ⟨rfl,h⟩;replace H:=Lib.hid h;clear h))
   go_ret;exact⟨rfl,H.out⟩
 · rw[if_neg h0]at hj;have HJ:=Lib.hid hj;have g0:(r==0)=false:=by rw[beq_eq_false_iff_ne];exact h0
   have g00:(r !=0)=true:=by simp[bne,g0]
   rw[g0]at ht;subst ht;clear hj h0;go_enter Tryz.func177,Tryz.ntmps177
   go_wp2_with (first
   |(go_at_call 22;(with_reducible refine(s_errV b _ _ HI.out H.out).mono ?_);rintro e_ wn ⟨rfl,h⟩;replace H:=Lib.hid h;clear h)
   |(go_at_call 158;(with_reducible refine(add_check d p e l q cap _ HR.out HL.out HF.out HK.out H.out).mono ?_);rintro e_ wn ⟨rfl,h⟩;replace H:=Lib.hid h;clear h)
   |(go_at_call 70;(with_reducible refine(s_failW b _ _ _ HJ.out H.out).mono ?_);rintro e_ wn ⟨rfl,h⟩;replace H:=Lib.hid h;clear h))
   go_ret;exact⟨rfl,H.out⟩

set_option maxHeartbeats 2000000 in
set_option maxRecDepth 100000 in
theorem whole_endG (b:Nat) (i j:InS) (id:Bs) (p e:Int) (c:Bool) (r:Int) (t:Bool) (hr:chkW id p e=r) (hl:id.length≤140737488355328) (hi:i.err=0) (ht:(r==0)=t) (hj:(if r=0 then i else i.fail r)=j){W0 w:World}{K:Know}{L:List Res}(h:St W0 w K (.inp b i::L)):
   Calls Tryz.prog 177 #[inPtr b,.iface 32 (.agg #[.string (bb id),.int .i64 p,.int .i64 e,.bool c])] w fun en w'=>en=.returned (.bool t)∧St W0 w' K (.inp b j::L):=by
 have H:=Lib.hid h;have HI:=Lib.hid hi;have HR:=Lib.hid hr;have HL:=Lib.hid hl;clear h hr hl;clear hi
 by_cases h0:r=0
 · rw[if_pos h0]at hj;subst hj h0;obtain rfl:true=t:=ht;go_enter Tryz.func177,Tryz.ntmps177
   go_wp2_with (first
   |(go_at_call 22;(with_reducible refine(s_errV b _ _ HI.out H.out).mono ?_);rintro e_ wn ⟨rfl,h⟩;replace H:=Lib.hid h;clear h)
   |(go_at_call 159;(with_reducible refine(end_check id p e c _ HR.out HL.out H.out).mono ?_);rintro e_ wn ⟨rfl,h⟩;replace H:=Lib.hid h;clear h))
   go_ret;exact⟨rfl,H.out⟩
 · rw[if_neg h0]at hj;have HJ:=Lib.hid hj;have g0:(r==0)=false:=by rw[beq_eq_false_iff_ne];exact h0
   have g00:(r !=0)=true:=by simp[bne,g0]
   rw[g0]at ht;subst ht;clear hj h0;go_enter Tryz.func177,Tryz.ntmps177
   go_wp2_with (first
   |(go_at_call 22;(with_reducible refine(s_errV b _ _ HI.out H.out).mono ?_);rintro e_ wn ⟨rfl,h⟩;replace H:=Lib.hid h;clear h)
   |(go_at_call 159;(with_reducible refine(end_check id p e c _ HR.out HL.out H.out).mono ?_);rintro e_ wn ⟨rfl,h⟩;replace H:=Lib.hid h;clear h)
   |(go_at_call 70;(with_reducible refine(s_failW b _ _ _ HJ.out H.out).mono ?_);rintro e_ wn ⟨rfl,h⟩;replace H:=Lib.hid h;clear h))
   go_ret;exact⟨rfl,H.out⟩

theorem whole_begO (b:Nat) (i:InS) (v:Int) (nl:Bool) (d:Bs) (tm p e:Int) (hr:begE v nl d tm p e=0) (hl:d.length≤140737488355328) (hi:i.err=0){W0 w:World}{K:Know}{L:List Res}(h:St W0 w K (.inp b i::L)):
  Calls Tryz.prog 177 #[inPtr b,.iface 269 (.agg #[.bool nl,.string (bb d),.int .i64 tm,.int .i64 p,.int .i64 e,.int .i64 v])] w fun en w'=>en=.returned (.bool true)∧St W0 w' K (.inp b i::L):=
 whole_beg b i i v nl d tm p e 0 true hr hl hi rfl (if_pos rfl) h
theorem whole_addO (b:Nat) (i:InS) (d:Bs) (p e:Int) (l:List (TopS×Value)) (q:Option Addr) (cap:Nat) (hr:addE d p e (l.map (·.1))=0) (hl:d.length≤140737488355328) (hf:FewT l) (hi:i.err=0){W0 w:World}{K:Know}{L:List Res}(hk:K.has (Know.tops (.slice q l.length cap) l)) (h:St W0 w K (.inp b i::L)):
  Calls Tryz.prog 177 #[inPtr b,.iface 30 (.agg #[.string (bb d),.int .i64 p,.int .i64 e,.slice q l.length cap])] w fun en w'=>en=.returned (.bool true)∧St W0 w' K (.inp b i::L):=
 whole_add b i i d p e l q cap 0 true hr hl hf hi rfl (if_pos rfl) hk h
set_option maxHeartbeats 6000000 in
set_option maxRecDepth 100000 in
theorem read_beg0_ok (b:Nat) (i i1 i2:InS) (nl:Bool) (d:Bs) (tm:Int) (h1:i.fixed 2=(⟨nl,d⟩,i1)) (h2:i1.int 4=(tm,i2)) (hi:i2.err=0) (hr:begE 0 nl d tm (-1) (-1)=0) (hl:d.length≤140737488355328){W0 w:World}{K:Know}{L:List Res}(h:St W0 w K (.inp b i::L)):
  Calls Tryz.prog 119 #[inPtr b,.int .i64 0] w fun en w'=>en=.returned (.agg #[.bool nl,.string (bb d),.int .i64 tm,.int .i64 (-1),.int .i64 (-1)])∧St W0 w' K (.inp b i2::L):=by
 obtain⟨rb,hrb⟩:∃b,w.heap.size=b:=⟨_,rfl⟩;obtain⟨eb,heb⟩:∃b,rb+1=b:=⟨_,rfl⟩;have g1:=(h.allocRaw #[.bool false,.string ⟨#[]⟩,.int .i64 0,.int .i64 0,.int .i64 0] 27).allocRaw #[.bool false,.string ⟨#[]⟩,.int .i64 0,.int .i64 (-1),.int .i64 (-1)] 27;simp only[World.size_alloc,hrb,heb]at g1;have H:=Lib.hid g1.p2;have H1:=Lib.hid h1;have H2:=Lib.hid h2;have HI:=Lib.hid hi;have HR:=Lib.hid hr;have HL:=Lib.hid hl;have HT:=Lib.hid (show((0:Int)==0)=true by rfl);have HJ:=Lib.hid (show(if (0:Int)=0 then i2 else i2.fail 0)=i2 by rfl);clear h g1 h1 h2 hi hr hl;go_enter Tryz.func119,Tryz.ntmps119
 go_wp2_with (first
  |(go_at_call 117;(with_reducible refine(blob_fixedT b i i1 nl d H1.out H.out).mono ?_);rintro e_ wn ⟨rfl,h⟩;have f0:=h.p1.rawFree 0;have g0:=h.p1.rawCell 0;simp at g0;have f1:=h.p1.rawFree 1;have g1:=h.p1.rawCell 1;simp at g1;have h:=(show St W0 ((wn.setCell ⟨eb,0,none⟩ (.bool nl)).setCell ⟨eb,1,none⟩ (.string (bb d))) K (.inp b i1::.raw eb #[.bool nl,.string (bb d),.int .i64 0,.int .i64 (-1),.int .i64 (-1)] 27::.raw rb #[.bool false,.string ⟨#[]⟩,.int .i64 0,.int .i64 0,.int .i64 0] 27::L)from((h.p1.rawSet 0 (.bool nl)).rawSet 1 (.string (bb d))).p1);replace H:=Lib.hid h;clear h)
  |(go_at_call 66;(with_reducible refine(s_intV b i1 i2 tm 4 H2.out H.out).mono ?_);rintro e_ wn ⟨rfl,h⟩;have f2:=h.p1.rawFree 2;have g2:=h.p1.rawCell 2;simp at g2;have h:=(show St W0 (wn.setCell ⟨eb,2,none⟩ (.int .i64 tm)) K (.inp b i2::.raw eb #[.bool nl,.string (bb d),.int .i64 tm,.int .i64 (-1),.int .i64 (-1)] 27::.raw rb #[.bool false,.string ⟨#[]⟩,.int .i64 0,.int .i64 0,.int .i64 0] 27::L)from(h.p1.rawSet 2 (.int .i64 tm)).p1);have c0:=h.p1.rawCell 0;have c1:=h.p1.rawCell 1;have c2:=h.p1.rawCell 2;have c3:=h.p1.rawCell 3;have c4:=h.p1.rawCell 4;simp at c0 c1 c2 c3 c4;replace H:=Lib.hid h;clear h)
  |(go_at_call 177;clear c0 c1 c2 c3 c4;(with_reducible refine(whole_begO b i2 0 nl d tm (-1) (-1) HR.out HL.out HI.out H.out).mono ?_);rintro e_ wn ⟨rfl,h⟩;have c0:=h.p1.rawCell 0;have d0:=h.p2.rawCell 0;have r0:=h.p2.rawFree 0;have c1:=h.p1.rawCell 1;have d1:=h.p2.rawCell 1;have r1:=h.p2.rawFree 1;have c2:=h.p1.rawCell 2;have d2:=h.p2.rawCell 2;have r2:=h.p2.rawFree 2;have c3:=h.p1.rawCell 3;have d3:=h.p2.rawCell 3;have r3:=h.p2.rawFree 3;have c4:=h.p1.rawCell 4;have d4:=h.p2.rawCell 4;have r4:=h.p2.rawFree 4;simp at c0 d0 c1 d1 c2 d2 c3 d3 c4 d4;replace H:=Lib.hid h;clear h))
 have hz:St W0 _ _ (.raw rb #[.bool nl,.string (bb d),.int .i64 tm,.int .i64 (-1),.int .i64 (-1)] 27::.inp b i2::.raw eb #[.bool nl,.string (bb d),.int .i64 tm,.int .i64 (-1),.int .i64 (-1)] 27::L):=(((((H.out.p2.rawSet 0 _).rawSet 1 _).rawSet 2 _).rawSet 3 _).rawSet 4 _);refine bodyPost_ret (rc_cell_only rfl _ _ rb [.bool nl,.string (bb d),.int .i64 tm,.int .i64 (-1),.int .i64 (-1)] _ rfl (rc_range hz) Tryz.underlying27 rfl (by kernel_rfl)) rfl ?_;exact⟨rfl,hz.drop.p1.drop⟩

set_option maxHeartbeats 6000000 in
set_option maxRecDepth 100000 in
theorem read_beg0_chk (b:Nat) (i i1 i2 j:InS) (nl:Bool) (d:Bs) (tm:Int) (h1:i.fixed 2=(⟨nl,d⟩,i1)) (h2:i1.int 4=(tm,i2)) (hi:i2.err=0) (r:Int) (hr:begE 0 nl d tm (-1) (-1)=r) (h0:r≠0) (hj:i2.fail r=j) (hl:d.length≤140737488355328){W0 w:World}{K:Know}{L:List Res}(h:St W0 w K (.inp b i::L)):
  Calls Tryz.prog 119 #[inPtr b,.int .i64 0] w fun en w'=>en=.returned (.agg #[.bool false,.string ⟨#[]⟩,.int .i64 0,.int .i64 0,.int .i64 0])∧St W0 w' K (.inp b j::L):=by
 obtain⟨rb,hrb⟩:∃b,w.heap.size=b:=⟨_,rfl⟩;obtain⟨eb,heb⟩:∃b,rb+1=b:=⟨_,rfl⟩;have g1:=(h.allocRaw #[.bool false,.string ⟨#[]⟩,.int .i64 0,.int .i64 0,.int .i64 0] 27).allocRaw #[.bool false,.string ⟨#[]⟩,.int .i64 0,.int .i64 (-1),.int .i64 (-1)] 27;simp only[World.size_alloc,hrb,heb]at g1;have H:=Lib.hid g1.p2;have H1:=Lib.hid h1;have H2:=Lib.hid h2;have HI:=Lib.hid hi;have HR:=Lib.hid hr;have HL:=Lib.hid hl;have HT:=Lib.hid (show(r==0)=false by rw[beq_eq_false_iff_ne];exact h0);have HJ:=Lib.hid (show(if r=0 then i2 else i2.fail r)=j by rw[if_neg h0];exact hj);clear h g1 h1 h2 hi hr hl h0 hj;go_enter Tryz.func119,Tryz.ntmps119
 go_wp2_with (first
  |(go_at_call 117;(with_reducible refine(blob_fixedT b i i1 nl d H1.out H.out).mono ?_);rintro e_ wn ⟨rfl,h⟩;have f0:=h.p1.rawFree 0;have g0:=h.p1.rawCell 0;simp at g0;have f1:=h.p1.rawFree 1;have g1:=h.p1.rawCell 1;simp at g1;have h:=(show St W0 ((wn.setCell ⟨eb,0,none⟩ (.bool nl)).setCell ⟨eb,1,none⟩ (.string (bb d))) K (.inp b i1::.raw eb #[.bool nl,.string (bb d),.int .i64 0,.int .i64 (-1),.int .i64 (-1)] 27::.raw rb #[.bool false,.string ⟨#[]⟩,.int .i64 0,.int .i64 0,.int .i64 0] 27::L)from((h.p1.rawSet 0 (.bool nl)).rawSet 1 (.string (bb d))).p1);replace H:=Lib.hid h;clear h)
  |(go_at_call 66;(with_reducible refine(s_intV b i1 i2 tm 4 H2.out H.out).mono ?_);rintro e_ wn ⟨rfl,h⟩;have f2:=h.p1.rawFree 2;have g2:=h.p1.rawCell 2;simp at g2;have h:=(show St W0 (wn.setCell ⟨eb,2,none⟩ (.int .i64 tm)) K (.inp b i2::.raw eb #[.bool nl,.string (bb d),.int .i64 tm,.int .i64 (-1),.int .i64 (-1)] 27::.raw rb #[.bool false,.string ⟨#[]⟩,.int .i64 0,.int .i64 0,.int .i64 0] 27::L)from(h.p1.rawSet 2 (.int .i64 tm)).p1);have c0:=h.p1.rawCell 0;have c1:=h.p1.rawCell 1;have c2:=h.p1.rawCell 2;have c3:=h.p1.rawCell 3;have c4:=h.p1.rawCell 4;simp at c0 c1 c2 c3 c4;replace H:=Lib.hid h;clear h)
  |(go_at_call 177;clear c0 c1 c2 c3 c4;(with_reducible refine(whole_beg b i2 _ 0 nl d tm (-1) (-1) _ _ HR.out HL.out HI.out HT.out HJ.out H.out).mono ?_);rintro e_ wn ⟨rfl,h⟩;have c0:=h.p1.rawCell 0;have d0:=h.p2.rawCell 0;have r0:=h.p2.rawFree 0;have c1:=h.p1.rawCell 1;have d1:=h.p2.rawCell 1;have r1:=h.p2.rawFree 1;have c2:=h.p1.rawCell 2;have d2:=h.p2.rawCell 2;have r2:=h.p2.rawFree 2;have c3:=h.p1.rawCell 3;have d3:=h.p2.rawCell 3;have r3:=h.p2.rawFree 3;have c4:=h.p1.rawCell 4;have d4:=h.p2.rawCell 4;have r4:=h.p2.rawFree 4;simp at c0 d0 c1 d1 c2 d2 c3 d3 c4 d4;replace H:=Lib.hid h;clear h))
 have hz:St W0 _ _ (.raw rb #[.bool false,.string ⟨#[]⟩,.int .i64 0,.int .i64 0,.int .i64 0] 27::.inp b j::.raw eb #[.bool nl,.string (bb d),.int .i64 tm,.int .i64 (-1),.int .i64 (-1)] 27::L):=(((((H.out.p2.rawSet 0 _).rawSet 1 _).rawSet 2 _).rawSet 3 _).rawSet 4 _);refine bodyPost_ret (rc_cell_only rfl _ _ rb [.bool false,.string ⟨#[]⟩,.int .i64 0,.int .i64 0,.int .i64 0] _ rfl (rc_range hz) Tryz.underlying27 rfl (by kernel_rfl)) rfl ?_;exact⟨rfl,hz.drop.p1.drop⟩

set_option maxHeartbeats 6000000 in
set_option maxRecDepth 100000 in
theorem read_beg0_err (b:Nat) (i i1 i2:InS) (nl:Bool) (d:Bs) (tm:Int) (h1:i.fixed 2=(⟨nl,d⟩,i1)) (h2:i1.int 4=(tm,i2)) (x:Int) (hi:i2.err=x) (h0:x≠0){W0 w:World}{K:Know}{L:List Res}(h:St W0 w K (.inp b i::L)):
  Calls Tryz.prog 119 #[inPtr b,.int .i64 0] w fun en w'=>en=.returned (.agg #[.bool false,.string ⟨#[]⟩,.int .i64 0,.int .i64 0,.int .i64 0])∧St W0 w' K (.inp b i2::L):=by
 obtain⟨rb,hrb⟩:∃b,w.heap.size=b:=⟨_,rfl⟩;obtain⟨eb,heb⟩:∃b,rb+1=b:=⟨_,rfl⟩;have g1:=(h.allocRaw #[.bool false,.string ⟨#[]⟩,.int .i64 0,.int .i64 0,.int .i64 0] 27).allocRaw #[.bool false,.string ⟨#[]⟩,.int .i64 0,.int .i64 (-1),.int .i64 (-1)] 27;simp only[World.size_alloc,hrb,heb]at g1;have H:=Lib.hid g1.p2;have H1:=Lib.hid h1;have H2:=Lib.hid h2;have HI:=Lib.hid hi;have H0:=Lib.hid h0;clear h g1 h1 h2 hi h0;go_enter Tryz.func119,Tryz.ntmps119
 go_wp2_with (first
  |(go_at_call 117;(with_reducible refine(blob_fixedT b i i1 nl d H1.out H.out).mono ?_);rintro e_ wn ⟨rfl,h⟩;have f0:=h.p1.rawFree 0;have g0:=h.p1.rawCell 0;simp at g0;have f1:=h.p1.rawFree 1;have g1:=h.p1.rawCell 1;simp at g1;have h:=(show St W0 ((wn.setCell ⟨eb,0,none⟩ (.bool nl)).setCell ⟨eb,1,none⟩ (.string (bb d))) K (.inp b i1::.raw eb #[.bool nl,.string (bb d),.int .i64 0,.int .i64 (-1),.int .i64 (-1)] 27::.raw rb #[.bool false,.string ⟨#[]⟩,.int .i64 0,.int .i64 0,.int .i64 0] 27::L)from((h.p1.rawSet 0 (.bool nl)).rawSet 1 (.string (bb d))).p1);replace H:=Lib.hid h;clear h)
  |(go_at_call 66;(with_reducible refine(s_intV b i1 i2 tm 4 H2.out H.out).mono ?_);rintro e_ wn ⟨rfl,h⟩;have f2:=h.p1.rawFree 2;have g2:=h.p1.rawCell 2;simp at g2;have h:=(show St W0 (wn.setCell ⟨eb,2,none⟩ (.int .i64 tm)) K (.inp b i2::.raw eb #[.bool nl,.string (bb d),.int .i64 tm,.int .i64 (-1),.int .i64 (-1)] 27::.raw rb #[.bool false,.string ⟨#[]⟩,.int .i64 0,.int .i64 0,.int .i64 0] 27::L)from(h.p1.rawSet 2 (.int .i64 tm)).p1);have c0:=h.p1.rawCell 0;have c1:=h.p1.rawCell 1;have c2:=h.p1.rawCell 2;have c3:=h.p1.rawCell 3;have c4:=h.p1.rawCell 4;simp at c0 c1 c2 c3 c4;replace H:=Lib.hid h;clear h)
  |(go_at_call 177;clear c0 c1 c2 c3 c4;(with_reducible refine(whole_err b i2 x HI.out H0.out _ H.out).mono ?_);rintro e_ wn ⟨rfl,h⟩;have c0:=h.p1.rawCell 0;have d0:=h.p2.rawCell 0;have r0:=h.p2.rawFree 0;have c1:=h.p1.rawCell 1;have d1:=h.p2.rawCell 1;have r1:=h.p2.rawFree 1;have c2:=h.p1.rawCell 2;have d2:=h.p2.rawCell 2;have r2:=h.p2.rawFree 2;have c3:=h.p1.rawCell 3;have d3:=h.p2.rawCell 3;have r3:=h.p2.rawFree 3;have c4:=h.p1.rawCell 4;have d4:=h.p2.rawCell 4;have r4:=h.p2.rawFree 4;simp at c0 d0 c1 d1 c2 d2 c3 d3 c4 d4;replace H:=Lib.hid h;clear h))
 have hz:St W0 _ _ (.raw rb #[.bool false,.string ⟨#[]⟩,.int .i64 0,.int .i64 0,.int .i64 0] 27::.inp b i2::.raw eb #[.bool nl,.string (bb d),.int .i64 tm,.int .i64 (-1),.int .i64 (-1)] 27::L):=(((((H.out.p2.rawSet 0 _).rawSet 1 _).rawSet 2 _).rawSet 3 _).rawSet 4 _);refine bodyPost_ret (rc_cell_only rfl _ _ rb [.bool false,.string ⟨#[]⟩,.int .i64 0,.int .i64 0,.int .i64 0] _ rfl (rc_range hz) Tryz.underlying27 rfl (by kernel_rfl)) rfl ?_;exact⟨rfl,hz.drop.p1.drop⟩

set_option maxHeartbeats 6000000 in
set_option maxRecDepth 100000 in
theorem read_beg1_ok (b:Nat) (i i1 i2 i3 i4:InS) (nl:Bool) (d:Bs) (tm p e:Int) (h1:i.fixed 2=(⟨nl,d⟩,i1)) (h2:i1.int 4=(tm,i2)) (h3:i2.int 8=(p,i3)) (h4:i3.int 2=(e,i4)) (hi:i4.err=0) (hr:begE 1 nl d tm p e=0) (hl:d.length≤140737488355328){W0 w:World}{K:Know}{L:List Res}(h:St W0 w K (.inp b i::L)):
  Calls Tryz.prog 119 #[inPtr b,.int .i64 1] w fun en w'=>en=.returned (.agg #[.bool nl,.string (bb d),.int .i64 tm,.int .i64 p,.int .i64 e])∧St W0 w' K (.inp b i4::L):=by
 obtain⟨rb,hrb⟩:∃b,w.heap.size=b:=⟨_,rfl⟩;obtain⟨eb,heb⟩:∃b,rb+1=b:=⟨_,rfl⟩;have g1:=(h.allocRaw #[.bool false,.string ⟨#[]⟩,.int .i64 0,.int .i64 0,.int .i64 0] 27).allocRaw #[.bool false,.string ⟨#[]⟩,.int .i64 0,.int .i64 (-1),.int .i64 (-1)] 27;simp only[World.size_alloc,hrb,heb]at g1;have H:=Lib.hid g1.p2;have H1:=Lib.hid h1;have H2:=Lib.hid h2;have H3:=Lib.hid h3;have H4:=Lib.hid h4;have HI:=Lib.hid hi;have HR:=Lib.hid hr;have HL:=Lib.hid hl;have HT:=Lib.hid (show((0:Int)==0)=true by rfl);have HJ:=Lib.hid (show(if (0:Int)=0 then i4 else i4.fail 0)=i4 by rfl);clear h g1 h1 h2 h3 h4 hi hr hl;go_enter Tryz.func119,Tryz.ntmps119
 go_wp2_with (first
  |(go_at_call 117;(with_reducible refine(blob_fixedT b i i1 nl d H1.out H.out).mono ?_);rintro e_ wn ⟨rfl,h⟩;have f0:=h.p1.rawFree 0;have g0:=h.p1.rawCell 0;simp at g0;have f1:=h.p1.rawFree 1;have g1:=h.p1.rawCell 1;simp at g1;have h:=(show St W0 ((wn.setCell ⟨eb,0,none⟩ (.bool nl)).setCell ⟨eb,1,none⟩ (.string (bb d))) K (.inp b i1::.raw eb #[.bool nl,.string (bb d),.int .i64 0,.int .i64 (-1),.int .i64 (-1)] 27::.raw rb #[.bool false,.string ⟨#[]⟩,.int .i64 0,.int .i64 0,.int .i64 0] 27::L)from((h.p1.rawSet 0 (.bool nl)).rawSet 1 (.string (bb d))).p1);replace H:=Lib.hid h;clear h)
  |(go_at_call 66;(with_reducible refine(s_intV b i1 i2 tm 4 H2.out H.out).mono ?_);rintro e_ wn ⟨rfl,h⟩;have f2:=h.p1.rawFree 2;have g2:=h.p1.rawCell 2;simp at g2;have h:=(show St W0 (wn.setCell ⟨eb,2,none⟩ (.int .i64 tm)) K (.inp b i2::.raw eb #[.bool nl,.string (bb d),.int .i64 tm,.int .i64 (-1),.int .i64 (-1)] 27::.raw rb #[.bool false,.string ⟨#[]⟩,.int .i64 0,.int .i64 0,.int .i64 0] 27::L)from(h.p1.rawSet 2 (.int .i64 tm)).p1);replace H:=Lib.hid h;clear h)
  |(go_at_call 176;(with_reducible refine(txn_readWriter b i2 i3 i4 p e H3.out H4.out H.out).mono ?_);rintro e_ wn ⟨rfl,h⟩;have f3:=h.p1.rawFree 3;have g3:=h.p1.rawCell 3;simp at g3;have f4:=h.p1.rawFree 4;have g4:=h.p1.rawCell 4;simp at g4;have h:=(show St W0 ((wn.setCell ⟨eb,3,none⟩ (.int .i64 p)).setCell ⟨eb,4,none⟩ (.int .i64 e)) K (.inp b i4::.raw eb #[.bool nl,.string (bb d),.int .i64 tm,.int .i64 p,.int .i64 e] 27::.raw rb #[.bool false,.string ⟨#[]⟩,.int .i64 0,.int .i64 0,.int .i64 0] 27::L)from((h.p1.rawSet 3 (.int .i64 p)).rawSet 4 (.int .i64 e)).p1);have c0:=h.p1.rawCell 0;have c1:=h.p1.rawCell 1;have c2:=h.p1.rawCell 2;have c3:=h.p1.rawCell 3;have c4:=h.p1.rawCell 4;simp at c0 c1 c2 c3 c4;replace H:=Lib.hid h;clear h)
  |(go_at_call 177;clear c0 c1 c2 c3 c4;(with_reducible refine(whole_begO b i4 1 nl d tm p e HR.out HL.out HI.out H.out).mono ?_);rintro e_ wn ⟨rfl,h⟩;have c0:=h.p1.rawCell 0;have d0:=h.p2.rawCell 0;have r0:=h.p2.rawFree 0;have c1:=h.p1.rawCell 1;have d1:=h.p2.rawCell 1;have r1:=h.p2.rawFree 1;have c2:=h.p1.rawCell 2;have d2:=h.p2.rawCell 2;have r2:=h.p2.rawFree 2;have c3:=h.p1.rawCell 3;have d3:=h.p2.rawCell 3;have r3:=h.p2.rawFree 3;have c4:=h.p1.rawCell 4;have d4:=h.p2.rawCell 4;have r4:=h.p2.rawFree 4;simp at c0 d0 c1 d1 c2 d2 c3 d3 c4 d4;replace H:=Lib.hid h;clear h))
 have hz:St W0 _ _ (.raw rb #[.bool nl,.string (bb d),.int .i64 tm,.int .i64 p,.int .i64 e] 27::.inp b i4::.raw eb #[.bool nl,.string (bb d),.int .i64 tm,.int .i64 p,.int .i64 e] 27::L):=(((((H.out.p2.rawSet 0 _).rawSet 1 _).rawSet 2 _).rawSet 3 _).rawSet 4 _);refine bodyPost_ret (rc_cell_only rfl _ _ rb [.bool nl,.string (bb d),.int .i64 tm,.int .i64 p,.int .i64 e] _ rfl (rc_range hz) Tryz.underlying27 rfl (by kernel_rfl)) rfl ?_;exact⟨rfl,hz.drop.p1.drop⟩

set_option maxHeartbeats 6000000 in
set_option maxRecDepth 100000 in
theorem read_beg1_chk (b:Nat) (i i1 i2 i3 i4 j:InS) (nl:Bool) (d:Bs) (tm p e:Int) (h1:i.fixed 2=(⟨nl,d⟩,i1)) (h2:i1.int 4=(tm,i2)) (h3:i2.int 8=(p,i3)) (h4:i3.int 2=(e,i4)) (hi:i4.err=0) (r:Int) (hr:begE 1 nl d tm p e=r) (h0:r≠0) (hj:i4.fail r=j) (hl:d.length≤140737488355328){W0 w:World}{K:Know}{L:List Res}(h:St W0 w K (.inp b i::L)):
  Calls Tryz.prog 119 #[inPtr b,.int .i64 1] w fun en w'=>en=.returned (.agg #[.bool false,.string ⟨#[]⟩,.int .i64 0,.int .i64 0,.int .i64 0])∧St W0 w' K (.inp b j::L):=by
 obtain⟨rb,hrb⟩:∃b,w.heap.size=b:=⟨_,rfl⟩;obtain⟨eb,heb⟩:∃b,rb+1=b:=⟨_,rfl⟩;have g1:=(h.allocRaw #[.bool false,.string ⟨#[]⟩,.int .i64 0,.int .i64 0,.int .i64 0] 27).allocRaw #[.bool false,.string ⟨#[]⟩,.int .i64 0,.int .i64 (-1),.int .i64 (-1)] 27;simp only[World.size_alloc,hrb,heb]at g1;have H:=Lib.hid g1.p2;have H1:=Lib.hid h1;have H2:=Lib.hid h2;have H3:=Lib.hid h3;have H4:=Lib.hid h4;have HI:=Lib.hid hi;have HR:=Lib.hid hr;have HL:=Lib.hid hl;have HT:=Lib.hid (show(r==0)=false by rw[beq_eq_false_iff_ne];exact h0);have HJ:=Lib.hid (show(if r=0 then i4 else i4.fail r)=j by rw[if_neg h0];exact hj);clear h g1 h1 h2 h3 h4 hi hr hl h0 hj;go_enter Tryz.func119,Tryz.ntmps119
 go_wp2_with (first
  |(go_at_call 117;(with_reducible refine(blob_fixedT b i i1 nl d H1.out H.out).mono ?_);rintro e_ wn ⟨rfl,h⟩;have f0:=h.p1.rawFree 0;have g0:=h.p1.rawCell 0;simp at g0;have f1:=h.p1.rawFree 1;have g1:=h.p1.rawCell 1;simp at g1;have h:=(show St W0 ((wn.setCell ⟨eb,0,none⟩ (.bool nl)).setCell ⟨eb,1,none⟩ (.string (bb d))) K (.inp b i1::.raw eb #[.bool nl,.string (bb d),.int .i64 0,.int .i64 (-1),.int .i64 (-1)] 27::.raw rb #[.bool false,.string ⟨#[]⟩,.int .i64 0,.int .i64 0,.int .i64 0] 27::L)from((h.p1.rawSet 0 (.bool nl)).rawSet 1 (.string (bb d))).p1);replace H:=Lib.hid h;clear h)
  |(go_at_call 66;(with_reducible refine(s_intV b i1 i2 tm 4 H2.out H.out).mono ?_);rintro e_ wn ⟨rfl,h⟩;have f2:=h.p1.rawFree 2;have g2:=h.p1.rawCell 2;simp at g2;have h:=(show St W0 (wn.setCell ⟨eb,2,none⟩ (.int .i64 tm)) K (.inp b i2::.raw eb #[.bool nl,.string (bb d),.int .i64 tm,.int .i64 (-1),.int .i64 (-1)] 27::.raw rb #[.bool false,.string ⟨#[]⟩,.int .i64 0,.int .i64 0,.int .i64 0] 27::L)from(h.p1.rawSet 2 (.int .i64 tm)).p1);replace H:=Lib.hid h;clear h)
  |(go_at_call 176;(with_reducible refine(txn_readWriter b i2 i3 i4 p e H3.out H4.out H.out).mono ?_);rintro e_ wn ⟨rfl,h⟩;have f3:=h.p1.rawFree 3;have g3:=h.p1.rawCell 3;simp at g3;have f4:=h.p1.rawFree 4;have g4:=h.p1.rawCell 4;simp at g4;have h:=(show St W0 ((wn.setCell ⟨eb,3,none⟩ (.int .i64 p)).setCell ⟨eb,4,none⟩ (.int .i64 e)) K (.inp b i4::.raw eb #[.bool nl,.string (bb d),.int .i64 tm,.int .i64 p,.int .i64 e] 27::.raw rb #[.bool false,.string ⟨#[]⟩,.int .i64 0,.int .i64 0,.int .i64 0] 27::L)from((h.p1.rawSet 3 (.int .i64 p)).rawSet 4 (.int .i64 e)).p1);have c0:=h.p1.rawCell 0;have c1:=h.p1.rawCell 1;have c2:=h.p1.rawCell 2;have c3:=h.p1.rawCell 3;have c4:=h.p1.rawCell 4;simp at c0 c1 c2 c3 c4;replace H:=Lib.hid h;clear h)
  |(go_at_call 177;clear c0 c1 c2 c3 c4;(with_reducible refine(whole_beg b i4 _ 1 nl d tm p e _ _ HR.out HL.out HI.out HT.out HJ.out H.out).mono ?_);rintro e_ wn ⟨rfl,h⟩;have c0:=h.p1.rawCell 0;have d0:=h.p2.rawCell 0;have r0:=h.p2.rawFree 0;have c1:=h.p1.rawCell 1;have d1:=h.p2.rawCell 1;have r1:=h.p2.rawFree 1;have c2:=h.p1.rawCell 2;have d2:=h.p2.rawCell 2;have r2:=h.p2.rawFree 2;have c3:=h.p1.rawCell 3;have d3:=h.p2.rawCell 3;have r3:=h.p2.rawFree 3;have c4:=h.p1.rawCell 4;have d4:=h.p2.rawCell 4;have r4:=h.p2.rawFree 4;simp at c0 d0 c1 d1 c2 d2 c3 d3 c4 d4;replace H:=Lib.hid h;clear h))
 have hz:St W0 _ _ (.raw rb #[.bool false,.string ⟨#[]⟩,.int .i64 0,.int .i64 0,.int .i64 0] 27::.inp b j::.raw eb #[.bool nl,.string (bb d),.int .i64 tm,.int .i64 p,.int .i64 e] 27::L):=(((((H.out.p2.rawSet 0 _).rawSet 1 _).rawSet 2 _).rawSet 3 _).rawSet 4 _);refine bodyPost_ret (rc_cell_only rfl _ _ rb [.bool false,.string ⟨#[]⟩,.int .i64 0,.int .i64 0,.int .i64 0] _ rfl (rc_range hz) Tryz.underlying27 rfl (by kernel_rfl)) rfl ?_;exact⟨rfl,hz.drop.p1.drop⟩

set_option maxHeartbeats 6000000 in
set_option maxRecDepth 100000 in
theorem read_beg1_err (b:Nat) (i i1 i2 i3 i4:InS) (nl:Bool) (d:Bs) (tm p e:Int) (h1:i.fixed 2=(⟨nl,d⟩,i1)) (h2:i1.int 4=(tm,i2)) (h3:i2.int 8=(p,i3)) (h4:i3.int 2=(e,i4)) (x:Int) (hi:i4.err=x) (h0:x≠0){W0 w:World}{K:Know}{L:List Res}(h:St W0 w K (.inp b i::L)):
  Calls Tryz.prog 119 #[inPtr b,.int .i64 1] w fun en w'=>en=.returned (.agg #[.bool false,.string ⟨#[]⟩,.int .i64 0,.int .i64 0,.int .i64 0])∧St W0 w' K (.inp b i4::L):=by
 obtain⟨rb,hrb⟩:∃b,w.heap.size=b:=⟨_,rfl⟩;obtain⟨eb,heb⟩:∃b,rb+1=b:=⟨_,rfl⟩;have g1:=(h.allocRaw #[.bool false,.string ⟨#[]⟩,.int .i64 0,.int .i64 0,.int .i64 0] 27).allocRaw #[.bool false,.string ⟨#[]⟩,.int .i64 0,.int .i64 (-1),.int .i64 (-1)] 27;simp only[World.size_alloc,hrb,heb]at g1;have H:=Lib.hid g1.p2;have H1:=Lib.hid h1;have H2:=Lib.hid h2;have H3:=Lib.hid h3;have H4:=Lib.hid h4;have HI:=Lib.hid hi;have H0:=Lib.hid h0;clear h g1 h1 h2 h3 h4 hi h0;go_enter Tryz.func119,Tryz.ntmps119
 go_wp2_with (first
  |(go_at_call 117;(with_reducible refine(blob_fixedT b i i1 nl d H1.out H.out).mono ?_);rintro e_ wn ⟨rfl,h⟩;have f0:=h.p1.rawFree 0;have g0:=h.p1.rawCell 0;simp at g0;have f1:=h.p1.rawFree 1;have g1:=h.p1.rawCell 1;simp at g1;have h:=(show St W0 ((wn.setCell ⟨eb,0,none⟩ (.bool nl)).setCell ⟨eb,1,none⟩ (.string (bb d))) K (.inp b i1::.raw eb #[.bool nl,.string (bb d),.int .i64 0,.int .i64 (-1),.int .i64 (-1)] 27::.raw rb #[.bool false,.string ⟨#[]⟩,.int .i64 0,.int .i64 0,.int .i64 0] 27::L)from((h.p1.rawSet 0 (.bool nl)).rawSet 1 (.string (bb d))).p1);replace H:=Lib.hid h;clear h)
  |(go_at_call 66;(with_reducible refine(s_intV b i1 i2 tm 4 H2.out H.out).mono ?_);rintro e_ wn ⟨rfl,h⟩;have f2:=h.p1.rawFree 2;have g2:=h.p1.rawCell 2;simp at g2;have h:=(show St W0 (wn.setCell ⟨eb,2,none⟩ (.int .i64 tm)) K (.inp b i2::.raw eb #[.bool nl,.string (bb d),.int .i64 tm,.int .i64 (-1),.int .i64 (-1)] 27::.raw rb #[.bool false,.string ⟨#[]⟩,.int .i64 0,.int .i64 0,.int .i64 0] 27::L)from(h.p1.rawSet 2 (.int .i64 tm)).p1);replace H:=Lib.hid h;clear h)
  |(go_at_call 176;(with_reducible refine(txn_readWriter b i2 i3 i4 p e H3.out H4.out H.out).mono ?_);rintro e_ wn ⟨rfl,h⟩;have f3:=h.p1.rawFree 3;have g3:=h.p1.rawCell 3;simp at g3;have f4:=h.p1.rawFree 4;have g4:=h.p1.rawCell 4;simp at g4;have h:=(show St W0 ((wn.setCell ⟨eb,3,none⟩ (.int .i64 p)).setCell ⟨eb,4,none⟩ (.int .i64 e)) K (.inp b i4::.raw eb #[.bool nl,.string (bb d),.int .i64 tm,.int .i64 p,.int .i64 e] 27::.raw rb #[.bool false,.string ⟨#[]⟩,.int .i64 0,.int .i64 0,.int .i64 0] 27::L)from((h.p1.rawSet 3 (.int .i64 p)).rawSet 4 (.int .i64 e)).p1);have c0:=h.p1.rawCell 0;have c1:=h.p1.rawCell 1;have c2:=h.p1.rawCell 2;have c3:=h.p1.rawCell 3;have c4:=h.p1.rawCell 4;simp at c0 c1 c2 c3 c4;replace H:=Lib.hid h;clear h)
  |(go_at_call 177;clear c0 c1 c2 c3 c4;(with_reducible refine(whole_err b i4 x HI.out H0.out _ H.out).mono ?_);rintro e_ wn ⟨rfl,h⟩;have c0:=h.p1.rawCell 0;have d0:=h.p2.rawCell 0;have r0:=h.p2.rawFree 0;have c1:=h.p1.rawCell 1;have d1:=h.p2.rawCell 1;have r1:=h.p2.rawFree 1;have c2:=h.p1.rawCell 2;have d2:=h.p2.rawCell 2;have r2:=h.p2.rawFree 2;have c3:=h.p1.rawCell 3;have d3:=h.p2.rawCell 3;have r3:=h.p2.rawFree 3;have c4:=h.p1.rawCell 4;have d4:=h.p2.rawCell 4;have r4:=h.p2.rawFree 4;simp at c0 d0 c1 d1 c2 d2 c3 d3 c4 d4;replace H:=Lib.hid h;clear h))
 have hz:St W0 _ _ (.raw rb #[.bool false,.string ⟨#[]⟩,.int .i64 0,.int .i64 0,.int .i64 0] 27::.inp b i4::.raw eb #[.bool nl,.string (bb d),.int .i64 tm,.int .i64 p,.int .i64 e] 27::L):=(((((H.out.p2.rawSet 0 _).rawSet 1 _).rawSet 2 _).rawSet 3 _).rawSet 4 _);refine bodyPost_ret (rc_cell_only rfl _ _ rb [.bool false,.string ⟨#[]⟩,.int .i64 0,.int .i64 0,.int .i64 0] _ rfl (rc_range hz) Tryz.underlying27 rfl (by kernel_rfl)) rfl ?_;exact⟨rfl,hz.drop.p1.drop⟩
set_option maxHeartbeats 6000000 in
set_option maxRecDepth 100000 in
theorem read_add_ok (b:Nat) (i i1 i2 i3 i4:InS) (d:Bs) (p e:Int) (tl:List TopS) (h1:i.text=(d,i1)) (h2:i1.int 8=(p,i2)) (h3:i2.int 2=(e,i3)) (h4:i3.tops=(tl,i4)) (hi:i4.err=0) (hr:addE d p e tl=0) (hl:d.length≤140737488355328) (hf:FewL tl){W0 w:World}{K:Know}{L:List Res}(h:St W0 w K (.inp b i::L)):
  Calls Tryz.prog 120 #[inPtr b] w fun en w'=>∃(q:Option Addr) (cap:Nat) (lr:List (TopS×Value)),en=.returned (.agg #[.string (bb d),.int .i64 p,.int .i64 e,.slice q lr.length cap])∧lr.map (·.1)=tl∧St W0 w' (K.and (Know.tops (.slice q lr.length cap) lr)) (.inp b i4::L):=by
 obtain⟨rb,hrb⟩:∃b,w.heap.size=b:=⟨_,rfl⟩;obtain⟨eb,heb⟩:∃b,rb+1=b:=⟨_,rfl⟩;have g1:=(h.allocRaw #[.string ⟨#[]⟩,.int .i64 0,.int .i64 0,.slice none 0 0] 30).allocRaw #[.string ⟨#[]⟩,.int .i64 0,.int .i64 0,.slice none 0 0] 30;simp only[World.size_alloc,hrb,heb]at g1;have H:=Lib.hid g1.p2;have H1:=Lib.hid h1;have H2:=Lib.hid h2;have H3:=Lib.hid h3;have H4:=Lib.hid h4;have HI:=Lib.hid hi;have HR:=Lib.hid hr;have HL:=Lib.hid hl;have HFL:=Lib.hid hf;have HT:=Lib.hid (show((0:Int)==0)=true by rfl);have HJ:=Lib.hid (show(if (0:Int)=0 then i4 else i4.fail 0)=i4 by rfl);clear h g1 h1 h2 h3 h4 hi hr hl hf;go_enter Tryz.func120,Tryz.ntmps120
 go_wp2_with (first
  |(go_at_call 87;(with_reducible refine(blob_textV b _ _ d H1.out H.out).mono ?_);rintro e_ wn ⟨rfl,h⟩;have f0:=h.p1.rawFree 0;have g0:=h.p1.rawCell 0;simp at g0;have h:=(show St W0 (wn.setCell ⟨eb,0,none⟩ (.string (bb d))) K (.inp b i1::.raw eb #[.string (bb d),.int .i64 0,.int .i64 0,.slice none 0 0] 30::.raw rb #[.string ⟨#[]⟩,.int .i64 0,.int .i64 0,.slice none 0 0] 30::L)from(h.p1.rawSet 0 (.string (bb d))).p1);replace H:=Lib.hid h;clear h)
  |(go_at_call 176;(with_reducible refine(txn_readWriter b _ _ _ p e H2.out H3.out H.out).mono ?_);rintro e_ wn ⟨rfl,h⟩;have f1:=h.p1.rawFree 1;have g1:=h.p1.rawCell 1;simp at g1;have f2:=h.p1.rawFree 2;have g2:=h.p1.rawCell 2;simp at g2;have h:=(show St W0 ((wn.setCell ⟨eb,1,none⟩ (.int .i64 p)).setCell ⟨eb,2,none⟩ (.int .i64 e)) K (.inp b i3::.raw eb #[.string (bb d),.int .i64 p,.int .i64 e,.slice none 0 0] 30::.raw rb #[.string ⟨#[]⟩,.int .i64 0,.int .i64 0,.slice none 0 0] 30::L)from((h.p1.rawSet 1 (.int .i64 p)).rawSet 2 (.int .i64 e)).p1);replace H:=Lib.hid h;clear h)
  |(go_at_call 145;(with_reducible refine(val_topics b _ _ tl H4.out H.out).mono ?_);rintro e_ wn ⟨v_,lr,rfl,hlr,h⟩;obtain⟨q,cap,rfl⟩:=tops_form (Know.has_right (Know.has_refl _)) h;have HLR:=Lib.hid hlr;clear hlr;have f3:=h.p1.rawFree 3;have g3:=h.p1.rawCell 3;simp at g3;have h:=(show St W0 (wn.setCell ⟨eb,3,none⟩ (.slice q lr.length cap)) (K.and (Know.tops (.slice q lr.length cap) lr)) (.inp b i4::.raw eb #[.string (bb d),.int .i64 p,.int .i64 e,.slice q lr.length cap] 30::.raw rb #[.string ⟨#[]⟩,.int .i64 0,.int .i64 0,.slice none 0 0] 30::L)from(h.p1.rawSet 3 (.slice q lr.length cap)).p1);have c0:=h.p1.rawCell 0;have c1:=h.p1.rawCell 1;have c2:=h.p1.rawCell 2;have c3:=h.p1.rawCell 3;simp at c0 c1 c2 c3;replace H:=Lib.hid h;clear h)
  |(go_at_call 177;clear c0 c1 c2 c3;(with_reducible refine(whole_addO b i4 d p e lr q cap (by rw[HLR.out];exact HR.out) HL.out (fewT_of (by rw[HLR.out];exact HFL.out)) HI.out (Know.has_right (Know.has_refl _)) H.out).mono ?_);rintro e_ wn ⟨rfl,h⟩;have c0:=h.p1.rawCell 0;have d0:=h.p2.rawCell 0;have r0:=h.p2.rawFree 0;have c1:=h.p1.rawCell 1;have d1:=h.p2.rawCell 1;have r1:=h.p2.rawFree 1;have c2:=h.p1.rawCell 2;have d2:=h.p2.rawCell 2;have r2:=h.p2.rawFree 2;have c3:=h.p1.rawCell 3;have d3:=h.p2.rawCell 3;have r3:=h.p2.rawFree 3;simp at c0 d0 c1 d1 c2 d2 c3 d3;replace H:=Lib.hid h;clear h))
 have hz:St W0 _ _ (.raw rb #[.string (bb d),.int .i64 p,.int .i64 e,.slice q lr.length cap] 30::.inp b i4::.raw eb #[.string (bb d),.int .i64 p,.int .i64 e,.slice q lr.length cap] 30::L):=((((H.out.p2.rawSet 0 _).rawSet 1 _).rawSet 2 _).rawSet 3 _);refine bodyPost_ret (rc_cell_only rfl _ _ rb [.string (bb d),.int .i64 p,.int .i64 e,.slice q lr.length cap] _ rfl (rc_range hz) Tryz.underlying30 rfl (by kernel_rfl)) rfl ?_;exact⟨q,cap,lr,rfl,HLR.out,hz.drop.p1.drop⟩

set_option maxHeartbeats 6000000 in
set_option maxRecDepth 100000 in
theorem read_add_chk (b:Nat) (i i1 i2 i3 i4 j:InS) (d:Bs) (p e:Int) (tl:List TopS) (h1:i.text=(d,i1)) (h2:i1.int 8=(p,i2)) (h3:i2.int 2=(e,i3)) (h4:i3.tops=(tl,i4)) (hi:i4.err=0) (r:Int) (hr:addE d p e tl=r) (h0:r≠0) (hj:i4.fail r=j) (hl:d.length≤140737488355328) (hf:FewL tl){W0 w:World}{K:Know}{L:List Res}(h:St W0 w K (.inp b i::L)):
  Calls Tryz.prog 120 #[inPtr b] w fun en w'=>en=.returned (.agg #[.string ⟨#[]⟩,.int .i64 0,.int .i64 0,.slice none 0 0])∧St W0 w' K (.inp b j::L):=by
 obtain⟨rb,hrb⟩:∃b,w.heap.size=b:=⟨_,rfl⟩;obtain⟨eb,heb⟩:∃b,rb+1=b:=⟨_,rfl⟩;have g1:=(h.allocRaw #[.string ⟨#[]⟩,.int .i64 0,.int .i64 0,.slice none 0 0] 30).allocRaw #[.string ⟨#[]⟩,.int .i64 0,.int .i64 0,.slice none 0 0] 30;simp only[World.size_alloc,hrb,heb]at g1;have H:=Lib.hid g1.p2;have H1:=Lib.hid h1;have H2:=Lib.hid h2;have H3:=Lib.hid h3;have H4:=Lib.hid h4;have HI:=Lib.hid hi;have HR:=Lib.hid hr;have HL:=Lib.hid hl;have HFL:=Lib.hid hf;have HT:=Lib.hid (show(r==0)=false by rw[beq_eq_false_iff_ne];exact h0);have HJ:=Lib.hid (show(if r=0 then i4 else i4.fail r)=j by rw[if_neg h0];exact hj);clear h g1 h1 h2 h3 h4 hi hr hl hf h0 hj;go_enter Tryz.func120,Tryz.ntmps120
 go_wp2_with (first
  |(go_at_call 87;(with_reducible refine(blob_textV b _ _ d H1.out H.out).mono ?_);rintro e_ wn ⟨rfl,h⟩;have f0:=h.p1.rawFree 0;have g0:=h.p1.rawCell 0;simp at g0;have h:=(show St W0 (wn.setCell ⟨eb,0,none⟩ (.string (bb d))) K (.inp b i1::.raw eb #[.string (bb d),.int .i64 0,.int .i64 0,.slice none 0 0] 30::.raw rb #[.string ⟨#[]⟩,.int .i64 0,.int .i64 0,.slice none 0 0] 30::L)from(h.p1.rawSet 0 (.string (bb d))).p1);replace H:=Lib.hid h;clear h)
  |(go_at_call 176;(with_reducible refine(txn_readWriter b _ _ _ p e H2.out H3.out H.out).mono ?_);rintro e_ wn ⟨rfl,h⟩;have f1:=h.p1.rawFree 1;have g1:=h.p1.rawCell 1;simp at g1;have f2:=h.p1.rawFree 2;have g2:=h.p1.rawCell 2;simp at g2;have h:=(show St W0 ((wn.setCell ⟨eb,1,none⟩ (.int .i64 p)).setCell ⟨eb,2,none⟩ (.int .i64 e)) K (.inp b i3::.raw eb #[.string (bb d),.int .i64 p,.int .i64 e,.slice none 0 0] 30::.raw rb #[.string ⟨#[]⟩,.int .i64 0,.int .i64 0,.slice none 0 0] 30::L)from((h.p1.rawSet 1 (.int .i64 p)).rawSet 2 (.int .i64 e)).p1);replace H:=Lib.hid h;clear h)
  |(go_at_call 145;(with_reducible refine(val_topics b _ _ tl H4.out H.out).mono ?_);rintro e_ wn ⟨v_,lr,rfl,hlr,h⟩;obtain⟨q,cap,rfl⟩:=tops_form (Know.has_right (Know.has_refl _)) h;have HLR:=Lib.hid hlr;clear hlr;have f3:=h.p1.rawFree 3;have g3:=h.p1.rawCell 3;simp at g3;have h:=(show St W0 (wn.setCell ⟨eb,3,none⟩ (.slice q lr.length cap)) (K.and (Know.tops (.slice q lr.length cap) lr)) (.inp b i4::.raw eb #[.string (bb d),.int .i64 p,.int .i64 e,.slice q lr.length cap] 30::.raw rb #[.string ⟨#[]⟩,.int .i64 0,.int .i64 0,.slice none 0 0] 30::L)from(h.p1.rawSet 3 (.slice q lr.length cap)).p1);have c0:=h.p1.rawCell 0;have c1:=h.p1.rawCell 1;have c2:=h.p1.rawCell 2;have c3:=h.p1.rawCell 3;simp at c0 c1 c2 c3;replace H:=Lib.hid h;clear h)
  |(go_at_call 177;clear c0 c1 c2 c3;(with_reducible refine(whole_add b i4 _ d p e lr q cap _ _ (by rw[HLR.out];exact HR.out) HL.out (fewT_of (by rw[HLR.out];exact HFL.out)) HI.out HT.out HJ.out (Know.has_right (Know.has_refl _)) H.out).mono ?_);rintro e_ wn ⟨rfl,h⟩;have c0:=h.p1.rawCell 0;have d0:=h.p2.rawCell 0;have r0:=h.p2.rawFree 0;have c1:=h.p1.rawCell 1;have d1:=h.p2.rawCell 1;have r1:=h.p2.rawFree 1;have c2:=h.p1.rawCell 2;have d2:=h.p2.rawCell 2;have r2:=h.p2.rawFree 2;have c3:=h.p1.rawCell 3;have d3:=h.p2.rawCell 3;have r3:=h.p2.rawFree 3;simp at c0 d0 c1 d1 c2 d2 c3 d3;replace H:=Lib.hid h;clear h))
 have hz:St W0 _ _ (.raw rb #[.string ⟨#[]⟩,.int .i64 0,.int .i64 0,.slice none 0 0] 30::.inp b j::.raw eb #[.string (bb d),.int .i64 p,.int .i64 e,.slice q lr.length cap] 30::L):=((((H.out.p2.rawSet 0 _).rawSet 1 _).rawSet 2 _).rawSet 3 _);refine bodyPost_ret (rc_cell_only rfl _ _ rb [.string ⟨#[]⟩,.int .i64 0,.int .i64 0,.slice none 0 0] _ rfl (rc_range hz) Tryz.underlying30 rfl (by kernel_rfl)) rfl ?_;exact⟨rfl,(hz.drop.p1.drop).know (Know.has_left (Know.has_refl _))⟩

set_option maxHeartbeats 6000000 in
set_option maxRecDepth 100000 in
theorem read_add_err (b:Nat) (i i1 i2 i3 i4:InS) (d:Bs) (p e:Int) (tl:List TopS) (h1:i.text=(d,i1)) (h2:i1.int 8=(p,i2)) (h3:i2.int 2=(e,i3)) (h4:i3.tops=(tl,i4)) (x:Int) (hi:i4.err=x) (h0:x≠0){W0 w:World}{K:Know}{L:List Res}(h:St W0 w K (.inp b i::L)):
  Calls Tryz.prog 120 #[inPtr b] w fun en w'=>en=.returned (.agg #[.string ⟨#[]⟩,.int .i64 0,.int .i64 0,.slice none 0 0])∧St W0 w' K (.inp b i4::L):=by
 obtain⟨rb,hrb⟩:∃b,w.heap.size=b:=⟨_,rfl⟩;obtain⟨eb,heb⟩:∃b,rb+1=b:=⟨_,rfl⟩;have g1:=(h.allocRaw #[.string ⟨#[]⟩,.int .i64 0,.int .i64 0,.slice none 0 0] 30).allocRaw #[.string ⟨#[]⟩,.int .i64 0,.int .i64 0,.slice none 0 0] 30;simp only[World.size_alloc,hrb,heb]at g1;have H:=Lib.hid g1.p2;have H1:=Lib.hid h1;have H2:=Lib.hid h2;have H3:=Lib.hid h3;have H4:=Lib.hid h4;have HI:=Lib.hid hi;have H0:=Lib.hid h0;clear h g1 h1 h2 h3 h4 hi h0;go_enter Tryz.func120,Tryz.ntmps120
 go_wp2_with (first
  |(go_at_call 87;(with_reducible refine(blob_textV b _ _ d H1.out H.out).mono ?_);rintro e_ wn ⟨rfl,h⟩;have f0:=h.p1.rawFree 0;have g0:=h.p1.rawCell 0;simp at g0;have h:=(show St W0 (wn.setCell ⟨eb,0,none⟩ (.string (bb d))) K (.inp b i1::.raw eb #[.string (bb d),.int .i64 0,.int .i64 0,.slice none 0 0] 30::.raw rb #[.string ⟨#[]⟩,.int .i64 0,.int .i64 0,.slice none 0 0] 30::L)from(h.p1.rawSet 0 (.string (bb d))).p1);replace H:=Lib.hid h;clear h)
  |(go_at_call 176;(with_reducible refine(txn_readWriter b _ _ _ p e H2.out H3.out H.out).mono ?_);rintro e_ wn ⟨rfl,h⟩;have f1:=h.p1.rawFree 1;have g1:=h.p1.rawCell 1;simp at g1;have f2:=h.p1.rawFree 2;have g2:=h.p1.rawCell 2;simp at g2;have h:=(show St W0 ((wn.setCell ⟨eb,1,none⟩ (.int .i64 p)).setCell ⟨eb,2,none⟩ (.int .i64 e)) K (.inp b i3::.raw eb #[.string (bb d),.int .i64 p,.int .i64 e,.slice none 0 0] 30::.raw rb #[.string ⟨#[]⟩,.int .i64 0,.int .i64 0,.slice none 0 0] 30::L)from((h.p1.rawSet 1 (.int .i64 p)).rawSet 2 (.int .i64 e)).p1);replace H:=Lib.hid h;clear h)
  |(go_at_call 145;(with_reducible refine(val_topics b _ _ tl H4.out H.out).mono ?_);rintro e_ wn ⟨v_,lr,rfl,hlr,h⟩;obtain⟨q,cap,rfl⟩:=tops_form (Know.has_right (Know.has_refl _)) h;have HLR:=Lib.hid hlr;clear hlr;have f3:=h.p1.rawFree 3;have g3:=h.p1.rawCell 3;simp at g3;have h:=(show St W0 (wn.setCell ⟨eb,3,none⟩ (.slice q lr.length cap)) (K.and (Know.tops (.slice q lr.length cap) lr)) (.inp b i4::.raw eb #[.string (bb d),.int .i64 p,.int .i64 e,.slice q lr.length cap] 30::.raw rb #[.string ⟨#[]⟩,.int .i64 0,.int .i64 0,.slice none 0 0] 30::L)from(h.p1.rawSet 3 (.slice q lr.length cap)).p1);have c0:=h.p1.rawCell 0;have c1:=h.p1.rawCell 1;have c2:=h.p1.rawCell 2;have c3:=h.p1.rawCell 3;simp at c0 c1 c2 c3;replace H:=Lib.hid h;clear h)
  |(go_at_call 177;clear c0 c1 c2 c3;(with_reducible refine(whole_err b i4 x HI.out H0.out _ H.out).mono ?_);rintro e_ wn ⟨rfl,h⟩;have c0:=h.p1.rawCell 0;have d0:=h.p2.rawCell 0;have r0:=h.p2.rawFree 0;have c1:=h.p1.rawCell 1;have d1:=h.p2.rawCell 1;have r1:=h.p2.rawFree 1;have c2:=h.p1.rawCell 2;have d2:=h.p2.rawCell 2;have r2:=h.p2.rawFree 2;have c3:=h.p1.rawCell 3;have d3:=h.p2.rawCell 3;have r3:=h.p2.rawFree 3;simp at c0 d0 c1 d1 c2 d2 c3 d3;replace H:=Lib.hid h;clear h))
 have hz:St W0 _ _ (.raw rb #[.string ⟨#[]⟩,.int .i64 0,.int .i64 0,.slice none 0 0] 30::.inp b i4::.raw eb #[.string (bb d),.int .i64 p,.int .i64 e,.slice q lr.length cap] 30::L):=((((H.out.p2.rawSet 0 _).rawSet 1 _).rawSet 2 _).rawSet 3 _);refine bodyPost_ret (rc_cell_only rfl _ _ rb [.string ⟨#[]⟩,.int .i64 0,.int .i64 0,.slice none 0 0] _ rfl (rc_range hz) Tryz.underlying30 rfl (by kernel_rfl)) rfl ?_;exact⟨rfl,(hz.drop.p1.drop).know (Know.has_left (Know.has_refl _))⟩

set_option maxHeartbeats 6000000 in
set_option maxRecDepth 100000 in
theorem read_end_chk (b:Nat) (i i1 i2 i3 i4 j:InS) (id:Bs) (p e:Int) (c:Bool) (h1:i.text=(id,i1)) (h2:i1.int 8=(p,i2)) (h3:i2.int 2=(e,i3)) (h4:i3.boolP=(c,i4)) (hi:i4.err=0) (r:Int) (hr:chkW id p e=r) (h0:r≠0) (hj:i4.fail r=j) (hl:id.length≤140737488355328){W0 w:World}{K:Know}{L:List Res}(h:St W0 w K (.inp b i::L)):
  Calls Tryz.prog 121 #[inPtr b] w fun en w'=>en=.returned (.agg #[.string ⟨#[]⟩,.int .i64 0,.int .i64 0,.bool false])∧St W0 w' K (.inp b j::L):=by
 obtain⟨rb,hrb⟩:∃b,w.heap.size=b:=⟨_,rfl⟩;obtain⟨eb,heb⟩:∃b,rb+1=b:=⟨_,rfl⟩;have g1:=(h.allocRaw #[.string ⟨#[]⟩,.int .i64 0,.int .i64 0,.bool false] 32).allocRaw #[.string ⟨#[]⟩,.int .i64 0,.int .i64 0,.bool false] 32;simp only[World.size_alloc,hrb,heb]at g1;have H:=Lib.hid g1.p2;have H1:=Lib.hid h1;have H2:=Lib.hid h2;have H3:=Lib.hid h3;have H4:=Lib.hid h4;have HI:=Lib.hid hi;have HR:=Lib.hid hr;have HL:=Lib.hid hl;have HT:=Lib.hid (show(r==0)=false by rw[beq_eq_false_iff_ne];exact h0);have HJ:=Lib.hid (show(if r=0 then i4 else i4.fail r)=j by rw[if_neg h0];exact hj);clear h g1 h1 h2 h3 h4 hi hr hl h0 hj;go_enter Tryz.func121,Tryz.ntmps121
 go_wp2_with (first
  |(go_at_call 87;(with_reducible refine(blob_textV b _ _ id H1.out H.out).mono ?_);rintro e_ wn ⟨rfl,h⟩;have f0:=h.p1.rawFree 0;have g0:=h.p1.rawCell 0;simp at g0;have h:=(show St W0 (wn.setCell ⟨eb,0,none⟩ (.string (bb id))) K (.inp b i1::.raw eb #[.string (bb id),.int .i64 0,.int .i64 0,.bool false] 32::.raw rb #[.string ⟨#[]⟩,.int .i64 0,.int .i64 0,.bool false] 32::L)from(h.p1.rawSet 0 (.string (bb id))).p1);replace H:=Lib.hid h;clear h)
  |(go_at_call 176;(with_reducible refine(txn_readWriter b _ _ _ p e H2.out H3.out H.out).mono ?_);rintro e_ wn ⟨rfl,h⟩;have f1:=h.p1.rawFree 1;have g1:=h.p1.rawCell 1;simp at g1;have f2:=h.p1.rawFree 2;have g2:=h.p1.rawCell 2;simp at g2;have h:=(show St W0 ((wn.setCell ⟨eb,1,none⟩ (.int .i64 p)).setCell ⟨eb,2,none⟩ (.int .i64 e)) K (.inp b i3::.raw eb #[.string (bb id),.int .i64 p,.int .i64 e,.bool false] 32::.raw rb #[.string ⟨#[]⟩,.int .i64 0,.int .i64 0,.bool false] 32::L)from((h.p1.rawSet 1 (.int .i64 p)).rawSet 2 (.int .i64 e)).p1);replace H:=Lib.hid h;clear h)
  |(go_at_call 178;(with_reducible refine(s_bool b _ _ c H4.out H.out).mono ?_);rintro e_ wn ⟨rfl,h⟩;have f3:=h.p1.rawFree 3;have g3:=h.p1.rawCell 3;simp at g3;have h:=(show St W0 (wn.setCell ⟨eb,3,none⟩ (.bool c)) K (.inp b i4::.raw eb #[.string (bb id),.int .i64 p,.int .i64 e,.bool c] 32::.raw rb #[.string ⟨#[]⟩,.int .i64 0,.int .i64 0,.bool false] 32::L)from(h.p1.rawSet 3 (.bool c)).p1);have c0:=h.p1.rawCell 0;have c1:=h.p1.rawCell 1;have c2:=h.p1.rawCell 2;have c3:=h.p1.rawCell 3;simp at c0 c1 c2 c3;replace H:=Lib.hid h;clear h)
  |(go_at_call 177;clear c0 c1 c2 c3;(with_reducible refine(whole_endG b i4 _ id p e c _ _ HR.out HL.out HI.out HT.out HJ.out H.out).mono ?_);rintro e_ wn ⟨rfl,h⟩;have c0:=h.p1.rawCell 0;have d0:=h.p2.rawCell 0;have r0:=h.p2.rawFree 0;have c1:=h.p1.rawCell 1;have d1:=h.p2.rawCell 1;have r1:=h.p2.rawFree 1;have c2:=h.p1.rawCell 2;have d2:=h.p2.rawCell 2;have r2:=h.p2.rawFree 2;have c3:=h.p1.rawCell 3;have d3:=h.p2.rawCell 3;have r3:=h.p2.rawFree 3;simp at c0 d0 c1 d1 c2 d2 c3 d3;replace H:=Lib.hid h;clear h))
 have hz:St W0 _ _ (.raw rb #[.string ⟨#[]⟩,.int .i64 0,.int .i64 0,.bool false] 32::.inp b j::.raw eb #[.string (bb id),.int .i64 p,.int .i64 e,.bool c] 32::L):=((((H.out.p2.rawSet 0 _).rawSet 1 _).rawSet 2 _).rawSet 3 _);refine bodyPost_ret (rc_cell_only rfl _ _ rb [.string ⟨#[]⟩,.int .i64 0,.int .i64 0,.bool false] _ rfl (rc_range hz) Tryz.underlying32 rfl (by kernel_rfl)) rfl ?_;exact⟨rfl,hz.drop.p1.drop⟩

set_option maxHeartbeats 6000000 in
set_option maxRecDepth 100000 in
theorem read_end_err (b:Nat) (i i1 i2 i3 i4:InS) (id:Bs) (p e:Int) (c:Bool) (h1:i.text=(id,i1)) (h2:i1.int 8=(p,i2)) (h3:i2.int 2=(e,i3)) (h4:i3.boolP=(c,i4)) (x:Int) (hi:i4.err=x) (h0:x≠0){W0 w:World}{K:Know}{L:List Res}(h:St W0 w K (.inp b i::L)):
  Calls Tryz.prog 121 #[inPtr b] w fun en w'=>en=.returned (.agg #[.string ⟨#[]⟩,.int .i64 0,.int .i64 0,.bool false])∧St W0 w' K (.inp b i4::L):=by
 obtain⟨rb,hrb⟩:∃b,w.heap.size=b:=⟨_,rfl⟩;obtain⟨eb,heb⟩:∃b,rb+1=b:=⟨_,rfl⟩;have g1:=(h.allocRaw #[.string ⟨#[]⟩,.int .i64 0,.int .i64 0,.bool false] 32).allocRaw #[.string ⟨#[]⟩,.int .i64 0,.int .i64 0,.bool false] 32;simp only[World.size_alloc,hrb,heb]at g1;have H:=Lib.hid g1.p2;have H1:=Lib.hid h1;have H2:=Lib.hid h2;have H3:=Lib.hid h3;have H4:=Lib.hid h4;have HI:=Lib.hid hi;have H0:=Lib.hid h0;clear h g1 h1 h2 h3 h4 hi h0;go_enter Tryz.func121,Tryz.ntmps121
 go_wp2_with (first
  |(go_at_call 87;(with_reducible refine(blob_textV b _ _ id H1.out H.out).mono ?_);rintro e_ wn ⟨rfl,h⟩;have f0:=h.p1.rawFree 0;have g0:=h.p1.rawCell 0;simp at g0;have h:=(show St W0 (wn.setCell ⟨eb,0,none⟩ (.string (bb id))) K (.inp b i1::.raw eb #[.string (bb id),.int .i64 0,.int .i64 0,.bool false] 32::.raw rb #[.string ⟨#[]⟩,.int .i64 0,.int .i64 0,.bool false] 32::L)from(h.p1.rawSet 0 (.string (bb id))).p1);replace H:=Lib.hid h;clear h)
  |(go_at_call 176;(with_reducible refine(txn_readWriter b _ _ _ p e H2.out H3.out H.out).mono ?_);rintro e_ wn ⟨rfl,h⟩;have f1:=h.p1.rawFree 1;have g1:=h.p1.rawCell 1;simp at g1;have f2:=h.p1.rawFree 2;have g2:=h.p1.rawCell 2;simp at g2;have h:=(show St W0 ((wn.setCell ⟨eb,1,none⟩ (.int .i64 p)).setCell ⟨eb,2,none⟩ (.int .i64 e)) K (.inp b i3::.raw eb #[.string (bb id),.int .i64 p,.int .i64 e,.bool false] 32::.raw rb #[.string ⟨#[]⟩,.int .i64 0,.int .i64 0,.bool false] 32::L)from((h.p1.rawSet 1 (.int .i64 p)).rawSet 2 (.int .i64 e)).p1);replace H:=Lib.hid h;clear h)
  |(go_at_call 178;(with_reducible refine(s_bool b _ _ c H4.out H.out).mono ?_);rintro e_ wn ⟨rfl,h⟩;have f3:=h.p1.rawFree 3;have g3:=h.p1.rawCell 3;simp at g3;have h:=(show St W0 (wn.setCell ⟨eb,3,none⟩ (.bool c)) K (.inp b i4::.raw eb #[.string (bb id),.int .i64 p,.int .i64 e,.bool c] 32::.raw rb #[.string ⟨#[]⟩,.int .i64 0,.int .i64 0,.bool false] 32::L)from(h.p1.rawSet 3 (.bool c)).p1);have c0:=h.p1.rawCell 0;have c1:=h.p1.rawCell 1;have c2:=h.p1.rawCell 2;have c3:=h.p1.rawCell 3;simp at c0 c1 c2 c3;replace H:=Lib.hid h;clear h)
  |(go_at_call 177;clear c0 c1 c2 c3;(with_reducible refine(whole_err b i4 x HI.out H0.out _ H.out).mono ?_);rintro e_ wn ⟨rfl,h⟩;have c0:=h.p1.rawCell 0;have d0:=h.p2.rawCell 0;have r0:=h.p2.rawFree 0;have c1:=h.p1.rawCell 1;have d1:=h.p2.rawCell 1;have r1:=h.p2.rawFree 1;have c2:=h.p1.rawCell 2;have d2:=h.p2.rawCell 2;have r2:=h.p2.rawFree 2;have c3:=h.p1.rawCell 3;have d3:=h.p2.rawCell 3;have r3:=h.p2.rawFree 3;simp at c0 d0 c1 d1 c2 d2 c3 d3;replace H:=Lib.hid h;clear h))
 have hz:St W0 _ _ (.raw rb #[.string ⟨#[]⟩,.int .i64 0,.int .i64 0,.bool false] 32::.inp b i4::.raw eb #[.string (bb id),.int .i64 p,.int .i64 e,.bool c] 32::L):=((((H.out.p2.rawSet 0 _).rawSet 1 _).rawSet 2 _).rawSet 3 _);refine bodyPost_ret (rc_cell_only rfl _ _ rb [.string ⟨#[]⟩,.int .i64 0,.int .i64 0,.bool false] _ rfl (rc_range hz) Tryz.underlying32 rfl (by kernel_rfl)) rfl ?_;exact⟨rfl,hz.drop.p1.drop⟩
set_option maxHeartbeats 1000000 in
set_option maxRecDepth 100000 in
theorem whole_end (b:Nat) (i:InS) (id:Bs) (p e:Int) (c:Bool) (hi:i.err=0) (hr:chkW id p e=0) (hl:id.length≤140737488355328){W0 w:World}{K:Know}{L:List Res}(h:St W0 w K (.inp b i::L)):
  Calls Tryz.prog 177 #[inPtr b,.iface 32 (.agg #[.string (bb id),.int .i64 p,.int .i64 e,.bool c])] w fun en w'=>en=.returned (.bool true)∧St W0 w' K (.inp b i::L):=by
 have H:=Lib.hid h;have HI:=Lib.hid hi;have HR:=Lib.hid hr;have HL:=Lib.hid hl;clear h hi hr hl;go_enter Tryz.func177,Tryz.ntmps177
 go_wp2_with (first
  |(go_at_call 22;(with_reducible refine(s_errV b _ _ HI.out H.out).mono ?_);rintro e_ wn ⟨rfl,h⟩;replace H:=Lib.hid h;clear h)
  |(go_at_call 159;(with_reducible refine(end_check id p e c _ HR.out HL.out H.out).mono ?_);rintro e_ wn ⟨rfl,h⟩;replace H:=Lib.hid h;clear h))
 go_ret;exact⟨rfl,H.out⟩

set_option maxHeartbeats 2000000 in
set_option maxRecDepth 100000 in
theorem read_end_ok (b:Nat) (i i1 i2 i3 i4:InS) (id:Bs) (p e:Int) (c:Bool) (h1:i.text=(id,i1)) (h2:i1.int 8=(p,i2)) (h3:i2.int 2=(e,i3)) (h4:i3.boolP=(c,i4)) (hi:i4.err=0) (hr:chkW id p e=0) (hl:id.length≤140737488355328){W0 w:World}{K:Know}{L:List Res}(h:St W0 w K (.inp b i::L)):
  Calls Tryz.prog 121 #[inPtr b] w fun en w'=>en=.returned (.agg #[.string (bb id),.int .i64 p,.int .i64 e,.bool c])∧St W0 w' K (.inp b i4::L):=by
 obtain⟨rb,hrb⟩:∃b,w.heap.size=b:=⟨_,rfl⟩;obtain⟨eb,heb⟩:∃b,rb+1=b:=⟨_,rfl⟩;have g1:=(h.allocRaw #[.string ⟨#[]⟩,.int .i64 0,.int .i64 0,.bool false] 32).allocRaw #[.string ⟨#[]⟩,.int .i64 0,.int .i64 0,.bool false] 32;simp only[World.size_alloc,hrb,heb]at g1;have H:=Lib.hid g1.p2;have H1:=Lib.hid h1;have H2:=Lib.hid h2;have H3:=Lib.hid h3;have H4:=Lib.hid h4;have HI:=Lib.hid hi;have HR:=Lib.hid hr;have HL:=Lib.hid hl;clear h g1 h1 h2 h3 h4 hi hr hl;go_enter Tryz.func121,Tryz.ntmps121
 go_wp2_with (first
  |(go_at_call 87;(with_reducible refine(blob_textV b _ _ id H1.out H.out).mono ?_);rintro e_ wn ⟨rfl,h⟩;have f0:=h.p1.rawFree 0;have g0:=h.p1.rawCell 0;simp at g0;have h:=(show St W0 (wn.setCell ⟨eb,0,none⟩ (.string (bb id))) K (.inp b i1::.raw eb #[.string (bb id),.int .i64 0,.int .i64 0,.bool false] 32::.raw rb #[.string ⟨#[]⟩,.int .i64 0,.int .i64 0,.bool false] 32::L)from(h.p1.rawSet 0 (.string (bb id))).p1);replace H:=Lib.hid h;clear h)
  |(go_at_call 176;(with_reducible refine(txn_readWriter b _ _ _ p e H2.out H3.out H.out).mono ?_);rintro e_ wn ⟨rfl,h⟩;have f1:=h.p1.rawFree 1;have g1:=h.p1.rawCell 1;simp at g1;have f2:=h.p1.rawFree 2;have g2:=h.p1.rawCell 2;simp at g2;have h:=(show St W0 ((wn.setCell ⟨eb,1,none⟩ (.int .i64 p)).setCell ⟨eb,2,none⟩ (.int .i64 e)) K (.inp b i3::.raw eb #[.string (bb id),.int .i64 p,.int .i64 e,.bool false] 32::.raw rb #[.string ⟨#[]⟩,.int .i64 0,.int .i64 0,.bool false] 32::L)from((h.p1.rawSet 1 (.int .i64 p)).rawSet 2 (.int .i64 e)).p1);replace H:=Lib.hid h;clear h)
  |(go_at_call 178;(with_reducible refine(s_bool b _ _ c H4.out H.out).mono ?_);rintro e_ wn ⟨rfl,h⟩;have f3:=h.p1.rawFree 3;have g3:=h.p1.rawCell 3;simp at g3;have h:=(show St W0 (wn.setCell ⟨eb,3,none⟩ (.bool c)) K (.inp b i4::.raw eb #[.string (bb id),.int .i64 p,.int .i64 e,.bool c] 32::.raw rb #[.string ⟨#[]⟩,.int .i64 0,.int .i64 0,.bool false] 32::L)from(h.p1.rawSet 3 (.bool c)).p1);have c0:=h.p1.rawCell 0;have c1:=h.p1.rawCell 1;have c2:=h.p1.rawCell 2;have c3:=h.p1.rawCell 3;simp at c0 c1 c2 c3;replace H:=Lib.hid h;clear h)
  |(go_at_call 177;(with_reducible refine(whole_end b i4 id p e c HI.out HR.out HL.out H.out).mono ?_);rintro e_ wn ⟨rfl,h⟩;have c0:=h.p1.rawCell 0;have d0:=h.p2.rawCell 0;have r0:=h.p2.rawFree 0;have c1:=h.p1.rawCell 1;have d1:=h.p2.rawCell 1;have r1:=h.p2.rawFree 1;have c2:=h.p1.rawCell 2;have d2:=h.p2.rawCell 2;have r2:=h.p2.rawFree 2;have c3:=h.p1.rawCell 3;have d3:=h.p2.rawCell 3;have r3:=h.p2.rawFree 3;simp at c0 c1 c2 c3 d0 d1 d2 d3;replace H:=Lib.hid h;clear h))
 have hz:St W0 _ _ (.raw rb #[.string (bb id),.int .i64 p,.int .i64 e,.bool c] 32::.inp b i4::.raw eb #[.string (bb id),.int .i64 p,.int .i64 e,.bool c] 32::L):=((((H.out.p2).rawSet 0 _).rawSet 1 _).rawSet 2 _).rawSet 3 _;refine bodyPost_ret (rc_cell_only rfl _ _ rb [.string (bb id),.int .i64 p,.int .i64 e,.bool c] _ rfl (rc_range hz) Tryz.underlying32 rfl (by kernel_rfl)) rfl ?_;exact⟨rfl,hz.drop.p1.drop⟩
theorem rd_beg0 (b:Nat) (s:Bs) (i:InS) (hi:i.On s) (hs:s.length≤1000000){W0 w:World}{K:Know}{L:List Res}(h:St W0 w K (.inp b i::L)):
   Calls Tryz.prog 119 #[inPtr b,.int .i64 0] w fun en w'=>∃(nl:Bool) (d:Bs) (tm p e:Int),en=.returned (.agg #[.bool nl,.string (bb d),.int .i64 tm,.int .i64 p,.int .i64 e])∧((begJ 0 i).err=0→begE 0 nl d tm p e=0∧p<9223372036854775808∧Got s i (begJ 0 i) (encF 2 ⟨nl,d⟩++beBytes tm 4))∧St W0 w' K (.inp b (begJ 0 i)::L):=by
 obtain⟨⟨nl,d⟩,i1,h1⟩:∃a j,i.fixed 2=(a,j):=⟨_,_,rfl⟩;obtain⟨tm,i2,h2⟩:∃a j,i1.int 4=(a,j):=⟨_,_,rfl⟩;have g1:=got_fixed h1 hi;have g2:=g1.trans (got_int 4 (by decide) (by decide) h2 g1.1);rw[begJ_0 h1 h2]
 by_cases h0:i2.err=0
 · have hl:=g1.len ((got_int 4 (by decide) (by decide) h2 g1.1).zero h0);have hd:d.length≤140737488355328:=by have:=encF_data (b:=⟨nl,d⟩);simp only at this;omega
   obtain⟨r,hr⟩:∃r,begE 0 nl d tm (-1) (-1)=r:=⟨_,rfl⟩;rw[hr]
   by_cases hr0:r=0
   · subst hr0;refine(read_beg0_ok b i i1 i2 nl d tm h1 h2 h0 hr hd h).mono ?_;rintro en w' ⟨rfl,h⟩;rw[chkJ_pos];exact⟨nl,d,tm,-1,-1,rfl,fun _=>⟨hr,by decide,g2⟩,h⟩
   · refine(read_beg0_chk b i i1 i2 _ nl d tm h1 h2 h0 r hr hr0 rfl hd h).mono ?_;rintro en w' ⟨rfl,h⟩;refine⟨false,[],0,0,0,rfl,fun g=>absurd (chkJ_err g).1 hr0,?_⟩;rw[chkJ_neg hr0];exact h
 · refine(read_beg0_err b i i1 i2 nl d tm h1 h2 _ rfl h0 h).mono ?_;rintro en w' ⟨rfl,h⟩;rw[chkJ_bad h0];exact⟨false,[],0,0,0,rfl,fun g=>absurd g h0,h⟩
theorem rd_beg1 (b:Nat) (s:Bs) (i:InS) (hi:i.On s) (hs:s.length≤1000000){W0 w:World}{K:Know}{L:List Res}(h:St W0 w K (.inp b i::L)):
   Calls Tryz.prog 119 #[inPtr b,.int .i64 1] w fun en w'=>∃(nl:Bool) (d:Bs) (tm p e:Int),en=.returned (.agg #[.bool nl,.string (bb d),.int .i64 tm,.int .i64 p,.int .i64 e])∧((begJ 1 i).err=0→begE 1 nl d tm p e=0∧p<9223372036854775808∧Got s i (begJ 1 i) (encF 2 ⟨nl,d⟩++beBytes tm 4++beBytes p 8++beBytes e 2))∧St W0 w' K (.inp b (begJ 1 i)::L):=by
 obtain⟨⟨nl,d⟩,i1,h1⟩:∃a j,i.fixed 2=(a,j):=⟨_,_,rfl⟩;obtain⟨tm,i2,h2⟩:∃a j,i1.int 4=(a,j):=⟨_,_,rfl⟩;obtain⟨p,i3,h3⟩:∃a j,i2.int 8=(a,j):=⟨_,_,rfl⟩;obtain⟨e,i4,h4⟩:∃a j,i3.int 2=(a,j):=⟨_,_,rfl⟩;have g1:=got_fixed h1 hi;have g2:=got_int 4 (by decide) (by decide) h2 g1.1;have g3:=got_int 8 (by decide) (by decide) h3 g2.1;have g4:=got_int 2 (by decide) (by decide) h4 g3.1
 have hp:p<9223372036854775808:=by
   have:=InS.int_range i2 8;rw[h3]at this;exact this.2
 rw[begJ_1 h1 h2 h3 h4]
 by_cases h0:i4.err=0
 · have hl:=g1.len (g2.zero (g3.zero (g4.zero h0)));have hd:d.length≤140737488355328:=by have:=encF_data (b:=⟨nl,d⟩);simp only at this;omega
   obtain⟨r,hr⟩:∃r,begE 1 nl d tm p e=r:=⟨_,rfl⟩;rw[hr]
   by_cases hr0:r=0
   · subst hr0;refine(read_beg1_ok b i i1 i2 i3 i4 nl d tm p e h1 h2 h3 h4 h0 hr hd h).mono ?_;rintro en w' ⟨rfl,h⟩;rw[chkJ_pos];exact⟨nl,d,tm,p,e,rfl,fun _=>⟨hr,hp,((g1.trans g2).trans g3).trans g4⟩,h⟩
   · refine(read_beg1_chk b i i1 i2 i3 i4 _ nl d tm p e h1 h2 h3 h4 h0 r hr hr0 rfl hd h).mono ?_;rintro en w' ⟨rfl,h⟩;refine⟨false,[],0,0,0,rfl,fun g=>absurd (chkJ_err g).1 hr0,?_⟩;rw[chkJ_neg hr0];exact h
 · refine(read_beg1_err b i i1 i2 i3 i4 nl d tm p e h1 h2 h3 h4 _ rfl h0 h).mono ?_;rintro en w' ⟨rfl,h⟩;rw[chkJ_bad h0];exact⟨false,[],0,0,0,rfl,fun g=>absurd g h0,h⟩
theorem rd_add (b:Nat) (s:Bs) (i:InS) (hi:i.On s) (hs:s.length≤1000000){W0 w:World}{K:Know}{L:List Res}(h:St W0 w K (.inp b i::L)):
   Calls Tryz.prog 120 #[inPtr b] w fun en w'=>∃(d:Bs) (p e:Int) (q:Option Addr) (cap:Nat) (lr:List (TopS×Value)) (K2:Know),en=.returned (.agg #[.string (bb d),.int .i64 p,.int .i64 e,.slice q lr.length cap])∧K2.has K∧((addJ i).err=0→addE d p e (lr.map (·.1))=0∧p<9223372036854775808∧FewL (lr.map (·.1))∧K2.has (Know.tops (.slice q lr.length cap) lr)∧Got s i (addJ i) (encF 2 ⟨false,d⟩++beBytes p 8++beBytes e 2++encTs (lr.map (·.1))))∧St W0 w' K2 (.inp b (addJ i)::L):=by
 obtain⟨d,i1,h1⟩:∃a j,i.text=(a,j):=⟨_,_,rfl⟩;obtain⟨p,i2,h2⟩:∃a j,i1.int 8=(a,j):=⟨_,_,rfl⟩;obtain⟨e,i3,h3⟩:∃a j,i2.int 2=(a,j):=⟨_,_,rfl⟩;obtain⟨l,i4,h4⟩:∃a j,i3.tops=(a,j):=⟨_,_,rfl⟩;have g1:=got_text h1 hi;have g2:=got_int 8 (by decide) (by decide) h2 g1.1;have g3:=got_int 2 (by decide) (by decide) h3 g2.1;have g4:=got_tops h4 g3.1
 have hp:p<9223372036854775808:=by
   have:=InS.int_range i1 8;rw[h2]at this;exact this.2
 rw[addJ_eq h1 h2 h3 h4]
 by_cases h0:i4.err=0
 · have hl:=g1.len (g2.zero (g3.zero (g4.zero h0)));have hd:d.length≤140737488355328:=by have:=encF_data (b:=⟨false,d⟩);simp only at this;omega
   have hf:=on_tops_few hs h4 g3.1 h0;obtain⟨r,hr⟩:∃r,addE d p e l=r:=⟨_,rfl⟩;rw[hr]
   by_cases hr0:r=0
   · subst hr0;refine(read_add_ok b i i1 i2 i3 i4 d p e l h1 h2 h3 h4 h0 hr hd hf h).mono ?_;rintro en w' ⟨q,cap,lr,rfl,hm,h⟩;rw[chkJ_pos];refine⟨d,p,e,q,cap,lr,_,rfl,Know.has_left (Know.has_refl _),fun _=> ?_,h⟩;rw[hm];exact⟨hr,hp,hf,Know.has_right (Know.has_refl _),((g1.trans g2).trans g3).trans g4⟩
   · refine(read_add_chk b i i1 i2 i3 i4 _ d p e l h1 h2 h3 h4 h0 r hr hr0 rfl hd hf h).mono ?_;rintro en w' ⟨rfl,h⟩;refine⟨[],0,0,none,0,[],K,rfl,Know.has_refl _,fun g=>absurd (chkJ_err g).1 hr0,?_⟩;rw[chkJ_neg hr0];exact h
 · refine(read_add_err b i i1 i2 i3 i4 d p e l h1 h2 h3 h4 _ rfl h0 h).mono ?_;rintro en w' ⟨rfl,h⟩;rw[chkJ_bad h0];exact⟨[],0,0,none,0,[],K,rfl,Know.has_refl _,fun g=>absurd g h0,h⟩
theorem rd_end (b:Nat) (s:Bs) (i:InS) (hi:i.On s) (hs:s.length≤1000000){W0 w:World}{K:Know}{L:List Res}(h:St W0 w K (.inp b i::L)):
   Calls Tryz.prog 121 #[inPtr b] w fun en w'=>∃(d:Bs) (p e:Int) (c:Bool),en=.returned (.agg #[.string (bb d),.int .i64 p,.int .i64 e,.bool c])∧((endJ i).err=0→chkW d p e=0∧p<9223372036854775808∧Got s i (endJ i) (encF 2 ⟨false,d⟩++beBytes p 8++beBytes e 2++encO c))∧St W0 w' K (.inp b (endJ i)::L):=by
 obtain⟨d,i1,h1⟩:∃a j,i.text=(a,j):=⟨_,_,rfl⟩;obtain⟨p,i2,h2⟩:∃a j,i1.int 8=(a,j):=⟨_,_,rfl⟩;obtain⟨e,i3,h3⟩:∃a j,i2.int 2=(a,j):=⟨_,_,rfl⟩;obtain⟨c,i4,h4⟩:∃a j,i3.boolP=(a,j):=⟨_,_,rfl⟩;have g1:=got_text h1 hi;have g2:=got_int 8 (by decide) (by decide) h2 g1.1;have g3:=got_int 2 (by decide) (by decide) h3 g2.1;have g4:=got_bool h4 g3.1
 have hp:p<9223372036854775808:=by
   have:=InS.int_range i1 8;rw[h2]at this;exact this.2
 rw[endJ_eq h1 h2 h3 h4]
 by_cases h0:i4.err=0
 · have hl:=g1.len (g2.zero (g3.zero (g4.zero h0)));have hd:d.length≤140737488355328:=by have:=encF_data (b:=⟨false,d⟩);simp only at this;omega
   obtain⟨r,hr⟩:∃r,chkW d p e=r:=⟨_,rfl⟩;rw[hr]
   by_cases hr0:r=0
   · subst hr0;refine(read_end_ok b i i1 i2 i3 i4 d p e c h1 h2 h3 h4 h0 hr hd h).mono ?_;rintro en w' ⟨rfl,h⟩;rw[chkJ_pos];exact⟨d,p,e,c,rfl,fun _=>⟨hr,hp,((g1.trans g2).trans g3).trans g4⟩,h⟩
   · refine(read_end_chk b i i1 i2 i3 i4 _ d p e c h1 h2 h3 h4 h0 r hr hr0 rfl hd h).mono ?_;rintro en w' ⟨rfl,h⟩;refine⟨[],0,0,false,rfl,fun g=>absurd (chkJ_err g).1 hr0,?_⟩;rw[chkJ_neg hr0];exact h
 · refine(read_end_err b i i1 i2 i3 i4 d p e c h1 h2 h3 h4 _ rfl h0 h).mono ?_;rintro en w' ⟨rfl,h⟩;rw[chkJ_bad h0];exact⟨[],0,0,false,rfl,fun g=>absurd g h0,h⟩

end Go.Proofs.YteldcbljedeeiaaGreatDoor
