/- A text. -/
import Derived.Test.YteldcbljedeeiaaGreatDoorGWholeStrictCard3
import Derived.Deep.RegionHeld3
import Derived.Test.YteldcbljedeeiaaGreatDoorGWholeStrictCard2
import Derived.RegionTactic
import Derived.Test.YteldcbljedeeiaaGreatDoorGWholeStrictCard1
import Derived.Deep.DeepCutAuto
/- A text. -/
namespace Go.Proofs.YteldcbljedeeiaaGreatDoor
open Go.RowKit

theorem zq35 {p:Prop}(h:p:=by simp[results,Tryz.results79,go_sem,ac0,ac1,ac2,ac3,ac4,ac5,ac6]):p:=h
set_option maxHeartbeats 1000000 in
set_option maxRecDepth 100000 in
theorem rec_read_ok (p:Nat) (i i1 k c:InS) (nm:Bs) (x:RecS) (hn:i.name=(nm,i1)) (hx:(⟨nm,0,0⟩:InS).recFields=(x,k)) (hc:k.close=c) (hl:nm.length≤140737488355328) (he:c.err=0) (hj:i1.err=0){W0 w:World}{K:Know}{L:List Res}(h:St W0 w K (.inp p i::L)):
  Calls Tryz.prog 79 #[inPtr p] w fun en w'=>∃v,en=.returned (.agg #[.int .i64 x.time,.int .i64 x.off,.bool x.key.null,.string (bb x.key.data),.bool x.val.null,.string (bb x.val.data),v])∧St W0 w' (K.and (Know.flat RHdr v 3 x.hdrs)) (.inp p i1::L):=by
 have h0:=(h.allocRaw #[.int .i64 0,.int .i64 0,.bool false,.string ⟨#[]⟩,.bool false,.string ⟨#[]⟩,.slice none 0 0] 95).p1;obtain⟨wA,hwA⟩:∃b,w.heap.size=b:=⟨_,rfl⟩;rw[hwA]at h0;have H:=Lib.hid h0;have EN:=Lib.hid hn;have EX:=Lib.hid hx;have EC:=Lib.hid hc;have HL:=Lib.hid hl;have HE:=Lib.hid he;have HJ:=Lib.hid hj
 skip
 clear h h0 hn hx hc hl he hj;go_enter Tryz.func79,Tryz.ntmps79
 go_wp2_with (first
  |(go_at_call 128;refine(blob_name _ i H.out).mono ?_;rw[EN.out];rintro e wn ⟨rfl,h⟩;replace H:=Lib.hid h;clear h)
  |(go_at_call 19;refine(s_new nm HL.out H.out).mono ?_;rintro e wn ⟨bi,rfl,h⟩;replace H:=Lib.hid h;clear h)
  |(go_at_call 129;refine(rec_fields _ _ H.out).mono ?_;rw[EX.out];rintro e wn ⟨v6,rfl,h⟩;obtain⟨q6,cap6,hv6⟩:=flat_form (Know.has_right (Know.has_refl _)) h;subst hv6;obtain⟨wB,hwB⟩:∃b,wn.heap.size=b:=⟨_,rfl⟩;have h:=h.allocRaw #[.int .i64 x.time,.int .i64 x.off,.bool x.key.null,.string (bb x.key.data),.bool x.val.null,.string (bb x.val.data),.slice q6 x.hdrs.length cap6] 95;rw[hwB]at h;replace H:=Lib.hid (show St W0 _ (K.and (Know.flat RHdr (.slice q6 x.hdrs.length cap6) 3 x.hdrs)) (.raw wB #[.int .i64 x.time,.int .i64 x.off,.bool x.key.null,.string (bb x.key.data),.bool x.val.null,.string (bb x.val.data),.slice q6 x.hdrs.length cap6] 95::.inp bi k::.inp p i1::.raw wA #[.int .i64 0,.int .i64 0,.bool false,.string ⟨#[]⟩,.bool false,.string ⟨#[]⟩,.slice none 0 0] 95::L)from h);clear h)
  |(go_at_call 25;refine(s_close _ k H.out.p1).mono ?_;rw[EC.out,HE.out];rintro e wn ⟨rfl,h⟩;replace H:=Lib.hid h.p2;clear h)
  |(go_at_call 22;refine(s_err _ i1 H.out).mono ?_;rw[HJ.out];rintro e wn ⟨rfl,h⟩;replace H:=Lib.hid h;clear h;(first|(obtain⟨ac0,ac1,ac2,ac3,ac4,ac5,ac6,af0,af1,af2,af3,af4,af5,af6⟩:=raw7 (b:=wA) H.out)|(obtain⟨ac0,ac1,ac2,ac3,ac4,ac5,ac6,af0,af1,af2,af3,af4,af5,af6⟩:=raw7 (b:=wA) H.out.p1)|(obtain⟨ac0,ac1,ac2,ac3,ac4,ac5,ac6,af0,af1,af2,af3,af4,af5,af6⟩:=raw7 (b:=wA) H.out.p2)|(obtain⟨ac0,ac1,ac2,ac3,ac4,ac5,ac6,af0,af1,af2,af3,af4,af5,af6⟩:=raw7 (b:=wA) H.out.p3));(first|(obtain⟨bc0,bc1,bc2,bc3,bc4,bc5,bc6,bf0,bf1,bf2,bf3,bf4,bf5,bf6⟩:=raw7 (b:=wB) H.out)|(obtain⟨bc0,bc1,bc2,bc3,bc4,bc5,bc6,bf0,bf1,bf2,bf3,bf4,bf5,bf6⟩:=raw7 (b:=wB) H.out.p1)|(obtain⟨bc0,bc1,bc2,bc3,bc4,bc5,bc6,bf0,bf1,bf2,bf3,bf4,bf5,bf6⟩:=raw7 (b:=wB) H.out.p2)|(obtain⟨bc0,bc1,bc2,bc3,bc4,bc5,bc6,bf0,bf1,bf2,bf3,bf4,bf5,bf6⟩:=raw7 (b:=wB) H.out.p3))))
 refine bodyPost_ret (v:=.agg #[.int .i64 x.time,.int .i64 x.off,.bool x.key.null,.string (bb x.key.data),.bool x.val.null,.string (bb x.val.data),.slice q6 x.hdrs.length cap6]) zq35 rfl ⟨.slice q6 x.hdrs.length cap6,rfl,?_⟩;exact((((((((H.out.p3).rawSet 0 _).rawSet 1 _).rawSet 2 _).rawSet 3 _).rawSet 4 _).rawSet 5 _).rawSet 6 _).drop.p1.drop.p1.drop

set_option maxHeartbeats 1000000 in
set_option maxRecDepth 100000 in
theorem rec_read_bad (p:Nat) (i i1 k c:InS) (nm:Bs) (x:RecS) (hn:i.name=(nm,i1)) (hx:(⟨nm,0,0⟩:InS).recFields=(x,k)) (hc:k.close=c) (hl:nm.length≤140737488355328) (he:c.err=0) (f:Int) (hj:i1.err=f) (hf:(f !=0)=true){W0 w:World}{K:Know}{L:List Res}(h:St W0 w K (.inp p i::L)):
  Calls Tryz.prog 79 #[inPtr p] w fun en w'=>en=.returned (.agg #[.int .i64 0,.int .i64 0,.bool false,.string ⟨#[]⟩,.bool false,.string ⟨#[]⟩,.slice none 0 0])∧St W0 w' K (.inp p i1::L):=by
 have h0:=(h.allocRaw #[.int .i64 0,.int .i64 0,.bool false,.string ⟨#[]⟩,.bool false,.string ⟨#[]⟩,.slice none 0 0] 95).p1;obtain⟨wA,hwA⟩:∃b,w.heap.size=b:=⟨_,rfl⟩;rw[hwA]at h0;have H:=Lib.hid h0;have EN:=Lib.hid hn;have EX:=Lib.hid hx;have EC:=Lib.hid hc;have HL:=Lib.hid hl;have HE:=Lib.hid he;have HJ:=Lib.hid hj
 skip
 clear h h0 hn hx hc hl he hj;go_enter Tryz.func79,Tryz.ntmps79
 go_wp2_with (first
  |(go_at_call 128;refine(blob_name _ i H.out).mono ?_;rw[EN.out];rintro e wn ⟨rfl,h⟩;replace H:=Lib.hid h;clear h)
  |(go_at_call 19;refine(s_new nm HL.out H.out).mono ?_;rintro e wn ⟨bi,rfl,h⟩;replace H:=Lib.hid h;clear h)
  |(go_at_call 129;refine(rec_fields _ _ H.out).mono ?_;rw[EX.out];rintro e wn ⟨v6,rfl,h⟩;obtain⟨q6,cap6,hv6⟩:=flat_form (Know.has_right (Know.has_refl _)) h;subst hv6;obtain⟨wB,hwB⟩:∃b,wn.heap.size=b:=⟨_,rfl⟩;have h:=h.allocRaw #[.int .i64 x.time,.int .i64 x.off,.bool x.key.null,.string (bb x.key.data),.bool x.val.null,.string (bb x.val.data),.slice q6 x.hdrs.length cap6] 95;rw[hwB]at h;replace H:=Lib.hid (show St W0 _ (K.and (Know.flat RHdr (.slice q6 x.hdrs.length cap6) 3 x.hdrs)) (.raw wB #[.int .i64 x.time,.int .i64 x.off,.bool x.key.null,.string (bb x.key.data),.bool x.val.null,.string (bb x.val.data),.slice q6 x.hdrs.length cap6] 95::.inp bi k::.inp p i1::.raw wA #[.int .i64 0,.int .i64 0,.bool false,.string ⟨#[]⟩,.bool false,.string ⟨#[]⟩,.slice none 0 0] 95::L)from h);clear h)
  |(go_at_call 25;refine(s_close _ k H.out.p1).mono ?_;rw[EC.out,HE.out];rintro e wn ⟨rfl,h⟩;replace H:=Lib.hid h.p2;clear h)
  |(go_at_call 22;refine(s_err _ i1 H.out).mono ?_;rw[HJ.out];rintro e wn ⟨rfl,h⟩;replace H:=Lib.hid h;clear h;(first|(obtain⟨ac0,ac1,ac2,ac3,ac4,ac5,ac6,af0,af1,af2,af3,af4,af5,af6⟩:=raw7 (b:=wA) H.out)|(obtain⟨ac0,ac1,ac2,ac3,ac4,ac5,ac6,af0,af1,af2,af3,af4,af5,af6⟩:=raw7 (b:=wA) H.out.p1)|(obtain⟨ac0,ac1,ac2,ac3,ac4,ac5,ac6,af0,af1,af2,af3,af4,af5,af6⟩:=raw7 (b:=wA) H.out.p2)|(obtain⟨ac0,ac1,ac2,ac3,ac4,ac5,ac6,af0,af1,af2,af3,af4,af5,af6⟩:=raw7 (b:=wA) H.out.p3));(first|(obtain⟨bc0,bc1,bc2,bc3,bc4,bc5,bc6,bf0,bf1,bf2,bf3,bf4,bf5,bf6⟩:=raw7 (b:=wB) H.out)|(obtain⟨bc0,bc1,bc2,bc3,bc4,bc5,bc6,bf0,bf1,bf2,bf3,bf4,bf5,bf6⟩:=raw7 (b:=wB) H.out.p1)|(obtain⟨bc0,bc1,bc2,bc3,bc4,bc5,bc6,bf0,bf1,bf2,bf3,bf4,bf5,bf6⟩:=raw7 (b:=wB) H.out.p2)|(obtain⟨bc0,bc1,bc2,bc3,bc4,bc5,bc6,bf0,bf1,bf2,bf3,bf4,bf5,bf6⟩:=raw7 (b:=wB) H.out.p3))))
 refine bodyPost_ret (v:=.agg #[.int .i64 0,.int .i64 0,.bool false,.string ⟨#[]⟩,.bool false,.string ⟨#[]⟩,.slice none 0 0]) zq35 rfl ⟨rfl,?_⟩;exact(((((((((H.out.p3).rawSet 0 _).rawSet 1 _).rawSet 2 _).rawSet 3 _).rawSet 4 _).rawSet 5 _).rawSet 6 _).drop.p1.drop.p1.drop).know (Know.has_left (Know.has_refl _))

set_option maxHeartbeats 1000000 in
set_option maxRecDepth 100000 in
theorem rec_read_inner (p:Nat) (i i1 k c:InS) (nm:Bs) (x:RecS) (hn:i.name=(nm,i1)) (hx:(⟨nm,0,0⟩:InS).recFields=(x,k)) (hc:k.close=c) (hl:nm.length≤140737488355328) (e:Int) (he:c.err=e) (hen:(e !=0)=true) (j:InS) (hjj:i1.fail e=j) (f:Int) (hj:j.err=f) (hf:(f !=0)=true){W0 w:World}{K:Know}{L:List Res}(h:St W0 w K (.inp p i::L)):
  Calls Tryz.prog 79 #[inPtr p] w fun en w'=>en=.returned (.agg #[.int .i64 0,.int .i64 0,.bool false,.string ⟨#[]⟩,.bool false,.string ⟨#[]⟩,.slice none 0 0])∧St W0 w' K (.inp p j::L):=by
 have h0:=(h.allocRaw #[.int .i64 0,.int .i64 0,.bool false,.string ⟨#[]⟩,.bool false,.string ⟨#[]⟩,.slice none 0 0] 95).p1;obtain⟨wA,hwA⟩:∃b,w.heap.size=b:=⟨_,rfl⟩;rw[hwA]at h0;have H:=Lib.hid h0;have EN:=Lib.hid hn;have EX:=Lib.hid hx;have EC:=Lib.hid hc;have HL:=Lib.hid hl;have HE:=Lib.hid he;have HJ:=Lib.hid hj;have EJ:=Lib.hid hjj;clear h h0 hn hx hc hl he hj hjj;go_enter Tryz.func79,Tryz.ntmps79
 go_wp2_with (first
  |(go_at_call 128;refine(blob_name _ i H.out).mono ?_;rw[EN.out];rintro e wn ⟨rfl,h⟩;replace H:=Lib.hid h;clear h)
  |(go_at_call 19;refine(s_new nm HL.out H.out).mono ?_;rintro e wn ⟨bi,rfl,h⟩;replace H:=Lib.hid h;clear h)
  |(go_at_call 129;refine(rec_fields _ _ H.out).mono ?_;rw[EX.out];rintro e wn ⟨v6,rfl,h⟩;obtain⟨q6,cap6,hv6⟩:=flat_form (Know.has_right (Know.has_refl _)) h;subst hv6;obtain⟨wB,hwB⟩:∃b,wn.heap.size=b:=⟨_,rfl⟩;have h:=h.allocRaw #[.int .i64 x.time,.int .i64 x.off,.bool x.key.null,.string (bb x.key.data),.bool x.val.null,.string (bb x.val.data),.slice q6 x.hdrs.length cap6] 95;rw[hwB]at h;replace H:=Lib.hid (show St W0 _ (K.and (Know.flat RHdr (.slice q6 x.hdrs.length cap6) 3 x.hdrs)) (.raw wB #[.int .i64 x.time,.int .i64 x.off,.bool x.key.null,.string (bb x.key.data),.bool x.val.null,.string (bb x.val.data),.slice q6 x.hdrs.length cap6] 95::.inp bi k::.inp p i1::.raw wA #[.int .i64 0,.int .i64 0,.bool false,.string ⟨#[]⟩,.bool false,.string ⟨#[]⟩,.slice none 0 0] 95::L)from h);clear h)
  |(go_at_call 25;refine(s_close _ k H.out.p1).mono ?_;rw[EC.out,HE.out];rintro e wn ⟨rfl,h⟩;replace H:=Lib.hid h.p2;clear h)
  |(go_at_call 70;refine(s_fail _ i1 _ H.out).mono ?_;rw[EJ.out];rintro e wn ⟨rfl,h⟩;replace H:=Lib.hid h;clear h)
  |(go_at_call 22;refine(s_err _ j H.out).mono ?_;rw[HJ.out];rintro e wn ⟨rfl,h⟩;replace H:=Lib.hid h;clear h;(first|(obtain⟨ac0,ac1,ac2,ac3,ac4,ac5,ac6,af0,af1,af2,af3,af4,af5,af6⟩:=raw7 (b:=wA) H.out)|(obtain⟨ac0,ac1,ac2,ac3,ac4,ac5,ac6,af0,af1,af2,af3,af4,af5,af6⟩:=raw7 (b:=wA) H.out.p1)|(obtain⟨ac0,ac1,ac2,ac3,ac4,ac5,ac6,af0,af1,af2,af3,af4,af5,af6⟩:=raw7 (b:=wA) H.out.p2)|(obtain⟨ac0,ac1,ac2,ac3,ac4,ac5,ac6,af0,af1,af2,af3,af4,af5,af6⟩:=raw7 (b:=wA) H.out.p3));(first|(obtain⟨bc0,bc1,bc2,bc3,bc4,bc5,bc6,bf0,bf1,bf2,bf3,bf4,bf5,bf6⟩:=raw7 (b:=wB) H.out)|(obtain⟨bc0,bc1,bc2,bc3,bc4,bc5,bc6,bf0,bf1,bf2,bf3,bf4,bf5,bf6⟩:=raw7 (b:=wB) H.out.p1)|(obtain⟨bc0,bc1,bc2,bc3,bc4,bc5,bc6,bf0,bf1,bf2,bf3,bf4,bf5,bf6⟩:=raw7 (b:=wB) H.out.p2)|(obtain⟨bc0,bc1,bc2,bc3,bc4,bc5,bc6,bf0,bf1,bf2,bf3,bf4,bf5,bf6⟩:=raw7 (b:=wB) H.out.p3))))
 refine bodyPost_ret (v:=.agg #[.int .i64 0,.int .i64 0,.bool false,.string ⟨#[]⟩,.bool false,.string ⟨#[]⟩,.slice none 0 0]) zq35 rfl ⟨rfl,?_⟩;exact(((((((((H.out.p3).rawSet 0 _).rawSet 1 _).rawSet 2 _).rawSet 3 _).rawSet 4 _).rawSet 5 _).rawSet 6 _).drop.p1.drop.p1.drop).know (Know.has_left (Know.has_refl _))

theorem name_len (i:InS) (h:i.ok):i.name.1.length≤i.s.length:=by
 by_cases he:i.err=0
 · obtain⟨s,pos,err⟩:=i;simp only at he;subst he;have hp:pos≤s.length:=h.1
   show(InS.varied ⟨s,pos,0⟩).1.data.length≤s.length
   cases hv:revaried (s.drop pos)with
   |ok b=>
    obtain⟨g1,g2⟩:=rds_varied.ok s pos b.1 b.2 hp hv;obtain⟨_,_,_,_,_,o⟩:=revaried_one hv;rw[g2];simp only
    split at o<;>omega
   |error e=>
    obtain⟨_,q,_,g⟩:=rds_varied.err s pos e hp hv;rw[g]
    simp
 · rw[name_stuck he];simp
theorem rec_read (p:Nat) (i:InS){W0 w:World}{K:Know}{L:List Res}(h:St W0 w K (.inp p i::L)):
   Calls Tryz.prog 79 #[inPtr p] w fun en w'=>∃v,en=.returned (.agg #[.int .i64 i.record.1.time,.int .i64 i.record.1.off,.bool i.record.1.key.null,.string (bb i.record.1.key.data),.bool i.record.1.val.null,.string (bb i.record.1.val.data),v])∧St W0 w' (K.and (Know.flat RHdr v 3 i.record.1.hdrs)) (.inp p i.record.2::L):=by
 have hok:=h.inpGet.2;have hnl:=name_len i hok;have hsl:=hok.2;obtain⟨⟨nm,i1⟩,hn⟩:∃z,i.name=z:=⟨_,rfl⟩;rw[hn]at hnl;simp only at hnl;obtain⟨⟨x,k⟩,hx⟩:∃z,(⟨nm,0,0⟩:InS).recFields=z:=⟨_,rfl⟩;have hz:∀(K':Know),K'.has (K'.and (Know.flat RHdr (.slice none 0 0) 3 [])):=fun K'=>know_nil _ _ _
 unfold InS.record InS.recJ recD;rw[hn];simp only;rw[hx];simp only
 by_cases he:k.close.err=0
 · rw[if_pos he]
   by_cases hj:i1.err=0
   · rw[if_pos hj];exact rec_read_ok p i i1 k _ nm x hn hx rfl (by omega) he hj h
   · rw[if_neg hj];exact(rec_read_bad p i i1 k _ nm x hn hx rfl (by omega) he _ rfl (bne_iff_ne.2 hj) h).mono fun en w' hh=>⟨_,hh.1,hh.2.know (hz K)⟩
 · rw[if_neg he];have hj:(i1.fail k.close.err).err≠0:=by unfold InS.fail;split;exact he;assumption
   rw[if_neg hj];exact(rec_read_inner p i i1 k _ nm x hn hx rfl (by omega) _ rfl (bne_iff_ne.2 he) _ rfl _ rfl (bne_iff_ne.2 hj) h).mono fun en w' hh=>⟨_,hh.1,hh.2.know (hz K)⟩
def Fit (n:Nat):Prop:=n≤140737488351232
def HFit (l:List HdrS):Prop:=∀x∈l,x.key.length≤140737488351232∧x.val.data.length≤140737488351232
theorem rec_readQ (p:Nat) (i:InS) (x:RecS) (k:InS) (hx:i.record=(x,k)){W0 w:World}{K:Know}{L:List Res}(h:St W0 w K (.inp p i::L)):
  Calls Tryz.prog 79 #[inPtr p] w fun en w'=>∃v,en=.returned (.agg #[.int .i64 x.time,.int .i64 x.off,.bool x.key.null,.string (bb x.key.data),.bool x.val.null,.string (bb x.val.data),v])∧St W0 w' (K.and (Know.flat RHdr v 3 x.hdrs)) (.inp p k::L):=by
 have h1:=rec_read p i h;rw[hx]at h1;exact h1

set_option maxHeartbeats 1000000 in
set_option maxRecDepth 100000 in
theorem rec_decode_ok (s:Bs) (x:RecS) (k c:InS) (hx:(⟨s,0,0⟩:InS).record=(x,k)) (hc:k.close=c) (hl:s.length≤140737488355328) (he:c.err=0){W0 w:World}{K:Know}{L:List Res}(h:St W0 w K L):
  Calls Tryz.prog 36 #[.string (bb s)] w fun en w'=>∃v,en=.returned (.tuple #[.agg #[.int .i64 x.time,.int .i64 x.off,.bool x.key.null,.string (bb x.key.data),.bool x.val.null,.string (bb x.val.data),v],.int .i64 0])∧St W0 w' (K.and (Know.flat RHdr v 3 x.hdrs)) L:=by
 have h0:=h.allocRaw #[.int .i64 0,.int .i64 0,.bool false,.string ⟨#[]⟩,.bool false,.string ⟨#[]⟩,.slice none 0 0] 95;obtain⟨wA,hwA⟩:∃b,w.heap.size=b:=⟨_,rfl⟩;rw[hwA]at h0;have H:=Lib.hid h0;have EX:=Lib.hid hx;have EC:=Lib.hid hc;have HL:=Lib.hid hl;have HE:=Lib.hid he;clear h h0 hx hc hl he;go_enter Tryz.func36,Tryz.ntmps36
 go_wp2_with (first
  |(go_at_call 19;refine(s_new s HL.out H.out).mono ?_;rintro e wn ⟨bi,rfl,h⟩;replace H:=Lib.hid h;clear h)
  |(go_at_call 79;refine(rec_readQ _ _ x k EX.out H.out).mono ?_;rintro e wn ⟨v6,rfl,h⟩;obtain⟨q6,cap6,hv6⟩:=flat_form (Know.has_right (Know.has_refl _)) h;subst hv6;obtain⟨wB,hwB⟩:∃b,wn.heap.size=b:=⟨_,rfl⟩;have h:=h.allocRaw #[.int .i64 x.time,.int .i64 x.off,.bool x.key.null,.string (bb x.key.data),.bool x.val.null,.string (bb x.val.data),(.slice q6 x.hdrs.length cap6)] 95;rw[hwB]at h;replace H:=Lib.hid (show St W0 _ (K.and (Know.flat RHdr (.slice q6 x.hdrs.length cap6) 3 x.hdrs)) (.inp bi k::.raw wB #[.int .i64 x.time,.int .i64 x.off,.bool x.key.null,.string (bb x.key.data),.bool x.val.null,.string (bb x.val.data),(.slice q6 x.hdrs.length cap6)] 95::.raw wA #[.int .i64 0,.int .i64 0,.bool false,.string ⟨#[]⟩,.bool false,.string ⟨#[]⟩,.slice none 0 0] 95::L)from h.p1);clear h)
  |(go_at_call 25;refine(s_close _ k H.out).mono ?_;rw[EC.out,HE.out];rintro e wn ⟨rfl,h⟩;replace H:=Lib.hid h;clear h;(first|(obtain⟨ac0,ac1,ac2,ac3,ac4,ac5,ac6,af0,af1,af2,af3,af4,af5,af6⟩:=raw7 (b:=wA) H.out)|(obtain⟨ac0,ac1,ac2,ac3,ac4,ac5,ac6,af0,af1,af2,af3,af4,af5,af6⟩:=raw7 (b:=wA) H.out.p1)|(obtain⟨ac0,ac1,ac2,ac3,ac4,ac5,ac6,af0,af1,af2,af3,af4,af5,af6⟩:=raw7 (b:=wA) H.out.p2)|(obtain⟨ac0,ac1,ac2,ac3,ac4,ac5,ac6,af0,af1,af2,af3,af4,af5,af6⟩:=raw7 (b:=wA) H.out.p3));(first|(obtain⟨bc0,bc1,bc2,bc3,bc4,bc5,bc6,bf0,bf1,bf2,bf3,bf4,bf5,bf6⟩:=raw7 (b:=wB) H.out)|(obtain⟨bc0,bc1,bc2,bc3,bc4,bc5,bc6,bf0,bf1,bf2,bf3,bf4,bf5,bf6⟩:=raw7 (b:=wB) H.out.p1)|(obtain⟨bc0,bc1,bc2,bc3,bc4,bc5,bc6,bf0,bf1,bf2,bf3,bf4,bf5,bf6⟩:=raw7 (b:=wB) H.out.p2)|(obtain⟨bc0,bc1,bc2,bc3,bc4,bc5,bc6,bf0,bf1,bf2,bf3,bf4,bf5,bf6⟩:=raw7 (b:=wB) H.out.p3))))
 refine bodyPost_ret (v:=.tuple #[.agg #[.int .i64 x.time,.int .i64 x.off,.bool x.key.null,.string (bb x.key.data),.bool x.val.null,.string (bb x.val.data),(.slice q6 x.hdrs.length cap6)],.int .i64 0]) (by simp[results,Tryz.results36,go_sem,ac0,ac1,ac2,ac3,ac4,ac5,ac6]) rfl ⟨.slice q6 x.hdrs.length cap6,rfl,(((((((H.out.p2.rawSet 0 _).rawSet 1 _).rawSet 2 _).rawSet 3 _).rawSet 4 _).rawSet 5 _).rawSet 6 _).drop.drop.drop⟩

set_option maxHeartbeats 1000000 in
set_option maxRecDepth 100000 in
theorem rec_decode_bad (s:Bs) (x:RecS) (k c:InS) (hx:(⟨s,0,0⟩:InS).record=(x,k)) (hc:k.close=c) (hl:s.length≤140737488355328) (e:Int) (he:c.err=e) (hen:(e !=0)=true){W0 w:World}{K:Know}{L:List Res}(h:St W0 w K L):
  Calls Tryz.prog 36 #[.string (bb s)] w fun en w'=>en=.returned (.tuple #[.agg #[.int .i64 0,.int .i64 0,.bool false,.string ⟨#[]⟩,.bool false,.string ⟨#[]⟩,.slice none 0 0],.int .i64 e])∧St W0 w' K L:=by
 have h0:=h.allocRaw #[.int .i64 0,.int .i64 0,.bool false,.string ⟨#[]⟩,.bool false,.string ⟨#[]⟩,.slice none 0 0] 95;obtain⟨wA,hwA⟩:∃b,w.heap.size=b:=⟨_,rfl⟩;rw[hwA]at h0;have H:=Lib.hid h0;have EX:=Lib.hid hx;have EC:=Lib.hid hc;have HL:=Lib.hid hl;have HE:=Lib.hid he;clear h h0 hx hc hl he;go_enter Tryz.func36,Tryz.ntmps36
 go_wp2_with (first
  |(go_at_call 19;refine(s_new s HL.out H.out).mono ?_;rintro e wn ⟨bi,rfl,h⟩;replace H:=Lib.hid h;clear h)
  |(go_at_call 79;refine(rec_readQ _ _ x k EX.out H.out).mono ?_;rintro e wn ⟨v6,rfl,h⟩;obtain⟨q6,cap6,hv6⟩:=flat_form (Know.has_right (Know.has_refl _)) h;subst hv6;obtain⟨wB,hwB⟩:∃b,wn.heap.size=b:=⟨_,rfl⟩;have h:=h.allocRaw #[.int .i64 x.time,.int .i64 x.off,.bool x.key.null,.string (bb x.key.data),.bool x.val.null,.string (bb x.val.data),(.slice q6 x.hdrs.length cap6)] 95;rw[hwB]at h;replace H:=Lib.hid (show St W0 _ (K.and (Know.flat RHdr (.slice q6 x.hdrs.length cap6) 3 x.hdrs)) (.inp bi k::.raw wB #[.int .i64 x.time,.int .i64 x.off,.bool x.key.null,.string (bb x.key.data),.bool x.val.null,.string (bb x.val.data),(.slice q6 x.hdrs.length cap6)] 95::.raw wA #[.int .i64 0,.int .i64 0,.bool false,.string ⟨#[]⟩,.bool false,.string ⟨#[]⟩,.slice none 0 0] 95::L)from h.p1);clear h)
  |(go_at_call 25;refine(s_close _ k H.out).mono ?_;rw[EC.out,HE.out];rintro e wn ⟨rfl,h⟩;replace H:=Lib.hid h;clear h;(first|(obtain⟨ac0,ac1,ac2,ac3,ac4,ac5,ac6,af0,af1,af2,af3,af4,af5,af6⟩:=raw7 (b:=wA) H.out)|(obtain⟨ac0,ac1,ac2,ac3,ac4,ac5,ac6,af0,af1,af2,af3,af4,af5,af6⟩:=raw7 (b:=wA) H.out.p1)|(obtain⟨ac0,ac1,ac2,ac3,ac4,ac5,ac6,af0,af1,af2,af3,af4,af5,af6⟩:=raw7 (b:=wA) H.out.p2)|(obtain⟨ac0,ac1,ac2,ac3,ac4,ac5,ac6,af0,af1,af2,af3,af4,af5,af6⟩:=raw7 (b:=wA) H.out.p3));(first|(obtain⟨bc0,bc1,bc2,bc3,bc4,bc5,bc6,bf0,bf1,bf2,bf3,bf4,bf5,bf6⟩:=raw7 (b:=wB) H.out)|(obtain⟨bc0,bc1,bc2,bc3,bc4,bc5,bc6,bf0,bf1,bf2,bf3,bf4,bf5,bf6⟩:=raw7 (b:=wB) H.out.p1)|(obtain⟨bc0,bc1,bc2,bc3,bc4,bc5,bc6,bf0,bf1,bf2,bf3,bf4,bf5,bf6⟩:=raw7 (b:=wB) H.out.p2)|(obtain⟨bc0,bc1,bc2,bc3,bc4,bc5,bc6,bf0,bf1,bf2,bf3,bf4,bf5,bf6⟩:=raw7 (b:=wB) H.out.p3))))
 refine bodyPost_ret (v:=.tuple #[.agg #[.int .i64 0,.int .i64 0,.bool false,.string ⟨#[]⟩,.bool false,.string ⟨#[]⟩,.slice none 0 0],.int .i64 e]) (by simp[results,Tryz.results36,go_sem,ac0,ac1,ac2,ac3,ac4,ac5,ac6]) rfl ⟨rfl,((((((((H.out.p2.rawSet 0 _).rawSet 1 _).rawSet 2 _).rawSet 3 _).rawSet 4 _).rawSet 5 _).rawSet 6 _).drop.drop.drop).know (Know.has_left (Know.has_refl _))⟩

def decJ (s:Bs):InS:=(⟨s,0,0⟩:InS).record.2.close
def decR (s:Bs):RecS:=if (decJ s).err=0 then(⟨s,0,0⟩:InS).record.1 else RecS.zero
theorem rec_decode (s:Bs) (x:RecS) (e:Int) (hx:decR s=x) (he:(decJ s).err=e) (hl:s.length≤140737488355328){W0 w:World}{K:Know}{L:List Res}(h:St W0 w K L):
   Calls Tryz.prog 36 #[.string (bb s)] w fun en w'=>∃v,en=.returned (.tuple #[.agg #[.int .i64 x.time,.int .i64 x.off,.bool x.key.null,.string (bb x.key.data),.bool x.val.null,.string (bb x.val.data),v],.int .i64 e])∧St W0 w' (K.and (Know.flat RHdr v 3 x.hdrs)) L:=by
 have hz:∀(K':Know),K'.has (K'.and (Know.flat RHdr (.slice none 0 0) 3 [])):=fun K'=>know_nil _ _ _
 obtain⟨⟨y,k⟩,hr⟩:∃z,(⟨s,0,0⟩:InS).record=z:=⟨_,rfl⟩;unfold decR at hx;unfold decJ at hx he;rw[hr]at hx he;simp only at hx he
 by_cases h0:k.close.err=0
 · rw[if_pos h0]at hx;subst hx;rw[←he,h0];exact rec_decode_ok s y k _ hr rfl hl h0 h
 · rw[if_neg h0]at hx;subst hx;exact(rec_decode_bad s y k _ hr rfl hl e he (bne_iff_ne.2 (he ▸ h0)) h).mono fun en w' hh=>⟨_,hh.1,hh.2.know (hz K)⟩
theorem dropNext {l a r:Bs}{n:Nat}(h:l.drop n=a++r):l.drop (n+a.length)=r:=by rw[←List.drop_drop,h,List.drop_left]
theorem reInner_back (x:RecS) (hx:x.R) (ho:recOk x=0) (hs:x.sum≤1000000):reInner (recF x)=.ok x:=by
 obtain⟨ho,hr⟩:=recOk_zero ho;unfold RecS.allRight at hr;rw[Bool.and_eq_true,Bool.and_eq_true]at hr;unfold RecS.sum at hs;have d1:(recF x).drop 1=encI x.time++(encI x.off++(encV x.key++(encV x.val++encHs x.hdrs))):=rfl;have d2:=dropNext d1;have d3:=dropNext d2;have d4:=dropNext d3;have d5:=dropNext d4
 have h0:getIntN 1 (recF x)=.ok (0,1):=by
  unfold getIntN;rw[if_neg (by unfold recF;simp)]
  rfl
 have h1:vgetL ((recF x).drop 1)=.ok (x.time,(encI x.time).length):=by rw[d1];exact vgetL_put _ hx.1.1 hx.1.2 _
 have h2:vgetI ((recF x).drop (1+(encI x.time).length))=.ok (x.off,(encI x.off).length):=by rw[d2];exact vgetI_put _ (by omega) (by omega) _
 have h3:=revaried_back x.key hr.1.1 (by omega) (encV x.val++encHs x.hdrs);have h4:=revaried_back x.val hr.1.2 (by omega) (encHs x.hdrs);have h5':=reHdrs_back x.hdrs [] hr.2 (by omega);rw[List.append_nil]at h5';have h5:reHdrs ((recF x).drop (1+(encI x.time).length+(encI x.off).length+(encV x.key).length+(encV x.val).length))=.ok (x.hdrs,(encHs x.hdrs).length):=by rw[d5];exact h5'
 rw[←d3]at h3;rw[←d4]at h4
 have hl:1+(encI x.time).length+(encI x.off).length+(encV x.key).length+(encV x.val).length+(encHs x.hdrs).length=(recF x).length:=by
  unfold recF;simp only[List.length_append,List.length_cons,List.length_nil]
  omega
 unfold reInner;rw[h0];simp only[if_true];rw[h1];simp only;rw[h2];simp only;rw[if_neg (by omega),h3];simp only;rw[h4];simp only;rw[h5];simp only;rw[if_pos hl]
def Know.all {α:Type}(l:List α) (k:α→Know):Know:=⟨fun w F=>∀x∈l,(k x).p w F,fun w w' F h hs hk x hx=>(k x).keep w w' F (h x hx) hs hk,fun w F F' h hs x hx=>(k x).mono w F F' (h x hx) hs⟩
def RRec (cs:List Value) (x:RecS×Value):Prop:=cs=[.int .i64 x.1.time,.int .i64 x.1.off,.bool x.1.key.null,.string (bb x.1.key.data),.bool x.1.val.null,.string (bb x.1.val.data),x.2]
def rcells (x:RecS×Value):List Value:=[.int .i64 x.1.time,.int .i64 x.1.off,.bool x.1.key.null,.string (bb x.1.key.data),.bool x.1.val.null,.string (bb x.1.val.data),x.2]
def Know.recs (v:Value) (l:List (RecS×Value)):Know:=(Know.flat RRec v 7 l).and (Know.all l fun x=>Know.flat RHdr x.2 3 x.1.hdrs)
theorem recs_flat {K:Know}{v:Value}{l:List (RecS×Value)}(h:K.has (Know.recs v l)):K.has (Know.flat RRec v 7 l):=fun w F x=>(h w F x).1
theorem recs_hdrs {K:Know}{v:Value}{l:List (RecS×Value)}(h:K.has (Know.recs v l)){x:RecS×Value}(hx:x∈l):K.has (Know.flat RHdr x.2 3 x.1.hdrs):=fun w F y=>(h w F y).2 x hx
theorem recs_form {W0 w:World}{K:Know}{L:List Res}{v:Value}{l:List (RecS×Value)}(hk:K.has (Know.recs v l)) (h:St W0 w K L):∃q cap,v=.slice q l.length cap:=by
 obtain⟨F,hF,_⟩:=h.get;obtain⟨q,cap,hv,_⟩:=(recs_flat hk _ _ hF).at;exact⟨q,cap,hv⟩
theorem recs_at {W0 w:World}{K:Know}{L:List Res}{q:Option Addr}{n cap:Nat}{l:List (RecS×Value)}(hk:K.has (Know.recs (.slice q n cap) l)) (h:St W0 w K L) (h0:0<l.length):∃b off,q=some ⟨b,off,none⟩:=by
 obtain⟨F,hF,_⟩:=h.get;obtain⟨q2,cap2,hv,hr⟩:=(recs_flat hk _ _ hF).at;obtain⟨b,off,hq,_⟩:=hr h0;simp at hv;exact⟨b,off,hv.1.trans hq⟩
theorem recs_cell {W0 w:World}{K:Know}{L:List Res}{b off n cap:Nat}{l:List (RecS×Value)}(hk:K.has (Know.recs (.slice (some ⟨b,off,none⟩) n cap) l)) (h:St W0 w K L) (i:Nat) (hi:i<l.length) (x:RecS×Value) (hx:l[i]=x):
  w.cell? ⟨b,off+(i*7),none⟩=some (.int .i64 x.1.time)∧w.cell? ⟨b,off+(i*7+1),none⟩=some (.int .i64 x.1.off)∧w.cell? ⟨b,off+(i*7+2),none⟩=some (.bool x.1.key.null)∧w.cell? ⟨b,off+(i*7+3),none⟩=some (.string (bb x.1.key.data))∧w.cell? ⟨b,off+(i*7+4),none⟩=some (.bool x.1.val.null)∧w.cell? ⟨b,off+(i*7+5),none⟩=some (.string (bb x.1.val.data))∧w.cell? ⟨b,off+(i*7+6),none⟩=some (x.2):=by
 subst hx;obtain⟨F,hF,_⟩:=h.get;obtain⟨q2,cap2,hv,hr⟩:=(recs_flat hk _ _ hF).at;obtain⟨b2,off2,hq,hc⟩:=hr (by omega);rw[hq]at hv;simp at hv;obtain⟨⟨rfl,rfl⟩,_,_⟩:=hv;obtain⟨cs,_,hR,hcs⟩:=hc i hi;unfold RRec at hR;subst hR;exact⟨hcs 0 _ rfl,hcs 1 _ rfl,hcs 2 _ rfl,hcs 3 _ rfl,hcs 4 _ rfl,hcs 5 _ rfl,hcs 6 _ rfl⟩
def encAll (l:List (RecS×Value)):Bs:=l.flatMap fun x=>encR x.1
theorem encAll_snoc (l:List (RecS×Value)) (x:RecS×Value):encAll (l++[x])=encAll l++encR x.1:=by unfold encAll;simp
theorem encAll_take (l:List (RecS×Value)) (k:Nat) (h:k<l.length):encAll (l.take (k+1))=encAll (l.take k)++encR l[k].1:=by rw[List.take_succ_eq_append_getElem h,encAll_snoc]
theorem reRec_back (x:RecS) (hx:x.R) (ho:recOk x=0) (hs:x.sum≤1000000) (r:Bs):reRec (encR x++r)=.ok (x,(encR x).length):=by
 have hle:=recF_le x hx hs;have h1:=revaried_back ⟨false,recF x⟩ rfl (by simp only;omega) r;unfold reRec encR;rw[h1];simp only[Bool.false_eq_true,if_false];rw[reInner_back x hx ho hs]
structure Ext {α:Type}(p:Bs→Except Int (α×Nat)):Prop where
  ok:∀(t r:Bs) (x:α×Nat),p t=.ok x→p (t++r)=.ok x
  err:∀(t r:Bs) (e:Int),p t=.error e→e≠1→p (t++r)=.error e
  le:∀(t:Bs) (x:α) (k:Nat),p t=.ok (x,k)→k≤t.length
theorem Ext.short {α:Type}{p:Bs→Except Int (α×Nat)}(h:Ext p){e:Bs}{x:α}(hb:p e=.ok (x,e.length)) (j:Nat) (hj:j<e.length):p (e.take j)=.error 1:=by
 have hs:e.take j++e.drop j=e:=List.take_append_drop _ _
 cases hp:p (e.take j)with
 |ok y=>
  obtain⟨y,k⟩:=y;have h1:=h.ok _ (e.drop j) _ hp;rw[hs,hb]at h1
  cases h1
  have h2:=h.le _ _ _ hp;rw[List.length_take]at h2
  omega
 |error f=>
  by_cases hf:f=1
  · rw[hf]
  · have h1:=h.err _ (e.drop j) _ hp hf;rw[hs,hb]at h1
    cases h1
theorem ext_vgetF (top:Nat):∀(t:Bs) (f r n:Nat) (rest:Bs),(∀x,vgetF top f r n t=.ok x→vgetF top f r n (t++rest)=.ok x)∧(∀e,vgetF top f r n t=.error e→e≠1→vgetF top f r n (t++rest)=.error e)
  |[],f,r,n,rest=>⟨fun x h=>(by rw[vg_none]at h;cases h),fun e h h1=>(by rw[vg_none]at h;cases h;exact absurd rfl h1)⟩
  |c::t,0,r,n,rest=>⟨fun x h=>(by cases h),fun e h h1=>(by cases h;rfl)⟩
  |c::t,f+1,r,n,rest=>by
    have ih:=ext_vgetF top t f (r+1) (n+c.toNat % 128*128 ^ r) rest
    constructor
    · intro x h;simp only[vgetF,List.cons_append]at h ⊢
      split at h
      · cases h
      · rename_i h1
        rw[if_neg h1]
        split at h
        · rename_i h2
          rw[if_pos h2];exact ih.1 x h
        · rename_i h2
          rw[if_neg h2];exact h
    · intro e h he;simp only[vgetF,List.cons_append]at h ⊢
      split at h
      · rename_i h1
        rw[if_pos h1];exact h
      · rename_i h1
        rw[if_neg h1]
        split at h
        · rename_i h2
          rw[if_pos h2];exact ih.2 e h he
        · cases h
theorem ext_vgetL:Ext vgetL:=by
 refine⟨fun t r x h=> ?_,fun t r e h he=> ?_,fun t x k h=>(vgetL_one h).2.2.1⟩
 · unfold vgetL at h ⊢
   cases hv:vgetF 1 10 0 0 t with
   |error e=>rw[hv]at h;cases h
   |ok y=>rw[hv]at h;rw[(ext_vgetF 1 t 10 0 0 r).1 _ hv];exact h
 · unfold vgetL at h ⊢
   cases hv:vgetF 1 10 0 0 t with
   |error e2=>rw[hv]at h;cases h;rw[(ext_vgetF 1 t 10 0 0 r).2 _ hv he]
   |ok y=>rw[hv]at h;cases h
theorem ext_vgetI:Ext vgetI:=by
 refine⟨fun t r x h=> ?_,fun t r e h he=> ?_,fun t x k h=>(vgetI_one h).2.2.1⟩
 · unfold vgetI at h ⊢
   cases hv:vgetF 15 5 0 0 t with
   |error e=>rw[hv]at h;cases h
   |ok y=>rw[hv]at h;rw[(ext_vgetF 15 t 5 0 0 r).1 _ hv];exact h
 · unfold vgetI at h ⊢
   cases hv:vgetF 15 5 0 0 t with
   |error e2=>rw[hv]at h;cases h;rw[(ext_vgetF 15 t 5 0 0 r).2 _ hv he]
   |ok y=>rw[hv]at h;cases h
theorem zq32 {p:Prop}(h:p:=by rw[List.length_append];omega):p:=h
theorem gotS_ok {t:Bs}{k:Nat}{n:Int}{x:BlobS×Nat}(hk:k≤t.length) (h:gotS t k n=.ok x) (r:Bs):gotS (t++r) k n=.ok x∧x.2≤t.length:=by
 unfold gotS at h ⊢
 by_cases h1:n= -1
 · rw[if_pos h1]at h ⊢;cases h;exact⟨rfl,hk⟩
 rw[if_neg h1]at h ⊢
 by_cases h2:n<0
 · rw[if_pos h2]at h;cases h
 rw[if_neg h2]at h ⊢
 by_cases h3:(t.length:Int) - k<n
 · rw[if_pos h3]at h;cases h
 rw[if_neg h3]at h
 cases h
 rw[if_neg zq32];refine⟨?_,by simp only;omega⟩;rw[List.drop_append_of_le_length hk,List.take_append_of_le_length (by rw[List.length_drop];omega)]
theorem gotS_er {t:Bs}{k:Nat}{n:Int}{e:Int}(h:gotS t k n=.error e) (he:e≠1) (r:Bs):gotS (t++r) k n=.error e:=by
 unfold gotS at h ⊢
 by_cases h1:n= -1
 · rw[if_pos h1]at h;cases h
 rw[if_neg h1]at h ⊢
 by_cases h2:n<0
 · rw[if_pos h2]at h ⊢;exact h
 rw[if_neg h2]at h
 by_cases h3:(t.length:Int) - k<n
 · rw[if_pos h3]at h;cases h;exact absurd rfl he
 · rw[if_neg h3]at h;cases h
theorem ext_varied:Ext revaried:=by
 refine⟨fun t r x h=> ?_,fun t r e h he=> ?_,fun t x k h=> ?_⟩
 · unfold revaried at h ⊢
   cases hv:vgetI t with
   |error e=>rw[hv]at h;cases h
   |ok y=>rw[hv]at h;rw[ext_vgetI.ok _ r _ hv];exact(gotS_ok (ext_vgetI.le _ _ _ hv) h r).1
 · unfold revaried at h ⊢
   cases hv:vgetI t with
   |error e2=>rw[hv]at h;cases h;rw[ext_vgetI.err _ r _ hv he]
   |ok y=>rw[hv]at h;rw[ext_vgetI.ok _ r _ hv];exact gotS_er h he r
 · unfold revaried at h
   cases hv:vgetI t with
   |error e=>rw[hv]at h;cases h
   |ok y=>rw[hv]at h;exact(gotS_ok (ext_vgetI.le _ _ _ hv) h []).2
theorem ext_fixed (size:Nat):Ext (refixed size):=by
 refine⟨fun t r x h=> ?_,fun t r e h he=> ?_,fun t x k h=> ?_⟩
 · unfold refixed at h ⊢
   by_cases h1:t.length<size
   · rw[if_pos h1]at h;cases h
   · rw[if_neg h1]at h;rw[if_neg zq32,List.take_append_of_le_length (by omega)];exact(gotS_ok (by omega) h r).1
 · unfold refixed at h ⊢
   by_cases h1:t.length<size
   · rw[if_pos h1]at h;cases h;exact absurd rfl he
   · rw[if_neg h1]at h;rw[if_neg zq32,List.take_append_of_le_length (by omega)];exact gotS_er h he r
 · unfold refixed at h
   by_cases h1:t.length<size
   · rw[if_pos h1]at h;cases h
   · rw[if_neg h1]at h;exact(gotS_ok (by omega) h []).2

def rdL (z:Bool×InS) (n:Int):Bool×InS:=(decide (z.2.vlong.1=n) && z.1,z.2.vlong.2)
def rdV (z:Bool×InS) (b:BlobS):Bool×InS:=(decide (z.2.varied.1=b) && z.1,z.2.varied.2)
def rdF (z:Bool×InS) (b:BlobS):Bool×InS:=(decide ((z.2.fixed 2).1=b) && z.1,(z.2.fixed 2).2)
def rdB (z:Bool×InS) (b:BlobS):Bool×InS:=rdF (rdV z b) b
def encN (n:Int):Bs:=putU (foldN n)
def encBl (b:BlobS):Bs:=encV b++encF 2 b
def At (s:Bs) (c:Nat) (z:Bool×InS) (a:Nat):Prop:=(a≤c∧z.2=⟨s.take c,a,0⟩∧(z.1=true))∨(c<a∧z.2.err=1)
theorem At.read {α:Type} [DecidableEq α] {f:InS→α×InS}{p:Bs→Except Int (α×Nat)}{d:α}(hr:Rds f p d) (he:Ext p){s r:Bs}{c a:Nat}{z:Bool×InS}(hc:c≤s.length) (h:At s c z a){e:Bs}{x:α}(hp:p e=.ok (x,e.length)) (hs:s.drop a=e++r):
   At s c (decide ((f z.2).1=x) && z.1,(f z.2).2) (a+e.length):=by
 have hl:(s.take c).length=c:=by rw[List.length_take];omega
 rcases h with ⟨h1,h2,h3⟩|⟨h1,h2⟩
 · rw[h2,h3];have hd:(s.take c).drop a=(e++r).take (c - a):=by rw[←hs,List.drop_take]
   by_cases hlt:a+e.length≤c
   · have h4:p ((s.take c).drop a)=.ok (x,e.length):=by
      rw[hd,List.take_append,List.take_of_length_le (by omega)];exact he.ok _ _ _ hp
     have h5:=(hr.ok (s.take c) a x e.length (by omega) h4).2;rw[h5];exact .inl ⟨hlt,rfl,by simp⟩
   · have h4:p ((s.take c).drop a)=.error 1:=by
      rw[hd,List.take_append_of_le_length (by omega)];exact he.short hp _ (by omega)
     obtain⟨_,q,_,h5⟩:=hr.err (s.take c) a 1 (by omega) h4;rw[h5];exact .inr ⟨by omega,rfl⟩
 · have h4:=hr.stuck z.2 (by rw[h2];decide);rw[h4];exact .inr ⟨by omega,h2⟩
theorem At.long {s r:Bs}{c a:Nat}{z:Bool×InS}(hc:c≤s.length) (h:At s c z a) (n:Int) (h0: -9223372036854775808≤n) (h1:n<9223372036854775808) (hs:s.drop a=encN n++r):At s c (rdL z n) (a+(encN n).length):=by
 have hp:vgetL (encN n)=.ok (n,(encN n).length):=by
  have:=vgetL_put n h0 h1 []
  rwa [List.append_nil]at this
 exact At.read rds_long ext_vgetL hc h hp hs
theorem At.varied {s r:Bs}{c a:Nat}{z:Bool×InS}(hc:c≤s.length) (h:At s c z a) (b:BlobS) (hb:b.right=true) (hl:b.data.length≤2147483647) (hs:s.drop a=encV b++r):At s c (rdV z b) (a+(encV b).length):=by
 have hp:revaried (encV b)=.ok (b,(encV b).length):=by
  have:=revaried_back b hb hl []
  rwa [List.append_nil]at this
 exact At.read rds_varied ext_varied hc h hp hs
theorem At.fixed {s r:Bs}{c a:Nat}{z:Bool×InS}(hc:c≤s.length) (h:At s c z a) (b:BlobS) (hb:b.right=true) (hf:fits b.len 2) (hs:s.drop a=encF 2 b++r):At s c (rdF z b) (a+(encF 2 b).length):=by
 have hp:refixed 2 (encF 2 b)=.ok (b,(encF 2 b).length):=by
  have:=refixed_back 2 b hb hf []
  rwa [List.append_nil]at this
 exact At.read (rds_fixed 2 (by decide) (by decide)) (ext_fixed 2) hc h hp hs
def BOk (b:BlobS):Prop:=b.right=true∧b.data.length≤200
theorem BOk.fits {b:BlobS}(h:BOk b):fits b.len 2:=by
 have h128:half 2=32768:=by decide
 have hl:=h.2;refine⟨by decide,by decide,?_,?_⟩<;>unfold BlobS.len<;>split<;>simp[h128]<;>omega
theorem At.blob {s r:Bs}{c a:Nat}{z:Bool×InS}(hc:c≤s.length) (h:At s c z a) (b:BlobS) (hb:BOk b) (hs:s.drop a=encBl b++r):At s c (rdB z b) (a+(encBl b).length):=by
 unfold encBl at hs ⊢;rw[List.append_assoc]at hs;have h1:=h.varied hc b hb.1 (by have:=hb.2;omega) hs;have h2:s.drop (a+(encV b).length)=encF 2 b++r:=by rw[←List.drop_drop,hs,List.drop_left]
 have h3:=h1.fixed hc b hb.1 hb.fits h2;rw[List.length_append,←Nat.add_assoc];exact h3
def RI (cs:List Value) (x:Int):Prop:=cs=[.int .i64 x]
theorem flat_at {α:Type}{R:List Value→α→Prop}{sz n cap:Nat}{q:Option Addr}{l:List α}{W0 w:World}{K:Know}{L:List Res}(hk:K.has (Know.flat R (.slice q n cap) sz l)) (h:St W0 w K L) (h0:0<l.length):∃b off,q=some ⟨b,off,none⟩:=by
 obtain⟨F,hF,_⟩:=h.get;obtain⟨q2,cap2,hv,hr⟩:=(hk _ _ hF).at;obtain⟨b,off,hq,_⟩:=hr h0;simp at hv;exact⟨b,off,hv.1.trans hq⟩
theorem flat_cell {α:Type}{R:List Value→α→Prop}{sz n cap b off:Nat}{l:List α}{W0 w:World}{K:Know}{L:List Res}(hk:K.has (Know.flat R (.slice (some ⟨b,off,none⟩) n cap) sz l)) (h:St W0 w K L) (i:Nat) (hi:i<l.length):∃cs,R cs l[i]∧∀f u,cs[f]? =some u→w.cell? ⟨b,off+(i*sz+f),none⟩=some u:=by
 obtain⟨F,hF,_⟩:=h.get;obtain⟨q2,cap2,hv,hr⟩:=(hk _ _ hF).at;obtain⟨b2,off2,hq,hc⟩:=hr (by omega);rw[hq]at hv;simp at hv;obtain⟨⟨rfl,rfl⟩,_,_⟩:=hv;obtain⟨cs,_,h1,h2⟩:=hc i hi;exact⟨cs,h1,h2⟩
structure TopS where
  name:Bs
  parts:List Int
deriving DecidableEq
def RTop (cs:List Value) (x:TopS×Value):Prop:=cs=[.string (bb x.1.name),x.2]
def tcells (x:TopS×Value):List Value:=[.string (bb x.1.name),x.2]
def RSt (cs:List Value) (x:Bs):Prop:=cs=[.string (bb x)]
def Know.tops (v:Value) (l:List (TopS×Value)):Know:=(Know.flat RTop v 2 l).and (Know.all l fun x=>Know.flat RI x.2 1 x.1.parts)
theorem tops_flat {K:Know}{v:Value}{l:List (TopS×Value)}(h:K.has (Know.tops v l)):K.has (Know.flat RTop v 2 l):=fun w F x=>(h w F x).1
theorem tops_parts {K:Know}{v:Value}{l:List (TopS×Value)}(h:K.has (Know.tops v l)){x:TopS×Value}(hx:x∈l):K.has (Know.flat RI x.2 1 x.1.parts):=fun w F y=>(h w F y).2 x hx
theorem tops_form {W0 w:World}{K:Know}{L:List Res}{v:Value}{l:List (TopS×Value)}(hk:K.has (Know.tops v l)) (h:St W0 w K L):∃q cap,v=.slice q l.length cap:=by
 obtain⟨F,hF,_⟩:=h.get;obtain⟨q,cap,hv,_⟩:=(tops_flat hk _ _ hF).at;exact⟨q,cap,hv⟩
theorem tops_at {W0 w:World}{K:Know}{L:List Res}{q:Option Addr}{n cap:Nat}{l:List (TopS×Value)}(hk:K.has (Know.tops (.slice q n cap) l)) (h:St W0 w K L) (h0:0<l.length):∃b off,q=some ⟨b,off,none⟩:=by
 obtain⟨F,hF,_⟩:=h.get;obtain⟨q2,cap2,hv,hr⟩:=(tops_flat hk _ _ hF).at;obtain⟨b,off,hq,_⟩:=hr h0;simp at hv;exact⟨b,off,hv.1.trans hq⟩
theorem tops_cell {W0 w:World}{K:Know}{L:List Res}{b off n cap:Nat}{l:List (TopS×Value)}(hk:K.has (Know.tops (.slice (some ⟨b,off,none⟩) n cap) l)) (h:St W0 w K L) (i:Nat) (hi:i<l.length) (x:TopS×Value) (hx:l[i]=x):
  w.cell? ⟨b,off+i*2,none⟩=some (.string (bb x.1.name))∧w.cell? ⟨b,off+i*2+1,none⟩=some x.2:=by
 subst hx;obtain⟨F,hF,_⟩:=h.get;obtain⟨q2,cap2,hv,hr⟩:=(tops_flat hk _ _ hF).at;obtain⟨b2,off2,hq,hc⟩:=hr (by omega);rw[hq]at hv;simp at hv;obtain⟨⟨rfl,rfl⟩,_,_⟩:=hv;obtain⟨cs,_,hR,hcs⟩:=hc i hi;unfold RTop at hR;subst hR;exact⟨hcs 0 _ rfl,by rw[Nat.add_assoc];exact hcs 1 _ rfl⟩
theorem int_cell {W0 w:World}{K:Know}{L:List Res}{b off n cap:Nat}{l:List Int}(hk:K.has (Know.flat RI (.slice (some ⟨b,off,none⟩) n cap) 1 l)) (h:St W0 w K L) (i:Nat) (hi:i<l.length):w.cell? ⟨b,off+i,none⟩=some (.int .i64 (l.getD i 0)):=by
 obtain⟨cs,hR,hc⟩:=flat_cell hk h i hi;unfold RI at hR;subst hR;have c0:=hc 0 _ rfl;rw[Nat.mul_one,Nat.add_zero]at c0;rw[c0,List.getD_eq_getElem?_getD,List.getElem?_eq_getElem hi]
 rfl
theorem str_cell {W0 w:World}{K:Know}{L:List Res}{b off n cap:Nat}{l:List Bs}(hk:K.has (Know.flat RSt (.slice (some ⟨b,off,none⟩) n cap) 1 l)) (h:St W0 w K L) (i:Nat) (hi:i<l.length):w.cell? ⟨b,off+i,none⟩=some (.string (bb (l.getD i []))):=by
 obtain⟨cs,hR,hc⟩:=flat_cell hk h i hi;unfold RSt at hR;subst hR;have c0:=hc 0 _ rfl;rw[Nat.mul_one,Nat.add_zero]at c0;rw[c0,List.getD_eq_getElem?_getD,List.getElem?_eq_getElem hi]
 rfl
def allN (n:Nat) (p:Nat→Bool):Bool:=(List.range n).all p
theorem allN_true {n:Nat}{p:Nat→Bool}(h:∀k,k<n→p k=true):allN n p=true:=by
 unfold allN;rw[List.all_eq_true];intro x hx;exact h x (List.mem_range.1 hx)
theorem allN_at {n:Nat}{p:Nat→Bool}(h:allN n p=true) (k:Nat) (hk:k<n):p k=true:=List.all_eq_true.1 h k (List.mem_range.2 hk)
theorem allN_false {n:Nat}{p:Nat→Bool}(k:Nat) (hk:k<n) (h:p k=false):allN n p=false:=by
 cases hh:allN n p with
 |false=>rfl
 |true=>have:=allN_at hh k hk;rw[h]at this;cases this
def upI (l:List Int) (k:Nat):Bool:=k==0||decide (l.getD (k - 1) 0<l.getD k 0)
def upS (l:List Bs) (k:Nat):Bool:=k==0||Op.bytesLess (l.getD (k - 1) []) (l.getD k [])
def riseI (l:List Int):Bool:=allN l.length (upI l)
def riseS (l:List Bs):Bool:=allN l.length (upS l)
theorem zq11 {p:Prop}(h:p:=by
  have e1:(a==b)=false:=by simpa using h1
  have e2:(b==a)=false:=by simpa using fun h=>h1 h.symm
  rw[e1,e2];simp only[Bool.false_and,Bool.or_false];have h3:a.toNat≠b.toNat:=fun h=>h1 (UInt8.toNat_inj.1 h)
  by_cases h4:a<b
  · have h5:¬b<a:=by rw[UInt8.lt_iff_toNat_lt]at h4 ⊢;omega
    simp[h4,h5]
  · have h5:b<a:=by rw[UInt8.lt_iff_toNat_lt]at h4 ⊢;omega
    simp[h4,h5]):p:=h
theorem zq26 {p:Prop}(h:p:=by
  subst h1;have h2:¬a<a:=by rw[UInt8.lt_iff_toNat_lt];omega
  simp only[h2,decide_false,Bool.false_or,beq_self_eq_true,Bool.true_and];exact ih):p:=h
theorem lex_leq:∀x y:Bs,(Op.bytesLess x y||x==y)= !Op.bytesLess y x
  |[],[]=>rfl
  |[],_::_=>rfl
  | _::_,[]=>rfl
  |a::x,b::y=>by
    have ih:=lex_leq x y
    show((decide (a<b)||(a==b && Op.bytesLess x y))||(a==b && x==y))= !(decide (b<a)||(b==a && Op.bytesLess y x))
    by_cases h1:a=b
    · exact zq26
    · exact zq11
theorem upI_zero (l:List Int) (j:Nat) (hj:j<1):upI l j=true:=by
 obtain rfl:j=0:=by omega
 rfl
theorem upS_zero (l:List Bs) (j:Nat) (hj:j<1):upS l j=true:=by
 obtain rfl:j=0:=by omega
 rfl

set_option maxHeartbeats 1000000 in
set_option maxRecDepth 100000 in
theorem val_riseI (l:List Int) (q:Option Addr) (cap:Nat) (r:Bool) (hr:riseI l=r) (hn:l.length≤1000000){W0 w:World}{K:Know}{L:List Res}(hk:K.has (Know.flat RI (.slice q l.length cap) 1 l)) (h:St W0 w K L):
  Calls Tryz.prog 238 #[.slice q l.length cap] w fun en w'=>en=.returned (.bool r)∧St W0 w' K L:=by
 have H:=Lib.hid h;have HK:=Lib.hid hk;have HR:=Lib.hid hr;have hni:(l.length:Int)≤1000000:=by omega
 clear h hk hr hn;go_enter Tryz.func238,Tryz.ntmps238;go_wp2;go_loopw [3] (fun iv wr=>∃k:Nat,1≤k∧(k≤l.length∨k=1)∧iv=.int .i64 k∧Hid (∀j,j<k→j<l.length→upI l j=true)∧St W0 wr K L) (fun iv _=>l.length - (intOf iv).toNat)
 case atStart=>exact⟨1,Nat.le_refl _,.inr rfl,rfl,Lib.hid (fun j hj _=>upI_zero l j hj),H.out⟩
 case round=>
  obtain⟨k,hk1,hkl,rfl,HP,hst⟩:=hrel;clear H;have H:=Lib.hid hst;clear hst
  by_cases hlt:k<l.length
  · obtain⟨b,off,hqq⟩:=flat_at HK.out H.out (by omega);subst hqq;obtain⟨j,hj⟩:∃j,k - 1=j:=⟨_,rfl⟩;have c0:=int_cell HK.out H.out k hlt;have c1:=int_cell HK.out H.out j (by omega);obtain⟨x,hx⟩:∃x,l.getD k 0=x:=⟨_,rfl⟩;obtain⟨y,hy⟩:∃y,l.getD j 0=y:=⟨_,rfl⟩
    have hup:upI l k=decide (y<x):=by
      unfold upI;have:(k==0)=false:=by rw[beq_eq_false_iff_ne];omega
      rw[this,hj,hx,hy,Bool.false_or]
    rw[hx]at c0;rw[hy]at c1;have e1:wrap64 ((k:Int) - 1)=(j:Int):=by unfold wrap64;omega
    have e2:IntKind.i64.wrap ((k:Int) - 1)=(j:Int):=by rw[show(k:Int) - 1=(j:Int) by omega];exact IntWalk.i64_in _ (by omega)
    have hjl:(j:Int)<(l.length:Int):=by omega
    have hkl2:(k:Int)<(l.length:Int):=by omega
    have HUP:=Lib.hid hup;clear hj hx hy hup
    by_cases hc:x≤y
    · have hr2:r=false:=by rw[←HR.out];exact allN_false k hlt (by rw[HUP.out];exact decide_eq_false (by omega))
      subst hr2;have hd:decide (x≤y)=true:=decide_eq_true hc;go_wp2;have hs:=H.out.drew
      go_region
      go_wp2;go_ret;exact⟨rfl,hs⟩
    · have hd:decide (x≤y)=false:=decide_eq_false hc;go_wp2;have hs:=H.out.drew
      go_region
      go_wp2;go_roundw
      case rel=>exact⟨k+1,by omega,.inl hlt,by go_num,Lib.hid (fun i hi hil=>by
       by_cases hik:i=k
       · subst hik;rw[HUP.out];exact decide_eq_true (by omega)
       · exact HP.out i (by omega) hil),hs⟩
      case measure=>first|(simp[intOf];done)|(simp[intOf];omega)
  · have hr2:r=true:=by
      rw[←HR.out];exact allN_true fun j hj=>HP.out j (by omega) hj
    subst hr2;have hge:¬(k:Int)<(l.length:Int):=by omega
    go_wp2;go_ret;exact⟨rfl,H.out⟩

theorem zq22 {p:Prop}(h:p:=by
  rw[hq2]at HUP;clear hq hq2;have hr2:r=false:=by rw[←HR.out];exact allN_false k hlt HUP.out
  subst hr2;go_wp2;have hs:=H.out.drew
  go_region
  go_wp2;go_ret;exact⟨rfl,hs⟩):p:=h
set_option maxHeartbeats 1000000 in
set_option maxRecDepth 100000 in
theorem val_riseS (l:List Bs) (q:Option Addr) (cap:Nat) (r:Bool) (hr:riseS l=r) (hn:l.length≤1000000){W0 w:World}{K:Know}{L:List Res}(hk:K.has (Know.flat RSt (.slice q l.length cap) 1 l)) (h:St W0 w K L):
  Calls Tryz.prog 205 #[.slice q l.length cap] w fun en w'=>en=.returned (.bool r)∧St W0 w' K L:=by
 have H:=Lib.hid h;have HK:=Lib.hid hk;have HR:=Lib.hid hr;have hni:(l.length:Int)≤1000000:=by omega
 clear h hk hr hn;go_enter Tryz.func205,Tryz.ntmps205;go_wp2;go_loopw [3] (fun iv wr=>∃k:Nat,1≤k∧(k≤l.length∨k=1)∧iv=.int .i64 k∧Hid (∀j,j<k→j<l.length→upS l j=true)∧St W0 wr K L) (fun iv _=>l.length - (intOf iv).toNat)
 case atStart=>exact⟨1,Nat.le_refl _,.inr rfl,rfl,Lib.hid (fun j hj _=>upS_zero l j hj),H.out⟩
 case round=>
  obtain⟨k,hk1,hkl,rfl,HP,hst⟩:=hrel;clear H;have H:=Lib.hid hst;clear hst
  by_cases hlt:k<l.length
  · obtain⟨b,off,hqq⟩:=flat_at HK.out H.out (by omega);subst hqq;obtain⟨j,hj⟩:∃j,k - 1=j:=⟨_,rfl⟩;have c0:=str_cell HK.out H.out k hlt;have c1:=str_cell HK.out H.out j (by omega);obtain⟨x,hx⟩:∃x,l.getD k []=x:=⟨_,rfl⟩;obtain⟨y,hy⟩:∃y,l.getD j []=y:=⟨_,rfl⟩
    have hup:upS l k=Op.bytesLess y x:=by
     unfold upS;have:(k==0)=false:=by rw[beq_eq_false_iff_ne];omega
     rw[this,hj,hx,hy,Bool.false_or]
    rw[hx]at c0;rw[hy]at c1;have e1:wrap64 ((k:Int) - 1)=(j:Int):=by unfold wrap64;omega
    have e2:IntKind.i64.wrap ((k:Int) - 1)=(j:Int):=by rw[show(k:Int) - 1=(j:Int) by omega];exact IntWalk.i64_in _ (by omega)
    have hjl:(j:Int)<(l.length:Int):=by omega
    have hkl2:(k:Int)<(l.length:Int):=by omega
    have HUP:=Lib.hid hup;clear hj hx hy hup;have hq:=lex_leq x y
    cases hp:Op.bytesLess x y with
    |true=>
     rw[hp,Bool.true_or]at hq;have hq2:Op.bytesLess y x=false:=by simpa using hq.symm
     exact zq22
    |false=>
     rw[hp,Bool.false_or]at hq
     cases he:(x==y)with
     |true=>
      rw[he]at hq;have hq2:Op.bytesLess y x=false:=by simpa using hq.symm
      exact zq22
     |false=>
      rw[he]at hq;have hq2:Op.bytesLess y x=true:=by simpa using hq.symm
      rw[hq2]at HUP;clear hq hq2;go_wp2;have hs:=H.out.drew
      go_region
      go_wp2;go_roundw
      case rel=>exact⟨k+1,by omega,.inl hlt,by go_num,Lib.hid (fun i hi hil=>by
       by_cases hik:i=k
       · subst hik;rw[HUP.out]
       · exact HP.out i (by omega) hil),hs⟩
      case measure=>first|(simp[intOf];done)|(simp[intOf];omega)
  · have hr2:r=true:=by
     rw[←HR.out];exact allN_true fun j hj=>HP.out j (by omega) hj
    subst hr2;have hge:¬(k:Int)<(l.length:Int):=by omega
    go_wp2;go_ret;exact⟨rfl,H.out⟩
def pRise (l:List Int):Bool:= !l.isEmpty && allN l.length (fun k=>decide (0≤l.getD k 0∧l.getD k 0≤2147483647) && upI l k)
def tOk (t:TopS):Bool:= !t.name.isEmpty && decide (t.name.length≤32767) && pRise t.parts
def tRise (l:List TopS):Bool:=l.all tOk && riseS (l.map (·.name))
theorem riseI_mono (l:List Int) (h:riseI l=true) (i:Nat):∀j,i≤j→j<l.length→l.getD i 0≤l.getD j 0
  |0,h1,_=>by
    obtain rfl:i=0:=by omega
    exact Int.le_refl _
  |j+1,h1,h2=>by
    by_cases hij:i=j+1
    · subst hij;exact Int.le_refl _
    · have ih:=riseI_mono l h i j (by omega) (by omega);have hu:=allN_at h (j+1) h2;unfold upI at hu;have e:(j+1==0)=false:=by rw[beq_eq_false_iff_ne];omega
      rw[e,Bool.false_or,Nat.add_sub_cancel]at hu;have:=of_decide_eq_true hu
      omega
theorem pRise_nil:pRise []=false:=rfl
theorem pRise_eq (l:List Int) (h:l≠[]):pRise l=(decide (0≤l.getD 0 0) && (decide (l.getD (l.length - 1) 0≤2147483647) && riseI l)):=by
 have h0:0<l.length:=List.length_pos_iff.2 h
 have he:l.isEmpty=false:=by cases l with
  |nil=>exact absurd rfl h
  |cons _ _=>rfl
 unfold pRise;rw[he,Bool.not_false,Bool.true_and]
 cases hr:riseI l with
 |false=>
  rw[Bool.and_false,Bool.and_false]
  cases ha:allN l.length (fun k=>decide (0≤l.getD k 0∧l.getD k 0≤2147483647) && upI l k)with
  |false=>rfl
  |true=>
    have:riseI l=true:=allN_true fun k hk=>by
      have:=allN_at ha k hk;rw[Bool.and_eq_true]at this;exact this.2
    rw[hr]at this;cases this
 |true=>
  rw[Bool.and_true]
  by_cases h1:0≤l.getD 0 0
  · by_cases h2:l.getD (l.length - 1) 0≤2147483647
    · rw[decide_eq_true h1,decide_eq_true h2];refine allN_true fun k hk=> ?_
      rw[Bool.and_eq_true];have m1:=riseI_mono l hr 0 k (Nat.zero_le _) hk;have m2:=riseI_mono l hr k (l.length - 1) (by omega) (by omega);exact⟨decide_eq_true ⟨by omega,by omega⟩,allN_at hr k hk⟩
    · rw[decide_eq_false h2,Bool.and_false];refine allN_false (l.length - 1) (by omega) ?_;rw[decide_eq_false (fun h=>h2 h.2),Bool.false_and]
  · rw[decide_eq_false h1,Bool.false_and];refine allN_false 0 h0 ?_;rw[decide_eq_false (fun h=>h1 h.1),Bool.false_and]
structure ValS where
  prod:Int
  epoch:Int
  timeout:Int
  state:Int
  tops:List TopS
  upd:Int
  started:Int
deriving DecidableEq
def ValS.ranged (v:ValS):Bool:=decide (0≤v.prod) && (decide (0≤v.epoch) && (decide (v.epoch≤32767) && (decide (0≤v.timeout) && (decide (v.timeout≤2147483647) && (decide (0≤v.upd) && decide (-1≤v.started))))))
def idle (s:Int):Bool:= !(s==1) && (!(s==2) && !(s==3))
def ValS.err (v:ValS):Int:=
  if v.ranged=false then 11
  else if v.state<0∨7≤v.state then 12
  else if (idle v.state !=v.tops.isEmpty)=true∨((v.state==0) !=(v.started== -1))=true then 10
  else if tRise v.tops=false then 13 else 0
theorem elem_str:ElemT Tryz.prog 9 (.string ⟨#[]⟩) 1 16:=elemT_of (by kernel_rfl) rfl (by decide)
def FewT (l:List (TopS×Value)):Prop:=l.length≤1000000∧∀x∈l,x.1.name.length≤140737488355328∧x.1.parts.length≤1000000
set_option maxHeartbeats 1000000 in
set_option maxRecDepth 100000 in
theorem val_partsRise (l:List Int) (q:Option Addr) (cap:Nat) (r:Bool) (hr:pRise l=r) (hn:l.length≤1000000){W0 w:World}{K:Know}{L:List Res}(hk:K.has (Know.flat RI (.slice q l.length cap) 1 l)) (h:St W0 w K L):
   Calls Tryz.prog 204 #[.slice q l.length cap] w fun en w'=>en=.returned (.bool r)∧St W0 w' K L:=by
 have H:=Lib.hid h;have HK:=Lib.hid hk;have HN:=Lib.hid hn;clear h hk
 by_cases hl:l=[]
 · subst hl;rw[pRise_nil]at hr;subst hr;clear hn;go_enter Tryz.func204,Tryz.ntmps204;go_wp2;go_ret;exact⟨rfl,H.out⟩
 · rw[pRise_eq l hl]at hr;have h0:0<l.length:=List.length_pos_iff.2 hl;obtain⟨b,off,hqq⟩:=flat_at HK.out H.out h0;subst hqq;have c0:=int_cell HK.out H.out 0 h0;obtain⟨m,hm⟩:∃m,l.length - 1=m:=⟨_,rfl⟩;have c1:=int_cell HK.out H.out m (by omega);obtain⟨x,hx⟩:∃x,l.getD 0 0=x:=⟨_,rfl⟩;obtain⟨y,hy⟩:∃y,l.getD m 0=y:=⟨_,rfl⟩;rw[hm,hx,hy]at hr;rw[hx]at c0;rw[hy]at c1;rw[Nat.add_zero]at c0;have e1:wrap64 ((l.length:Int) - 1)=(m:Int):=by unfold wrap64;omega
   have e2:IntKind.i64.wrap ((l.length:Int) - 1)=(m:Int):=by rw[show(l.length:Int) - 1=(m:Int) by omega];exact IntWalk.i64_in _ (by omega)
   have hg:decide ((0:Int)<(l.length:Int))=true:=decide_eq_true (by omega);have hi0:(0:Int)<(l.length:Int):=by omega
   have him:(m:Int)<(l.length:Int):=by omega
   have hl2:0<l.length:=h0;clear hm hx hy hn
   by_cases h1:0≤x
   · rw[decide_eq_true h1,Bool.true_and]at hr
     by_cases h2:y≤2147483647
     · rw[decide_eq_true h2,Bool.true_and]at hr;have HR:=Lib.hid hr;clear hr;go_enter Tryz.func204,Tryz.ntmps204;go_wp2_with (go_at_call 238;(with_reducible refine(val_riseI l _ _ r HR.out HN.out HK.out H.out).mono ?_);rintro e_ wn ⟨rfl,h⟩;replace H:=Lib.hid h;clear h);go_ret;exact⟨rfl,H.out⟩
     · rw[decide_eq_false h2,Bool.false_and]at hr;subst hr;go_enter Tryz.func204,Tryz.ntmps204;go_wp2;go_ret;exact⟨rfl,H.out⟩
   · rw[decide_eq_false h1,Bool.false_and]at hr;subst hr;go_enter Tryz.func204,Tryz.ntmps204;go_wp2;go_ret;exact⟨rfl,H.out⟩
theorem tRise_bad (l:List TopS) (k:Nat) (hk:k<l.length) (h:tOk l[k]=false):tRise l=false:=by
 unfold tRise
 cases ha:l.all tOk with
 |false=>rfl
 |true=>have:=List.all_eq_true.1 ha _ (List.getElem_mem hk);rw[h]at this;cases this
theorem tRise_ok (l:List TopS) (h:l.all tOk=true):tRise l=riseS (l.map (·.name)):=by unfold tRise;rw[h,Bool.true_and]
set_option maxHeartbeats 1000000 in
set_option maxRecDepth 100000 in
theorem val_topicsRise (l:List (TopS×Value)) (q:Option Addr) (cap:Nat) (r:Bool) (hr:tRise (l.map (·.1))=r) (hf:FewT l){W0 w:World}{K:Know}{L:List Res}(hk:K.has (Know.tops (.slice q l.length cap) l)) (h:St W0 w K L):
  Calls Tryz.prog 148 #[.slice q l.length cap] w fun en w'=>en=.returned (.bool r)∧St W0 w' K L:=by
 have H:=Lib.hid h;have HK:=Lib.hid hk;have HR:=Lib.hid hr;have HF:=Lib.hid hf;have hni:(l.length:Int)≤1000000:=by have:=hf.1;omega
 clear h hk hr hf;go_enter Tryz.func148,Tryz.ntmps148;go_wp2;go_loopw [3,5,8] (fun nv _ iv wr=>∃(k:Nat) (acc:List Bs),k≤l.length∧iv=.int .i64 k∧Hid (acc=(l.take k).map (·.1.name))∧Hid ((l.take k).all (fun x=>tOk x.1)=true)∧St W0 wr K (.row nv 9 1 acc.length (acc.flatMap fun x=>[.string (bb x)])::L)) (fun _ _ iv _=>l.length - (intOf iv).toNat)
 case atStart=>exact⟨0,[],Nat.zero_le _,rfl,Lib.hid rfl,Lib.hid rfl,H.out.nilRow 9 1⟩
 case round=>
  obtain⟨k,acc,hkl,rfl,HA,HO,hst⟩:=hrel;clear H;have H:=Lib.hid hst;clear hst
  by_cases hlt:k<l.length
  · obtain⟨b,off,hqq⟩:=tops_at HK.out H.out (by omega);subst hqq;obtain⟨⟨⟨nm,ps⟩,vx⟩,hx⟩:∃x,l[k]=x:=⟨_,rfl⟩;obtain⟨c0,c1⟩:wr.cell? ⟨b,off+k*2,none⟩=some (.string (bb nm))∧wr.cell? ⟨b,off+k*2+1,none⟩=some vx:=tops_cell HK.out H.out k hlt _ hx;have hmem:((⟨nm,ps⟩:TopS),vx)∈l:=hx ▸ List.getElem_mem hlt;have hxk:K.has (Know.flat RI vx 1 ps):=tops_parts HK.out hmem;obtain⟨qx,capx,hvx⟩:=flat_form hxk H.out;subst hvx;have HXK:=Lib.hid hxk;have hfx:nm.length≤140737488355328∧ps.length≤1000000:=HF.out.2 _ hmem;have HPN:=Lib.hid hfx.2;have hnl:nm.length≤140737488355328:=hfx.1;have hkn:(k:Int)<(l.length:Int):=by omega
    have hmk:k<(l.map (·.1)).length:=by rw[List.length_map];exact hlt
    have hmg:(l.map (·.1))[k]=⟨nm,ps⟩:=by rw[List.getElem_map,hx]
    have hbad:tOk ⟨nm,ps⟩=false→r=false:=fun h=>by rw[←HR.out];exact tRise_bad _ k hmk (by rw[hmg];exact h)
    have htk:l.take (k+1)=l.take k++[((⟨nm,ps⟩:TopS),Value.slice qx ps.length capx)]:=by rw[List.take_succ_eq_append_getElem hlt,hx]
    have HAL:=Lib.hid (show acc.length≤1000000 by rw[HA.out,List.length_map,List.length_take];have:=HF.out.1;omega);obtain⟨tb,htb⟩:∃b,wr.heap.size=b:=⟨_,rfl⟩;have h:=H.out.allocRaw #[.string (bb nm),.slice qx ps.length capx] 173;rw[htb]at h;have t0:=h.rawCell 0;have t1:=h.rawCell 1;simp at t0 t1;clear H;have H:=Lib.hid h;have HTK:=Lib.hid htk;clear h hx hmem hxk hfx hmk hmg htk
    by_cases hn0:nm=[]
    · as_aux_lemma=>
      subst hn0;have hr2:r=false:=hbad rfl;subst hr2;go_wp2;go_ret;exact⟨rfl,H.out.drop.drop⟩
    · have hn1:(nm==[])=false:=by rw[beq_eq_false_iff_ne];exact hn0
      have hn2:([]==nm)=false:=by rw[beq_eq_false_iff_ne];exact fun h=>hn0 h.symm
      have hie:nm.isEmpty=false:=by cases nm with
        |nil=>exact absurd rfl hn0
        |cons _ _=>rfl
      by_cases hln:nm.length≤32767
      · obtain⟨pr,hpr⟩:∃pr,pRise ps=pr:=⟨_,rfl⟩;have HPR:=Lib.hid hpr;have hl2:(nm.length:Int)≤32767:=by omega
        have hl3:decide ((32767:Int)<(nm.length:Int))=false:=decide_eq_false (by omega)
        cases pr with
        |false=>
         as_aux_lemma=>
         have hr2:r=false:=hbad (by unfold tOk;rw[hpr];simp);subst hr2;clear hpr;go_wp2_with (go_at_call 204;(with_reducible refine(val_partsRise ps _ _ _ HPR.out HPN.out HXK.out H.out).mono ?_);rintro e_ wn ⟨rfl,h⟩;have t0:=h.rawCell 0;have t1:=h.rawCell 1;simp at t0 t1;replace H:=Lib.hid h;clear h);go_ret;exact⟨rfl,H.out.drop.drop⟩
        |true=>
         as_aux_lemma=>
         have HO2:=Lib.hid (show(l.take (k+1)).all (fun x=>tOk x.1)=true by
          rw[HTK.out,List.all_append,HO.out]
          show(true && (tOk ⟨nm,ps⟩ && true))=true
          unfold tOk;simp only[hie,hpr,decide_eq_true hln]
          rfl)
         have HA2:=Lib.hid (show acc++[nm]=(l.take (k+1)).map (·.1.name) by rw[HTK.out,List.map_append,HA.out];rfl);clear hpr hie
         go_wp2_with (first
  |(go_at_call 204;(with_reducible refine(val_partsRise ps _ _ _ HPR.out HPN.out HXK.out H.out).mono ?_);rintro e_ wn ⟨rfl,h⟩;have t0:=h.rawCell 0;have t1:=h.rawCell 1;simp at t0 t1;replace H:=Lib.hid h;clear h)
  |(at_builtin;refine wpl_app1_st rfl _ _ 75 rfl 9 Tryz.underlying75 elem_str _ _ _ rfl H.out.p1 [.string (bb nm)] 9 rfl rfl (by simp[Value.oneCell']) (by have:=HAL.out;unfold maxLen;omega) (by have:=HAL.out;omega) ?_;intro v' w' h;replace H:=Lib.hid h;clear h))
         go_roundw
         case rel=>exact⟨k+1,acc++[nm],hlt,by go_num,HA2,HO2,by
          have h3:=H.out.p1.drop;rw[List.length_append,List.flatMap_append]
          exact H.out.p1.drop⟩
         case measure=>first|(simp[intOf];done)|(simp[intOf];omega)
      · as_aux_lemma=>
        have hl3:decide ((32767:Int)<(nm.length:Int))=true:=decide_eq_true (by omega);have hl2:¬(nm.length:Int)≤32767:=by omega
        have hr2:r=false:=hbad (by unfold tOk;simp only[decide_eq_false hln];simp);subst hr2;go_wp2;go_ret;exact⟨rfl,H.out.drop.drop⟩
  · obtain rfl:k=l.length:=by omega
    have ho:=HO.out;have ha:=HA.out;rw[List.take_length]at ho ha;have h2:=H.out.freezeRow (R:=RSt) (fun x _=>⟨rfl,rfl⟩);obtain⟨p0,cap0,hlv⟩:=H.out.rowAny;subst hlv;have HAL:=Lib.hid (show acc.length≤1000000 by rw[ha,List.length_map];have:=HF.out.1;omega)
    have HRS:=Lib.hid (show riseS acc=r by
      rw[←HR.out,tRise_ok _ (by rw[List.all_map];exact ho),ha,List.map_map]
      rfl)
    clear H ho ha;have H:=Lib.hid h2;clear h2;go_wp2_with (go_at_call 205;(with_reducible refine(val_riseS acc _ _ r HRS.out HAL.out (Know.has_right (Know.has_refl _)) H.out).mono ?_);rintro e_ wn ⟨rfl,h⟩;replace H:=Lib.hid h;clear h);go_ret;exact⟨rfl,H.out.know (Know.has_left (Know.has_refl _))⟩
def pk (l:List Int) (k:Nat):Bool:=decide (0≤l.getD k 0∧l.getD k 0≤2147483647) && upI l k
theorem pRise_pk (l:List Int) (h:l≠[]):pRise l=allN l.length (pk l):=by
 unfold pRise
 cases l with
 |nil=>exact absurd rfl h
 |cons _ _=>rfl
def be4s (l:List Int):Bs:=l.flatMap fun n=>beBytes n 4
def encT (t:TopS):Bs:=encF 2 ⟨false,t.name⟩++(beBytes t.parts.length 4++be4s t.parts)
def preT (l:List TopS) (k:Nat):Bs:=beBytes l.length 4++(l.take k).flatMap encT
def encTs (l:List TopS):Bs:=beBytes l.length 4++l.flatMap encT
def ValS.enc (v:ValS):Bs:=beBytes 0 2++beBytes v.prod 8++beBytes v.epoch 2++beBytes v.timeout 4++beBytes v.state 1++encTs v.tops++beBytes v.upd 8++beBytes v.started 8
def TopS.Fit (t:TopS):Prop:=t.name.length≤32767∧t.parts.length≤1000000∧∀n∈t.parts,-2147483648≤n∧n<2147483648
def FitTs (l:List TopS):Prop:=l.length≤1000000∧∀t∈l,t.Fit
theorem be4s_len (l:List Int):(be4s l).length=4*l.length:=by
 unfold be4s
 induction l with
 |nil=>rfl
 |cons x t ih=>rw[List.flatMap_cons,List.length_append,beBytes_length,ih,List.length_cons];omega
theorem encT_len (t:TopS):(encT t).length=6+t.name.length+4*t.parts.length:=by
 unfold encT encF;simp only[List.length_append,beBytes_length,be4s_len]
 omega
theorem preT_le (l:List TopS) (h:FitTs l) (k:Nat) (hk:k≤l.length):(preT l k).length≤4+4100000*k:=by
 unfold preT;rw[List.length_append,beBytes_length]
 have:∀(m:List TopS),(∀t∈m,t.Fit)→(m.flatMap encT).length≤4100000*m.length:=by
  intro m
  induction m with
  |nil=>intro _;simp
  |cons x t ih=>
   intro hm;have h1:=ih (fun y hy=>hm y (by simp[hy]));have h2:=hm x (by simp);have h3:=encT_len x;unfold TopS.Fit at h2;rw[List.flatMap_cons,List.length_append,List.length_cons]
   omega
 have h1:=this (l.take k) (fun t ht=>h.2 t (List.mem_of_mem_take ht));rw[List.length_take]at h1;have e:min k l.length=k:=by omega
 rw[e]at h1
 omega
theorem preT_step (l:List TopS) (k:Nat) (hk:k<l.length) (t:TopS) (ht:l[k]=t):preT l (k+1)=preT l k++(encF 2 ⟨false,t.name⟩++(beBytes t.parts.length 4++be4s t.parts)):=by
 unfold preT;rw[List.take_succ_eq_append_getElem hk,List.flatMap_append,ht,List.flatMap_cons,List.flatMap_nil,List.append_nil,List.append_assoc]
 rfl
theorem preT_all (l:List TopS):preT l l.length=encTs l:=by unfold preT encTs;rw[List.take_length]
theorem preT_zero (l:List TopS):preT l 0=beBytes l.length 4:=by unfold preT;rw[List.take_zero,List.flatMap_nil,List.append_nil]
theorem be4s_step (l:List Int) (k:Nat) (hk:k<l.length) (n:Int) (hn:l.getD k 0=n):be4s (l.take (k+1))=be4s (l.take k)++beBytes n 4:=by
 have e:l[k]=n:=by rw[←hn,List.getD_eq_getElem?_getD,List.getElem?_eq_getElem hk];rfl
 unfold be4s;rw[List.take_succ_eq_append_getElem hk,List.flatMap_append,e,List.flatMap_cons,List.flatMap_nil,List.append_nil]
theorem vfits4 (n:Int) (h: -2147483648≤n∧n<2147483648):fits n 4:=by
 unfold fits half;refine⟨by decide,by decide,?_,?_⟩
 · show -(128*256 ^ 3)≤n;omega
 · show n<128*256 ^ 3;omega
theorem vfits8 (n:Int) (h: -9223372036854775808≤n∧n<9223372036854775808):fits n 8:=by
 unfold fits half;refine⟨by decide,by decide,?_,?_⟩
 · show -(128*256 ^ 7)≤n;omega
 · show n<128*256 ^ 7;omega
theorem vfits2 (n:Int) (h: -32768≤n∧n<32768):fits n 2:=by
 unfold fits half;refine⟨by decide,by decide,?_,?_⟩
 · show -(128*256 ^ 1)≤n;omega
 · show n<128*256 ^ 1;omega
theorem vfits1 (n:Int) (h: -128≤n∧n<128):fits n 1:=by
 unfold fits half;refine⟨by decide,by decide,?_,?_⟩
 · show -(128*256 ^ 0)≤n;omega
 · show n<128*256 ^ 0;omega
theorem getD_mem (l:List Int) (k:Nat) (hk:k<l.length):l.getD k 0∈l:=by
 rw[List.getD_eq_getElem?_getD,List.getElem?_eq_getElem hk];exact List.getElem_mem hk
def InS.cnt (i:InS) (each:Nat):Nat×InS:=((i.count 4 each).1.toNat,(i.count 4 each).2)
def cntP (each:Nat) (s:Bs):Except Int (Nat×Nat):=
  if s.length<4 then .error 1 else if sInt (s.take 4)<0 then .error 4 else if ((s.length:Int) - 4) / each<sInt (s.take 4)then .error 1 else .ok ((sInt (s.take 4)).toNat,4)
theorem int4_ok (s:Bs) (pos:Nat) (hp:pos≤s.length) (h:4≤(s.drop pos).length):pos+4≤s.length∧(⟨s,pos,0⟩:InS).int 4=(sInt ((s.drop pos).take 4),⟨s,pos+4,0⟩):=
 (rds_intN 4 (by decide) (by decide)).ok s pos _ 4 hp (by unfold getIntN;rw[if_neg (by omega)])
theorem int4_short (s:Bs) (pos:Nat) (hp:pos≤s.length) (h:(s.drop pos).length<4):∃q,q≤s.length∧(⟨s,pos,0⟩:InS).int 4=(0,⟨s,q,1⟩):=
 ((rds_intN 4 (by decide) (by decide)).err s pos 1 hp (by unfold getIntN;rw[if_pos h])).2
theorem int_stuck (i:InS) (hi:i.err≠0):i.int 4=(0,i):=(rds_intN 4 (by decide) (by decide)).stuck i hi
theorem rds_cnt (each:Nat) (he:0<each):Rds (fun i=>i.cnt each) (cntP each) 0:=by
 refine⟨?_,?_,?_⟩
 · intro s pos a k hp h;unfold cntP at h
   by_cases h1:(s.drop pos).length<4
   · rw[if_pos h1]at h;cases h
   rw[if_neg h1]at h;obtain⟨g1,g2⟩:=int4_ok s pos hp (by omega)
   by_cases h2:sInt ((s.drop pos).take 4)<0
   · rw[if_pos h2]at h;cases h
   rw[if_neg h2]at h
   by_cases h3:(((s.drop pos).length:Int) - 4) / each<sInt ((s.drop pos).take 4)
   · rw[if_pos h3]at h;cases h
   rw[if_neg h3]at h
   cases h
   refine⟨g1,?_⟩
   show(((⟨s,pos,0⟩:InS).count 4 each).1.toNat,((⟨s,pos,0⟩:InS).count 4 each).2)=_
   unfold InS.count;simp only[g2]
   rw[if_neg h2,if_neg (fun hh=>h3 (by
     have e:((⟨s,pos+4,0⟩:InS).left:Int)=((s.drop pos).length:Int) - 4:=by simp only[InS.left];rw[List.length_drop];rw[List.length_drop]at h1;omega
     rw[e]at hh
     exact hh.2))]
 · intro s pos e hp h;unfold cntP at h
   show e≠0∧∃q,q≤s.length∧(((⟨s,pos,0⟩:InS).count 4 each).1.toNat,((⟨s,pos,0⟩:InS).count 4 each).2)=_
   unfold InS.count
   by_cases h1:(s.drop pos).length<4
   · rw[if_pos h1]at h
     cases h
     obtain⟨q,g1,g2⟩:=int4_short s pos hp h1;refine⟨by decide,q,g1,?_⟩;simp only[g2]
     rw[if_neg (by decide),if_neg (fun hh=>by
      have h2:=hh.2;have:(0:Int)≤((⟨s,q,1⟩:InS).left:Int) / (each:Int):=Int.ediv_nonneg (by omega) (by omega)
      omega)]
     rfl
   rw[if_neg h1]at h;obtain⟨g1,g2⟩:=int4_ok s pos hp (by omega);simp only[g2]
   by_cases h2:sInt ((s.drop pos).take 4)<0
   · rw[if_pos h2]at h
     cases h
     rw[if_pos h2];exact⟨by decide,pos+4,g1,rfl⟩
   rw[if_neg h2]at h ⊢;have e4:((⟨s,pos+4,0⟩:InS).left:Int)=((s.drop pos).length:Int) - 4:=by simp only[InS.left];rw[List.length_drop];rw[List.length_drop]at h1;omega
   rw[e4]
   by_cases h3:(((s.drop pos).length:Int) - 4) / each<sInt ((s.drop pos).take 4)
   · rw[if_pos h3]at h
     cases h
     rw[if_pos ⟨by omega,h3⟩];exact⟨by decide,pos+4,g1,rfl⟩
   rw[if_neg h3]at h
   cases h
 · intro i hi
   show(((i.count 4 each).1).toNat,(i.count 4 each).2)=_
   unfold InS.count;rw[int_stuck i hi];simp only
   rw[if_neg (by decide),if_neg (fun hh=>by
     have h2:=hh.2;have:(0:Int)≤(i.left:Int) / (each:Int):=Int.ediv_nonneg (by omega) (by omega)
     omega)]
   rfl
def intsB:Nat→Bs→List Int
  |0,_=>[]
  |n+1,s=>sInt (s.take 4)::intsB n (s.drop 4)
def InS.partsN:Nat→List Int→InS→List Int×InS
  |0,acc,i=>(acc,i)
  |n+1,acc,i=>InS.partsN n (acc++[(i.int 4).1]) (i.int 4).2
def InS.parts (i:InS):List Int×InS:=InS.partsN (i.cnt 4).1 [] (i.cnt 4).2
def partsP (s:Bs):Except Int (List Int×Nat):=match cntP 4 s with
  | .error e=> .error e
  | .ok x=> .ok (intsB x.1 (s.drop 4),4+4*x.1)
theorem partsN_at:∀(n:Nat) (acc:List Int) (s:Bs) (pos:Nat),pos+4*n≤s.length→InS.partsN n acc ⟨s,pos,0⟩=(acc++intsB n (s.drop pos),⟨s,pos+4*n,0⟩)
  |0,acc,s,pos,_=>by simp[InS.partsN,intsB]
  |n+1,acc,s,pos,h=>by
    have g:=(int4_ok s pos (by omega) (by rw[List.length_drop];omega)).2;have ih:=partsN_at n (acc++[sInt ((s.drop pos).take 4)]) s (pos+4) (by omega);unfold InS.partsN;rw[g];simp only;rw[ih,List.append_assoc]
    show(acc++(sInt ((s.drop pos).take 4)::intsB n (s.drop (pos+4))),_)=(acc++(sInt ((s.drop pos).take 4)::intsB n ((s.drop pos).drop 4)),_)
    rw[List.drop_drop]
    congr 2
    omega
theorem cntP_ok {each:Nat}{s:Bs}{n k:Nat}(he:0<each) (h:cntP each s=.ok (n,k)):k=4∧4+each*n≤s.length∧(n:Int)=sInt (s.take 4)∧n<2147483648:=by
 unfold cntP at h
 by_cases h1:s.length<4
 · rw[if_pos h1]at h;cases h
 rw[if_neg h1]at h
 by_cases h2:sInt (s.take 4)<0
 · rw[if_pos h2]at h;cases h
 rw[if_neg h2]at h
 by_cases h3:((s.length:Int) - 4) / each<sInt (s.take 4)
 · rw[if_pos h3]at h;cases h
 rw[if_neg h3]at h
 cases h
 have hn:((sInt (s.take 4)).toNat:Int)=sInt (s.take 4):=Int.toNat_of_nonneg (by omega);refine⟨rfl,?_,hn,?_⟩
 · have h4:sInt (s.take 4)*each≤(s.length:Int) - 4:=(Int.le_ediv_iff_mul_le (by omega)).1 (by omega);rw[←hn]at h4;have h5:((sInt (s.take 4)).toNat:Int)*(each:Int)=((each*(sInt (s.take 4)).toNat:Nat):Int):=by rw[Nat.mul_comm];exact(Int.natCast_mul _ _).symm
   rw[h5]at h4
   omega
 · have h6:fits (sInt (s.take 4)) 4:=by
    exact sInt_fits (s.take 4) 4 (by decide) (by decide) (by rw[List.length_take];omega)
   have h7:=h6.2.2.2;have e4:half (4:Int).toNat=2147483648:=by decide
   rw[e4]at h7
   omega
theorem rds_parts:Rds InS.parts partsP []:=by
 refine⟨?_,?_,?_⟩
 · intro s pos a k hp h;unfold partsP at h
   cases h1:cntP 4 (s.drop pos)with
   |error e=>rw[h1]at h;cases h
   |ok x=>
    rw[h1]at h
    cases h
    obtain⟨g1,g2⟩:=(rds_cnt 4 (by decide)).ok s pos x.1 x.2 hp h1;obtain⟨c1,c2,_,_⟩:=cntP_ok (by decide) h1;rw[List.length_drop]at c2
    (try simp only at g2)
    refine⟨by omega,?_⟩;unfold InS.parts;rw[g2];simp only;rw[c1,partsN_at x.1 [] s (pos+4) (by omega),List.nil_append,List.drop_drop,Nat.add_assoc]
 · intro s pos e hp h;unfold partsP at h
   cases h1:cntP 4 (s.drop pos)with
   |error e1=>
    rw[h1]at h
    cases h
    obtain⟨g1,q,g2,g3⟩:=(rds_cnt 4 (by decide)).err s pos e hp h1;refine⟨g1,q,g2,?_⟩
    (try simp only at g3)
    unfold InS.parts;rw[g3]
    rfl
   |ok x=>rw[h1]at h;cases h
 · intro i hi;have g:=(rds_cnt 4 (by decide)).stuck i hi
   (try simp only at g)
   unfold InS.parts;rw[g]
   rfl
def textP (s:Bs):Except Int (Bs×Nat):=match refixed 2 s with
  | .error e=> .error e
  | .ok x=>if x.1.null then .error 4 else .ok (x.1.data,x.2)
theorem zq21 {p:Prop}(h:p:=by
  unfold refixed at h
  split at h
  · cases h
  · unfold gotS at h
    split at h
    · cases h;rfl
    · split at h
      · cases h
      · split at h
        · cases h
        · cases h;cases hn):p:=h
theorem refixed_null {s:Bs}{x:BlobS×Nat}(h:refixed 2 s=.ok x) (hn:x.1.null=true):x.1.data=[]:=by
 exact zq21
theorem rds_text:Rds InS.text textP []:=by
 refine⟨?_,?_,?_⟩
 · intro s pos a k hp h;unfold textP at h
   cases h1:refixed 2 (s.drop pos)with
   |error e=>rw[h1]at h;cases h
   |ok x=>
    rw[h1]at h;obtain⟨g1,g2⟩:=(rds_fixed 2 (by decide) (by decide)).ok s pos x.1 x.2 hp h1
    cases hn:x.1.null with
    |true=>simp[hn]at h
    |false=>
     simp only[hn]at h
     cases h
     refine⟨g1,?_⟩;unfold InS.text InS.bytes;have g2:(⟨s,pos,0⟩:InS).fixed 2=(x.1,⟨s,pos+x.2,0⟩):=g2;rw[g2];simp only[hn]
     rfl
 · intro s pos e hp h;unfold textP at h
   cases h1:refixed 2 (s.drop pos)with
   |error e1=>
    rw[h1]at h
    cases h
    obtain⟨g1,q,g2,g3⟩:=(rds_fixed 2 (by decide) (by decide)).err s pos e hp h1;refine⟨g1,q,g2,?_⟩;have g3:(⟨s,pos,0⟩:InS).fixed 2=(⟨false,[]⟩,⟨s,q,e⟩):=g3;unfold InS.text InS.bytes;rw[g3]
    rfl
   |ok x=>
    rw[h1]at h;obtain⟨g1,g2⟩:=(rds_fixed 2 (by decide) (by decide)).ok s pos x.1 x.2 hp h1;have g2:(⟨s,pos,0⟩:InS).fixed 2=(x.1,⟨s,pos+x.2,0⟩):=g2
    cases hn:x.1.null with
    |false=>simp[hn]at h
    |true=>
     simp[hn]at h;subst h;refine⟨by decide,pos+x.2,g1,?_⟩;unfold InS.text InS.bytes;rw[g2];simp only[hn];have hd:=refixed_null h1 hn;rw[hd]
     rfl
 · intro i hi;have g:i.fixed 2=(⟨false,[]⟩,i):=(rds_fixed 2 (by decide) (by decide)).stuck i hi;unfold InS.text InS.bytes;rw[g]
   rfl
def topP (s:Bs):Except Int (TopS×Nat):=match textP s with
  | .error e=> .error e
  | .ok x=>match partsP (s.drop x.2)with
    | .error e=> .error e
    | .ok y=> .ok (⟨x.1,y.1⟩,x.2+y.2)
def topN:Nat→Bs→Except Int (List TopS×Nat)
  |0,_=> .ok ([],0)
  |n+1,s=>match topP s with
    | .error e=> .error e
    | .ok x=>match topN n (s.drop x.2)with
      | .error e=> .error e
      | .ok y=> .ok (x.1::y.1,x.2+y.2)
def topsP (s:Bs):Except Int (List TopS×Nat):=match cntP 6 s with
  | .error e=> .error e
  | .ok x=>match topN x.1 (s.drop 4)with
    | .error e=> .error e
    | .ok y=> .ok (y.1,4+y.2)
def InS.topsN:Nat→List TopS→InS→List TopS×InS
  |0,acc,i=>(acc,i)
  |n+1,acc,i=>if i.text.2.parts.2.err=0 then InS.topsN n (acc++[⟨i.text.1,i.text.2.parts.1⟩]) i.text.2.parts.2 else([],i.text.2.parts.2)
def InS.tops (i:InS):List TopS×InS:=InS.topsN (i.cnt 6).1 [] (i.cnt 6).2
theorem topP_ok {s:Bs}{pos:Nat}{t:TopS}{m:Nat}(hp:pos≤s.length) (e:topP (s.drop pos)=.ok (t,m)):pos+m≤s.length∧(⟨s,pos,0⟩:InS).text.1=t.name∧(⟨s,pos,0⟩:InS).text.2.parts=(t.parts,⟨s,pos+m,0⟩):=by
 unfold topP at e
 cases h1:textP (s.drop pos)with
 |error e1=>rw[h1]at e;cases e
 |ok x=>
  rw[h1]at e;obtain⟨g1,g2⟩:=rds_text.ok s pos x.1 x.2 hp h1;simp only at e
  cases h2:partsP ((s.drop pos).drop x.2)with
  |error e2=>rw[h2]at e;cases e
  |ok y=>
   rw[h2]at e
   cases e
   rw[List.drop_drop]at h2;obtain⟨g3,g4⟩:=rds_parts.ok s (pos+x.2) y.1 y.2 g1 h2;rw[g2];rw[Nat.add_assoc]at g3 g4;exact⟨g3,rfl,g4⟩
theorem topP_err {s:Bs}{pos:Nat}{e:Int}(hp:pos≤s.length) (h:topP (s.drop pos)=.error e):e≠0∧∃q,q≤s.length∧(⟨s,pos,0⟩:InS).text.2.parts.2=⟨s,q,e⟩:=by
 unfold topP at h
 cases h1:textP (s.drop pos)with
 |error e1=>
  rw[h1]at h
  cases h
  obtain⟨g1,q,g2,g3⟩:=rds_text.err s pos e hp h1;refine⟨g1,q,g2,?_⟩;rw[g3]
  show(InS.parts ⟨s,q,e⟩).2=_
  rw[rds_parts.stuck ⟨s,q,e⟩ g1]
 |ok x=>
  rw[h1]at h;obtain⟨g1,g2⟩:=rds_text.ok s pos x.1 x.2 hp h1;simp only at h;rw[g2]
  cases h2:partsP ((s.drop pos).drop x.2)with
  |error e2=>
   rw[h2]at h
   cases h
   rw[List.drop_drop]at h2;obtain⟨g3,q,g4,g5⟩:=rds_parts.err s (pos+x.2) e g1 h2;refine⟨g3,q,g4,?_⟩
   show(InS.parts ⟨s,pos+x.2,0⟩).2=_
   rw[g5]
  |ok y=>rw[h2]at h;cases h
theorem topsN_at:∀(n:Nat) (acc:List TopS) (s:Bs) (pos:Nat),pos≤s.length→
    (∀t k,topN n (s.drop pos)=.ok (t,k)→pos+k≤s.length∧InS.topsN n acc ⟨s,pos,0⟩=(acc++t,⟨s,pos+k,0⟩))∧
    (∀e,topN n (s.drop pos)=.error e→e≠0∧∃q,q≤s.length∧InS.topsN n acc ⟨s,pos,0⟩=([],⟨s,q,e⟩))
  |0,acc,s,pos,hp=>⟨fun t k h=>(by cases h;simp[InS.topsN];exact hp),fun e h=>(by cases h)⟩
  |n+1,acc,s,pos,hp=>by
    unfold topN InS.topsN
    cases h1:topP (s.drop pos)with
    |error e1=>
      refine⟨fun t k h=>(by cases h),fun e h=> ?_⟩
      cases h
      obtain⟨g1,q,g2,g3⟩:=topP_err hp h1;refine⟨g1,q,g2,?_⟩;rw[g3,if_neg g1]
    |ok x=>
      obtain⟨g1,g2,g3⟩:=topP_ok hp h1;have ih:=topsN_at n (acc++[x.1]) s (pos+x.2) g1;rw[g2,g3];simp only[if_true];rw[List.drop_drop];refine⟨fun t k h=> ?_,fun e h=> ?_⟩
      · cases h2:topN n (s.drop (pos+x.2))with
        |error e2=>rw[h2]at h;cases h
        |ok y=>
          exact zq16
      · cases h2:topN n (s.drop (pos+x.2))with
        |error e2=>
          rw[h2]at h
          cases h
          exact ih.2 e h2
        |ok y=>rw[h2]at h;cases h
theorem rds_tops:Rds InS.tops topsP []:=by
 refine⟨?_,?_,?_⟩
 · intro s pos a k hp h;unfold topsP at h
   cases h1:cntP 6 (s.drop pos)with
   |error e1=>rw[h1]at h;cases h
   |ok x=>
    rw[h1]at h;obtain⟨g1,g2⟩:=(rds_cnt 6 (by decide)).ok s pos x.1 x.2 hp h1;obtain⟨c1,_,_,_⟩:=cntP_ok (by decide) h1;simp only at h g2;rw[List.drop_drop]at h;rw[c1]at g1 g2
    cases h2:topN x.1 (s.drop (pos+4))with
    |error e2=>rw[h2]at h;cases h
    |ok y=>
     rw[h2]at h
     cases h
     obtain⟨a1,b1⟩:=(topsN_at x.1 [] s (pos+4) g1).1 y.1 y.2 h2;refine⟨by omega,?_⟩;unfold InS.tops;rw[g2];simp only;rw[b1,List.nil_append,Nat.add_assoc]
 · intro s pos e hp h;unfold topsP at h
   cases h1:cntP 6 (s.drop pos)with
   |error e1=>
    rw[h1]at h
    cases h
    obtain⟨g1,q,g2,g3⟩:=(rds_cnt 6 (by decide)).err s pos e hp h1;refine⟨g1,q,g2,?_⟩
    (try simp only at g3)
    unfold InS.tops;rw[g3]
    rfl
   |ok x=>
    rw[h1]at h;obtain⟨g1,g2⟩:=(rds_cnt 6 (by decide)).ok s pos x.1 x.2 hp h1;obtain⟨c1,_,_,_⟩:=cntP_ok (by decide) h1;simp only at h g2;rw[List.drop_drop]at h;rw[c1]at g1 g2;unfold InS.tops;rw[g2];simp only
    cases h2:topN x.1 (s.drop (pos+4))with
    |error e2=>
     rw[h2]at h
     cases h
     exact(topsN_at x.1 [] s (pos+4) g1).2 e h2
    |ok y=>rw[h2]at h;cases h
 · intro i hi;have g:=(rds_cnt 6 (by decide)).stuck i hi
   (try simp only at g)
   unfold InS.tops;rw[g]
   rfl
set_option maxHeartbeats 1000000 in
set_option maxRecDepth 100000 in
theorem val_ranged (p e t s u st:Int) (tv:Value) (r:Bool) (hr:(decide (0≤p) && (decide (0≤e) && (decide (e≤32767) && (decide (0≤t) && (decide (t≤2147483647) && (decide (0≤u) && decide (-1≤st)))))))=r){W0 w:World}{K:Know}{L:List Res}(h:St W0 w K L):
   Calls Tryz.prog 146 #[.agg #[.int .i64 p,.int .i64 e,.int .i64 t,.int .i64 s,tv,.int .i64 u,.int .i64 st]] w fun en w'=>en=.returned (.bool r)∧St W0 w' K L:=by
 obtain⟨vb,hvb⟩:∃b,w.heap.size=b:=⟨_,rfl⟩;have h1:=h.allocRaw #[.int .i64 p,.int .i64 e,.int .i64 t,.int .i64 s,tv,.int .i64 u,.int .i64 st] 107;rw[hvb]at h1;have c0:=(h1).rawCell 0;have c1:=(h1).rawCell 1;have c2:=(h1).rawCell 2;have c3:=(h1).rawCell 3;have c4:=(h1).rawCell 4;have c5:=(h1).rawCell 5;have c6:=(h1).rawCell 6;simp at c0 c1 c2 c3 c4 c5 c6;have H:=Lib.hid h1;clear h h1
 by_cases h0:0≤p
 · rw[decide_eq_true h0,Bool.true_and]at hr
   by_cases h1:0≤e
   · rw[decide_eq_true h1,Bool.true_and]at hr
     by_cases h2:e≤32767
     · rw[decide_eq_true h2,Bool.true_and]at hr
       by_cases h3:0≤t
       · rw[decide_eq_true h3,Bool.true_and]at hr
         by_cases h4:t≤2147483647
         · rw[decide_eq_true h4,Bool.true_and]at hr
           by_cases h5:0≤u
           · rw[decide_eq_true h5,Bool.true_and]at hr
             by_cases h6: -1≤st
             · rw[decide_eq_true h6]at hr;subst hr;go_enter Tryz.func146,Tryz.ntmps146;go_wp2;go_ret;exact⟨rfl,H.out.drop⟩
             · rw[decide_eq_false h6]at hr;subst hr;go_enter Tryz.func146,Tryz.ntmps146;go_wp2;go_ret;exact⟨rfl,H.out.drop⟩
           · rw[decide_eq_false h5,Bool.false_and]at hr;subst hr;go_enter Tryz.func146,Tryz.ntmps146;go_wp2;go_ret;exact⟨rfl,H.out.drop⟩
         · rw[decide_eq_false h4,Bool.false_and]at hr;subst hr;go_enter Tryz.func146,Tryz.ntmps146;go_wp2;go_ret;exact⟨rfl,H.out.drop⟩
       · rw[decide_eq_false h3,Bool.false_and]at hr;subst hr;go_enter Tryz.func146,Tryz.ntmps146;go_wp2;go_ret;exact⟨rfl,H.out.drop⟩
     · rw[decide_eq_false h2,Bool.false_and]at hr;subst hr;go_enter Tryz.func146,Tryz.ntmps146;go_wp2;go_ret;exact⟨rfl,H.out.drop⟩
   · rw[decide_eq_false h1,Bool.false_and]at hr;subst hr;go_enter Tryz.func146,Tryz.ntmps146;go_wp2;go_ret;exact⟨rfl,H.out.drop⟩
 · rw[decide_eq_false h0,Bool.false_and]at hr;subst hr;go_enter Tryz.func146,Tryz.ntmps146;go_wp2;go_ret;exact⟨rfl,H.out.drop⟩

set_option maxHeartbeats 1000000 in
set_option maxRecDepth 100000 in
theorem val_idle (s:Int) (r:Bool) (hr:idle s=r){W0 w:World}{K:Know}{L:List Res}(h:St W0 w K L):
   Calls Tryz.prog 147 #[.int .i64 s] w fun en w'=>en=.returned (.bool r)∧St W0 w' K L:=by
 have H:=Lib.hid h;clear h;unfold idle at hr
 by_cases h1:s=1
 · subst h1;simp at hr;subst hr;go_enter Tryz.func147,Tryz.ntmps147;go_wp2;go_ret;exact⟨rfl,H.out⟩
 · have e1:(s==1)=false:=by rw[beq_eq_false_iff_ne];exact h1
   have n1:(s !=1)=true:=by simp[bne,e1]
   rw[e1,Bool.not_false,Bool.true_and]at hr
   by_cases h2:s=2
   · subst h2;simp at hr;subst hr;clear e1 n1 h1;go_enter Tryz.func147,Tryz.ntmps147;go_wp2;go_ret;exact⟨rfl,H.out⟩
   · have e2:(s==2)=false:=by rw[beq_eq_false_iff_ne];exact h2
     have n2:(s !=2)=true:=by simp[bne,e2]
     rw[e2,Bool.not_false,Bool.true_and]at hr
     by_cases h3:s=3
     · subst h3;simp at hr;subst hr;clear e1 n1 h1 e2 n2 h2;go_enter Tryz.func147,Tryz.ntmps147;go_wp2;go_ret;exact⟨rfl,H.out⟩
     · have e3:(s==3)=false:=by rw[beq_eq_false_iff_ne];exact h3
       have n3:(s !=3)=true:=by simp[bne,e3]
       rw[e3,Bool.not_false]at hr;subst hr;go_enter Tryz.func147,Tryz.ntmps147;go_wp2;go_ret;exact⟨rfl,H.out⟩
set_option maxHeartbeats 2000000 in
set_option maxRecDepth 100000 in
theorem val_check_11 (p e t s u st:Int) (l:List (TopS×Value)) (q:Option Addr) (cap:Nat) (hrg:(decide (0≤p) && (decide (0≤e) && (decide (e≤32767) && (decide (0≤t) && (decide (t≤2147483647) && (decide (0≤u) && decide (-1≤st)))))))=false) (hf:FewT l){W0 w:World}{K:Know}{L:List Res}(hk:K.has (Know.tops (.slice q l.length cap) l)) (h:St W0 w K L):
  Calls Tryz.prog 91 #[.agg #[.int .i64 p,.int .i64 e,.int .i64 t,.int .i64 s,.slice q l.length cap,.int .i64 u,.int .i64 st]] w fun en w'=>en=.returned (.int .i64 11)∧St W0 w' K L:=by
 have HK:=Lib.hid hk;have HF:=Lib.hid hf;obtain⟨vb,hvb⟩:∃b,w.heap.size=b:=⟨_,rfl⟩;have h1:=h.allocRaw #[.int .i64 p,.int .i64 e,.int .i64 t,.int .i64 s,.slice q l.length cap,.int .i64 u,.int .i64 st] 107;rw[hvb]at h1;have c0:=(h1).rawCell 0;have c1:=(h1).rawCell 1;have c2:=(h1).rawCell 2;have c3:=(h1).rawCell 3;have c4:=(h1).rawCell 4;have c5:=(h1).rawCell 5;have c6:=(h1).rawCell 6;simp at c0 c1 c2 c3 c4 c5 c6;have H:=Lib.hid h1;clear h h1 hk hf;have HRG:=Lib.hid hrg;clear hrg;go_enter Tryz.func91,Tryz.ntmps91;go_wp2_with (go_at_call 146;(with_reducible refine(val_ranged _ _ _ _ _ _ _ false HRG.out H.out).mono ?_);rintro e_ wn ⟨rfl,h⟩;have c0:=(h).rawCell 0;have c1:=(h).rawCell 1;have c2:=(h).rawCell 2;have c3:=(h).rawCell 3;have c4:=(h).rawCell 4;have c5:=(h).rawCell 5;have c6:=(h).rawCell 6;simp at c0 c1 c2 c3 c4 c5 c6;replace H:=Lib.hid h;clear h);go_ret;exact⟨rfl,H.out.drop⟩

theorem zq10 {p:Prop}(h:p:=by go_enter Tryz.func91,Tryz.ntmps91;go_wp2_with (go_at_call 146;(with_reducible refine(val_ranged _ _ _ _ _ _ _ true HRG.out H.out).mono ?_);rintro e_ wn ⟨rfl,h⟩;have c0:=(h).rawCell 0;have c1:=(h).rawCell 1;have c2:=(h).rawCell 2;have c3:=(h).rawCell 3;have c4:=(h).rawCell 4;have c5:=(h).rawCell 5;have c6:=(h).rawCell 6;simp at c0 c1 c2 c3 c4 c5 c6;replace H:=Lib.hid h;clear h);go_ret;exact⟨rfl,H.out.drop⟩):p:=h
set_option maxHeartbeats 2000000 in
set_option maxRecDepth 100000 in
theorem val_check_12 (p e t s u st:Int) (l:List (TopS×Value)) (q:Option Addr) (cap:Nat) (hrg:(decide (0≤p) && (decide (0≤e) && (decide (e≤32767) && (decide (0≤t) && (decide (t≤2147483647) && (decide (0≤u) && decide (-1≤st)))))))=true) (hs:s<0∨7≤s) (hf:FewT l){W0 w:World}{K:Know}{L:List Res}(hk:K.has (Know.tops (.slice q l.length cap) l)) (h:St W0 w K L):
   Calls Tryz.prog 91 #[.agg #[.int .i64 p,.int .i64 e,.int .i64 t,.int .i64 s,.slice q l.length cap,.int .i64 u,.int .i64 st]] w fun en w'=>en=.returned (.int .i64 12)∧St W0 w' K L:=by
 have HK:=Lib.hid hk;have HF:=Lib.hid hf;obtain⟨vb,hvb⟩:∃b,w.heap.size=b:=⟨_,rfl⟩;have h1:=h.allocRaw #[.int .i64 p,.int .i64 e,.int .i64 t,.int .i64 s,.slice q l.length cap,.int .i64 u,.int .i64 st] 107;rw[hvb]at h1;have c0:=(h1).rawCell 0;have c1:=(h1).rawCell 1;have c2:=(h1).rawCell 2;have c3:=(h1).rawCell 3;have c4:=(h1).rawCell 4;have c5:=(h1).rawCell 5;have c6:=(h1).rawCell 6;simp at c0 c1 c2 c3 c4 c5 c6;have H:=Lib.hid h1;clear h h1 hk hf;have HRG:=Lib.hid hrg;clear hrg
 rcases hs with hs|hs
 · as_aux_lemma=>
   exact zq10
 · as_aux_lemma=>
   have hs0:¬s<0:=by omega
   exact zq10

end Go.Proofs.YteldcbljedeeiaaGreatDoor
