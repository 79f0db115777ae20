/- A text. -/
import Derived.Test.YtenojajfacacoaaGreatDoorGReportPlaysCard16
import Derived.Test.YtenojajfacacoaaGreatDoorGReportPlaysCard14
import Derived.Test.YtenojajfacacoaaGreatDoorGReportPlaysCard7
import Derived.RegionTactic
import Derived.WalkMore
import Derived.Deep.RegionHeld3
import Derived.Deep.DeepCutAuto
import Derived.Test.YtenojajfacacoaaGreatDoorGReportPlaysCard17
import Derived.Test.YtenojajfacacoaaGreatDoorGReportPlaysCard12
import Derived.Test.YtenojajfacacoaaGreatDoorGReportPlaysCard10
import Derived.Test.YtenojajfacacoaaGreatDoorGReportPlaysCard15
import Derived.Test.YtenojajfacacoaaGreatDoorGReportPlaysCard8
import Derived.Test.YtenojajfacacoaaGreatDoorGReportPlaysCard13
/- A text. -/
namespace Go.Proofs.YtenojajfacacoaaGreatDoor
open Go.RowKit
open Go.Value renaming bool→U, string→Z, slice→Ja, int→I, pointer→Jc
open Go.Ending renaming returned→Jb
open _root_.Nat renaming le_refl→Jo, zero_le→Ji, add_assoc→Jm
open Go.IntKind renaming i64→O
open _root_.Go.Proofs.Tryz renaming prog→Jd
open _root_.List renaming length_cons→Jg, take_of_length_le→Jj, length_take→Jk, length_append→Je, length→Jh, take→Jq, getElem_mem→Jp, length_drop→Jf, length_nil→Jl, length_map→Jn
set_option maxHeartbeats 8000000
set_option maxRecDepth 100000
theorem zQq(text:Bs)(hl:text.length≤900000){W0 w:World}{K:Know}{L:List Res}(hlib:K.has Know.lib)(h:St W0 w K L):
 Calls Jd 41 #[Z (bb text)] w fun en w'=>
  (zCm 0 0 (-1) [] 1 (zAv 10 text)=0∧∃(K':Know) (l:List BtR) (c:Int) (ch:List Int) (vB:Value) (q:Option Addr) (cap:Nat),en=Jb (.tuple #[.agg #[vB,I O c,Ja q ch.length cap],I O 0])∧K'.has K∧K'.has (Know.btrs vB l)∧K'.has (Know.flat RInt (Ja q ch.length cap) 1 ch)∧l.flatMap btT++(cutT c++chT ch)=text∧ -1≤c∧Rn c∧(∀v∈ch,Rn v)∧(∀x∈l,zCN x)∧St W0 w' K' L)∨
  (∃(bad:Nat) (K':Know),zCm 0 0 (-1) [] 1 (zAv 10 text)=bad∧0<bad∧bad≤900001∧en=Jb (.tuple #[.agg #[Ja none 0 0,I O 0,Ja none 0 0],I O bad])∧K'.has K∧St W0 w' K' L):=by
 obtain⟨sb,hsb⟩:=eX w.heap.size;obtain⟨rd,hrd⟩:=eX (sb+1);have g1:=(h.allocRaw #[Ja none 0 0,I O 0,Ja none 0 0] 25).allocRaw #[Ja none 0 0,I O (-1),Ja none 0 0] 122;simp only[World.size_alloc,hsb,hrd]at g1;have H:=hQd g1;have HLIB:=hQd hlib;clear h g1 hlib;go_enter Tryz.func41,Tryz.ntmps41;go_wp2_with fail;go_loopw [0,5] (fun tv nv wr=>∃(K':Know) (t:Bs) (s:BSt) (c:Int) (ch:List Int) (ln:Nat),tv=Z (bb t)∧nv=I O ln∧Hid (K'.has K)∧Hid (Upto text t s c ch ln)∧Hid (MemS rd s c ch W0 wr K' (.raw sb #[Ja none 0 0,I O 0,Ja none 0 0] 25::L))) (fun _ nv _=>text.length+2 - (intOf nv).toNat)
 case atStart=>exact⟨K,text,.zero,-1,[],1,rfl,by rfl,hQd (Know.has_refl _),hQd ⟨rfl,dD,by unfold Rn;decide,(fun v hv=>by cases hv),trivial,Ji _,Ji _,Ji _,Jo _,oM,rfl⟩,hQd ⟨Ja none 0 0,Ja none 0 0,Ja none 0 0,none,0,(((H.out.nilRow 30 12).nilRow 54 7).nilRow 73 3).p3.p3.p3.p3 |>fun h=>by first|exact h|exact(((H.out.nilRow 73 3).p1.nilRow 54 7).p1.nilRow 30 12).p1,trivial,fun w F hh=>⟨none,0,rfl,fun h0=>absurd h0 (Nat.lt_irrefl 0)⟩⟩⟩
 case round=>
  obtain⟨K',t,s,c,ch,ln,rfl,rfl,HKK,HU,HMS⟩:=hrel;clear H;obtain⟨vB,vR,vH,q,cap,hst,hs,hf⟩:=HMS.out;have HS:=hQd hs;have HF:=hQd hf;have HLIB2:=hQd (Know.has_trans HKK.out HLIB.out);have HTL:=hQd (show t.length≤1000000 by have h4:=HU.out.len;omega);clear hs hf HMS
  by_cases ht:t=[]
  ·subst ht;obtain⟨qv,cv,hv⟩:=hst.p1.rowAny;subst hv;have H:=hQd hst;obtain⟨d0,d1,d2⟩:=uR3 ((hst));simp at d0 d1 d2;obtain⟨e0,e1,e2⟩:=uR3 ((hst.p4));simp at e0 e1 e2;obtain⟨r0,r1,r2⟩:=uS3 ((hst.p4));clear hst;go_wp2_with fail;have hz:St W0 _ K' (.raw sb #[Ja qv s.n cv,I O c,Ja q ch.length cap] 25::_):=((H.out.p4.rawSet 0 (Ja qv s.n cv)).rawSet 1 (I O c)).rawSet 2 (Ja q ch.length cap);refine bodyPost_ret (zBe rfl _ _ sb [Ja qv s.n cv,I O c,Ja q ch.length cap] _ rfl (zCc hz) Tryz.underlying25 rfl kR) rfl ?_;obtain⟨K2,hk2,hc2,h2⟩:=zS6 HS.out hz.drop;obtain⟨K3,hk3,hb3,h3⟩:=shutB h2.drop hc2;refine .inl ⟨by rw[←HU.out.rest];rfl,K3,s.close vR vH,c,ch,Ja qv s.n cv,q,cap,rfl,Know.has_trans hk3 (Know.has_trans hk2 HKK.out),hb3,Know.has_trans hk3 (Know.has_trans hk2 HF.out),?_,HU.out.cut,HU.out.cutR,HU.out.chR,zI3 s vR vH HU.out.fine,h3⟩;rw[zLz,←HU.out.txt];simp[txtS]
  ·have t1:(t==([]:Bs))=false:=by rw[beq_eq_false_iff_ne];exact ht
   have t2:(([]:Bs)==t)=false:=by rw[beq_eq_false_iff_ne];exact fun h=>ht h.symm
   have t3:(t !=([]:Bs))=true:=by simp[bne,t1]
   have HB:=hQd (show ln≤900001∧0<ln by have h4:=HU.out.len;have h5:=HU.out.one;omega);have hlni:(ln:Int)≤900001:=by have:=HB.out;omega
   rcases zRc 10 t with ⟨hp,hcut⟩|⟨i,hi,hp,hcut⟩
   ·have HR:=hQd (show zCm 0 0 (-1) [] 1 (zAv 10 text)=ln by rw[←HU.out.rest,hp];exact if_neg ht);obtain⟨line,hline⟩:=eX t;obtain⟨rest,hrest⟩:∃rest,rest=([]:Bs):=⟨_,rfl⟩;have HCUT:=hQd (show Lib.cut t [10]=(line,rest,false) by rw[hcut,hrest,←hline]);have H:=hQd hst;clear hst hp hcut hline hrest ht;go_wp2_with (go_at_call 80;(try clear z0 z1 z2 y0 y1 y2);(with_reducible refine(zJk t line rest false HCUT.out HTL.out HLIB2.out H.out).mono ?_);rintro e_ wn ⟨rfl,h⟩;have h:=zAF h.drop;obtain⟨y0,y1,y2⟩:=uR3 ((h));simp at y0 y1 y2;obtain⟨r0,r1,r2⟩:=uS3 ((h));replace H:=hQd h;clear h);have hz:St W0 _ _ (.raw sb #[Ja none 0 0,I O 0,Ja none 0 0] 25::_):=((H.out.rawSet 0 (Ja none 0 0)).rawSet 1 (I O 0)).rawSet 2 (Ja none 0 0);refine bodyPost_ret (zBe rfl _ _ sb [Ja none 0 0,I O 0,Ja none 0 0] _ rfl (zCc hz) Tryz.underlying25 rfl kR) rfl ?_;exact .inr ⟨ln,K',HR.out,HB.out.2,HB.out.1,rfl,HKK.out,hz.drop⟩
   ·obtain⟨line,hline⟩:=eX (t.take i);obtain⟨rest,hrest⟩:=eX (t.drop (i+1));have HCUT:=hQd (show Lib.cut t [10]=(line,rest,true) by rw[hcut,hline,hrest]);obtain⟨w0,r,hw0⟩:=zCe 32 line;obtain⟨nw,hnw⟩:=eX ((w0::r).length);have HNW:=hQd (show(w0::r).length=nw from hnw);have HNW2:=hQd (show nw=(w0::r).length from hnw.symm);have HWO:=hQd (show zDw line=(w0::r).map bb by rw[zI9,hw0]);have HLL:=hQd (show line.length≤1000000 by rw[←hline];simp;have:=HTL.out;omega);have HWX:=hQd (show ∀y∈w0::r,y.length≤1000000 from fun y hy=>by have h9:=(zFC 32 line).2 y (by rw[hw0];exact hy);have:=HLL.out;omega);have HWL:=hQd (show(w0::r).length≤1000000 by have h9:=(zFC 32 line).1;rw[hw0]at h9;have h8:line.length≤900000:=(by rw[←hline];simp;have:=HU.out.len;omega);omega);have HBD:=hQd (show s.n≤1000000∧s.m≤1000000∧s.p≤1000000 from by have h1:=HU.out.n;have h2:=HU.out.m;have h3:=HU.out.p;have h4:=HU.out.len;omega);have HLN:=hQd (show ln≤900001 by have h4:=HU.out.len;omega);have H:=hQd hst;clear hst hcut hnw
    cases hno:zBd s.n s.m c ch (w0::r)with
    |none=>
     have HNO:=hQd hno
     have HR:=hQd (show zCm 0 0 (-1) [] 1 (zAv 10 text)=ln by
      rw[←HU.out.rest,hp];obtain⟨q9,r9,e9⟩:=zCe 10 (t.drop (i+1));rw[e9]
      exact zQr _ _ _ _ _ _ _ _ (by rw[hline,hw0];exact hno))
     clear hno hp hline hrest hw0 ht hi
     go_wp2_with (first
  |(go_at_call 80;(try clear z0 z1 z2 y0 y1 y2);(with_reducible refine(zJk t line rest true HCUT.out HTL.out HLIB2.out H.out).zM ?_);clear H;intro wn H)
  |(go_at_call 82;(with_reducible refine(zGM line (w0::r) nw HNW.out HWO.out HLL.out HLIB2.out H.out).mono ?_);rintro e_ wn ⟨wb,rfl,h⟩;have h:=h.strs;have HKW:=hQd (Know.has_right (a:=K') (Know.has_refl (Know.strw wb 0 (w0::r))));have HLIB3:=hQd (Know.has_left (b:=Know.strw wb 0 (w0::r)) HLIB2.out);have HM:=hQd (show MemS rd s c ch W0 wn (K'.and (Know.strw wb 0 (w0::r))) (.raw sb #[Ja none 0 0,I O 0,Ja none 0 0] 25::L)from⟨vB,vR,vH,q,cap,h,HS.out.mono (Know.has_left (Know.has_refl _)),Know.has_left HF.out⟩);clear h H)
  |(go_at_call 81;(with_reducible refine(zOx rd wb nw s c ch w0 r HNW2.out HWX.out HWL.out HBD.out HNO.out HLIB3.out HKW.out HM.out).mono ?_);rintro e_ wn ⟨K2,rfl,hk2,h⟩;have HK2:=hQd hk2;clear hk2;obtain⟨y0,y1,y2⟩:=uR3 ((h));simp at y0 y1 y2;obtain⟨r0,r1,r2⟩:=uS3 ((h));replace H:=hQd h;clear h))
     have hz:St W0 _ _ (.raw sb #[Ja none 0 0,I O 0,Ja none 0 0] 25::_):=((H.out.rawSet 0 (Ja none 0 0)).rawSet 1 (I O 0)).rawSet 2 (Ja none 0 0);refine bodyPost_ret (zBe rfl _ _ sb [Ja none 0 0,I O 0,Ja none 0 0] _ rfl (zCc hz) Tryz.underlying25 rfl kR) rfl ?_;exact .inr ⟨ln,K2,HR.out,HB.out.2,HB.out.1,rfl,Know.has_trans HK2.out (Know.has_left HKK.out),hz.drop⟩
    |some k=>
     have HNO:=hQd hno;have HNX:=hQd (fun vR vH=>HU.out.next hi hp (by rw[hline,hw0];exact hno) (zQp hi hp) vR vH);rw[hrest]at HNX;clear hno hp hline hrest hw0 ht hi
     go_wp2_with (first
  |(go_at_call 80;(try clear z0 z1 z2 y0 y1 y2);(with_reducible refine(zJk t line rest true HCUT.out HTL.out HLIB2.out H.out).zM ?_);clear H;intro wn H)
  |(go_at_call 82;(with_reducible refine(zGM line (w0::r) nw HNW.out HWO.out HLL.out HLIB2.out H.out).mono ?_);rintro e_ wn ⟨wb,rfl,h⟩;have h:=h.strs;have HKW:=hQd (Know.has_right (a:=K') (Know.has_refl (Know.strw wb 0 (w0::r))));have HLIB3:=hQd (Know.has_left (b:=Know.strw wb 0 (w0::r)) HLIB2.out);have HM:=hQd (show MemS rd s c ch W0 wn (K'.and (Know.strw wb 0 (w0::r))) (.raw sb #[Ja none 0 0,I O 0,Ja none 0 0] 25::L)from⟨vB,vR,vH,q,cap,h,HS.out.mono (Know.has_left (Know.has_refl _)),Know.has_left HF.out⟩);clear h H)
  |(go_at_call 81;(with_reducible refine(zMn rd wb nw s c ch w0 r k HNW2.out HWX.out HWL.out HBD.out HNO.out HLIB3.out HKW.out HM.out).mono ?_);rintro e_ wn ⟨K2,vR2,vH2,rfl,hk2,hm2⟩;have HK2:=hQd hk2;have HM2:=hQd hm2;clear hk2 hm2))
     go_roundw
     case rel=>exact⟨K2,rest,_,_,_,ln+1,rfl,by go_num,hQd (Know.has_trans HK2.out (Know.has_left HKK.out)),hQd (HNX.out vR2 vH2),HM2⟩
     case measure=>have:=HB.out;have:=(HNX.out vR2 vH2).len;first|(simp[intOf];done)|(simp[intOf];omega)
variable {W0 w:World}{K:Know}{L:List Res}
theorem zSh(hlib:K.has Know.lib)(h:St W0 w K L):
 Calls Jd 41 #[Z ⟨#[]⟩] w fun en w'=>en=Jb (.tuple #[.agg #[Ja none 0 0,I O (-1),Ja none 0 0],I O 0])∧St W0 w' K L:=by
 obtain⟨sb,hsb⟩:=eX w.heap.size;obtain⟨rd,hrd⟩:=eX (sb+1);have g1:=(h.allocRaw #[Ja none 0 0,I O 0,Ja none 0 0] 25).allocRaw #[Ja none 0 0,I O (-1),Ja none 0 0] 122;simp only[World.size_alloc,hsb,hrd]at g1;have H:=hQd g1;have HLIB:=hQd hlib;clear h g1 hlib;go_enter Tryz.func41,Tryz.ntmps41;go_wp2_with fail;go_loopw [0,5] (fun tv nv wr=>tv=Z (bb [])∧nv=I O 1∧St W0 wr K (.raw rd #[Ja none 0 0,I O (-1),Ja none 0 0] 122::.raw sb #[Ja none 0 0,I O 0,Ja none 0 0] 25::L)) (fun _ _ _=>0)
 case atStart=>exact⟨rfl,rfl,H.out⟩
 case round=>
  obtain⟨rfl,rfl,hst⟩:=hrel;clear H;have H:=hQd hst;obtain⟨d0,d1,d2⟩:=uR3 ((hst));simp at d0 d1 d2;obtain⟨e0,e1,e2⟩:=uR3 ((hst.p1));simp at e0 e1 e2;obtain⟨r0,r1,r2⟩:=uS3 ((hst.p1));clear hst;go_wp2_with fail;have hz:St W0 _ K (.raw sb #[Ja none 0 0,I O (-1),Ja none 0 0] 25::_):=((H.out.p1.rawSet 0 (Ja none 0 0)).rawSet 1 (I O (-1))).rawSet 2 (Ja none 0 0);refine bodyPost_ret (zBe rfl _ _ sb [Ja none 0 0,I O (-1),Ja none 0 0] _ rfl (zCc hz) Tryz.underlying25 rfl kR) rfl ?_;exact⟨rfl,hz.drop.drop⟩
theorem zSg(hlib:K.has Know.lib)(h:St W0 w K L):
 Calls Jd 41 #[Z ⟨#[120,10]⟩] w fun en w'=>en=Jb (.tuple #[.agg #[Ja none 0 0,I O 0,Ja none 0 0],I O 1])∧St W0 w' K L:=by
 obtain⟨sb,hsb⟩:=eX w.heap.size;obtain⟨rd,hrd⟩:=eX (sb+1);have g1:=(h.allocRaw #[Ja none 0 0,I O 0,Ja none 0 0] 25).allocRaw #[Ja none 0 0,I O (-1),Ja none 0 0] 122;simp only[World.size_alloc,hsb,hrd]at g1;have H:=hQd g1;have HLIB:=hQd hlib;clear h g1 hlib;go_enter Tryz.func41,Tryz.ntmps41;go_wp2_with fail;go_loopw [0,5] (fun tv nv wr=>tv=Z (bb [120,10])∧nv=I O 1∧St W0 wr K (.raw rd #[Ja none 0 0,I O (-1),Ja none 0 0] 122::.raw sb #[Ja none 0 0,I O 0,Ja none 0 0] 25::L)) (fun _ _ _=>0)
 case atStart=>exact⟨rfl,rfl,H.out⟩
 case round=>
  obtain⟨rfl,rfl,hst⟩:=hrel;clear H;have H:=hQd hst;clear hst
  go_wp2_with (first
  |(go_at_call 80;(with_reducible refine(zJk [120,10] [120] [] true kcx dD HLIB.out H.out).zM ?_);clear H;intro wn H)
  |(go_at_call 82;(with_reducible refine(zGM [120] [[120]] 1 rfl kwx dD HLIB.out H.out).mono ?_);rintro e_ wn ⟨wb,rfl,h⟩;have h:=h.strs;have HKW:=hQd (Know.has_right (a:=K) (Know.has_refl (Know.strw wb 0 [[120]])));replace H:=hQd h;clear h)
  |(go_at_call 81;(with_reducible refine(zKC rd wb 0 none (Ja none 0 0) (-1) [120] [] rfl dD dD dD dD dD HKW.out H.out).mono ?_);rintro e_ wn ⟨rfl,h⟩;obtain⟨e0,e1,e2⟩:=uR3 ((h));simp at e0 e1 e2;obtain⟨r0,r1,r2⟩:=uS3 ((h));replace H:=hQd h;clear h))
  have hz:St W0 _ _ (.raw sb #[Ja none 0 0,I O 0,Ja none 0 0] 25::_):=((H.out.rawSet 0 (Ja none 0 0)).rawSet 1 (I O 0)).rawSet 2 (Ja none 0 0);refine bodyPost_ret (zBe rfl _ _ sb [Ja none 0 0,I O 0,Ja none 0 0] _ rfl (zCc hz) Tryz.underlying25 rfl kR) rfl ?_;exact⟨rfl,hz.drop.know (Know.has_left (Know.has_refl _))⟩
theorem zRI:ToldOk [] [116,111,116,97,108,32,48,32,48,10,118,97,108,105,100,32,48,32,99,108,101,97,110,10] [] 0 [] 0 0:=by
 refine⟨zMD,rfl,dD,(fun b hb=>by cases hb),dD,by unfold Rn;decide,by unfold Rn;decide,?_⟩
 decide+kernel
theorem zSL(h:St W0 w K L):Calls Jd 19 #[Ja none 0 0] w fun en w'=>en=Jb (.tuple #[Z ⟨#[]⟩,I O 0])∧St W0 w' K L:=zM1 [] none 0 [] rfl (fun x hx=>by cases hx) dD (zLO _) h
theorem zO5(h:St W0 w K L):Calls Jd 39 #[Z ⟨#[]⟩,Ja none 0 0] w fun en w'=>∃(q2:Option Addr) (cap2:Nat),en=Jb (Ja q2 1 cap2)∧St W0 w' (K.and (Know.strs (Ja q2 1 cap2) [[]])) L:=zEG [] [] dD (fun x hx=>by cases hx) dD none 0 (zQQ _) h
theorem zPn(q:Option Addr)(cap:Nat)(hlib:K.has Know.lib)(hk:K.has (Know.strs (Ja q 1 cap) [[]]))(h:St W0 w K L):Calls Jd 38 #[Ja q 1 cap] w fun en w'=>en=Jb (Z (bb [116,111,116,97,108,32,48,32,48,10,118,97,108,105,100,32,48,32,99,108,101,97,110,10]))∧St W0 w' K L:=zGp zRI [[]] rfl q cap dD hlib hk h
theorem zSd(hlib:K.has Know.lib)(h:St W0 w K L):
 Calls Jd 12 #[.agg #[Ja none 0 0,I O (-1),Ja none 0 0]] w fun en w'=>en=Jb (Z (bb [116,111,116,97,108,32,48,32,48,10,118,97,108,105,100,32,48,32,99,108,101,97,110,10]))∧St W0 w' K L:=by
 obtain⟨rb,hrb⟩:=eX w.heap.size;have g1:=h.allocRaw #[Ja none 0 0,I O (-1),Ja none 0 0] 25;rw[hrb]at g1;obtain⟨z0,z1,z2⟩:=uR3 ((g1));simp at z0 z1 z2;have H:=hQd g1;have HLIB:=hQd hlib;clear h g1 hlib;go_enter Tryz.func12,Tryz.ntmps12;go_wp2_with fail;clear z0 z1 z2;go_loopw [11] (fun iv wr=>iv=I O 0∧St W0 wr K (.raw rb #[Ja none 0 0,I O (-1),Ja none 0 0] 25::L)) (fun _ _=>0)
 case atStart=>exact⟨rfl,H.out⟩
 case round=>
  obtain⟨rfl,hst⟩:=hrel;clear H;have H:=hQd hst;obtain⟨z0,z1,z2⟩:=uR3 ((hst));simp at z0 z1 z2;clear hst
  go_wp2_with (first
  |(go_at_call 19;(with_reducible refine(zSL H.out).mono ?_);rintro e_ wn ⟨rfl,h⟩;obtain⟨z0,z1,z2⟩:=uR3 ((h));simp at z0 z1 z2;replace H:=hQd h;clear h)
  |(go_at_call 39;(with_reducible refine(zO5 H.out).mono ?_);rintro e_ wn ⟨q2,cap2,rfl,h⟩;replace H:=hQd h;clear h)
  |(go_at_call 38;(with_reducible refine(zPn q2 cap2 (Know.has_left HLIB.out) (Know.has_right (Know.has_refl _)) H.out).zM ?_);clear H;intro wn H))
  exact zq26
theorem run_e0(hlib:K.has Know.lib)(h:St W0 w K L):
 Calls Jd 14 #[Z ⟨#[]⟩] w fun en w'=>en=Jb (Z ⟨#[116,111,116,97,108,32,48,32,48,10,118,97,108,105,100,32,48,32,99,108,101,97,110,10]⟩)∧St W0 w' K L:=by
 have H:=hQd h;have HLIB:=hQd hlib;clear h hlib;go_enter Tryz.func14,Tryz.ntmps14
 go_wp2_with (first
  |(go_at_call 41;(with_reducible refine(zSh HLIB.out H.out).mono ?_);rintro e_ wn ⟨rfl,h⟩;obtain⟨xb,hxb⟩:=eX wn.heap.size;have h:=h.allocRaw #[Ja none 0 0,I O (-1),Ja none 0 0] 25;rw[hxb]at h;obtain⟨x0,x1,x2⟩:=uR3 ((h));simp at x0 x1 x2;replace H:=hQd h;clear h)
  |(go_at_call 12;(with_reducible refine(zSd HLIB.out H.out).zM ?_);clear H;intro wn H))
 go_ret;exact⟨rfl,H.out.drop⟩
theorem run_e1(hlib:K.has Know.lib)(h:St W0 w K L):
 Calls Jd 14 #[Z ⟨#[120,10]⟩] w fun en w'=>en=Jb (Z ⟨#[108,105,110,101,32,49,10]⟩)∧St W0 w' K L:=by
 have H:=hQd h;have HLIB:=hQd hlib;have HR1:=hQd (show Rn 1 by unfold Rn;decide);have HD:=hQd (show numW 1=[49] by decide+kernel);clear h hlib;go_enter Tryz.func14,Tryz.ntmps14
 go_wp2_with (first
  |(go_at_call 41;(with_reducible refine(zSg HLIB.out H.out).mono ?_);rintro e_ wn ⟨rfl,h⟩;obtain⟨xb,hxb⟩:=eX wn.heap.size;have h:=h.allocRaw #[Ja none 0 0,I O 0,Ja none 0 0] 25;rw[hxb]at h;replace H:=hQd h;clear h)
  |(go_at_call 37;(with_reducible refine(zBL 1 HR1.out [49] HD.out HLIB.out H.out).zM ?_);clear H;intro wn H)
  |(go_at_call 36;have h0:=H.out.allocRaw #[Z ⟨#[108,105,110,101]⟩,Z (bb [49])] 9;(with_reducible refine(zDc [[108,105,110,101],[49]] [108,105,110,101,32,49] [108,105,110,101,32,49,10] _ 2 _ rfl rfl dD rfl rfl dD h0).zM ?_);clear H;intro wn H))
 go_ret;exact⟨rfl,H.out.drop⟩
theorem raw_0(v:Value)(h:St W0 w K L):
 Calls Jd 16 #[Z ⟨#[48]⟩,v] w fun en w'=>en=Jb (Z ⟨#[110,111,110,101,10]⟩)∧St W0 w' K L:=zPS [48] [] khx dD v h
theorem zNg(hlib:K.has Know.lib)(h:St W0 w K L):
 Calls Jd 6 #[] w fun en w'=>en=Jb (U true)∧St W0 w' K L:=by
 have H:=hQd h;have HLIB:=hQd hlib;clear h hlib;go_enter Tryz.func6,Tryz.ntmps6
 go_wp2_with (first
  |(go_at_call 14;(with_reducible refine(run_e0 HLIB.out H.out).zM ?_);clear H;intro wn H)
  |(go_at_call 14;(with_reducible refine(run_e1 HLIB.out H.out).zM ?_);clear H;intro wn H)
  |(go_at_call 16;(with_reducible refine(raw_0 (Ja none 0 0) H.out).zM ?_);clear H;intro wn H))
 go_ret;exact⟨rfl,H.out⟩
def okR (r:RecS):Prop:=oddB r.key=false∧oddB r.val=false∧∀z∈r.hdrs,oddB z.val=false
def okX (x:BtR):Prop:=∀y∈x.l,okR y.1
theorem zTU{l:List BtR}{c:Int}(hc: -1≤c)(h:∀x∈l,okX x):mayP l c:=⟨hc,fun x hx y hy=>h x hx y hy⟩
theorem zMy{l:List BtR}{c:Int}{x:BtR}(hx:x∈l){y:RecS×Value}(hy:y∈x.l)(hn:¬okR y.1):¬mayP l c:=fun h=>hn (h.2 x hx y hy)
theorem zJd{α:Type}{P:α→Prop}{l:List α}{k:Nat}(hk:k<l.length){x:α}(hx:l[k]=x)(h:∀y∈l.take k,P y)(hp:P x):∀y∈l.take (k+1),P y:=by
 intro y hy;rw[List.take_succ_eq_append_getElem hk,hx]at hy
 rcases List.mem_append.1 hy with hy|hy
 ·exact h y hy
 ·rw[List.mem_singleton.1 hy];exact hp
theorem zJc{α:Type}{P:α→Prop}{l:List α}{k:Nat}(hk:¬k<l.length)(h:∀y∈l.take k,P y):∀y∈l,P y:=by
 rw[Jj oM]at h;exact h
theorem zF3{l:List BtR}{ch:List Int}(h:zCa l ch=true):l.length≤8∧ch.length≤200∧∀x∈l,x.l.length≤12∧∀y∈x.l,y.1.hdrs.length≤6:=by
 unfold zCa at h;simp only[Bool.and_eq_true,decide_eq_true_eq,List.all_eq_true]at h;obtain⟨h1,h2,h3⟩:=h;refine⟨h1,h2,fun x hx=> ?_⟩;have h4:=h3 x hx;unfold zBb at h4;simp only[Bool.and_eq_true,decide_eq_true_eq,Jn]at h4;refine⟨h4.1,fun y hy=> ?_⟩;have h5:=zDj _ h4.2 y.1 (List.mem_map.2 ⟨y,hy,rfl⟩);unfold zBt at h5;simp only[Bool.and_eq_true,decide_eq_true_eq]at h5;exact h5.2.1
theorem zIN(l:List BtR)(c:Int)(ch:List Int)(text:Bs)(ht:l.flatMap btT++(cutT c++chT ch)=text)(hl:text.length≤900000)(hc: -1≤c)(hcr:Rn c)(hchr:∀v∈ch,Rn v)(hf:∀x∈l,zCN x){W0 w:World}{K:Know}{L:List Res}(hlib:K.has Know.lib)(h:St W0 w K L):
 Calls Jd 41 #[Z (bb text)] w fun en w'=>∃(K':Know) (l':List BtR) (q2 q:Option Addr) (b2 cap:Nat),en=Jb (.tuple #[.agg #[Ja q2 l'.length b2,I O c,Ja q ch.length cap],I O 0])∧K'.has K∧K'.has (Know.btrs (Ja q2 l'.length b2) l')∧K'.has (Know.flat RInt (Ja q ch.length cap) 1 ch)∧l'.map BtR.val=l.map BtR.val∧St W0 w' K' L:=by
 have hg:=zL3 l c ch text ht hc hcr hchr hf;refine(zQq text hl hlib h).mono ?_;rintro en w' (⟨_,K',l',c',ch',vB,q,cap,rfl,h1,h2,h3,h4,h5,h6,h7,h8,h9⟩|⟨bad,K',h1,h2,_⟩)
 ·obtain⟨e1,e2,e3⟩:=zN6 l l' c c' ch ch' text ht hc hcr hchr hf h4 h5 h6 h7 h8;subst e2 e3;obtain⟨q2,b2,hv⟩:=zEy (zCF h2) h9;subst hv;exact⟨K',l',q2,q,b2,cap,rfl,h1,h2,h3,e1,h9⟩
 ·exact absurd (h1.symm.trans hg) oM
set_option maxHeartbeats 16000000
variable {W0 w:World}{K:Know}{L:List Res}
theorem zEq(nl:Bool)(d:Bs)(o:Bool)(ho:oddB ⟨nl,d⟩=o)(h:St W0 w K L):
 Calls Jd 40 #[.agg #[U nl,Z (bb d)]] w fun en w'=>en=Jb (U o)∧St W0 w' K L:=by
 subst ho;obtain⟨xb,hxb⟩:=eX w.heap.size;have g1:=h.allocRaw #[U nl,Z (bb d)] 51;rw[hxb]at g1;obtain⟨c0,c1⟩:=uR2 ((g1));simp at c0 c1;have H:=hQd g1;clear h g1
 cases nl
 ·go_enter Tryz.func40,Tryz.ntmps40;go_wp2_with fail;go_ret;exact⟨rfl,H.out.drop⟩
 ·by_cases hd:d=[]
  ·subst hd;go_enter Tryz.func40,Tryz.ntmps40;go_wp2_with fail;go_ret;exact⟨rfl,H.out.drop⟩
  ·have t1:(d==([]:Bs))=false:=by rw[beq_eq_false_iff_ne];exact hd
   have t2:(([]:Bs)==d)=false:=by rw[beq_eq_false_iff_ne];exact fun h=>hd h.symm
   have t3:(d !=([]:Bs))=true:=by simp[bne,t1]
   have HO:=hQd (show oddB ⟨true,d⟩=true by unfold oddB;cases d with|nil=>exact absurd rfl hd|cons _ _=>rfl);clear hd;go_enter Tryz.func40,Tryz.ntmps40;go_wp2_with fail;go_ret;exact⟨by rw[HO.out];rfl,H.out.drop⟩
theorem zTm(vB:Value)(c:Int)(q:Option Addr)(cap:Nat)(ch:List Int)(l:List BtR)(hll:(l.length:Int)≤1000000)(hrl:∀x∈l,(x.l.length:Int)≤1000000)(hhl:∀x∈l,∀y∈x.l,(y.1.hdrs.length:Int)≤1000000)(hkb:K.has (Know.btrs vB l))(h:St W0 w K L):
   Calls Jd 13 #[.agg #[vB,I O c,Ja q ch.length cap]] w fun en w'=>∃b,en=Jb (U b)∧(b=true↔mayP l c)∧St W0 w' K L:=by
 obtain⟨qb,bcap,hvB⟩:=zEy (zCF hkb) h;subst hvB;obtain⟨rb,hrb⟩:=eX w.heap.size;have g1:=h.allocRaw #[Ja qb l.length bcap,I O c,Ja q ch.length cap] 37;rw[hrb]at g1;obtain⟨z0,z1,z2⟩:=uR3 ((g1));simp at z0 z1 z2;have H:=hQd g1;have HKB:=hQd hkb;have HLB:=hQd hll;have HRL:=hQd hrl;have HHL0:=hQd hhl
 by_cases hc1:c< -1
 · have hc2:decide (c< -1)=true:=decide_eq_true hc1;have HNM:=hQd (show ¬mayP l c from fun h=>by have:=h.1;omega);clear h g1 hkb hll hrl hhl;go_enter Tryz.func13,Tryz.ntmps13;go_wp2_with fail;go_ret;exact⟨false,rfl,⟨fun h=>(by cases h),fun h=>absurd h HNM.out⟩,H.out.drop⟩
 have HC:=hQd (show -1≤c by omega);have hc2:decide (c< -1)=false:=decide_eq_false hc1;clear h g1 hkb hll hrl hhl;go_enter Tryz.func13,Tryz.ntmps13;go_wp2_with fail;clear z0 z1 z2;go_loopw [3] (fun iv wr=>∃(k:Nat),k≤l.length∧iv=I O k∧Hid (∀x∈l.take k,okX x)∧St W0 wr K (.raw rb #[Ja qb l.length bcap,I O c,Ja q ch.length cap] 37::L)) (fun iv _=>l.length - (intOf iv).toNat)
 case atStart=>exact⟨0,Ji _,rfl,hQd (fun z hz=>by cases hz),H.out⟩
 case round=>
   obtain⟨k,hk',rfl,HF1,hst⟩:=hrel;clear H;have H:=hQd hst;clear hst;obtain⟨z0,z1,z2⟩:=uR3 ((H.out));simp at z0 z1 z2;have hkbi:(l.length:Int)≤1000000:=HLB.out
   by_cases hk:k<l.length
   · obtain⟨bk,off,hqq⟩:=zLk (zCF HKB.out) H.out oM;have HKB':=HKB.out;rw[hqq]at HKB';have HKB2:=hQd HKB';have HQB:=hQd hqq;obtain⟨x,hx⟩:=eX (l[k]);have hmem:x∈l:=hx ▸ Jp hk;have HMX:=hQd hmem;have hXK0:=zE8 HKB.out hmem;obtain⟨xq,xcap,hxv⟩:=zC0 hXK0 H.out;rw[hxv]at hXK0;have HXV:=hQd hxv;have HXX:=hQd hx;have HXK:=hQd hXK0;have HXB:=hQd (HRL.out x hmem);have HHL:=hQd (HHL0.out x hmem);have hki:(k:Int)<(l.length:Int):=by omega
     clear hx hmem hXK0 hxv HKB' hqq;go_wp2_with fail;clear z0 z1 z2;go_loopw [4] (fun iv wr=>∃(k3:Nat),k3≤x.l.length∧iv=I O k3∧Hid (∀y∈x.l.take k3,okR y.1)∧St W0 wr K (.raw rb #[Ja qb l.length bcap,I O c,Ja q ch.length cap] 37::L)) (fun iv _=>x.l.length - (intOf iv).toNat)
     case atStart=>exact⟨0,Ji _,rfl,hQd (fun z hz=>by cases hz),H.out⟩
     case round=>
      obtain⟨k3,hk3',rfl,HF3,hst3⟩:=hrel;clear H;have H:=hQd hst3;clear hst3;have z0:=H.out.rawCell 0;simp at z0;rw[HQB.out]at z0;have c11:=(zHU HKB2.out H.out k hk _ HXX.out).2.2.2.2.2.2.2.2.2.2.2;rw[HXV.out]at c11;have hkb3:(x.l.length:Int)≤1000000:=HXB.out
      by_cases hk3:k3<x.l.length
      · obtain⟨eb,eo,hxq⟩:=zBH HXK.out H.out oM;rw[hxq]at c11;have HXK':=HXK.out;rw[hxq]at HXK';obtain⟨⟨r,vh⟩,hy⟩:∃y,x.l[k3]=y:=⟨_,rfl⟩;have hmem:(r,vh)∈x.l:=hy ▸ Jp hk3;have HMR:=hQd hmem;have hHK0:=zAX HXK.out hmem;obtain⟨hq,hcap,hvh⟩:=zEy hHK0 H.out;simp only at hvh;subst hvh;have cc:=zAQ HXK' H.out k3 hk3 _ hy;simp only[←Jm]at cc;obtain⟨c0,c1,c2,c3,c4,c5,c6⟩:=cc;have HHK:=hQd (show K.has (Know.flat RHdr (Ja hq r.hdrs.length hcap) 3 r.hdrs)from hHK0);have HHB:=hQd (show(r.hdrs.length:Int)≤1000000 from HHL.out _ hmem);have HY:=hQd hy;obtain⟨t9,ht9⟩:=eX wr.heap.size;have g9:=H.out.allocRaw #[I O r.time,I O r.off,U r.key.null,Z (bb r.key.data),U r.val.null,Z (bb r.val.data),Ja hq r.hdrs.length hcap] 54;rw[ht9]at g9;have hk3i:(k3:Int)<(x.l.length:Int):=by omega
        have t1:True:=trivial;obtain⟨y0,y1,y2,y3,y4,y5,y6⟩:=uR7 g9;simp at y0 y1 y2 y3 y4 y5 y6;clear H hxq HXK' hy hmem hHK0;have H:=hQd g9;clear g9
        cases ho1:oddB r.key with
        |true=>
         have HO1:=hQd (show oddB ⟨r.key.null,r.key.data⟩=true from ho1);have HNM:=hQd (show ¬mayP l c from zMy HMX.out HMR.out (fun h=>by have h9:=h.1;rw[ho1]at h9;cases h9));clear ho1;go_wp2_with (go_at_call 40;have _t:=t1;clear _t;(with_reducible refine(zEq r.key.null r.key.data true HO1.out H.out).mono ?_);rintro e_ wn ⟨rfl,h⟩;obtain⟨y0,y1,y2,y3,y4,y5,y6⟩:=uR7 h;simp at y0 y1 y2 y3 y4 y5 y6;replace H:=hQd h;clear h;clear t1);go_ret;exact⟨false,rfl,⟨fun h=>(by cases h),fun h=>absurd h HNM.out⟩,H.out.drop.drop⟩
        |false=>
         have HO1:=hQd (show oddB ⟨r.key.null,r.key.data⟩=false from ho1);clear ho1
         cases ho2:oddB r.val with
         |true=>
          have HO2:=hQd (show oddB ⟨r.val.null,r.val.data⟩=true from ho2);have HNM:=hQd (show ¬mayP l c from zMy HMX.out HMR.out (fun h=>by have h9:=h.2.1;rw[ho2]at h9;cases h9));clear ho2
          go_wp2_with (first
        |(go_at_call 40;have _t:=t1;clear _t;(with_reducible refine(zEq r.key.null r.key.data false HO1.out H.out).mono ?_);rintro e_ wn ⟨rfl,h⟩;obtain⟨y0,y1,y2,y3,y4,y5,y6⟩:=uR7 h;simp at y0 y1 y2 y3 y4 y5 y6;replace H:=hQd h;clear h;clear t1)
        |(go_at_call 40;(with_reducible refine(zEq r.val.null r.val.data true HO2.out H.out).zM ?_);clear H;intro wn H))
          go_ret;exact⟨false,rfl,⟨fun h=>(by cases h),fun h=>absurd h HNM.out⟩,H.out.drop.drop⟩
         |false=>
          have HO2:=hQd (show oddB ⟨r.val.null,r.val.data⟩=false from ho2);clear ho2
          go_wp2_with (first
        |(go_at_call 40;have _t:=t1;clear _t;(with_reducible refine(zEq r.key.null r.key.data false HO1.out H.out).mono ?_);rintro e_ wn ⟨rfl,h⟩;obtain⟨y0,y1,y2,y3,y4,y5,y6⟩:=uR7 h;simp at y0 y1 y2 y3 y4 y5 y6;replace H:=hQd h;clear h;clear t1)
        |(go_at_call 40;(with_reducible refine(zEq r.val.null r.val.data false HO2.out H.out).zM ?_);clear H;intro wn H))
          clear y0 y1 y2 y3 y4 y5 y6 c0 c1 c2 c3 c4 c5 c6 c11 z0;go_loopw [6] (fun iv wr=>∃(k4:Nat),k4≤r.hdrs.length∧iv=I O k4∧Hid (∀z∈r.hdrs.take k4,oddB z.val=false)∧St W0 wr K (.raw t9 #[I O r.time,I O r.off,U r.key.null,Z (bb r.key.data),U r.val.null,Z (bb r.val.data),Ja hq r.hdrs.length hcap] 54::.raw rb #[Ja qb l.length bcap,I O c,Ja q ch.length cap] 37::L)) (fun iv _=>r.hdrs.length - (intOf iv).toNat)
          case atStart=>exact⟨0,Ji _,rfl,hQd (fun z hz=>by cases hz),H.out⟩
          case round=>
           obtain⟨k4,hk4',rfl,HF4,hst4⟩:=hrel;clear H;have H:=hQd hst4;clear hst4;have z6:=H.out.rawCell 6;simp at z6;have hkb4:(r.hdrs.length:Int)≤1000000:=HHB.out
           by_cases hk4:k4<r.hdrs.length
           · obtain⟨hb,ho,hhq⟩:=zLk HHK.out H.out oM;rw[hhq]at z6;have HHK':=HHK.out;rw[hhq]at HHK';obtain⟨z,hz⟩:=eX (r.hdrs[k4]);obtain⟨c0,c1,c2⟩:=zKB HHK' H.out k4 hk4 z hz;have hzm:z∈r.hdrs:=hz ▸ Jp hk4;have hk4i:(k4:Int)<(r.hdrs.length:Int):=by omega
             cases hod:oddB z.val with
             |true=>
              have HOD:=hQd (show oddB ⟨z.val.null,z.val.data⟩=true from hod);have HNM:=hQd (show ¬mayP l c from zMy HMX.out HMR.out (fun h=>by have h9:=h.2.2 z hzm;rw[hod]at h9;cases h9));clear hhq HHK' hz hod hzm;go_wp2_with (go_at_call 40;(with_reducible refine(zEq z.val.null z.val.data true HOD.out H.out).zM ?_);clear H;intro wn H);go_ret;exact⟨false,rfl,⟨fun h=>(by cases h),fun h=>absurd h HNM.out⟩,H.out.drop.drop⟩
             |false=>
              have HOD:=hQd (show oddB ⟨z.val.null,z.val.data⟩=false from hod);have HF5:=hQd (zJd (P:=fun z:HdrS=>oddB z.val=false) hk4 hz HF4.out hod);clear hhq HHK' hz hod hzm;go_wp2_with (go_at_call 40;(with_reducible refine(zEq z.val.null z.val.data false HOD.out H.out).zM ?_);clear H;intro wn H);go_roundw
              case rel=>exact⟨k4+1,hk4,by go_num,HF5,H.out⟩
              case measure=>first|(simp[intOf];done)|(simp[intOf];omega)
           · have hk4i:¬((k4:Int)<(r.hdrs.length:Int)):=by omega
             have HF5:=hQd (zJd (P:=fun y:RecS×Value=>okR y.1) hk3 HY.out HF3.out ⟨HO1.out,HO2.out,zJc (P:=fun z:HdrS=>oddB z.val=false) hk4 HF4.out⟩);go_wp2_with fail;go_roundw
             case rel=>exact⟨k3+1,hk3,by go_num,HF5,H.out.drop⟩
             case measure=>first|(simp[intOf];done)|(simp[intOf];omega)
      · have hk3i:¬((k3:Int)<(x.l.length:Int)):=by omega
        have HF5:=hQd (zJd (P:=okX) hk HXX.out HF1.out (zJc (P:=fun y:RecS×Value=>okR y.1) hk3 HF3.out));go_wp2_with fail;go_roundw
        case rel=>exact⟨k+1,hk,by go_num,HF5,H.out⟩
        case measure=>first|(simp[intOf];done)|(simp[intOf];omega)
   · have hki:¬((k:Int)<(l.length:Int)):=by omega
     have HM:=hQd (zTU HC.out (zJc (P:=okX) hk HF1.out));go_wp2_with fail;go_ret;exact .inr ⟨rfl,HM.out,H.out.drop⟩
theorem zPQ(b:Bool)(vB:Value)(c:Int)(q:Option Addr)(cap:Nat)(ch:List Int)(l:List BtR)(hb:b=true↔mayP l c)(hll:(l.length:Int)≤1000000)(hrl:∀x∈l,(x.l.length:Int)≤1000000)(hhl:∀x∈l,∀y∈x.l,(y.1.hdrs.length:Int)≤1000000)(hkb:K.has (Know.btrs vB l))(h:St W0 w K L):
 Calls Jd 13 #[.agg #[vB,I O c,Ja q ch.length cap]] w fun en w'=>en=Jb (U b)∧St W0 w' K L:=by
 refine(zTm vB c q cap ch l hll hrl hhl hkb h).mono ?_;rintro en w' ⟨b',rfl,hb',h⟩
 have e:b'=b:=by
  cases b<;>cases b'<;>first|rfl|exact absurd (hb.2 (hb'.1 rfl)) dD|exact absurd (hb'.2 (hb.1 rfl)) dD
 subst e;exact⟨rfl,h⟩
theorem zPO(vB:Value)(c:Int)(q:Option Addr)(cap:Nat)(ch:List Int)(l:List BtR)(hb:mayP l c)(hll:(l.length:Int)≤1000000)(hrl:∀x∈l,(x.l.length:Int)≤1000000)(hhl:∀x∈l,∀y∈x.l,(y.1.hdrs.length:Int)≤1000000)(hkb:K.has (Know.btrs vB l))(h:St W0 w K L):
 Calls Jd 13 #[.agg #[vB,I O c,Ja q ch.length cap]] w fun en w'=>en=Jb (U true)∧St W0 w' K L:=zPQ true vB c q cap ch l ⟨fun _=>hb,fun _=>rfl⟩ hll hrl hhl hkb h
theorem zPP(vB:Value)(c:Int)(q:Option Addr)(cap:Nat)(ch:List Int)(l:List BtR)(hb:¬mayP l c)(hll:(l.length:Int)≤1000000)(hrl:∀x∈l,(x.l.length:Int)≤1000000)(hhl:∀x∈l,∀y∈x.l,(y.1.hdrs.length:Int)≤1000000)(hkb:K.has (Know.btrs vB l))(h:St W0 w K L):
 Calls Jd 13 #[.agg #[vB,I O c,Ja q ch.length cap]] w fun en w'=>en=Jb (U false)∧St W0 w' K L:=zPQ false vB c q cap ch l ⟨fun h=>(by cases h),fun h=>absurd h hb⟩ hll hrl hhl hkb h
def sm11 (x:BtR):Bool:=zBb (x.l.map (·.1))
theorem zPv(l:List BtR)(ch:List Int)(h1:¬8<l.length)(h2:¬200<ch.length):zCa l ch=l.all sm11:=by
 unfold zCa;rw[decide_eq_true oM,decide_eq_true oM,Bool.true_and,Bool.true_and]
 rfl
theorem zN4(l:List BtR)(ch:List Int)(h1:8<l.length):zCa l ch=false:=by
 unfold zCa;rw[decide_eq_false oM,Bool.false_and]
theorem zN3(l:List BtR)(ch:List Int)(h1:200<ch.length):zCa l ch=false:=by
 unfold zCa;rw[show decide (ch.length≤200)=false from decide_eq_false oM,Bool.false_and,Bool.and_false]
theorem zOO(base leader:Int)(app txn ctl:Bool)(last first maxt prod epoch sq:Int)(l:List (RecS×Value))(q:Option Addr)(cap:Nat)(hr:zBb (l.map (·.1))=false)(hfit:FitW l)(hk:K.has (Know.recs (Ja q l.length cap) l))(h:St W0 w K L):
 Calls Jd 22 #[.agg #[I O base,I O leader,U app,U txn,U ctl,I O last,I O first,I O maxt,I O prod,I O epoch,I O sq,Ja q l.length cap]] w fun en w'=>en=Jb (I O 0)∧St W0 w' K L:=zLd base leader app txn ctl last first maxt prod epoch sq l q cap false hr hfit hk h
theorem zON(base leader:Int)(app txn ctl:Bool)(last first maxt prod epoch sq:Int)(l:List (RecS×Value))(q:Option Addr)(cap:Nat)(hr:zBb (l.map (·.1))=true)(hfit:FitW l)(hk:K.has (Know.recs (Ja q l.length cap) l))(h:St W0 w K L):
 Calls Jd 22 #[.agg #[I O base,I O leader,U app,U txn,U ctl,I O last,I O first,I O maxt,I O prod,I O epoch,I O sq,Ja q l.length cap]] w fun en w'=>en=Jb (I O 1)∧St W0 w' K L:=zLd base leader app txn ctl last first maxt prod epoch sq l q cap true hr hfit hk h
variable {W0 w:World}{K:Know}{L:List Res}
theorem zNm(qb:Option Addr)(bcap:Nat)(c:Int)(q:Option Addr)(cap:Nat)(ch:List Int)(l:List BtR)(r:Bool)(hr:zCa l ch=r)(hfit:∀x∈l,FitW x.l)(hkb:K.has (Know.btrs (Ja qb l.length bcap) l))(h:St W0 w K L):
 Calls Jd 7 #[.agg #[Ja qb l.length bcap,I O c,Ja q ch.length cap]] w fun en w'=>en=Jb (I O (if r then 1 else 0))∧St W0 w' K L:=by
 obtain⟨rb,hrb⟩:=eX w.heap.size;have g1:=h.allocRaw #[Ja qb l.length bcap,I O c,Ja q ch.length cap] 25;rw[hrb]at g1;obtain⟨z0,z1,z2⟩:=uR3 ((g1));simp at z0 z1 z2;have H:=hQd g1;have HKB:=hQd hkb;have HFT:=hQd hfit;clear h g1 hkb hfit
 by_cases h8:8<l.length
 ·obtain rfl:false=r:=by rw[←hr,zN4 l ch h8]
  have d1:(8:Int)<(l.length:Int):=by omega
  have d2:decide ((8:Int)<(l.length:Int))=true:=decide_eq_true d1;clear hr h8;go_enter Tryz.func7,Tryz.ntmps7;go_wp2_with fail;go_ret;exact⟨rfl,H.out.drop⟩
 have d1:¬(8:Int)<(l.length:Int):=by omega
 have d2:decide ((8:Int)<(l.length:Int))=false:=decide_eq_false d1
 by_cases h2:200<ch.length
 ·obtain rfl:false=r:=by rw[←hr,zN3 l ch h2]
  have d3:(200:Int)<(ch.length:Int):=by omega
  have d4:decide ((200:Int)<(ch.length:Int))=true:=decide_eq_true d3;clear hr h8 h2;go_enter Tryz.func7,Tryz.ntmps7;go_wp2_with fail;go_ret;exact⟨rfl,H.out.drop⟩
 have d3:¬(200:Int)<(ch.length:Int):=by omega
 have d4:decide ((200:Int)<(ch.length:Int))=false:=decide_eq_false d3;have HR:=hQd (show(l.drop 0).all sm11=r by rw[←hr,zPv l ch h8 h2];rfl);have HLI:=hQd (show(l.length:Int)≤8 by omega);clear hr h8 h2;go_enter Tryz.func7,Tryz.ntmps7;go_wp2_with fail;clear z0 z1 z2 d1 d2 d3 d4;go_loopw [18] (fun iv wr=>∃k:Nat,k≤l.length∧iv=I O k∧Hid ((l.drop k).all sm11=r)∧St W0 wr K (.raw rb #[Ja qb l.length bcap,I O c,Ja q ch.length cap] 25::L)) (fun iv _=>l.length - (intOf iv).toNat)
 case atStart=>exact⟨0,Ji _,rfl,HR,H.out⟩
 case round=>
  obtain⟨k,hkl,rfl,HC,hst⟩:=hrel;clear H;have H:=hQd hst;clear hst;have hli:(l.length:Int)≤8:=HLI.out
  by_cases hk:k<l.length
  ·obtain⟨bk,off,hqq⟩:=zLk (zCF HKB.out) H.out oM;subst hqq;obtain⟨x,hx⟩:=eX (l[k]);have hmem:x∈l:=hx ▸ Jp hk;have hXK:=zE8 HKB.out hmem;obtain⟨xq,xcap,hxv⟩:=zC0 hXK H.out;have cc:=zHU HKB.out H.out k hk _ hx;rw[hxv]at hXK cc;obtain⟨c0,c1,c2,c3,c4,c5,c6,c7,c8,c9,c10,c11⟩:=cc;have HXK:=hQd hXK;have HFX:=hQd (HFT.out x hmem)
   have hd:(sm11 x && (l.drop (k+1)).all sm11)=r:=by
    have h9:=HC.out;rw[List.drop_eq_getElem_cons hk,hx]at h9;exact h9
   obtain⟨tb,htb⟩:=eX wr.heap.size;have g1:=H.out.allocRaw #[I O x.b.base,I O x.b.leader,U x.b.app,U x.b.txn,U x.b.ctl,I O x.b.last,I O x.b.first,I O x.b.maxt,I O x.b.prod,I O x.b.epoch,I O x.b.seq,Ja xq x.l.length xcap] 30;rw[htb]at g1;obtain⟨y0,y1,y2,y3,y4,y5,y6,y7,y8,y9,y10,y11⟩:=uR12 g1;simp at y0 y1 y2 y3 y4 y5 y6 y7 y8 y9 y10 y11;have hki:(k:Int)<(l.length:Int):=by omega
   clear H hXK hxv hmem hx;have H:=hQd g1;clear g1
   cases hsm:sm11 x with
   |false=>
    have HSM:=hQd (show zBb (x.l.map (·.1))=false from hsm);obtain rfl:false=r:=by rw[←hd,hsm];rfl
    clear hd hsm;go_wp2_with (go_at_call 22;(with_reducible refine(zOO x.b.base x.b.leader x.b.app x.b.txn x.b.ctl x.b.last x.b.first x.b.maxt x.b.prod x.b.epoch x.b.seq x.l xq xcap HSM.out HFX.out HXK.out H.out).zM ?_);clear H;intro wn H);go_ret;exact⟨rfl,H.out.drop.drop⟩
   |true=>
    have HSM:=hQd (show zBb (x.l.map (·.1))=true from hsm);have HD:=hQd (show(l.drop (k+1)).all sm11=r by rw[←hd,hsm];rfl);clear hd hsm;go_wp2_with (go_at_call 22;(with_reducible refine(zON x.b.base x.b.leader x.b.app x.b.txn x.b.ctl x.b.last x.b.first x.b.maxt x.b.prod x.b.epoch x.b.seq x.l xq xcap HSM.out HFX.out HXK.out H.out).zM ?_);clear H;intro wn H);go_roundw
    case rel=>exact⟨k+1,hk,by go_num,HD,H.out.drop⟩
    case measure=>first|(simp[intOf];done)|(simp[intOf];omega)
  ·have hki:¬(k:Int)<(l.length:Int):=by omega
   obtain rfl:true=r:=by rw[←HC.out,List.drop_eq_nil_of_le oM];rfl
   go_wp2_with fail;go_ret;exact⟨rfl,H.out.drop⟩
theorem zPE(qb:Option Addr)(bcap:Nat)(c:Int)(q:Option Addr)(cap:Nat)(ch:List Int)(l:List BtR)(hr:zCa l ch=false)(hfit:∀x∈l,FitW x.l)(hkb:K.has (Know.btrs (Ja qb l.length bcap) l))(h:St W0 w K L):
 Calls Jd 7 #[.agg #[Ja qb l.length bcap,I O c,Ja q ch.length cap]] w fun en w'=>en=Jb (I O 0)∧St W0 w' K L:=zNm qb bcap c q cap ch l false hr hfit hkb h
theorem zPD(qb:Option Addr)(bcap:Nat)(c:Int)(q:Option Addr)(cap:Nat)(ch:List Int)(l:List BtR)(hr:zCa l ch=true)(hfit:∀x∈l,FitW x.l)(hkb:K.has (Know.btrs (Ja qb l.length bcap) l))(h:St W0 w K L):
 Calls Jd 7 #[.agg #[Ja qb l.length bcap,I O c,Ja q ch.length cap]] w fun en w'=>en=Jb (I O 1)∧St W0 w' K L:=zNm qb bcap c q cap ch l true hr hfit hkb h
theorem pp_big(l:List BtR)(c:Int)(ch:List Int)(qb q:Option Addr)(bcap cap:Nat)(hfit:∀x∈l,FitW x.l)(hs:zCa l ch=false){W0 w:World}{K:Know}(hlib:K.has Know.lib)(hkb:K.has (Know.btrs (Ja qb l.length bcap) l))(hkc:K.has (Know.flat RInt (Ja q ch.length cap) 1 ch))(h:St W0 w K []):
 Calls Jd 3 #[.agg #[Ja qb l.length bcap,I O c,Ja q ch.length cap]] w fun en w'=>en=Jb (U true)∧Below W0.heap.size W0 w':=by
 obtain⟨rb,hrb⟩:=eX w.heap.size;have g1:=h.allocRaw #[Ja qb l.length bcap,I O c,Ja q ch.length cap] 25;rw[hrb]at g1;obtain⟨x0,x1,x2⟩:=uR3 ((g1));simp at x0 x1 x2;have H:=hQd g1;have HLIB:=hQd hlib;have HKB:=hQd hkb;have HKC:=hQd hkc;have HFT:=hQd hfit;have t9:True:=trivial;have HSM:=hQd hs;clear h g1 hlib hkb hkc hfit hs;go_enter Tryz.func3,Tryz.ntmps3
 go_wp2_with (first
  |(go_at_call 6;have _t:=t9;clear _t;(with_reducible refine(zNg HLIB.out H.out).mono ?_);rintro e_ wn ⟨rfl,h⟩;obtain⟨x0,x1,x2⟩:=uR3 ((h));simp at x0 x1 x2;replace H:=hQd h;clear h;clear t9)
  |(go_at_call 7;(with_reducible refine(zPE qb bcap c q cap ch l HSM.out HFT.out HKB.out H.out).mono ?_);rintro e_ wn ⟨rfl,h⟩;obtain⟨x0,x1,x2⟩:=uR3 ((h));simp at x0 x1 x2;replace H:=hQd h;clear h))
 go_ret;exact⟨rfl,H.out.below⟩
theorem zPR(vs:List BatS)(hv:∀b∈vs,OkV b)(he:∀b∈vs,zAh b=0)(hl8:vs.length≤8)(A0:Bs)(hA0:vs.flatMap BatS.enc=A0)(l:List BtR)(hvs:l.map BtR.val=vs)(c:Int)(hcr:Rn c)(ch:List Int)(hchr:∀v∈ch,Rn v)(hcl:ch.length≤1000){A T:Bs}{bs:List BatS}{pv:Nat}{rest:Bs}{pe ps:Int}(hA:cutA c A0=A)(tk:ToldOk A T bs pv rest pe ps)(S:Bs)(hS:l.flatMap btT++(cutT c++chT ch)=S)(hSl:S.length≤900000)(hcm: -1≤c)(hfine:∀x∈l,zCN x){W0 w:World}{K:Know}{L:List Res}(hlib:K.has Know.lib)(hAl0:A0.length≤1000000)(h:St W0 w K L):
 Calls Jd 14 #[Z (bb S)] w fun en w'=>en=Jb (Z (bb T))∧St W0 w' K L:=by
 have H:=hQd h;have HV:=hQd hv;have HE:=hQd he;have HL8:=hQd hl8;have HA0:=hQd hA0;have HVS:=hQd hvs;have HCR:=hQd hcr;have HCHR:=hQd hchr;have HCL:=hQd hcl;have HA:=hQd hA;have HTK:=hQd tk;have HS:=hQd hS;have HSL:=hQd hSl;have HCM:=hQd hcm;have HFN:=hQd hfine;have HLIB:=hQd hlib;have HAL0:=hQd hAl0;clear h hv he hl8 hA0 hvs hcr hchr hcl hA tk hS hSl hcm hfine hlib hAl0;go_enter Tryz.func14,Tryz.ntmps14
 go_wp2_with (first
  |(go_at_call 41;(with_reducible refine(zIN l c ch S HS.out HSL.out HCM.out HCR.out HCHR.out HFN.out HLIB.out H.out).mono ?_);rintro e_ wn ⟨K2,l2,q2,q3,b2,cap3,rfl,hkk,hkb2,hkc2,hval2,h⟩;have HKK:=hQd hkk;have HKB2:=hQd hkb2;have HKC2:=hQd hkc2;have HV2:=hQd (hval2.trans HVS.out);have HLIB2:=hQd (Know.has_trans hkk HLIB.out);clear hkk hkb2 hkc2 hval2;obtain⟨xb,hxb⟩:=eX wn.heap.size;have h:=h.allocRaw #[Ja q2 l2.length b2,I O c,Ja q3 ch.length cap3] 25;rw[hxb]at h;obtain⟨x0,x1,x2⟩:=uR3 ((h));simp at x0 x1 x2;replace H:=hQd h;clear h)
  |(go_at_call 12;(with_reducible refine(zNp vs HV.out HE.out HL8.out A0 HA0.out l2 HV2.out c HCR.out ch HCHR.out HCL.out HA.out HTK.out q2 q3 b2 cap3 HLIB2.out HKB2.out HKC2.out HAL0.out H.out).zM ?_);clear H;intro wn H))
 go_ret;exact⟨rfl,H.out.drop.know HKK.out⟩
theorem zTu(vs:List BatS)(hv:∀b∈vs,OkV b)(hl8:vs.length≤8)(l:List BtR)(hvs:l.map BtR.val=vs)(k0:Nat)(xe:BatR)(hk0:k0<(l.map zAP).length)(hx0:(l.map zAP)[k0]=xe)(hz:∀y∈(l.map zAP).take k0,zAh y.b=0)(e:Int)(he:zAh xe.b=e)(hne:e≠0)(tl:Bs)(htl:errT k0 e=tl)(c:Int)(hcr:Rn c)(ch:List Int)(hchr:∀v∈ch,Rn v)(S:Bs)(hS:l.flatMap btT++(cutT c++chT ch)=S)(hSl:S.length≤900000)(hcm: -1≤c)(hfine:∀x∈l,zCN x){W0 w:World}{K:Know}{L:List Res}(hlib:K.has Know.lib)(h:St W0 w K L):
 Calls Jd 14 #[Z (bb S)] w fun en w'=>en=Jb (Z (bb tl))∧St W0 w' K L:=by
 have H:=hQd h;have HV:=hQd hv;have HL8:=hQd hl8;have HVS:=hQd hvs;have HCR:=hQd hcr;have HCHR:=hQd hchr;have HS:=hQd hS;have HSL:=hQd hSl;have HCM:=hQd hcm;have HFN:=hQd hfine;have HLIB:=hQd hlib;have HK0:=hQd hk0;have HX0:=hQd hx0;have HZ:=hQd hz;have HE:=hQd he;have HNE:=hQd hne;have HTL:=hQd htl;clear h hv hl8 hvs hcr hchr hS hSl hcm hfine hlib hx0 hz he hne htl;go_enter Tryz.func14,Tryz.ntmps14
 go_wp2_with (first
  |(go_at_call 41;(with_reducible refine(zIN l c ch S HS.out HSL.out HCM.out HCR.out HCHR.out HFN.out HLIB.out H.out).mono ?_);rintro e_ wn ⟨K2,l2,q2,q3,b2,cap3,rfl,hkk,hkb2,hkc2,hval2,h⟩;have HKK:=hQd hkk;have HKB2:=hQd hkb2;have HV2:=hQd (hval2.trans HVS.out);have HLIB2:=hQd (Know.has_trans hkk HLIB.out);clear hkk hkb2 hkc2 hval2;obtain⟨xb,hxb⟩:=eX wn.heap.size;have h:=h.allocRaw #[Ja q2 l2.length b2,I O c,Ja q3 ch.length cap3] 25;rw[hxb]at h;obtain⟨x0,x1,x2⟩:=uR3 ((h));simp at x0 x1 x2;replace H:=hQd h;clear h)
  |(go_at_call 12;(with_reducible refine(zPT vs HV.out HL8.out l HVS.out k0 xe HK0.out HX0.out HZ.out e HE.out HNE.out tl HTL.out l2 HV2.out c ch q2 q3 b2 cap3 HLIB2.out HKB2.out H.out).zM ?_);clear H;intro wn H))
 go_ret;exact⟨rfl,H.out.drop.know HKK.out⟩
theorem zq7{p:Prop}(h:p:=by
  obtain⟨k5,E5,hk5',rfl,rfl,HE5,hst5⟩:=hrel;clear H;have H:=hQd hst5;clear hst5;have z2:=H.out.rawCell 2;simp at z2;rw[HCQ.out]at z2;have hcb5:(ch.length:Int)≤1000000:=HCB.out
  by_cases hk5:k5<ch.length
  · obtain⟨n,hn⟩:=eX (ch[k5]);have HRN:=hQd (show Rn n from HCHR.out n (hn ▸ Jp hk5));have c0:=zIy HKC2.out H.out k5 hk5 n hn;obtain⟨d2,hd2⟩:=eX (numW n);have he5:=HE5.out;rw[zCC (fun n=>32::numW n) ch k5 hk5 n hn]at he5;obtain⟨Y1,hY1⟩:=eX (E5++[32]);obtain⟨Y2,hY2⟩:=eX (Y1++d2)
    have hYS:Y2++((ch.drop (k5+1)).flatMap (fun n=>32::numW n)++[10])=S:=by
     rw[←he5,←hY2,←hY1];simp[hd2]
    have lY:=zBG hYS HSL.out;have eY1:=congrArg Jh hY1;have eY2:=congrArg Jh hY2;rw[Je]at eY1 eY2;simp only[Jg,Jl]at eY1;have gY1:¬(9223372036854775807<E5.length+1):=by omega
    have kY1:bb E5++⟨#[32]⟩=bb Y1:=by rw[←hY1];exact zAc _ _
    have gY2:¬(9223372036854775807<Y1.length+d2.length):=by omega
    have kY2:bb Y1++bb d2=bb Y2:=by rw[←hY2];exact zAc _ _
    have m_d2:d2.length≤1000000:=by omega
    clear hY1 eY1 hY2 eY2;have HYS:=hQd hYS;have HD2:=hQd hd2;have hk5i:(k5:Int)<(ch.length:Int):=by omega
    clear hYS hd2 he5 hn lY m_d2;go_wp2_with (go_at_call 9;(with_reducible refine(zBg n HRN.out d2 HD2.out H.out).zM ?_);clear H;intro wn H);go_roundw
    case rel=>exact⟨k5+1,_,hk5,by go_num,rfl,HYS,H.out⟩
    case measure=>first|(simp[intOf];done)|(simp[intOf];omega)
  · have hq5:k5=ch.length:=by omega
    have HE5':=hQd (show E5++[10]=S by have h9:=HE5.out;rw[hq5,List.drop_length]at h9;exact h9);have hk5i:¬((k5:Int)<(ch.length:Int)):=by omega
    obtain⟨J1,hJ1⟩:=eX (E5++[10])
    have hJS:J1++(([]:Bs))=S:=by
     rw[←HE5'.out,←hJ1];simp
    have lJ:=zBG hJS HSL.out;have eJ1:=congrArg Jh hJ1;rw[Je]at eJ1;simp only[Jg,Jl]at eJ1;have gJ1:¬(9223372036854775807<E5.length+1):=by omega
    have kJ1:bb E5++⟨#[10]⟩=bb J1:=by rw[←hJ1];exact zAc _ _
    clear hJ1 eJ1;have HJS:=hQd (show J1=S by rw[List.append_nil]at hJS;exact hJS);clear hJS lJ;go_wp2_with fail;go_ret;exact⟨by rw[HJS.out];rfl,H.out.drop⟩):p:=h
theorem zNo(vB:Value)(c:Int)(q:Option Addr)(cap:Nat)(ch:List Int)(l:List BtR)(S:Bs)(hS:l.flatMap btT++(cutT c++chT ch)=S)(hl:S.length≤1000000)(hcr:Rn c)(hchr:∀v∈ch,Rn v)(hfine:∀x∈l,zCN x){W0 w:World}{K:Know}{L:List Res}(hkb:K.has (Know.btrs vB l))(hkc:K.has (Know.flat RInt (Ja q ch.length cap) 1 ch))(h:St W0 w K L):
 Calls Jd 15 #[.agg #[vB,I O c,Ja q ch.length cap]] w fun en w'=>en=Jb (Z (bb S))∧St W0 w' K L:=by
 obtain⟨qb,bcap,hvB⟩:=zEy (zCF hkb) h;subst hvB;obtain⟨rb,hrb⟩:=eX w.heap.size;have g1:=h.allocRaw #[Ja qb l.length bcap,I O c,Ja q ch.length cap] 37;rw[hrb]at g1;have H:=hQd g1;have HKB:=hQd hkb;have HKC:=hQd hkc;have HBF:=hQd hfine;have HSL:=hQd hl;have HCR:=hQd hcr;have HCHR:=hQd hchr;obtain⟨T,hT⟩:=eX (cutT c++chT ch);have HT:=hQd hT;rw[hT]at hS;have HS0:=hQd (show[]++((l.drop 0).flatMap btT++T)=S from hS)
 have HLB:=hQd (show(l.length:Int)≤1000000 by
  have h9:=zFN btT l (fun h _=>by unfold btT batL;simp);have h8:=congrArg Jh hS;rw[Je]at h8
  omega)
 clear h g1 hkb hkc hfine hl hcr hchr hT hS;go_enter Tryz.func15,Tryz.ntmps15;go_wp2_with fail;go_loopw [3,4] (fun sv iv wr=>∃(k:Nat) (E:Bs),k≤l.length∧iv=I O k∧sv=Z (bb E)∧Hid (E++((l.drop k).flatMap btT++T)=S)∧St W0 wr K (.raw rb #[Ja qb l.length bcap,I O c,Ja q ch.length cap] 37::L)) (fun _ iv _=>l.length - (intOf iv).toNat)
 case atStart=>exact⟨0,[],Ji _,rfl,rfl,HS0.out,H.out⟩
 case round=>
  obtain⟨k,E,hk',rfl,rfl,HE,hst⟩:=hrel;clear H;have H:=hQd hst;clear hst;obtain⟨z0,z1,z2⟩:=uR3 ((H.out));simp at z0 z1 z2
  by_cases hk:k<l.length
  ·obtain⟨bk,off,hqq⟩:=zLk (zCF HKB.out) H.out oM;rw[hqq]at z0;have HKB':=HKB.out;rw[hqq]at HKB';obtain⟨x,hx⟩:=eX (l[k]);have hmem:x∈l:=hx ▸ Jp hk;have hXK0:=zE8 HKB.out hmem;obtain⟨xq,xcap,hxv⟩:=zC0 hXK0 H.out;have cc:=zHU HKB' H.out k hk _ hx;rw[hxv]at cc hXK0;obtain⟨c0,c1,c2,c3,c4,c5,c6,c7,c8,c9,c10,c11⟩:=cc;obtain⟨ns,hns⟩:=eX (batN x.b);obtain⟨R,hR⟩:=eX ((l.drop (k+1)).flatMap btT++T);obtain⟨A2,hA2⟩:=eX (32::(letW x.b.app x.b.txn x.b.ctl++[10])++(x.l.flatMap (fun y:RecS×Value=>recT y.1)++R));have he:=HE.out;rw[zCC btT l k hk x hx]at he;obtain⟨Q1,hQ1⟩:=eX (E++[98,97,116,99,104])
   have hQS:Q1++((ns.drop 0).flatMap (fun n=>32::numW n)++A2)=S:=by
    rw[←he,←hQ1];simp[btT,batL,zJK,←hA2,←hns,←hR]
   have lQ:=zBG hQS HSL.out;have eQ1:=congrArg Jh hQ1;rw[Je]at eQ1;simp only[Jg,Jl]at eQ1;have gQ1:¬(9223372036854775807<E.length+5):=by omega
   have kQ1:bb E++⟨#[98,97,116,99,104]⟩=bb Q1:=by rw[←hQ1];exact zAc _ _
   clear hQ1 eQ1;have hbf:=HBF.out x hmem;have HNR:=hQd hbf.1;have HXF:=hQd hbf.2;have HNS:=hQd hns;have HR:=hQd hR;have HA2:=hQd hA2;have HQS:=hQd hQS;have HXK:=hQd hXK0
   have HXB:=hQd (show(x.l.length:Int)≤1000000 by
    have h9:=zFN (fun y:RecS×Value=>recT y.1) x.l (fun h _=>by unfold recT recH;simp);have h8:=congrArg Jh hQS;have h7:=HSL.out;rw[←hA2]at h8;simp only[Je,Jg]at h8
    omega)
   obtain⟨tb,htb⟩:=eX wr.heap.size;obtain⟨lb,hlb⟩:=eX (tb+1);have g1:=H.out.allocRaw #[I O x.b.base,I O x.b.leader,U x.b.app,U x.b.txn,U x.b.ctl,I O x.b.last,I O x.b.first,I O x.b.maxt,I O x.b.prod,I O x.b.epoch,I O x.b.seq,Ja xq x.l.length xcap] 30;rw[htb]at g1;obtain⟨y0,y1,y2,y3,y4,y5,y6,y7,y8,y9,y10,y11⟩:=uR12 g1;simp at y0 y1 y2 y3 y4 y5 y6 y7 y8 y9 y10 y11;have g2:=g1.allocRaw #[I O x.b.base,I O x.b.leader,I O x.b.last,I O x.b.first,I O x.b.maxt,I O x.b.prod,I O x.b.epoch,I O x.b.seq] 3;simp only[World.size_alloc,htb,hlb]at g2;have hki:(k:Int)<(l.length:Int):=by omega
   have hkbi:(l.length:Int)≤1000000:=HLB.out;clear H hQS he hx hqq HKB' hmem hbf hXK0 hxv hns hR hA2 g1 lQ;have H:=hQd g2;clear g2;go_wp2_with fail;clear y0 c0 y1 c1 y2 c2 y3 c3 y4 c4 y5 c5 y6 c6 y7 c7 y8 c8 y9 c9 y10 c10 y11 c11 gQ1 kQ1 z0 z1 z2;go_loopw [3,7] (fun sv iv wr=>∃(k2:Nat) (E2:Bs),k2≤8∧iv=I O k2∧sv=Z (bb E2)∧Hid (E2++((ns.drop k2).flatMap (fun n=>32::numW n)++A2)=S)∧St W0 wr K (.raw lb #[I O x.b.base,I O x.b.leader,I O x.b.last,I O x.b.first,I O x.b.maxt,I O x.b.prod,I O x.b.epoch,I O x.b.seq] 3::.raw tb #[I O x.b.base,I O x.b.leader,U x.b.app,U x.b.txn,U x.b.ctl,I O x.b.last,I O x.b.first,I O x.b.maxt,I O x.b.prod,I O x.b.epoch,I O x.b.seq,Ja xq x.l.length xcap] 30::.raw rb #[Ja qb l.length bcap,I O c,Ja q ch.length cap] 37::L)) (fun _ iv _=>8 - (intOf iv).toNat)
   case atStart=>exact⟨0,Q1,Ji _,rfl,rfl,HQS.out,H.out⟩
   case round=>
    obtain⟨k2,E2,hk2',rfl,rfl,HE2,hst2⟩:=hrel;clear H;have H:=hQd hst2;clear hst2
    by_cases hk2:k2<8
    ·have hk2n:k2<ns.length:=by rw[←HNS.out];exact hk2
     obtain⟨n,hn⟩:=eX (ns[k2]);have HRN:=hQd (show Rn n from HNR.out n (by rw[HNS.out];exact hn ▸ Jp hk2n));obtain⟨d2,hd2⟩:=eX (numW n);have he2:=HE2.out;rw[zCC (fun n=>32::numW n) ns k2 hk2n n hn]at he2;obtain⟨P1,hP1⟩:=eX (E2++[32]);obtain⟨P2,hP2⟩:=eX (P1++d2)
     have hPS:P2++((ns.drop (k2+1)).flatMap (fun n=>32::numW n)++A2)=S:=by
      rw[←he2,←hP2,←hP1];simp[hd2]
     have lP:=zBG hPS HSL.out;have eP1:=congrArg Jh hP1;have eP2:=congrArg Jh hP2;rw[Je]at eP1 eP2;simp only[Jg,Jl]at eP1;have gP1:¬(9223372036854775807<E2.length+1):=by omega
     have kP1:bb E2++⟨#[32]⟩=bb P1:=by rw[←hP1];exact zAc _ _
     have gP2:¬(9223372036854775807<P1.length+d2.length):=by omega
     have kP2:bb P1++bb d2=bb P2:=by rw[←hP2];exact zAc _ _
     have m_d2:d2.length≤1000000:=by omega
     clear hP1 eP1 hP2 eP2
     have c0:wr.cell? ⟨lb,k2,none⟩=some (I O n):=by
      have h9:=(show St W0 wr K (.raw lb ((batN x.b).map fun v=>Value.int O v).toArray 3::.raw tb #[I O x.b.base,I O x.b.leader,U x.b.app,U x.b.txn,U x.b.ctl,I O x.b.last,I O x.b.first,I O x.b.maxt,I O x.b.prod,I O x.b.epoch,I O x.b.seq,Ja xq x.l.length xcap] 30::.raw rb #[Ja qb l.length bcap,I O c,Ja q ch.length cap] 37::L)from H.out).rawCell k2;rw[HNS.out]at h9;rw[h9];simp[hk2n,hn]
     have HPS:=hQd hPS;have HD2:=hQd hd2;have hk2i:(k2:Int)<8:=by omega
     clear hPS hd2 he2 hn lP m_d2;go_wp2_with (go_at_call 9;(with_reducible refine(zBg n HRN.out d2 HD2.out H.out).zM ?_);clear H;intro wn H);go_roundw
     case rel=>exact⟨k2+1,_,hk2,by go_num,rfl,HPS.out,H.out⟩
     case measure=>first|(simp[intOf];done)|(simp[intOf];omega)
    ·have hq2:k2=8:=by omega
     subst hq2;have HE2':=hQd (show E2++A2=S by have h9:=HE2.out;rw[show ns.drop 8=[]from by rw[←HNS.out];rfl]at h9;exact h9);obtain⟨d2,hd2⟩:=eX (letW x.b.app x.b.txn x.b.ctl);have hA2:=HA2.out;obtain⟨W1,hW1⟩:=eX (E2++[32]);obtain⟨W2,hW2⟩:=eX (W1++d2);obtain⟨W3,hW3⟩:=eX (W2++[10])
     have hWS:W3++((x.l.drop 0).flatMap (fun y:RecS×Value=>recT y.1)++R)=S:=by
      rw[←HE2'.out,←hW3,←hW2,←hW1];simp[hd2,←hA2]
     have lW:=zBG hWS HSL.out;have eW1:=congrArg Jh hW1;have eW2:=congrArg Jh hW2;have eW3:=congrArg Jh hW3;rw[Je]at eW1 eW2 eW3;simp only[Jg,Jl]at eW1;simp only[Jg,Jl]at eW3;have gW1:¬(9223372036854775807<E2.length+1):=by omega
     have kW1:bb E2++⟨#[32]⟩=bb W1:=by rw[←hW1];exact zAc _ _
     have gW2:¬(9223372036854775807<W1.length+d2.length):=by omega
     have kW2:bb W1++bb d2=bb W2:=by rw[←hW2];exact zAc _ _
     have gW3:¬(9223372036854775807<W2.length+1):=by omega
     have kW3:bb W2++⟨#[10]⟩=bb W3:=by rw[←hW3];exact zAc _ _
     have m_d2:d2.length≤1000000:=by omega
     clear hW1 eW1 hW2 eW2 hW3 eW3;have HWS:=hQd hWS;have HD2:=hQd (show Value.string (bb d2)=Z (bb (letW x.b.app x.b.txn x.b.ctl)) by rw[hd2]);have hs2:=H.out.drop;clear H;have H:=hQd hs2;obtain⟨y0,y1,y2,y3,y4,y5,y6,y7,y8,y9,y10,y11⟩:=uR12 hs2;simp at y0 y1 y2 y3 y4 y5 y6 y7 y8 y9 y10 y11;clear hs2 hWS hd2 hA2 lW m_d2;go_upto_region 13 with (go_at_call 42;(with_reducible refine(zOh _ _ _ _ _ _ _ _ x.b.app x.b.txn x.b.ctl _ _ HD2.out H.out).mono ?_);rintro e_ wn ⟨rfl,h⟩;have z11:=h.rawCell 11;simp at z11;replace H:=hQd h;clear h);clear y0 y1 y2 y3 y4 y5 y6 y7 y8 y9 y10 y11 gW1 kW1 gW2 kW2 gW3 kW3 HD2;go_wp2_with fail;go_loopw [3,8] (fun sv iv wr=>∃(k3:Nat) (E3:Bs),k3≤x.l.length∧iv=I O k3∧sv=Z (bb E3)∧Hid (E3++((x.l.drop k3).flatMap (fun y:RecS×Value=>recT y.1)++R)=S)∧St W0 wr K (.raw tb #[I O x.b.base,I O x.b.leader,U x.b.app,U x.b.txn,U x.b.ctl,I O x.b.last,I O x.b.first,I O x.b.maxt,I O x.b.prod,I O x.b.epoch,I O x.b.seq,Ja xq x.l.length xcap] 30::.raw rb #[Ja qb l.length bcap,I O c,Ja q ch.length cap] 37::L)) (fun _ iv _=>x.l.length - (intOf iv).toNat)
     case atStart=>exact⟨0,W3,Ji _,rfl,rfl,HWS.out,H.out⟩
     case round=>
      obtain⟨k3,E3,hk3',rfl,rfl,HE3,hst3⟩:=hrel;clear H;have H:=hQd hst3;clear hst3;have z11:=H.out.rawCell 11;simp at z11;have hkb3:(x.l.length:Int)≤1000000:=HXB.out
      by_cases hk3:k3<x.l.length
      ·obtain⟨eb,eo,hxq⟩:=zBH HXK.out H.out oM;rw[hxq]at z11;have HXK':=HXK.out;rw[hxq]at HXK';obtain⟨⟨r,vh⟩,hy⟩:∃y,x.l[k3]=y:=⟨_,rfl⟩;have hmem:(r,vh)∈x.l:=hy ▸ Jp hk3;have hHK0:=zAX HXK.out hmem;obtain⟨hq,hcap,hvh⟩:=zEy hHK0 H.out;simp only at hvh;subst hvh;have cc:=zAQ HXK' H.out k3 hk3 _ hy;simp only[←Jm]at cc;obtain⟨c0,c1,c2,c3,c4,c5,c6⟩:=cc
       try simp only at c0 c1 c2 c3 c4 c5 c6
       obtain⟨d2,hd2⟩:=eX (numW r.time);obtain⟨d4,hd4⟩:=eX (numW r.off);obtain⟨d6,hd6⟩:=eX (zBa r.key);obtain⟨d8,hd8⟩:=eX (zBa r.val);obtain⟨R3,hR3⟩:=eX ((x.l.drop (k3+1)).flatMap (fun y:RecS×Value=>recT y.1)++R);have he3:=HE3.out;rw[zCC (fun y:RecS×Value=>recT y.1) x.l k3 hk3 _ hy]at he3;simp only at he3;obtain⟨U1,hU1⟩:=eX (E3++[114,101,99,111,114,100,32]);obtain⟨U2,hU2⟩:=eX (U1++d2);obtain⟨U3,hU3⟩:=eX (U2++[32]);obtain⟨U4,hU4⟩:=eX (U3++d4);obtain⟨U5,hU5⟩:=eX (U4++[32]);obtain⟨U6,hU6⟩:=eX (U5++d6);obtain⟨U7,hU7⟩:=eX (U6++[32]);obtain⟨U8,hU8⟩:=eX (U7++d8);obtain⟨U9,hU9⟩:=eX (U8++[10])
       have hUS:U9++((r.hdrs.drop 0).flatMap hdrT++R3)=S:=by
        rw[←he3,←hU9,←hU8,←hU7,←hU6,←hU5,←hU4,←hU3,←hU2,←hU1];simp[recT,recH,hd2,hd4,hd6,hd8,←hR3]
       have lU:=zBG hUS HSL.out;have eU1:=congrArg Jh hU1;have eU2:=congrArg Jh hU2;have eU3:=congrArg Jh hU3;have eU4:=congrArg Jh hU4;have eU5:=congrArg Jh hU5;have eU6:=congrArg Jh hU6;have eU7:=congrArg Jh hU7;have eU8:=congrArg Jh hU8;have eU9:=congrArg Jh hU9;rw[Je]at eU1 eU2 eU3 eU4 eU5 eU6 eU7 eU8 eU9;simp only[Jg,Jl]at eU1;simp only[Jg,Jl]at eU3;simp only[Jg,Jl]at eU5;simp only[Jg,Jl]at eU7;simp only[Jg,Jl]at eU9;have gU1:¬(9223372036854775807<E3.length+7):=by omega
       have kU1:bb E3++⟨#[114,101,99,111,114,100,32]⟩=bb U1:=by rw[←hU1];exact zAc _ _
       have gU2:¬(9223372036854775807<U1.length+d2.length):=by omega
       have kU2:bb U1++bb d2=bb U2:=by rw[←hU2];exact zAc _ _
       have gU3:¬(9223372036854775807<U2.length+1):=by omega
       have kU3:bb U2++⟨#[32]⟩=bb U3:=by rw[←hU3];exact zAc _ _
       have gU4:¬(9223372036854775807<U3.length+d4.length):=by omega
       have kU4:bb U3++bb d4=bb U4:=by rw[←hU4];exact zAc _ _
       have gU5:¬(9223372036854775807<U4.length+1):=by omega
       have kU5:bb U4++⟨#[32]⟩=bb U5:=by rw[←hU5];exact zAc _ _
       have gU6:¬(9223372036854775807<U5.length+d6.length):=by omega
       have kU6:bb U5++bb d6=bb U6:=by rw[←hU6];exact zAc _ _
       have gU7:¬(9223372036854775807<U6.length+1):=by omega
       have kU7:bb U6++⟨#[32]⟩=bb U7:=by rw[←hU7];exact zAc _ _
       have gU8:¬(9223372036854775807<U7.length+d8.length):=by omega
       have kU8:bb U7++bb d8=bb U8:=by rw[←hU8];exact zAc _ _
       have gU9:¬(9223372036854775807<U8.length+1):=by omega
       have kU9:bb U8++⟨#[10]⟩=bb U9:=by rw[←hU9];exact zAc _ _
       have m_d2:d2.length≤1000000:=by omega
       have m_d4:d4.length≤1000000:=by omega
       have m_d6:d6.length≤1000000:=by omega
       have m_d8:d8.length≤1000000:=by omega
       clear hU1 eU1 hU2 eU2 hU3 eU3 hU4 eU4 hU5 eU5 hU6 eU6 hU7 eU7 hU8 eU8 hU9 eU9;have HRF:=hQd (HXF.out _ hmem:zDg r);have HHK:=hQd (show K.has (Know.flat RHdr (Ja hq r.hdrs.length hcap) 3 r.hdrs)from hHK0)
       have HHB:=hQd (show(r.hdrs.length:Int)≤1000000 by
        have h9:=zFN hdrT r.hdrs (fun h _=>by unfold hdrT;simp);have h8:=congrArg Jh hUS;have h7:=HSL.out;rw[List.drop_zero,Je,Je]at h8
        omega)
       have HUS:=hQd hUS;have HR3:=hQd hR3;have HRT:=hQd HRF.out.2.2.2.1;have HRO:=hQd HRF.out.2.2.2.2;have HD2:=hQd hd2;have HD4:=hQd hd4;have HD6:=hQd (show zBa ⟨r.key.null,r.key.data⟩=d6 from hd6);have HD8:=hQd (show zBa ⟨r.val.null,r.val.data⟩=d8 from hd8);have HKL:=hQd (show r.key.data.length≤1000000 by have:=zHW r.key HRF.out.1;rw[hd6]at this;omega);have HVL:=hQd (show r.val.data.length≤1000000 by have:=zHW r.val HRF.out.2.1;rw[hd8]at this;omega);obtain⟨t9,ht9⟩:=eX wr.heap.size;have g9:=H.out.allocRaw #[I O r.time,I O r.off,U r.key.null,Z (bb r.key.data),U r.val.null,Z (bb r.val.data),Ja hq r.hdrs.length hcap] 54;rw[ht9]at g9;have KP17:=hQd (show ∀(w':World),St W0 w' K (.raw t9 #[I O r.time,I O r.off,U r.key.null,Z (bb r.key.data),U r.val.null,Z (bb r.val.data),Ja hq r.hdrs.length hcap] 54::.raw tb #[I O x.b.base,I O x.b.leader,U x.b.app,U x.b.txn,U x.b.ctl,I O x.b.last,I O x.b.first,I O x.b.maxt,I O x.b.prod,I O x.b.epoch,I O x.b.seq,Ja xq x.l.length xcap] 30::.raw rb #[Ja qb l.length bcap,I O c,Ja q ch.length cap] 37::L)→(w'.cell? ⟨t9,0,none⟩=some (I O r.time)∧w'.cell? ⟨t9,1,none⟩=some (I O r.off)∧w'.cell? ⟨t9,2,none⟩=some (U r.key.null)∧w'.cell? ⟨t9,3,none⟩=some (Z (bb r.key.data))∧w'.cell? ⟨t9,4,none⟩=some (U r.val.null)∧w'.cell? ⟨t9,5,none⟩=some (Z (bb r.val.data)))from fun w' h'=>⟨h'.rawCell 0,h'.rawCell 1,h'.rawCell 2,h'.rawCell 3,h'.rawCell 4,h'.rawCell 5⟩);have hk3i:(k3:Int)<(x.l.length:Int):=by omega
       clear H hxq HXK' m_d2 m_d4 m_d6 m_d8 hUS hd2 hd4 hd6 hd8 he3 hy hmem hHK0 hR3 lU;have H:=hQd g9;clear g9;go_upto_region 17 with fail;have hs:=H.out.drew;clear H c0 c1 c2 c3 c4 c5 c6 z11;refine wp_region_held_drew (S:=fun w'=>w'.cell? ⟨t9,0,none⟩=some (I O r.time)∧w'.cell? ⟨t9,1,none⟩=some (I O r.off)∧w'.cell? ⟨t9,2,none⟩=some (U r.key.null)∧w'.cell? ⟨t9,3,none⟩=some (Z (bb r.key.data))∧w'.cell? ⟨t9,4,none⟩=some (U r.val.null)∧w'.cell? ⟨t9,5,none⟩=some (Z (bb r.val.data))) kR (KP17.out _ hs) (fun hHeld=> ?_);refine tR 0 ?_;refine tR 1 ?_;refine tR 2 ?_;refine tR 3 ?_;refine tR 7 ?_;refine tR 8 ?_;refine tR 12 ?_;refine tR 13 ?_;refine tR 17 ?_;refine tR 18 ?_;refine wR [4] (rC rfl (fun KK hK=> ?_) rN);go_simp;go_at_call 9;with_reducible refine(zBg r.time HRT.out d2 HD2.out hs).mono ?_;rintro e wq ⟨rfl,hs⟩;refine zK hK (KP17.out _ hs) (fun hHeld=> ?_);clear hK KK
       refine tR 5 ?_;refine tR 6 ?_;refine wR [9] (rC rfl (fun KK hK=> ?_) rN);go_simp;go_at_call 9;with_reducible refine(zBg r.off HRO.out d4 HD4.out hs).mono ?_;rintro e wq ⟨rfl,hs⟩;refine zK hK (KP17.out _ hs) (fun hHeld=> ?_);clear hK KK
       refine tR 10 ?_;refine tR 11 ?_;refine wR [14] (rC rfl (fun KK hK=> ?_) rN);go_simp;go_at_call 43;with_reducible refine(zL7 r.key.null r.key.data d6 HD6.out HKL.out hs).mono ?_;rintro e wq ⟨rfl,hs⟩;refine zK hK (KP17.out _ hs) (fun hHeld=> ?_);clear hK KK
       refine tR 15 ?_;refine tR 16 ?_;refine wR [19] (rC rfl (fun KK hK=> ?_) rN);go_simp;go_at_call 43;with_reducible refine(zL7 r.val.null r.val.data d8 HD8.out HVL.out hs).mono ?_;rintro e wq ⟨rfl,hs⟩;refine zK hK (KP17.out _ hs) (fun hHeld=> ?_);clear hK KK
       refine tR 20 ?_;refine tR 21 ?_;refine tR 22 ?_;refine wpAnyH_done kR ?_ _;clear hHeld;have H:=hQd hs;clear hs;clear gU1 kU1 gU2 kU2 gU3 kU3 gU4 kU4 gU5 kU5 gU6 kU6 gU7 kU7 gU8 kU8 gU9 kU9 KP17 HD2 HD4 HD6 HD8;go_wp2_with fail;go_loopw [3,10] (fun sv iv wr=>∃(k4:Nat) (E4:Bs),k4≤r.hdrs.length∧iv=I O k4∧sv=Z (bb E4)∧Hid (E4++((r.hdrs.drop k4).flatMap hdrT++R3)=S)∧St W0 wr K (.raw t9 #[I O r.time,I O r.off,U r.key.null,Z (bb r.key.data),U r.val.null,Z (bb r.val.data),Ja hq r.hdrs.length hcap] 54::.raw tb #[I O x.b.base,I O x.b.leader,U x.b.app,U x.b.txn,U x.b.ctl,I O x.b.last,I O x.b.first,I O x.b.maxt,I O x.b.prod,I O x.b.epoch,I O x.b.seq,Ja xq x.l.length xcap] 30::.raw rb #[Ja qb l.length bcap,I O c,Ja q ch.length cap] 37::L)) (fun _ iv _=>r.hdrs.length - (intOf iv).toNat)
       case atStart=>exact⟨0,U9,Ji _,rfl,rfl,HUS.out,H.out⟩
       case round=>
        obtain⟨k4,E4,hk4',rfl,rfl,HE4,hst4⟩:=hrel;clear H;have H:=hQd hst4;clear hst4;have z6:=H.out.rawCell 6;simp at z6;have hkb4:(r.hdrs.length:Int)≤1000000:=HHB.out
        by_cases hk4:k4<r.hdrs.length
        ·obtain⟨hb,ho,hhq⟩:=zLk HHK.out H.out oM;rw[hhq]at z6;have HHK':=HHK.out;rw[hhq]at HHK';have HHQ:=hQd hhq;obtain⟨z,hz⟩:=eX (r.hdrs[k4]);obtain⟨d2,hd2⟩:=eX (hexW z.key);obtain⟨d4,hd4⟩:=eX (zBa z.val);have he4:=HE4.out;rw[zCC hdrT r.hdrs k4 hk4 z hz]at he4;obtain⟨V1,hV1⟩:=eX (E4++[104,101,97,100,101,114,32]);obtain⟨V2,hV2⟩:=eX (V1++d2);obtain⟨V3,hV3⟩:=eX (V2++[32]);obtain⟨V4,hV4⟩:=eX (V3++d4);obtain⟨V5,hV5⟩:=eX (V4++[10])
         have hVS:V5++((r.hdrs.drop (k4+1)).flatMap hdrT++R3)=S:=by
          rw[←he4,←hV5,←hV4,←hV3,←hV2,←hV1];simp[hdrT,hd2,hd4]
         have lV:=zBG hVS HSL.out;have eV1:=congrArg Jh hV1;have eV2:=congrArg Jh hV2;have eV3:=congrArg Jh hV3;have eV4:=congrArg Jh hV4;have eV5:=congrArg Jh hV5;rw[Je]at eV1 eV2 eV3 eV4 eV5;simp only[Jg,Jl]at eV1;simp only[Jg,Jl]at eV3;simp only[Jg,Jl]at eV5;have gV1:¬(9223372036854775807<E4.length+7):=by omega
         have kV1:bb E4++⟨#[104,101,97,100,101,114,32]⟩=bb V1:=by rw[←hV1];exact zAc _ _
         have gV2:¬(9223372036854775807<V1.length+d2.length):=by omega
         have kV2:bb V1++bb d2=bb V2:=by rw[←hV2];exact zAc _ _
         have gV3:¬(9223372036854775807<V2.length+1):=by omega
         have kV3:bb V2++⟨#[32]⟩=bb V3:=by rw[←hV3];exact zAc _ _
         have gV4:¬(9223372036854775807<V3.length+d4.length):=by omega
         have kV4:bb V3++bb d4=bb V4:=by rw[←hV4];exact zAc _ _
         have gV5:¬(9223372036854775807<V4.length+1):=by omega
         have kV5:bb V4++⟨#[10]⟩=bb V5:=by rw[←hV5];exact zAc _ _
         have m_d2:d2.length≤1000000:=by omega
         have m_d4:d4.length≤1000000:=by omega
         clear hV1 eV1 hV2 eV2 hV3 eV3 hV4 eV4 hV5 eV5;have hm:=HRF.out.2.2.1 z (hz ▸ Jp hk4);have HVS:=hQd hVS;have HD2:=hQd hd2;have HD4:=hQd (show zBa ⟨z.val.null,z.val.data⟩=d4 from hd4);have HKL:=hQd (show z.key.length≤1000000 by have:=zNH z.key;rw[hd2]at this;omega);have HVL:=hQd (show z.val.data.length≤1000000 by have:=zHW z.val hm;rw[hd4]at this;omega)
         have KP21:=hQd (show ∀(w':World),St W0 w' K (.raw t9 #[I O r.time,I O r.off,U r.key.null,Z (bb r.key.data),U r.val.null,Z (bb r.val.data),Ja hq r.hdrs.length hcap] 54::.raw tb #[I O x.b.base,I O x.b.leader,U x.b.app,U x.b.txn,U x.b.ctl,I O x.b.last,I O x.b.first,I O x.b.maxt,I O x.b.prod,I O x.b.epoch,I O x.b.seq,Ja xq x.l.length xcap] 30::.raw rb #[Ja qb l.length bcap,I O c,Ja q ch.length cap] 37::L)→(w'.cell? ⟨t9,6,none⟩=some (Ja (some ⟨hb,ho,none⟩) r.hdrs.length hcap)∧w'.cell? ⟨hb,ho+k4*3,none⟩=some (Z (bb z.key))∧w'.cell? ⟨hb,ho+k4*3+1,none⟩=some (U z.val.null)∧w'.cell? ⟨hb,ho+k4*3+2,none⟩=some (Z (bb z.val.data)))from fun w' h'=>by
          obtain⟨a1,a2,a3⟩:=zKB HHK' h' k4 hk4 z hz;have a0:=h'.rawCell 6;simp only[HHQ.out]at a0
          exact⟨a0,a1,a2,a3⟩)
         have hk4i:(k4:Int)<(r.hdrs.length:Int):=by omega
         clear hVS hd2 hd4 he4 hz hm lV hhq HHK' m_d2 m_d4;go_upto_region 21 with fail;have hs:=H.out.drew;clear H z6;refine wp_region_held_drew (S:=fun w'=>w'.cell? ⟨t9,6,none⟩=some (Ja (some ⟨hb,ho,none⟩) r.hdrs.length hcap)∧w'.cell? ⟨hb,ho+k4*3,none⟩=some (Z (bb z.key))∧w'.cell? ⟨hb,ho+k4*3+1,none⟩=some (U z.val.null)∧w'.cell? ⟨hb,ho+k4*3+2,none⟩=some (Z (bb z.val.data))) kR (KP21.out _ hs) (fun hHeld=> ?_);refine tR 0 ?_;refine tR 1 ?_;refine tR 2 ?_;refine tR 3 ?_;refine tR 4 ?_;refine tR 5 ?_;refine tR 6 ?_;refine tR 7 ?_;refine tR 11 ?_;refine tR 12 ?_;refine tR 13 ?_;refine tR 14 ?_;refine tR 15 ?_;refine tR 16 ?_;refine wR [8] (rC rfl (fun KK hK=> ?_) rN)
         ·go_simp;go_at_call 17;with_reducible refine(zTn z.key d2 HD2.out HKL.out hs).mono ?_;rintro e wq ⟨rfl,hs⟩;refine zK hK (KP21.out _ hs) (fun hHeld=> ?_);clear hK KK
          refine tR 9 ?_;refine tR 10 ?_;refine wR [17] (rC rfl (fun KK hK=> ?_) rN)
          ·go_simp;go_at_call 43;with_reducible refine(zL7 z.val.null z.val.data d4 HD4.out HVL.out hs).mono ?_;rintro e wq ⟨rfl,hs⟩;refine zK hK (KP21.out _ hs) (fun hHeld=> ?_);clear hK KK
           refine tR 18 ?_;refine tR 19 ?_;refine tR 20 ?_;refine wpAnyH_done kR ?_ _;clear hHeld;have H:=hQd hs;clear hs;go_wp2_with fail;go_roundw
           case rel=>exact⟨k4+1,_,hk4,by go_num,rfl,HVS.out,H.out⟩
           case measure=>first|(simp[intOf];done)|(simp[intOf];omega)
        ·have hq4:k4=r.hdrs.length:=by omega
         have HE4':=hQd (show E4++R3=S by have h9:=HE4.out;rw[hq4,List.drop_length]at h9;exact h9);have hk4i:¬((k4:Int)<(r.hdrs.length:Int)):=by omega
         go_wp2_with fail;go_roundw
         case rel=>exact⟨k3+1,E4,hk3,by go_num,rfl,hQd (by rw[HR3.out];exact HE4'.out),H.out.drop⟩
         case measure=>first|(simp[intOf];done)|(simp[intOf];omega)
      ·have hq3:k3=x.l.length:=by omega
       have HE3':=hQd (show E3++R=S by have h9:=HE3.out;rw[hq3,List.drop_length]at h9;exact h9);have hk3i:¬((k3:Int)<(x.l.length:Int)):=by omega
       go_wp2_with fail;go_roundw
       case rel=>exact⟨k+1,E3,hk,by go_num,rfl,hQd (by rw[HR.out];exact HE3'.out),H.out.drop⟩
       case measure=>first|(simp[intOf];done)|(simp[intOf];omega)
  ·have hq1:k=l.length:=by omega
   have HE':=hQd (show E++T=S by have h9:=HE.out;rw[hq1,List.drop_length]at h9;exact h9);have hki:¬((k:Int)<(l.length:Int)):=by omega
   have hkbi:(l.length:Int)≤1000000:=HLB.out
   by_cases hc0:c<0
   ·have hc9:¬(0≤c):=by omega
    have hc8:decide (0≤c)=false:=decide_eq_false hc9;have HE2:=hQd (show E++chT ch=S by have h9:=HE'.out;rw[←HT.out]at h9;simpa [cutT,hc0]using h9);clear hc0
    by_cases hch:ch=[]
    ·have hcl:ch.length=0:=by rw[hch];rfl
     have hcl2:(ch.length:Int)=0:=by omega
     have HES:=hQd (show E=S by have h9:=HE2.out;rw[hch]at h9;simpa [chT]using h9);clear hch;go_wp2_with fail;go_ret;exact⟨by rw[HES.out];rfl,H.out.drop⟩
    ·have hcl:0<ch.length:=List.length_pos_iff.2 hch;have hcl2:(0:Int)<(ch.length:Int):=by omega
     have hcl3:decide ((0:Int)<(ch.length:Int))=true:=decide_eq_true hcl2;obtain⟨X1,hX1⟩:=eX (E++[99,104,117,110,107,115])
     have hXS:X1++((ch.drop 0).flatMap (fun n=>32::numW n)++[10])=S:=by
      rw[←HE2.out,←hX1];simp[chT,zJK,hch]
     have lX:=zBG hXS HSL.out;have eX1:=congrArg Jh hX1;rw[Je]at eX1;simp only[Jg,Jl]at eX1;have gX1:¬(9223372036854775807<E.length+6):=by omega
     have kX1:bb E++⟨#[99,104,117,110,107,115]⟩=bb X1:=by rw[←hX1];exact zAc _ _
     clear hX1 eX1;have HXS:=hQd hXS
     have HCB:=hQd (show(ch.length:Int)≤1000000 by
      have h9:=zFN (fun n=>32::numW n) ch (fun h _=>by simp);have h8:=congrArg Jh hXS;have h7:=HSL.out;rw[List.drop_zero,Je,Je]at h8
      omega)
     obtain⟨cb,co,hcq⟩:=zLk HKC.out H.out hcl;have HCQ:=hQd hcq;have HKC':=HKC.out;rw[hcq]at HKC';have HKC2:=hQd HKC';clear hXS hch lX HKC' hcq;go_wp2_with fail;clear gX1 kX1;go_loopw [3,11] (fun sv iv wr=>∃(k5:Nat) (E5:Bs),k5≤ch.length∧iv=I O k5∧sv=Z (bb E5)∧Hid (E5++((ch.drop k5).flatMap (fun n=>32::numW n)++[10])=S)∧St W0 wr K (.raw rb #[Ja qb l.length bcap,I O c,Ja q ch.length cap] 37::L)) (fun _ iv _=>ch.length - (intOf iv).toNat)
     case atStart=>exact⟨0,X1,Ji _,rfl,rfl,HXS,H.out⟩
     case round=>
      exact zq7
   ·have hc9:0≤c:=by omega
    have hc8:decide (0≤c)=true:=decide_eq_true hc9;obtain⟨d2,hd2⟩:=eX (numW c);obtain⟨I1,hI1⟩:=eX (E++[99,117,116,32]);obtain⟨I2,hI2⟩:=eX (I1++d2);obtain⟨I3,hI3⟩:=eX (I2++[10])
    have hIS:I3++(chT ch)=S:=by
     rw[←HE'.out,←HT.out,←hI3,←hI2,←hI1];simp[cutT,hc0,hd2]
    have lI:=zBG hIS HSL.out;have eI1:=congrArg Jh hI1;have eI2:=congrArg Jh hI2;have eI3:=congrArg Jh hI3;rw[Je]at eI1 eI2 eI3;simp only[Jg,Jl]at eI1;simp only[Jg,Jl]at eI3;have gI1:¬(9223372036854775807<E.length+4):=by omega
    have kI1:bb E++⟨#[99,117,116,32]⟩=bb I1:=by rw[←hI1];exact zAc _ _
    have gI2:¬(9223372036854775807<I1.length+d2.length):=by omega
    have kI2:bb I1++bb d2=bb I2:=by rw[←hI2];exact zAc _ _
    have gI3:¬(9223372036854775807<I2.length+1):=by omega
    have kI3:bb I2++⟨#[10]⟩=bb I3:=by rw[←hI3];exact zAc _ _
    have m_d2:d2.length≤1000000:=by omega
    clear hI1 eI1 hI2 eI2 hI3 eI3;have HE2:=hQd hIS;have HD2:=hQd hd2;clear hIS hd2 hc0 lI m_d2
    by_cases hch:ch=[]
    ·have hcl:ch.length=0:=by rw[hch];rfl
     have hcl2:(ch.length:Int)=0:=by omega
     have HES:=hQd (show I3=S by have h9:=HE2.out;rw[hch]at h9;simpa [chT]using h9);clear hch;go_wp2_with (go_at_call 9;(with_reducible refine(zBg c HCR.out d2 HD2.out H.out).mono ?_);rintro e_ wn ⟨rfl,h⟩;have z2:=h.rawCell 2;simp at z2;replace H:=hQd h;clear h);go_ret;exact⟨by rw[HES.out];rfl,H.out.drop⟩
    ·have hcl:0<ch.length:=List.length_pos_iff.2 hch;have hcl2:(0:Int)<(ch.length:Int):=by omega
     have hcl3:decide ((0:Int)<(ch.length:Int))=true:=decide_eq_true hcl2;obtain⟨X1,hX1⟩:=eX (I3++[99,104,117,110,107,115])
     have hXS:X1++((ch.drop 0).flatMap (fun n=>32::numW n)++[10])=S:=by
      rw[←HE2.out,←hX1];simp[chT,zJK,hch]
     have lX:=zBG hXS HSL.out;have eX1:=congrArg Jh hX1;rw[Je]at eX1;simp only[Jg,Jl]at eX1;have gX1:¬(9223372036854775807<I3.length+6):=by omega
     have kX1:bb I3++⟨#[99,104,117,110,107,115]⟩=bb X1:=by rw[←hX1];exact zAc _ _
     clear hX1 eX1;have HXS:=hQd hXS
     have HCB:=hQd (show(ch.length:Int)≤1000000 by
      have h9:=zFN (fun n=>32::numW n) ch (fun h _=>by simp);have h8:=congrArg Jh hXS;have h7:=HSL.out;rw[List.drop_zero,Je,Je]at h8
      omega)
     obtain⟨cb,co,hcq⟩:=zLk HKC.out H.out hcl;have HCQ:=hQd hcq;have HKC':=HKC.out;rw[hcq]at HKC';have HKC2:=hQd HKC';clear hXS hch lX HKC' hcq;go_wp2_with (go_at_call 9;(with_reducible refine(zBg c HCR.out d2 HD2.out H.out).mono ?_);rintro e_ wn ⟨rfl,h⟩;have z2:=h.rawCell 2;simp at z2;replace H:=hQd h;clear h);clear gX1 kX1 gI1 kI1 gI2 kI2 gI3 kI3;go_loopw [3,11] (fun sv iv wr=>∃(k5:Nat) (E5:Bs),k5≤ch.length∧iv=I O k5∧sv=Z (bb E5)∧Hid (E5++((ch.drop k5).flatMap (fun n=>32::numW n)++[10])=S)∧St W0 wr K (.raw rb #[Ja qb l.length bcap,I O c,Ja q ch.length cap] 37::L)) (fun _ iv _=>ch.length - (intOf iv).toNat)
     case atStart=>exact⟨0,X1,Ji _,rfl,rfl,HXS,H.out⟩
     case round=>
      exact zq7
open Go.ChangeShapes Go.WideShapes Go.ChangeAt Go.Deep
theorem zRj:Tryz.prog.cellsOf 25=3:=by kernel_rfl
theorem zRm:Tryz.prog.cellsOf 22=1:=by kernel_rfl
theorem zLC:Tryz.prog.cellsOf 3=1:=by kernel_rfl
theorem zRl:Tryz.prog.cellsOf 23=1:=by kernel_rfl
theorem zRk:Tryz.prog.cellsOf 30=12:=by kernel_rfl
def QBt (W:World) (x:BtR):Prop:=(RowsOf (fun _ cs x=>RRec cs x) (· <W.heap.size) W x.v 7 x.l∧∀y∈x.l,QRec W y)∧batR x.b∧x.b.recs=x.l.map (·.1)
section
variable {H:Type}{enc:TypeId×Value→H}{w:World}{spare:Nat→Bool}{held:Bool}
theorem zQh:∀n cs y,DataW.trod enc Jd w 0 spare held n 30 cs=some y→zEf 30 y.1→(∀x∈y.2,x.block<w.heap.size)→∃x:BtR,RBt cs x∧QBt w x:=by
 intro n cs y hf hl hN;obtain⟨base,leader,app,txn,ctl,last,first,maxt,prod,epoch,sq,l,rv,e,hR,hr,hq⟩:=zRw n cs y hf hl hN;refine⟨⟨⟨base,leader,app,txn,ctl,last,first,maxt,prod,epoch,sq,l.map (·.1)⟩,l,rv⟩,e,⟨hr,hq⟩,?_,rfl⟩;obtain⟨a1,a2,a3,a4,a5,a6,a7,a8⟩:=hR;intro n hn;simp only[batN,List.mem_cons,List.not_mem_nil,or_false]at hn
 rcases hn with rfl|rfl|rfl|rfl|rfl|rfl|rfl|rfl<;>assumption
theorem zOl:∀n cs y,DataW.trod enc Jd w 0 spare held n 3 cs=some y→zEf 3 y.1→(∀x∈y.2,x.block<w.heap.size)→∃x:Int,RInt cs x∧Rn x:=fun n cs y h _ _=>zBi Tryz.underlying3 h
theorem zPy:∀n cs y,DataW.trod enc Jd w 0 spare held n 25 cs=some y→zEf 25 y.1→(∀x∈y.2,x.block<w.heap.size)→
 ∃(l:List BtR) (c:Int) (ch:List Int) (vB vC:Value),cs=[vB,I O c,vC]∧Rn c∧RowsOf (fun _ cs x=>RBt cs x) (· <w.heap.size) w vB 12 l∧(∀x∈l,QBt w x)∧RowsOf (fun _ cs x=>RInt cs x) (· <w.heap.size) w vC 1 ch∧(∀v∈ch,Rn v):=by
 intro n cs y hf hl hN;obtain⟨hc,m,hg⟩:=zCA Tryz.underlying25 hf hl hN;rw[zRj]at hc
 match cs,hc with
 |[c0,c1,c2],_=>
  obtain⟨z0,g0,l0,n0⟩:=hg 0 _ rfl;have g0:DataW.trod enc Jd w 0 spare held m 22 (Jq (Tryz.prog.cellsOf 22) (List.drop 0 [c0,c1,c2]))=some z0:=g0;rw[zRm]at g0;obtain⟨z1,g1,l1,n1⟩:=hg 1 _ rfl;have g1:DataW.trod enc Jd w 0 spare held m 3 (Jq (Tryz.prog.cellsOf 3) (List.drop 1 [c0,c1,c2]))=some z1:=g1;rw[zLC]at g1;obtain⟨z2,g2,l2,n2⟩:=hg 2 _ rfl;have g2:DataW.trod enc Jd w 0 spare held m 23 (Jq (Tryz.prog.cellsOf 23) (List.drop 2 [c0,c1,c2]))=some z2:=g2;rw[zRl]at g2;obtain⟨v0,x0,e0,hrq,_,_⟩:=zDZ (R:=fun w' cs x=>(fun _ cs x=>RBt cs x) w' cs x∧QBt w x) (N:=w.heap.size) Tryz.underlying22 zRk dD zQh g0 l0 n0 (Jo _);obtain⟨hr0,hq0⟩:=hrq.part;obtain⟨x1,e1,r1⟩:=zBi Tryz.underlying3 g1;obtain⟨v2,x2,e2,hrq2,_,_⟩:=zDZ (R:=fun w' cs x=>(fun _ cs x=>RInt cs x) w' cs x∧Rn x) (N:=w.heap.size) Tryz.underlying23 zLC dD zOl g2 l2 n2 (Jo _);obtain⟨hr2,hq2⟩:=hrq2.part;simp at e0 e1 e2;subst e0 e1 e2;exact⟨x0,x1,x2,_,_,rfl,r1,hr0,hq0,hr2,hq2⟩
theorem zRR{r:Reach}{b0:Nat}{v:Value}{d:DataW H}{p:List MemPlace}(hv:Value.okWide Jd w r b0 25 v)(h:DataW.Trod enc Jd w 0 spare held 25 v d p)(hl:zEf 25 d)(hN:∀x∈p,x.block<w.heap.size)(hlib:Know.lib.p w (· <w.heap.size)):
 ∃(l:List BtR) (c:Int) (ch:List Int) (qB q:Option Addr) (capB cap:Nat) (K:Know),v=.agg #[Ja qB l.length capB,I O c,Ja q ch.length cap]∧Rn c∧(∀v∈ch,Rn v)∧(∀x∈l,QBt w x)∧K.has Know.lib∧K.has (Know.btrs (Ja qB l.length capB) l)∧K.has (Know.flat RInt (Ja q ch.length cap) 1 ch)∧St w w K []:=by
 obtain⟨cs,rfl,hsz⟩:=okWide_struct Tryz.underlying25 hv;obtain⟨fuel,hf⟩:=h;obtain⟨l,c,ch,vB,vC,ec,rc,hr,hq,hri,hqi⟩:=zPy _ _ _ hf hl hN;obtain⟨c'⟩:=cs;have ec:c'=_:=ec;subst ec;obtain⟨qB,capB,hvB⟩:∃q cap,vB=Ja q l.length cap:=by obtain⟨p,cap,hv,_⟩:=hr;exact⟨p,cap,hv⟩
 obtain⟨q,cap,hvC⟩:∃q cap,vC=Ja q ch.length cap:=by obtain⟨p,cap,hv,_⟩:=hri;exact⟨p,cap,hv⟩
 subst hvB hvC;refine⟨l,c,ch,qB,q,capB,cap,Know.lib.and ((Know.btrs (Ja qB l.length capB) l).and (Know.flat RInt (Ja q ch.length cap) 1 ch)),rfl,rc,hqi,hq,Know.has_left (Know.has_refl _),Know.has_right (Know.has_left (Know.has_refl _)),Know.has_right (Know.has_right (Know.has_refl _)),St.start ⟨hlib,⟨hr,fun x hx=>⟨(hq x hx).1.1,fun y hy=>((hq x hx).1.2 y hy).1⟩⟩,hri⟩⟩
end
end Go.Proofs.YtenojajfacacoaaGreatDoor
namespace Go.Proofs.YtenojajfacacoaaGreatDoor
open Go.RowKit
open Go.Value renaming bool→U, string→Z, slice→Ja, int→I, pointer→Jc
open Go.Ending renaming returned→Jb
open _root_.Nat renaming le_refl→Jo, zero_le→Ji, add_assoc→Jm
open Go.IntKind renaming i64→O
open _root_.Go.Proofs.Tryz renaming prog→Jd
open _root_.List renaming length_cons→Jg, take_of_length_le→Jj, length_take→Jk, length_append→Je, length→Jh, take→Jq, getElem_mem→Jp, length_drop→Jf, length_nil→Jl, length_map→Jn
theorem rr_all(A:Bs)(bs:List BatS)(pv:Nat)(rest:Bs)(pe ps:Int){T:Bs}(tk:ToldOk A T bs pv rest pe ps){W0 w:World}{K:Know}{L:List Res}(h:St W0 w K L):
 Calls Jd 32 #[Z (bb A)] w fun en w'=>∃(q:Option Addr) (cap:Nat) (lr:List BatR),en=Jb (.agg #[Ja q lr.length cap,I O (pv:Nat),I O ps,I O pe])∧lr.map BatR.b=bs∧(∀x∈lr,zFd x)∧St W0 w' (K.and (Know.bats (Ja q lr.length cap) lr)) L:=by
 refine(zOq A tk.len h).mono ?_;rintro en w' ⟨q,cap,lr,V,rs,e,st,rfl,h1,h2,h3,_,_,h5⟩;rw[tk.fin]at h2;have e1:bs=lr.map BatR.b:=congrArg (fun z=>z.1) h2;have e2:pv=V:=congrArg (fun z=>z.2.1) h2;have e3:rest=rs:=congrArg (fun z=>z.2.2.1) h2;have e4:pe=e:=congrArg (fun z=>z.2.2.2) h2;subst e2 e3 e4;have e5:st=ps:=h1.symm.trans tk.stop;subst e5;exact⟨q,cap,lr,rfl,e1.symm,h3,h5⟩
theorem zPr(l:List BatS)(b:BatS):sumE (l++[b])=sumE l+b.enc.length:=by unfold sumE;rw[List.map_append,List.sum_append];simp
theorem zPq(l:List BatS)(b:BatS):sumR (l++[b])=sumR l+b.recs.length:=by unfold sumR;rw[List.map_append,List.sum_append];simp
theorem zKl(lr:List BatR)(k:Nat)(hk:k<lr.length)(x:BatR)(hx:lr[k]=x):(lr.take (k+1)).map BatR.b=(lr.take k).map BatR.b++[x.b]:=by rw[List.take_succ_eq_append_getElem hk,hx,List.map_append];rfl
end Go.Proofs.YtenojajfacacoaaGreatDoor
