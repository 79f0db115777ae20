/- A text. -/
import Derived.Test.YtenojajfacacoaaGreatDoorGReportRawsCard16
import Derived.Test.YtenojajfacacoaaGreatDoorGReportRawsCard7
import Derived.RegionTactic
import Derived.WalkMore
import Derived.Deep.RegionHeld3
import Derived.Deep.DeepCutAuto
import Derived.Test.YtenojajfacacoaaGreatDoorGReportRawsCard8
import Derived.Test.YtenojajfacacoaaGreatDoorGReportRawsCard14
import Derived.Test.YtenojajfacacoaaGreatDoorGReportRawsCard10
import Derived.Test.YtenojajfacacoaaGreatDoorGReportRawsCard12
import Derived.Test.YtenojajfacacoaaGreatDoorGReportRawsCard15
import Derived.Test.YtenojajfacacoaaGreatDoorGReportRawsCard3
import Derived.Test.YtenojajfacacoaaGreatDoorGReportRawsCard11
import Derived.Test.YtenojajfacacoaaGreatDoorCards
import Derived.Test.YtenojajfacacoaaGreatDoorGReportRawsCard1
import Derived.OpenShut
import Derived.MakeChecks
import Derived.LaidMore
import Derived.Lib.LaidTab
import Derived.Stop.LaidErr
/- A text. -/
namespace Go.Proofs.YtenojajfacacoaaGreatDoor
open Go.RowKit
set_option maxHeartbeats 4000000
set_option maxRecDepth 100000
variable {W0 w:World}{K:Know}{L:List Res}
theorem zPs(V e:Int)(st:Int)(hst:st=0)(hV:Rn V)(he:Rn e)(tl:Bs)(htl:zAP 32 [[118,97,108,105,100],numW V,[99,108,101,97,110]]++[10]=tl)(hlib:K.has Know.lib)(h:St W0 w K L):
  Calls Tryz.prog 79 #[.agg #[.int .i64 V,.int .i64 st,.int .i64 e]] w fun en w'=>en=.returned (.string (bb tl))∧St W0 w' K L:=by
 obtain⟨rb,hrb⟩:∃b,w.heap.size=b:=⟨_,rfl⟩;have g1:=h.allocRaw #[.int .i64 V,.int .i64 st,.int .i64 e] 112;rw[hrb]at g1;have z0:=(g1).rawCell 0;have z1:=(g1).rawCell 1;have z2:=(g1).rawCell 2;simp at z0 z1 z2;have H:=hQd g1;have HLIB:=hQd hlib;have HVR:=hQd hV;have HER:=hQd he;obtain⟨d2,hd2⟩:∃t,numW V=t:=⟨_,rfl⟩;obtain⟨d4,hd4⟩:∃t,numW e=t:=⟨_,rfl⟩;obtain⟨t,ht⟩:∃t,zAP 32 [[118,97,108,105,100],d2,[99,108,101,97,110]]=t:=⟨_,rfl⟩;have n2:=zAm V hV;have n4:=zAm e he;have HT:=hQd ht;have HTN:=hQd (show t++[10]=tl by rw[←ht,←htl,←hd2]);have HTL:=hQd (show t.length≤1000000 by rw[←ht];simp only[zAP,List.length_append,List.length_cons,List.length_nil];rw[hd2]at n2;rw[hd4]at n4;omega);have HWL:=hQd (show([[118,97,108,105,100],d2,[99,108,101,97,110]]:List Bs).length≤1000000 by simp);have HD2:=hQd hd2;have HD4:=hQd hd4;subst hst;have t1:True:=trivial;have e1:((0:Int)==0)=true:=rfl;clear h g1 hlib hV he hd2 hd4 ht htl n2 n4;go_enter Tryz.func79,Tryz.ntmps79
 go_wp2_with (first
  |(go_at_call 37;have _t:=t1;clear _t;(with_reducible refine(zBw V HVR.out d2 HD2.out HLIB.out H.out).mono ?_);rintro e_ wn ⟨rfl,h⟩;have z0:=h.rawCell 0;have z1:=h.rawCell 1;have z2:=h.rawCell 2;simp at z0 z1 z2;replace H:=hQd h;clear h;clear t1)
  |(go_at_call 36;have h0:=H.out.allocRaw #[.string ⟨#[118,97,108,105,100]⟩,.string (bb d2),.string ⟨#[99,108,101,97,110]⟩] 9;(with_reducible refine(zCY [[118,97,108,105,100],d2,[99,108,101,97,110]] t tl _ 3 _ rfl rfl HWL.out HT.out HTN.out HTL.out h0).mono ?_);rintro e_ wn ⟨rfl,h⟩;replace H:=hQd h;clear h))
 go_ret;exact⟨rfl,H.out.drop⟩
theorem zPr(V e:Int)(st:Int)(hst:st=1)(hV:Rn V)(he:Rn e)(tl:Bs)(htl:zAP 32 [[118,97,108,105,100],numW V,[116,111,114,110]]++[10]=tl)(hlib:K.has Know.lib)(h:St W0 w K L):
  Calls Tryz.prog 79 #[.agg #[.int .i64 V,.int .i64 st,.int .i64 e]] w fun en w'=>en=.returned (.string (bb tl))∧St W0 w' K L:=by
 obtain⟨rb,hrb⟩:∃b,w.heap.size=b:=⟨_,rfl⟩;have g1:=h.allocRaw #[.int .i64 V,.int .i64 st,.int .i64 e] 112;rw[hrb]at g1;have z0:=(g1).rawCell 0;have z1:=(g1).rawCell 1;have z2:=(g1).rawCell 2;simp at z0 z1 z2;have H:=hQd g1;have HLIB:=hQd hlib;have HVR:=hQd hV;have HER:=hQd he;obtain⟨d2,hd2⟩:∃t,numW V=t:=⟨_,rfl⟩;obtain⟨d4,hd4⟩:∃t,numW e=t:=⟨_,rfl⟩;obtain⟨t,ht⟩:∃t,zAP 32 [[118,97,108,105,100],d2,[116,111,114,110]]=t:=⟨_,rfl⟩;have n2:=zAm V hV;have n4:=zAm e he;have HT:=hQd ht;have HTN:=hQd (show t++[10]=tl by rw[←ht,←htl,←hd2]);have HTL:=hQd (show t.length≤1000000 by rw[←ht];simp only[zAP,List.length_append,List.length_cons,List.length_nil];rw[hd2]at n2;rw[hd4]at n4;omega);have HWL:=hQd (show([[118,97,108,105,100],d2,[116,111,114,110]]:List Bs).length≤1000000 by simp);have HD2:=hQd hd2;have HD4:=hQd hd4;subst hst;have t1:True:=trivial;have e1:((1:Int)==0)=false:=rfl;have e2:((1:Int)==1)=true:=rfl;clear h g1 hlib hV he hd2 hd4 ht htl n2 n4;go_enter Tryz.func79,Tryz.ntmps79
 go_wp2_with (first
  |(go_at_call 37;have _t:=t1;clear _t;(with_reducible refine(zBw V HVR.out d2 HD2.out HLIB.out H.out).mono ?_);rintro e_ wn ⟨rfl,h⟩;have z0:=h.rawCell 0;have z1:=h.rawCell 1;have z2:=h.rawCell 2;simp at z0 z1 z2;replace H:=hQd h;clear h;clear t1)
  |(go_at_call 36;have h0:=H.out.allocRaw #[.string ⟨#[118,97,108,105,100]⟩,.string (bb d2),.string ⟨#[116,111,114,110]⟩] 9;(with_reducible refine(zCY [[118,97,108,105,100],d2,[116,111,114,110]] t tl _ 3 _ rfl rfl HWL.out HT.out HTN.out HTL.out h0).mono ?_);rintro e_ wn ⟨rfl,h⟩;replace H:=hQd h;clear h))
 go_ret;exact⟨rfl,H.out.drop⟩
theorem zPq(V e:Int)(st:Int)(hs0:¬st=0)(hs1:¬st=1)(hV:Rn V)(he:Rn e)(tl:Bs)(htl:zAP 32 [[118,97,108,105,100],numW V,[98,97,100],numW e]++[10]=tl)(hlib:K.has Know.lib)(h:St W0 w K L):
  Calls Tryz.prog 79 #[.agg #[.int .i64 V,.int .i64 st,.int .i64 e]] w fun en w'=>en=.returned (.string (bb tl))∧St W0 w' K L:=by
 obtain⟨rb,hrb⟩:∃b,w.heap.size=b:=⟨_,rfl⟩;have g1:=h.allocRaw #[.int .i64 V,.int .i64 st,.int .i64 e] 112;rw[hrb]at g1;have z0:=(g1).rawCell 0;have z1:=(g1).rawCell 1;have z2:=(g1).rawCell 2;simp at z0 z1 z2;have H:=hQd g1;have HLIB:=hQd hlib;have HVR:=hQd hV;have HER:=hQd he;obtain⟨d2,hd2⟩:∃t,numW V=t:=⟨_,rfl⟩;obtain⟨d4,hd4⟩:∃t,numW e=t:=⟨_,rfl⟩;obtain⟨t,ht⟩:∃t,zAP 32 [[118,97,108,105,100],d2,[98,97,100],d4]=t:=⟨_,rfl⟩;have n2:=zAm V hV;have n4:=zAm e he;have HT:=hQd ht;have HTN:=hQd (show t++[10]=tl by rw[←ht,←htl,←hd2,←hd4]);have HTL:=hQd (show t.length≤1000000 by rw[←ht];simp only[zAP,List.length_append,List.length_cons,List.length_nil];rw[hd2]at n2;rw[hd4]at n4;omega);have HWL:=hQd (show([[118,97,108,105,100],d2,[98,97,100],d4]:List Bs).length≤1000000 by simp);have HD2:=hQd hd2;have HD4:=hQd hd4;have t1:True:=trivial;have e1:(st==0)=false:=by rw[beq_eq_false_iff_ne];exact hs0
 have e2:(st==1)=false:=by rw[beq_eq_false_iff_ne];exact hs1
 clear h g1 hlib hV he hd2 hd4 ht htl n2 n4 hs0 hs1;go_enter Tryz.func79,Tryz.ntmps79
 go_wp2_with (first
  |(go_at_call 37;have _t:=t1;clear _t;(with_reducible refine(zBw V HVR.out d2 HD2.out HLIB.out H.out).mono ?_);rintro e_ wn ⟨rfl,h⟩;have z0:=h.rawCell 0;have z1:=h.rawCell 1;have z2:=h.rawCell 2;simp at z0 z1 z2;replace H:=hQd h;clear h;clear t1)
  |(go_at_call 37;(with_reducible refine(zBw e HER.out d4 HD4.out HLIB.out H.out).mono ?_);rintro e_ wn ⟨rfl,h⟩;replace H:=hQd h;clear h)
  |(go_at_call 36;have h0:=H.out.allocRaw #[.string ⟨#[118,97,108,105,100]⟩,.string (bb d2),.string ⟨#[98,97,100]⟩,.string (bb d4)] 9;(with_reducible refine(zCY [[118,97,108,105,100],d2,[98,97,100],d4] t tl _ 4 _ rfl rfl HWL.out HT.out HTN.out HTL.out h0).mono ?_);rintro e_ wn ⟨rfl,h⟩;replace H:=hQd h;clear h))
 go_ret;exact⟨rfl,H.out.drop⟩
theorem rp_end(V st e:Int)(hV:Rn V)(he:Rn e)(tl:Bs)(htl:endT V st e=tl)(hlib:K.has Know.lib)(h:St W0 w K L):
   Calls Tryz.prog 79 #[.agg #[.int .i64 V,.int .i64 st,.int .i64 e]] w fun en w'=>en=.returned (.string (bb tl))∧St W0 w' K L:=by
 unfold endT endW at htl
 by_cases h0:st=0
 · rw[if_pos h0]at htl;exact zPs V e st h0 hV he tl htl hlib h
 by_cases h1:st=1
 · rw[if_neg h0,if_pos h1]at htl;exact zPr V e st h1 hV he tl htl hlib h
 · rw[if_neg h0,if_neg h1]at htl;exact zPq V e st h0 h1 hV he tl htl hlib h
variable {W0 w:World}{K:Know}{L:List Res}
theorem zq41{p:Prop}(h:p:=by first|rfl|(rw[World.size_alloc];rfl)|(rw[World.size_alloc,heb];rfl)):p:=h
theorem zIk(b:BatS)(l:List (RecS×Value))(q:Option Addr)(cap:Nat)(hl:l.map (·.1)=b.recs)(n1 n2 n3 n4 n5:Int)(he:zB5 b=(n1,n2,n3,n4,n5,false))(so:EncOk b)(tl:Bs)(htl:zA9 b=tl)(hlib:K.has Know.lib)(hk:K.has (Know.recs (.slice q l.length cap) l))(h:St W0 w K L):
   Calls Tryz.prog 77 #[.agg #[.int .i64 b.base,.int .i64 b.leader,.bool b.app,.bool b.txn,.bool b.ctl,.int .i64 b.last,.int .i64 b.first,.int .i64 b.maxt,.int .i64 b.prod,.int .i64 b.epoch,.int .i64 b.seq,.slice q l.length cap]] w fun en w'=>en=.returned (.string (bb tl))∧St W0 w' K L:=by
 obtain⟨tb,htb⟩:∃b,w.heap.size=b:=⟨_,rfl⟩;have g1:=h.allocRaw #[.int .i64 b.base,.int .i64 b.leader,.bool b.app,.bool b.txn,.bool b.ctl,.int .i64 b.last,.int .i64 b.first,.int .i64 b.maxt,.int .i64 b.prod,.int .i64 b.epoch,.int .i64 b.seq,.slice q l.length cap] 30;rw[htb]at g1;obtain⟨d1,hd1⟩:∃t,numW b.base=t:=⟨_,rfl⟩;obtain⟨d2,hd2⟩:∃t,numW b.prod=t:=⟨_,rfl⟩;obtain⟨d3,hd3⟩:∃t,numW (l.length:Int)=t:=⟨_,rfl⟩;obtain⟨d5,hd5⟩:∃t,numW n5=t:=⟨_,rfl⟩;obtain⟨t,ht⟩:∃t,zAP 32 [[98,97,116,99,104],d1,d2,d3,[100,97,116,97]]=t:=⟨_,rfl⟩;have hR:=so.rng;have hlen:(b.recs.length:Int)=(l.length:Int):=by rw[←hl,List.length_map]
 have hll:=so.llen hl;have r1:Rn b.base:=hR.1;have r2:Rn b.prod:=hR.2.2.2.2.2.1;have r3:Rn (l.length:Int):=by unfold Rn;omega
 have r5:=zDk he;have m1:=zAm _ r1;have m2:=zAm _ r2;have m3:=zAm _ r3;have m5:=zAm _ r5;rw[hd1]at m1;rw[hd2]at m2;rw[hd3]at m3;rw[hd5]at m5;have HT:=hQd ht
 have HTN:=hQd (show t++[10]=tl by
   rw[←ht,←htl];unfold zA9 zIW;rw[zFa he,hlen,hd1,hd2,hd3]
   rfl)
 have HTL:=hQd (show t.length≤1000000 by rw[←ht];simp only[zAP,List.length_append,List.length_cons,List.length_nil];omega);have HWL:=hQd (show([[98,97,116,99,104],d1,d2,d3,[100,97,116,97]]:List Bs).length≤1000000 by simp);have HP:=hQd (show 0<4+1 by omega);have HRB:=hQd r1;have HRP:=hQd r2;have HRL:=hQd r3;have HR5:=hQd r5;have HD1:=hQd hd1;have HD2:=hQd hd2;have HD3:=hQd hd3;have HD5:=hQd hd5;have HL:=hQd hl;have HE:=hQd he;have HSO:=hQd so;have HK:=hQd hk;have HLIB:=hQd hlib;have KP:=hQd (show ∀(w':World) (L':List Res),St W0 w' K (.raw tb #[.int .i64 b.base,.int .i64 b.leader,.bool b.app,.bool b.txn,.bool b.ctl,.int .i64 b.last,.int .i64 b.first,.int .i64 b.maxt,.int .i64 b.prod,.int .i64 b.epoch,.int .i64 b.seq,.slice q l.length cap] 30::L')→(w'.cell? ⟨tb,0,none⟩=some (.int .i64 b.base)∧w'.cell? ⟨tb,8,none⟩=some (.int .i64 b.prod)∧w'.cell? ⟨tb,11,none⟩=some (.slice q l.length cap))from fun w' L' h'=>⟨h'.rawCell 0,h'.rawCell 8,h'.rawCell 11⟩);have H:=hQd g1;clear h g1 hlib hk hl he so htl hd1 hd2 hd3 hd5 ht hR hlen hll r1 r2 r3 r5 m1 m2 m3 m5;go_enter Tryz.func77,Tryz.ntmps77;go_upto_region 1 with fail;have hs:=H.out.drew;clear H;refine wp_region_held_drew (S:=fun w'=>w'.cell? ⟨tb,0,none⟩=some (.int .i64 b.base)∧w'.cell? ⟨tb,8,none⟩=some (.int .i64 b.prod)∧w'.cell? ⟨tb,11,none⟩=some (.slice q l.length cap)) (by kernel_rfl) (KP.out _ _ hs) (fun hHeld=> ?_);refine tQ 0 ⟨some 7,.fieldAddr 30 (.tmp 1) 0,0,_,_,none⟩ ?_;simp only[Act.put,sA,sB,sC];refine tQ 1 ⟨some 8,.load 3 (.tmp 7),3,_,_,none⟩ ?_;simp only[Act.put,sA,sB,sC];refine tQ 3 ⟨some 10,.fieldAddr 30 (.tmp 1) 8,0,_,_,none⟩ ?_;simp only[Act.put,sA,sB,sC];refine tQ 4 ⟨some 11,.load 3 (.tmp 10),3,_,_,none⟩ ?_;simp only[Act.put,sA,sB,sC];refine tQ 6 ⟨some 13,.fieldAddr 30 (.tmp 1) 11,0,_,_,none⟩ ?_;simp only[Act.put,sA,sB,sC];refine tQ 7 ⟨some 14,.load 28 (.tmp 13),28,_,_,none⟩ ?_;simp only[Act.put,sA,sB,sC];refine tQ 8 ⟨some 15,.call {callee:=.builtin .len,args:= #[.tmp 14],argTypes:= #[28]},3,_,_,none⟩ ?_;simp only[Act.put,sA,sB,sC];refine wpAnyH_ready (rs:=[2]) (by kernel_rfl) (by simp) (AllReadyH.cons (o:=⟨some 9,.call {callee:=.value (.func 37),args:= #[.tmp 8],argTypes:= #[3]},9,_,_,none⟩) rfl (fun KK hK=> ?_) AllReadyH.nil);go_simp;go_at_call 37;with_reducible refine(zBw b.base HRB.out d1 HD1.out HLIB.out hs).mono ?_;rintro e wq ⟨rfl,hs⟩;refine hK.out _ _ (KP.out _ _ hs) (fun hHeld=> ?_);clear hK KK
 try simp only[Act.put,sA,sB,sC]
 refine wpAnyH_ready (rs:=[5]) (by kernel_rfl) (by simp) (AllReadyH.cons (o:=⟨some 12,.call {callee:=.value (.func 37),args:= #[.tmp 11],argTypes:= #[3]},9,_,_,none⟩) rfl (fun KK hK=> ?_) AllReadyH.nil)
 · go_simp;go_at_call 37;with_reducible refine(zBw b.prod HRP.out d2 HD2.out HLIB.out hs).mono ?_;rintro e wq ⟨rfl,hs⟩;refine hK.out _ _ (KP.out _ _ hs) (fun hHeld=> ?_);clear hK KK
   try simp only[Act.put,sA,sB,sC]
   refine wpAnyH_ready (rs:=[9]) (by kernel_rfl) (by simp) (AllReadyH.cons (o:=⟨some 16,.call {callee:=.value (.func 37),args:= #[.tmp 15],argTypes:= #[3]},9,_,_,none⟩) rfl (fun KK hK=> ?_) AllReadyH.nil)
   · go_simp;go_at_call 37;with_reducible refine(zBw (l.length:Int) HRL.out d3 HD3.out HLIB.out hs).mono ?_;rintro e wq ⟨rfl,hs⟩;refine hK.out _ _ (KP.out _ _ hs) (fun hHeld=> ?_);clear hK KK
     try simp only[Act.put,sA,sB,sC]
     refine wpAnyH_ready (rs:=[10]) (by kernel_rfl) (by simp) (AllReadyH.cons (o:=⟨some 17,.buildSlice 69 4 #[(0,.const (Value.string {data:= #[98,97,116,99,104]})),(1,.tmp 9),(2,.tmp 12),(3,.tmp 16)],69,_,_,none⟩) rfl (fun KK hK=> ?_) AllReadyH.nil)
     · rw[if_pos (by rfl)];refine zEZ (zCP _ _ _ _ (by kernel_rfl) (zKg ⟨#[98,97,116,99,104]⟩ (bb d1) (bb d2) (bb d3) _)) ?_;obtain⟨wy,nb,ey,eb,hs⟩:=hs.rowLitEx [.string ⟨#[98,97,116,99,104]⟩,.string (bb d1),.string (bb d2),.string (bb d3)] 9 1 4 rfl (by unfold maxLen;omega);rw[ey,eb];clear ey eb;refine hK.out _ _ (KP.out _ _ hs.p1) (fun hHeld=> ?_);clear hK KK
       try simp only[Act.put,sA,sB,sC]
       refine tQ 11 ⟨some 3,.assign (.tmp 17),69,_,_,none⟩ ?_;simp only[Act.put,sA,sB,sC];refine wpAnyH_done (by kernel_rfl) ?_ _;clear hHeld;have y0:=hs.p1.rawCell 0;have y1:=hs.p1.rawCell 1;have y2:=hs.p1.rawCell 2;have y3:=hs.p1.rawCell 3;have y4:=hs.p1.rawCell 4;have y5:=hs.p1.rawCell 5;have y6:=hs.p1.rawCell 6;have y7:=hs.p1.rawCell 7;have y8:=hs.p1.rawCell 8;have y9:=hs.p1.rawCell 9;have y10:=hs.p1.rawCell 10;have y11:=hs.p1.rawCell 11;simp at y0 y1 y2 y3 y4 y5 y6 y7 y8 y9 y10 y11;have H:=hQd hs;clear hs
       go_wp2_with (first
 |(go_at_call 108;(try clear y0 y1 y2 y3 y4 y5 y6 y7 y8 y9 y10 y11);(with_reducible refine(zFX b l q cap HL.out n1 n2 n3 n4 n5 _ HE.out HSO.out HK.out H.out).mono ?_);rintro e_ wn ⟨rfl,h⟩;obtain⟨eb,heb⟩:∃y,wn.heap.size=y:=⟨_,rfl⟩;have h:=h.allocRaw #[.int .i64 n1,.int .i64 n2,.int .i64 n3,.int .i64 n4,.int .i64 n5] 161;rw[heb]at h;have f2:=h.rawCell 2;have f4:=h.rawCell 4;simp at f2 f4;replace H:=hQd h;clear h)
 |(at_builtin;refine zAB rfl _ _ 69 rfl 9 Tryz.underlying69 zF7 _ _ _ rfl H.out.p1 [.string ⟨#[100,97,116,97]⟩] 9 zq41 rfl (by simp[Value.oneCell']) (by unfold maxLen;omega) (by omega) ?_;intro v' w' h;obtain⟨wb2,cv2,hv⟩:=h.rowSlice (by omega);subst hv;replace H:=hQd h;clear h)
 |(go_at_call 36;(with_reducible refine(zHi [[98,97,116,99,104],d1,d2,d3,[100,97,116,97]] t tl wb2 (4+1) cv2 _ rfl rfl HP.out HWL.out HT.out HTN.out HTL.out H.out).mono ?_);rintro e_ wn ⟨rfl,h⟩;replace H:=hQd h;clear h))
       go_ret;exact⟨rfl,H.out.drop.drop⟩
theorem zGk(b:BatS)(l:List (RecS×Value))(q:Option Addr)(cap:Nat)(hl:l.map (·.1)=b.recs)(n1 n2 n3 n4 n5:Int)(he:zB5 b=(n1,n2,n3,n4,n5,true))(hk1:n3=1)(so:EncOk b)(tl:Bs)(htl:zA9 b=tl)(hlib:K.has Know.lib)(hk:K.has (Know.recs (.slice q l.length cap) l))(h:St W0 w K L):
   Calls Tryz.prog 77 #[.agg #[.int .i64 b.base,.int .i64 b.leader,.bool b.app,.bool b.txn,.bool b.ctl,.int .i64 b.last,.int .i64 b.first,.int .i64 b.maxt,.int .i64 b.prod,.int .i64 b.epoch,.int .i64 b.seq,.slice q l.length cap]] w fun en w'=>en=.returned (.string (bb tl))∧St W0 w' K L:=by
 obtain⟨tb,htb⟩:∃b,w.heap.size=b:=⟨_,rfl⟩;have g1:=h.allocRaw #[.int .i64 b.base,.int .i64 b.leader,.bool b.app,.bool b.txn,.bool b.ctl,.int .i64 b.last,.int .i64 b.first,.int .i64 b.maxt,.int .i64 b.prod,.int .i64 b.epoch,.int .i64 b.seq,.slice q l.length cap] 30;rw[htb]at g1;obtain⟨d1,hd1⟩:∃t,numW b.base=t:=⟨_,rfl⟩;obtain⟨d2,hd2⟩:∃t,numW b.prod=t:=⟨_,rfl⟩;obtain⟨d3,hd3⟩:∃t,numW (l.length:Int)=t:=⟨_,rfl⟩;obtain⟨d5,hd5⟩:∃t,numW n5=t:=⟨_,rfl⟩;obtain⟨t,ht⟩:∃t,zAP 32 [[98,97,116,99,104],d1,d2,d3,[99,111,109,109,105,116],d5]=t:=⟨_,rfl⟩;have hR:=so.rng;have hlen:(b.recs.length:Int)=(l.length:Int):=by rw[←hl,List.length_map]
 have hll:=so.llen hl;have r1:Rn b.base:=hR.1;have r2:Rn b.prod:=hR.2.2.2.2.2.1;have r3:Rn (l.length:Int):=by unfold Rn;omega
 have r5:=zDk he;have m1:=zAm _ r1;have m2:=zAm _ r2;have m3:=zAm _ r3;have m5:=zAm _ r5;rw[hd1]at m1;rw[hd2]at m2;rw[hd3]at m3;rw[hd5]at m5;have HT:=hQd ht
 have HTN:=hQd (show t++[10]=tl by
   rw[←ht,←htl];unfold zA9 zIW;rw[zDd he hk1,hlen,hd1,hd2,hd3,hd5]
   rfl)
 have HTL:=hQd (show t.length≤1000000 by rw[←ht];simp only[zAP,List.length_append,List.length_cons,List.length_nil];omega);have HWL:=hQd (show([[98,97,116,99,104],d1,d2,d3,[99,111,109,109,105,116],d5]:List Bs).length≤1000000 by simp);have HP:=hQd (show 0<4+2 by omega);have HRB:=hQd r1;have HRP:=hQd r2;have HRL:=hQd r3;have HR5:=hQd r5;have HD1:=hQd hd1;have HD2:=hQd hd2;have HD3:=hQd hd3;have HD5:=hQd hd5;have HL:=hQd hl;have HE:=hQd he;have HSO:=hQd so;have HK:=hQd hk;have HLIB:=hQd hlib;have KP:=hQd (show ∀(w':World) (L':List Res),St W0 w' K (.raw tb #[.int .i64 b.base,.int .i64 b.leader,.bool b.app,.bool b.txn,.bool b.ctl,.int .i64 b.last,.int .i64 b.first,.int .i64 b.maxt,.int .i64 b.prod,.int .i64 b.epoch,.int .i64 b.seq,.slice q l.length cap] 30::L')→(w'.cell? ⟨tb,0,none⟩=some (.int .i64 b.base)∧w'.cell? ⟨tb,8,none⟩=some (.int .i64 b.prod)∧w'.cell? ⟨tb,11,none⟩=some (.slice q l.length cap))from fun w' L' h'=>⟨h'.rawCell 0,h'.rawCell 8,h'.rawCell 11⟩);have e1:(n3==1)=true:=by rw[beq_iff_eq];exact hk1
 have H:=hQd g1;clear h g1 hlib hk hl he so htl hd1 hd2 hd3 hd5 ht hR hlen hll r1 r2 r3 r5 m1 m2 m3 m5 hk1;go_enter Tryz.func77,Tryz.ntmps77;go_upto_region 1 with fail;have hs:=H.out.drew;clear H;refine wp_region_held_drew (S:=fun w'=>w'.cell? ⟨tb,0,none⟩=some (.int .i64 b.base)∧w'.cell? ⟨tb,8,none⟩=some (.int .i64 b.prod)∧w'.cell? ⟨tb,11,none⟩=some (.slice q l.length cap)) (by kernel_rfl) (KP.out _ _ hs) (fun hHeld=> ?_);refine tQ 0 ⟨some 7,.fieldAddr 30 (.tmp 1) 0,0,_,_,none⟩ ?_;simp only[Act.put,sA,sB,sC];refine tQ 1 ⟨some 8,.load 3 (.tmp 7),3,_,_,none⟩ ?_;simp only[Act.put,sA,sB,sC];refine tQ 3 ⟨some 10,.fieldAddr 30 (.tmp 1) 8,0,_,_,none⟩ ?_;simp only[Act.put,sA,sB,sC];refine tQ 4 ⟨some 11,.load 3 (.tmp 10),3,_,_,none⟩ ?_;simp only[Act.put,sA,sB,sC];refine tQ 6 ⟨some 13,.fieldAddr 30 (.tmp 1) 11,0,_,_,none⟩ ?_;simp only[Act.put,sA,sB,sC];refine tQ 7 ⟨some 14,.load 28 (.tmp 13),28,_,_,none⟩ ?_;simp only[Act.put,sA,sB,sC];refine tQ 8 ⟨some 15,.call {callee:=.builtin .len,args:= #[.tmp 14],argTypes:= #[28]},3,_,_,none⟩ ?_;simp only[Act.put,sA,sB,sC];refine wpAnyH_ready (rs:=[2]) (by kernel_rfl) (by simp) (AllReadyH.cons (o:=⟨some 9,.call {callee:=.value (.func 37),args:= #[.tmp 8],argTypes:= #[3]},9,_,_,none⟩) rfl (fun KK hK=> ?_) AllReadyH.nil);go_simp;go_at_call 37;with_reducible refine(zBw b.base HRB.out d1 HD1.out HLIB.out hs).mono ?_;rintro e wq ⟨rfl,hs⟩;refine hK.out _ _ (KP.out _ _ hs) (fun hHeld=> ?_);clear hK KK
 try simp only[Act.put,sA,sB,sC]
 refine wpAnyH_ready (rs:=[5]) (by kernel_rfl) (by simp) (AllReadyH.cons (o:=⟨some 12,.call {callee:=.value (.func 37),args:= #[.tmp 11],argTypes:= #[3]},9,_,_,none⟩) rfl (fun KK hK=> ?_) AllReadyH.nil)
 · go_simp;go_at_call 37;with_reducible refine(zBw b.prod HRP.out d2 HD2.out HLIB.out hs).mono ?_;rintro e wq ⟨rfl,hs⟩;refine hK.out _ _ (KP.out _ _ hs) (fun hHeld=> ?_);clear hK KK
   try simp only[Act.put,sA,sB,sC]
   refine wpAnyH_ready (rs:=[9]) (by kernel_rfl) (by simp) (AllReadyH.cons (o:=⟨some 16,.call {callee:=.value (.func 37),args:= #[.tmp 15],argTypes:= #[3]},9,_,_,none⟩) rfl (fun KK hK=> ?_) AllReadyH.nil)
   · go_simp;go_at_call 37;with_reducible refine(zBw (l.length:Int) HRL.out d3 HD3.out HLIB.out hs).mono ?_;rintro e wq ⟨rfl,hs⟩;refine hK.out _ _ (KP.out _ _ hs) (fun hHeld=> ?_);clear hK KK
     try simp only[Act.put,sA,sB,sC]
     refine wpAnyH_ready (rs:=[10]) (by kernel_rfl) (by simp) (AllReadyH.cons (o:=⟨some 17,.buildSlice 69 4 #[(0,.const (Value.string {data:= #[98,97,116,99,104]})),(1,.tmp 9),(2,.tmp 12),(3,.tmp 16)],69,_,_,none⟩) rfl (fun KK hK=> ?_) AllReadyH.nil)
     · rw[if_pos (by rfl)];refine zEZ (zCP _ _ _ _ (by kernel_rfl) (zKg ⟨#[98,97,116,99,104]⟩ (bb d1) (bb d2) (bb d3) _)) ?_;obtain⟨wy,nb,ey,eb,hs⟩:=hs.rowLitEx [.string ⟨#[98,97,116,99,104]⟩,.string (bb d1),.string (bb d2),.string (bb d3)] 9 1 4 rfl (by unfold maxLen;omega);rw[ey,eb];clear ey eb;refine hK.out _ _ (KP.out _ _ hs.p1) (fun hHeld=> ?_);clear hK KK
       try simp only[Act.put,sA,sB,sC]
       refine tQ 11 ⟨some 3,.assign (.tmp 17),69,_,_,none⟩ ?_;simp only[Act.put,sA,sB,sC];refine wpAnyH_done (by kernel_rfl) ?_ _;clear hHeld;have y0:=hs.p1.rawCell 0;have y1:=hs.p1.rawCell 1;have y2:=hs.p1.rawCell 2;have y3:=hs.p1.rawCell 3;have y4:=hs.p1.rawCell 4;have y5:=hs.p1.rawCell 5;have y6:=hs.p1.rawCell 6;have y7:=hs.p1.rawCell 7;have y8:=hs.p1.rawCell 8;have y9:=hs.p1.rawCell 9;have y10:=hs.p1.rawCell 10;have y11:=hs.p1.rawCell 11;simp at y0 y1 y2 y3 y4 y5 y6 y7 y8 y9 y10 y11;have H:=hQd hs;clear hs
       go_wp2_with (first
 |(go_at_call 108;(try clear y0 y1 y2 y3 y4 y5 y6 y7 y8 y9 y10 y11);(with_reducible refine(zFX b l q cap HL.out n1 n2 n3 n4 n5 _ HE.out HSO.out HK.out H.out).mono ?_);rintro e_ wn ⟨rfl,h⟩;obtain⟨eb,heb⟩:∃y,wn.heap.size=y:=⟨_,rfl⟩;have h:=h.allocRaw #[.int .i64 n1,.int .i64 n2,.int .i64 n3,.int .i64 n4,.int .i64 n5] 161;rw[heb]at h;have f2:=h.rawCell 2;have f4:=h.rawCell 4;simp at f2 f4;replace H:=hQd h;clear h)
 |(go_at_call 37;(with_reducible refine(zBw n5 HR5.out d5 HD5.out HLIB.out H.out).mono ?_);rintro e_ wn ⟨rfl,h⟩;replace H:=hQd h;clear h)
 |(at_builtin;refine zE6 rfl _ _ 69 rfl 9 Tryz.underlying69 zF7 _ _ _ rfl H.out.p1 2 [.string ⟨#[99,111,109,109,105,116]⟩,.string (bb d5)] 9 zq41 rfl (by simp[Value.oneCell']) (by unfold maxLen;omega) (by omega) ?_;intro v' w' h;obtain⟨wb2,cv2,hv⟩:=h.rowSlice (by omega);subst hv;replace H:=hQd h;clear h)
 |(go_at_call 36;(with_reducible refine(zHi [[98,97,116,99,104],d1,d2,d3,[99,111,109,109,105,116],d5] t tl wb2 (4+2) cv2 _ rfl rfl HP.out HWL.out HT.out HTN.out HTL.out H.out).mono ?_);rintro e_ wn ⟨rfl,h⟩;replace H:=hQd h;clear h))
       go_ret;exact⟨rfl,H.out.drop.drop⟩
theorem zHh(b:BatS)(l:List (RecS×Value))(q:Option Addr)(cap:Nat)(hl:l.map (·.1)=b.recs)(n1 n2 n3 n4 n5:Int)(he:zB5 b=(n1,n2,n3,n4,n5,true))(hk1:¬n3=1)(so:EncOk b)(tl:Bs)(htl:zA9 b=tl)(hlib:K.has Know.lib)(hk:K.has (Know.recs (.slice q l.length cap) l))(h:St W0 w K L):
   Calls Tryz.prog 77 #[.agg #[.int .i64 b.base,.int .i64 b.leader,.bool b.app,.bool b.txn,.bool b.ctl,.int .i64 b.last,.int .i64 b.first,.int .i64 b.maxt,.int .i64 b.prod,.int .i64 b.epoch,.int .i64 b.seq,.slice q l.length cap]] w fun en w'=>en=.returned (.string (bb tl))∧St W0 w' K L:=by
 obtain⟨tb,htb⟩:∃b,w.heap.size=b:=⟨_,rfl⟩;have g1:=h.allocRaw #[.int .i64 b.base,.int .i64 b.leader,.bool b.app,.bool b.txn,.bool b.ctl,.int .i64 b.last,.int .i64 b.first,.int .i64 b.maxt,.int .i64 b.prod,.int .i64 b.epoch,.int .i64 b.seq,.slice q l.length cap] 30;rw[htb]at g1;obtain⟨d1,hd1⟩:∃t,numW b.base=t:=⟨_,rfl⟩;obtain⟨d2,hd2⟩:∃t,numW b.prod=t:=⟨_,rfl⟩;obtain⟨d3,hd3⟩:∃t,numW (l.length:Int)=t:=⟨_,rfl⟩;obtain⟨d5,hd5⟩:∃t,numW n5=t:=⟨_,rfl⟩;obtain⟨t,ht⟩:∃t,zAP 32 [[98,97,116,99,104],d1,d2,d3,[97,98,111,114,116],d5]=t:=⟨_,rfl⟩;have hR:=so.rng;have hlen:(b.recs.length:Int)=(l.length:Int):=by rw[←hl,List.length_map]
 have hll:=so.llen hl;have r1:Rn b.base:=hR.1;have r2:Rn b.prod:=hR.2.2.2.2.2.1;have r3:Rn (l.length:Int):=by unfold Rn;omega
 have r5:=zDk he;have m1:=zAm _ r1;have m2:=zAm _ r2;have m3:=zAm _ r3;have m5:=zAm _ r5;rw[hd1]at m1;rw[hd2]at m2;rw[hd3]at m3;rw[hd5]at m5;have HT:=hQd ht
 have HTN:=hQd (show t++[10]=tl by
   rw[←ht,←htl];unfold zA9 zIW;rw[zDX he hk1,hlen,hd1,hd2,hd3,hd5]
   rfl)
 have HTL:=hQd (show t.length≤1000000 by rw[←ht];simp only[zAP,List.length_append,List.length_cons,List.length_nil];omega);have HWL:=hQd (show([[98,97,116,99,104],d1,d2,d3,[97,98,111,114,116],d5]:List Bs).length≤1000000 by simp);have HP:=hQd (show 0<4+2 by omega);have HRB:=hQd r1;have HRP:=hQd r2;have HRL:=hQd r3;have HR5:=hQd r5;have HD1:=hQd hd1;have HD2:=hQd hd2;have HD3:=hQd hd3;have HD5:=hQd hd5;have HL:=hQd hl;have HE:=hQd he;have HSO:=hQd so;have HK:=hQd hk;have HLIB:=hQd hlib;have KP:=hQd (show ∀(w':World) (L':List Res),St W0 w' K (.raw tb #[.int .i64 b.base,.int .i64 b.leader,.bool b.app,.bool b.txn,.bool b.ctl,.int .i64 b.last,.int .i64 b.first,.int .i64 b.maxt,.int .i64 b.prod,.int .i64 b.epoch,.int .i64 b.seq,.slice q l.length cap] 30::L')→(w'.cell? ⟨tb,0,none⟩=some (.int .i64 b.base)∧w'.cell? ⟨tb,8,none⟩=some (.int .i64 b.prod)∧w'.cell? ⟨tb,11,none⟩=some (.slice q l.length cap))from fun w' L' h'=>⟨h'.rawCell 0,h'.rawCell 8,h'.rawCell 11⟩);have e1:(n3==1)=false:=by rw[beq_eq_false_iff_ne];exact hk1
 have H:=hQd g1;clear h g1 hlib hk hl he so htl hd1 hd2 hd3 hd5 ht hR hlen hll r1 r2 r3 r5 m1 m2 m3 m5 hk1;go_enter Tryz.func77,Tryz.ntmps77;go_upto_region 1 with fail;have hs:=H.out.drew;clear H;refine wp_region_held_drew (S:=fun w'=>w'.cell? ⟨tb,0,none⟩=some (.int .i64 b.base)∧w'.cell? ⟨tb,8,none⟩=some (.int .i64 b.prod)∧w'.cell? ⟨tb,11,none⟩=some (.slice q l.length cap)) (by kernel_rfl) (KP.out _ _ hs) (fun hHeld=> ?_);refine tQ 0 ⟨some 7,.fieldAddr 30 (.tmp 1) 0,0,_,_,none⟩ ?_;simp only[Act.put,sA,sB,sC];refine tQ 1 ⟨some 8,.load 3 (.tmp 7),3,_,_,none⟩ ?_;simp only[Act.put,sA,sB,sC];refine tQ 3 ⟨some 10,.fieldAddr 30 (.tmp 1) 8,0,_,_,none⟩ ?_;simp only[Act.put,sA,sB,sC];refine tQ 4 ⟨some 11,.load 3 (.tmp 10),3,_,_,none⟩ ?_;simp only[Act.put,sA,sB,sC];refine tQ 6 ⟨some 13,.fieldAddr 30 (.tmp 1) 11,0,_,_,none⟩ ?_;simp only[Act.put,sA,sB,sC];refine tQ 7 ⟨some 14,.load 28 (.tmp 13),28,_,_,none⟩ ?_;simp only[Act.put,sA,sB,sC];refine tQ 8 ⟨some 15,.call {callee:=.builtin .len,args:= #[.tmp 14],argTypes:= #[28]},3,_,_,none⟩ ?_;simp only[Act.put,sA,sB,sC];refine wpAnyH_ready (rs:=[2]) (by kernel_rfl) (by simp) (AllReadyH.cons (o:=⟨some 9,.call {callee:=.value (.func 37),args:= #[.tmp 8],argTypes:= #[3]},9,_,_,none⟩) rfl (fun KK hK=> ?_) AllReadyH.nil);go_simp;go_at_call 37;with_reducible refine(zBw b.base HRB.out d1 HD1.out HLIB.out hs).mono ?_;rintro e wq ⟨rfl,hs⟩;refine hK.out _ _ (KP.out _ _ hs) (fun hHeld=> ?_);clear hK KK
 try simp only[Act.put,sA,sB,sC]
 refine wpAnyH_ready (rs:=[5]) (by kernel_rfl) (by simp) (AllReadyH.cons (o:=⟨some 12,.call {callee:=.value (.func 37),args:= #[.tmp 11],argTypes:= #[3]},9,_,_,none⟩) rfl (fun KK hK=> ?_) AllReadyH.nil)
 · go_simp;go_at_call 37;with_reducible refine(zBw b.prod HRP.out d2 HD2.out HLIB.out hs).mono ?_;rintro e wq ⟨rfl,hs⟩;refine hK.out _ _ (KP.out _ _ hs) (fun hHeld=> ?_);clear hK KK
   try simp only[Act.put,sA,sB,sC]
   refine wpAnyH_ready (rs:=[9]) (by kernel_rfl) (by simp) (AllReadyH.cons (o:=⟨some 16,.call {callee:=.value (.func 37),args:= #[.tmp 15],argTypes:= #[3]},9,_,_,none⟩) rfl (fun KK hK=> ?_) AllReadyH.nil)
   · go_simp;go_at_call 37;with_reducible refine(zBw (l.length:Int) HRL.out d3 HD3.out HLIB.out hs).mono ?_;rintro e wq ⟨rfl,hs⟩;refine hK.out _ _ (KP.out _ _ hs) (fun hHeld=> ?_);clear hK KK
     try simp only[Act.put,sA,sB,sC]
     refine wpAnyH_ready (rs:=[10]) (by kernel_rfl) (by simp) (AllReadyH.cons (o:=⟨some 17,.buildSlice 69 4 #[(0,.const (Value.string {data:= #[98,97,116,99,104]})),(1,.tmp 9),(2,.tmp 12),(3,.tmp 16)],69,_,_,none⟩) rfl (fun KK hK=> ?_) AllReadyH.nil)
     · rw[if_pos (by rfl)];refine zEZ (zCP _ _ _ _ (by kernel_rfl) (zKg ⟨#[98,97,116,99,104]⟩ (bb d1) (bb d2) (bb d3) _)) ?_;obtain⟨wy,nb,ey,eb,hs⟩:=hs.rowLitEx [.string ⟨#[98,97,116,99,104]⟩,.string (bb d1),.string (bb d2),.string (bb d3)] 9 1 4 rfl (by unfold maxLen;omega);rw[ey,eb];clear ey eb;refine hK.out _ _ (KP.out _ _ hs.p1) (fun hHeld=> ?_);clear hK KK
       try simp only[Act.put,sA,sB,sC]
       refine tQ 11 ⟨some 3,.assign (.tmp 17),69,_,_,none⟩ ?_;simp only[Act.put,sA,sB,sC];refine wpAnyH_done (by kernel_rfl) ?_ _;clear hHeld;have y0:=hs.p1.rawCell 0;have y1:=hs.p1.rawCell 1;have y2:=hs.p1.rawCell 2;have y3:=hs.p1.rawCell 3;have y4:=hs.p1.rawCell 4;have y5:=hs.p1.rawCell 5;have y6:=hs.p1.rawCell 6;have y7:=hs.p1.rawCell 7;have y8:=hs.p1.rawCell 8;have y9:=hs.p1.rawCell 9;have y10:=hs.p1.rawCell 10;have y11:=hs.p1.rawCell 11;simp at y0 y1 y2 y3 y4 y5 y6 y7 y8 y9 y10 y11;have H:=hQd hs;clear hs
       go_wp2_with (first
 |(go_at_call 108;(try clear y0 y1 y2 y3 y4 y5 y6 y7 y8 y9 y10 y11);(with_reducible refine(zFX b l q cap HL.out n1 n2 n3 n4 n5 _ HE.out HSO.out HK.out H.out).mono ?_);rintro e_ wn ⟨rfl,h⟩;obtain⟨eb,heb⟩:∃y,wn.heap.size=y:=⟨_,rfl⟩;have h:=h.allocRaw #[.int .i64 n1,.int .i64 n2,.int .i64 n3,.int .i64 n4,.int .i64 n5] 161;rw[heb]at h;have f2:=h.rawCell 2;have f4:=h.rawCell 4;simp at f2 f4;replace H:=hQd h;clear h)
 |(go_at_call 37;(with_reducible refine(zBw n5 HR5.out d5 HD5.out HLIB.out H.out).mono ?_);rintro e_ wn ⟨rfl,h⟩;replace H:=hQd h;clear h)
 |(at_builtin;refine zE6 rfl _ _ 69 rfl 9 Tryz.underlying69 zF7 _ _ _ rfl H.out.p1 2 [.string ⟨#[97,98,111,114,116]⟩,.string (bb d5)] 9 zq41 rfl (by simp[Value.oneCell']) (by unfold maxLen;omega) (by omega) ?_;intro v' w' h;obtain⟨wb2,cv2,hv⟩:=h.rowSlice (by omega);subst hv;replace H:=hQd h;clear h)
 |(go_at_call 36;(with_reducible refine(zHi [[98,97,116,99,104],d1,d2,d3,[97,98,111,114,116],d5] t tl wb2 (4+2) cv2 _ rfl rfl HP.out HWL.out HT.out HTN.out HTL.out H.out).mono ?_);rintro e_ wn ⟨rfl,h⟩;replace H:=hQd h;clear h))
       go_ret;exact⟨rfl,H.out.drop.drop⟩
theorem zPt(b:BatS)(l:List (RecS×Value))(q:Option Addr)(cap:Nat)(hl:l.map (·.1)=b.recs)(so:EncOk b)(tl:Bs)(htl:zA9 b=tl)(hlib:K.has Know.lib)(hk:K.has (Know.recs (.slice q l.length cap) l))(h:St W0 w K L):
  Calls Tryz.prog 77 #[.agg #[.int .i64 b.base,.int .i64 b.leader,.bool b.app,.bool b.txn,.bool b.ctl,.int .i64 b.last,.int .i64 b.first,.int .i64 b.maxt,.int .i64 b.prod,.int .i64 b.epoch,.int .i64 b.seq,.slice q l.length cap]] w fun en w'=>en=.returned (.string (bb tl))∧St W0 w' K L:=by
 obtain⟨⟨n1,n2,n3,n4,n5,ok⟩,he⟩:∃y,zB5 b=y:=⟨_,rfl⟩
 cases ok with
 |false=>exact zIk b l q cap hl n1 n2 n3 n4 n5 he so tl htl hlib hk h
 |true=>
  by_cases hk1:n3=1
  · exact zGk b l q cap hl n1 n2 n3 n4 n5 he hk1 so tl htl hlib hk h
  · exact zHh b l q cap hl n1 n2 n3 n4 n5 he hk1 so tl htl hlib hk h
set_option maxHeartbeats 8000000
variable {W0 w:World}{K:Know}{L:List Res}
theorem zGy(b:BatS)(l:List (RecS×Value))(q:Option Addr)(cap:Nat)(hl:l.map (·.1)=b.recs)(so:EncOk b)(hk:K.has (Know.recs (.slice q l.length cap) l))(h:St W0 w K L):
    Calls Tryz.prog 48 #[.agg #[.int .i64 b.base,.int .i64 b.leader,.bool b.app,.bool b.txn,.bool b.ctl,.int .i64 b.last,.int .i64 b.first,.int .i64 b.maxt,.int .i64 b.prod,.int .i64 b.epoch,.int .i64 b.seq,.slice q l.length cap]] w fun en w'=>en=.returned (.tuple #[.string (bb b.enc),.int .i64 0])∧St W0 w' K L:=by
  have hrow:=so.rows;have hlen:=so.len;have hcr:=b.crc_lt;have hml:l.length=b.recs.length:=by rw[←hl,List.length_map]
  have f0:=BatS.fitsAll so.err so.rng 0 (by decide) (by omega) (by omega);have f1:=BatS.fitsAll so.err so.rng b.crc (by omega) (by omega) (by omega);have r0:=BatS.pre_R so.err so.rng 0 (by decide) (by omega) (by omega);have r1:=BatS.pre_R so.err so.rng b.crc (by omega) (by omega) (by omega);have hmx:b.first≤9223372036854775807:=by have:=so.rng.2.2.2.1.2;omega
  have e0:b.pre 0=(⟨b.base,49+(b.rowsB.length:Int),b.leader,0,zAQ b.app b.txn b.ctl 3,b.last,b.first,b.maxt,b.prod,b.epoch,b.seq,(l.length:Int)⟩:PreS):=by unfold BatS.pre;rw[hml]
  have e1:b.pre b.crc=(⟨b.base,49+(b.rowsB.length:Int),b.leader,(b.crc:Int),zAQ b.app b.txn b.ctl 3,b.last,b.first,b.maxt,b.prod,b.epoch,b.seq,(l.length:Int)⟩:PreS):=by unfold BatS.pre;rw[hml]
  have i0:=zC1 f0;have i1:=zC1 f1;have hd0:=b.pre_drop 0;have l0:=zA0 (b.pre 0);have l1:=zA0 (b.pre b.crc);have he:zAA ⟨b.base,b.leader,b.app,b.txn,b.ctl,b.last,b.first,b.maxt,b.prod,b.epoch,b.seq,l.map (·.1)⟩=0:=by rw[hl];exact so.err
  have hrc:zBT (l.map (·.1))=0:=by rw[hl];exact(zB7 so.err).2.2.2
  have hrw:zAX l=b.rowsB:=by rw[zCv,hl];rfl
  have hfb:FitB l:=so.fit hl;have hall:zAi (b.pre b.crc).items++b.rowsB=b.enc:=rfl;have hx:(zAq 0#32 ((zAi (b.pre 0).items).drop 21++b.rowsB)).toNat=b.crc:=by rw[hd0];rfl
  rw[e0]at r0 i0;rw[e1]at r1 i1;obtain⟨s0,hs0⟩:∃s,zAi (b.pre 0).items=s:=⟨_,rfl⟩;obtain⟨s1,hs1⟩:∃s,zAi (b.pre b.crc).items=s:=⟨_,rfl⟩;have g0:zAi (⟨b.base,49+(b.rowsB.length:Int),b.leader,0,zAQ b.app b.txn b.ctl 3,b.last,b.first,b.maxt,b.prod,b.epoch,b.seq,(l.length:Int)⟩:PreS).items=s0:=e0 ▸ hs0;have g1:zAi (⟨b.base,49+(b.rowsB.length:Int),b.leader,(b.crc:Int),zAQ b.app b.txn b.ctl 3,b.last,b.first,b.maxt,b.prod,b.epoch,b.seq,(l.length:Int)⟩:PreS).items=s1:=e1 ▸ hs1;rw[g0]at i0;rw[g1]at i1;rw[hs0]at hx l0;rw[hs1]at hall l1;exact zDS b.base b.leader b.app b.txn b.ctl b.last b.first b.maxt b.prod b.epoch b.seq l q cap he hmx hfb (by omega) b.rowsB s0 s1 b.enc b.crc (zAQ b.app b.txn b.ctl 3) hrc hrw (by omega) rfl r0 r1 i0 i1 l0 l1 hx hall hk h
theorem zH0(b:BatS)(l:List (RecS×Value))(q:Option Addr)(cap:Nat)(hl:l.map (·.1)=b.recs)(s:Bs)(hs:b.enc=s)(so:EncOk b)(hk:K.has (Know.recs (.slice q l.length cap) l))(h:St W0 w K L):
  Calls Tryz.prog 48 #[.agg #[.int .i64 b.base,.int .i64 b.leader,.bool b.app,.bool b.txn,.bool b.ctl,.int .i64 b.last,.int .i64 b.first,.int .i64 b.maxt,.int .i64 b.prod,.int .i64 b.epoch,.int .i64 b.seq,.slice q l.length cap]] w fun en w'=>en=.returned (.tuple #[.string (bb s),.int .i64 0])∧St W0 w' K L:=by
 subst hs;exact zGy b l q cap hl so hk h
theorem zK9(b:BatS)(l:List (RecS×Value))(q:Option Addr)(cap:Nat)(hl:l.map (·.1)=b.recs)(so:EncOk b)(hk:K.has (Know.recs (.slice q l.length cap) l))(h:St W0 w K L):
  Calls Tryz.prog 109 #[.agg #[.int .i64 b.base,.int .i64 b.leader,.bool b.app,.bool b.txn,.bool b.ctl,.int .i64 b.last,.int .i64 b.first,.int .i64 b.maxt,.int .i64 b.prod,.int .i64 b.epoch,.int .i64 b.seq,.slice q l.length cap]] w fun en w'=>∃x y:Nat,en=.returned (.complex .f64 x y)∧FI x (ptP b)∧FI y (ptQ b)∧St W0 w' K L:=by
 have H:=hQd (h.allocRaw #[.int .i64 b.base,.int .i64 b.leader,.bool b.app,.bool b.txn,.bool b.ctl,.int .i64 b.last,.int .i64 b.first,.int .i64 b.maxt,.int .i64 b.prod,.int .i64 b.epoch,.int .i64 b.seq,.slice q l.length cap] 30);have HK:=hQd hk;have HL:=hQd hl;have HSO:=hQd so;obtain⟨s,hs⟩:∃s,b.enc=s:=⟨_,rfl⟩;have HS:=hQd hs;have hp:ptP b=(s.length:Int):=by unfold ptP;rw[if_pos so.err,hs]
 have hq:ptQ b=(l.length:Int):=by unfold ptQ;rw[if_pos so.err];exact zKK hl
 rw[hp,hq];have hw1:Wh (s.length:Int):=by have:=so.elen;rw[hs]at this;unfold Wh;omega
 have hw2:Wh (l.length:Int):=by have h1:=so.len;have h2:=zKK hl;unfold Wh;omega
 have F1:=hQd (FI.conv _ hw1);have F2:=hQd (FI.conv _ hw2);clear h hk hl so hs hp hq hw1 hw2;go_enter Tryz.func109,Tryz.ntmps109;go_wp2_with (go_at_call 48;(with_reducible refine(zH0 b l q cap HL.out s HS.out HSO.out HK.out H.out).mono ?_);rintro e_ wn ⟨rfl,h⟩;have c11:=h.rawCell 11;simp at c11;replace H:=hQd h;clear h);go_ret;exact⟨_,_,rfl,F1.out,F2.out,H.out.drop⟩
theorem zK8(l:List BatR)(q:Option Addr)(cap:Nat)(hs:∀x∈l,OkB x)(hn:l.length≤2000)(hk:K.has (Know.bats (.slice q l.length cap) l))(h:St W0 w K L):
  Calls Tryz.prog 78 #[.slice q l.length cap] w fun en w'=>∃x y:Nat,en=.returned (.complex .f64 x y)∧FI x (sP l)∧FI y (sQ l)∧St W0 w' K L:=by
 have H:=hQd h;have HK:=hQd hk;have HS:=hQd hs;have hni:(l.length:Int)≤2000:=by omega
 clear h hk hs;go_enter Tryz.func78,Tryz.ntmps78;go_wp2;go_loopw [3,5,8] (fun sv _ iv wr=>∃(k X Y:Nat),k≤l.length∧iv=.int .i64 k∧sv=.complex .f64 X Y∧Hid (FI X (sP (l.take k)))∧Hid (FI Y (sQ (l.take k)))∧St W0 wr K L) (fun _ _ iv _=>l.length - (intOf iv).toNat)
 case atStart=>exact⟨0,0,0,Nat.zero_le _,rfl,rfl,hQd FI.zero,hQd FI.zero,H.out⟩
 case round=>
  obtain⟨k,X,Y,hkl,rfl,rfl,FX,FY,hst⟩:=hrel;clear H;have H:=hQd hst;clear hst
  by_cases hlt:k<l.length
  · as_aux_lemma=>
    obtain⟨b0,off,hqq⟩:=zGc HK.out H.out (by omega);subst hqq;obtain⟨x,hx⟩:∃x,l[k]=x:=⟨_,rfl⟩;have hmem:x∈l:=hx ▸ List.getElem_mem hlt;have hxk:=zCQ HK.out hmem;have hcell:=zDQ HK.out H.out k hlt x hx;obtain⟨st1,st2,st3⟩:=zPk l k hlt x hx;have hfit:=HS.out x hmem;obtain⟨b,xl,xq,xcap⟩:=x;obtain⟨c0,c1,c2,c3,c4,c5,c6,c7,c8,c9,c10,c11⟩:wr.cell? ⟨b0,off+k*12,none⟩=some (.int .i64 b.base)∧wr.cell? ⟨b0,off+k*12+1,none⟩=some (.int .i64 b.leader)∧wr.cell? ⟨b0,off+k*12+2,none⟩=some (.bool b.app)∧wr.cell? ⟨b0,off+k*12+3,none⟩=some (.bool b.txn)∧wr.cell? ⟨b0,off+k*12+4,none⟩=some (.bool b.ctl)∧wr.cell? ⟨b0,off+k*12+5,none⟩=some (.int .i64 b.last)∧wr.cell? ⟨b0,off+k*12+6,none⟩=some (.int .i64 b.first)∧wr.cell? ⟨b0,off+k*12+7,none⟩=some (.int .i64 b.maxt)∧wr.cell? ⟨b0,off+k*12+8,none⟩=some (.int .i64 b.prod)∧wr.cell? ⟨b0,off+k*12+9,none⟩=some (.int .i64 b.epoch)∧wr.cell? ⟨b0,off+k*12+10,none⟩=some (.int .i64 b.seq)∧wr.cell? ⟨b0,off+k*12+11,none⟩=some (.slice xq xl.length xcap):=hcell;have HXK:=hQd (show K.has (Know.recs (.slice xq xl.length xcap) xl)from hxk);have hkn:(k:Int)<(l.length:Int):=by omega
    obtain⟨tb,htb⟩:∃b,wr.heap.size=b:=⟨_,rfl⟩;have h:=H.out.allocRaw #[.int .i64 b.base,.int .i64 b.leader,.bool b.app,.bool b.txn,.bool b.ctl,.int .i64 b.last,.int .i64 b.first,.int .i64 b.maxt,.int .i64 b.prod,.int .i64 b.epoch,.int .i64 b.seq,.slice xq xl.length xcap] 30;rw[htb]at h;have d0:=h.rawCell 0;have d1:=h.rawCell 1;have d2:=h.rawCell 2;have d3:=h.rawCell 3;have d4:=h.rawCell 4;have d5:=h.rawCell 5;have d6:=h.rawCell 6;have d7:=h.rawCell 7;have d8:=h.rawCell 8;have d9:=h.rawCell 9;have d10:=h.rawCell 10;have d11:=h.rawCell 11;simp at d0 d1 d2 d3 d4 d5 d6 d7 d8 d9 d10 d11;clear H;have H:=hQd h;have HXL:=hQd (show xl.map (·.1)=b.recs from hfit.1);have HSO:=hQd (show EncOk b from hfit.2);have hrg:=zMo (l.take (k+1)) (fun y hy=>HS.out y (List.mem_of_mem_take hy));have hlen:(l.take (k+1)).length≤2000:=by rw[List.length_take];omega
    have S1:=hQd st1;have S2:=hQd st2;have WX:=hQd (show Wh (sP (l.take k)+ptP b) by have h1:sP (l.take (k+1))=sP (l.take k)+ptP b:=st1;rw[←h1];unfold Wh;omega);have WY:=hQd (show Wh (sQ (l.take k)+ptQ b) by have h1:sQ (l.take (k+1))=sQ (l.take k)+ptQ b:=st2;rw[←h1];unfold Wh;omega);clear h hx hmem hxk st1 st2 st3 hfit hrg hlen;go_wp2_with (go_at_call 109;(with_reducible refine(zK9 b xl xq xcap HXL.out HSO.out HXK.out H.out).mono ?_);rintro e_ wn ⟨x2,y2,rfl,hx2,hy2,h⟩;obtain⟨x3,ex,fx⟩:=FI.add FX.out hx2 WX.out;obtain⟨y3,ey,fy⟩:=FI.add FY.out hy2 WY.out;have hadd:=zN8 117 ex ey;have FX3:=hQd fx;have FY3:=hQd fy;clear ex ey fx fy hx2 hy2;replace H:=hQd h;clear h);go_roundw
    case rel=>exact⟨k+1,x3,y3,hlt,by go_num,rfl,hQd (by rw[S1.out];exact FX3.out),hQd (by rw[S2.out];exact FY3.out),H.out.drop⟩
    case measure=>first|(simp[intOf];done)|(simp[intOf];omega)
  · obtain rfl:k=l.length:=by omega
    have e:=List.take_length (l:=l);have h1:=FX.out;have h2:=FY.out;rw[e]at h1 h2;have FX2:=hQd h1;have FY2:=hQd h2;clear h1 h2 e;go_wp2;go_ret;exact⟨X,Y,rfl,FX2.out,FY2.out,H.out⟩
set_option maxHeartbeats 16000000
theorem zPp(l:List Bs)(A:Bs)(hA:l.flatten=A)(bs:List BatS)(pv:Nat)(rest:Bs)(pe ps:Int)(hf:finS A=(bs,pv,rest,pe))(hps:zBy rest pe=ps)(hl:A.length≤90000)(hok:∀b∈bs,EncOk b)(hbl:bs.length≤900)(hrv:Rn (pv:Nat))(hre:Rn pe)(T:Bs)(hT:zL8 bs (pv:Nat) ps pe=T)(q:Option Addr)(cap:Nat)(hll:l.length≤1000000){W0 w:World}{K:Know}{L:List Res}(hlib:K.has Know.lib)(hk:K.has (Know.strs (.slice q l.length cap) l))(h:St W0 w K L):
  Calls Tryz.prog 38 #[.slice q l.length cap] w fun en w'=>en=.returned (.string (bb T))∧St W0 w' K L:=by
 have hsm:=zHd bs hok;have hp0:Rn (sumE bs):=by unfold Rn;omega
 have hq0:Rn (sumR bs):=by unfold Rn;omega
 have hTl:T.length≤1000000:=by rw[←hT];exact zH7 bs _ ps pe hok hbl hrv hre hp0 hq0
 have hTn:T≠[]:=by
  rw[←hT];unfold zL8 totT;simp[zAP]
 obtain⟨P,hP⟩:∃P,sumE bs=P:=⟨_,rfl⟩;obtain⟨Q,hQ⟩:∃Q,sumR bs=Q:=⟨_,rfl⟩;obtain⟨tl,htl⟩:∃t,totT P Q=t:=⟨_,rfl⟩;obtain⟨tn,htn⟩:∃t,endT (pv:Nat) ps pe=t:=⟨_,rfl⟩;obtain⟨d1,hd1⟩:∃t,numW P=t:=⟨_,rfl⟩;obtain⟨d2,hd2⟩:∃t,numW Q=t:=⟨_,rfl⟩;obtain⟨tt,htt⟩:∃t,zAP 32 [[116,111,116,97,108],d1,d2]=t:=⟨_,rfl⟩;have hT2:bs.flatMap zA9++(tl++tn)=T:=by rw[←hT,←htl,←htn,←hP,←hQ];rfl
 have htt2:tt++[10]=tl:=by rw[←htt,←htl,←hd1,←hd2];rfl
 have hl1:=congrArg List.length hT2;have hl2:=congrArg List.length htt2;simp only[List.length_append,List.length_cons,List.length_nil]at hl1 hl2;have H:=hQd h;have HLIB:=hQd hlib;have HK:=hQd hk;have HA:=hQd hA;have HF:=hQd hf;have HPS:=hQd hps;have HAL:=hQd hl;have HLL:=hQd hll;have HBO:=hQd hok;have HBL:=hQd hbl;have HRV:=hQd hrv;have HRE:=hQd hre;have HT2:=hQd hT2;have HTL:=hQd hTl;have HTN0:=hQd hTn;have HTT:=hQd htt;have HTN:=hQd htt2;have HTE:=hQd htn;have HTTL:=hQd (show tt.length≤1000000 by omega);have HWL:=hQd (show([[116,111,116,97,108],d1,d2]:List Bs).length≤1000000 by simp);have HPQ0:=hQd (show sumE bs=P∧sumR bs=Q from⟨hP,hQ⟩);have HRP:=hQd (show Rn P by rw[←hP];exact hp0);have HRQ:=hQd (show Rn Q by rw[←hQ];exact hq0);have HWP:=hQd (show Wh P by rw[←hP];unfold Wh;omega);have HWQ:=hQd (show Wh Q by rw[←hQ];unfold Wh;omega);have HD1:=hQd hd1;have HD2:=hQd hd2;have t1:True:=trivial;have t2:True:=trivial;clear h hlib hk hA hf hps hl hll hok hbl hrv hre hT hT2 hTl hTn hP hQ htl htn hd1 hd2 htt htt2 hl1 hl2 hp0 hq0 hsm;go_enter Tryz.func38,Tryz.ntmps38;go_wp2_with (go_at_call 75;(with_reducible refine(zN6 l A HA.out bs pv rest pe ps HF.out HPS.out HAL.out q cap HLL.out HK.out H.out).mono ?_);rintro e_ wn ⟨q2,cap2,lr,rfl,hb2,hlite,hl61,hq2,h⟩;have HB2:=hQd hb2;have HLI:=hQd hlite;clear hb2 hlite hl61 hq2;obtain⟨eb,heb⟩:∃y,wn.heap.size=y:=⟨_,rfl⟩;have h:=h.allocRaw #[.int .i64 (pv:Nat),.int .i64 ps,.int .i64 pe] 112;rw[heb]at h;obtain⟨sb,hsb⟩:∃y,eb+1=y:=⟨_,rfl⟩;have h:=h.sbNew;simp only[World.size_alloc,heb,hsb]at h;replace H:=hQd h;clear h);have HOK:=hQd (show ∀x∈lr,OkB x from fun x hx=>⟨(HLI.out x hx).1,HBO.out x.b (by rw[←HB2.out];exact List.mem_map.2 ⟨x,hx,rfl⟩)⟩);have HLR:=hQd (show lr.length≤2000 by have h9:=congrArg List.length HB2.out;rw[List.length_map]at h9;have:=HBL.out;omega);have hlri:(lr.length:Int)≤2000:=by have:=HLR.out;omega
 have HPQ:=hQd (show sP lr=P∧sQ lr=Q by obtain⟨a,c⟩:=zO4 lr HOK.out;rw[a,c,HB2.out];exact HPQ0.out);have HLIB2:=hQd (Know.has_left (b:=Know.bats (.slice q2 lr.length cap2) lr) HLIB.out);have HKB:=hQd (Know.has_right (a:=K) (Know.has_refl (Know.bats (.slice q2 lr.length cap2) lr)))
 have HS0:=hQd (show[]++((lr.drop 0).flatMap (fun x:BatR=>zA9 x.b)++(tl++tn))=T by
  have e:lr.flatMap (fun x:BatR=>zA9 x.b)=bs.flatMap zA9:=by rw[←HB2.out,List.flatMap_map]
  rw[List.drop_zero,e];exact HT2.out)
 go_loopw [16] (fun iv wr=>∃(k:Nat) (E:Bs),k≤lr.length∧iv=.int .i64 k∧Hid (E++((lr.drop k).flatMap (fun x:BatR=>zA9 x.b)++(tl++tn))=T)∧St W0 wr (K.and (Know.bats (.slice q2 lr.length cap2) lr)) (.gen (sbG sb E)::.raw eb #[.int .i64 (pv:Nat),.int .i64 ps,.int .i64 pe] 112::L)) (fun iv _=>lr.length - (intOf iv).toNat)
 case atStart=>exact⟨0,[],Nat.zero_le _,rfl,HS0,H.out⟩
 case round=>
  obtain⟨k,E,hk',rfl,HE,hst⟩:=hrel;clear H;have H:=hQd hst;clear hst
  by_cases hk:k<lr.length
  · obtain⟨bk,off,hqq⟩:=zGc HKB.out H.out (by omega);subst hqq;obtain⟨x,hx⟩:∃x,lr[k]=x:=⟨_,rfl⟩;have hmem:x∈lr:=hx ▸ List.getElem_mem hk;have hxk:=zCQ HKB.out hmem;have cc:=zDQ HKB.out H.out k hk x hx;have hox:=HOK.out x hmem;obtain⟨t,ht⟩:∃t,zA9 x.b=t:=⟨_,rfl⟩;obtain⟨E2,hE2⟩:∃E2,E++t=E2:=⟨_,rfl⟩
    have hE3:E2++((lr.drop (k+1)).flatMap (fun x:BatR=>zA9 x.b)++(tl++tn))=T:=by
     rw[←HE.out,zIY (fun x:BatR=>zA9 x.b) lr k hk x hx,←hE2,←ht];simp only[List.append_assoc]
    have hle:=zK0 hE3 HTL.out;have hle2:=congrArg List.length hE2;rw[List.length_append]at hle2;obtain⟨b,xl,xq,xcap⟩:=x;obtain⟨c0,c1,c2,c3,c4,c5,c6,c7,c8,c9,c10,c11⟩:=cc;have HXL:=hQd (show xl.map (·.1)=b.recs from hox.1);have HSO:=hQd (show EncOk b from hox.2);have HXK:=hQd (show Know.has _ (Know.recs (.slice xq xl.length xcap) xl)from hxk);have HT:=hQd (show zA9 b=t from ht);have HE2:=hQd hE2;have HE3:=hQd (hQd hE3);have HS1:=hQd (show E.length+t.length≤1000000000000 by omega);obtain⟨tb,htb⟩:∃b,wr.heap.size=b:=⟨_,rfl⟩;have g1:=H.out.allocRaw #[.int .i64 b.base,.int .i64 b.leader,.bool b.app,.bool b.txn,.bool b.ctl,.int .i64 b.last,.int .i64 b.first,.int .i64 b.maxt,.int .i64 b.prod,.int .i64 b.epoch,.int .i64 b.seq,.slice xq xl.length xcap] 30;rw[htb]at g1;have y0:=g1.rawCell 0;have y1:=g1.rawCell 1;have y2:=g1.rawCell 2;have y3:=g1.rawCell 3;have y4:=g1.rawCell 4;have y5:=g1.rawCell 5;have y6:=g1.rawCell 6;have y7:=g1.rawCell 7;have y8:=g1.rawCell 8;have y9:=g1.rawCell 9;have y10:=g1.rawCell 10;have y11:=g1.rawCell 11;simp at y0 y1 y2 y3 y4 y5 y6 y7 y8 y9 y10 y11;have hki:(k:Int)<(lr.length:Int):=by omega
    clear H hxk hmem hox hx ht hE2 hE3 hle hle2;have H:=hQd g1;clear g1
    go_wp2_with (first
  |(go_at_call 77;(with_reducible refine(zPt b xl xq xcap HXL.out HSO.out t HT.out HLIB2.out HXK.out H.out).mono ?_);rintro e_ wn ⟨rfl,h⟩;have h:=h.p1;replace H:=hQd h;clear h)
  |(go_at_call 76;(with_reducible refine(zMl sb E t HS1.out H.out).mono ?_);rintro e_ wn ⟨rfl,h⟩;rw[HE2.out]at h;replace H:=hQd h;clear h))
    go_roundw
    case rel=>exact⟨k+1,E2,hk,by go_num,HE3.out,H.out.p1.drop⟩
    case measure=>first|(simp[intOf];done)|(simp[intOf];omega)
  · have hq1:k=lr.length:=by omega
    have h9:E++(tl++tn)=T:=by have h9:=HE.out;rw[hq1,List.drop_length]at h9;exact h9
    obtain⟨E3,hE3⟩:∃E3,E++tl=E3:=⟨_,rfl⟩;have h8:E3++tn=T:=by rw[←hE3,List.append_assoc];exact h9
    have l9:=congrArg List.length h9;have l8:=congrArg List.length hE3;have l7:=HTL.out;simp only[List.length_append]at l9 l8;have HE3:=hQd hE3;have HE4:=hQd h8;have HS2:=hQd (show E.length+tl.length≤1000000000000 by omega);have HS3:=hQd (show E3.length+tn.length≤1000000000000 by omega);have hki:¬((k:Int)<(lr.length:Int)):=by omega
    clear h9 h8 l9 l8 l7 hE3 hq1
    go_wp2_with (first
  |(go_at_call 78;(with_reducible refine(zK8 lr q2 cap2 HOK.out HLR.out HKB.out H.out).mono ?_);rintro e_ wn ⟨X,Y,rfl,fx,fy,h⟩;rw[HPQ.out.1]at fx;rw[HPQ.out.2]at fy;have cx:=convR X P fx HWP.out;have cy:=convR Y Q fy HWQ.out;clear fx fy;replace H:=hQd h;clear h)
  |(go_at_call 37;have _t:=t1;clear _t;(with_reducible refine(zBw P HRP.out d1 HD1.out HLIB2.out H.out).mono ?_);rintro e_ wn ⟨rfl,h⟩;replace H:=hQd h;clear h;clear t1)
  |(go_at_call 37;(with_reducible refine(zBw Q HRQ.out d2 HD2.out HLIB2.out H.out).mono ?_);rintro e_ wn ⟨rfl,h⟩;replace H:=hQd h;clear h)
  |(go_at_call 36;have h0:=H.out.allocRaw #[.string ⟨#[116,111,116,97,108]⟩,.string (bb d1),.string (bb d2)] 9;(with_reducible refine(zCY [[116,111,116,97,108],d1,d2] tt tl _ 3 _ rfl rfl HWL.out HTT.out HTN.out HTTL.out h0).mono ?_);rintro e_ wn ⟨rfl,h⟩;replace H:=hQd h;clear h)
  |(go_at_call 76;have _t:=t2;clear _t;(with_reducible refine(zMl sb E tl HS2.out H.out).mono ?_);rintro e_ wn ⟨rfl,h⟩;rw[HE3.out]at h;have z0:=h.p1.rawCell 0;have z1:=h.p1.rawCell 1;have z2:=h.p1.rawCell 2;simp at z0 z1 z2;replace H:=hQd h;clear h;clear t2)
  |(go_at_call 79;(with_reducible refine(rp_end (pv:Nat) ps pe HRV.out HRE.out tn HTE.out HLIB2.out H.out).mono ?_);rintro e_ wn ⟨rfl,h⟩;replace H:=hQd h;clear h)
  |(go_at_call 76;(with_reducible refine(zMl sb E3 tn HS3.out H.out).mono ?_);rintro e_ wn ⟨rfl,h⟩;rw[HE4.out]at h;replace H:=hQd h;clear h)
  |(go_at_call 47;(with_reducible refine(zMk sb T HTN0.out H.out).mono ?_);rintro e_ wn ⟨rfl,h⟩;replace H:=hQd h;clear h))
    go_ret;exact⟨rfl,(H.out.drop).know (Know.has_left (Know.has_refl _))⟩
def kOf (n:Int) (s:Bs):Nat:=(min (max n 0) (s.length:Int)).toNat
def cutN (s:Bs):List Int→List Bs
  |[]=>[s]
  |n::t=>s.take (kOf n s)::cutN (s.drop (kOf n s)) t
theorem zI8:∀(ns:List Int) (s:Bs),(cutN s ns).flatten=s
  |[],s=>by simp[cutN]
  |n::t,s=>by rw[cutN,List.flatten_cons,zI8 t,List.take_append_drop]
theorem zKW:∀(ns:List Int) (s:Bs),(cutN s ns).length=ns.length+1
  |[],s=>rfl
  |n::t,s=>by rw[cutN,List.length_cons,zKW t,List.length_cons]
theorem zIl(s0:Bs)(ns:List Int)(hs0:s0.length≤1000000)(hns:∀x∈ns,Rn x)(hnl:ns.length≤1000)(q:Option Addr)(cap:Nat){W0 w:World}{K:Know}{L:List Res}(hk:K.has (Know.flat RInt (.slice q ns.length cap) 1 ns))(h:St W0 w K L):
  Calls Tryz.prog 39 #[.string (bb s0),.slice q ns.length cap] w fun en w'=>∃(q2:Option Addr) (cap2:Nat),en=.returned (.slice q2 (cutN s0 ns).length cap2)∧St W0 w' (K.and (Know.strs (.slice q2 (cutN s0 ns).length cap2) (cutN s0 ns))) L:=by
 have H:=hQd h;have HK:=hQd hk;have HNS:=hQd hns;have HNL:=hQd hnl;have HS0:=hQd hs0;have hni:(ns.length:Int)≤1000:=by omega
 clear h hk hns hs0 hnl;go_enter Tryz.func39,Tryz.ntmps39;go_wp2_with fail;go_loopw [0,5,7,8,11] (fun sv ov _ _ iv wr=>∃(k:Nat) (acc:List Bs) (s:Bs),k≤ns.length∧iv=.int .i64 k∧sv=.string (bb s)∧Hid (acc.length=k)∧Hid (acc++cutN s (ns.drop k)=cutN s0 ns)∧Hid (s.length≤s0.length)∧St W0 wr K (.row ov 9 1 acc.length (acc.flatMap zLe)::L)) (fun _ _ _ _ iv _=>ns.length - (intOf iv).toNat)
 case atStart=>exact⟨0,[],s0,Nat.zero_le _,rfl,rfl,hQd rfl,hQd (by rw[List.drop_zero];rfl),hQd (Nat.le_refl _),H.out.nilRow 9 1⟩
 case round=>
  obtain⟨k,acc,s,hkl,rfl,rfl,HAL,HEQ,HSL,hst⟩:=hrel;clear H;obtain⟨qv,cv,hv⟩:=hst.rowAny;subst hv;have H:=hQd hst;clear hst;have HAB:=hQd (show acc.length≤1000 by have:=HAL.out;have:=HNL.out;omega);have hsl:(s.length:Int)≤1000000:=by have:=HSL.out;have:=HS0.out;omega
  by_cases hlt:k<ns.length
  · obtain⟨b0,off,hqq⟩:=fl_at HK.out H.out (by omega);subst hqq;obtain⟨x,hx⟩:∃x,ns[k]=x:=⟨_,rfl⟩;have c0:=zLh HK.out H.out k hlt x hx;have hxr:=HNS.out x (hx ▸ List.getElem_mem hlt);unfold Rn at hxr;have hkn:(k:Int)<(ns.length:Int):=by omega
    have HNX:=hQd (show(acc++[s.take (kOf x s)])++cutN (s.drop (kOf x s)) (ns.drop (k+1))=cutN s0 ns by
     rw[←HEQ.out,List.drop_eq_getElem_cons hlt,hx,cutN,List.append_assoc];rfl)
    have HSD:=hQd (show(s.drop (kOf x s)).length≤s0.length by rw[List.length_drop];have:=HSL.out;omega);have HDR:=hQd (show List.take (s.length - (min (max x 0) (s.length:Int)).toNat) (s.drop (min (max x 0) (s.length:Int)).toNat)=s.drop (min (max x 0) (s.length:Int)).toNat from List.take_of_length_le zq35);have hm0:0≤min (max x 0) (s.length:Int):=by omega
    have hm1:min (max x 0) (s.length:Int)≤(s.length:Int):=by omega
    have hm2:(min (max x 0) (s.length:Int)).toNat≤s.length:=by omega
    unfold kOf at HNX HSD;clear hx;go_wp2_with (at_builtin;refine zAB rfl _ _ 69 rfl 9 Tryz.underlying69 zI4 _ _ _ rfl H.out [.string (bb (s.take (min (max x 0) (s.length:Int)).toNat))] 9 rfl rfl (by simp[Value.oneCell']) (by have:=HAB.out;unfold maxLen;omega) (by have:=HAB.out;omega) ?_;intro v' w' h;replace H:=hQd h;clear h);go_roundw
    case rel=>exact⟨k+1,acc++[s.take (min (max x 0) (s.length:Int)).toNat],s.drop (min (max x 0) (s.length:Int)).toNat,hlt,by go_num,by first|rfl|(rw[HDR.out])|(simp only[HDR.out]),hQd (by rw[List.length_append,HAL.out];rfl),hQd HNX.out,hQd HSD.out,by rw[List.length_append,List.flatMap_append];exact H.out⟩
    case measure=>first|(simp[intOf];done)|(simp[intOf];omega)
  · obtain rfl:k=ns.length:=by omega
    have HEND:=hQd (show acc++[s]=cutN s0 ns by have:=HEQ.out;rw[List.drop_length]at this;exact this);go_wp2_with (at_builtin;refine zAB rfl _ _ 69 rfl 9 Tryz.underlying69 zI4 _ _ _ rfl H.out [.string (bb (s))] 9 rfl rfl (by simp[Value.oneCell']) (by have:=HAB.out;unfold maxLen;omega) (by have:=HAB.out;omega) ?_;intro v' w' h;replace H:=hQd h;clear h);have h3:=H.out;rw[show acc.length+1=(acc++[s]).length by rw[List.length_append];rfl,show acc.flatMap zLe++[Value.string (bb s)]=(acc++[s]).flatMap zLe by rw[List.flatMap_append];rfl]at h3;obtain⟨q2,cap2,hv⟩:=h3.rowAny;subst hv;have h4:=h3.freezeTexts;rw[HEND.out]at h4;go_ret;exact⟨q2,cap2,by rw[←HEND.out,List.length_append];rfl,h4⟩
variable {W0 w:World}{K:Know}{L:List Res}
theorem zNe(K:Know):K.has (Know.flat RInt (.slice none 0 0) 1 ([]:List Int)):=fun _ _ _=>⟨none,0,rfl,fun h0=>absurd h0 (by simp)⟩
theorem zDu(s d:Bs)(ok:Bool)(hv:hexV s=(d,ok))(hs:s.length≤1000000)(h:St W0 w K L):
  Calls Tryz.prog 18 #[.string (bb s)] w fun en w'=>en=.returned (.tuple #[.string (bb d),.bool ok])∧St W0 w' K L:=by
 refine(zN7 s hs h).mono ?_;rw[hv];rintro en w' ⟨rfl,h2⟩;exact⟨rfl,h2⟩
theorem zKE{A T:Bs}{bs:List BatS}{pv:Nat}{rest:Bs}{pe ps:Int}(tk:ToldOk A T bs pv rest pe ps)(l:List Bs)(hA:l.flatten=A)(q:Option Addr)(cap:Nat)(hll:l.length≤1000000)(hlib:K.has Know.lib)(hk:K.has (Know.strs (.slice q l.length cap) l))(h:St W0 w K L):
  Calls Tryz.prog 38 #[.slice q l.length cap] w fun en w'=>en=.returned (.string (bb T))∧St W0 w' K L:=
 zPp l A hA bs pv rest pe ps tk.fin tk.stop tk.len tk.ok tk.blen tk.rv tk.re T tk.txt q cap hll hlib hk h
theorem zFl{A T:Bs}{bs:List BatS}{pv:Nat}{rest:Bs}{pe ps:Int}(tk:ToldOk A T bs pv rest pe ps)(word:Bs)(hw:hexV word=(A,true))(hwl:word.length≤1000000)(ns:List Int)(hns:∀x∈ns,Rn x)(hnl:ns.length≤1000)(q:Option Addr)(cap:Nat)(hlib:K.has Know.lib)(hk:K.has (Know.flat RInt (.slice q ns.length cap) 1 ns))(h:St W0 w K L):
  Calls Tryz.prog 16 #[.string (bb word),.slice q ns.length cap] w fun en w'=>en=.returned (.string (bb T))∧St W0 w' K L:=by
 have H:=hQd h;have HTK:=hQd tk;have HW:=hQd hw;have HWL:=hQd hwl;have HNS:=hQd hns;have HNL:=hQd hnl;have HLIB:=hQd hlib;have HK:=hQd hk;have HAL:=hQd (show A.length≤1000000 by have:=tk.len;omega);have HCL:=hQd (show(cutN A ns).length≤1000000 by rw[zKW];omega);clear h tk hw hwl hns hnl hlib hk;go_enter Tryz.func16,Tryz.ntmps16
 go_wp2_with (first
  |(go_at_call 18;(with_reducible refine(zDu word A true HW.out HWL.out H.out).mono ?_);rintro e_ wn ⟨rfl,h⟩;replace H:=hQd h;clear h)
  |(go_at_call 39;(with_reducible refine(zIl A ns HAL.out HNS.out HNL.out q cap HK.out H.out).mono ?_);rintro e_ wn ⟨q2,cap2,rfl,h⟩;replace H:=hQd h;clear h)
  |(go_at_call 38;(with_reducible refine(zKE HTK.out (cutN A ns) (zI8 ns A) q2 cap2 HCL.out (Know.has_left HLIB.out) (Know.has_right (Know.has_refl _)) H.out).mono ?_);rintro e_ wn ⟨rfl,h⟩;replace H:=hQd h;clear h))
 go_ret;exact⟨rfl,H.out.know (Know.has_left (Know.has_refl _))⟩
theorem zIj(word d:Bs)(hw:hexV word=(d,false))(hwl:word.length≤1000000)(v:Value)(h:St W0 w K L):
  Calls Tryz.prog 16 #[.string (bb word),v] w fun en w'=>en=.returned (.string ⟨#[110,111,110,101,10]⟩)∧St W0 w' K L:=by
 have H:=hQd h;have HW:=hQd hw;have HWL:=hQd hwl;clear h hw hwl;go_enter Tryz.func16,Tryz.ntmps16
 go_wp2_with (first
  |(go_at_call 18;(with_reducible refine(zDu word d false HW.out HWL.out H.out).mono ?_);rintro e_ wn ⟨rfl,h⟩;replace H:=hQd h;clear h)
  |(go_at_call 36;have h0:=H.out.allocRaw #[.string ⟨#[110,111,110,101]⟩] 9;(with_reducible refine(zCY [[110,111,110,101]] [110,111,110,101] [110,111,110,101,10] _ 1 _ rfl rfl (by decide) rfl rfl (by decide) h0).mono ?_);rintro e_ wn ⟨rfl,h⟩;replace H:=hQd h;clear h))
 go_ret;exact⟨rfl,H.out⟩
variable {W0 w:World}{K:Know}{L:List Res}
theorem zOs(hlib:K.has Know.lib)(h:St W0 w K L):
  Calls Tryz.prog 41 #[.string ⟨#[]⟩] w fun en w'=>en=.returned (.tuple #[.agg #[.slice none 0 0,.int .i64 (-1),.slice none 0 0],.int .i64 0])∧St W0 w' K L:=by
 obtain⟨sb,hsb⟩:∃b,w.heap.size=b:=⟨_,rfl⟩;obtain⟨rd,hrd⟩:∃b,sb+1=b:=⟨_,rfl⟩;have g1:=(h.allocRaw #[.slice none 0 0,.int .i64 0,.slice none 0 0] 25).allocRaw #[.slice none 0 0,.int .i64 (-1),.slice none 0 0] 122;simp only[World.size_alloc,hsb,hrd]at g1;have H:=hQd g1;have HLIB:=hQd hlib;clear h g1 hlib;go_enter Tryz.func41,Tryz.ntmps41;go_wp2_with fail;go_loopw [0,5] (fun tv nv wr=>tv=.string (bb [])∧nv=.int .i64 1∧St W0 wr K (.raw rd #[.slice none 0 0,.int .i64 (-1),.slice none 0 0] 122::.raw sb #[.slice none 0 0,.int .i64 0,.slice none 0 0] 25::L)) (fun _ _ _=>0)
 case atStart=>exact⟨rfl,rfl,H.out⟩
 case round=>
  obtain⟨rfl,rfl,hst⟩:=hrel;clear H;have H:=hQd hst;have d0:=(hst).rawCell 0;have d1:=(hst).rawCell 1;have d2:=(hst).rawCell 2;simp at d0 d1 d2;have e0:=(hst.p1).rawCell 0;have e1:=(hst.p1).rawCell 1;have e2:=(hst.p1).rawCell 2;simp at e0 e1 e2;have r0:=(hst.p1).rawFree 0;have r1:=(hst.p1).rawFree 1;have r2:=(hst.p1).rawFree 2;clear hst;go_wp2_with fail;have hz:St W0 _ K (.raw sb #[.slice none 0 0,.int .i64 (-1),.slice none 0 0] 25::_):=((H.out.p1.rawSet 0 (.slice none 0 0)).rawSet 1 (.int .i64 (-1))).rawSet 2 (.slice none 0 0);refine bodyPost_ret (zEE rfl _ _ sb [.slice none 0 0,.int .i64 (-1),.slice none 0 0] _ rfl (zIC hz) Tryz.underlying25 rfl (by kernel_rfl)) rfl ?_;exact⟨rfl,hz.drop.drop⟩
theorem zOr(hlib:K.has Know.lib)(h:St W0 w K L):
  Calls Tryz.prog 41 #[.string ⟨#[120,10]⟩] w fun en w'=>en=.returned (.tuple #[.agg #[.slice none 0 0,.int .i64 0,.slice none 0 0],.int .i64 1])∧St W0 w' K L:=by
 obtain⟨sb,hsb⟩:∃b,w.heap.size=b:=⟨_,rfl⟩;obtain⟨rd,hrd⟩:∃b,sb+1=b:=⟨_,rfl⟩;have g1:=(h.allocRaw #[.slice none 0 0,.int .i64 0,.slice none 0 0] 25).allocRaw #[.slice none 0 0,.int .i64 (-1),.slice none 0 0] 122;simp only[World.size_alloc,hsb,hrd]at g1;have H:=hQd g1;have HLIB:=hQd hlib;clear h g1 hlib;go_enter Tryz.func41,Tryz.ntmps41;go_wp2_with fail;go_loopw [0,5] (fun tv nv wr=>tv=.string (bb [120,10])∧nv=.int .i64 1∧St W0 wr K (.raw rd #[.slice none 0 0,.int .i64 (-1),.slice none 0 0] 122::.raw sb #[.slice none 0 0,.int .i64 0,.slice none 0 0] 25::L)) (fun _ _ _=>0)
 case atStart=>exact⟨rfl,rfl,H.out⟩
 case round=>
  obtain⟨rfl,rfl,hst⟩:=hrel;clear H;have H:=hQd hst;clear hst
  go_wp2_with (first
  |(go_at_call 80;(with_reducible refine(zPe [120,10] [120] [] true kcx (by decide) HLIB.out H.out).mono ?_);rintro e_ wn ⟨rfl,h⟩;replace H:=hQd h;clear h)
  |(go_at_call 82;(with_reducible refine(zMe [120] [[120]] 1 rfl kwx (by decide) HLIB.out H.out).mono ?_);rintro e_ wn ⟨wb,rfl,h⟩;have h:=h.strs;have HKW:=hQd (Know.has_right (a:=K) (Know.has_refl (Know.strw wb 0 [[120]])));replace H:=hQd h;clear h)
  |(go_at_call 81;(with_reducible refine(zMt rd wb 0 none (.slice none 0 0) (-1) [120] [] rfl (by decide) (by decide) (by decide) (by decide) (by decide) HKW.out H.out).mono ?_);rintro e_ wn ⟨rfl,h⟩;have e0:=(h).rawCell 0;have e1:=(h).rawCell 1;have e2:=(h).rawCell 2;simp at e0 e1 e2;have r0:=(h).rawFree 0;have r1:=(h).rawFree 1;have r2:=(h).rawFree 2;replace H:=hQd h;clear h))
  have hz:St W0 _ _ (.raw sb #[.slice none 0 0,.int .i64 0,.slice none 0 0] 25::_):=((H.out.rawSet 0 (.slice none 0 0)).rawSet 1 (.int .i64 0)).rawSet 2 (.slice none 0 0);refine bodyPost_ret (zEE rfl _ _ sb [.slice none 0 0,.int .i64 0,.slice none 0 0] _ rfl (zIC hz) Tryz.underlying25 rfl (by kernel_rfl)) rfl ?_;exact⟨rfl,hz.drop.know (Know.has_left (Know.has_refl _))⟩
theorem zNX:ToldOk [] [116,111,116,97,108,32,48,32,48,10,118,97,108,105,100,32,48,32,99,108,101,97,110,10] [] 0 [] 0 0:=by
 refine⟨zJ0,rfl,by decide,(fun b hb=>by cases hb),by decide,by unfold Rn;decide,by unfold Rn;decide,?_⟩
 decide+kernel
theorem zOS(h:St W0 w K L):Calls Tryz.prog 19 #[.slice none 0 0] w fun en w'=>en=.returned (.tuple #[.string ⟨#[]⟩,.int .i64 0])∧St W0 w' K L:=zKm [] none 0 [] rfl (fun x hx=>by cases hx) (by decide) (zJl _) h
theorem zLQ(h:St W0 w K L):Calls Tryz.prog 39 #[.string ⟨#[]⟩,.slice none 0 0] w fun en w'=>∃(q2:Option Addr) (cap2:Nat),en=.returned (.slice q2 1 cap2)∧St W0 w' (K.and (Know.strs (.slice q2 1 cap2) [[]])) L:=zIl [] [] (by decide) (fun x hx=>by cases hx) (by decide) none 0 (zNe _) h
theorem zL7(q:Option Addr)(cap:Nat)(hlib:K.has Know.lib)(hk:K.has (Know.strs (.slice q 1 cap) [[]]))(h:St W0 w K L):Calls Tryz.prog 38 #[.slice q 1 cap] w fun en w'=>en=.returned (.string (bb [116,111,116,97,108,32,48,32,48,10,118,97,108,105,100,32,48,32,99,108,101,97,110,10]))∧St W0 w' K L:=zKE zNX [[]] rfl q cap (by decide) hlib hk h
theorem zOo(hlib:K.has Know.lib)(h:St W0 w K L):
  Calls Tryz.prog 12 #[.agg #[.slice none 0 0,.int .i64 (-1),.slice none 0 0]] w fun en w'=>en=.returned (.string (bb [116,111,116,97,108,32,48,32,48,10,118,97,108,105,100,32,48,32,99,108,101,97,110,10]))∧St W0 w' K L:=by
 obtain⟨rb,hrb⟩:∃b,w.heap.size=b:=⟨_,rfl⟩;have g1:=h.allocRaw #[.slice none 0 0,.int .i64 (-1),.slice none 0 0] 25;rw[hrb]at g1;have z0:=(g1).rawCell 0;have z1:=(g1).rawCell 1;have z2:=(g1).rawCell 2;simp at z0 z1 z2;have H:=hQd g1;have HLIB:=hQd hlib;clear h g1 hlib;go_enter Tryz.func12,Tryz.ntmps12;go_wp2_with fail;clear z0 z1 z2;go_loopw [11] (fun iv wr=>iv=.int .i64 0∧St W0 wr K (.raw rb #[.slice none 0 0,.int .i64 (-1),.slice none 0 0] 25::L)) (fun _ _=>0)
 case atStart=>exact⟨rfl,H.out⟩
 case round=>
  obtain⟨rfl,hst⟩:=hrel;clear H;have H:=hQd hst;have z0:=(hst).rawCell 0;have z1:=(hst).rawCell 1;have z2:=(hst).rawCell 2;simp at z0 z1 z2;clear hst
  go_wp2_with (first
  |(go_at_call 19;(with_reducible refine(zOS H.out).mono ?_);rintro e_ wn ⟨rfl,h⟩;have z0:=(h).rawCell 0;have z1:=(h).rawCell 1;have z2:=(h).rawCell 2;simp at z0 z1 z2;replace H:=hQd h;clear h)
  |(go_at_call 39;(with_reducible refine(zLQ H.out).mono ?_);rintro e_ wn ⟨q2,cap2,rfl,h⟩;replace H:=hQd h;clear h)
  |(go_at_call 38;(with_reducible refine(zL7 q2 cap2 (Know.has_left HLIB.out) (Know.has_right (Know.has_refl _)) H.out).mono ?_);rintro e_ wn ⟨rfl,h⟩;replace H:=hQd h;clear h))
  go_ret;exact⟨rfl,H.out.drop.know (Know.has_left (Know.has_refl _))⟩
theorem run_e0(hlib:K.has Know.lib)(h:St W0 w K L):
  Calls Tryz.prog 14 #[.string ⟨#[]⟩] w fun en w'=>en=.returned (.string ⟨#[116,111,116,97,108,32,48,32,48,10,118,97,108,105,100,32,48,32,99,108,101,97,110,10]⟩)∧St W0 w' K L:=by
 have H:=hQd h;have HLIB:=hQd hlib;clear h hlib;go_enter Tryz.func14,Tryz.ntmps14
 go_wp2_with (first
  |(go_at_call 41;(with_reducible refine(zOs HLIB.out H.out).mono ?_);rintro e_ wn ⟨rfl,h⟩;obtain⟨xb,hxb⟩:∃y,wn.heap.size=y:=⟨_,rfl⟩;have h:=h.allocRaw #[.slice none 0 0,.int .i64 (-1),.slice none 0 0] 25;rw[hxb]at h;have x0:=(h).rawCell 0;have x1:=(h).rawCell 1;have x2:=(h).rawCell 2;simp at x0 x1 x2;replace H:=hQd h;clear h)
  |(go_at_call 12;(with_reducible refine(zOo HLIB.out H.out).mono ?_);rintro e_ wn ⟨rfl,h⟩;replace H:=hQd h;clear h))
 go_ret;exact⟨rfl,H.out.drop⟩
theorem run_e1(hlib:K.has Know.lib)(h:St W0 w K L):
  Calls Tryz.prog 14 #[.string ⟨#[120,10]⟩] w fun en w'=>en=.returned (.string ⟨#[108,105,110,101,32,49,10]⟩)∧St W0 w' K L:=by
 have H:=hQd h;have HLIB:=hQd hlib;have HR1:=hQd (show Rn 1 by unfold Rn;decide);have HD:=hQd (show numW 1=[49] by decide+kernel);clear h hlib;go_enter Tryz.func14,Tryz.ntmps14
 go_wp2_with (first
  |(go_at_call 41;(with_reducible refine(zOr HLIB.out H.out).mono ?_);rintro e_ wn ⟨rfl,h⟩;obtain⟨xb,hxb⟩:∃y,wn.heap.size=y:=⟨_,rfl⟩;have h:=h.allocRaw #[.slice none 0 0,.int .i64 0,.slice none 0 0] 25;rw[hxb]at h;replace H:=hQd h;clear h)
  |(go_at_call 37;(with_reducible refine(zBw 1 HR1.out [49] HD.out HLIB.out H.out).mono ?_);rintro e_ wn ⟨rfl,h⟩;replace H:=hQd h;clear h)
  |(go_at_call 36;have h0:=H.out.allocRaw #[.string ⟨#[108,105,110,101]⟩,.string (bb [49])] 9;(with_reducible refine(zCY [[108,105,110,101],[49]] [108,105,110,101,32,49] [108,105,110,101,32,49,10] _ 2 _ rfl rfl (by decide) rfl rfl (by decide) h0).mono ?_);rintro e_ wn ⟨rfl,h⟩;replace H:=hQd h;clear h))
 go_ret;exact⟨rfl,H.out.drop⟩
theorem raw_0(v:Value)(h:St W0 w K L):
 Calls Tryz.prog 16 #[.string ⟨#[48]⟩,v] w fun en w'=>en=.returned (.string ⟨#[110,111,110,101,10]⟩)∧St W0 w' K L:=zIj [48] [] khx (by decide) v h
theorem zDr(hlib:K.has Know.lib)(h:St W0 w K L):
  Calls Tryz.prog 6 #[] w fun en w'=>en=.returned (.bool true)∧St W0 w' K L:=by
 have H:=hQd h;have HLIB:=hQd hlib;clear h hlib;go_enter Tryz.func6,Tryz.ntmps6
 go_wp2_with (first
  |(go_at_call 14;(with_reducible refine(run_e0 HLIB.out H.out).mono ?_);rintro e_ wn ⟨rfl,h⟩;replace H:=hQd h;clear h)
  |(go_at_call 14;(with_reducible refine(run_e1 HLIB.out H.out).mono ?_);rintro e_ wn ⟨rfl,h⟩;replace H:=hQd h;clear h)
  |(go_at_call 16;(with_reducible refine(raw_0 (.slice none 0 0) H.out).mono ?_);rintro e_ wn ⟨rfl,h⟩;replace H:=hQd h;clear h))
 go_ret;exact⟨rfl,H.out⟩
theorem zPO(s word:Bs)(ns:List Int)(q:Option Addr)(cap:Nat)(hns:∀x∈ns,Rn x)(h1:1500<s.length){W0 w:World}{K:Know}(hlib:K.has Know.lib)(hk:K.has (Know.flat RInt (.slice q ns.length cap) 1 ns))(h:St W0 w K []):
  Calls Tryz.prog 4 #[.string (bb s),.slice q ns.length cap,.string (bb word)] w fun en w'=>en=.returned (.bool true)∧Below W0.heap.size W0 w':=by
 have H:=hQd h;have HLIB:=hQd hlib;have HK:=hQd hk;have HNS:=hQd hns;have b1:1500<(s.length:Int):=by omega
 have c1:decide (1500<(s.length:Int))=true:=decide_eq_true b1;clear h hlib hk hns h1;go_enter Tryz.func4,Tryz.ntmps4
 go_wp2_with (first
  |(go_at_call 6;(with_reducible refine(zDr HLIB.out H.out).mono ?_);rintro e_ wn ⟨rfl,h⟩;replace H:=hQd h;clear h))
 go_ret;exact⟨rfl,H.out.below⟩
theorem zPN(s word:Bs)(ns:List Int)(q:Option Addr)(cap:Nat)(hns:∀x∈ns,Rn x)(h1:s.length≤1500)(h2:200<ns.length){W0 w:World}{K:Know}(hlib:K.has Know.lib)(hk:K.has (Know.flat RInt (.slice q ns.length cap) 1 ns))(h:St W0 w K []):
  Calls Tryz.prog 4 #[.string (bb s),.slice q ns.length cap,.string (bb word)] w fun en w'=>en=.returned (.bool true)∧Below W0.heap.size W0 w':=by
 have H:=hQd h;have HLIB:=hQd hlib;have HK:=hQd hk;have HNS:=hQd hns;have b1:¬1500<(s.length:Int):=by omega
 have c1:decide (1500<(s.length:Int))=false:=decide_eq_false b1;have b2:200<(ns.length:Int):=by omega
 have c2:decide (200<(ns.length:Int))=true:=decide_eq_true b2;clear h hlib hk hns h1 h2;go_enter Tryz.func4,Tryz.ntmps4
 go_wp2_with (first
  |(go_at_call 6;(with_reducible refine(zDr HLIB.out H.out).mono ?_);rintro e_ wn ⟨rfl,h⟩;replace H:=hQd h;clear h))
 go_ret;exact⟨rfl,H.out.below⟩
theorem zPM(s word:Bs)(ns:List Int)(q:Option Addr)(cap:Nat)(hns:∀x∈ns,Rn x)(h1:s.length≤1500)(h2:ns.length≤200)(h3:300<word.length){W0 w:World}{K:Know}(hlib:K.has Know.lib)(hk:K.has (Know.flat RInt (.slice q ns.length cap) 1 ns))(h:St W0 w K []):
  Calls Tryz.prog 4 #[.string (bb s),.slice q ns.length cap,.string (bb word)] w fun en w'=>en=.returned (.bool true)∧Below W0.heap.size W0 w':=by
 have H:=hQd h;have HLIB:=hQd hlib;have HK:=hQd hk;have HNS:=hQd hns;have b1:¬1500<(s.length:Int):=by omega
 have c1:decide (1500<(s.length:Int))=false:=decide_eq_false b1;have b2:¬200<(ns.length:Int):=by omega
 have c2:decide (200<(ns.length:Int))=false:=decide_eq_false b2;have b3:300<(word.length:Int):=by omega
 have c3:decide (300<(word.length:Int))=true:=decide_eq_true b3;clear h hlib hk hns h1 h2 h3;go_enter Tryz.func4,Tryz.ntmps4
 go_wp2_with (first
  |(go_at_call 6;(with_reducible refine(zDr HLIB.out H.out).mono ?_);rintro e_ wn ⟨rfl,h⟩;replace H:=hQd h;clear h))
 go_ret;exact⟨rfl,H.out.below⟩
theorem lr_no(s word:Bs)(ns:List Int)(q:Option Addr)(cap:Nat)(hns:∀x∈ns,Rn x)(h1:s.length≤1500)(h2:ns.length≤200)(h3:word.length≤300)(d:Bs)(hv:hexV word=(d,false)){W0 w:World}{K:Know}(hlib:K.has Know.lib)(hk:K.has (Know.flat RInt (.slice q ns.length cap) 1 ns))(h:St W0 w K []):
  Calls Tryz.prog 4 #[.string (bb s),.slice q ns.length cap,.string (bb word)] w fun en w'=>en=.returned (.bool true)∧Below W0.heap.size W0 w':=by
 have H:=hQd h;have HLIB:=hQd hlib;have HK:=hQd hk;have HNS:=hQd hns;have b1:¬1500<(s.length:Int):=by omega
 have c1:decide (1500<(s.length:Int))=false:=decide_eq_false b1;have b2:¬200<(ns.length:Int):=by omega
 have c2:decide (200<(ns.length:Int))=false:=decide_eq_false b2;have b3:¬300<(word.length:Int):=by omega
 have c3:decide (300<(word.length:Int))=false:=decide_eq_false b3;obtain⟨T1,bs1,pv1,rest1,pe1,ps1,tk1⟩:=zD2 s h1;have HTK1:=hQd tk1;have HSL:=hQd (show s.length≤1000000 by omega);have HWL:=hQd (show word.length≤1000000 by omega);obtain⟨w1,hw1⟩:∃w,hexW s=w:=⟨_,rfl⟩;have HW1:=hQd hw1;have hwl1:=zM6 s;rw[hw1]at hwl1;have HWL1:=hQd (show w1.length≤1000000 by omega);have HV1:=hQd (show hexV w1=(s,true) by rw[←hw1];exact zIS s);have HNL:=hQd (show ns.length≤1000 by omega);have e1:(T1==T1)=true:=by simp
 have e2:(T1 !=T1)=false:=by simp
 have HVW:=hQd hv;clear h hlib hk hns h1 h2 h3 hv tk1 hw1 hwl1;go_enter Tryz.func4,Tryz.ntmps4
 go_wp2_with (first
  |(go_at_call 6;(with_reducible refine(zDr HLIB.out H.out).mono ?_);rintro e_ wn ⟨rfl,h⟩;replace H:=hQd h;clear h)
  |(go_at_call 17;(with_reducible refine(zMr s w1 HW1.out HSL.out H.out).mono ?_);rintro e_ wn ⟨rfl,h⟩;replace H:=hQd h;clear h)
  |(go_at_call 16;(with_reducible refine(zFl HTK1.out w1 HV1.out HWL1.out ns HNS.out HNL.out q cap HLIB.out HK.out H.out).mono ?_);rintro e_ wn ⟨rfl,h⟩;replace H:=hQd h;clear h)
  |(go_at_call 11;(with_reducible refine(zJA HTK1.out H.out).mono ?_);rintro e_ wn ⟨rfl,h⟩;replace H:=hQd h;clear h)
  |(go_at_call 18;(with_reducible refine(zDu word d false HVW.out HWL.out H.out).mono ?_);rintro e_ wn ⟨rfl,h⟩;replace H:=hQd h;clear h)
  |(go_at_call 16;(with_reducible refine(zIj word d HVW.out HWL.out _ H.out).mono ?_);rintro e_ wn ⟨rfl,h⟩;replace H:=hQd h;clear h))
 go_ret;exact⟨rfl,H.out.below⟩
theorem lr_yes(s word:Bs)(ns:List Int)(q:Option Addr)(cap:Nat)(hns:∀x∈ns,Rn x)(h1:s.length≤1500)(h2:ns.length≤200)(h3:word.length≤300)(d:Bs)(hv:hexV word=(d,true)){W0 w:World}{K:Know}(hlib:K.has Know.lib)(hk:K.has (Know.flat RInt (.slice q ns.length cap) 1 ns))(h:St W0 w K []):
  Calls Tryz.prog 4 #[.string (bb s),.slice q ns.length cap,.string (bb word)] w fun en w'=>en=.returned (.bool true)∧Below W0.heap.size W0 w':=by
 have H:=hQd h;have HLIB:=hQd hlib;have HK:=hQd hk;have HNS:=hQd hns;have b1:¬1500<(s.length:Int):=by omega
 have c1:decide (1500<(s.length:Int))=false:=decide_eq_false b1;have b2:¬200<(ns.length:Int):=by omega
 have c2:decide (200<(ns.length:Int))=false:=decide_eq_false b2;have b3:¬300<(word.length:Int):=by omega
 have c3:decide (300<(word.length:Int))=false:=decide_eq_false b3;obtain⟨T1,bs1,pv1,rest1,pe1,ps1,tk1⟩:=zD2 s h1;have HTK1:=hQd tk1;have HSL:=hQd (show s.length≤1000000 by omega);have HWL:=hQd (show word.length≤1000000 by omega);obtain⟨w1,hw1⟩:∃w,hexW s=w:=⟨_,rfl⟩;have HW1:=hQd hw1;have hwl1:=zM6 s;rw[hw1]at hwl1;have HWL1:=hQd (show w1.length≤1000000 by omega);have HV1:=hQd (show hexV w1=(s,true) by rw[←hw1];exact zIS s);have HNL:=hQd (show ns.length≤1000 by omega);have e1:(T1==T1)=true:=by simp
 have e2:(T1 !=T1)=false:=by simp
 have HVW:=hQd hv;have hdl:=zOB d;rw[zHE hv]at hdl;obtain⟨T2,bs2,pv2,rest2,pe2,ps2,tk2⟩:=zD2 d (by omega);have HTK2:=hQd tk2;have e3:(T2==T2)=true:=by simp
 clear h hlib hk hns h1 h2 h3 hv tk1 hw1 hwl1 tk2 hdl;go_enter Tryz.func4,Tryz.ntmps4
 go_wp2_with (first
  |(go_at_call 6;(with_reducible refine(zDr HLIB.out H.out).mono ?_);rintro e_ wn ⟨rfl,h⟩;replace H:=hQd h;clear h)
  |(go_at_call 17;(with_reducible refine(zMr s w1 HW1.out HSL.out H.out).mono ?_);rintro e_ wn ⟨rfl,h⟩;replace H:=hQd h;clear h)
  |(go_at_call 16;(with_reducible refine(zFl HTK1.out w1 HV1.out HWL1.out ns HNS.out HNL.out q cap HLIB.out HK.out H.out).mono ?_);rintro e_ wn ⟨rfl,h⟩;replace H:=hQd h;clear h)
  |(go_at_call 11;(with_reducible refine(zJA HTK1.out H.out).mono ?_);rintro e_ wn ⟨rfl,h⟩;replace H:=hQd h;clear h)
  |(go_at_call 18;(with_reducible refine(zDu word d true HVW.out HWL.out H.out).mono ?_);rintro e_ wn ⟨rfl,h⟩;replace H:=hQd h;clear h)
  |(go_at_call 16;(with_reducible refine(zFl HTK2.out word HVW.out HWL.out ns HNS.out HNL.out q cap HLIB.out HK.out H.out).mono ?_);rintro e_ wn ⟨rfl,h⟩;replace H:=hQd h;clear h)
  |(go_at_call 11;(with_reducible refine(zJA HTK2.out H.out).mono ?_);rintro e_ wn ⟨rfl,h⟩;replace H:=hQd h;clear h))
 go_ret;exact⟨rfl,H.out.below⟩
theorem zGm(s word:Bs)(ns:List Int)(v:Value)(W:World)(hns:∀x∈ns,Rn x)(hlib:Know.lib.p W (· <W.heap.size))(hr:RowsOf (fun _ cs x=>RInt cs x) (· <W.heap.size) W v 1 ns):
  Calls Tryz.prog 4 #[.string (bb s),v,.string (bb word)] W fun en w'=>en=.returned (.bool true)∧Below W.heap.size W w':=by
 obtain⟨q,cap,hv⟩:∃q cap,v=.slice q ns.length cap:=by obtain⟨p,cap,hv,_⟩:=hr;exact⟨p,cap,hv⟩
 subst hv;have hst:St W W (Know.lib.and (Know.flat RInt (.slice q ns.length cap) 1 ns)) []:=St.start ⟨hlib,hr⟩;have k1:=Know.has_left (b:=Know.flat RInt (.slice q ns.length cap) 1 ns) (Know.has_refl Know.lib);have k2:=Know.has_right (a:=Know.lib) (Know.has_refl (Know.flat RInt (.slice q ns.length cap) 1 ns))
 by_cases h1:1500<s.length
 · exact zPO s word ns q cap hns h1 k1 k2 hst
 by_cases h2:200<ns.length
 · exact zPN s word ns q cap hns (by omega) h2 k1 k2 hst
 by_cases h3:300<word.length
 · exact zPM s word ns q cap hns (by omega) (by omega) h3 k1 k2 hst
 obtain⟨⟨d,ok⟩,hv⟩:∃y,hexV word=y:=⟨_,rfl⟩
 cases ok with
 |false=>exact lr_no s word ns q cap hns (by omega) (by omega) (by omega) d hv k1 k2 hst
 |true=>exact lr_yes s word ns q cap hns (by omega) (by omega) (by omega) d hv k1 k2 hst
end Go.Proofs.YtenojajfacacoaaGreatDoor
namespace Go.Proofs.YtenojajfacacoaaGreatDoor
set_option maxHeartbeats 4000000
open Go.ChangeShapes Go.WideShapes Go.ChangeAt Go.RowKit
theorem var?_block{P:Program}{W:World}{n:String}{cs:Array Value}{g:Nat}(h:W.var? P n=some cs)(hg:P.globalNamed n=some g):∃T fz,W.heap[g]? =some (.cells cs T fz):=by
 unfold World.var? at h;rw[hg,Option.bind_some]at h
 split at h
 · rename_i c T fz hb
   injection h with h;subst h;exact⟨T,fz,hb⟩
 · cases h
theorem gPow:Tryz.prog.globalNamed "internal/strconv.uint64pow10" =some 1:=by kernel_rfl
theorem gPowT:(Tryz.prog.globals[1]?).map (·.type)=some 219:=by kernel_rfl
theorem gSyn:Tryz.prog.globalNamed "strconv.ErrSyntax" =some 6:=by kernel_rfl
theorem gSynT:(Tryz.prog.globals[6]?).map (·.type)=some 83:=by kernel_rfl
theorem gRng:Tryz.prog.globalNamed "strconv.ErrRange" =some 7:=by kernel_rfl
theorem gRngT:(Tryz.prog.globals[7]?).map (·.type)=some 83:=by kernel_rfl
theorem cES:Tryz.prog.cellsOf 272=1:=by kernel_rfl
theorem cStr:Tryz.prog.cellsOf 9=1:=by kernel_rfl
theorem starE: "*" ++ "errors.errorString" = "*errors.errorString" :=by decide
theorem rowE(u:TypeId)(h:Tryz.prog.typeName? 3 u=some "*errors.errorString"):u=270:=
 typeName_ptr_named (nm:= "errors.errorString") (by rw[starE];kernel_rfl) (by kernel_rfl) (by decide) u (by rw[starE];exact h)
theorem zOn:Rows.laid_internal_strconv_uint64pow10 (H:=Unit)=Lib.tabData .u64 Lib.pow10Tab:=by kernel_rfl
theorem zJX{W:World}(h:laidMetH Tryz.prog [("math/bits.deBruijn32tab",Rows.laid_math_bits_deBruijn32tab),("math/bits.deBruijn64tab",Rows.laid_math_bits_deBruijn64tab),("internal/strconv.uint64pow10",Rows.laid_internal_strconv_uint64pow10),("unicode/utf8.acceptRanges",Rows.laid_unicode_utf8_acceptRanges),("strconv.ErrRange",Rows.laid_strconv_ErrRange),("strconv.ErrSyntax",Rows.laid_strconv_ErrSyntax),("unicode/utf8.first",Rows.laid_unicode_utf8_first)] W)(hsh:W.ShapedOpen Tryz.prog):Know.lib.p W (· <W.heap.size):=by
 rw[MakeChecks.laidMetH_plain _ _ _ (by as_aux_lemma=>kernel_rfl)]at h;have lt:∀{g:Nat}{o:Obj},W.heap[g]? =some o→g<W.heap.size:=fun h=>zA2 h
 refine⟨⟨?_,?_⟩,?_,?_⟩
 · obtain⟨m,hm⟩:∃m,W.cell? ⟨0,0,none⟩=some (.int .i64 m):=Go.Proofs.cell_of_shapedOpen_int (zero:= #[.int .i64 0]) (t:=3) hsh (of_decide_eq_true (by kernel_rfl)) (by kernel_rfl) rfl (by kernel_rfl) (by kernel_rfl) Tryz.underlying3;unfold World.cell? at hm
   split at hm
   · rename_i c T fz hb
     exact⟨lt hb,_,hb,m,c,T,fz,rfl,hm⟩
   · cases hm
 · have h2:=h.tail.tail;rw[zOn]at h2;have h3:=Lib.tabIs_of_head gPow gPowT Tryz.underlying219 Tryz.underlying140 (by kernel_rfl) (by kernel_rfl) h2;obtain⟨T,fz,hb⟩:=var?_block h3 gPow;exact⟨lt hb,_,hb,T,fz,rfl⟩
 · obtain⟨a,s,hv,_⟩:=laid_sentinel h.tail.tail.tail.tail.tail gSyn gSynT Tryz.underlying83 rowE Tryz.underlying270 Tryz.underlying272 rfl rfl Tryz.underlying9 cES cStr;obtain⟨T,fz,hb⟩:=var?_block hv gSyn;exact⟨lt hb,_,hb,_,_,T,fz,rfl⟩
 · obtain⟨a,s,hv,_⟩:=laid_sentinel h.tail.tail.tail.tail gRng gRngT Tryz.underlying83 rowE Tryz.underlying270 Tryz.underlying272 rfl rfl Tryz.underlying9 cES cStr;obtain⟨T,fz,hb⟩:=var?_block hv gRng;exact⟨lt hb,_,hb,_,_,T,fz,rfl⟩
noncomputable def lowS:Nat:=(World.holding Tryz.prog default ⟨#[],#[],[]⟩).heap.size
noncomputable def putG (w:World) (g:Nat) (cs:Array Value):World:={w with heap:=w.heap.modify g fun
      | .cells _ t frozen=> .cells cs t frozen
      |o=>o}
noncomputable def scWorld (os:Os):World:=
  putG (putG (putG (putG (putG (putG (putG (World.holding Tryz.prog os ⟨#[.cells #[.string ⟨#[118,97,108,117,101,32,111,117,116,32,111,102,32,114,97,110,103,101]⟩] 272,.cells #[.string ⟨#[105,110,118,97,108,105,100,32,115,121,110,116,97,120]⟩] 272],#[],[]⟩)
    1 #[.int .u64 1,.int .u64 10,.int .u64 100,.int .u64 1000,.int .u64 10000,.int .u64 100000,.int .u64 1000000,.int .u64 10000000,.int .u64 100000000,.int .u64 1000000000,.int .u64 10000000000,.int .u64 100000000000,.int .u64 1000000000000,.int .u64 10000000000000,.int .u64 100000000000000,.int .u64 1000000000000000,.int .u64 10000000000000000,.int .u64 100000000000000000,.int .u64 1000000000000000000,.int .u64 10000000000000000000])
    2 #[.int .u8 0,.int .u8 1,.int .u8 28,.int .u8 2,.int .u8 29,.int .u8 14,.int .u8 24,.int .u8 3,.int .u8 30,.int .u8 22,.int .u8 20,.int .u8 15,.int .u8 25,.int .u8 17,.int .u8 4,.int .u8 8,.int .u8 31,.int .u8 27,.int .u8 13,.int .u8 23,.int .u8 21,.int .u8 19,.int .u8 16,.int .u8 7,.int .u8 26,.int .u8 12,.int .u8 18,.int .u8 6,.int .u8 11,.int .u8 5,.int .u8 10,.int .u8 9])
    3 #[.int .u8 0,.int .u8 1,.int .u8 56,.int .u8 2,.int .u8 57,.int .u8 49,.int .u8 28,.int .u8 3,.int .u8 61,.int .u8 58,.int .u8 42,.int .u8 50,.int .u8 38,.int .u8 29,.int .u8 17,.int .u8 4,.int .u8 62,.int .u8 47,.int .u8 59,.int .u8 36,.int .u8 45,.int .u8 43,.int .u8 51,.int .u8 22,.int .u8 53,.int .u8 39,.int .u8 33,.int .u8 30,.int .u8 24,.int .u8 18,.int .u8 12,.int .u8 5,.int .u8 63,.int .u8 55,.int .u8 48,.int .u8 27,.int .u8 60,.int .u8 41,.int .u8 37,.int .u8 16,.int .u8 46,.int .u8 35,.int .u8 44,.int .u8 21,.int .u8 52,.int .u8 32,.int .u8 23,.int .u8 11,.int .u8 54,.int .u8 26,.int .u8 40,.int .u8 15,.int .u8 34,.int .u8 20,.int .u8 31,.int .u8 10,.int .u8 25,.int .u8 14,.int .u8 19,.int .u8 9,.int .u8 13,.int .u8 8,.int .u8 7,.int .u8 6])
    5 #[.int .u8 128,.int .u8 191,.int .u8 160,.int .u8 191,.int .u8 128,.int .u8 159,.int .u8 144,.int .u8 191,.int .u8 128,.int .u8 143,.int .u8 0,.int .u8 0,.int .u8 0,.int .u8 0,.int .u8 0,.int .u8 0,.int .u8 0,.int .u8 0,.int .u8 0,.int .u8 0,.int .u8 0,.int .u8 0,.int .u8 0,.int .u8 0,.int .u8 0,.int .u8 0,.int .u8 0,.int .u8 0,.int .u8 0,.int .u8 0,.int .u8 0,.int .u8 0])
    7 #[.iface 270 (.pointer (some ⟨lowS,0,none⟩))])
    6 #[.iface 270 (.pointer (some ⟨lowS+1,0,none⟩))])
    4 #[.int .u8 240,.int .u8 240,.int .u8 240,.int .u8 240,.int .u8 240,.int .u8 240,.int .u8 240,.int .u8 240,.int .u8 240,.int .u8 240,.int .u8 240,.int .u8 240,.int .u8 240,.int .u8 240,.int .u8 240,.int .u8 240,.int .u8 240,.int .u8 240,.int .u8 240,.int .u8 240,.int .u8 240,.int .u8 240,.int .u8 240,.int .u8 240,.int .u8 240,.int .u8 240,.int .u8 240,.int .u8 240,.int .u8 240,.int .u8 240,.int .u8 240,.int .u8 240,.int .u8 240,.int .u8 240,.int .u8 240,.int .u8 240,.int .u8 240,.int .u8 240,.int .u8 240,.int .u8 240,.int .u8 240,.int .u8 240,.int .u8 240,.int .u8 240,.int .u8 240,.int .u8 240,.int .u8 240,.int .u8 240,.int .u8 240,.int .u8 240,.int .u8 240,.int .u8 240,.int .u8 240,.int .u8 240,.int .u8 240,.int .u8 240,.int .u8 240,.int .u8 240,.int .u8 240,.int .u8 240,.int .u8 240,.int .u8 240,.int .u8 240,.int .u8 240,.int .u8 240,.int .u8 240,.int .u8 240,.int .u8 240,.int .u8 240,.int .u8 240,.int .u8 240,.int .u8 240,.int .u8 240,.int .u8 240,.int .u8 240,.int .u8 240,.int .u8 240,.int .u8 240,.int .u8 240,.int .u8 240,.int .u8 240,.int .u8 240,.int .u8 240,.int .u8 240,.int .u8 240,.int .u8 240,.int .u8 240,.int .u8 240,.int .u8 240,.int .u8 240,.int .u8 240,.int .u8 240,.int .u8 240,.int .u8 240,.int .u8 240,.int .u8 240,.int .u8 240,.int .u8 240,.int .u8 240,.int .u8 240,.int .u8 240,.int .u8 240,.int .u8 240,.int .u8 240,.int .u8 240,.int .u8 240,.int .u8 240,.int .u8 240,.int .u8 240,.int .u8 240,.int .u8 240,.int .u8 240,.int .u8 240,.int .u8 240,.int .u8 240,.int .u8 240,.int .u8 240,.int .u8 240,.int .u8 240,.int .u8 240,.int .u8 240,.int .u8 240,.int .u8 240,.int .u8 240,.int .u8 240,.int .u8 240,.int .u8 240,.int .u8 240,.int .u8 241,.int .u8 241,.int .u8 241,.int .u8 241,.int .u8 241,.int .u8 241,.int .u8 241,.int .u8 241,.int .u8 241,.int .u8 241,.int .u8 241,.int .u8 241,.int .u8 241,.int .u8 241,.int .u8 241,.int .u8 241,.int .u8 241,.int .u8 241,.int .u8 241,.int .u8 241,.int .u8 241,.int .u8 241,.int .u8 241,.int .u8 241,.int .u8 241,.int .u8 241,.int .u8 241,.int .u8 241,.int .u8 241,.int .u8 241,.int .u8 241,.int .u8 241,.int .u8 241,.int .u8 241,.int .u8 241,.int .u8 241,.int .u8 241,.int .u8 241,.int .u8 241,.int .u8 241,.int .u8 241,.int .u8 241,.int .u8 241,.int .u8 241,.int .u8 241,.int .u8 241,.int .u8 241,.int .u8 241,.int .u8 241,.int .u8 241,.int .u8 241,.int .u8 241,.int .u8 241,.int .u8 241,.int .u8 241,.int .u8 241,.int .u8 241,.int .u8 241,.int .u8 241,.int .u8 241,.int .u8 241,.int .u8 241,.int .u8 241,.int .u8 241,.int .u8 241,.int .u8 241,.int .u8 2,.int .u8 2,.int .u8 2,.int .u8 2,.int .u8 2,.int .u8 2,.int .u8 2,.int .u8 2,.int .u8 2,.int .u8 2,.int .u8 2,.int .u8 2,.int .u8 2,.int .u8 2,.int .u8 2,.int .u8 2,.int .u8 2,.int .u8 2,.int .u8 2,.int .u8 2,.int .u8 2,.int .u8 2,.int .u8 2,.int .u8 2,.int .u8 2,.int .u8 2,.int .u8 2,.int .u8 2,.int .u8 2,.int .u8 2,.int .u8 19,.int .u8 3,.int .u8 3,.int .u8 3,.int .u8 3,.int .u8 3,.int .u8 3,.int .u8 3,.int .u8 3,.int .u8 3,.int .u8 3,.int .u8 3,.int .u8 3,.int .u8 35,.int .u8 3,.int .u8 3,.int .u8 52,.int .u8 4,.int .u8 4,.int .u8 4,.int .u8 68,.int .u8 241,.int .u8 241,.int .u8 241,.int .u8 241,.int .u8 241,.int .u8 241,.int .u8 241,.int .u8 241,.int .u8 241,.int .u8 241,.int .u8 241]
end Go.Proofs.YtenojajfacacoaaGreatDoor
namespace Go.Proofs.YtenojajfacacoaaGreatDoor
set_option maxHeartbeats 4000000
open Go.RowKit
open Go.ChangeShapes Go.WideShapes Go.ChangeAt Go.Deep
theorem zNz:Tryz.prog.cellsOf 3=1:=by kernel_rfl
section
variable {H:Type}{enc:TypeId×Value→H}{w:World}{spare:Nat→Bool}{held:Bool}
theorem zLi:∀n cs y,DataW.trod enc Tryz.prog w 0 spare held n 3 cs=some y→zLZ 3 y.1→(∀x∈y.2,x.block<w.heap.size)→∃x:Int,RInt cs x∧Rn x:=fun n cs y h _ _=>zMS Tryz.underlying3 h
end
end Go.Proofs.YtenojajfacacoaaGreatDoor
