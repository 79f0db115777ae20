/- A text. -/
import Derived.Test.YtenojajfacacoaaGreatDoorGWholePlayedCard10
import Derived.Test.YtenojajfacacoaaGreatDoorGWholePlayedCard12
import Derived.Test.YtenojajfacacoaaGreatDoorGWholePlayedCard6
import Derived.RegionTactic
import Derived.WalkMore
import Derived.Deep.RegionHeld3
import Derived.Deep.DeepCutAuto
import Derived.Test.YtenojajfacacoaaGreatDoorGWholePlayedCard2
import Derived.Laws.Cover2
import Derived.Test.YtenojajfacacoaaGreatDoorGWholePlayedCard9
import Derived.Test.YtenojajfacacoaaGreatDoorGWholePlayedCard5
import Derived.Test.YtenojajfacacoaaGreatDoorGWholePlayedCard1
import Derived.SizedLaws
import Derived.Deep.Slices
import Derived.Test.YtenojajfacacoaaGreatDoorGWholePlayedCard11
/- A text. -/
namespace Go.Proofs.YtenojajfacacoaaGreatDoor
open Go.RowKit
set_option maxHeartbeats 4000000
set_option maxRecDepth 100000
variable {W0 w:World}{K:Know}{L:List Res}
theorem zq22{p:Prop}(h:p:=by first|rfl|(rw[World.size_alloc];rfl)|(rw[World.size_alloc,heb];rfl)):p:=h
theorem zIy(b:BatS)(l:List (RecS×Value))(q:Option Addr)(cap:Nat)(hl:l.map (·.1)=b.recs)(n1 n2 n3 n4 n5:Int)(he:zDs b=(n1,n2,n3,n4,n5,false))(so:EncOk b)(tl:Bs)(htl:zB5 b=tl)(hlib:K.has Know.lib)(hk:K.has (Know.recs (.slice q l.length cap) l))(h:St W0 w K L):
   Calls Tryz.prog 77 #[.agg #[.int .i64 b.base,.int .i64 b.leader,.bool b.app,.bool b.txn,.bool b.ctl,.int .i64 b.last,.int .i64 b.first,.int .i64 b.maxt,.int .i64 b.prod,.int .i64 b.epoch,.int .i64 b.seq,.slice q l.length cap]] w fun en w'=>en=.returned (.string (bb tl))∧St W0 w' K L:=by
 obtain⟨tb,htb⟩:∃b,w.heap.size=b:=⟨_,rfl⟩;have g1:=h.allocRaw #[.int .i64 b.base,.int .i64 b.leader,.bool b.app,.bool b.txn,.bool b.ctl,.int .i64 b.last,.int .i64 b.first,.int .i64 b.maxt,.int .i64 b.prod,.int .i64 b.epoch,.int .i64 b.seq,.slice q l.length cap] 30;rw[htb]at g1;obtain⟨d1,hd1⟩:∃t,numW b.base=t:=⟨_,rfl⟩;obtain⟨d2,hd2⟩:∃t,numW b.prod=t:=⟨_,rfl⟩;obtain⟨d3,hd3⟩:∃t,numW (l.length:Int)=t:=⟨_,rfl⟩;obtain⟨d5,hd5⟩:∃t,numW n5=t:=⟨_,rfl⟩;obtain⟨t,ht⟩:∃t,zAB 32 [[98,97,116,99,104],d1,d2,d3,[100,97,116,97]]=t:=⟨_,rfl⟩;have hR:=so.rng;have hlen:(b.recs.length:Int)=(l.length:Int):=by rw[←hl,List.length_map]
 have hll:=so.llen hl;have r1:Rn b.base:=hR.1;have r2:Rn b.prod:=hR.2.2.2.2.2.1;have r3:Rn (l.length:Int):=by unfold Rn;omega
 have r5:=zHT he;have m1:=zAj _ r1;have m2:=zAj _ r2;have m3:=zAj _ r3;have m5:=zAj _ r5;rw[hd1]at m1;rw[hd2]at m2;rw[hd3]at m3;rw[hd5]at m5;have HT:=hQd ht
 have HTN:=hQd (show t++[10]=tl by
   rw[←ht,←htl];unfold zB5 zNM;rw[zIi he,hlen,hd1,hd2,hd3]
   rfl)
 have HTL:=hQd (show t.length≤1000000 by rw[←ht];simp only[zAB,List.length_append,List.length_cons,List.length_nil];omega);have HWL:=hQd (show([[98,97,116,99,104],d1,d2,d3,[100,97,116,97]]:List Bs).length≤1000000 by simp);have HP:=hQd (show 0<4+1 by omega);have HRB:=hQd r1;have HRP:=hQd r2;have HRL:=hQd r3;have HR5:=hQd r5;have HD1:=hQd hd1;have HD2:=hQd hd2;have HD3:=hQd hd3;have HD5:=hQd hd5;have HL:=hQd hl;have HE:=hQd he;have HSO:=hQd so;have HK:=hQd hk;have HLIB:=hQd hlib;have KP:=hQd (show ∀(w':World) (L':List Res),St W0 w' K (.raw tb #[.int .i64 b.base,.int .i64 b.leader,.bool b.app,.bool b.txn,.bool b.ctl,.int .i64 b.last,.int .i64 b.first,.int .i64 b.maxt,.int .i64 b.prod,.int .i64 b.epoch,.int .i64 b.seq,.slice q l.length cap] 30::L')→(w'.cell? ⟨tb,0,none⟩=some (.int .i64 b.base)∧w'.cell? ⟨tb,8,none⟩=some (.int .i64 b.prod)∧w'.cell? ⟨tb,11,none⟩=some (.slice q l.length cap))from fun w' L' h'=>⟨h'.rawCell 0,h'.rawCell 8,h'.rawCell 11⟩);have H:=hQd g1;clear h g1 hlib hk hl he so htl hd1 hd2 hd3 hd5 ht hR hlen hll r1 r2 r3 r5 m1 m2 m3 m5;go_enter Tryz.func77,Tryz.ntmps77;go_upto_region 1 with fail;have hs:=H.out.drew;clear H;refine wp_region_held_drew (S:=fun w'=>w'.cell? ⟨tb,0,none⟩=some (.int .i64 b.base)∧w'.cell? ⟨tb,8,none⟩=some (.int .i64 b.prod)∧w'.cell? ⟨tb,11,none⟩=some (.slice q l.length cap)) (by kernel_rfl) (KP.out _ _ hs) (fun hHeld=> ?_);refine tQ 0 ⟨some 7,.fieldAddr 30 (.tmp 1) 0,0,_,_,none⟩ ?_;simp only[Act.put,sA,sB,sC];refine tQ 1 ⟨some 8,.load 3 (.tmp 7),3,_,_,none⟩ ?_;simp only[Act.put,sA,sB,sC];refine tQ 3 ⟨some 10,.fieldAddr 30 (.tmp 1) 8,0,_,_,none⟩ ?_;simp only[Act.put,sA,sB,sC];refine tQ 4 ⟨some 11,.load 3 (.tmp 10),3,_,_,none⟩ ?_;simp only[Act.put,sA,sB,sC];refine tQ 6 ⟨some 13,.fieldAddr 30 (.tmp 1) 11,0,_,_,none⟩ ?_;simp only[Act.put,sA,sB,sC];refine tQ 7 ⟨some 14,.load 28 (.tmp 13),28,_,_,none⟩ ?_;simp only[Act.put,sA,sB,sC];refine tQ 8 ⟨some 15,.call {callee:=.builtin .len,args:= #[.tmp 14],argTypes:= #[28]},3,_,_,none⟩ ?_;simp only[Act.put,sA,sB,sC];refine wpAnyH_ready (rs:=[2]) (by kernel_rfl) (by simp) (AllReadyH.cons (o:=⟨some 9,.call {callee:=.value (.func 37),args:= #[.tmp 8],argTypes:= #[3]},9,_,_,none⟩) rfl (fun KK hK=> ?_) AllReadyH.nil);go_simp;go_at_call 37;with_reducible refine(zA8 b.base HRB.out d1 HD1.out HLIB.out hs).mono ?_;rintro e wq ⟨rfl,hs⟩;refine hK.out _ _ (KP.out _ _ hs) (fun hHeld=> ?_);clear hK KK
 try simp only[Act.put,sA,sB,sC]
 refine wpAnyH_ready (rs:=[5]) (by kernel_rfl) (by simp) (AllReadyH.cons (o:=⟨some 12,.call {callee:=.value (.func 37),args:= #[.tmp 11],argTypes:= #[3]},9,_,_,none⟩) rfl (fun KK hK=> ?_) AllReadyH.nil)
 · go_simp;go_at_call 37;with_reducible refine(zA8 b.prod HRP.out d2 HD2.out HLIB.out hs).mono ?_;rintro e wq ⟨rfl,hs⟩;refine hK.out _ _ (KP.out _ _ hs) (fun hHeld=> ?_);clear hK KK
   try simp only[Act.put,sA,sB,sC]
   refine wpAnyH_ready (rs:=[9]) (by kernel_rfl) (by simp) (AllReadyH.cons (o:=⟨some 16,.call {callee:=.value (.func 37),args:= #[.tmp 15],argTypes:= #[3]},9,_,_,none⟩) rfl (fun KK hK=> ?_) AllReadyH.nil)
   · go_simp;go_at_call 37;with_reducible refine(zA8 (l.length:Int) HRL.out d3 HD3.out HLIB.out hs).mono ?_;rintro e wq ⟨rfl,hs⟩;refine hK.out _ _ (KP.out _ _ hs) (fun hHeld=> ?_);clear hK KK
     try simp only[Act.put,sA,sB,sC]
     refine wpAnyH_ready (rs:=[10]) (by kernel_rfl) (by simp) (AllReadyH.cons (o:=⟨some 17,.buildSlice 69 4 #[(0,.const (Value.string {data:= #[98,97,116,99,104]})),(1,.tmp 9),(2,.tmp 12),(3,.tmp 16)],69,_,_,none⟩) rfl (fun KK hK=> ?_) AllReadyH.nil)
     · rw[if_pos (by rfl)];refine zBm (zCM _ _ _ _ (by kernel_rfl) (zKy ⟨#[98,97,116,99,104]⟩ (bb d1) (bb d2) (bb d3) _)) ?_;obtain⟨wy,nb,ey,eb,hs⟩:=hs.rowLitEx [.string ⟨#[98,97,116,99,104]⟩,.string (bb d1),.string (bb d2),.string (bb d3)] 9 1 4 rfl (by unfold maxLen;omega);rw[ey,eb];clear ey eb;refine hK.out _ _ (KP.out _ _ hs.p1) (fun hHeld=> ?_);clear hK KK
       try simp only[Act.put,sA,sB,sC]
       refine tQ 11 ⟨some 3,.assign (.tmp 17),69,_,_,none⟩ ?_;simp only[Act.put,sA,sB,sC];refine wpAnyH_done (by kernel_rfl) ?_ _;clear hHeld;have y0:=hs.p1.rawCell 0;have y1:=hs.p1.rawCell 1;have y2:=hs.p1.rawCell 2;have y3:=hs.p1.rawCell 3;have y4:=hs.p1.rawCell 4;have y5:=hs.p1.rawCell 5;have y6:=hs.p1.rawCell 6;have y7:=hs.p1.rawCell 7;have y8:=hs.p1.rawCell 8;have y9:=hs.p1.rawCell 9;have y10:=hs.p1.rawCell 10;have y11:=hs.p1.rawCell 11;simp at y0 y1 y2 y3 y4 y5 y6 y7 y8 y9 y10 y11;have H:=hQd hs;clear hs
       go_wp2_with (first
 |(go_at_call 108;(try clear y0 y1 y2 y3 y4 y5 y6 y7 y8 y9 y10 y11);(with_reducible refine(zFT b l q cap HL.out n1 n2 n3 n4 n5 _ HE.out HSO.out HK.out H.out).mono ?_);rintro e_ wn ⟨rfl,h⟩;obtain⟨eb,heb⟩:∃y,wn.heap.size=y:=⟨_,rfl⟩;have h:=h.allocRaw #[.int .i64 n1,.int .i64 n2,.int .i64 n3,.int .i64 n4,.int .i64 n5] 161;rw[heb]at h;have f2:=h.rawCell 2;have f4:=h.rawCell 4;simp at f2 f4;replace H:=hQd h;clear h)
 |(at_builtin;refine zAw rfl _ _ 69 rfl 9 Tryz.underlying69 zBD _ _ _ rfl H.out.p1 [.string ⟨#[100,97,116,97]⟩] 9 zq22 rfl (by simp[Value.oneCell']) (by unfold maxLen;omega) (by omega) ?_;intro v' w' h;obtain⟨wb2,cv2,hv⟩:=h.rowSlice (by omega);subst hv;replace H:=hQd h;clear h)
 |(go_at_call 36;(with_reducible refine(zHu [[98,97,116,99,104],d1,d2,d3,[100,97,116,97]] t tl wb2 (4+1) cv2 _ rfl rfl HP.out HWL.out HT.out HTN.out HTL.out H.out).mono ?_);rintro e_ wn ⟨rfl,h⟩;replace H:=hQd h;clear h))
       go_ret;exact⟨rfl,H.out.drop.drop⟩
theorem zGl(b:BatS)(l:List (RecS×Value))(q:Option Addr)(cap:Nat)(hl:l.map (·.1)=b.recs)(n1 n2 n3 n4 n5:Int)(he:zDs b=(n1,n2,n3,n4,n5,true))(hk1:n3=1)(so:EncOk b)(tl:Bs)(htl:zB5 b=tl)(hlib:K.has Know.lib)(hk:K.has (Know.recs (.slice q l.length cap) l))(h:St W0 w K L):
   Calls Tryz.prog 77 #[.agg #[.int .i64 b.base,.int .i64 b.leader,.bool b.app,.bool b.txn,.bool b.ctl,.int .i64 b.last,.int .i64 b.first,.int .i64 b.maxt,.int .i64 b.prod,.int .i64 b.epoch,.int .i64 b.seq,.slice q l.length cap]] w fun en w'=>en=.returned (.string (bb tl))∧St W0 w' K L:=by
 obtain⟨tb,htb⟩:∃b,w.heap.size=b:=⟨_,rfl⟩;have g1:=h.allocRaw #[.int .i64 b.base,.int .i64 b.leader,.bool b.app,.bool b.txn,.bool b.ctl,.int .i64 b.last,.int .i64 b.first,.int .i64 b.maxt,.int .i64 b.prod,.int .i64 b.epoch,.int .i64 b.seq,.slice q l.length cap] 30;rw[htb]at g1;obtain⟨d1,hd1⟩:∃t,numW b.base=t:=⟨_,rfl⟩;obtain⟨d2,hd2⟩:∃t,numW b.prod=t:=⟨_,rfl⟩;obtain⟨d3,hd3⟩:∃t,numW (l.length:Int)=t:=⟨_,rfl⟩;obtain⟨d5,hd5⟩:∃t,numW n5=t:=⟨_,rfl⟩;obtain⟨t,ht⟩:∃t,zAB 32 [[98,97,116,99,104],d1,d2,d3,[99,111,109,109,105,116],d5]=t:=⟨_,rfl⟩;have hR:=so.rng;have hlen:(b.recs.length:Int)=(l.length:Int):=by rw[←hl,List.length_map]
 have hll:=so.llen hl;have r1:Rn b.base:=hR.1;have r2:Rn b.prod:=hR.2.2.2.2.2.1;have r3:Rn (l.length:Int):=by unfold Rn;omega
 have r5:=zHT he;have m1:=zAj _ r1;have m2:=zAj _ r2;have m3:=zAj _ r3;have m5:=zAj _ r5;rw[hd1]at m1;rw[hd2]at m2;rw[hd3]at m3;rw[hd5]at m5;have HT:=hQd ht
 have HTN:=hQd (show t++[10]=tl by
   rw[←ht,←htl];unfold zB5 zNM;rw[zFb he hk1,hlen,hd1,hd2,hd3,hd5]
   rfl)
 have HTL:=hQd (show t.length≤1000000 by rw[←ht];simp only[zAB,List.length_append,List.length_cons,List.length_nil];omega);have HWL:=hQd (show([[98,97,116,99,104],d1,d2,d3,[99,111,109,109,105,116],d5]:List Bs).length≤1000000 by simp);have HP:=hQd (show 0<4+2 by omega);have HRB:=hQd r1;have HRP:=hQd r2;have HRL:=hQd r3;have HR5:=hQd r5;have HD1:=hQd hd1;have HD2:=hQd hd2;have HD3:=hQd hd3;have HD5:=hQd hd5;have HL:=hQd hl;have HE:=hQd he;have HSO:=hQd so;have HK:=hQd hk;have HLIB:=hQd hlib;have KP:=hQd (show ∀(w':World) (L':List Res),St W0 w' K (.raw tb #[.int .i64 b.base,.int .i64 b.leader,.bool b.app,.bool b.txn,.bool b.ctl,.int .i64 b.last,.int .i64 b.first,.int .i64 b.maxt,.int .i64 b.prod,.int .i64 b.epoch,.int .i64 b.seq,.slice q l.length cap] 30::L')→(w'.cell? ⟨tb,0,none⟩=some (.int .i64 b.base)∧w'.cell? ⟨tb,8,none⟩=some (.int .i64 b.prod)∧w'.cell? ⟨tb,11,none⟩=some (.slice q l.length cap))from fun w' L' h'=>⟨h'.rawCell 0,h'.rawCell 8,h'.rawCell 11⟩);have e1:(n3==1)=true:=by rw[beq_iff_eq];exact hk1
 have H:=hQd g1;clear h g1 hlib hk hl he so htl hd1 hd2 hd3 hd5 ht hR hlen hll r1 r2 r3 r5 m1 m2 m3 m5 hk1;go_enter Tryz.func77,Tryz.ntmps77;go_upto_region 1 with fail;have hs:=H.out.drew;clear H;refine wp_region_held_drew (S:=fun w'=>w'.cell? ⟨tb,0,none⟩=some (.int .i64 b.base)∧w'.cell? ⟨tb,8,none⟩=some (.int .i64 b.prod)∧w'.cell? ⟨tb,11,none⟩=some (.slice q l.length cap)) (by kernel_rfl) (KP.out _ _ hs) (fun hHeld=> ?_);refine tQ 0 ⟨some 7,.fieldAddr 30 (.tmp 1) 0,0,_,_,none⟩ ?_;simp only[Act.put,sA,sB,sC];refine tQ 1 ⟨some 8,.load 3 (.tmp 7),3,_,_,none⟩ ?_;simp only[Act.put,sA,sB,sC];refine tQ 3 ⟨some 10,.fieldAddr 30 (.tmp 1) 8,0,_,_,none⟩ ?_;simp only[Act.put,sA,sB,sC];refine tQ 4 ⟨some 11,.load 3 (.tmp 10),3,_,_,none⟩ ?_;simp only[Act.put,sA,sB,sC];refine tQ 6 ⟨some 13,.fieldAddr 30 (.tmp 1) 11,0,_,_,none⟩ ?_;simp only[Act.put,sA,sB,sC];refine tQ 7 ⟨some 14,.load 28 (.tmp 13),28,_,_,none⟩ ?_;simp only[Act.put,sA,sB,sC];refine tQ 8 ⟨some 15,.call {callee:=.builtin .len,args:= #[.tmp 14],argTypes:= #[28]},3,_,_,none⟩ ?_;simp only[Act.put,sA,sB,sC];refine wpAnyH_ready (rs:=[2]) (by kernel_rfl) (by simp) (AllReadyH.cons (o:=⟨some 9,.call {callee:=.value (.func 37),args:= #[.tmp 8],argTypes:= #[3]},9,_,_,none⟩) rfl (fun KK hK=> ?_) AllReadyH.nil);go_simp;go_at_call 37;with_reducible refine(zA8 b.base HRB.out d1 HD1.out HLIB.out hs).mono ?_;rintro e wq ⟨rfl,hs⟩;refine hK.out _ _ (KP.out _ _ hs) (fun hHeld=> ?_);clear hK KK
 try simp only[Act.put,sA,sB,sC]
 refine wpAnyH_ready (rs:=[5]) (by kernel_rfl) (by simp) (AllReadyH.cons (o:=⟨some 12,.call {callee:=.value (.func 37),args:= #[.tmp 11],argTypes:= #[3]},9,_,_,none⟩) rfl (fun KK hK=> ?_) AllReadyH.nil)
 · go_simp;go_at_call 37;with_reducible refine(zA8 b.prod HRP.out d2 HD2.out HLIB.out hs).mono ?_;rintro e wq ⟨rfl,hs⟩;refine hK.out _ _ (KP.out _ _ hs) (fun hHeld=> ?_);clear hK KK
   try simp only[Act.put,sA,sB,sC]
   refine wpAnyH_ready (rs:=[9]) (by kernel_rfl) (by simp) (AllReadyH.cons (o:=⟨some 16,.call {callee:=.value (.func 37),args:= #[.tmp 15],argTypes:= #[3]},9,_,_,none⟩) rfl (fun KK hK=> ?_) AllReadyH.nil)
   · go_simp;go_at_call 37;with_reducible refine(zA8 (l.length:Int) HRL.out d3 HD3.out HLIB.out hs).mono ?_;rintro e wq ⟨rfl,hs⟩;refine hK.out _ _ (KP.out _ _ hs) (fun hHeld=> ?_);clear hK KK
     try simp only[Act.put,sA,sB,sC]
     refine wpAnyH_ready (rs:=[10]) (by kernel_rfl) (by simp) (AllReadyH.cons (o:=⟨some 17,.buildSlice 69 4 #[(0,.const (Value.string {data:= #[98,97,116,99,104]})),(1,.tmp 9),(2,.tmp 12),(3,.tmp 16)],69,_,_,none⟩) rfl (fun KK hK=> ?_) AllReadyH.nil)
     · rw[if_pos (by rfl)];refine zBm (zCM _ _ _ _ (by kernel_rfl) (zKy ⟨#[98,97,116,99,104]⟩ (bb d1) (bb d2) (bb d3) _)) ?_;obtain⟨wy,nb,ey,eb,hs⟩:=hs.rowLitEx [.string ⟨#[98,97,116,99,104]⟩,.string (bb d1),.string (bb d2),.string (bb d3)] 9 1 4 rfl (by unfold maxLen;omega);rw[ey,eb];clear ey eb;refine hK.out _ _ (KP.out _ _ hs.p1) (fun hHeld=> ?_);clear hK KK
       try simp only[Act.put,sA,sB,sC]
       refine tQ 11 ⟨some 3,.assign (.tmp 17),69,_,_,none⟩ ?_;simp only[Act.put,sA,sB,sC];refine wpAnyH_done (by kernel_rfl) ?_ _;clear hHeld;have y0:=hs.p1.rawCell 0;have y1:=hs.p1.rawCell 1;have y2:=hs.p1.rawCell 2;have y3:=hs.p1.rawCell 3;have y4:=hs.p1.rawCell 4;have y5:=hs.p1.rawCell 5;have y6:=hs.p1.rawCell 6;have y7:=hs.p1.rawCell 7;have y8:=hs.p1.rawCell 8;have y9:=hs.p1.rawCell 9;have y10:=hs.p1.rawCell 10;have y11:=hs.p1.rawCell 11;simp at y0 y1 y2 y3 y4 y5 y6 y7 y8 y9 y10 y11;have H:=hQd hs;clear hs
       go_wp2_with (first
 |(go_at_call 108;(try clear y0 y1 y2 y3 y4 y5 y6 y7 y8 y9 y10 y11);(with_reducible refine(zFT b l q cap HL.out n1 n2 n3 n4 n5 _ HE.out HSO.out HK.out H.out).mono ?_);rintro e_ wn ⟨rfl,h⟩;obtain⟨eb,heb⟩:∃y,wn.heap.size=y:=⟨_,rfl⟩;have h:=h.allocRaw #[.int .i64 n1,.int .i64 n2,.int .i64 n3,.int .i64 n4,.int .i64 n5] 161;rw[heb]at h;have f2:=h.rawCell 2;have f4:=h.rawCell 4;simp at f2 f4;replace H:=hQd h;clear h)
 |(go_at_call 37;(with_reducible refine(zA8 n5 HR5.out d5 HD5.out HLIB.out H.out).mono ?_);rintro e_ wn ⟨rfl,h⟩;replace H:=hQd h;clear h)
 |(at_builtin;refine zE6 rfl _ _ 69 rfl 9 Tryz.underlying69 zBD _ _ _ rfl H.out.p1 2 [.string ⟨#[99,111,109,109,105,116]⟩,.string (bb d5)] 9 zq22 rfl (by simp[Value.oneCell']) (by unfold maxLen;omega) (by omega) ?_;intro v' w' h;obtain⟨wb2,cv2,hv⟩:=h.rowSlice (by omega);subst hv;replace H:=hQd h;clear h)
 |(go_at_call 36;(with_reducible refine(zHu [[98,97,116,99,104],d1,d2,d3,[99,111,109,109,105,116],d5] t tl wb2 (4+2) cv2 _ rfl rfl HP.out HWL.out HT.out HTN.out HTL.out H.out).mono ?_);rintro e_ wn ⟨rfl,h⟩;replace H:=hQd h;clear h))
       go_ret;exact⟨rfl,H.out.drop.drop⟩
theorem zHt(b:BatS)(l:List (RecS×Value))(q:Option Addr)(cap:Nat)(hl:l.map (·.1)=b.recs)(n1 n2 n3 n4 n5:Int)(he:zDs b=(n1,n2,n3,n4,n5,true))(hk1:¬n3=1)(so:EncOk b)(tl:Bs)(htl:zB5 b=tl)(hlib:K.has Know.lib)(hk:K.has (Know.recs (.slice q l.length cap) l))(h:St W0 w K L):
   Calls Tryz.prog 77 #[.agg #[.int .i64 b.base,.int .i64 b.leader,.bool b.app,.bool b.txn,.bool b.ctl,.int .i64 b.last,.int .i64 b.first,.int .i64 b.maxt,.int .i64 b.prod,.int .i64 b.epoch,.int .i64 b.seq,.slice q l.length cap]] w fun en w'=>en=.returned (.string (bb tl))∧St W0 w' K L:=by
 obtain⟨tb,htb⟩:∃b,w.heap.size=b:=⟨_,rfl⟩;have g1:=h.allocRaw #[.int .i64 b.base,.int .i64 b.leader,.bool b.app,.bool b.txn,.bool b.ctl,.int .i64 b.last,.int .i64 b.first,.int .i64 b.maxt,.int .i64 b.prod,.int .i64 b.epoch,.int .i64 b.seq,.slice q l.length cap] 30;rw[htb]at g1;obtain⟨d1,hd1⟩:∃t,numW b.base=t:=⟨_,rfl⟩;obtain⟨d2,hd2⟩:∃t,numW b.prod=t:=⟨_,rfl⟩;obtain⟨d3,hd3⟩:∃t,numW (l.length:Int)=t:=⟨_,rfl⟩;obtain⟨d5,hd5⟩:∃t,numW n5=t:=⟨_,rfl⟩;obtain⟨t,ht⟩:∃t,zAB 32 [[98,97,116,99,104],d1,d2,d3,[97,98,111,114,116],d5]=t:=⟨_,rfl⟩;have hR:=so.rng;have hlen:(b.recs.length:Int)=(l.length:Int):=by rw[←hl,List.length_map]
 have hll:=so.llen hl;have r1:Rn b.base:=hR.1;have r2:Rn b.prod:=hR.2.2.2.2.2.1;have r3:Rn (l.length:Int):=by unfold Rn;omega
 have r5:=zHT he;have m1:=zAj _ r1;have m2:=zAj _ r2;have m3:=zAj _ r3;have m5:=zAj _ r5;rw[hd1]at m1;rw[hd2]at m2;rw[hd3]at m3;rw[hd5]at m5;have HT:=hQd ht
 have HTN:=hQd (show t++[10]=tl by
   rw[←ht,←htl];unfold zB5 zNM;rw[zGF he hk1,hlen,hd1,hd2,hd3,hd5]
   rfl)
 have HTL:=hQd (show t.length≤1000000 by rw[←ht];simp only[zAB,List.length_append,List.length_cons,List.length_nil];omega);have HWL:=hQd (show([[98,97,116,99,104],d1,d2,d3,[97,98,111,114,116],d5]:List Bs).length≤1000000 by simp);have HP:=hQd (show 0<4+2 by omega);have HRB:=hQd r1;have HRP:=hQd r2;have HRL:=hQd r3;have HR5:=hQd r5;have HD1:=hQd hd1;have HD2:=hQd hd2;have HD3:=hQd hd3;have HD5:=hQd hd5;have HL:=hQd hl;have HE:=hQd he;have HSO:=hQd so;have HK:=hQd hk;have HLIB:=hQd hlib;have KP:=hQd (show ∀(w':World) (L':List Res),St W0 w' K (.raw tb #[.int .i64 b.base,.int .i64 b.leader,.bool b.app,.bool b.txn,.bool b.ctl,.int .i64 b.last,.int .i64 b.first,.int .i64 b.maxt,.int .i64 b.prod,.int .i64 b.epoch,.int .i64 b.seq,.slice q l.length cap] 30::L')→(w'.cell? ⟨tb,0,none⟩=some (.int .i64 b.base)∧w'.cell? ⟨tb,8,none⟩=some (.int .i64 b.prod)∧w'.cell? ⟨tb,11,none⟩=some (.slice q l.length cap))from fun w' L' h'=>⟨h'.rawCell 0,h'.rawCell 8,h'.rawCell 11⟩);have e1:(n3==1)=false:=by rw[beq_eq_false_iff_ne];exact hk1
 have H:=hQd g1;clear h g1 hlib hk hl he so htl hd1 hd2 hd3 hd5 ht hR hlen hll r1 r2 r3 r5 m1 m2 m3 m5 hk1;go_enter Tryz.func77,Tryz.ntmps77;go_upto_region 1 with fail;have hs:=H.out.drew;clear H;refine wp_region_held_drew (S:=fun w'=>w'.cell? ⟨tb,0,none⟩=some (.int .i64 b.base)∧w'.cell? ⟨tb,8,none⟩=some (.int .i64 b.prod)∧w'.cell? ⟨tb,11,none⟩=some (.slice q l.length cap)) (by kernel_rfl) (KP.out _ _ hs) (fun hHeld=> ?_);refine tQ 0 ⟨some 7,.fieldAddr 30 (.tmp 1) 0,0,_,_,none⟩ ?_;simp only[Act.put,sA,sB,sC];refine tQ 1 ⟨some 8,.load 3 (.tmp 7),3,_,_,none⟩ ?_;simp only[Act.put,sA,sB,sC];refine tQ 3 ⟨some 10,.fieldAddr 30 (.tmp 1) 8,0,_,_,none⟩ ?_;simp only[Act.put,sA,sB,sC];refine tQ 4 ⟨some 11,.load 3 (.tmp 10),3,_,_,none⟩ ?_;simp only[Act.put,sA,sB,sC];refine tQ 6 ⟨some 13,.fieldAddr 30 (.tmp 1) 11,0,_,_,none⟩ ?_;simp only[Act.put,sA,sB,sC];refine tQ 7 ⟨some 14,.load 28 (.tmp 13),28,_,_,none⟩ ?_;simp only[Act.put,sA,sB,sC];refine tQ 8 ⟨some 15,.call {callee:=.builtin .len,args:= #[.tmp 14],argTypes:= #[28]},3,_,_,none⟩ ?_;simp only[Act.put,sA,sB,sC];refine wpAnyH_ready (rs:=[2]) (by kernel_rfl) (by simp) (AllReadyH.cons (o:=⟨some 9,.call {callee:=.value (.func 37),args:= #[.tmp 8],argTypes:= #[3]},9,_,_,none⟩) rfl (fun KK hK=> ?_) AllReadyH.nil);go_simp;go_at_call 37;with_reducible refine(zA8 b.base HRB.out d1 HD1.out HLIB.out hs).mono ?_;rintro e wq ⟨rfl,hs⟩;refine hK.out _ _ (KP.out _ _ hs) (fun hHeld=> ?_);clear hK KK
 try simp only[Act.put,sA,sB,sC]
 refine wpAnyH_ready (rs:=[5]) (by kernel_rfl) (by simp) (AllReadyH.cons (o:=⟨some 12,.call {callee:=.value (.func 37),args:= #[.tmp 11],argTypes:= #[3]},9,_,_,none⟩) rfl (fun KK hK=> ?_) AllReadyH.nil)
 · go_simp;go_at_call 37;with_reducible refine(zA8 b.prod HRP.out d2 HD2.out HLIB.out hs).mono ?_;rintro e wq ⟨rfl,hs⟩;refine hK.out _ _ (KP.out _ _ hs) (fun hHeld=> ?_);clear hK KK
   try simp only[Act.put,sA,sB,sC]
   refine wpAnyH_ready (rs:=[9]) (by kernel_rfl) (by simp) (AllReadyH.cons (o:=⟨some 16,.call {callee:=.value (.func 37),args:= #[.tmp 15],argTypes:= #[3]},9,_,_,none⟩) rfl (fun KK hK=> ?_) AllReadyH.nil)
   · go_simp;go_at_call 37;with_reducible refine(zA8 (l.length:Int) HRL.out d3 HD3.out HLIB.out hs).mono ?_;rintro e wq ⟨rfl,hs⟩;refine hK.out _ _ (KP.out _ _ hs) (fun hHeld=> ?_);clear hK KK
     try simp only[Act.put,sA,sB,sC]
     refine wpAnyH_ready (rs:=[10]) (by kernel_rfl) (by simp) (AllReadyH.cons (o:=⟨some 17,.buildSlice 69 4 #[(0,.const (Value.string {data:= #[98,97,116,99,104]})),(1,.tmp 9),(2,.tmp 12),(3,.tmp 16)],69,_,_,none⟩) rfl (fun KK hK=> ?_) AllReadyH.nil)
     · rw[if_pos (by rfl)];refine zBm (zCM _ _ _ _ (by kernel_rfl) (zKy ⟨#[98,97,116,99,104]⟩ (bb d1) (bb d2) (bb d3) _)) ?_;obtain⟨wy,nb,ey,eb,hs⟩:=hs.rowLitEx [.string ⟨#[98,97,116,99,104]⟩,.string (bb d1),.string (bb d2),.string (bb d3)] 9 1 4 rfl (by unfold maxLen;omega);rw[ey,eb];clear ey eb;refine hK.out _ _ (KP.out _ _ hs.p1) (fun hHeld=> ?_);clear hK KK
       try simp only[Act.put,sA,sB,sC]
       refine tQ 11 ⟨some 3,.assign (.tmp 17),69,_,_,none⟩ ?_;simp only[Act.put,sA,sB,sC];refine wpAnyH_done (by kernel_rfl) ?_ _;clear hHeld;have y0:=hs.p1.rawCell 0;have y1:=hs.p1.rawCell 1;have y2:=hs.p1.rawCell 2;have y3:=hs.p1.rawCell 3;have y4:=hs.p1.rawCell 4;have y5:=hs.p1.rawCell 5;have y6:=hs.p1.rawCell 6;have y7:=hs.p1.rawCell 7;have y8:=hs.p1.rawCell 8;have y9:=hs.p1.rawCell 9;have y10:=hs.p1.rawCell 10;have y11:=hs.p1.rawCell 11;simp at y0 y1 y2 y3 y4 y5 y6 y7 y8 y9 y10 y11;have H:=hQd hs;clear hs
       go_wp2_with (first
 |(go_at_call 108;(try clear y0 y1 y2 y3 y4 y5 y6 y7 y8 y9 y10 y11);(with_reducible refine(zFT b l q cap HL.out n1 n2 n3 n4 n5 _ HE.out HSO.out HK.out H.out).mono ?_);rintro e_ wn ⟨rfl,h⟩;obtain⟨eb,heb⟩:∃y,wn.heap.size=y:=⟨_,rfl⟩;have h:=h.allocRaw #[.int .i64 n1,.int .i64 n2,.int .i64 n3,.int .i64 n4,.int .i64 n5] 161;rw[heb]at h;have f2:=h.rawCell 2;have f4:=h.rawCell 4;simp at f2 f4;replace H:=hQd h;clear h)
 |(go_at_call 37;(with_reducible refine(zA8 n5 HR5.out d5 HD5.out HLIB.out H.out).mono ?_);rintro e_ wn ⟨rfl,h⟩;replace H:=hQd h;clear h)
 |(at_builtin;refine zE6 rfl _ _ 69 rfl 9 Tryz.underlying69 zBD _ _ _ rfl H.out.p1 2 [.string ⟨#[97,98,111,114,116]⟩,.string (bb d5)] 9 zq22 rfl (by simp[Value.oneCell']) (by unfold maxLen;omega) (by omega) ?_;intro v' w' h;obtain⟨wb2,cv2,hv⟩:=h.rowSlice (by omega);subst hv;replace H:=hQd h;clear h)
 |(go_at_call 36;(with_reducible refine(zHu [[98,97,116,99,104],d1,d2,d3,[97,98,111,114,116],d5] t tl wb2 (4+2) cv2 _ rfl rfl HP.out HWL.out HT.out HTN.out HTL.out H.out).mono ?_);rintro e_ wn ⟨rfl,h⟩;replace H:=hQd h;clear h))
       go_ret;exact⟨rfl,H.out.drop.drop⟩
theorem zP5(b:BatS)(l:List (RecS×Value))(q:Option Addr)(cap:Nat)(hl:l.map (·.1)=b.recs)(so:EncOk b)(tl:Bs)(htl:zB5 b=tl)(hlib:K.has Know.lib)(hk:K.has (Know.recs (.slice q l.length cap) l))(h:St W0 w K L):
  Calls Tryz.prog 77 #[.agg #[.int .i64 b.base,.int .i64 b.leader,.bool b.app,.bool b.txn,.bool b.ctl,.int .i64 b.last,.int .i64 b.first,.int .i64 b.maxt,.int .i64 b.prod,.int .i64 b.epoch,.int .i64 b.seq,.slice q l.length cap]] w fun en w'=>en=.returned (.string (bb tl))∧St W0 w' K L:=by
 obtain⟨⟨n1,n2,n3,n4,n5,ok⟩,he⟩:∃y,zDs b=y:=⟨_,rfl⟩
 cases ok with
 |false=>exact zIy b l q cap hl n1 n2 n3 n4 n5 he so tl htl hlib hk h
 |true=>
  by_cases hk1:n3=1
  · exact zGl b l q cap hl n1 n2 n3 n4 n5 he hk1 so tl htl hlib hk h
  · exact zHt b l q cap hl n1 n2 n3 n4 n5 he hk1 so tl htl hlib hk h
set_option maxHeartbeats 8000000
variable {W0 w:World}{K:Know}{L:List Res}
theorem zGA(b:BatS)(l:List (RecS×Value))(q:Option Addr)(cap:Nat)(hl:l.map (·.1)=b.recs)(so:EncOk b)(hk:K.has (Know.recs (.slice q l.length cap) l))(h:St W0 w K L):
    Calls Tryz.prog 48 #[.agg #[.int .i64 b.base,.int .i64 b.leader,.bool b.app,.bool b.txn,.bool b.ctl,.int .i64 b.last,.int .i64 b.first,.int .i64 b.maxt,.int .i64 b.prod,.int .i64 b.epoch,.int .i64 b.seq,.slice q l.length cap]] w fun en w'=>en=.returned (.tuple #[.string (bb b.enc),.int .i64 0])∧St W0 w' K L:=by
  have hrow:=so.rows;have hlen:=so.len;have hcr:=b.crc_lt;have hml:l.length=b.recs.length:=by rw[←hl,List.length_map]
  have f0:=BatS.fitsAll so.err so.rng 0 (by decide) (by omega) (by omega);have f1:=BatS.fitsAll so.err so.rng b.crc (by omega) (by omega) (by omega);have r0:=BatS.pre_R so.err so.rng 0 (by decide) (by omega) (by omega);have r1:=BatS.pre_R so.err so.rng b.crc (by omega) (by omega) (by omega);have hmx:b.first≤9223372036854775807:=by have:=so.rng.2.2.2.1.2;omega
  have e0:b.pre 0=(⟨b.base,49+(b.rowsB.length:Int),b.leader,0,zAA b.app b.txn b.ctl 3,b.last,b.first,b.maxt,b.prod,b.epoch,b.seq,(l.length:Int)⟩:PreS):=by unfold BatS.pre;rw[hml]
  have e1:b.pre b.crc=(⟨b.base,49+(b.rowsB.length:Int),b.leader,(b.crc:Int),zAA b.app b.txn b.ctl 3,b.last,b.first,b.maxt,b.prod,b.epoch,b.seq,(l.length:Int)⟩:PreS):=by unfold BatS.pre;rw[hml]
  have i0:=zBL f0;have i1:=zBL f1;have hd0:=b.pre_drop 0;have l0:=zAK (b.pre 0);have l1:=zAK (b.pre b.crc);have he:zAc ⟨b.base,b.leader,b.app,b.txn,b.ctl,b.last,b.first,b.maxt,b.prod,b.epoch,b.seq,l.map (·.1)⟩=0:=by rw[hl];exact so.err
  have hrc:zCw (l.map (·.1))=0:=by rw[hl];exact(zBu so.err).2.2.2
  have hrw:zBb l=b.rowsB:=by rw[zCq,hl];rfl
  have hfb:FitB l:=so.fit hl;have hall:zAd (b.pre b.crc).items++b.rowsB=b.enc:=rfl;have hx:(zAp 0#32 ((zAd (b.pre 0).items).drop 21++b.rowsB)).toNat=b.crc:=by rw[hd0];rfl
  rw[e0]at r0 i0;rw[e1]at r1 i1;obtain⟨s0,hs0⟩:∃s,zAd (b.pre 0).items=s:=⟨_,rfl⟩;obtain⟨s1,hs1⟩:∃s,zAd (b.pre b.crc).items=s:=⟨_,rfl⟩;have g0:zAd (⟨b.base,49+(b.rowsB.length:Int),b.leader,0,zAA b.app b.txn b.ctl 3,b.last,b.first,b.maxt,b.prod,b.epoch,b.seq,(l.length:Int)⟩:PreS).items=s0:=e0 ▸ hs0;have g1:zAd (⟨b.base,49+(b.rowsB.length:Int),b.leader,(b.crc:Int),zAA b.app b.txn b.ctl 3,b.last,b.first,b.maxt,b.prod,b.epoch,b.seq,(l.length:Int)⟩:PreS).items=s1:=e1 ▸ hs1;rw[g0]at i0;rw[g1]at i1;rw[hs0]at hx l0;rw[hs1]at hall l1;exact zCr b.base b.leader b.app b.txn b.ctl b.last b.first b.maxt b.prod b.epoch b.seq l q cap he hmx hfb (by omega) b.rowsB s0 s1 b.enc b.crc (zAA b.app b.txn b.ctl 3) hrc hrw (by omega) rfl r0 r1 i0 i1 l0 l1 hx hall hk h
theorem zIc(b:BatS)(l:List (RecS×Value))(q:Option Addr)(cap:Nat)(hl:l.map (·.1)=b.recs)(s:Bs)(hs:b.enc=s)(so:EncOk b)(hk:K.has (Know.recs (.slice q l.length cap) l))(h:St W0 w K L):
  Calls Tryz.prog 48 #[.agg #[.int .i64 b.base,.int .i64 b.leader,.bool b.app,.bool b.txn,.bool b.ctl,.int .i64 b.last,.int .i64 b.first,.int .i64 b.maxt,.int .i64 b.prod,.int .i64 b.epoch,.int .i64 b.seq,.slice q l.length cap]] w fun en w'=>en=.returned (.tuple #[.string (bb s),.int .i64 0])∧St W0 w' K L:=by
 subst hs;exact zGA b l q cap hl so hk h
theorem zLq(b:BatS)(l:List (RecS×Value))(q:Option Addr)(cap:Nat)(hl:l.map (·.1)=b.recs)(so:EncOk b)(hk:K.has (Know.recs (.slice q l.length cap) l))(h:St W0 w K L):
  Calls Tryz.prog 109 #[.agg #[.int .i64 b.base,.int .i64 b.leader,.bool b.app,.bool b.txn,.bool b.ctl,.int .i64 b.last,.int .i64 b.first,.int .i64 b.maxt,.int .i64 b.prod,.int .i64 b.epoch,.int .i64 b.seq,.slice q l.length cap]] w fun en w'=>∃x y:Nat,en=.returned (.complex .f64 x y)∧FI x (ptP b)∧FI y (ptQ b)∧St W0 w' K L:=by
 have H:=hQd (h.allocRaw #[.int .i64 b.base,.int .i64 b.leader,.bool b.app,.bool b.txn,.bool b.ctl,.int .i64 b.last,.int .i64 b.first,.int .i64 b.maxt,.int .i64 b.prod,.int .i64 b.epoch,.int .i64 b.seq,.slice q l.length cap] 30);have HK:=hQd hk;have HL:=hQd hl;have HSO:=hQd so;obtain⟨s,hs⟩:∃s,b.enc=s:=⟨_,rfl⟩;have HS:=hQd hs;have hp:ptP b=(s.length:Int):=by unfold ptP;rw[if_pos so.err,hs]
 have hq:ptQ b=(l.length:Int):=by unfold ptQ;rw[if_pos so.err];exact zKZ hl
 rw[hp,hq];have hw1:Wh (s.length:Int):=by have:=so.elen;rw[hs]at this;unfold Wh;omega
 have hw2:Wh (l.length:Int):=by have h1:=so.len;have h2:=zKZ hl;unfold Wh;omega
 have F1:=hQd (FI.conv _ hw1);have F2:=hQd (FI.conv _ hw2);clear h hk hl so hs hp hq hw1 hw2;go_enter Tryz.func109,Tryz.ntmps109;go_wp2_with (go_at_call 48;(with_reducible refine(zIc b l q cap HL.out s HS.out HSO.out HK.out H.out).mono ?_);rintro e_ wn ⟨rfl,h⟩;have c11:=h.rawCell 11;simp at c11;replace H:=hQd h;clear h);go_ret;exact⟨_,_,rfl,F1.out,F2.out,H.out.drop⟩
theorem zLp(l:List BatR)(q:Option Addr)(cap:Nat)(hs:∀x∈l,OkB x)(hn:l.length≤2000)(hk:K.has (Know.bats (.slice q l.length cap) l))(h:St W0 w K L):
  Calls Tryz.prog 78 #[.slice q l.length cap] w fun en w'=>∃x y:Nat,en=.returned (.complex .f64 x y)∧FI x (sP l)∧FI y (sQ l)∧St W0 w' K L:=by
 have H:=hQd h;have HK:=hQd hk;have HS:=hQd hs;have hni:(l.length:Int)≤2000:=by omega
 clear h hk hs;go_enter Tryz.func78,Tryz.ntmps78;go_wp2;go_loopw [3,5,8] (fun sv _ iv wr=>∃(k X Y:Nat),k≤l.length∧iv=.int .i64 k∧sv=.complex .f64 X Y∧Hid (FI X (sP (l.take k)))∧Hid (FI Y (sQ (l.take k)))∧St W0 wr K L) (fun _ _ iv _=>l.length - (intOf iv).toNat)
 case atStart=>exact⟨0,0,0,Nat.zero_le _,rfl,rfl,hQd FI.zero,hQd FI.zero,H.out⟩
 case round=>
  obtain⟨k,X,Y,hkl,rfl,rfl,FX,FY,hst⟩:=hrel;clear H;have H:=hQd hst;clear hst
  by_cases hlt:k<l.length
  · as_aux_lemma=>
    obtain⟨b0,off,hqq⟩:=zED HK.out H.out (by omega);subst hqq;obtain⟨x,hx⟩:∃x,l[k]=x:=⟨_,rfl⟩;have hmem:x∈l:=hx ▸ List.getElem_mem hlt;have hxk:=zB8 HK.out hmem;have hcell:=zCO HK.out H.out k hlt x hx;obtain⟨st1,st2,st3⟩:=zPX l k hlt x hx;have hfit:=HS.out x hmem;obtain⟨b,xl,xq,xcap⟩:=x;obtain⟨c0,c1,c2,c3,c4,c5,c6,c7,c8,c9,c10,c11⟩:wr.cell? ⟨b0,off+k*12,none⟩=some (.int .i64 b.base)∧wr.cell? ⟨b0,off+k*12+1,none⟩=some (.int .i64 b.leader)∧wr.cell? ⟨b0,off+k*12+2,none⟩=some (.bool b.app)∧wr.cell? ⟨b0,off+k*12+3,none⟩=some (.bool b.txn)∧wr.cell? ⟨b0,off+k*12+4,none⟩=some (.bool b.ctl)∧wr.cell? ⟨b0,off+k*12+5,none⟩=some (.int .i64 b.last)∧wr.cell? ⟨b0,off+k*12+6,none⟩=some (.int .i64 b.first)∧wr.cell? ⟨b0,off+k*12+7,none⟩=some (.int .i64 b.maxt)∧wr.cell? ⟨b0,off+k*12+8,none⟩=some (.int .i64 b.prod)∧wr.cell? ⟨b0,off+k*12+9,none⟩=some (.int .i64 b.epoch)∧wr.cell? ⟨b0,off+k*12+10,none⟩=some (.int .i64 b.seq)∧wr.cell? ⟨b0,off+k*12+11,none⟩=some (.slice xq xl.length xcap):=hcell;have HXK:=hQd (show K.has (Know.recs (.slice xq xl.length xcap) xl)from hxk);have hkn:(k:Int)<(l.length:Int):=by omega
    obtain⟨tb,htb⟩:∃b,wr.heap.size=b:=⟨_,rfl⟩;have h:=H.out.allocRaw #[.int .i64 b.base,.int .i64 b.leader,.bool b.app,.bool b.txn,.bool b.ctl,.int .i64 b.last,.int .i64 b.first,.int .i64 b.maxt,.int .i64 b.prod,.int .i64 b.epoch,.int .i64 b.seq,.slice xq xl.length xcap] 30;rw[htb]at h;have d0:=h.rawCell 0;have d1:=h.rawCell 1;have d2:=h.rawCell 2;have d3:=h.rawCell 3;have d4:=h.rawCell 4;have d5:=h.rawCell 5;have d6:=h.rawCell 6;have d7:=h.rawCell 7;have d8:=h.rawCell 8;have d9:=h.rawCell 9;have d10:=h.rawCell 10;have d11:=h.rawCell 11;simp at d0 d1 d2 d3 d4 d5 d6 d7 d8 d9 d10 d11;clear H;have H:=hQd h;have HXL:=hQd (show xl.map (·.1)=b.recs from hfit.1);have HSO:=hQd (show EncOk b from hfit.2);have hrg:=zM4 (l.take (k+1)) (fun y hy=>HS.out y (List.mem_of_mem_take hy));have hlen:(l.take (k+1)).length≤2000:=by rw[List.length_take];omega
    have S1:=hQd st1;have S2:=hQd st2;have WX:=hQd (show Wh (sP (l.take k)+ptP b) by have h1:sP (l.take (k+1))=sP (l.take k)+ptP b:=st1;rw[←h1];unfold Wh;omega);have WY:=hQd (show Wh (sQ (l.take k)+ptQ b) by have h1:sQ (l.take (k+1))=sQ (l.take k)+ptQ b:=st2;rw[←h1];unfold Wh;omega);clear h hx hmem hxk st1 st2 st3 hfit hrg hlen;go_wp2_with (go_at_call 109;(with_reducible refine(zLq b xl xq xcap HXL.out HSO.out HXK.out H.out).mono ?_);rintro e_ wn ⟨x2,y2,rfl,hx2,hy2,h⟩;obtain⟨x3,ex,fx⟩:=FI.add FX.out hx2 WX.out;obtain⟨y3,ey,fy⟩:=FI.add FY.out hy2 WY.out;have hadd:=zOK 117 ex ey;have FX3:=hQd fx;have FY3:=hQd fy;clear ex ey fx fy hx2 hy2;replace H:=hQd h;clear h);go_roundw
    case rel=>exact⟨k+1,x3,y3,hlt,by go_num,rfl,hQd (by rw[S1.out];exact FX3.out),hQd (by rw[S2.out];exact FY3.out),H.out.drop⟩
    case measure=>first|(simp[intOf];done)|(simp[intOf];omega)
  · obtain rfl:k=l.length:=by omega
    have e:=List.take_length (l:=l);have h1:=FX.out;have h2:=FY.out;rw[e]at h1 h2;have FX2:=hQd h1;have FY2:=hQd h2;clear h1 h2 e;go_wp2;go_ret;exact⟨X,Y,rfl,FX2.out,FY2.out,H.out⟩
variable {W0 w:World}{K:Know}{L:List Res}
theorem zOc(sb valid:Nat)(p:Option Addr)(n cap:Nat)(e:Int)(h0:e≠0)(h:St W0 w K (.raw sb #[.int .i64 valid,.slice p n cap,.int .i64 e] 187::L)):
  Calls Tryz.prog 107 #[.pointer (some ⟨sb,0,none⟩)] w fun en w'=>en=.returned (.agg #[.int .i64 valid,.int .i64 2,.int .i64 e])∧St W0 w' K (.raw sb #[.int .i64 valid,.slice p n cap,.int .i64 e] 187::L):=by
 obtain⟨rb,hrb⟩:∃b,w.heap.size=b:=⟨_,rfl⟩;have g1:=h.allocRaw #[.int .i64 0,.int .i64 0,.int .i64 0] 112;rw[hrb]at g1;have H:=hQd g1;have g1e:(e==0)=false:=by rw[beq_eq_false_iff_ne];exact h0
 have g2e:(e !=0)=true:=by simp[bne,g1e]
 clear h g1 h0;go_enter Tryz.func107,Tryz.ntmps107;go_upto_region 1 with (fail);go_cut [3] (fun s3 wx=>∃tb:Nat,s3=.pointer (some ⟨tb,0,none⟩)∧St W0 wx K (.raw tb #[.int .i64 valid,.int .i64 0,.int .i64 e] 112::.raw rb #[.int .i64 0,.int .i64 0,.int .i64 0] 112::.raw sb #[.int .i64 valid,.slice p n cap,.int .i64 e] 187::L))
 case first=>
  have hs:=H.out.drew;refine wp_region_held_drew (S:=fun w'=>w'.cell? ⟨sb,0,none⟩=some (.int .i64 valid)∧w'.cell? ⟨sb,2,none⟩=some (.int .i64 e)) (by kernel_rfl) ⟨hs.p1.rawCell 0,hs.p1.rawCell 2⟩ (fun hHeld=> ?_);refine tQ 0 ⟨some 4,.move (.tmp 0),156,_,_,none⟩ ?_;simp only[Act.put,sA,sB,sC];refine tQ 1 ⟨some 5,.nilCheck (.tmp 4),0,_,_,none⟩ ?_;simp only[Act.put,sA,sB,sC];refine tQ 2 ⟨some 6,.fieldAddr 187 (.tmp 5) 0,0,_,_,none⟩ ?_;simp only[Act.put,sA,sB,sC];refine tQ 3 ⟨some 7,.load 3 (.tmp 6),3,_,_,none⟩ ?_;simp only[Act.put,sA,sB,sC];refine tQ 4 ⟨some 8,.move (.tmp 0),156,_,_,none⟩ ?_;simp only[Act.put,sA,sB,sC];refine tQ 5 ⟨some 9,.nilCheck (.tmp 8),0,_,_,none⟩ ?_;simp only[Act.put,sA,sB,sC];refine tQ 6 ⟨some 10,.fieldAddr 187 (.tmp 9) 2,0,_,_,none⟩ ?_;simp only[Act.put,sA,sB,sC];refine tQ 7 ⟨some 11,.load 44 (.tmp 10),44,_,_,none⟩ ?_;simp only[Act.put,sA,sB,sC];refine tQ 8 ⟨some 12,.build 112 #[(0,.tmp 7),(1,.const (Value.int IntKind.i64 0)),(2,.tmp 11)],112,_,_,none⟩ ?_;simp only[Act.put,sA,sB,sC];refine wpAnyH_ready (rs:=[9]) (by kernel_rfl) (by simp) (AllReadyH.cons (o:=⟨some 3,.alloc 112,0,_,_,none⟩) rfl (fun KK hK=> ?_) AllReadyH.nil);obtain⟨wy,tb,ey,er,hs⟩:=hs.allocEx #[.int .i64 0,.int .i64 0,.int .i64 0] 112;go_simp
  try rw[ey]
  try rw[er]
  clear ey er;refine hK.out _ _ (⟨hs.p2.rawCell 0,hs.p2.rawCell 2⟩) (fun hHeld=> ?_);clear hK KK
  try simp only[Act.put,sA,sB,sC]
  refine wpAnyH_ready (rs:=[10]) (by kernel_rfl) (by simp) (AllReadyH.cons (o:=⟨none,.store 112 (.tmp 3) (.tmp 12),0,_,_,none⟩) rfl (fun KK hK=> ?_) AllReadyH.nil);rw[if_pos (by rfl)];refine wp_store_mid 112 (.tmp 3) (.tmp 12) rfl tb 0 #[.int .i64 valid,.int .i64 0,.int .i64 e] (by rfl) (by rfl) hs.there (by kernel_rfl) (by simp[Value.oneCell']) ?_;obtain⟨wz,ez,hs⟩:=hs.storeEx #[.int .i64 valid,.int .i64 0,.int .i64 e];rw[ez];clear ez;rw[zCa]at hs;rotate_left
  · rfl
  refine hK.out _ _ (⟨hs.p2.rawCell 0,hs.p2.rawCell 2⟩) (fun hHeld=> ?_);clear hK KK
  try simp only[Act.put,sA,sB,sC]
  refine wpAnyH_done (by kernel_rfl) ?_ _;clear hHeld;go_wp2_with fail;go_meet;exact⟨tb,rfl,hs⟩
 obtain⟨tb,rfl,h⟩:=hcut;clear H;have H:=hQd h;have hne:=St.raw_neS h;have hne2:=fun hh=>hne (Eq.symm hh)
 have a0:=h.rawCell 0;have a1:=h.rawCell 1;have a2:=h.rawCell 2;have r1:=h.rawFree 1;have b0:=h.p1.rawFree 0;have b1:=h.p1.rawFree 1;have b2:=h.p1.rawFree 2;have d0:=h.p1.rawCell 0;have d1:=h.p1.rawCell 1;have d2:=h.p1.rawCell 2;have c0:=h.p2.rawCell 0;have c1:=h.p2.rawCell 1;have c2:=h.p2.rawCell 2;simp at a0 a1 a2 d0 d1 d2 c0 c1 c2;clear h;go_wp2_with fail;have hz:St W0 _ _ (.raw rb #[.int .i64 valid,.int .i64 2,.int .i64 e] 112::.raw tb _ 112::_):=((((H.out.rawSet 1 (.int .i64 2)).p1.rawSet 0 (.int .i64 valid)).rawSet 1 (.int .i64 2)).rawSet 2 (.int .i64 e));refine bodyPost_ret (zAP rfl _ _ rb [.int .i64 valid,.int .i64 2,.int .i64 e] _ rfl (zAo hz) Tryz.underlying112 rfl (by kernel_rfl)) rfl ?_;exact⟨rfl,hz.drop.drop⟩
theorem zq7{p:Prop}(h:p:=by
  have hs:=H.out.drew;refine wp_region_held_drew (S:=fun w'=>w'.cell? ⟨sb,0,none⟩=some (.int .i64 valid)∧w'.cell? ⟨sb,2,none⟩=some (.int .i64 0)) (by kernel_rfl) ⟨hs.p1.rawCell 0,hs.p1.rawCell 2⟩ (fun hHeld=> ?_);refine tQ 0 ⟨some 4,.move (.tmp 0),156,_,_,none⟩ ?_;simp only[Act.put,sA,sB,sC];refine tQ 1 ⟨some 5,.nilCheck (.tmp 4),0,_,_,none⟩ ?_;simp only[Act.put,sA,sB,sC];refine tQ 2 ⟨some 6,.fieldAddr 187 (.tmp 5) 0,0,_,_,none⟩ ?_;simp only[Act.put,sA,sB,sC];refine tQ 3 ⟨some 7,.load 3 (.tmp 6),3,_,_,none⟩ ?_;simp only[Act.put,sA,sB,sC];refine tQ 4 ⟨some 8,.move (.tmp 0),156,_,_,none⟩ ?_;simp only[Act.put,sA,sB,sC];refine tQ 5 ⟨some 9,.nilCheck (.tmp 8),0,_,_,none⟩ ?_;simp only[Act.put,sA,sB,sC];refine tQ 6 ⟨some 10,.fieldAddr 187 (.tmp 9) 2,0,_,_,none⟩ ?_;simp only[Act.put,sA,sB,sC];refine tQ 7 ⟨some 11,.load 44 (.tmp 10),44,_,_,none⟩ ?_;simp only[Act.put,sA,sB,sC];refine tQ 8 ⟨some 12,.build 112 #[(0,.tmp 7),(1,.const (Value.int IntKind.i64 0)),(2,.tmp 11)],112,_,_,none⟩ ?_;simp only[Act.put,sA,sB,sC];refine wpAnyH_ready (rs:=[9]) (by kernel_rfl) (by simp) (AllReadyH.cons (o:=⟨some 3,.alloc 112,0,_,_,none⟩) rfl (fun KK hK=> ?_) AllReadyH.nil);obtain⟨wy,tb,ey,er,hs⟩:=hs.allocEx #[.int .i64 0,.int .i64 0,.int .i64 0] 112;go_simp
  try rw[ey]
  try rw[er]
  clear ey er;refine hK.out _ _ (⟨hs.p2.rawCell 0,hs.p2.rawCell 2⟩) (fun hHeld=> ?_);clear hK KK
  try simp only[Act.put,sA,sB,sC]
  refine wpAnyH_ready (rs:=[10]) (by kernel_rfl) (by simp) (AllReadyH.cons (o:=⟨none,.store 112 (.tmp 3) (.tmp 12),0,_,_,none⟩) rfl (fun KK hK=> ?_) AllReadyH.nil);rw[if_pos (by rfl)];refine wp_store_mid 112 (.tmp 3) (.tmp 12) rfl tb 0 #[.int .i64 valid,.int .i64 0,.int .i64 0] (by rfl) (by rfl) hs.there (by kernel_rfl) (by simp[Value.oneCell']) ?_;obtain⟨wz,ez,hs⟩:=hs.storeEx #[.int .i64 valid,.int .i64 0,.int .i64 0];rw[ez];clear ez;rw[zCa]at hs;rotate_left
  · rfl
  refine hK.out _ _ (⟨hs.p2.rawCell 0,hs.p2.rawCell 2⟩) (fun hHeld=> ?_);clear hK KK
  try simp only[Act.put,sA,sB,sC]
  refine wpAnyH_done (by kernel_rfl) ?_ _;clear hHeld;go_wp2_with fail;go_meet;exact⟨tb,rfl,hs⟩):p:=h
theorem zMq(sb valid:Nat)(p:Option Addr)(n cap:Nat)(hn:0<n)(h:St W0 w K (.raw sb #[.int .i64 valid,.slice p n cap,.int .i64 0] 187::L)):
  Calls Tryz.prog 107 #[.pointer (some ⟨sb,0,none⟩)] w fun en w'=>en=.returned (.agg #[.int .i64 valid,.int .i64 1,.int .i64 0])∧St W0 w' K (.raw sb #[.int .i64 valid,.slice p n cap,.int .i64 0] 187::L):=by
 obtain⟨rb,hrb⟩:∃b,w.heap.size=b:=⟨_,rfl⟩;have g1:=h.allocRaw #[.int .i64 0,.int .i64 0,.int .i64 0] 112;rw[hrb]at g1;have H:=hQd g1;have hni:0<(n:Int):=by omega
 clear h g1 hn;go_enter Tryz.func107,Tryz.ntmps107;go_upto_region 1 with (fail);go_cut [3] (fun s3 wx=>∃tb:Nat,s3=.pointer (some ⟨tb,0,none⟩)∧St W0 wx K (.raw tb #[.int .i64 valid,.int .i64 0,.int .i64 0] 112::.raw rb #[.int .i64 0,.int .i64 0,.int .i64 0] 112::.raw sb #[.int .i64 valid,.slice p n cap,.int .i64 0] 187::L))
 case first=>
  exact zq7
 obtain⟨tb,rfl,h⟩:=hcut;clear H;have H:=hQd h;have hne:=St.raw_neS h;have hne2:=fun hh=>hne (Eq.symm hh)
 have a0:=h.rawCell 0;have a1:=h.rawCell 1;have a2:=h.rawCell 2;have r1:=h.rawFree 1;have b0:=h.p1.rawFree 0;have b1:=h.p1.rawFree 1;have b2:=h.p1.rawFree 2;have d0:=h.p1.rawCell 0;have d1:=h.p1.rawCell 1;have d2:=h.p1.rawCell 2;have c0:=h.p2.rawCell 0;have c1:=h.p2.rawCell 1;have c2:=h.p2.rawCell 2;simp at a0 a1 a2 d0 d1 d2 c0 c1 c2;clear h;go_wp2_with fail;have hz:St W0 _ _ (.raw rb #[.int .i64 valid,.int .i64 1,.int .i64 0] 112::.raw tb _ 112::_):=((((H.out.rawSet 1 (.int .i64 1)).p1.rawSet 0 (.int .i64 valid)).rawSet 1 (.int .i64 1)).rawSet 2 (.int .i64 0));refine bodyPost_ret (zAP rfl _ _ rb [.int .i64 valid,.int .i64 1,.int .i64 0] _ rfl (zAo hz) Tryz.underlying112 rfl (by kernel_rfl)) rfl ?_;exact⟨rfl,hz.drop.drop⟩
theorem zKx(sb valid:Nat)(p:Option Addr)(n cap:Nat)(hn:n=0)(h:St W0 w K (.raw sb #[.int .i64 valid,.slice p n cap,.int .i64 0] 187::L)):
  Calls Tryz.prog 107 #[.pointer (some ⟨sb,0,none⟩)] w fun en w'=>en=.returned (.agg #[.int .i64 valid,.int .i64 0,.int .i64 0])∧St W0 w' K (.raw sb #[.int .i64 valid,.slice p n cap,.int .i64 0] 187::L):=by
 obtain⟨rb,hrb⟩:∃b,w.heap.size=b:=⟨_,rfl⟩;have g1:=h.allocRaw #[.int .i64 0,.int .i64 0,.int .i64 0] 112;rw[hrb]at g1;have H:=hQd g1;have hni:¬0<(n:Int):=by omega
 clear h g1 hn;go_enter Tryz.func107,Tryz.ntmps107;go_upto_region 1 with (fail);go_cut [3] (fun s3 wx=>∃tb:Nat,s3=.pointer (some ⟨tb,0,none⟩)∧St W0 wx K (.raw tb #[.int .i64 valid,.int .i64 0,.int .i64 0] 112::.raw rb #[.int .i64 0,.int .i64 0,.int .i64 0] 112::.raw sb #[.int .i64 valid,.slice p n cap,.int .i64 0] 187::L))
 case first=>
  exact zq7
 obtain⟨tb,rfl,h⟩:=hcut;clear H;have H:=hQd h;have hne:=St.raw_neS h;have hne2:=fun hh=>hne (Eq.symm hh)
 have a0:=h.rawCell 0;have a1:=h.rawCell 1;have a2:=h.rawCell 2;have r1:=h.rawFree 1;have b0:=h.p1.rawFree 0;have b1:=h.p1.rawFree 1;have b2:=h.p1.rawFree 2;have d0:=h.p1.rawCell 0;have d1:=h.p1.rawCell 1;have d2:=h.p1.rawCell 2;have c0:=h.p2.rawCell 0;have c1:=h.p2.rawCell 1;have c2:=h.p2.rawCell 2;simp at a0 a1 a2 d0 d1 d2 c0 c1 c2;clear h;go_wp2_with fail;have hz:St W0 _ _ (.raw rb #[.int .i64 valid,.int .i64 0,.int .i64 0] 112::.raw tb _ 112::_):=(((H.out.p1.rawSet 0 (.int .i64 valid)).rawSet 1 (.int .i64 0)).rawSet 2 (.int .i64 0));refine bodyPost_ret (zAP rfl _ _ rb [.int .i64 valid,.int .i64 0,.int .i64 0] _ rfl (zAo hz) Tryz.underlying112 rfl (by kernel_rfl)) rfl ?_;exact⟨rfl,hz.drop.drop⟩
theorem zPS{q:Option Addr}{n cap:Nat}{l:List Bs}(hk:K.has (Know.strs (.slice q n cap) l))(h:St W0 w K L)(h0:0<l.length):∃b off,q=some ⟨b,off,none⟩:=by
 obtain⟨F,hF,_⟩:=h.get;obtain⟨q2,cap2,hv,hr⟩:=strRows.at (hk _ _ hF);obtain⟨b,off,hq,_⟩:=hr h0;simp at hv;exact⟨b,off,hv.1.trans hq⟩
theorem zMP{b off n cap:Nat}{l:List Bs}(hk:K.has (Know.strs (.slice (some ⟨b,off,none⟩) n cap) l))(h:St W0 w K L)(i:Nat)(hi:i<l.length)(x:Bs)(hx:l[i]=x):
  w.cell? ⟨b,off+i,none⟩=some (.string (bb x)):=by
 subst hx;obtain⟨F,hF,_⟩:=h.get;obtain⟨q2,cap2,hv,hr⟩:=strRows.at (hk _ _ hF);obtain⟨b2,off2,hq,hc⟩:=hr (by omega);rw[hq]at hv;simp at hv;obtain⟨⟨rfl,rfl⟩,_,_⟩:=hv;exact hc i hi
theorem zMW(l:List Bs)(A:Bs)(hA:l.flatten=A)(hAl:A.length≤90000)(q:Option Addr)(cap:Nat)(hll:l.length≤1000000){W0 w:World}{K:Know}{L:List Res}(hk:K.has (Know.strs (.slice q l.length cap) l))(h:St W0 w K L):
  Calls Tryz.prog 75 #[.slice q l.length cap] w fun en w'=>∃(q2:Option Addr) (cap2:Nat) (lr:List BatR),en=.returned (.tuple #[.slice q2 lr.length cap2,.agg #[.int .i64 ((finS A).2.1:Nat),.int .i64 (zGi (finS A).2.2.1 (finS A).2.2.2),.int .i64 (finS A).2.2.2]])∧lr.map BatR.b=(finS A).1∧(∀x∈lr,zGD x)∧61*lr.length≤A.length∧(((q2=none∧cap2=0)∨∃g,q2=some ⟨g,0,none⟩)∧lr.length≤cap2)∧St W0 w' (K.and (Know.bats (.slice q2 lr.length cap2) lr)) L:=by
 obtain⟨rb,hrb⟩:∃b,w.heap.size=b:=⟨_,rfl⟩;have g1:=h.allocRaw #[.int .i64 0,.int .i64 0,.int .i64 0] 112;rw[hrb]at g1;have H:=hQd g1;have HK:=hQd hk;have HAE:=hQd hA;have HAL:=hQd hAl;have hli:(l.length:Int)≤1000000:=by omega
 clear h g1 hk hA hAl hll;go_enter Tryz.func75,Tryz.ntmps75;go_wp2_with (go_at_call 105;(with_reducible refine(zOG H.out).mono ?_);rintro e_ wn ⟨sb,rfl,h⟩;replace H:=hQd h;clear h);go_loopw [5,7,11] (fun lv _ iv wr=>∃(k:Nat) (acc:List BatR) (K2:Know) (v:Value),k≤l.length∧iv=.int .i64 k∧Hid (acc.map BatR.b=(finS ((l.take k).flatten)).1)∧Hid (K2.has K)∧Hid (∀x∈acc,K2.has (Know.recs (.slice x.q x.l.length x.cap) x.l))∧Hid (∀x∈acc,zGD x)∧St W0 wr K2 (.row lv 30 12 acc.length (acc.flatMap zAz)::.raw sb #[.int .i64 ((finS ((l.take k).flatten)).2.1:Nat),v,.int .i64 (finS ((l.take k).flatten)).2.2.2] 187::.row v 5 1 (finS ((l.take k).flatten)).2.2.1.length (zAi (finS ((l.take k).flatten)).2.2.1)::.raw rb #[.int .i64 0,.int .i64 0,.int .i64 0] 112::L)) (fun _ _ iv _=>l.length - (intOf iv).toNat)
 case atStart=>exact⟨0,[],K,.slice none 0 0,Nat.zero_le _,rfl,hQd (by rw[List.take_zero];show _=(finS []).1;rw[zKn];rfl),hQd (Know.has_refl _),hQd (fun x hx=>by cases hx),hQd (fun x hx=>by cases hx),by
  rw[List.take_zero]
  show St W0 _ K (.row (.slice none 0 0) 30 12 0 []::.raw sb #[.int .i64 ((finS []).2.1:Nat),.slice none 0 0,.int .i64 (finS []).2.2.2] 187::.row (.slice none 0 0) 5 1 (finS []).2.2.1.length (zAi (finS []).2.2.1)::.raw rb #[.int .i64 0,.int .i64 0,.int .i64 0] 112::L)
  rw[zKn]
  exact(H.out.nilRow 5 1).p1.nilRow 30 12⟩
 case round=>
  obtain⟨k,acc,K2,v,hkl,rfl,HMAP,HKK,HREC,HLIT,hst⟩:=hrel;clear H
  have hAk:((l.take k).flatten).length≤90000:=by
    have h1:l.flatten=((l.take k).flatten)++(l.drop k).flatten:=by rw[←List.flatten_append,List.take_append_drop]
    have h2:=congrArg List.length h1;rw[List.length_append,HAE.out]at h2;have:=HAL.out
    omega
  have hcn:=zJa ((l.take k).flatten);have hfr:=zPb ((l.take k).flatten);have hac:=congrArg List.length HMAP.out;rw[List.length_map]at hac;have HAB:=hQd (show acc.length≤2000 by omega);obtain⟨⟨bs,vd,rs,er⟩,hfe⟩:∃r,finS ((l.take k).flatten)=r:=⟨_,rfl⟩;replace hst:St W0 wr K2 (.row u5 30 12 acc.length (acc.flatMap zAz)::.raw sb #[.int .i64 (vd:Nat),v,.int .i64 er] 187::.row v 5 1 rs.length (zAi rs)::.raw rb #[.int .i64 0,.int .i64 0,.int .i64 0] 112::L):=by rw[hfe]at hst;exact hst
  rw[hfe]at hfr;simp only at hfr;have H:=hQd hst
  by_cases hlt:k<l.length
  · obtain⟨b0,off,hqq⟩:=zPS HK.out (H.out.know HKK.out) (by omega);subst hqq;obtain⟨c,hc⟩:∃c,l[k]=c:=⟨_,rfl⟩;have c0:=zMP HK.out (H.out.know HKK.out) k hlt c hc;have hkn:(k:Int)<(l.length:Int):=by omega
    have hAn:(l.take (k+1)).flatten=((l.take k).flatten)++c:=by rw[List.take_succ_eq_append_getElem hlt,List.flatten_append,hc];simp
    have hAkn:((l.take (k+1)).flatten).length≤90000:=by
      have h1:l.flatten=(l.take (k+1)).flatten++(l.drop (k+1)).flatten:=by rw[←List.flatten_append,List.take_append_drop]
      have h2:=congrArg List.length h1;rw[List.length_append,HAE.out]at h2;have:=HAL.out
      omega
    rw[hAn,List.length_append]at hAkn;have HANX:=hQd hAn;have HFE:=hQd hfe
    by_cases he:er=0
    · subst he;obtain⟨T,hT⟩:∃T,rs++c=T:=⟨_,rfl⟩;have hTl:=congrArg List.length hT;rw[List.length_append]at hTl;have HT:=hQd hT;have HTL:=hQd (show T.length≤100000 by omega);have HV:=hQd (show vd≤1000000 by omega)
      have HSL:=hQd (show(zAh T).1.length≤10000 by
        have:=zJa T;have h8:(finS T).1=(zAh T).1:=rfl;rw[h8]at this
        omega)
      have HFG:=hQd (show finS ((l.take (k+1)).flatten)=(bs++(zAh T).1,vd+(T.length - (zAh T).2.1.length),(if (zAh T).2.2≠0 then[]else(zAh T).2.1),(zAh T).2.2) by
        have h7:=zPc ((l.take k).flatten) c (by rw[hfe]);rw[hAn,h7,hfe];simp only
        rw[hT])
      clear hst hc hAn hAkn hfe hfr hcn hac hAk hT hTl
      go_wp2_with (first
  |(go_at_call 106;(with_reducible refine(zMX sb vd rs c T HT.out v HTL.out HV.out H.out.p2.p2).mono ?_);rintro e_ wn ⟨v',q',cap',lr',rfl,hqc,hlr,hlit,_,h⟩;have h:=h.p2;have HQC:=hQd hqc;have HLR:=hQd hlr;have HLIT2:=hQd hlit;clear hqc hlr hlit;replace H:=hQd h;clear h)
  |(at_builtin;refine zE7 rfl _ _ rfl u5 _ _ rfl H.out q' cap' lr' rfl (Know.has_right (Know.has_refl _)) HQC.out (by have:=HAB.out;have h9:=congrArg List.length HLR.out;rw[List.length_map]at h9;have:=HSL.out;omega) ?_;intro v2 w2 h;replace H:=hQd h;clear h))
      go_roundw
      case rel=>exact⟨k+1,acc++lr',K2.and (Know.bats (.slice q' lr'.length cap') lr'),v',hlt,by go_num,hQd (by rw[HFG.out,List.map_append,HMAP.out,HLR.out,HFE.out]),hQd (Know.has_trans (Know.has_left (Know.has_refl _)) HKK.out),hQd (fun x hx=>by
        rcases List.mem_append.1 hx with hx|hx
        · exact Know.has_left (HREC.out x hx)
        · exact zB8 (Know.has_right (Know.has_refl _)) hx),hQd (fun x hx=>by
        rcases List.mem_append.1 hx with hx|hx
        · exact HLIT.out x hx
        · exact HLIT2.out x hx),by rw[HFG.out,List.length_append,List.flatMap_append];exact H.out⟩
      case measure=>first|(simp[intOf];done)|(simp[intOf];omega)
    · have HER:=hQd he
      have HFG:=hQd (show finS ((l.take (k+1)).flatten)=(bs,vd,rs,er) by
        rw[hAn,zQq ((l.take k).flatten) c (by rw[hfe];exact he),hfe])
      clear hst hc hAn hAkn hfe hfr hcn hac hAk he
      go_wp2_with (first
  |(go_at_call 106;(with_reducible refine(zPd sb c _ v er HER.out H.out.p1).mono ?_);rintro e_ wn ⟨rfl,h⟩;have h:=h.p1;replace H:=hQd h;clear h)
  |(at_builtin;refine zE7 rfl _ _ rfl u5 _ _ rfl H.out none 0 [] rfl (zJF _) (fun _=>rfl) (by have:=HAB.out;simp only[List.length_nil];omega) ?_;intro v2 w2 h;replace H:=hQd h;clear h))
      go_roundw
      case rel=>exact⟨k+1,acc,K2,v,hlt,by go_num,hQd (by rw[HFG.out,HMAP.out,HFE.out]),hQd HKK.out,hQd HREC.out,hQd HLIT.out,by rw[HFG.out];have h:=H.out;simp only[List.flatMap_nil,List.append_nil,List.length_nil,Nat.add_zero]at h;exact h⟩
      case measure=>first|(simp[intOf];done)|(simp[intOf];omega)
  · obtain rfl:k=l.length:=by omega
    have HFE:=hQd (show finS A=(bs,vd,rs,er) by rw[←HAE.out,←hfe,List.take_length]);have HMAP2:=hQd (show acc.map BatR.b=bs by rw[HMAP.out,hfe]);have HCNT:=hQd (show 61*acc.length≤A.length by rw[List.take_length,HAE.out]at hcn;rw[List.take_length,HAE.out]at hac;omega)
    have hform:∃q2 cap2,u5=.slice q2 acc.length cap2∧((q2=none∧cap2=0)∨∃g,q2=some ⟨g,0,none⟩)∧acc.length≤cap2:=by
      rcases hst.rowGet.2 with ⟨e1,e2⟩|⟨g2,cap2,_,e1,_,_,e4,_⟩
      · exact⟨none,0,by rw[e1,e2],.inl ⟨rfl,rfl⟩,by omega⟩
      · exact⟨_,cap2,e1,.inr ⟨g2,rfl⟩,e4⟩
    obtain⟨q2,cap2,rfl,hq2⟩:=hform;have HQ2:=hQd hq2;have hf:=hst.freezeBats HREC.out;have hf:=hf.know (K':=K.and (Know.bats _ acc)) (fun w F hh=>⟨HKK.out _ _ hh.1,hh.2⟩);obtain⟨pv,cv,hpv⟩:=hf.p1.rowAny;subst hpv;clear H HMAP;have HMAP:=HMAP2;clear HMAP2;have H:=hQd hf;clear hst hfe hfr hcn hac hAk hf hq2
    by_cases he:er=0
    · subst he
      by_cases hr:rs=[]
      · subst hr;go_wp2_with (go_at_call 107;(with_reducible refine(zKx sb vd pv _ cv rfl H.out).mono ?_);rintro e_ wn ⟨rfl,h⟩;have h:=h.p2;have d0:=h.rawCell 0;have b0:=h.rawFree 0;have d1:=h.rawCell 1;have b1:=h.rawFree 1;have d2:=h.rawCell 2;have b2:=h.rawFree 2;simp at d0 d1 d2;replace H:=hQd h;clear h);have hz:St W0 _ _ (.raw rb #[.int .i64 vd,.int .i64 0,.int .i64 0] 112::_):=(((H.out.rawSet 0 (.int .i64 vd)).rawSet 1 (.int .i64 0)).rawSet 2 (.int .i64 0));refine bodyPost_ret (zCH rfl _ _ rb [.int .i64 vd,.int .i64 0,.int .i64 0] _ rfl (zAo hz) Tryz.underlying112 rfl (by kernel_rfl)) rfl ?_;exact⟨q2,cap2,acc,by rw[HFE.out];rfl,by rw[HFE.out];exact HMAP.out,HLIT.out,HCNT.out,HQ2.out,hz.drop.drop.drop⟩
      · have hrl:=List.length_pos_iff.2 hr;have HRL2:=hQd hrl;have hst2:zGi rs 0=1:=by unfold zGi;rw[if_neg (by simp),if_pos hr]
        have HST2:=hQd hst2;clear hr hrl hst2;go_wp2_with (go_at_call 107;(with_reducible refine(zMq sb vd pv _ cv HRL2.out H.out).mono ?_);rintro e_ wn ⟨rfl,h⟩;have h:=h.p2;have d0:=h.rawCell 0;have b0:=h.rawFree 0;have d1:=h.rawCell 1;have b1:=h.rawFree 1;have d2:=h.rawCell 2;have b2:=h.rawFree 2;simp at d0 d1 d2;replace H:=hQd h;clear h);have hz:St W0 _ _ (.raw rb #[.int .i64 vd,.int .i64 1,.int .i64 0] 112::_):=(((H.out.rawSet 0 (.int .i64 vd)).rawSet 1 (.int .i64 1)).rawSet 2 (.int .i64 0));refine bodyPost_ret (zCH rfl _ _ rb [.int .i64 vd,.int .i64 1,.int .i64 0] _ rfl (zAo hz) Tryz.underlying112 rfl (by kernel_rfl)) rfl ?_;exact⟨q2,cap2,acc,by rw[HFE.out];show _=Ending.returned (.tuple #[_,.agg #[_,.int .i64 (zGi rs 0),_]]);rw[HST2.out];rfl,by rw[HFE.out];exact HMAP.out,HLIT.out,HCNT.out,HQ2.out,hz.drop.drop.drop⟩
    · have HER:=hQd he;have hst2:zGi rs er=2:=by unfold zGi;rw[if_pos he]
      have HST2:=hQd hst2;clear he hst2;go_wp2_with (go_at_call 107;(with_reducible refine(zOc sb vd pv _ cv er HER.out H.out).mono ?_);rintro e_ wn ⟨rfl,h⟩;have h:=h.p2;have d0:=h.rawCell 0;have b0:=h.rawFree 0;have d1:=h.rawCell 1;have b1:=h.rawFree 1;have d2:=h.rawCell 2;have b2:=h.rawFree 2;simp at d0 d1 d2;replace H:=hQd h;clear h);have hz:St W0 _ _ (.raw rb #[.int .i64 vd,.int .i64 2,.int .i64 er] 112::_):=(((H.out.rawSet 0 (.int .i64 vd)).rawSet 1 (.int .i64 2)).rawSet 2 (.int .i64 er));refine bodyPost_ret (zCH rfl _ _ rb [.int .i64 vd,.int .i64 2,.int .i64 er] _ rfl (zAo hz) Tryz.underlying112 rfl (by kernel_rfl)) rfl ?_;exact⟨q2,cap2,acc,by rw[HFE.out];show _=Ending.returned (.tuple #[_,.agg #[_,.int .i64 (zGi rs er),_]]);rw[HST2.out];rfl,by rw[HFE.out];exact HMAP.out,HLIT.out,HCNT.out,HQ2.out,hz.drop.drop.drop⟩
theorem zBc:Tryz.prog.cellsOf 3=1:=by kernel_rfl
theorem zJr:Tryz.prog.cellsOf 9=1:=by kernel_rfl
theorem len2{α:Type}{l:List α}(h:l.length=2):∃a b,l=[a,b]:=by
 match l,h with
 |[a,b],_=>exact⟨a,b,rfl⟩
theorem len3{α:Type}{l:List α}(h:l.length=3):∃a b c,l=[a,b,c]:=by
 match l,h with
 |[a,b,c],_=>exact⟨a,b,c,rfl⟩
open Go.ChangeShapes Go.WideShapes Go.ChangeAt Go.Deep
def zC9 {H:Type}(t:TypeId) (d:DataW H):Prop:=∀k∈d.weights Tryz.prog t,k≤reachBytes
theorem zK0:reachBytes=140737488351232:=rfl
section
variable {H:Type}{enc:TypeId×Value→H}{w:World}{spare:Nat→Bool}{held:Bool}
theorem zNC{ts:List TypeId}{ds:List (DataW H)}(h:(DataW.weightsEach Tryz.prog ts ds).all (· ≤reachBytes)=true){j:Nat}{t:TypeId}{d:DataW H}(ht:ts[j]? =some t)(hd:ds[j]? =some d):zC9 t d:=by
 intro k hk;have:=List.all_eq_true.1 h k (DataW.weights_mem_each ht hd k hk)
 simpa using this
theorem zBP{t:TypeId}{fs:Array Field}{n N:Nat}{cs:List Value}{y:DataW H×List MemPlace}(ht:Tryz.prog.underlying t=some (.struct fs))(h:DataW.trod enc Tryz.prog w 0 spare held n t cs=some y)(hl:zC9 t y.1)(hN:∀x∈y.2,x.block<N):
  cs.length=Tryz.prog.cellsOf t∧∃m,∀(i:Nat) (f:Field),fs[i]? =some f→∃z,DataW.trod enc Tryz.prog w 0 spare held m f.type ((cs.drop f.offset).take (Tryz.prog.cellsOf f.type))=some z∧zC9 f.type z.1∧∀x∈z.2,x.block<N:=by
 obtain⟨xs,m,_,rfl,hc,hxl,hg⟩:=DataW.trod_struct ht h;refine⟨hc,m,fun i f hf=> ?_⟩;have hi:i<fs.size:=(Array.getElem?_eq_some_iff.1 hf).1;have hx:xs[i]? =some (xs[i]'(by omega)):=List.getElem?_eq_getElem (by omega);refine⟨_,(hg i f hf).trans hx,?_,fun x hxx=>hN x (List.mem_flatMap.2 ⟨_,List.getElem_mem _,hxx⟩)⟩;intro k hk;refine hl k ?_;simp only[DataW.weights,ht];exact DataW.weights_mem_each (j:=i) (by rw[List.getElem?_map,Array.getElem?_toList,hf];rfl) (by rw[List.getElem?_map,hx];rfl) k hk
theorem zIY{t:TypeId}{n:Nat}{cs:List Value}{y:DataW H×List MemPlace}(ht:Tryz.prog.underlying t=some .string)(h:DataW.trod enc Tryz.prog w 0 spare held n t cs=some y)(hl:zC9 t y.1):∃s:Bs,cs=[.string (bb s)]∧s.length≤140737488351232:=by
 obtain⟨s,e,e2,q⟩:=DataW.trod_string ht h;refine⟨s.data.toList,e,?_⟩;subst e2;have:=hl s.data.toList.length (by simp[DataW.weights]);rw[zK0]at this;exact this
theorem zAS{t:TypeId}{n:Nat}{cs:List Value}{y:DataW H×List MemPlace}(ht:Tryz.prog.underlying t=some (.int .i64))(h:DataW.trod enc Tryz.prog w 0 spare held n t cs=some y):∃x:Int,cs=[.int .i64 x]∧ -9223372036854775808≤x∧x<9223372036854775808:=by
 obtain⟨x,e,_,q⟩:=DataW.trod_int ht h;exact⟨x,e,wf_i64 q⟩
theorem zCX{t:TypeId}{n:Nat}{cs:List Value}{y:DataW H×List MemPlace}(ht:Tryz.prog.underlying t=some .bool)(h:DataW.trod enc Tryz.prog w 0 spare held n t cs=some y):∃x:Bool,cs=[.bool x]:=by
 obtain⟨x,e,_⟩:=DataW.trod_bool ht h;exact⟨x,e⟩
theorem zCx{P:Program}{e:TypeId}:∀{l:List (DataW H)}{d:DataW H},d∈l→∀k∈d.weights P e,k∈DataW.weightsAll P e l
  |a::l,d,hd,k,hk=>by
    simp only[DataW.weightsAll,List.mem_append]
    rcases List.mem_cons.1 hd with rfl|hd
    · exact .inl hk
    · exact .inr (zCx hd k hk)
theorem zCW{α:Type}{R:World→List Value→α→Prop}{t e:TypeId}{sz N:Nat}(ht:Tryz.prog.underlying t=some (.slice e))(hC:Tryz.prog.cellsOf e=sz)(hsz:0<sz)
    (hR:∀n cs y,DataW.trod enc Tryz.prog w 0 spare held n e cs=some y→zC9 e y.1→(∀x∈y.2,x.block<N)→∃x,R w cs x)
    {fuel:Nat}{cs:List Value}{x:DataW H×List MemPlace}(h:DataW.trod enc Tryz.prog w 0 spare held fuel t cs=some x)(hl:zC9 t x.1)(hlt:∀y∈x.2,y.block<N)(hN:N≤w.heap.size):
    ∃v l,cs=[v]∧RowsOf R (· <N) w v sz l∧l.length*Tryz.prog.bytesOf e≤140737488351232∧l.length≤maxLen:=by
  rcases open_slice ht h with ⟨rfl,rfl⟩|⟨a,len,cap,m,n,D,Pl,rfl,hb,hlc,hm,hmm,hx,hi⟩
  · exact⟨_,[],rfl,⟨none,0,rfl,fun h=>absurd h (by simp)⟩,by simp,by simp⟩
  · have hlm:len≤m:=by rw[hmm];split<;>omega
    have hp2:x.2=MemPlace.row a (m*Tryz.prog.cellsOf e)++(List.range m).flatMap Pl:=by rw[hx]
    have hx1:x.1=.slice ((List.range len).map D) ((List.range (m - len)).map fun j=>D (len+j)):=by rw[hx]
    have hsum:len*Tryz.prog.bytesOf e≤140737488351232:=by
      have:=hl (((List.range len).map D).length*Tryz.prog.bytesOf e+((List.range (m - len)).map fun j=>D (len+j)).length*Tryz.prog.bytesOf e) (by rw[hx1];simp[DataW.weights,ht,Nat.add_mul]);rw[zK0]at this;simp only[List.length_map,List.length_range]at this
      omega
    have hle:∀i,i<len→zC9 e (D i):=by
      intro i hil k hk;refine hl k ?_;rw[hx1];simp only[DataW.weights,ht,List.mem_cons,List.mem_append];exact .inr (.inl (zCx (List.mem_map.2 ⟨i,List.mem_range.2 hil,rfl⟩) k hk))
    have key:∀i,i<len→∃y:α,∃cs',cs'.length=sz∧R w cs' y∧(∀f u,cs'[f]? =some u→w.cell? ((a.add (i*sz)).add f)=some u):=by
      intro i hil;obtain⟨cs',hc,htr⟩:=hi i (by omega);obtain⟨_,hcl,hat⟩:=World.cells?_some hc;obtain⟨y,hy⟩:=hR n cs' _ htr (hle i hil) (fun z hz=>hlt z (by rw[hp2,List.mem_append];exact .inr (List.mem_flatMap.2 ⟨i,by simp;omega,hz⟩)));rw[hC]at hcl hat;refine⟨y,cs',hcl,hy,fun f u hu=> ?_⟩;have hf:f<sz:=by rw[←hcl];exact(List.getElem?_eq_some_iff.1 hu).1
      rw[hat f hf,hu]
    obtain⟨l,hll,hq⟩:=zQj len _ key;refine⟨_,l,rfl,⟨some a,cap,by rw[hll],fun h0=> ?_⟩,by rw[hll];exact hsum,by omega⟩;obtain⟨cs0,h1,h2,h3⟩:=hq 0 h0
    have hc0:w.cell? a=some (cs0[0]'(by omega)):=by
      have:=h3 0 _ (List.getElem?_eq_getElem (by omega))
      simpa [Addr.add]using this
    have hsp:a.spot=none:=by
      cases hs:a.spot with
      |none=>rfl
      |some s=>
        unfold World.cell? at hc0
        split at hc0<;>simp_all
    obtain⟨ab,ao,asp⟩:=a;simp only at hsp;subst hsp
    have hlt0:ab<N:=hlt (.cell ab ao) (by
      rw[hp2,List.mem_append]
      left
      simp only[MemPlace.row,List.mem_map,List.mem_range]
      exact⟨0,by rw[hC];exact Nat.mul_pos (by omega) hsz,by simp⟩)
    refine⟨ab,ao,rfl,hlt0,Nat.lt_of_lt_of_le hlt0 hN,fun i hi=> ?_⟩;obtain⟨cs',g1,g2,g3⟩:=hq i hi;refine⟨cs',g1,g2,fun f u hu=> ?_⟩;have:=g3 f u hu;have e1:∀(o q:Nat),(⟨ab,o,none⟩:Addr).add q=⟨ab,o+q,none⟩:=by intro o q;unfold Addr.add;split<;>simp_all
    rw[e1,e1,Nat.add_assoc]at this;exact this
end
theorem RowsOf.part{α:Type}{R:World→List Value→α→Prop}{Q:α→Prop}{D:Nat→Prop}{w:World}{v:Value}{sz:Nat}{l:List α}(h:RowsOf (fun w cs x=>R w cs x∧Q x) D w v sz l):RowsOf R D w v sz l∧∀x∈l,Q x:=by
 refine⟨h.mono (fun _ _ h=>h) (fun _ _ h=>h.1),fun x hx=> ?_⟩;obtain⟨i,hi,rfl⟩:=List.mem_iff_getElem.1 hx;obtain⟨p,cap,rfl,h⟩:=h;obtain⟨b,off,rfl,_,_,hc⟩:=h (by omega);obtain⟨cs,_,h2,_⟩:=hc i hi;exact h2.2
end Go.Proofs.YtenojajfacacoaaGreatDoor
namespace Go.Proofs.YtenojajfacacoaaGreatDoor
open Go.RowKit
theorem zJh:zDw Tryz.prog 9 (.string ⟨#[]⟩) 1 16:=zBv (by kernel_rfl) rfl (by decide)
section
variable {H:Type}{enc:TypeId×Value→H}{w:World}{spare:Nat→Bool}{held:Bool}
open Go.ChangeShapes Go.WideShapes Go.ChangeAt Go.Deep
end
def zLy (s:Bs):List Value:=[.string (bb s)]
theorem St.freezeTexts{W0 w:World}{K:Know}{L:List Res}{v:Value}{T:TypeId}{l:List Bs}(h:St W0 w K (.row v T 1 l.length (l.flatMap zLy)::L)):St W0 w (K.and (Know.strs v l)) L:=by
 refine h.freeze fun F S1 _ h1=> ?_
 obtain⟨⟨g1,g2⟩,g3⟩:=h1
 rcases g2 with ⟨rfl,h0⟩|⟨g,cap,cur,rfl,_,hg,hn,hcm,hcs,htake⟩
 · exact⟨none,0,by rw[h0],fun hh=>absurd hh (by omega)⟩
 · have hS:S1 g:=(g3 g).2 rfl;have hlt:=zAy hg;refine⟨_,cap,rfl,fun _=>⟨g,0,rfl,.inr ⟨hS,hlt⟩,hlt,fun i hi=> ?_⟩⟩;refine⟨[.string (bb l[i])],rfl,rfl,fun q u hu=> ?_⟩;have hq:q<1:=(List.getElem?_eq_some_iff.1 hu).1;obtain rfl:q=0:=by omega
   rw[zAx hg,Nat.zero_add]
   have e:(l.flatMap zLy)[i*1+0]? =some u:=by
    rw[zA2 l zLy 1 (fun x hx=>rfl) i hi 0 (by decide)];exact hu
   rw[←htake,List.getElem?_take_of_lt (by omega)]at e
   simpa using e
end Go.Proofs.YtenojajfacacoaaGreatDoor
namespace Go.Proofs.YtenojajfacacoaaGreatDoor
open Go.RowKit
theorem zOH(l:List Bs)(A:Bs)(hA:l.flatten=A)(bs:List BatS)(pv:Nat)(rest:Bs)(pe ps:Int)(hf:finS A=(bs,pv,rest,pe))(hps:zGi rest pe=ps)(hl:A.length≤90000)(q:Option Addr)(cap:Nat)(hll:l.length≤1000000){W0 w:World}{K:Know}{L:List Res}(hk:K.has (Know.strs (.slice q l.length cap) l))(h:St W0 w K L):
  Calls Tryz.prog 75 #[.slice q l.length cap] w fun en w'=>∃(q:Option Addr) (cap:Nat) (lr:List BatR),en=.returned (.tuple #[.slice q lr.length cap,.agg #[.int .i64 (pv:Nat),.int .i64 ps,.int .i64 pe]])∧lr.map BatR.b=bs∧(∀x∈lr,zGD x)∧61*lr.length≤A.length∧(((q=none∧cap=0)∨∃g,q=some ⟨g,0,none⟩)∧lr.length≤cap)∧St W0 w' (K.and (Know.bats (.slice q lr.length cap) lr)) L:=by
 refine(zMW l A hA hl q cap hll hk h).mono ?_;rintro en wn ⟨q2,cap2,lr,rfl,h1,h2,h3,h4,h5⟩;rw[hf]at h1;refine⟨q2,cap2,lr,?_,h1,h2,h3,h4,h5⟩;rw[hf,←hps]
set_option maxHeartbeats 16000000
set_option maxRecDepth 100000
theorem zP0(l:List Bs)(A:Bs)(hA:l.flatten=A)(bs:List BatS)(pv:Nat)(rest:Bs)(pe ps:Int)(hf:finS A=(bs,pv,rest,pe))(hps:zGi rest pe=ps)(hl:A.length≤90000)(hok:∀b∈bs,EncOk b)(hbl:bs.length≤900)(hrv:Rn (pv:Nat))(hre:Rn pe)(T:Bs)(hT:zML bs (pv:Nat) ps pe=T)(q:Option Addr)(cap:Nat)(hll:l.length≤1000000){W0 w:World}{K:Know}{L:List Res}(hlib:K.has Know.lib)(hk:K.has (Know.strs (.slice q l.length cap) l))(h:St W0 w K L):
  Calls Tryz.prog 38 #[.slice q l.length cap] w fun en w'=>en=.returned (.string (bb T))∧St W0 w' K L:=by
 have hsm:=zMO bs hok;have hp0:Rn (sumE bs):=by unfold Rn;omega
 have hq0:Rn (sumR bs):=by unfold Rn;omega
 have hTl:T.length≤1000000:=by rw[←hT];exact zMK bs _ ps pe hok hbl hrv hre hp0 hq0
 have hTn:T≠[]:=by
  rw[←hT];unfold zML totT;simp[zAB]
 obtain⟨P,hP⟩:∃P,sumE bs=P:=⟨_,rfl⟩;obtain⟨Q,hQ⟩:∃Q,sumR bs=Q:=⟨_,rfl⟩;obtain⟨tl,htl⟩:∃t,totT P Q=t:=⟨_,rfl⟩;obtain⟨tn,htn⟩:∃t,endT (pv:Nat) ps pe=t:=⟨_,rfl⟩;obtain⟨d1,hd1⟩:∃t,numW P=t:=⟨_,rfl⟩;obtain⟨d2,hd2⟩:∃t,numW Q=t:=⟨_,rfl⟩;obtain⟨tt,htt⟩:∃t,zAB 32 [[116,111,116,97,108],d1,d2]=t:=⟨_,rfl⟩;have hT2:bs.flatMap zB5++(tl++tn)=T:=by rw[←hT,←htl,←htn,←hP,←hQ];rfl
 have htt2:tt++[10]=tl:=by rw[←htt,←htl,←hd1,←hd2];rfl
 have hl1:=congrArg List.length hT2;have hl2:=congrArg List.length htt2;simp only[List.length_append,List.length_cons,List.length_nil]at hl1 hl2;have H:=hQd h;have HLIB:=hQd hlib;have HK:=hQd hk;have HA:=hQd hA;have HF:=hQd hf;have HPS:=hQd hps;have HAL:=hQd hl;have HLL:=hQd hll;have HBO:=hQd hok;have HBL:=hQd hbl;have HRV:=hQd hrv;have HRE:=hQd hre;have HT2:=hQd hT2;have HTL:=hQd hTl;have HTN0:=hQd hTn;have HTT:=hQd htt;have HTN:=hQd htt2;have HTE:=hQd htn;have HTTL:=hQd (show tt.length≤1000000 by omega);have HWL:=hQd (show([[116,111,116,97,108],d1,d2]:List Bs).length≤1000000 by simp);have HPQ0:=hQd (show sumE bs=P∧sumR bs=Q from⟨hP,hQ⟩);have HRP:=hQd (show Rn P by rw[←hP];exact hp0);have HRQ:=hQd (show Rn Q by rw[←hQ];exact hq0);have HWP:=hQd (show Wh P by rw[←hP];unfold Wh;omega);have HWQ:=hQd (show Wh Q by rw[←hQ];unfold Wh;omega);have HD1:=hQd hd1;have HD2:=hQd hd2;have t1:True:=trivial;have t2:True:=trivial;clear h hlib hk hA hf hps hl hll hok hbl hrv hre hT hT2 hTl hTn hP hQ htl htn hd1 hd2 htt htt2 hl1 hl2 hp0 hq0 hsm;go_enter Tryz.func38,Tryz.ntmps38;go_wp2_with (go_at_call 75;(with_reducible refine(zOH l A HA.out bs pv rest pe ps HF.out HPS.out HAL.out q cap HLL.out HK.out H.out).mono ?_);rintro e_ wn ⟨q2,cap2,lr,rfl,hb2,hlite,hl61,hq2,h⟩;have HB2:=hQd hb2;have HLI:=hQd hlite;clear hb2 hlite hl61 hq2;obtain⟨eb,heb⟩:∃y,wn.heap.size=y:=⟨_,rfl⟩;have h:=h.allocRaw #[.int .i64 (pv:Nat),.int .i64 ps,.int .i64 pe] 112;rw[heb]at h;obtain⟨sb,hsb⟩:∃y,eb+1=y:=⟨_,rfl⟩;have h:=h.sbNew;simp only[World.size_alloc,heb,hsb]at h;replace H:=hQd h;clear h);have HOK:=hQd (show ∀x∈lr,OkB x from fun x hx=>⟨(HLI.out x hx).1,HBO.out x.b (by rw[←HB2.out];exact List.mem_map.2 ⟨x,hx,rfl⟩)⟩);have HLR:=hQd (show lr.length≤2000 by have h9:=congrArg List.length HB2.out;rw[List.length_map]at h9;have:=HBL.out;omega);have hlri:(lr.length:Int)≤2000:=by have:=HLR.out;omega
 have HPQ:=hQd (show sP lr=P∧sQ lr=Q by obtain⟨a,c⟩:=zPI lr HOK.out;rw[a,c,HB2.out];exact HPQ0.out);have HLIB2:=hQd (Know.has_left (b:=Know.bats (.slice q2 lr.length cap2) lr) HLIB.out);have HKB:=hQd (Know.has_right (a:=K) (Know.has_refl (Know.bats (.slice q2 lr.length cap2) lr)))
 have HS0:=hQd (show[]++((lr.drop 0).flatMap (fun x:BatR=>zB5 x.b)++(tl++tn))=T by
  have e:lr.flatMap (fun x:BatR=>zB5 x.b)=bs.flatMap zB5:=by rw[←HB2.out,List.flatMap_map]
  rw[List.drop_zero,e];exact HT2.out)
 go_loopw [16] (fun iv wr=>∃(k:Nat) (E:Bs),k≤lr.length∧iv=.int .i64 k∧Hid (E++((lr.drop k).flatMap (fun x:BatR=>zB5 x.b)++(tl++tn))=T)∧St W0 wr (K.and (Know.bats (.slice q2 lr.length cap2) lr)) (.gen (sbG sb E)::.raw eb #[.int .i64 (pv:Nat),.int .i64 ps,.int .i64 pe] 112::L)) (fun iv _=>lr.length - (intOf iv).toNat)
 case atStart=>exact⟨0,[],Nat.zero_le _,rfl,HS0,H.out⟩
 case round=>
  obtain⟨k,E,hk',rfl,HE,hst⟩:=hrel;clear H;have H:=hQd hst;clear hst
  by_cases hk:k<lr.length
  · obtain⟨bk,off,hqq⟩:=zED HKB.out H.out (by omega);subst hqq;obtain⟨x,hx⟩:∃x,lr[k]=x:=⟨_,rfl⟩;have hmem:x∈lr:=hx ▸ List.getElem_mem hk;have hxk:=zB8 HKB.out hmem;have cc:=zCO HKB.out H.out k hk x hx;have hox:=HOK.out x hmem;obtain⟨t,ht⟩:∃t,zB5 x.b=t:=⟨_,rfl⟩;obtain⟨E2,hE2⟩:∃E2,E++t=E2:=⟨_,rfl⟩
    have hE3:E2++((lr.drop (k+1)).flatMap (fun x:BatR=>zB5 x.b)++(tl++tn))=T:=by
     rw[←HE.out,zDQ (fun x:BatR=>zB5 x.b) lr k hk x hx,←hE2,←ht];simp only[List.append_assoc]
    have hle:=zIg hE3 HTL.out;have hle2:=congrArg List.length hE2;rw[List.length_append]at hle2;obtain⟨b,xl,xq,xcap⟩:=x;obtain⟨c0,c1,c2,c3,c4,c5,c6,c7,c8,c9,c10,c11⟩:=cc;have HXL:=hQd (show xl.map (·.1)=b.recs from hox.1);have HSO:=hQd (show EncOk b from hox.2);have HXK:=hQd (show Know.has _ (Know.recs (.slice xq xl.length xcap) xl)from hxk);have HT:=hQd (show zB5 b=t from ht);have HE2:=hQd hE2;have HE3:=hQd (hQd hE3);have HS1:=hQd (show E.length+t.length≤1000000000000 by omega);obtain⟨tb,htb⟩:∃b,wr.heap.size=b:=⟨_,rfl⟩;have g1:=H.out.allocRaw #[.int .i64 b.base,.int .i64 b.leader,.bool b.app,.bool b.txn,.bool b.ctl,.int .i64 b.last,.int .i64 b.first,.int .i64 b.maxt,.int .i64 b.prod,.int .i64 b.epoch,.int .i64 b.seq,.slice xq xl.length xcap] 30;rw[htb]at g1;have y0:=g1.rawCell 0;have y1:=g1.rawCell 1;have y2:=g1.rawCell 2;have y3:=g1.rawCell 3;have y4:=g1.rawCell 4;have y5:=g1.rawCell 5;have y6:=g1.rawCell 6;have y7:=g1.rawCell 7;have y8:=g1.rawCell 8;have y9:=g1.rawCell 9;have y10:=g1.rawCell 10;have y11:=g1.rawCell 11;simp at y0 y1 y2 y3 y4 y5 y6 y7 y8 y9 y10 y11;have hki:(k:Int)<(lr.length:Int):=by omega
    clear H hxk hmem hox hx ht hE2 hE3 hle hle2;have H:=hQd g1;clear g1
    go_wp2_with (first
  |(go_at_call 77;(with_reducible refine(zP5 b xl xq xcap HXL.out HSO.out t HT.out HLIB2.out HXK.out H.out).mono ?_);rintro e_ wn ⟨rfl,h⟩;have h:=h.p1;replace H:=hQd h;clear h)
  |(go_at_call 76;(with_reducible refine(zKV sb E t HS1.out H.out).mono ?_);rintro e_ wn ⟨rfl,h⟩;rw[HE2.out]at h;replace H:=hQd h;clear h))
    go_roundw
    case rel=>exact⟨k+1,E2,hk,by go_num,HE3.out,H.out.p1.drop⟩
    case measure=>first|(simp[intOf];done)|(simp[intOf];omega)
  · have hq1:k=lr.length:=by omega
    have h9:E++(tl++tn)=T:=by have h9:=HE.out;rw[hq1,List.drop_length]at h9;exact h9
    obtain⟨E3,hE3⟩:∃E3,E++tl=E3:=⟨_,rfl⟩;have h8:E3++tn=T:=by rw[←hE3,List.append_assoc];exact h9
    have l9:=congrArg List.length h9;have l8:=congrArg List.length hE3;have l7:=HTL.out;simp only[List.length_append]at l9 l8;have HE3:=hQd hE3;have HE4:=hQd h8;have HS2:=hQd (show E.length+tl.length≤1000000000000 by omega);have HS3:=hQd (show E3.length+tn.length≤1000000000000 by omega);have hki:¬((k:Int)<(lr.length:Int)):=by omega
    clear h9 h8 l9 l8 l7 hE3 hq1
    go_wp2_with (first
  |(go_at_call 78;(with_reducible refine(zLp lr q2 cap2 HOK.out HLR.out HKB.out H.out).mono ?_);rintro e_ wn ⟨X,Y,rfl,fx,fy,h⟩;rw[HPQ.out.1]at fx;rw[HPQ.out.2]at fy;have cx:=convR X P fx HWP.out;have cy:=convR Y Q fy HWQ.out;clear fx fy;replace H:=hQd h;clear h)
  |(go_at_call 37;have _t:=t1;clear _t;(with_reducible refine(zA8 P HRP.out d1 HD1.out HLIB2.out H.out).mono ?_);rintro e_ wn ⟨rfl,h⟩;replace H:=hQd h;clear h;clear t1)
  |(go_at_call 37;(with_reducible refine(zA8 Q HRQ.out d2 HD2.out HLIB2.out H.out).mono ?_);rintro e_ wn ⟨rfl,h⟩;replace H:=hQd h;clear h)
  |(go_at_call 36;have h0:=H.out.allocRaw #[.string ⟨#[116,111,116,97,108]⟩,.string (bb d1),.string (bb d2)] 9;(with_reducible refine(zEW [[116,111,116,97,108],d1,d2] tt tl _ 3 _ rfl rfl HWL.out HTT.out HTN.out HTTL.out h0).mono ?_);rintro e_ wn ⟨rfl,h⟩;replace H:=hQd h;clear h)
  |(go_at_call 76;have _t:=t2;clear _t;(with_reducible refine(zKV sb E tl HS2.out H.out).mono ?_);rintro e_ wn ⟨rfl,h⟩;rw[HE3.out]at h;have z0:=h.p1.rawCell 0;have z1:=h.p1.rawCell 1;have z2:=h.p1.rawCell 2;simp at z0 z1 z2;replace H:=hQd h;clear h;clear t2)
  |(go_at_call 79;(with_reducible refine(rp_end (pv:Nat) ps pe HRV.out HRE.out tn HTE.out HLIB2.out H.out).mono ?_);rintro e_ wn ⟨rfl,h⟩;replace H:=hQd h;clear h)
  |(go_at_call 76;(with_reducible refine(zKV sb E3 tn HS3.out H.out).mono ?_);rintro e_ wn ⟨rfl,h⟩;rw[HE4.out]at h;replace H:=hQd h;clear h)
  |(go_at_call 47;(with_reducible refine(zDi sb T HTN0.out H.out).mono ?_);rintro e_ wn ⟨rfl,h⟩;replace H:=hQd h;clear h))
    go_ret;exact⟨rfl,(H.out.drop).know (Know.has_left (Know.has_refl _))⟩
def kOf (n:Int) (s:Bs):Nat:=(min (max n 0) (s.length:Int)).toNat
def cutN (s:Bs):List Int→List Bs
  |[]=>[s]
  |n::t=>s.take (kOf n s)::cutN (s.drop (kOf n s)) t
theorem zCN:∀(ns:List Int) (s:Bs),(cutN s ns).flatten=s
  |[],s=>by simp[cutN]
  |n::t,s=>by rw[cutN,List.flatten_cons,zCN t,List.take_append_drop]
theorem zH1:∀(ns:List Int) (s:Bs),(cutN s ns).length=ns.length+1
  |[],s=>rfl
  |n::t,s=>by rw[cutN,List.length_cons,zH1 t,List.length_cons]
theorem zCD(s0:Bs)(ns:List Int)(hs0:s0.length≤1000000)(hns:∀x∈ns,Rn x)(hnl:ns.length≤1000)(q:Option Addr)(cap:Nat){W0 w:World}{K:Know}{L:List Res}(hk:K.has (Know.flat RInt (.slice q ns.length cap) 1 ns))(h:St W0 w K L):
  Calls Tryz.prog 39 #[.string (bb s0),.slice q ns.length cap] w fun en w'=>∃(q2:Option Addr) (cap2:Nat),en=.returned (.slice q2 (cutN s0 ns).length cap2)∧St W0 w' (K.and (Know.strs (.slice q2 (cutN s0 ns).length cap2) (cutN s0 ns))) L:=by
 have H:=hQd h;have HK:=hQd hk;have HNS:=hQd hns;have HNL:=hQd hnl;have HS0:=hQd hs0;have hni:(ns.length:Int)≤1000:=by omega
 clear h hk hns hs0 hnl;go_enter Tryz.func39,Tryz.ntmps39;go_wp2_with fail;go_loopw [0,5,7,8,11] (fun sv ov _ _ iv wr=>∃(k:Nat) (acc:List Bs) (s:Bs),k≤ns.length∧iv=.int .i64 k∧sv=.string (bb s)∧Hid (acc.length=k)∧Hid (acc++cutN s (ns.drop k)=cutN s0 ns)∧Hid (s.length≤s0.length)∧St W0 wr K (.row ov 9 1 acc.length (acc.flatMap zLy)::L)) (fun _ _ _ _ iv _=>ns.length - (intOf iv).toNat)
 case atStart=>exact⟨0,[],s0,Nat.zero_le _,rfl,rfl,hQd rfl,hQd (by rw[List.drop_zero];rfl),hQd (Nat.le_refl _),H.out.nilRow 9 1⟩
 case round=>
  obtain⟨k,acc,s,hkl,rfl,rfl,HAL,HEQ,HSL,hst⟩:=hrel;clear H;obtain⟨qv,cv,hv⟩:=hst.rowAny;subst hv;have H:=hQd hst;clear hst;have HAB:=hQd (show acc.length≤1000 by have:=HAL.out;have:=HNL.out;omega);have hsl:(s.length:Int)≤1000000:=by have:=HSL.out;have:=HS0.out;omega
  by_cases hlt:k<ns.length
  · obtain⟨b0,off,hqq⟩:=zKl HK.out H.out (by omega);subst hqq;obtain⟨x,hx⟩:∃x,ns[k]=x:=⟨_,rfl⟩;have c0:=zGL HK.out H.out k hlt x hx;have hxr:=HNS.out x (hx ▸ List.getElem_mem hlt);unfold Rn at hxr;have hkn:(k:Int)<(ns.length:Int):=by omega
    have HNX:=hQd (show(acc++[s.take (kOf x s)])++cutN (s.drop (kOf x s)) (ns.drop (k+1))=cutN s0 ns by
     rw[←HEQ.out,List.drop_eq_getElem_cons hlt,hx,cutN,List.append_assoc];rfl)
    have HSD:=hQd (show(s.drop (kOf x s)).length≤s0.length by rw[List.length_drop];have:=HSL.out;omega);have HDR:=hQd (show List.take (s.length - (min (max x 0) (s.length:Int)).toNat) (s.drop (min (max x 0) (s.length:Int)).toNat)=s.drop (min (max x 0) (s.length:Int)).toNat from List.take_of_length_le (by rw[List.length_drop];exact Nat.le_refl _));have hm0:0≤min (max x 0) (s.length:Int):=by omega
    have hm1:min (max x 0) (s.length:Int)≤(s.length:Int):=by omega
    have hm2:(min (max x 0) (s.length:Int)).toNat≤s.length:=by omega
    unfold kOf at HNX HSD;clear hx;go_wp2_with (at_builtin;refine zAw rfl _ _ 69 rfl 9 Tryz.underlying69 zJh _ _ _ rfl H.out [.string (bb (s.take (min (max x 0) (s.length:Int)).toNat))] 9 rfl rfl (by simp[Value.oneCell']) (by have:=HAB.out;unfold maxLen;omega) (by have:=HAB.out;omega) ?_;intro v' w' h;replace H:=hQd h;clear h);go_roundw
    case rel=>exact⟨k+1,acc++[s.take (min (max x 0) (s.length:Int)).toNat],s.drop (min (max x 0) (s.length:Int)).toNat,hlt,by go_num,by first|rfl|(rw[HDR.out])|(simp only[HDR.out]),hQd (by rw[List.length_append,HAL.out];rfl),hQd HNX.out,hQd HSD.out,by rw[List.length_append,List.flatMap_append];exact H.out⟩
    case measure=>first|(simp[intOf];done)|(simp[intOf];omega)
  · obtain rfl:k=ns.length:=by omega
    have HEND:=hQd (show acc++[s]=cutN s0 ns by have:=HEQ.out;rw[List.drop_length]at this;exact this);go_wp2_with (at_builtin;refine zAw rfl _ _ 69 rfl 9 Tryz.underlying69 zJh _ _ _ rfl H.out [.string (bb (s))] 9 rfl rfl (by simp[Value.oneCell']) (by have:=HAB.out;unfold maxLen;omega) (by have:=HAB.out;omega) ?_;intro v' w' h;replace H:=hQd h;clear h);have h3:=H.out;rw[show acc.length+1=(acc++[s]).length by rw[List.length_append];rfl,show acc.flatMap zLy++[Value.string (bb s)]=(acc++[s]).flatMap zLy by rw[List.flatMap_append];rfl]at h3;obtain⟨q2,cap2,hv⟩:=h3.rowAny;subst hv;have h4:=h3.freezeTexts;rw[HEND.out]at h4;go_ret;exact⟨q2,cap2,by rw[←HEND.out,List.length_append];rfl,h4⟩
variable {W0 w:World}{K:Know}{L:List Res}
theorem zI9(K:Know):K.has (Know.flat RInt (.slice none 0 0) 1 ([]:List Int)):=fun _ _ _=>⟨none,0,rfl,fun h0=>absurd h0 (by simp)⟩
theorem zM1(s d:Bs)(ok:Bool)(hv:hexV s=(d,ok))(hs:s.length≤1000000)(h:St W0 w K L):
  Calls Tryz.prog 18 #[.string (bb s)] w fun en w'=>en=.returned (.tuple #[.string (bb d),.bool ok])∧St W0 w' K L:=by
 refine(zHr s hs h).mono ?_;rw[hv];rintro en w' ⟨rfl,h2⟩;exact⟨rfl,h2⟩
theorem zDD{A T:Bs}{bs:List BatS}{pv:Nat}{rest:Bs}{pe ps:Int}(tk:ToldOk A T bs pv rest pe ps)(l:List Bs)(hA:l.flatten=A)(q:Option Addr)(cap:Nat)(hll:l.length≤1000000)(hlib:K.has Know.lib)(hk:K.has (Know.strs (.slice q l.length cap) l))(h:St W0 w K L):
  Calls Tryz.prog 38 #[.slice q l.length cap] w fun en w'=>en=.returned (.string (bb T))∧St W0 w' K L:=
 zP0 l A hA bs pv rest pe ps tk.fin tk.stop tk.len tk.ok tk.blen tk.rv tk.re T tk.txt q cap hll hlib hk h
theorem zFr{A T:Bs}{bs:List BatS}{pv:Nat}{rest:Bs}{pe ps:Int}(tk:ToldOk A T bs pv rest pe ps)(word:Bs)(hw:hexV word=(A,true))(hwl:word.length≤1000000)(ns:List Int)(hns:∀x∈ns,Rn x)(hnl:ns.length≤1000)(q:Option Addr)(cap:Nat)(hlib:K.has Know.lib)(hk:K.has (Know.flat RInt (.slice q ns.length cap) 1 ns))(h:St W0 w K L):
  Calls Tryz.prog 16 #[.string (bb word),.slice q ns.length cap] w fun en w'=>en=.returned (.string (bb T))∧St W0 w' K L:=by
 have H:=hQd h;have HTK:=hQd tk;have HW:=hQd hw;have HWL:=hQd hwl;have HNS:=hQd hns;have HNL:=hQd hnl;have HLIB:=hQd hlib;have HK:=hQd hk;have HAL:=hQd (show A.length≤1000000 by have:=tk.len;omega);have HCL:=hQd (show(cutN A ns).length≤1000000 by rw[zH1];omega);clear h tk hw hwl hns hnl hlib hk;go_enter Tryz.func16,Tryz.ntmps16
 go_wp2_with (first
  |(go_at_call 18;(with_reducible refine(zM1 word A true HW.out HWL.out H.out).mono ?_);rintro e_ wn ⟨rfl,h⟩;replace H:=hQd h;clear h)
  |(go_at_call 39;(with_reducible refine(zCD A ns HAL.out HNS.out HNL.out q cap HK.out H.out).mono ?_);rintro e_ wn ⟨q2,cap2,rfl,h⟩;replace H:=hQd h;clear h)
  |(go_at_call 38;(with_reducible refine(zDD HTK.out (cutN A ns) (zCN ns A) q2 cap2 HCL.out (Know.has_left HLIB.out) (Know.has_right (Know.has_refl _)) H.out).mono ?_);rintro e_ wn ⟨rfl,h⟩;replace H:=hQd h;clear h))
 go_ret;exact⟨rfl,H.out.know (Know.has_left (Know.has_refl _))⟩
end Go.Proofs.YtenojajfacacoaaGreatDoor
