/- A text. -/
import Derived.Test.YtenojajfacacoaaGreatDoorGReportRawsCard16
import Derived.Test.YtenojajfacacoaaGreatDoorGReportRawsCard9
import Derived.Test.YtenojajfacacoaaGreatDoorGReportRawsCard12
import Derived.Test.YtenojajfacacoaaGreatDoorGReportRawsCard8
import Derived.RegionTactic
import Derived.WalkMore
import Derived.Deep.RegionHeld3
import Derived.Deep.DeepCutAuto
/- A text. -/
namespace Go.Proofs.YtenojajfacacoaaGreatDoor
open Go.RowKit
set_option maxHeartbeats 4000000
set_option maxRecDepth 100000
variable {W0 w:World}{K:Know}{L:List Res}
theorem zIt(base leader:Int)(app txn:Bool)(last first maxt prod epoch sq:Int)(recs:List RecS)(l:List (RecS×Value))(q:Option Addr)(cap:Nat)(hl:l.map (·.1)=recs)(n1 n2 n3 n4 n5:Int)(he:zB7 (⟨base,leader,app,txn,false,last,first,maxt,prod,epoch,sq,recs⟩:BatS)=(n1,n2,n3,n4,n5,false))(so:EncOk (⟨base,leader,app,txn,false,last,first,maxt,prod,epoch,sq,recs⟩:BatS))(tl:Bs)(htl:zBc (⟨base,leader,app,txn,false,last,first,maxt,prod,epoch,sq,recs⟩:BatS)=tl)(hk:K.has (Know.recs (.slice q l.length cap) l))(h:St W0 w K L):
  Calls Tryz.prog 33 #[.agg #[.int .i64 base,.int .i64 leader,.bool app,.bool txn,.bool false,.int .i64 last,.int .i64 first,.int .i64 maxt,.int .i64 prod,.int .i64 epoch,.int .i64 sq,.slice q l.length cap]] w fun en w'=>en=.returned (.string (bb tl))∧St W0 w' K L:=by
 obtain⟨tb,htb⟩:∃b,w.heap.size=b:=⟨_,rfl⟩;have g1:=h.allocRaw #[.int .i64 base,.int .i64 leader,.bool app,.bool txn,.bool false,.int .i64 last,.int .i64 first,.int .i64 maxt,.int .i64 prod,.int .i64 epoch,.int .i64 sq,.slice q l.length cap] 30;rw[htb]at g1;have y0:=g1.rawCell 0;have y1:=g1.rawCell 1;have y2:=g1.rawCell 2;have y3:=g1.rawCell 3;have y4:=g1.rawCell 4;have y5:=g1.rawCell 5;have y6:=g1.rawCell 6;have y7:=g1.rawCell 7;have y8:=g1.rawCell 8;have y9:=g1.rawCell 9;have y10:=g1.rawCell 10;have y11:=g1.rawCell 11;simp at y0 y1 y2 y3 y4 y5 y6 y7 y8 y9 y10 y11;obtain⟨d1,hd1⟩:∃t,numW base=t:=⟨_,rfl⟩;obtain⟨d2,hd2⟩:∃t,numW prod=t:=⟨_,rfl⟩;obtain⟨d3,hd3⟩:∃t,numW (l.length:Int)=t:=⟨_,rfl⟩;obtain⟨d5,hd5⟩:∃t,numW n5=t:=⟨_,rfl⟩;have hR:=so.rng;have hlen:(recs.length:Int)=(l.length:Int):=by rw[←hl,List.length_map]
 have hll:=so.llen hl;have r1:Rn base:=hR.1;have r2:Rn prod:=hR.2.2.2.2.2.1;have r3:Rn (l.length:Int):=by unfold Rn;omega
 have r5:=zDq he;have m1:=zAp _ r1;have m2:=zAp _ r2;have m3:=zAp _ r3;have m5:=zAp _ r5;rw[hd1]at m1;rw[hd2]at m2;rw[hd3]at m3;rw[hd5]at m5;obtain⟨wt,hwt⟩:∃B:Bs,[100,97,116,97]=B:=⟨_,rfl⟩;have hwl:=congrArg List.length hwt;simp only[List.length_cons,List.length_nil]at hwl;obtain⟨P1,hP1⟩:∃B:Bs,[98,97,116,99,104,32]++d1=B:=⟨_,rfl⟩;obtain⟨P2,hP2⟩:∃B:Bs,P1++[32]=B:=⟨_,rfl⟩;obtain⟨P3,hP3⟩:∃B:Bs,P2++d2=B:=⟨_,rfl⟩;obtain⟨P4,hP4⟩:∃B:Bs,P3++[32]=B:=⟨_,rfl⟩;obtain⟨P5,hP5⟩:∃B:Bs,P4++d3=B:=⟨_,rfl⟩;obtain⟨P6,hP6⟩:∃B:Bs,P5++[32]=B:=⟨_,rfl⟩;obtain⟨P7,hP7⟩:∃B:Bs,P6++wt=B:=⟨_,rfl⟩;obtain⟨P8,hP8⟩:∃B:Bs,P7++[10]=B:=⟨_,rfl⟩;have eP1:=congrArg List.length hP1;have eP2:=congrArg List.length hP2;have eP3:=congrArg List.length hP3;have eP4:=congrArg List.length hP4;have eP5:=congrArg List.length hP5;have eP6:=congrArg List.length hP6;have eP7:=congrArg List.length hP7;have eP8:=congrArg List.length hP8;simp only[List.length_append,List.length_cons,List.length_nil]at eP1 eP2 eP3 eP4 eP5 eP6 eP7 eP8;have gP1:¬(9223372036854775807<6+d1.length):=by omega
 have kP1:(⟨#[98,97,116,99,104,32]⟩:ByteArray)++bb d1=bb P1:=by rw[←hP1];exact zAh _ _
 have gP2:¬(9223372036854775807<P1.length+1):=by omega
 have kP2:bb P1++(⟨#[32]⟩:ByteArray)=bb P2:=by rw[←hP2];exact zAh _ _
 have gP3:¬(9223372036854775807<P2.length+d2.length):=by omega
 have kP3:bb P2++bb d2=bb P3:=by rw[←hP3];exact zAh _ _
 have gP4:¬(9223372036854775807<P3.length+1):=by omega
 have kP4:bb P3++(⟨#[32]⟩:ByteArray)=bb P4:=by rw[←hP4];exact zAh _ _
 have gP5:¬(9223372036854775807<P4.length+d3.length):=by omega
 have kP5:bb P4++bb d3=bb P5:=by rw[←hP5];exact zAh _ _
 have gP6:¬(9223372036854775807<P5.length+1):=by omega
 have kP6:bb P5++(⟨#[32]⟩:ByteArray)=bb P6:=by rw[←hP6];exact zAh _ _
 have gP7:¬(9223372036854775807<P6.length+4):=by omega
 have kP7:bb P6++(⟨#[100,97,116,97]⟩:ByteArray)=bb P7:=by rw[←hP7,←hwt];exact zAh _ _
 have gP8:¬(9223372036854775807<P7.length+1):=by omega
 have kP8:bb P7++(⟨#[10]⟩:ByteArray)=bb P8:=by rw[←hP8];exact zAh _ _
 have HTL:=hQd (show P8=tl by
  rw[←htl];unfold zBc zI7;rw[zFj he];simp only[hlen,hd1,hd2,hd3,hd5];rw[←hP8,←hP7,←hP6,←hP5,←hP4,←hP3,←hP2,←hP1,←hwt]
  simp[zAT])
 have HRB:=hQd r1;have HRP:=hQd r2;have HRL:=hQd r3;have HR5:=hQd r5;have HD1:=hQd hd1;have HD2:=hQd hd2;have HD3:=hQd hd3;have HD5:=hQd hd5;have HL:=hQd hl;have HSO:=hQd so;have HK:=hQd hk;have KP:=hQd (show ∀(w':World) (L':List Res),St W0 w' K (.raw tb #[.int .i64 base,.int .i64 leader,.bool app,.bool txn,.bool false,.int .i64 last,.int .i64 first,.int .i64 maxt,.int .i64 prod,.int .i64 epoch,.int .i64 sq,.slice q l.length cap] 30::L')→(w'.cell? ⟨tb,0,none⟩=some (.int .i64 base)∧w'.cell? ⟨tb,8,none⟩=some (.int .i64 prod)∧w'.cell? ⟨tb,11,none⟩=some (.slice q l.length cap))from fun w' L' h'=>⟨h'.rawCell 0,h'.rawCell 8,h'.rawCell 11⟩);have H:=hQd g1;clear h g1 hk hl he so htl hd1 hd2 hd3 hd5 hR hlen hll r1 r2 r3 r5 m1 m2 m3 m5 hP1 hP2 hP3 hP4 hP5 hP6 hP7 hP8 eP1 eP2 eP3 eP4 eP5 eP6 eP7 eP8 hwt hwl;go_enter Tryz.func33,Tryz.ntmps33;go_upto_region 7 with fail;have hs:=H.out.drew;clear H y0 y1 y2 y3 y4 y5 y6 y7 y8 y9 y10 y11;refine wp_region_held_drew (S:=fun w'=>w'.cell? ⟨tb,0,none⟩=some (.int .i64 base)∧w'.cell? ⟨tb,8,none⟩=some (.int .i64 prod)∧w'.cell? ⟨tb,11,none⟩=some (.slice q l.length cap)) (by kernel_rfl) (KP.out _ _ hs) (fun hHeld=> ?_);refine tQ 0 ⟨some 31,.fieldAddr 30 (.tmp 1) 0,0,_,_,none⟩ ?_;simp only[Act.put,sA,sB,sC];refine tQ 1 ⟨some 32,.load 3 (.tmp 31),3,_,_,none⟩ ?_;simp only[Act.put,sA,sB,sC];refine tQ 5 ⟨some 36,.fieldAddr 30 (.tmp 1) 8,0,_,_,none⟩ ?_;simp only[Act.put,sA,sB,sC];refine tQ 6 ⟨some 37,.load 3 (.tmp 36),3,_,_,none⟩ ?_;simp only[Act.put,sA,sB,sC];refine tQ 10 ⟨some 41,.fieldAddr 30 (.tmp 1) 11,0,_,_,none⟩ ?_;simp only[Act.put,sA,sB,sC];refine tQ 11 ⟨some 42,.load 28 (.tmp 41),28,_,_,none⟩ ?_;simp only[Act.put,sA,sB,sC];refine tQ 12 ⟨some 43,.call {callee:=.builtin .len,args:= #[.tmp 42],argTypes:= #[28]},3,_,_,none⟩ ?_;simp only[Act.put,sA,sB,sC];refine tQ 16 ⟨some 47,.move (.tmp 3),9,_,_,none⟩ ?_;simp only[Act.put,sA,sB,sC];refine wpAnyH_ready (rs:=[2]) (by kernel_rfl) (by simp) (AllReadyH.cons (o:=⟨some 33,.call {callee:=.value (.func 9),args:= #[.tmp 32],argTypes:= #[3]},9,_,_,none⟩) rfl (fun KK hK=> ?_) AllReadyH.nil);go_simp;go_at_call 9;with_reducible refine(zBJ base HRB.out d1 HD1.out hs).mono ?_;rintro e wq ⟨rfl,hs⟩;refine hK.out _ _ (KP.out _ _ hs) (fun hHeld=> ?_);clear hK KK
 try simp only[Act.put,sA,sB,sC]
 refine tQ 3 ⟨some 34,.binOp .add 9 (.const (Value.string {data:= #[98,97,116,99,104,32]})) (.tmp 33) 9,9,_,_,none⟩ ?_;simp only[Act.put,sA,sB,sC];refine tQ 4 ⟨some 35,.binOp .add 9 (.tmp 34) (.const (Value.string {data:= #[32]})) 9,9,_,_,none⟩ ?_;simp only[Act.put,sA,sB,sC];refine wpAnyH_ready (rs:=[7]) (by kernel_rfl) (by simp) (AllReadyH.cons (o:=⟨some 38,.call {callee:=.value (.func 9),args:= #[.tmp 37],argTypes:= #[3]},9,_,_,none⟩) rfl (fun KK hK=> ?_) AllReadyH.nil);go_simp;go_at_call 9;with_reducible refine(zBJ prod HRP.out d2 HD2.out hs).mono ?_;rintro e wq ⟨rfl,hs⟩;refine hK.out _ _ (KP.out _ _ hs) (fun hHeld=> ?_);clear hK KK
 try simp only[Act.put,sA,sB,sC]
 refine tQ 8 ⟨some 39,.binOp .add 9 (.tmp 35) (.tmp 38) 9,9,_,_,none⟩ ?_;simp only[Act.put,sA,sB,sC];refine tQ 9 ⟨some 40,.binOp .add 9 (.tmp 39) (.const (Value.string {data:= #[32]})) 9,9,_,_,none⟩ ?_;simp only[Act.put,sA,sB,sC];refine wpAnyH_ready (rs:=[13]) (by kernel_rfl) (by simp) (AllReadyH.cons (o:=⟨some 44,.call {callee:=.value (.func 9),args:= #[.tmp 43],argTypes:= #[3]},9,_,_,none⟩) rfl (fun KK hK=> ?_) AllReadyH.nil);go_simp;go_at_call 9;with_reducible refine(zBJ (l.length:Int) HRL.out d3 HD3.out hs).mono ?_;rintro e wq ⟨rfl,hs⟩;refine hK.out _ _ (KP.out _ _ hs) (fun hHeld=> ?_);clear hK KK
 try simp only[Act.put,sA,sB,sC]
 refine tQ 14 ⟨some 45,.binOp .add 9 (.tmp 40) (.tmp 44) 9,9,_,_,none⟩ ?_;simp only[Act.put,sA,sB,sC];refine tQ 15 ⟨some 46,.binOp .add 9 (.tmp 45) (.const (Value.string {data:= #[32]})) 9,9,_,_,none⟩ ?_;simp only[Act.put,sA,sB,sC];refine tQ 17 ⟨some 48,.binOp .add 9 (.tmp 46) (.tmp 47) 9,9,_,_,none⟩ ?_;simp only[Act.put,sA,sB,sC];refine tQ 18 ⟨some 49,.binOp .add 9 (.tmp 48) (.const (Value.string {data:= #[10]})) 9,9,_,_,none⟩ ?_;simp only[Act.put,sA,sB,sC];refine tQ 19 ⟨some 2,.assign (.tmp 49),9,_,_,none⟩ ?_;simp only[Act.put,sA,sB,sC];refine wpAnyH_done (by kernel_rfl) ?_ _;clear hHeld;have H:=hQd hs;clear hs;go_wp2_with fail;go_ret;exact⟨by rw[←HTL.out];rfl,H.out.drop⟩
theorem zGw(base leader:Int)(app txn:Bool)(last first maxt prod epoch sq:Int)(recs:List RecS)(l:List (RecS×Value))(q:Option Addr)(cap:Nat)(hl:l.map (·.1)=recs)(n1 n2 n3 n4 n5:Int)(he:zB7 (⟨base,leader,app,txn,true,last,first,maxt,prod,epoch,sq,recs⟩:BatS)=(n1,n2,n3,n4,n5,true))(hk1:n3=1)(so:EncOk (⟨base,leader,app,txn,true,last,first,maxt,prod,epoch,sq,recs⟩:BatS))(tl:Bs)(htl:zBc (⟨base,leader,app,txn,true,last,first,maxt,prod,epoch,sq,recs⟩:BatS)=tl)(hk:K.has (Know.recs (.slice q l.length cap) l))(h:St W0 w K L):
  Calls Tryz.prog 33 #[.agg #[.int .i64 base,.int .i64 leader,.bool app,.bool txn,.bool true,.int .i64 last,.int .i64 first,.int .i64 maxt,.int .i64 prod,.int .i64 epoch,.int .i64 sq,.slice q l.length cap]] w fun en w'=>en=.returned (.string (bb tl))∧St W0 w' K L:=by
 obtain⟨tb,htb⟩:∃b,w.heap.size=b:=⟨_,rfl⟩;have g1:=h.allocRaw #[.int .i64 base,.int .i64 leader,.bool app,.bool txn,.bool true,.int .i64 last,.int .i64 first,.int .i64 maxt,.int .i64 prod,.int .i64 epoch,.int .i64 sq,.slice q l.length cap] 30;rw[htb]at g1;have y0:=g1.rawCell 0;have y1:=g1.rawCell 1;have y2:=g1.rawCell 2;have y3:=g1.rawCell 3;have y4:=g1.rawCell 4;have y5:=g1.rawCell 5;have y6:=g1.rawCell 6;have y7:=g1.rawCell 7;have y8:=g1.rawCell 8;have y9:=g1.rawCell 9;have y10:=g1.rawCell 10;have y11:=g1.rawCell 11;simp at y0 y1 y2 y3 y4 y5 y6 y7 y8 y9 y10 y11;obtain⟨d1,hd1⟩:∃t,numW base=t:=⟨_,rfl⟩;obtain⟨d2,hd2⟩:∃t,numW prod=t:=⟨_,rfl⟩;obtain⟨d3,hd3⟩:∃t,numW (l.length:Int)=t:=⟨_,rfl⟩;obtain⟨d5,hd5⟩:∃t,numW n5=t:=⟨_,rfl⟩;have hR:=so.rng;have hlen:(recs.length:Int)=(l.length:Int):=by rw[←hl,List.length_map]
 have hll:=so.llen hl;have r1:Rn base:=hR.1;have r2:Rn prod:=hR.2.2.2.2.2.1;have r3:Rn (l.length:Int):=by unfold Rn;omega
 have r5:=zDq he;have m1:=zAp _ r1;have m2:=zAp _ r2;have m3:=zAp _ r3;have m5:=zAp _ r5;rw[hd1]at m1;rw[hd2]at m2;rw[hd3]at m3;rw[hd5]at m5;have hab:(97::98::111::114::116::32::d5:Bs).length≤50:=by simp only[List.length_cons];omega
 obtain⟨wa,hwa⟩:∃B:Bs,[97,98,111,114,116,32]++d5=B:=⟨_,rfl⟩;have ga:¬(9223372036854775807<6+d5.length):=by omega
 have ka:(⟨#[97,98,111,114,116,32]⟩:ByteArray)++bb d5=bb wa:=by rw[←hwa];exact zAh _ _
 obtain⟨wt,hwt⟩:∃B:Bs,[99,111,109,109,105,116,32]++d5=B:=⟨_,rfl⟩;have gc:¬(9223372036854775807<7+d5.length):=by omega
 have kc:(⟨#[99,111,109,109,105,116,32]⟩:ByteArray)++bb d5=bb wt:=by rw[←hwt];exact zAh _ _
 have hwl:=congrArg List.length hwt;simp only[List.length_append,List.length_cons,List.length_nil]at hwl;have e1:(n3==1)=true:=by rw[beq_iff_eq];exact hk1
 obtain⟨P1,hP1⟩:∃B:Bs,[98,97,116,99,104,32]++d1=B:=⟨_,rfl⟩;obtain⟨P2,hP2⟩:∃B:Bs,P1++[32]=B:=⟨_,rfl⟩;obtain⟨P3,hP3⟩:∃B:Bs,P2++d2=B:=⟨_,rfl⟩;obtain⟨P4,hP4⟩:∃B:Bs,P3++[32]=B:=⟨_,rfl⟩;obtain⟨P5,hP5⟩:∃B:Bs,P4++d3=B:=⟨_,rfl⟩;obtain⟨P6,hP6⟩:∃B:Bs,P5++[32]=B:=⟨_,rfl⟩;obtain⟨P7,hP7⟩:∃B:Bs,P6++wt=B:=⟨_,rfl⟩;obtain⟨P8,hP8⟩:∃B:Bs,P7++[10]=B:=⟨_,rfl⟩;have eP1:=congrArg List.length hP1;have eP2:=congrArg List.length hP2;have eP3:=congrArg List.length hP3;have eP4:=congrArg List.length hP4;have eP5:=congrArg List.length hP5;have eP6:=congrArg List.length hP6;have eP7:=congrArg List.length hP7;have eP8:=congrArg List.length hP8;simp only[List.length_append,List.length_cons,List.length_nil]at eP1 eP2 eP3 eP4 eP5 eP6 eP7 eP8;have gP1:¬(9223372036854775807<6+d1.length):=by omega
 have kP1:(⟨#[98,97,116,99,104,32]⟩:ByteArray)++bb d1=bb P1:=by rw[←hP1];exact zAh _ _
 have gP2:¬(9223372036854775807<P1.length+1):=by omega
 have kP2:bb P1++(⟨#[32]⟩:ByteArray)=bb P2:=by rw[←hP2];exact zAh _ _
 have gP3:¬(9223372036854775807<P2.length+d2.length):=by omega
 have kP3:bb P2++bb d2=bb P3:=by rw[←hP3];exact zAh _ _
 have gP4:¬(9223372036854775807<P3.length+1):=by omega
 have kP4:bb P3++(⟨#[32]⟩:ByteArray)=bb P4:=by rw[←hP4];exact zAh _ _
 have gP5:¬(9223372036854775807<P4.length+d3.length):=by omega
 have kP5:bb P4++bb d3=bb P5:=by rw[←hP5];exact zAh _ _
 have gP6:¬(9223372036854775807<P5.length+1):=by omega
 have kP6:bb P5++(⟨#[32]⟩:ByteArray)=bb P6:=by rw[←hP6];exact zAh _ _
 have gP7:¬(9223372036854775807<P6.length+wt.length):=by omega
 have kP7:bb P6++bb wt=bb P7:=by rw[←hP7];exact zAh _ _
 have gP8:¬(9223372036854775807<P7.length+1):=by omega
 have kP8:bb P7++(⟨#[10]⟩:ByteArray)=bb P8:=by rw[←hP8];exact zAh _ _
 have HTL:=hQd (show P8=tl by
  rw[←htl];unfold zBc zI7;rw[zDi he hk1];simp only[hlen,hd1,hd2,hd3,hd5];rw[←hP8,←hP7,←hP6,←hP5,←hP4,←hP3,←hP2,←hP1,←hwt]
  simp[zAT])
 have HRB:=hQd r1;have HRP:=hQd r2;have HRL:=hQd r3;have HR5:=hQd r5;have HD1:=hQd hd1;have HD2:=hQd hd2;have HD3:=hQd hd3;have HD5:=hQd hd5;have HL:=hQd hl;have HSO:=hQd so;have HK:=hQd hk;have KP:=hQd (show ∀(w':World) (L':List Res),St W0 w' K (.raw tb #[.int .i64 base,.int .i64 leader,.bool app,.bool txn,.bool true,.int .i64 last,.int .i64 first,.int .i64 maxt,.int .i64 prod,.int .i64 epoch,.int .i64 sq,.slice q l.length cap] 30::L')→(w'.cell? ⟨tb,0,none⟩=some (.int .i64 base)∧w'.cell? ⟨tb,8,none⟩=some (.int .i64 prod)∧w'.cell? ⟨tb,11,none⟩=some (.slice q l.length cap))from fun w' L' h'=>⟨h'.rawCell 0,h'.rawCell 8,h'.rawCell 11⟩);have H:=hQd g1;obtain⟨x,hx,hx0,_,_⟩:=zDb _ so.err rfl;have hx:recs=[x]:=hx;obtain⟨e3,he3⟩:∃r,(zBN x).2.2=r:=⟨_,rfl⟩;have he2:=he;unfold zB7 at he2;rw[if_pos ⟨rfl,so.err⟩]at he2;simp only[hx]at he2;have hn3:(zBN x).1=n3:=congrArg (fun z=>z.2.2.1) he2;have hn5:(zBN x).2.1=n5:=congrArg (fun z=>z.2.2.2.2.1) he2;have HCR:=hQd (show zBD x.key.null x.val.null x.key.data x.val.data x.hdrs.length x.off=(n3,n5,e3)from Prod.ext hn3 (Prod.ext hn5 he3));have hmem:x∈recs:=by rw[hx];simp
 have hxs:=(so.recs x hmem).2.2;have HKD:=hQd (show x.key.data.length≤140737488355328 by unfold RecS.sum at hxs;omega);have HVD:=hQd (show x.val.data.length≤140737488355328 by unfold RecS.sum at hxs;omega)
 obtain⟨⟨x',v⟩,hlx⟩:∃y,l=[y]:=by
  rw[hx]at hl
  match l,hl with
  |[y],_=>exact⟨y,rfl⟩
 have hx':x'=x:=by rw[hlx,hx]at hl;simpa using hl
 subst hx';have hl0:0<l.length:=by rw[hlx];simp
 have hlg:l[0]=(x',v):=by simp[hlx]
 obtain⟨eb,eo,hqq⟩:=zBR hk g1 hl0;subst hqq;have hHK0:=zA8 hk (x:=(x',v)) (by rw[hlx];simp);obtain⟨hq,hcap,hvh⟩:=zNo hHK0 g1;simp only at hvh;subst hvh
 have KR:=hQd (show ∀(w':World) (L':List Res),St W0 w' K L'→(w'.cell? ⟨eb,eo,none⟩=some (.int .i64 x'.time)∧w'.cell? ⟨eb,eo+1,none⟩=some (.int .i64 x'.off)∧w'.cell? ⟨eb,eo+2,none⟩=some (.bool x'.key.null)∧w'.cell? ⟨eb,eo+3,none⟩=some (.string (bb x'.key.data))∧w'.cell? ⟨eb,eo+4,none⟩=some (.bool x'.val.null)∧w'.cell? ⟨eb,eo+5,none⟩=some (.string (bb x'.val.data))∧w'.cell? ⟨eb,eo+6,none⟩=some (.slice hq x'.hdrs.length hcap))from fun w' L' h'=>by
  have cc:=zA2 hk h' 0 hl0 _ hlg;simp only[←Nat.add_assoc,Nat.zero_mul,Nat.add_zero]at cc
  exact cc)
 have hlli:(0:Int)<(l.length:Int):=by omega
 clear h g1 hk hl he so htl hd1 hd2 hd3 hd5 hR hlen hll r1 r2 r3 r5 m1 m2 m3 m5 hP1 hP2 hP3 hP4 hP5 hP6 hP7 hP8 eP1 eP2 eP3 eP4 eP5 eP6 eP7 eP8 hab hwt hwl hwa hx hx0 he3 he2 hn3 hn5 hmem hxs hlx hl0 hlg hHK0 hk1;go_enter Tryz.func33,Tryz.ntmps33
 go_upto_region 7 with (first
  |(go_at_call 8;(try clear y0 y1 y2 y3 y4 y5 y6 y7 y8 y9 y10 y11);(with_reducible refine(zMU base leader app txn last first maxt prod epoch sq recs l (some ⟨eb,eo,none⟩) cap HL.out HSO.out HK.out H.out).mono ?_);rintro e_ wn ⟨rfl,h⟩;have y0:=h.rawCell 0;have y1:=h.rawCell 1;have y2:=h.rawCell 2;have y3:=h.rawCell 3;have y4:=h.rawCell 4;have y5:=h.rawCell 5;have y6:=h.rawCell 6;have y7:=h.rawCell 7;have y8:=h.rawCell 8;have y9:=h.rawCell 9;have y10:=h.rawCell 10;have y11:=h.rawCell 11;simp at y0 y1 y2 y3 y4 y5 y6 y7 y8 y9 y10 y11;obtain⟨c0,c1,c2,c3,c4,c5,c6⟩:=KR.out _ _ h;replace H:=hQd h;clear h)
  |(go_at_call 26;(with_reducible refine(zFF x'.time x'.off x'.key.null x'.val.null x'.key.data x'.val.data hq x'.hdrs.length hcap n3 n5 e3 HCR.out HKD.out HVD.out H.out).mono ?_);rintro e_ wn ⟨rfl,h⟩;replace H:=hQd h;clear h)
  |(go_at_call 9;(with_reducible refine(zBJ n5 HR5.out d5 HD5.out H.out).mono ?_);rintro e_ wn ⟨rfl,h⟩;replace H:=hQd h;clear h))
 have hs:=H.out.drew;clear H y0 y1 y2 y3 y4 y5 y6 y7 y8 y9 y10 y11;refine wp_region_held_drew (S:=fun w'=>w'.cell? ⟨tb,0,none⟩=some (.int .i64 base)∧w'.cell? ⟨tb,8,none⟩=some (.int .i64 prod)∧w'.cell? ⟨tb,11,none⟩=some (.slice (some ⟨eb,eo,none⟩) l.length cap)) (by kernel_rfl) (KP.out _ _ hs) (fun hHeld=> ?_);refine tQ 0 ⟨some 31,.fieldAddr 30 (.tmp 1) 0,0,_,_,none⟩ ?_;simp only[Act.put,sA,sB,sC];refine tQ 1 ⟨some 32,.load 3 (.tmp 31),3,_,_,none⟩ ?_;simp only[Act.put,sA,sB,sC];refine tQ 5 ⟨some 36,.fieldAddr 30 (.tmp 1) 8,0,_,_,none⟩ ?_;simp only[Act.put,sA,sB,sC];refine tQ 6 ⟨some 37,.load 3 (.tmp 36),3,_,_,none⟩ ?_;simp only[Act.put,sA,sB,sC];refine tQ 10 ⟨some 41,.fieldAddr 30 (.tmp 1) 11,0,_,_,none⟩ ?_;simp only[Act.put,sA,sB,sC];refine tQ 11 ⟨some 42,.load 28 (.tmp 41),28,_,_,none⟩ ?_;simp only[Act.put,sA,sB,sC];refine tQ 12 ⟨some 43,.call {callee:=.builtin .len,args:= #[.tmp 42],argTypes:= #[28]},3,_,_,none⟩ ?_;simp only[Act.put,sA,sB,sC];refine tQ 16 ⟨some 47,.move (.tmp 3),9,_,_,none⟩ ?_;simp only[Act.put,sA,sB,sC];refine wpAnyH_ready (rs:=[2]) (by kernel_rfl) (by simp) (AllReadyH.cons (o:=⟨some 33,.call {callee:=.value (.func 9),args:= #[.tmp 32],argTypes:= #[3]},9,_,_,none⟩) rfl (fun KK hK=> ?_) AllReadyH.nil);go_simp;go_at_call 9;with_reducible refine(zBJ base HRB.out d1 HD1.out hs).mono ?_;rintro e wq ⟨rfl,hs⟩;refine hK.out _ _ (KP.out _ _ hs) (fun hHeld=> ?_);clear hK KK
 try simp only[Act.put,sA,sB,sC]
 refine tQ 3 ⟨some 34,.binOp .add 9 (.const (Value.string {data:= #[98,97,116,99,104,32]})) (.tmp 33) 9,9,_,_,none⟩ ?_;simp only[Act.put,sA,sB,sC];refine tQ 4 ⟨some 35,.binOp .add 9 (.tmp 34) (.const (Value.string {data:= #[32]})) 9,9,_,_,none⟩ ?_;simp only[Act.put,sA,sB,sC];refine wpAnyH_ready (rs:=[7]) (by kernel_rfl) (by simp) (AllReadyH.cons (o:=⟨some 38,.call {callee:=.value (.func 9),args:= #[.tmp 37],argTypes:= #[3]},9,_,_,none⟩) rfl (fun KK hK=> ?_) AllReadyH.nil);go_simp;go_at_call 9;with_reducible refine(zBJ prod HRP.out d2 HD2.out hs).mono ?_;rintro e wq ⟨rfl,hs⟩;refine hK.out _ _ (KP.out _ _ hs) (fun hHeld=> ?_);clear hK KK
 try simp only[Act.put,sA,sB,sC]
 refine tQ 8 ⟨some 39,.binOp .add 9 (.tmp 35) (.tmp 38) 9,9,_,_,none⟩ ?_;simp only[Act.put,sA,sB,sC];refine tQ 9 ⟨some 40,.binOp .add 9 (.tmp 39) (.const (Value.string {data:= #[32]})) 9,9,_,_,none⟩ ?_;simp only[Act.put,sA,sB,sC];refine wpAnyH_ready (rs:=[13]) (by kernel_rfl) (by simp) (AllReadyH.cons (o:=⟨some 44,.call {callee:=.value (.func 9),args:= #[.tmp 43],argTypes:= #[3]},9,_,_,none⟩) rfl (fun KK hK=> ?_) AllReadyH.nil);go_simp;go_at_call 9;with_reducible refine(zBJ (l.length:Int) HRL.out d3 HD3.out hs).mono ?_;rintro e wq ⟨rfl,hs⟩;refine hK.out _ _ (KP.out _ _ hs) (fun hHeld=> ?_);clear hK KK
 try simp only[Act.put,sA,sB,sC]
 refine tQ 14 ⟨some 45,.binOp .add 9 (.tmp 40) (.tmp 44) 9,9,_,_,none⟩ ?_;simp only[Act.put,sA,sB,sC];refine tQ 15 ⟨some 46,.binOp .add 9 (.tmp 45) (.const (Value.string {data:= #[32]})) 9,9,_,_,none⟩ ?_;simp only[Act.put,sA,sB,sC];refine tQ 17 ⟨some 48,.binOp .add 9 (.tmp 46) (.tmp 47) 9,9,_,_,none⟩ ?_;simp only[Act.put,sA,sB,sC];refine tQ 18 ⟨some 49,.binOp .add 9 (.tmp 48) (.const (Value.string {data:= #[10]})) 9,9,_,_,none⟩ ?_;simp only[Act.put,sA,sB,sC];refine tQ 19 ⟨some 2,.assign (.tmp 49),9,_,_,none⟩ ?_;simp only[Act.put,sA,sB,sC];refine wpAnyH_done (by kernel_rfl) ?_ _;clear hHeld;have H:=hQd hs;clear hs;go_wp2_with fail;go_ret;exact⟨by rw[←HTL.out];rfl,H.out.drop⟩
theorem zHu(base leader:Int)(app txn:Bool)(last first maxt prod epoch sq:Int)(recs:List RecS)(l:List (RecS×Value))(q:Option Addr)(cap:Nat)(hl:l.map (·.1)=recs)(n1 n2 n3 n4 n5:Int)(he:zB7 (⟨base,leader,app,txn,true,last,first,maxt,prod,epoch,sq,recs⟩:BatS)=(n1,n2,n3,n4,n5,true))(hk1:¬n3=1)(so:EncOk (⟨base,leader,app,txn,true,last,first,maxt,prod,epoch,sq,recs⟩:BatS))(tl:Bs)(htl:zBc (⟨base,leader,app,txn,true,last,first,maxt,prod,epoch,sq,recs⟩:BatS)=tl)(hk:K.has (Know.recs (.slice q l.length cap) l))(h:St W0 w K L):
  Calls Tryz.prog 33 #[.agg #[.int .i64 base,.int .i64 leader,.bool app,.bool txn,.bool true,.int .i64 last,.int .i64 first,.int .i64 maxt,.int .i64 prod,.int .i64 epoch,.int .i64 sq,.slice q l.length cap]] w fun en w'=>en=.returned (.string (bb tl))∧St W0 w' K L:=by
 obtain⟨tb,htb⟩:∃b,w.heap.size=b:=⟨_,rfl⟩;have g1:=h.allocRaw #[.int .i64 base,.int .i64 leader,.bool app,.bool txn,.bool true,.int .i64 last,.int .i64 first,.int .i64 maxt,.int .i64 prod,.int .i64 epoch,.int .i64 sq,.slice q l.length cap] 30;rw[htb]at g1;have y0:=g1.rawCell 0;have y1:=g1.rawCell 1;have y2:=g1.rawCell 2;have y3:=g1.rawCell 3;have y4:=g1.rawCell 4;have y5:=g1.rawCell 5;have y6:=g1.rawCell 6;have y7:=g1.rawCell 7;have y8:=g1.rawCell 8;have y9:=g1.rawCell 9;have y10:=g1.rawCell 10;have y11:=g1.rawCell 11;simp at y0 y1 y2 y3 y4 y5 y6 y7 y8 y9 y10 y11;obtain⟨d1,hd1⟩:∃t,numW base=t:=⟨_,rfl⟩;obtain⟨d2,hd2⟩:∃t,numW prod=t:=⟨_,rfl⟩;obtain⟨d3,hd3⟩:∃t,numW (l.length:Int)=t:=⟨_,rfl⟩;obtain⟨d5,hd5⟩:∃t,numW n5=t:=⟨_,rfl⟩;have hR:=so.rng;have hlen:(recs.length:Int)=(l.length:Int):=by rw[←hl,List.length_map]
 have hll:=so.llen hl;have r1:Rn base:=hR.1;have r2:Rn prod:=hR.2.2.2.2.2.1;have r3:Rn (l.length:Int):=by unfold Rn;omega
 have r5:=zDq he;have m1:=zAp _ r1;have m2:=zAp _ r2;have m3:=zAp _ r3;have m5:=zAp _ r5;rw[hd1]at m1;rw[hd2]at m2;rw[hd3]at m3;rw[hd5]at m5;have hab:(97::98::111::114::116::32::d5:Bs).length≤50:=by simp only[List.length_cons];omega
 obtain⟨wt,hwt⟩:∃B:Bs,[97,98,111,114,116,32]++d5=B:=⟨_,rfl⟩;have ga:¬(9223372036854775807<6+d5.length):=by omega
 have ka:(⟨#[97,98,111,114,116,32]⟩:ByteArray)++bb d5=bb wt:=by rw[←hwt];exact zAh _ _
 have hwl:=congrArg List.length hwt;simp only[List.length_append,List.length_cons,List.length_nil]at hwl;have e1:(n3==1)=false:=by rw[beq_eq_false_iff_ne];exact hk1
 obtain⟨P1,hP1⟩:∃B:Bs,[98,97,116,99,104,32]++d1=B:=⟨_,rfl⟩;obtain⟨P2,hP2⟩:∃B:Bs,P1++[32]=B:=⟨_,rfl⟩;obtain⟨P3,hP3⟩:∃B:Bs,P2++d2=B:=⟨_,rfl⟩;obtain⟨P4,hP4⟩:∃B:Bs,P3++[32]=B:=⟨_,rfl⟩;obtain⟨P5,hP5⟩:∃B:Bs,P4++d3=B:=⟨_,rfl⟩;obtain⟨P6,hP6⟩:∃B:Bs,P5++[32]=B:=⟨_,rfl⟩;obtain⟨P7,hP7⟩:∃B:Bs,P6++wt=B:=⟨_,rfl⟩;obtain⟨P8,hP8⟩:∃B:Bs,P7++[10]=B:=⟨_,rfl⟩;have eP1:=congrArg List.length hP1;have eP2:=congrArg List.length hP2;have eP3:=congrArg List.length hP3;have eP4:=congrArg List.length hP4;have eP5:=congrArg List.length hP5;have eP6:=congrArg List.length hP6;have eP7:=congrArg List.length hP7;have eP8:=congrArg List.length hP8;simp only[List.length_append,List.length_cons,List.length_nil]at eP1 eP2 eP3 eP4 eP5 eP6 eP7 eP8;have gP1:¬(9223372036854775807<6+d1.length):=by omega
 have kP1:(⟨#[98,97,116,99,104,32]⟩:ByteArray)++bb d1=bb P1:=by rw[←hP1];exact zAh _ _
 have gP2:¬(9223372036854775807<P1.length+1):=by omega
 have kP2:bb P1++(⟨#[32]⟩:ByteArray)=bb P2:=by rw[←hP2];exact zAh _ _
 have gP3:¬(9223372036854775807<P2.length+d2.length):=by omega
 have kP3:bb P2++bb d2=bb P3:=by rw[←hP3];exact zAh _ _
 have gP4:¬(9223372036854775807<P3.length+1):=by omega
 have kP4:bb P3++(⟨#[32]⟩:ByteArray)=bb P4:=by rw[←hP4];exact zAh _ _
 have gP5:¬(9223372036854775807<P4.length+d3.length):=by omega
 have kP5:bb P4++bb d3=bb P5:=by rw[←hP5];exact zAh _ _
 have gP6:¬(9223372036854775807<P5.length+1):=by omega
 have kP6:bb P5++(⟨#[32]⟩:ByteArray)=bb P6:=by rw[←hP6];exact zAh _ _
 have gP7:¬(9223372036854775807<P6.length+wt.length):=by omega
 have kP7:bb P6++bb wt=bb P7:=by rw[←hP7];exact zAh _ _
 have gP8:¬(9223372036854775807<P7.length+1):=by omega
 have kP8:bb P7++(⟨#[10]⟩:ByteArray)=bb P8:=by rw[←hP8];exact zAh _ _
 have HTL:=hQd (show P8=tl by
  rw[←htl];unfold zBc zI7;rw[zD4 he hk1];simp only[hlen,hd1,hd2,hd3,hd5];rw[←hP8,←hP7,←hP6,←hP5,←hP4,←hP3,←hP2,←hP1,←hwt]
  simp[zAT])
 have HRB:=hQd r1;have HRP:=hQd r2;have HRL:=hQd r3;have HR5:=hQd r5;have HD1:=hQd hd1;have HD2:=hQd hd2;have HD3:=hQd hd3;have HD5:=hQd hd5;have HL:=hQd hl;have HSO:=hQd so;have HK:=hQd hk;have KP:=hQd (show ∀(w':World) (L':List Res),St W0 w' K (.raw tb #[.int .i64 base,.int .i64 leader,.bool app,.bool txn,.bool true,.int .i64 last,.int .i64 first,.int .i64 maxt,.int .i64 prod,.int .i64 epoch,.int .i64 sq,.slice q l.length cap] 30::L')→(w'.cell? ⟨tb,0,none⟩=some (.int .i64 base)∧w'.cell? ⟨tb,8,none⟩=some (.int .i64 prod)∧w'.cell? ⟨tb,11,none⟩=some (.slice q l.length cap))from fun w' L' h'=>⟨h'.rawCell 0,h'.rawCell 8,h'.rawCell 11⟩);have H:=hQd g1;obtain⟨x,hx,hx0,_,_⟩:=zDb _ so.err rfl;have hx:recs=[x]:=hx;obtain⟨e3,he3⟩:∃r,(zBN x).2.2=r:=⟨_,rfl⟩;have he2:=he;unfold zB7 at he2;rw[if_pos ⟨rfl,so.err⟩]at he2;simp only[hx]at he2;have hn3:(zBN x).1=n3:=congrArg (fun z=>z.2.2.1) he2;have hn5:(zBN x).2.1=n5:=congrArg (fun z=>z.2.2.2.2.1) he2;have HCR:=hQd (show zBD x.key.null x.val.null x.key.data x.val.data x.hdrs.length x.off=(n3,n5,e3)from Prod.ext hn3 (Prod.ext hn5 he3));have hmem:x∈recs:=by rw[hx];simp
 have hxs:=(so.recs x hmem).2.2;have HKD:=hQd (show x.key.data.length≤140737488355328 by unfold RecS.sum at hxs;omega);have HVD:=hQd (show x.val.data.length≤140737488355328 by unfold RecS.sum at hxs;omega)
 obtain⟨⟨x',v⟩,hlx⟩:∃y,l=[y]:=by
  rw[hx]at hl
  match l,hl with
  |[y],_=>exact⟨y,rfl⟩
 have hx':x'=x:=by rw[hlx,hx]at hl;simpa using hl
 subst hx';have hl0:0<l.length:=by rw[hlx];simp
 have hlg:l[0]=(x',v):=by simp[hlx]
 obtain⟨eb,eo,hqq⟩:=zBR hk g1 hl0;subst hqq;have hHK0:=zA8 hk (x:=(x',v)) (by rw[hlx];simp);obtain⟨hq,hcap,hvh⟩:=zNo hHK0 g1;simp only at hvh;subst hvh
 have KR:=hQd (show ∀(w':World) (L':List Res),St W0 w' K L'→(w'.cell? ⟨eb,eo,none⟩=some (.int .i64 x'.time)∧w'.cell? ⟨eb,eo+1,none⟩=some (.int .i64 x'.off)∧w'.cell? ⟨eb,eo+2,none⟩=some (.bool x'.key.null)∧w'.cell? ⟨eb,eo+3,none⟩=some (.string (bb x'.key.data))∧w'.cell? ⟨eb,eo+4,none⟩=some (.bool x'.val.null)∧w'.cell? ⟨eb,eo+5,none⟩=some (.string (bb x'.val.data))∧w'.cell? ⟨eb,eo+6,none⟩=some (.slice hq x'.hdrs.length hcap))from fun w' L' h'=>by
  have cc:=zA2 hk h' 0 hl0 _ hlg;simp only[←Nat.add_assoc,Nat.zero_mul,Nat.add_zero]at cc
  exact cc)
 have hlli:(0:Int)<(l.length:Int):=by omega
 clear h g1 hk hl he so htl hd1 hd2 hd3 hd5 hR hlen hll r1 r2 r3 r5 m1 m2 m3 m5 hP1 hP2 hP3 hP4 hP5 hP6 hP7 hP8 eP1 eP2 eP3 eP4 eP5 eP6 eP7 eP8 hab hwt hwl hx hx0 he3 he2 hn3 hn5 hmem hxs hlx hl0 hlg hHK0 hk1;go_enter Tryz.func33,Tryz.ntmps33
 go_upto_region 7 with (first
  |(go_at_call 8;(try clear y0 y1 y2 y3 y4 y5 y6 y7 y8 y9 y10 y11);(with_reducible refine(zMU base leader app txn last first maxt prod epoch sq recs l (some ⟨eb,eo,none⟩) cap HL.out HSO.out HK.out H.out).mono ?_);rintro e_ wn ⟨rfl,h⟩;have y0:=h.rawCell 0;have y1:=h.rawCell 1;have y2:=h.rawCell 2;have y3:=h.rawCell 3;have y4:=h.rawCell 4;have y5:=h.rawCell 5;have y6:=h.rawCell 6;have y7:=h.rawCell 7;have y8:=h.rawCell 8;have y9:=h.rawCell 9;have y10:=h.rawCell 10;have y11:=h.rawCell 11;simp at y0 y1 y2 y3 y4 y5 y6 y7 y8 y9 y10 y11;obtain⟨c0,c1,c2,c3,c4,c5,c6⟩:=KR.out _ _ h;replace H:=hQd h;clear h)
  |(go_at_call 26;(with_reducible refine(zFF x'.time x'.off x'.key.null x'.val.null x'.key.data x'.val.data hq x'.hdrs.length hcap n3 n5 e3 HCR.out HKD.out HVD.out H.out).mono ?_);rintro e_ wn ⟨rfl,h⟩;replace H:=hQd h;clear h)
  |(go_at_call 9;(with_reducible refine(zBJ n5 HR5.out d5 HD5.out H.out).mono ?_);rintro e_ wn ⟨rfl,h⟩;replace H:=hQd h;clear h))
 have hs:=H.out.drew;clear H y0 y1 y2 y3 y4 y5 y6 y7 y8 y9 y10 y11;refine wp_region_held_drew (S:=fun w'=>w'.cell? ⟨tb,0,none⟩=some (.int .i64 base)∧w'.cell? ⟨tb,8,none⟩=some (.int .i64 prod)∧w'.cell? ⟨tb,11,none⟩=some (.slice (some ⟨eb,eo,none⟩) l.length cap)) (by kernel_rfl) (KP.out _ _ hs) (fun hHeld=> ?_);refine tQ 0 ⟨some 31,.fieldAddr 30 (.tmp 1) 0,0,_,_,none⟩ ?_;simp only[Act.put,sA,sB,sC];refine tQ 1 ⟨some 32,.load 3 (.tmp 31),3,_,_,none⟩ ?_;simp only[Act.put,sA,sB,sC];refine tQ 5 ⟨some 36,.fieldAddr 30 (.tmp 1) 8,0,_,_,none⟩ ?_;simp only[Act.put,sA,sB,sC];refine tQ 6 ⟨some 37,.load 3 (.tmp 36),3,_,_,none⟩ ?_;simp only[Act.put,sA,sB,sC];refine tQ 10 ⟨some 41,.fieldAddr 30 (.tmp 1) 11,0,_,_,none⟩ ?_;simp only[Act.put,sA,sB,sC];refine tQ 11 ⟨some 42,.load 28 (.tmp 41),28,_,_,none⟩ ?_;simp only[Act.put,sA,sB,sC];refine tQ 12 ⟨some 43,.call {callee:=.builtin .len,args:= #[.tmp 42],argTypes:= #[28]},3,_,_,none⟩ ?_;simp only[Act.put,sA,sB,sC];refine tQ 16 ⟨some 47,.move (.tmp 3),9,_,_,none⟩ ?_;simp only[Act.put,sA,sB,sC];refine wpAnyH_ready (rs:=[2]) (by kernel_rfl) (by simp) (AllReadyH.cons (o:=⟨some 33,.call {callee:=.value (.func 9),args:= #[.tmp 32],argTypes:= #[3]},9,_,_,none⟩) rfl (fun KK hK=> ?_) AllReadyH.nil);go_simp;go_at_call 9;with_reducible refine(zBJ base HRB.out d1 HD1.out hs).mono ?_;rintro e wq ⟨rfl,hs⟩;refine hK.out _ _ (KP.out _ _ hs) (fun hHeld=> ?_);clear hK KK
 try simp only[Act.put,sA,sB,sC]
 refine tQ 3 ⟨some 34,.binOp .add 9 (.const (Value.string {data:= #[98,97,116,99,104,32]})) (.tmp 33) 9,9,_,_,none⟩ ?_;simp only[Act.put,sA,sB,sC];refine tQ 4 ⟨some 35,.binOp .add 9 (.tmp 34) (.const (Value.string {data:= #[32]})) 9,9,_,_,none⟩ ?_;simp only[Act.put,sA,sB,sC];refine wpAnyH_ready (rs:=[7]) (by kernel_rfl) (by simp) (AllReadyH.cons (o:=⟨some 38,.call {callee:=.value (.func 9),args:= #[.tmp 37],argTypes:= #[3]},9,_,_,none⟩) rfl (fun KK hK=> ?_) AllReadyH.nil);go_simp;go_at_call 9;with_reducible refine(zBJ prod HRP.out d2 HD2.out hs).mono ?_;rintro e wq ⟨rfl,hs⟩;refine hK.out _ _ (KP.out _ _ hs) (fun hHeld=> ?_);clear hK KK
 try simp only[Act.put,sA,sB,sC]
 refine tQ 8 ⟨some 39,.binOp .add 9 (.tmp 35) (.tmp 38) 9,9,_,_,none⟩ ?_;simp only[Act.put,sA,sB,sC];refine tQ 9 ⟨some 40,.binOp .add 9 (.tmp 39) (.const (Value.string {data:= #[32]})) 9,9,_,_,none⟩ ?_;simp only[Act.put,sA,sB,sC];refine wpAnyH_ready (rs:=[13]) (by kernel_rfl) (by simp) (AllReadyH.cons (o:=⟨some 44,.call {callee:=.value (.func 9),args:= #[.tmp 43],argTypes:= #[3]},9,_,_,none⟩) rfl (fun KK hK=> ?_) AllReadyH.nil);go_simp;go_at_call 9;with_reducible refine(zBJ (l.length:Int) HRL.out d3 HD3.out hs).mono ?_;rintro e wq ⟨rfl,hs⟩;refine hK.out _ _ (KP.out _ _ hs) (fun hHeld=> ?_);clear hK KK
 try simp only[Act.put,sA,sB,sC]
 refine tQ 14 ⟨some 45,.binOp .add 9 (.tmp 40) (.tmp 44) 9,9,_,_,none⟩ ?_;simp only[Act.put,sA,sB,sC];refine tQ 15 ⟨some 46,.binOp .add 9 (.tmp 45) (.const (Value.string {data:= #[32]})) 9,9,_,_,none⟩ ?_;simp only[Act.put,sA,sB,sC];refine tQ 17 ⟨some 48,.binOp .add 9 (.tmp 46) (.tmp 47) 9,9,_,_,none⟩ ?_;simp only[Act.put,sA,sB,sC];refine tQ 18 ⟨some 49,.binOp .add 9 (.tmp 48) (.const (Value.string {data:= #[10]})) 9,9,_,_,none⟩ ?_;simp only[Act.put,sA,sB,sC];refine tQ 19 ⟨some 2,.assign (.tmp 49),9,_,_,none⟩ ?_;simp only[Act.put,sA,sB,sC];refine wpAnyH_done (by kernel_rfl) ?_ _;clear hHeld;have H:=hQd hs;clear hs;go_wp2_with fail;go_ret;exact⟨by rw[←HTL.out];rfl,H.out.drop⟩
theorem zPq(b:BatS)(l:List (RecS×Value))(q:Option Addr)(cap:Nat)(hl:l.map (·.1)=b.recs)(so:EncOk b)(tl:Bs)(htl:zBc b=tl)(hk:K.has (Know.recs (.slice q l.length cap) l))(h:St W0 w K L):
  Calls Tryz.prog 33 #[.agg #[.int .i64 b.base,.int .i64 b.leader,.bool b.app,.bool b.txn,.bool b.ctl,.int .i64 b.last,.int .i64 b.first,.int .i64 b.maxt,.int .i64 b.prod,.int .i64 b.epoch,.int .i64 b.seq,.slice q l.length cap]] w fun en w'=>en=.returned (.string (bb tl))∧St W0 w' K L:=by
 obtain⟨⟨n1,n2,n3,n4,n5,ok⟩,he⟩:∃y,zB7 b=y:=⟨_,rfl⟩;obtain⟨base,leader,app,txn,ctl,last,first,maxt,prod,epoch,sq,recs⟩:=b
 cases ctl with
 |false=>
  have hok:ok=false:=by
   have h2:=he;unfold zB7 at h2;rw[if_neg (by simp)]at h2;exact(congrArg (fun z=>z.2.2.2.2.2) h2).symm
  subst hok;exact zIt base leader app txn last first maxt prod epoch sq recs l q cap hl n1 n2 n3 n4 n5 he so tl htl hk h
 |true=>
  have hok:ok=true:=by
   have h2:=he;obtain⟨x,hx,_⟩:=zDb _ so.err rfl;have hx:recs=[x]:=hx;unfold zB7 at h2;rw[if_pos ⟨rfl,so.err⟩]at h2;simp only[hx]at h2;exact(congrArg (fun z=>z.2.2.2.2.2) h2).symm
  subst hok
  by_cases hk1:n3=1
  · exact zGw base leader app txn last first maxt prod epoch sq recs l q cap hl n1 n2 n3 n4 n5 he hk1 so tl htl hk h
  · exact zHu base leader app txn last first maxt prod epoch sq recs l q cap hl n1 n2 n3 n4 n5 he hk1 so tl htl hk h
variable {W0 w:World}{K:Know}{L:List Res}
theorem zPt(V e:Int)(st:Int)(hst:st=0)(hV:Rn V)(he:Rn e)(tl:Bs)(htl:zAT 32 [[118,97,108,105,100],numW V,[99,108,101,97,110]]++[10]=tl)(h:St W0 w K L):
  Calls Tryz.prog 34 #[.int .i64 V,.int .i64 st,.int .i64 e] w fun en w'=>en=.returned (.string (bb tl))∧St W0 w' K L:=by
 obtain⟨d2,hd2⟩:∃t,numW V=t:=⟨_,rfl⟩;obtain⟨d4,hd4⟩:∃t,numW e=t:=⟨_,rfl⟩;have n2:=zAp V hV;have n4:=zAp e he;rw[hd2]at n2;rw[hd4]at n4;obtain⟨P1,hP1⟩:∃B:Bs,[118,97,108,105,100,32]++d2=B:=⟨_,rfl⟩;obtain⟨P2,hP2⟩:∃B:Bs,P1++[32,99,108,101,97,110,10]=B:=⟨_,rfl⟩;have eP1:=congrArg List.length hP1;have eP2:=congrArg List.length hP2;simp only[List.length_append,List.length_cons,List.length_nil]at eP1 eP2;have gP1:¬(9223372036854775807<6+d2.length):=by omega
 have kP1:(⟨#[118,97,108,105,100,32]⟩:ByteArray)++bb d2=bb P1:=by rw[←hP1];exact zAh _ _
 have gP2:¬(9223372036854775807<P1.length+7):=by omega
 have kP2:bb P1++(⟨#[32,99,108,101,97,110,10]⟩:ByteArray)=bb P2:=by rw[←hP2];exact zAh _ _
 have HTL:=hQd (show P2=tl by rw[←htl,←hP2,←hP1,←hd2];simp[zAT]);have H:=hQd h;have HVR:=hQd hV;have HER:=hQd he;have HD2:=hQd hd2;have HD4:=hQd hd4;have t1:True:=trivial;subst hst;have q1:((0:Int)==0)=true:=rfl;clear h hV he hd2 hd4 htl n2 n4 hP1 eP1 hP2 eP2;go_enter Tryz.func34,Tryz.ntmps34
 go_wp2_with (first
  |(go_at_call 9;have _t:=t1;clear _t;(with_reducible refine(zBJ V HVR.out d2 HD2.out H.out).mono ?_);rintro e_ wn ⟨rfl,h⟩;replace H:=hQd h;clear h;clear t1))
 go_ret;exact⟨by rw[←HTL.out];rfl,H.out⟩
theorem zPs(V e:Int)(st:Int)(hst:st=1)(hV:Rn V)(he:Rn e)(tl:Bs)(htl:zAT 32 [[118,97,108,105,100],numW V,[116,111,114,110]]++[10]=tl)(h:St W0 w K L):
  Calls Tryz.prog 34 #[.int .i64 V,.int .i64 st,.int .i64 e] w fun en w'=>en=.returned (.string (bb tl))∧St W0 w' K L:=by
 obtain⟨d2,hd2⟩:∃t,numW V=t:=⟨_,rfl⟩;obtain⟨d4,hd4⟩:∃t,numW e=t:=⟨_,rfl⟩;have n2:=zAp V hV;have n4:=zAp e he;rw[hd2]at n2;rw[hd4]at n4;obtain⟨P1,hP1⟩:∃B:Bs,[118,97,108,105,100,32]++d2=B:=⟨_,rfl⟩;obtain⟨P2,hP2⟩:∃B:Bs,P1++[32,116,111,114,110,10]=B:=⟨_,rfl⟩;have eP1:=congrArg List.length hP1;have eP2:=congrArg List.length hP2;simp only[List.length_append,List.length_cons,List.length_nil]at eP1 eP2;have gP1:¬(9223372036854775807<6+d2.length):=by omega
 have kP1:(⟨#[118,97,108,105,100,32]⟩:ByteArray)++bb d2=bb P1:=by rw[←hP1];exact zAh _ _
 have gP2:¬(9223372036854775807<P1.length+6):=by omega
 have kP2:bb P1++(⟨#[32,116,111,114,110,10]⟩:ByteArray)=bb P2:=by rw[←hP2];exact zAh _ _
 have HTL:=hQd (show P2=tl by rw[←htl,←hP2,←hP1,←hd2];simp[zAT]);have H:=hQd h;have HVR:=hQd hV;have HER:=hQd he;have HD2:=hQd hd2;have HD4:=hQd hd4;have t1:True:=trivial;subst hst;have q1:((1:Int)==0)=false:=rfl;have q2:((1:Int)==1)=true:=rfl;clear h hV he hd2 hd4 htl n2 n4 hP1 eP1 hP2 eP2;go_enter Tryz.func34,Tryz.ntmps34
 go_wp2_with (first
  |(go_at_call 9;have _t:=t1;clear _t;(with_reducible refine(zBJ V HVR.out d2 HD2.out H.out).mono ?_);rintro e_ wn ⟨rfl,h⟩;replace H:=hQd h;clear h;clear t1))
 go_ret;exact⟨by rw[←HTL.out];rfl,H.out⟩
theorem zPr(V e:Int)(st:Int)(hs0:¬st=0)(hs1:¬st=1)(hV:Rn V)(he:Rn e)(tl:Bs)(htl:zAT 32 [[118,97,108,105,100],numW V,[98,97,100],numW e]++[10]=tl)(h:St W0 w K L):
  Calls Tryz.prog 34 #[.int .i64 V,.int .i64 st,.int .i64 e] w fun en w'=>en=.returned (.string (bb tl))∧St W0 w' K L:=by
 obtain⟨d2,hd2⟩:∃t,numW V=t:=⟨_,rfl⟩;obtain⟨d4,hd4⟩:∃t,numW e=t:=⟨_,rfl⟩;have n2:=zAp V hV;have n4:=zAp e he;rw[hd2]at n2;rw[hd4]at n4;obtain⟨P1,hP1⟩:∃B:Bs,[118,97,108,105,100,32]++d2=B:=⟨_,rfl⟩;obtain⟨P2,hP2⟩:∃B:Bs,P1++[32,98,97,100,32]=B:=⟨_,rfl⟩;obtain⟨P3,hP3⟩:∃B:Bs,P2++d4=B:=⟨_,rfl⟩;obtain⟨P4,hP4⟩:∃B:Bs,P3++[10]=B:=⟨_,rfl⟩;have eP1:=congrArg List.length hP1;have eP2:=congrArg List.length hP2;have eP3:=congrArg List.length hP3;have eP4:=congrArg List.length hP4;simp only[List.length_append,List.length_cons,List.length_nil]at eP1 eP2 eP3 eP4;have gP1:¬(9223372036854775807<6+d2.length):=by omega
 have kP1:(⟨#[118,97,108,105,100,32]⟩:ByteArray)++bb d2=bb P1:=by rw[←hP1];exact zAh _ _
 have gP2:¬(9223372036854775807<P1.length+5):=by omega
 have kP2:bb P1++(⟨#[32,98,97,100,32]⟩:ByteArray)=bb P2:=by rw[←hP2];exact zAh _ _
 have gP3:¬(9223372036854775807<P2.length+d4.length):=by omega
 have kP3:bb P2++bb d4=bb P3:=by rw[←hP3];exact zAh _ _
 have gP4:¬(9223372036854775807<P3.length+1):=by omega
 have kP4:bb P3++(⟨#[10]⟩:ByteArray)=bb P4:=by rw[←hP4];exact zAh _ _
 have HTL:=hQd (show P4=tl by rw[←htl,←hP4,←hP3,←hP2,←hP1,←hd2,←hd4];simp[zAT]);have H:=hQd h;have HVR:=hQd hV;have HER:=hQd he;have HD2:=hQd hd2;have HD4:=hQd hd4;have t1:True:=trivial;have q1:(st==0)=false:=by rw[beq_eq_false_iff_ne];exact hs0
 have q2:(st==1)=false:=by rw[beq_eq_false_iff_ne];exact hs1
 clear h hV he hd2 hd4 htl n2 n4 hP1 eP1 hP2 eP2 hP3 eP3 hP4 eP4 hs0 hs1;go_enter Tryz.func34,Tryz.ntmps34
 go_wp2_with (first
  |(go_at_call 9;have _t:=t1;clear _t;(with_reducible refine(zBJ V HVR.out d2 HD2.out H.out).mono ?_);rintro e_ wn ⟨rfl,h⟩;replace H:=hQd h;clear h;clear t1)
  |(go_at_call 9;(with_reducible refine(zBJ e HER.out d4 HD4.out H.out).mono ?_);rintro e_ wn ⟨rfl,h⟩;replace H:=hQd h;clear h))
 go_ret;exact⟨by rw[←HTL.out];rfl,H.out⟩
theorem rr_end(V st e:Int)(hV:Rn V)(he:Rn e)(tl:Bs)(htl:endT V st e=tl)(h:St W0 w K L):
   Calls Tryz.prog 34 #[.int .i64 V,.int .i64 st,.int .i64 e] w fun en w'=>en=.returned (.string (bb tl))∧St W0 w' K L:=by
 unfold endT endW at htl
 by_cases h0:st=0
 · rw[if_pos h0]at htl;exact zPt V e st h0 hV he tl htl h
 by_cases h1:st=1
 · rw[if_neg h0,if_pos h1]at htl;exact zPs V e st h1 hV he tl htl h
 · rw[if_neg h0,if_neg h1]at htl;exact zPr V e st h0 h1 hV he tl htl h
set_option maxHeartbeats 16000000
theorem zJL{A T:Bs}{bs:List BatS}{pv:Nat}{rest:Bs}{pe ps:Int}(tk:ToldOk A T bs pv rest pe ps){W0 w:World}{K:Know}{L:List Res}(h:St W0 w K L):
  Calls Tryz.prog 11 #[.string (bb A)] w fun en w'=>en=.returned (.string (bb T))∧St W0 w' K L:=by
 have hsm:=zHr bs tk.ok;have hbl:=tk.blen;have hp0:Rn (sumE bs):=by unfold Rn;omega
 have hq0:Rn (sumR bs):=by unfold Rn;omega
 have hTl:T.length≤1000000:=by rw[←tk.txt];exact zIi bs _ ps pe tk.ok tk.blen tk.rv tk.re hp0 hq0
 obtain⟨P,hP⟩:∃P,sumE bs=P:=⟨_,rfl⟩;obtain⟨Q,hQ⟩:∃Q,sumR bs=Q:=⟨_,rfl⟩;obtain⟨tl,htl⟩:∃t,totT P Q=t:=⟨_,rfl⟩;obtain⟨tn,htn⟩:∃t,endT (pv:Nat) ps pe=t:=⟨_,rfl⟩;obtain⟨d1,hd1⟩:∃t,numW P=t:=⟨_,rfl⟩;obtain⟨d2,hd2⟩:∃t,numW Q=t:=⟨_,rfl⟩;have hT2:bs.flatMap zBc++(tl++tn)=T:=by rw[←tk.txt,←htl,←htn,←hP,←hQ];rfl
 have H:=hQd h;have HTK:=hQd tk;have HT2:=hQd hT2;have HTL:=hQd hTl;have HTE:=hQd htn;have HTO:=hQd (show[116,111,116,97,108]++32::(d1++32::(d2++[10]))=tl by rw[←htl,←hd1,←hd2];unfold totT;simp[zAT]);have HPQ0:=hQd (show sumE bs=P∧sumR bs=Q from⟨hP,hQ⟩);have HRP:=hQd (show Rn P by rw[←hP];exact hp0);have HRQ:=hQd (show Rn Q by rw[←hQ];exact hq0);have HRV:=hQd tk.rv;have HRE:=hQd tk.re;have HBL:=hQd hbl;have HBO:=hQd tk.ok;have HD1:=hQd hd1;have HD2:=hQd hd2;clear h tk hT2 hTl hP hQ htl htn hd1 hd2 hp0 hq0 hsm hbl;go_enter Tryz.func11,Tryz.ntmps11;go_wp2_with (go_at_call 32;(with_reducible refine(rr_all A bs pv rest pe ps HTK.out H.out).mono ?_);rintro e_ wn ⟨q2,cap2,lr,rfl,hb2,hlite,h⟩;have HB2:=hQd hb2;have HLI:=hQd hlite;clear hb2 hlite;obtain⟨gb,hgb⟩:∃y,wn.heap.size=y:=⟨_,rfl⟩;have h:=h.allocRaw #[.slice q2 lr.length cap2,.int .i64 (pv:Nat),.int .i64 ps,.int .i64 pe] 63;rw[hgb]at h;have z0:=h.rawCell 0;simp at z0;replace H:=hQd h;clear h);clear z0;have HOK:=hQd (show ∀x∈lr,OkB x from fun x hx=>⟨(HLI.out x hx).1,HBO.out x.b (by rw[←HB2.out];exact List.mem_map.2 ⟨x,hx,rfl⟩)⟩);have HLR:=hQd (show lr.length≤900 by have h9:=congrArg List.length HB2.out;rw[List.length_map]at h9;have:=HBL.out;omega);have HKB:=hQd (Know.has_right (a:=K) (Know.has_refl (Know.bats (.slice q2 lr.length cap2) lr)))
 have HS0:=hQd (show[]++((lr.drop 0).flatMap (fun x:BatR=>zBc x.b)++(tl++tn))=T by
  have e:lr.flatMap (fun x:BatR=>zBc x.b)=bs.flatMap zBc:=by rw[←HB2.out,List.flatMap_map]
  rw[List.drop_zero,e];exact HT2.out)
 go_loopw [4,5,6,14] (fun sv pvv qvv iv wr=>∃(k:Nat) (E:Bs) (X Y:Int),k≤lr.length∧iv=.int .i64 k∧sv=.string (bb E)∧pvv=.int .i64 X∧qvv=.int .i64 Y∧Hid (E++((lr.drop k).flatMap (fun x:BatR=>zBc x.b)++(tl++tn))=T)∧Hid (X=sumE ((lr.take k).map BatR.b))∧Hid (Y=sumR ((lr.take k).map BatR.b))∧St W0 wr (K.and (Know.bats (.slice q2 lr.length cap2) lr)) (.raw gb #[.slice q2 lr.length cap2,.int .i64 (pv:Nat),.int .i64 ps,.int .i64 pe] 63::L)) (fun _ _ _ iv _=>lr.length - (intOf iv).toNat)
 case atStart=>exact⟨0,[],0,0,Nat.zero_le _,rfl,rfl,rfl,rfl,HS0,hQd rfl,hQd rfl,H.out⟩
 case round=>
  obtain⟨k,E,X,Y,hk',rfl,rfl,rfl,rfl,HE,HX,HY,hst⟩:=hrel;clear H;have H:=hQd hst;clear hst;have hlri:(lr.length:Int)≤900:=by have:=HLR.out;omega
  have hb9:∀b∈(lr.take k).map BatR.b,EncOk b:=fun b hb=>by
    obtain⟨x,hx,rfl⟩:=List.mem_map.1 hb;exact(HOK.out x (List.mem_of_mem_take hx)).2
  have hsb:=zHr _ hb9;rw[←HX.out,←HY.out,List.length_map,List.length_take]at hsb;have hX:0≤X∧X≤1000000000:=by omega
  have hY:0≤Y∧Y≤1000000000:=by omega
  obtain⟨hX0,hX1⟩:=hX;obtain⟨hY0,hY1⟩:=hY;clear hsb hb9
  by_cases hk:k<lr.length
  · obtain⟨bk,off,hqq⟩:=zGp HKB.out H.out (by omega);subst hqq;obtain⟨x,hx⟩:∃x,lr[k]=x:=⟨_,rfl⟩;have hmem:x∈lr:=hx ▸ List.getElem_mem hk;have hxk:=zCU HKB.out hmem;have cc:=zDX HKB.out H.out k hk x hx;have hox:=HOK.out x hmem;obtain⟨t,ht⟩:∃t,zBc x.b=t:=⟨_,rfl⟩;obtain⟨E2,hE2⟩:∃E2,E++t=E2:=⟨_,rfl⟩
    have hE3:E2++((lr.drop (k+1)).flatMap (fun x:BatR=>zBc x.b)++(tl++tn))=T:=by
     rw[←HE.out,zI9 (fun x:BatR=>zBc x.b) lr k hk x hx,←hE2,←ht];simp only[List.append_assoc]
    have hle:=zK9 hE3 HTL.out;have hle2:=congrArg List.length hE2;rw[List.length_append]at hle2;have gE:¬(9223372036854775807<E.length+t.length):=by omega
    have kE:bb E++bb t=bb E2:=by rw[←hE2];exact zAh _ _
    have hpn:X+(x.b.enc.length:Int)=sumE ((lr.take (k+1)).map BatR.b):=by rw[zIj lr k hk x hx,zMi,HX.out]
    have hqn:Y+(x.b.recs.length:Int)=sumR ((lr.take (k+1)).map BatR.b):=by rw[zIj lr k hk x hx,zMh,HY.out]
    obtain⟨b,xl,xq,xcap⟩:=x;obtain⟨c0,c1,c2,c3,c4,c5,c6,c7,c8,c9,c10,c11⟩:=cc;obtain⟨bs1,hbs⟩:∃s,b.enc=s:=⟨_,rfl⟩;have hel:=hox.2.elen;have hrl:(b.recs.length:Int)=(xl.length:Int):=by have h9:=hox.1;simp only at h9;rw[←h9,List.length_map]
    have hxll:=hox.2.llen hox.1;simp only at hpn hqn hel hxll;rw[hbs]at hpn hel;rw[hrl]at hqn;have HXL:=hQd (show xl.map (·.1)=b.recs from hox.1);have HSO:=hQd (show EncOk b from hox.2);have HXK:=hQd (show Know.has _ (Know.recs (.slice xq xl.length xcap) xl)from hxk);have HT:=hQd (show zBc b=t from ht);have HBS:=hQd hbs;have HE3:=hQd (hQd hE3);have hw1:IntKind.i64.wrap (X+(bs1.length:Int))=X+(bs1.length:Int):=IntWalk.i64_in _ (by omega);have hw2:IntKind.i64.wrap (Y+(xl.length:Int))=Y+(xl.length:Int):=IntWalk.i64_in _ (by omega);have HPN:=hQd (hQd (hw1.trans hpn));have HQN:=hQd (hQd (hw2.trans hqn));have hsl:(bs1.length:Int)≤400061:=by omega
    have hxli:(xl.length:Int)≤1000:=by omega
    obtain⟨tb,htb⟩:∃b,wr.heap.size=b:=⟨_,rfl⟩;have g1:=H.out.allocRaw #[.int .i64 b.base,.int .i64 b.leader,.bool b.app,.bool b.txn,.bool b.ctl,.int .i64 b.last,.int .i64 b.first,.int .i64 b.maxt,.int .i64 b.prod,.int .i64 b.epoch,.int .i64 b.seq,.slice xq xl.length xcap] 30;rw[htb]at g1;have y0:=g1.rawCell 0;have y1:=g1.rawCell 1;have y2:=g1.rawCell 2;have y3:=g1.rawCell 3;have y4:=g1.rawCell 4;have y5:=g1.rawCell 5;have y6:=g1.rawCell 6;have y7:=g1.rawCell 7;have y8:=g1.rawCell 8;have y9:=g1.rawCell 9;have y10:=g1.rawCell 10;have y11:=g1.rawCell 11;simp at y0 y1 y2 y3 y4 y5 y6 y7 y8 y9 y10 y11;have KP7:=hQd (show ∀(w':World) (L':List Res),St W0 w' _ (.raw tb #[.int .i64 b.base,.int .i64 b.leader,.bool b.app,.bool b.txn,.bool b.ctl,.int .i64 b.last,.int .i64 b.first,.int .i64 b.maxt,.int .i64 b.prod,.int .i64 b.epoch,.int .i64 b.seq,.slice xq xl.length xcap] 30::L')→(w'.cell? ⟨tb,0,none⟩=some (.int .i64 b.base)∧w'.cell? ⟨tb,1,none⟩=some (.int .i64 b.leader)∧w'.cell? ⟨tb,2,none⟩=some (.bool b.app)∧w'.cell? ⟨tb,3,none⟩=some (.bool b.txn)∧w'.cell? ⟨tb,4,none⟩=some (.bool b.ctl)∧w'.cell? ⟨tb,5,none⟩=some (.int .i64 b.last)∧w'.cell? ⟨tb,6,none⟩=some (.int .i64 b.first)∧w'.cell? ⟨tb,7,none⟩=some (.int .i64 b.maxt)∧w'.cell? ⟨tb,8,none⟩=some (.int .i64 b.prod)∧w'.cell? ⟨tb,9,none⟩=some (.int .i64 b.epoch)∧w'.cell? ⟨tb,10,none⟩=some (.int .i64 b.seq)∧w'.cell? ⟨tb,11,none⟩=some (.slice xq xl.length xcap))from fun w' L' h'=>⟨(show St W0 w' (K.and (Know.bats (.slice (some ⟨bk,off,none⟩) lr.length cap2) lr)) _ from h').rawCell 0,(show St W0 w' (K.and (Know.bats (.slice (some ⟨bk,off,none⟩) lr.length cap2) lr)) _ from h').rawCell 1,(show St W0 w' (K.and (Know.bats (.slice (some ⟨bk,off,none⟩) lr.length cap2) lr)) _ from h').rawCell 2,(show St W0 w' (K.and (Know.bats (.slice (some ⟨bk,off,none⟩) lr.length cap2) lr)) _ from h').rawCell 3,(show St W0 w' (K.and (Know.bats (.slice (some ⟨bk,off,none⟩) lr.length cap2) lr)) _ from h').rawCell 4,(show St W0 w' (K.and (Know.bats (.slice (some ⟨bk,off,none⟩) lr.length cap2) lr)) _ from h').rawCell 5,(show St W0 w' (K.and (Know.bats (.slice (some ⟨bk,off,none⟩) lr.length cap2) lr)) _ from h').rawCell 6,(show St W0 w' (K.and (Know.bats (.slice (some ⟨bk,off,none⟩) lr.length cap2) lr)) _ from h').rawCell 7,(show St W0 w' (K.and (Know.bats (.slice (some ⟨bk,off,none⟩) lr.length cap2) lr)) _ from h').rawCell 8,(show St W0 w' (K.and (Know.bats (.slice (some ⟨bk,off,none⟩) lr.length cap2) lr)) _ from h').rawCell 9,(show St W0 w' (K.and (Know.bats (.slice (some ⟨bk,off,none⟩) lr.length cap2) lr)) _ from h').rawCell 10,(show St W0 w' (K.and (Know.bats (.slice (some ⟨bk,off,none⟩) lr.length cap2) lr)) _ from h').rawCell 11⟩);have hki:(k:Int)<(lr.length:Int):=by omega
    clear H hw1 hw2 hxk hmem hox hx ht hE2 hE3 hle hle2 hpn hqn hbs hel hrl hxll;have H:=hQd g1;clear g1;go_upto_region 7 with (go_at_call 33;(with_reducible refine(zPq b xl xq xcap HXL.out HSO.out t HT.out HXK.out H.out).mono ?_);rintro e_ wn ⟨rfl,h⟩;replace H:=hQd h;clear h);have hs:=H.out.drew;clear H y0 c0 y1 c1 y2 c2 y3 c3 y4 c4 y5 c5 y6 c6 y7 c7 y8 c8 y9 c9 y10 c10 y11 c11;refine wp_region_held_drew (S:=fun w'=>w'.cell? ⟨tb,0,none⟩=some (.int .i64 b.base)∧w'.cell? ⟨tb,1,none⟩=some (.int .i64 b.leader)∧w'.cell? ⟨tb,2,none⟩=some (.bool b.app)∧w'.cell? ⟨tb,3,none⟩=some (.bool b.txn)∧w'.cell? ⟨tb,4,none⟩=some (.bool b.ctl)∧w'.cell? ⟨tb,5,none⟩=some (.int .i64 b.last)∧w'.cell? ⟨tb,6,none⟩=some (.int .i64 b.first)∧w'.cell? ⟨tb,7,none⟩=some (.int .i64 b.maxt)∧w'.cell? ⟨tb,8,none⟩=some (.int .i64 b.prod)∧w'.cell? ⟨tb,9,none⟩=some (.int .i64 b.epoch)∧w'.cell? ⟨tb,10,none⟩=some (.int .i64 b.seq)∧w'.cell? ⟨tb,11,none⟩=some (.slice xq xl.length xcap)) (by kernel_rfl) (KP7.out _ _ hs) (fun hHeld=> ?_);refine tQ 0 ⟨some 22,.move (.tmp 5),3,_,_,none⟩ ?_;simp only[Act.put,sA,sB,sC];refine tQ 1 ⟨some 23,.load 30 (.tmp 8),30,_,_,none⟩ ?_;simp only[Act.put,sA,sB,sC];refine tQ 5 ⟨some 27,.move (.tmp 6),3,_,_,none⟩ ?_;simp only[Act.put,sA,sB,sC];refine tQ 6 ⟨some 28,.fieldAddr 30 (.tmp 8) 11,0,_,_,none⟩ ?_;simp only[Act.put,sA,sB,sC];refine tQ 7 ⟨some 29,.load 28 (.tmp 28),28,_,_,none⟩ ?_;simp only[Act.put,sA,sB,sC];refine tQ 8 ⟨some 30,.call {callee:=.builtin .len,args:= #[.tmp 29],argTypes:= #[28]},3,_,_,none⟩ ?_;simp only[Act.put,sA,sB,sC];refine tQ 9 ⟨some 31,.binOp .add 3 (.tmp 27) (.tmp 30) 3,3,_,_,none⟩ ?_;simp only[Act.put,sA,sB,sC];refine wpAnyH_ready (rs:=[2]) (by kernel_rfl) (by simp) (AllReadyH.cons (o:=⟨some 24,.call {callee:=.value (.func 10),args:= #[.tmp 23],argTypes:= #[30]},9,_,_,none⟩) rfl (fun KK hK=> ?_) AllReadyH.nil);go_simp;go_at_call 10;with_reducible refine(zHx b bs1 HBS.out xl xq xcap HXL.out HSO.out HXK.out hs).mono ?_;rintro e wq ⟨rfl,hs⟩;refine hK.out _ _ (KP7.out _ _ hs) (fun hHeld=> ?_);clear hK KK
    try simp only[Act.put,sA,sB,sC]
    refine tQ 3 ⟨some 25,.call {callee:=.builtin .len,args:= #[.tmp 24],argTypes:= #[9]},3,_,_,none⟩ ?_;simp only[Act.put,sA,sB,sC];refine tQ 4 ⟨some 26,.binOp .add 3 (.tmp 22) (.tmp 25) 3,3,_,_,none⟩ ?_;simp only[Act.put,sA,sB,sC];refine tQ 10 ⟨some 5,.assign (.tmp 26),3,_,_,none⟩ ?_;simp only[Act.put,sA,sB,sC];refine tQ 11 ⟨some 6,.assign (.tmp 31),3,_,_,none⟩ ?_;simp only[Act.put,sA,sB,sC];refine wpAnyH_done (by kernel_rfl) ?_ _;clear hHeld;have hs:=hs.drop;have H:=hQd hs;clear hs;go_wp2_with fail;go_roundw
    case rel=>exact⟨k+1,E2,_,_,hk,by go_num,rfl,rfl,rfl,HE3.out,HPN.out,HQN.out,H.out⟩
    case measure=>first|(simp[intOf];done)|(simp[intOf];omega)
  · have hq1:k=lr.length:=by omega
    have h9:E++(tl++tn)=T:=by have h9:=HE.out;rw[hq1,List.drop_length]at h9;exact h9
    obtain rfl:X=P:=by have h8:=HX.out;rw[hq1,List.take_length,HB2.out,HPQ0.out.1]at h8;exact h8
    obtain rfl:Y=Q:=by have h8:=HY.out;rw[hq1,List.take_length,HB2.out,HPQ0.out.2]at h8;exact h8
    obtain⟨P1,hP1⟩:∃B:Bs,E++[116,111,116,97,108,32]=B:=⟨_,rfl⟩;obtain⟨P2,hP2⟩:∃B:Bs,P1++d1=B:=⟨_,rfl⟩;obtain⟨P3,hP3⟩:∃B:Bs,P2++[32]=B:=⟨_,rfl⟩;obtain⟨P4,hP4⟩:∃B:Bs,P3++d2=B:=⟨_,rfl⟩;obtain⟨P5,hP5⟩:∃B:Bs,P4++[10]=B:=⟨_,rfl⟩;obtain⟨P6,hP6⟩:∃B:Bs,P5++tn=B:=⟨_,rfl⟩;have eP1:=congrArg List.length hP1;have eP2:=congrArg List.length hP2;have eP3:=congrArg List.length hP3;have eP4:=congrArg List.length hP4;have eP5:=congrArg List.length hP5;have eP6:=congrArg List.length hP6;simp only[List.length_append,List.length_cons,List.length_nil]at eP1 eP2 eP3 eP4 eP5 eP6
    have h8:P6=T:=by
     rw[←h9,←HTO.out,←hP6,←hP5,←hP4,←hP3,←hP2,←hP1]
     simp
    have h7:=HTL.out;rw[←h8]at h7;have gP1:¬(9223372036854775807<E.length+6):=by omega
    have kP1:bb E++(⟨#[116,111,116,97,108,32]⟩:ByteArray)=bb P1:=by rw[←hP1];exact zAh _ _
    have gP2:¬(9223372036854775807<P1.length+d1.length):=by omega
    have kP2:bb P1++bb d1=bb P2:=by rw[←hP2];exact zAh _ _
    have gP3:¬(9223372036854775807<P2.length+1):=by omega
    have kP3:bb P2++(⟨#[32]⟩:ByteArray)=bb P3:=by rw[←hP3];exact zAh _ _
    have gP4:¬(9223372036854775807<P3.length+d2.length):=by omega
    have kP4:bb P3++bb d2=bb P4:=by rw[←hP4];exact zAh _ _
    have gP5:¬(9223372036854775807<P4.length+1):=by omega
    have kP5:bb P4++(⟨#[10]⟩:ByteArray)=bb P5:=by rw[←hP5];exact zAh _ _
    have gP6:¬(9223372036854775807<P5.length+tn.length):=by omega
    have kP6:bb P5++bb tn=bb P6:=by rw[←hP6];exact zAh _ _
    have HTL2:=hQd h8;have KP9:=hQd (show ∀(w':World) (L':List Res),St W0 w' (K.and (Know.bats (.slice q2 lr.length cap2) lr)) (.raw gb #[.slice q2 lr.length cap2,.int .i64 (pv:Nat),.int .i64 ps,.int .i64 pe] 63::L')→(w'.cell? ⟨gb,1,none⟩=some (.int .i64 (pv:Nat))∧w'.cell? ⟨gb,2,none⟩=some (.int .i64 ps)∧w'.cell? ⟨gb,3,none⟩=some (.int .i64 pe))from fun w' L' h'=>⟨h'.rawCell 1,h'.rawCell 2,h'.rawCell 3⟩);have hki:¬((k:Int)<(lr.length:Int)):=by omega
    clear h9 h8 h7 hq1 hP1 eP1 hP2 eP2 hP3 eP3 hP4 eP4 hP5 eP5 hP6 eP6;go_upto_region 9 with fail;have hs:=H.out.drew;clear H;refine wp_region_held_drew (S:=fun w'=>w'.cell? ⟨gb,1,none⟩=some (.int .i64 (pv:Nat))∧w'.cell? ⟨gb,2,none⟩=some (.int .i64 ps)∧w'.cell? ⟨gb,3,none⟩=some (.int .i64 pe)) (by kernel_rfl) (KP9.out _ _ hs) (fun hHeld=> ?_);refine tQ 0 ⟨some 33,.move (.tmp 4),9,_,_,none⟩ ?_;simp only[Act.put,sA,sB,sC];refine tQ 1 ⟨some 34,.binOp .add 9 (.tmp 33) (.const (Value.string {data:= #[116,111,116,97,108,32]})) 9,9,_,_,none⟩ ?_;simp only[Act.put,sA,sB,sC];refine tQ 2 ⟨some 35,.move (.tmp 5),3,_,_,none⟩ ?_;simp only[Act.put,sA,sB,sC];refine tQ 6 ⟨some 39,.move (.tmp 6),3,_,_,none⟩ ?_;simp only[Act.put,sA,sB,sC];refine tQ 10 ⟨some 43,.fieldAddr 63 (.tmp 3) 1,0,_,_,none⟩ ?_;simp only[Act.put,sA,sB,sC];refine tQ 11 ⟨some 44,.load 3 (.tmp 43),3,_,_,none⟩ ?_;simp only[Act.put,sA,sB,sC];refine tQ 12 ⟨some 45,.fieldAddr 63 (.tmp 3) 2,0,_,_,none⟩ ?_;simp only[Act.put,sA,sB,sC];refine tQ 13 ⟨some 46,.load 3 (.tmp 45),3,_,_,none⟩ ?_;simp only[Act.put,sA,sB,sC];refine tQ 14 ⟨some 47,.fieldAddr 63 (.tmp 3) 3,0,_,_,none⟩ ?_;simp only[Act.put,sA,sB,sC];refine tQ 15 ⟨some 48,.load 3 (.tmp 47),3,_,_,none⟩ ?_;simp only[Act.put,sA,sB,sC];refine wpAnyH_ready (rs:=[3]) (by kernel_rfl) (by simp) (AllReadyH.cons (o:=⟨some 36,.call {callee:=.value (.func 9),args:= #[.tmp 35],argTypes:= #[3]},9,_,_,none⟩) rfl (fun KK hK=> ?_) AllReadyH.nil);go_simp;go_at_call 9;with_reducible refine(zBJ X HRP.out d1 HD1.out hs).mono ?_;rintro e wq ⟨rfl,hs⟩;refine hK.out _ _ (KP9.out _ _ hs) (fun hHeld=> ?_);clear hK KK
    try simp only[Act.put,sA,sB,sC]
    refine tQ 4 ⟨some 37,.binOp .add 9 (.tmp 34) (.tmp 36) 9,9,_,_,none⟩ ?_;simp only[Act.put,sA,sB,sC];refine tQ 5 ⟨some 38,.binOp .add 9 (.tmp 37) (.const (Value.string {data:= #[32]})) 9,9,_,_,none⟩ ?_;simp only[Act.put,sA,sB,sC];refine wpAnyH_ready (rs:=[7]) (by kernel_rfl) (by simp) (AllReadyH.cons (o:=⟨some 40,.call {callee:=.value (.func 9),args:= #[.tmp 39],argTypes:= #[3]},9,_,_,none⟩) rfl (fun KK hK=> ?_) AllReadyH.nil);go_simp;go_at_call 9;with_reducible refine(zBJ Y HRQ.out d2 HD2.out hs).mono ?_;rintro e wq ⟨rfl,hs⟩;refine hK.out _ _ (KP9.out _ _ hs) (fun hHeld=> ?_);clear hK KK
    try simp only[Act.put,sA,sB,sC]
    refine tQ 8 ⟨some 41,.binOp .add 9 (.tmp 38) (.tmp 40) 9,9,_,_,none⟩ ?_;simp only[Act.put,sA,sB,sC];refine tQ 9 ⟨some 42,.binOp .add 9 (.tmp 41) (.const (Value.string {data:= #[10]})) 9,9,_,_,none⟩ ?_;simp only[Act.put,sA,sB,sC];refine wpAnyH_ready (rs:=[16]) (by kernel_rfl) (by simp) (AllReadyH.cons (o:=⟨some 49,.call {callee:=.value (.func 34),args:= #[.tmp 44,.tmp 46,.tmp 48],argTypes:= #[3,3,3]},9,_,_,none⟩) rfl (fun KK hK=> ?_) AllReadyH.nil);go_simp;go_at_call 34;with_reducible refine(rr_end (pv:Nat) ps pe HRV.out HRE.out tn HTE.out hs).mono ?_;rintro e wq ⟨rfl,hs⟩;refine hK.out _ _ (KP9.out _ _ hs) (fun hHeld=> ?_);clear hK KK
    try simp only[Act.put,sA,sB,sC]
    refine tQ 17 ⟨some 50,.binOp .add 9 (.tmp 42) (.tmp 49) 9,9,_,_,none⟩ ?_;simp only[Act.put,sA,sB,sC];refine tQ 18 ⟨some 2,.assign (.tmp 50),9,_,_,none⟩ ?_;simp only[Act.put,sA,sB,sC];refine wpAnyH_done (by kernel_rfl) ?_ _;clear hHeld;have H:=hQd hs;clear hs;go_wp2_with fail;go_ret;exact⟨by rw[←HTL2.out];rfl,(H.out.drop).know (Know.has_left (Know.has_refl _))⟩
theorem kcx:Lib.cut [120,10] [10]=([120],[],true):=by decide+kernel
theorem kwx:zD3 [120]=([[120]]:List Bs).map bb:=by decide+kernel
theorem khx:hexV [48]=([],false):=by decide+kernel
variable {W0 w:World}{K:Know}{L:List Res}
theorem zKQ(ws:List Bs)(t tl:Bs)(wb n cap:Nat)(hn:n=ws.length)(hnc:n≤cap)(hl:ws.length≤1000000)(ht:zAT 32 ws=t)(htn:t++[10]=tl)(htl:t.length≤1000000)(hk:K.has (Know.strw wb 0 ws))(h:St W0 w K L):
  Calls Tryz.prog 36 #[.slice (some ⟨wb,0,none⟩) n cap] w fun en w'=>en=.returned (.string (bb tl))∧St W0 w' K L:=by
 have H:=hQd h;have HK:=hQd hk;have HN:=hQd hn;have HNC:=hQd hnc;have HWL:=hQd hl;have HT:=hQd ht;have HTL:=hQd htl;have k1:=nl_cat t tl htn;have g1:¬(9223372036854775807<t.length+1):=by omega
 clear h hk hn hnc hl ht htl htn;go_enter Tryz.func36,Tryz.ntmps36;go_wp2_with (go_at_call 73;(with_reducible refine(zPk ws t wb n cap HN.out HNC.out HWL.out HT.out HTL.out HK.out H.out).mono ?_);rintro e_ wn ⟨rfl,h⟩;replace H:=hQd h;clear h);go_ret;exact⟨rfl,H.out⟩
theorem zC2(ws:List Bs)(t tl:Bs)(wb n:Nat)(cs:Array Value)(hcs:cs=(ws.map fun x=>Value.string (bb x)).toArray)(hn:n=ws.length)(hl:ws.length≤1000000)(ht:zAT 32 ws=t)(htn:t++[10]=tl)(htl:t.length≤1000000){T:TypeId}(h:St W0 w K (.raw wb cs T::L)):
  Calls Tryz.prog 36 #[.slice (some ⟨wb,0,none⟩) n n] w fun en w'=>en=.returned (.string (bb tl))∧St W0 w' K L:=by
 subst hcs;refine(zKQ ws t tl wb n n hn (Nat.le_refl _) hl ht htn htl (Know.has_right (Know.has_refl _)) h.strs).mono ?_;rintro en w' ⟨rfl,h3⟩;exact⟨rfl,h3.know (Know.has_left (Know.has_refl _))⟩
theorem zHw(ws:List Bs)(t tl:Bs)(wb n cv:Nat)(cs:List Value)(hcs:cs=ws.flatMap zKM)(hn:n=ws.length)(h0:0<n)(hl:ws.length≤1000000)(ht:zAT 32 ws=t)(htn:t++[10]=tl)(htl:t.length≤1000000)(h:St W0 w K (.row (.slice (some ⟨wb,0,none⟩) n cv) 9 1 n cs::L)):
  Calls Tryz.prog 36 #[.slice (some ⟨wb,0,none⟩) n cv] w fun en w'=>en=.returned (.string (bb tl))∧St W0 w' K L:=by
 subst hcs hn;obtain⟨wb3,cv3,hv3,hle3,h10⟩:=h.rowStrs h0;injection hv3 with hv4 hv5 hv6;injection hv4 with hv4;injection hv4 with hv4;subst hv4 hv6;refine(zKQ ws t tl wb ws.length cv rfl hle3 hl ht htn htl (Know.has_right (Know.has_refl _)) h10).mono ?_;rintro en w' ⟨rfl,h3⟩;exact⟨rfl,h3.know (Know.has_left (Know.has_refl _))⟩
variable {W0 w:World}{K:Know}{L:List Res}
theorem zPx(V e:Int)(st:Int)(hst:st=0)(hV:Rn V)(he:Rn e)(tl:Bs)(htl:zAT 32 [[118,97,108,105,100],numW V,[99,108,101,97,110]]++[10]=tl)(hlib:K.has Know.lib)(h:St W0 w K L):
  Calls Tryz.prog 79 #[.agg #[.int .i64 V,.int .i64 st,.int .i64 e]] w fun en w'=>en=.returned (.string (bb tl))∧St W0 w' K L:=by
 obtain⟨rb,hrb⟩:∃b,w.heap.size=b:=⟨_,rfl⟩;have g1:=h.allocRaw #[.int .i64 V,.int .i64 st,.int .i64 e] 112;rw[hrb]at g1;have z0:=(g1).rawCell 0;have z1:=(g1).rawCell 1;have z2:=(g1).rawCell 2;simp at z0 z1 z2;have H:=hQd g1;have HLIB:=hQd hlib;have HVR:=hQd hV;have HER:=hQd he;obtain⟨d2,hd2⟩:∃t,numW V=t:=⟨_,rfl⟩;obtain⟨d4,hd4⟩:∃t,numW e=t:=⟨_,rfl⟩;obtain⟨t,ht⟩:∃t,zAT 32 [[118,97,108,105,100],d2,[99,108,101,97,110]]=t:=⟨_,rfl⟩;have n2:=zAp V hV;have n4:=zAp e he;have HT:=hQd ht;have HTN:=hQd (show t++[10]=tl by rw[←ht,←htl,←hd2]);have HTL:=hQd (show t.length≤1000000 by rw[←ht];simp only[zAT,List.length_append,List.length_cons,List.length_nil];rw[hd2]at n2;rw[hd4]at n4;omega);have HWL:=hQd (show([[118,97,108,105,100],d2,[99,108,101,97,110]]:List Bs).length≤1000000 by simp);have HD2:=hQd hd2;have HD4:=hQd hd4;subst hst;have t1:True:=trivial;have e1:((0:Int)==0)=true:=rfl;clear h g1 hlib hV he hd2 hd4 ht htl n2 n4;go_enter Tryz.func79,Tryz.ntmps79
 go_wp2_with (first
  |(go_at_call 37;have _t:=t1;clear _t;(with_reducible refine(zBw V HVR.out d2 HD2.out HLIB.out H.out).mono ?_);rintro e_ wn ⟨rfl,h⟩;have z0:=h.rawCell 0;have z1:=h.rawCell 1;have z2:=h.rawCell 2;simp at z0 z1 z2;replace H:=hQd h;clear h;clear t1)
  |(go_at_call 36;have h0:=H.out.allocRaw #[.string ⟨#[118,97,108,105,100]⟩,.string (bb d2),.string ⟨#[99,108,101,97,110]⟩] 9;(with_reducible refine(zC2 [[118,97,108,105,100],d2,[99,108,101,97,110]] t tl _ 3 _ rfl rfl HWL.out HT.out HTN.out HTL.out h0).mono ?_);rintro e_ wn ⟨rfl,h⟩;replace H:=hQd h;clear h))
 go_ret;exact⟨rfl,H.out.drop⟩
theorem zPw(V e:Int)(st:Int)(hst:st=1)(hV:Rn V)(he:Rn e)(tl:Bs)(htl:zAT 32 [[118,97,108,105,100],numW V,[116,111,114,110]]++[10]=tl)(hlib:K.has Know.lib)(h:St W0 w K L):
  Calls Tryz.prog 79 #[.agg #[.int .i64 V,.int .i64 st,.int .i64 e]] w fun en w'=>en=.returned (.string (bb tl))∧St W0 w' K L:=by
 obtain⟨rb,hrb⟩:∃b,w.heap.size=b:=⟨_,rfl⟩;have g1:=h.allocRaw #[.int .i64 V,.int .i64 st,.int .i64 e] 112;rw[hrb]at g1;have z0:=(g1).rawCell 0;have z1:=(g1).rawCell 1;have z2:=(g1).rawCell 2;simp at z0 z1 z2;have H:=hQd g1;have HLIB:=hQd hlib;have HVR:=hQd hV;have HER:=hQd he;obtain⟨d2,hd2⟩:∃t,numW V=t:=⟨_,rfl⟩;obtain⟨d4,hd4⟩:∃t,numW e=t:=⟨_,rfl⟩;obtain⟨t,ht⟩:∃t,zAT 32 [[118,97,108,105,100],d2,[116,111,114,110]]=t:=⟨_,rfl⟩;have n2:=zAp V hV;have n4:=zAp e he;have HT:=hQd ht;have HTN:=hQd (show t++[10]=tl by rw[←ht,←htl,←hd2]);have HTL:=hQd (show t.length≤1000000 by rw[←ht];simp only[zAT,List.length_append,List.length_cons,List.length_nil];rw[hd2]at n2;rw[hd4]at n4;omega);have HWL:=hQd (show([[118,97,108,105,100],d2,[116,111,114,110]]:List Bs).length≤1000000 by simp);have HD2:=hQd hd2;have HD4:=hQd hd4;subst hst;have t1:True:=trivial;have e1:((1:Int)==0)=false:=rfl;have e2:((1:Int)==1)=true:=rfl;clear h g1 hlib hV he hd2 hd4 ht htl n2 n4;go_enter Tryz.func79,Tryz.ntmps79
 go_wp2_with (first
  |(go_at_call 37;have _t:=t1;clear _t;(with_reducible refine(zBw V HVR.out d2 HD2.out HLIB.out H.out).mono ?_);rintro e_ wn ⟨rfl,h⟩;have z0:=h.rawCell 0;have z1:=h.rawCell 1;have z2:=h.rawCell 2;simp at z0 z1 z2;replace H:=hQd h;clear h;clear t1)
  |(go_at_call 36;have h0:=H.out.allocRaw #[.string ⟨#[118,97,108,105,100]⟩,.string (bb d2),.string ⟨#[116,111,114,110]⟩] 9;(with_reducible refine(zC2 [[118,97,108,105,100],d2,[116,111,114,110]] t tl _ 3 _ rfl rfl HWL.out HT.out HTN.out HTL.out h0).mono ?_);rintro e_ wn ⟨rfl,h⟩;replace H:=hQd h;clear h))
 go_ret;exact⟨rfl,H.out.drop⟩
theorem zPv(V e:Int)(st:Int)(hs0:¬st=0)(hs1:¬st=1)(hV:Rn V)(he:Rn e)(tl:Bs)(htl:zAT 32 [[118,97,108,105,100],numW V,[98,97,100],numW e]++[10]=tl)(hlib:K.has Know.lib)(h:St W0 w K L):
  Calls Tryz.prog 79 #[.agg #[.int .i64 V,.int .i64 st,.int .i64 e]] w fun en w'=>en=.returned (.string (bb tl))∧St W0 w' K L:=by
 obtain⟨rb,hrb⟩:∃b,w.heap.size=b:=⟨_,rfl⟩;have g1:=h.allocRaw #[.int .i64 V,.int .i64 st,.int .i64 e] 112;rw[hrb]at g1;have z0:=(g1).rawCell 0;have z1:=(g1).rawCell 1;have z2:=(g1).rawCell 2;simp at z0 z1 z2;have H:=hQd g1;have HLIB:=hQd hlib;have HVR:=hQd hV;have HER:=hQd he;obtain⟨d2,hd2⟩:∃t,numW V=t:=⟨_,rfl⟩;obtain⟨d4,hd4⟩:∃t,numW e=t:=⟨_,rfl⟩;obtain⟨t,ht⟩:∃t,zAT 32 [[118,97,108,105,100],d2,[98,97,100],d4]=t:=⟨_,rfl⟩;have n2:=zAp V hV;have n4:=zAp e he;have HT:=hQd ht;have HTN:=hQd (show t++[10]=tl by rw[←ht,←htl,←hd2,←hd4]);have HTL:=hQd (show t.length≤1000000 by rw[←ht];simp only[zAT,List.length_append,List.length_cons,List.length_nil];rw[hd2]at n2;rw[hd4]at n4;omega);have HWL:=hQd (show([[118,97,108,105,100],d2,[98,97,100],d4]:List Bs).length≤1000000 by simp);have HD2:=hQd hd2;have HD4:=hQd hd4;have t1:True:=trivial;have e1:(st==0)=false:=by rw[beq_eq_false_iff_ne];exact hs0
 have e2:(st==1)=false:=by rw[beq_eq_false_iff_ne];exact hs1
 clear h g1 hlib hV he hd2 hd4 ht htl n2 n4 hs0 hs1;go_enter Tryz.func79,Tryz.ntmps79
 go_wp2_with (first
  |(go_at_call 37;have _t:=t1;clear _t;(with_reducible refine(zBw V HVR.out d2 HD2.out HLIB.out H.out).mono ?_);rintro e_ wn ⟨rfl,h⟩;have z0:=h.rawCell 0;have z1:=h.rawCell 1;have z2:=h.rawCell 2;simp at z0 z1 z2;replace H:=hQd h;clear h;clear t1)
  |(go_at_call 37;(with_reducible refine(zBw e HER.out d4 HD4.out HLIB.out H.out).mono ?_);rintro e_ wn ⟨rfl,h⟩;replace H:=hQd h;clear h)
  |(go_at_call 36;have h0:=H.out.allocRaw #[.string ⟨#[118,97,108,105,100]⟩,.string (bb d2),.string ⟨#[98,97,100]⟩,.string (bb d4)] 9;(with_reducible refine(zC2 [[118,97,108,105,100],d2,[98,97,100],d4] t tl _ 4 _ rfl rfl HWL.out HT.out HTN.out HTL.out h0).mono ?_);rintro e_ wn ⟨rfl,h⟩;replace H:=hQd h;clear h))
 go_ret;exact⟨rfl,H.out.drop⟩
theorem rp_end(V st e:Int)(hV:Rn V)(he:Rn e)(tl:Bs)(htl:endT V st e=tl)(hlib:K.has Know.lib)(h:St W0 w K L):
   Calls Tryz.prog 79 #[.agg #[.int .i64 V,.int .i64 st,.int .i64 e]] w fun en w'=>en=.returned (.string (bb tl))∧St W0 w' K L:=by
 unfold endT endW at htl
 by_cases h0:st=0
 · rw[if_pos h0]at htl;exact zPx V e st h0 hV he tl htl hlib h
 by_cases h1:st=1
 · rw[if_neg h0,if_pos h1]at htl;exact zPw V e st h1 hV he tl htl hlib h
 · rw[if_neg h0,if_neg h1]at htl;exact zPv V e st h0 h1 hV he tl htl hlib h
end Go.Proofs.YtenojajfacacoaaGreatDoor
