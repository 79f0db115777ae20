/- A text. -/
import Derived.Test.YtenojajfacacoaaGreatDoorGReportRawsCard7
import Derived.Test.YtenojajfacacoaaGreatDoorGReportRawsCard10
import Derived.Test.YtenojajfacacoaaGreatDoorGReportRawsCard4
import Derived.Test.YtenojajfacacoaaGreatDoorGReportRawsCard6
import Derived.RegionTactic
import Derived.Deep.RegionHeld3
import Derived.Deep.DeepCutAuto
import Derived.ScopeJumps
import Derived.Test.YtenojajfacacoaaGreatDoorGReportRawsCard3
import Derived.Test.YtenojajfacacoaaGreatDoorGReportRawsCard8
import Derived.Test.YtenojajfacacoaaGreatDoorGReportRawsCard5
import Derived.Test.YtenojajfacacoaaGreatDoorGReportRawsCard2
/- A text. -/
namespace Go.Proofs.YtenojajfacacoaaGreatDoor
open Go.RowKit
set_option maxHeartbeats 4000000
set_option maxRecDepth 100000
variable {W0 w:World}{K:Know}{L:List Res}
theorem asm_ok(said rows:Bs)(base ln leader sm at_ last first maxt prod epoch sq:Int)(cnt:Nat)(x:Nat)(hx:(zAq 0#32 (said.drop 21++rows)).toNat=x)(hs1:21≤said.length)(hs2:said.length≤140737488355328)(hs3:rows.length≤140737488355328)(h0:(x:Int)=sm)(hat:chk at_=0)(har:R64 at_)(hcn:cnt≤2147483647)(hr1:rows.length≤1000000)(hmx:first≤9223372036854775807)(rs:List RecS)(hu:unp cnt ⟨rows,0,0⟩=.ok rs)(hbe:zAA (⟨base,leader,zAf at_ 3,zAf at_ 4,zAf at_ 5,last,first,maxt,prod,epoch,sq,rs⟩:BatS)=0)(h:St W0 w K L):
  Calls Tryz.prog 189 #[.agg #[.int .i64 base,.int .i64 ln,.int .i64 leader,.int .i64 sm,.int .i64 at_,.int .i64 last,.int .i64 first,.int .i64 maxt,.int .i64 prod,.int .i64 epoch,.int .i64 sq,.int .i64 cnt],.string (bb said),.string (bb rows)] w fun en w'=>∃(q:Option Addr) (l:List (RecS×Value)) (cap:Nat),en=.returned (.tuple #[.agg #[.int .i64 base,.int .i64 leader,.bool (zAf at_ 3),.bool (zAf at_ 4),.bool (zAf at_ 5),.int .i64 last,.int .i64 first,.int .i64 maxt,.int .i64 prod,.int .i64 epoch,.int .i64 sq,.slice q l.length cap],.int .i64 0])∧l.map (·.1)=rs∧St W0 w' (K.and (Know.recs (.slice q l.length cap) l)) L:=by
 have gs:((x:Int)==sm)=true:=by rw[h0];exact beq_self_eq_true _
 have gs2:((x:Int) !=sm)=false:=by simp[bne,gs]
 clear h0;have HAT:=hQd hat;have HAR:=hQd har;have HCN:=hQd hcn;have HU:=hQd hu;have HR1:=hQd hr1;have HMX:=hQd hmx;have HB0:=hQd hbe;clear hat har hcn hu hr1 hmx hbe;have g1:=h.allocRaw #[.int .i64 base,.int .i64 ln,.int .i64 leader,.int .i64 sm,.int .i64 at_,.int .i64 last,.int .i64 first,.int .i64 maxt,.int .i64 prod,.int .i64 epoch,.int .i64 sq,.int .i64 cnt] 130;have g2:=g1.allocRaw #[.int .i64 0,.int .i64 0,.bool false,.bool false,.bool false,.int .i64 0,.int .i64 0,.int .i64 0,.int .i64 0,.int .i64 0,.int .i64 0,.slice none 0 0] 30;obtain⟨pb,hpb⟩:∃b,w.heap.size=b:=⟨_,rfl⟩;obtain⟨rb,hrb⟩:∃b,pb+1=b:=⟨_,rfl⟩;simp only[World.size_alloc,hpb,hrb]at g2;have H:=hQd g2;have HX:=hQd hx;have HS1:=hQd hs1;have HS2:=hQd hs2;have HS3:=hQd hs3;clear h g1 g2 hx hs1 hs2 hs3;go_enter Tryz.func189,Tryz.ntmps189;go_upto_region 1 with (fail);have hs:=H.out.drew;refine wp_region_held_drew (S:=fun w'=>w'.cell? ⟨pb,0,none⟩=some (.int .i64 base)∧w'.cell? ⟨pb,1,none⟩=some (.int .i64 ln)∧w'.cell? ⟨pb,2,none⟩=some (.int .i64 leader)∧w'.cell? ⟨pb,3,none⟩=some (.int .i64 sm)∧w'.cell? ⟨pb,4,none⟩=some (.int .i64 at_)∧w'.cell? ⟨pb,5,none⟩=some (.int .i64 last)∧w'.cell? ⟨pb,6,none⟩=some (.int .i64 first)∧w'.cell? ⟨pb,7,none⟩=some (.int .i64 maxt)∧w'.cell? ⟨pb,8,none⟩=some (.int .i64 prod)∧w'.cell? ⟨pb,9,none⟩=some (.int .i64 epoch)∧w'.cell? ⟨pb,10,none⟩=some (.int .i64 sq)∧w'.cell? ⟨pb,11,none⟩=some (.int .i64 cnt)) (by kernel_rfl) (let ⟨x0,x1,x2,x3,x4,x5,x6,x7,x8,x9,x10,x11,_⟩:=zAc (b:=pb) (hs.p1);⟨x0,x1,x2,x3,x4,x5,x6,x7,x8,x9,x10,x11⟩) (fun hHeld=> ?_);refine tQ 0 ⟨some 12,.move (.tmp 1),9,_,_,none⟩ ?_;simp only[Act.put,sA,sB,sC];refine tQ 1 ⟨some 13,.move (.tmp 2),9,_,_,none⟩ ?_;simp only[Act.put,sA,sB,sC];refine tQ 3 ⟨some 15,.fieldAddr 130 (.tmp 3) 3,0,_,_,none⟩ ?_;simp only[Act.put,sA,sB,sC];refine tQ 4 ⟨some 16,.load 3 (.tmp 15),3,_,_,none⟩ ?_;simp only[Act.put,sA,sB,sC];refine wpAnyH_ready (rs:=[2]) (by kernel_rfl) (by simp) (AllReadyH.cons (o:=⟨some 14,.call {callee:=.value (.func 88),args:= #[.tmp 12,.tmp 13],argTypes:= #[9,9]},3,_,_,none⟩) rfl (fun KK hK=> ?_) AllReadyH.nil);go_simp;go_at_call 88;with_reducible refine(zEw said rows x HX.out HS1.out HS2.out HS3.out hs).mono ?_;rintro e wq ⟨rfl,hs⟩;refine hK.out _ _ (let ⟨x0,x1,x2,x3,x4,x5,x6,x7,x8,x9,x10,x11,_⟩:=zAc (b:=pb) (hs.p1);⟨x0,x1,x2,x3,x4,x5,x6,x7,x8,x9,x10,x11⟩) (fun hHeld=> ?_);clear hK KK
 try simp only[Act.put,sA,sB,sC]
 refine tQ 5 ⟨some 17,.binOp .neq 3 (.tmp 14) (.tmp 16) 3,4,_,_,none⟩ ?_;simp only[Act.put,sA,sB,sC];refine wpAnyH_done (by kernel_rfl) ?_ _;clear hHeld;have H:=hQd hs;clear hs;obtain⟨p0,p1,p2,p3,p4,p5,p6,p7,p8,p9,p10,p11,u0,u1,u2,u3,u4,u5,u6,u7,u8,u9,u10,u11⟩:=zAc (b:=rb) (H.out);obtain⟨x0,x1,x2,x3,x4,x5,x6,x7,x8,x9,x10,x11,y0,y1,y2,y3,y4,y5,y6,y7,y8,y9,y10,y11⟩:=zAc (b:=pb) ((H.out).p1)
 go_upto_region 11 with (first
 |(go_at_call 199;(with_reducible refine(zCz at_ 0 HAT.out HAR.out H.out).mono ?_);rintro e_ wn ⟨rfl,h⟩;replace H:=hQd h;clear h;obtain⟨p0,p1,p2,p3,p4,p5,p6,p7,p8,p9,p10,p11,u0,u1,u2,u3,u4,u5,u6,u7,u8,u9,u10,u11⟩:=zAc (b:=rb) (H.out);obtain⟨x0,x1,x2,x3,x4,x5,x6,x7,x8,x9,x10,x11,y0,y1,y2,y3,y4,y5,y6,y7,y8,y9,y10,y11⟩:=zAc (b:=pb) ((H.out).p1))
 |(go_at_call 200;(with_reducible refine(zDR rows cnt HCN.out HS3.out rs HU.out H.out).mono ?_);rintro e_ wn ⟨rv,l,rfl,hlr,h⟩;obtain⟨q,cap,hrv⟩:=zIu (Know.has_right (Know.has_refl _)) h;subst hrv;obtain⟨hff,hfl⟩:=zET HU.out hlr HR1.out;have HFT:=hQd hff;have HLL:=hQd hfl;have HLR:=hQd hlr;clear hff hfl hlr;obtain⟨p0,p1,p2,p3,p4,p5,p6,p7,p8,p9,p10,p11,u0,u1,u2,u3,u4,u5,u6,u7,u8,u9,u10,u11⟩:=zAc (b:=rb) (h);obtain⟨x0,x1,x2,x3,x4,x5,x6,x7,x8,x9,x10,x11,y0,y1,y2,y3,y4,y5,y6,y7,y8,y9,y10,y11⟩:=zAc (b:=pb) ((h).p1);have h:=h.allocRaw #[.int .i64 base,.int .i64 leader,.bool false,.bool false,.bool false,.int .i64 last,.int .i64 first,.int .i64 maxt,.int .i64 prod,.int .i64 epoch,.int .i64 sq,.slice q l.length cap] 30;obtain⟨bB,hbB⟩:∃b,wn.heap.size=b:=⟨_,rfl⟩;rw[hbB]at h;obtain⟨x0,x1,x2,x3,x4,x5,x6,x7,x8,x9,x10,x11,y0,y1,y2,y3,y4,y5,y6,y7,y8,y9,y10,y11⟩:=zAc (b:=pb) (h.p2);obtain⟨a0,a1,a2,a3,a4,a5,a6,a7,a8,a9,a10,a11,f0,f1,f2,f3,f4,f5,f6,f7,f8,f9,f10,f11⟩:=zAc (b:=bB) (h);replace H:=hQd h;clear h)
 |(go_at_call 201;(with_reducible refine(zG7 at_ H.out).mono ?_);rintro e_ wn ⟨rfl,h⟩;obtain⟨a0,a1,a2,a3,a4,a5,a6,a7,a8,a9,a10,a11,f0,f1,f2,f3,f4,f5,f6,f7,f8,f9,f10,f11⟩:=zAc (b:=bB) (h);replace H:=hQd h;clear h))
 have HBE:=hQd (show zAA ⟨base,leader,zAf at_ 3,zAf at_ 4,zAf at_ 5,last,first,maxt,prod,epoch,sq,l.map (·.1)⟩=0 by rw[HLR.out];exact HB0.out);have hs:St W0 _ _ (.raw bB #[.int .i64 base,.int .i64 leader,.bool (zAf at_ 3),.bool (zAf at_ 4),.bool (zAf at_ 5),.int .i64 last,.int .i64 first,.int .i64 maxt,.int .i64 prod,.int .i64 epoch,.int .i64 sq,.slice q l.length cap] 30::_):=((H.out.rawSet 2 (.bool (zAf at_ 3))).rawSet 3 (.bool (zAf at_ 4))).rawSet 4 (.bool (zAf at_ 5));have hs:=hs.drew;clear x0 y0 a0 f0 x1 y1 a1 f1 x2 y2 a2 f2 x3 y3 a3 f3 x4 y4 a4 f4 x5 y5 a5 f5 x6 y6 a6 f6 x7 y7 a7 f7 x8 y8 a8 f8 x9 y9 a9 f9 x10 y10 a10 f10 x11 y11 a11 f11;refine wp_region_held_drew (S:=fun w'=>w'.cell? ⟨bB,0,none⟩=some (.int .i64 base)∧w'.cell? ⟨bB,1,none⟩=some (.int .i64 leader)∧w'.cell? ⟨bB,2,none⟩=some (.bool (zAf at_ 3))∧w'.cell? ⟨bB,3,none⟩=some (.bool (zAf at_ 4))∧w'.cell? ⟨bB,4,none⟩=some (.bool (zAf at_ 5))∧w'.cell? ⟨bB,5,none⟩=some (.int .i64 last)∧w'.cell? ⟨bB,6,none⟩=some (.int .i64 first)∧w'.cell? ⟨bB,7,none⟩=some (.int .i64 maxt)∧w'.cell? ⟨bB,8,none⟩=some (.int .i64 prod)∧w'.cell? ⟨bB,9,none⟩=some (.int .i64 epoch)∧w'.cell? ⟨bB,10,none⟩=some (.int .i64 sq)∧w'.cell? ⟨bB,11,none⟩=some (.slice q l.length cap)) (by kernel_rfl) (let ⟨x0,x1,x2,x3,x4,x5,x6,x7,x8,x9,x10,x11,_⟩:=zAc (b:=bB) (hs);⟨x0,x1,x2,x3,x4,x5,x6,x7,x8,x9,x10,x11⟩) (fun hHeld=> ?_);refine tQ 0 ⟨some 65,.load 30 (.tmp 11),30,_,_,none⟩ ?_;simp only[Act.put,sA,sB,sC];refine tQ 1 ⟨some 66,.load 30 (.tmp 11),30,_,_,none⟩ ?_;simp only[Act.put,sA,sB,sC];refine wpAnyH_ready (rs:=[2]) (by kernel_rfl) (by simp) (AllReadyH.cons (o:=⟨some 67,.call {callee:=.value (.func 35),args:= #[.tmp 66],argTypes:= #[30]},44,_,_,none⟩) rfl (fun KK hK=> ?_) AllReadyH.nil);go_simp;go_at_call 35;with_reducible refine(zCR base leader (zAf at_ 3) (zAf at_ 4) (zAf at_ 5) last first maxt prod epoch sq l q cap 0 HBE.out HMX.out HFT.out HLL.out (Know.has_right (Know.has_refl _)) hs).mono ?_;rintro e wq ⟨rfl,hs⟩;refine hK.out _ _ (let ⟨x0,x1,x2,x3,x4,x5,x6,x7,x8,x9,x10,x11,_⟩:=zAc (b:=bB) (hs);⟨x0,x1,x2,x3,x4,x5,x6,x7,x8,x9,x10,x11⟩) (fun hHeld=> ?_);clear hK KK
 try simp only[Act.put,sA,sB,sC]
 refine wpAnyH_ready (rs:=[3]) (by kernel_rfl) (by simp) (AllReadyH.cons (o:=⟨none,.store 30 (.tmp 6) (.tmp 65),0,_,_,none⟩) rfl (fun KK hK=> ?_) AllReadyH.nil);have hs:=hs.p1;rw[if_pos (by rfl)];refine wp_store_mid 30 (.tmp 6) (.tmp 65) rfl rb 0 #[.int .i64 base,.int .i64 leader,.bool (zAf at_ 3),.bool (zAf at_ 4),.bool (zAf at_ 5),.int .i64 last,.int .i64 first,.int .i64 maxt,.int .i64 prod,.int .i64 epoch,.int .i64 sq,.slice q l.length cap] (by rfl) (by rfl) hs.there (by kernel_rfl) (by simp[Value.oneCell']) ?_;obtain⟨wz,ez,hs⟩:=hs.storeEx #[.int .i64 base,.int .i64 leader,.bool (zAf at_ 3),.bool (zAf at_ 4),.bool (zAf at_ 5),.int .i64 last,.int .i64 first,.int .i64 maxt,.int .i64 prod,.int .i64 epoch,.int .i64 sq,.slice q l.length cap];rw[ez];clear ez;refine hK.out _ _ (let ⟨x0,x1,x2,x3,x4,x5,x6,x7,x8,x9,x10,x11,_⟩:=zAc (b:=bB) (hs.p1);⟨x0,x1,x2,x3,x4,x5,x6,x7,x8,x9,x10,x11⟩) (fun hHeld=> ?_);clear hK KK
 try simp only[Act.put,sA,sB,sC]
 refine tQ 4 ⟨some 7,.assign (.tmp 67),44,_,_,none⟩ ?_;simp only[Act.put,sA,sB,sC];refine wpAnyH_done (by kernel_rfl) ?_ _;clear hHeld;rw[zD5]at hs;rotate_left
 · rfl
 have hz:St W0 _ _ (.raw rb #[.int .i64 base,.int .i64 leader,.bool (zAf at_ 3),.bool (zAf at_ 4),.bool (zAf at_ 5),.int .i64 last,.int .i64 first,.int .i64 maxt,.int .i64 prod,.int .i64 epoch,.int .i64 sq,.slice q l.length cap] 30::_):=hs;go_wp2_with fail;refine bodyPost_ret (zBa rfl _ _ rb [.int .i64 base,.int .i64 leader,.bool (zAf at_ 3),.bool (zAf at_ 4),.bool (zAf at_ 5),.int .i64 last,.int .i64 first,.int .i64 maxt,.int .i64 prod,.int .i64 epoch,.int .i64 sq,.slice q l.length cap] _ rfl (zAp hz) Tryz.underlying30 rfl (by kernel_rfl)) rfl ?_;exact⟨q,l,cap,rfl,HLR.out,hz.drop.drop.drop⟩
theorem zQe(said rows:Bs)(base ln leader sm at_ last first maxt prod epoch sq:Int)(cnt:Nat)(x:Nat)(hx:(zAq 0#32 (said.drop 21++rows)).toNat=x)(hs1:21≤said.length)(hs2:said.length≤140737488355328)(hs3:rows.length≤140737488355328)(h0:(x:Int)=sm)(hat:chk at_=0)(har:R64 at_)(hcn:cnt≤2147483647)(hr1:rows.length≤1000000)(hmx:first≤9223372036854775807)(rs:List RecS)(hu:unp cnt ⟨rows,0,0⟩=.ok rs)(e:Int)(hbe:zAA (⟨base,leader,zAf at_ 3,zAf at_ 4,zAf at_ 5,last,first,maxt,prod,epoch,sq,rs⟩:BatS)=e)(h:St W0 w K L):
  Calls Tryz.prog 189 #[.agg #[.int .i64 base,.int .i64 ln,.int .i64 leader,.int .i64 sm,.int .i64 at_,.int .i64 last,.int .i64 first,.int .i64 maxt,.int .i64 prod,.int .i64 epoch,.int .i64 sq,.int .i64 cnt],.string (bb said),.string (bb rows)] w fun en w'=>∃(l:List (RecS×Value)) (q:Option Addr) (cap:Nat),en=.returned (.tuple #[.agg #[.int .i64 base,.int .i64 leader,.bool (zAf at_ 3),.bool (zAf at_ 4),.bool (zAf at_ 5),.int .i64 last,.int .i64 first,.int .i64 maxt,.int .i64 prod,.int .i64 epoch,.int .i64 sq,.slice q l.length cap],.int .i64 e])∧St W0 w' K L:=by
 have gs:((x:Int)==sm)=true:=by rw[h0];exact beq_self_eq_true _
 have gs2:((x:Int) !=sm)=false:=by simp[bne,gs]
 clear h0;have HAT:=hQd hat;have HAR:=hQd har;have HCN:=hQd hcn;have HU:=hQd hu;have HR1:=hQd hr1;have HMX:=hQd hmx;have HB0:=hQd hbe;clear hat har hcn hu hr1 hmx hbe;have g1:=h.allocRaw #[.int .i64 base,.int .i64 ln,.int .i64 leader,.int .i64 sm,.int .i64 at_,.int .i64 last,.int .i64 first,.int .i64 maxt,.int .i64 prod,.int .i64 epoch,.int .i64 sq,.int .i64 cnt] 130;have g2:=g1.allocRaw #[.int .i64 0,.int .i64 0,.bool false,.bool false,.bool false,.int .i64 0,.int .i64 0,.int .i64 0,.int .i64 0,.int .i64 0,.int .i64 0,.slice none 0 0] 30;obtain⟨pb,hpb⟩:∃b,w.heap.size=b:=⟨_,rfl⟩;obtain⟨rb,hrb⟩:∃b,pb+1=b:=⟨_,rfl⟩;simp only[World.size_alloc,hpb,hrb]at g2;have H:=hQd g2;have HX:=hQd hx;have HS1:=hQd hs1;have HS2:=hQd hs2;have HS3:=hQd hs3;clear h g1 g2 hx hs1 hs2 hs3;go_enter Tryz.func189,Tryz.ntmps189;go_upto_region 1 with (fail);have hs:=H.out.drew;refine wp_region_held_drew (S:=fun w'=>w'.cell? ⟨pb,0,none⟩=some (.int .i64 base)∧w'.cell? ⟨pb,1,none⟩=some (.int .i64 ln)∧w'.cell? ⟨pb,2,none⟩=some (.int .i64 leader)∧w'.cell? ⟨pb,3,none⟩=some (.int .i64 sm)∧w'.cell? ⟨pb,4,none⟩=some (.int .i64 at_)∧w'.cell? ⟨pb,5,none⟩=some (.int .i64 last)∧w'.cell? ⟨pb,6,none⟩=some (.int .i64 first)∧w'.cell? ⟨pb,7,none⟩=some (.int .i64 maxt)∧w'.cell? ⟨pb,8,none⟩=some (.int .i64 prod)∧w'.cell? ⟨pb,9,none⟩=some (.int .i64 epoch)∧w'.cell? ⟨pb,10,none⟩=some (.int .i64 sq)∧w'.cell? ⟨pb,11,none⟩=some (.int .i64 cnt)) (by kernel_rfl) (let ⟨x0,x1,x2,x3,x4,x5,x6,x7,x8,x9,x10,x11,_⟩:=zAc (b:=pb) (hs.p1);⟨x0,x1,x2,x3,x4,x5,x6,x7,x8,x9,x10,x11⟩) (fun hHeld=> ?_);refine tQ 0 ⟨some 12,.move (.tmp 1),9,_,_,none⟩ ?_;simp only[Act.put,sA,sB,sC];refine tQ 1 ⟨some 13,.move (.tmp 2),9,_,_,none⟩ ?_;simp only[Act.put,sA,sB,sC];refine tQ 3 ⟨some 15,.fieldAddr 130 (.tmp 3) 3,0,_,_,none⟩ ?_;simp only[Act.put,sA,sB,sC];refine tQ 4 ⟨some 16,.load 3 (.tmp 15),3,_,_,none⟩ ?_;simp only[Act.put,sA,sB,sC];refine wpAnyH_ready (rs:=[2]) (by kernel_rfl) (by simp) (AllReadyH.cons (o:=⟨some 14,.call {callee:=.value (.func 88),args:= #[.tmp 12,.tmp 13],argTypes:= #[9,9]},3,_,_,none⟩) rfl (fun KK hK=> ?_) AllReadyH.nil);go_simp;go_at_call 88;with_reducible refine(zEw said rows x HX.out HS1.out HS2.out HS3.out hs).mono ?_;rintro e wq ⟨rfl,hs⟩;refine hK.out _ _ (let ⟨x0,x1,x2,x3,x4,x5,x6,x7,x8,x9,x10,x11,_⟩:=zAc (b:=pb) (hs.p1);⟨x0,x1,x2,x3,x4,x5,x6,x7,x8,x9,x10,x11⟩) (fun hHeld=> ?_);clear hK KK
 try simp only[Act.put,sA,sB,sC]
 refine tQ 5 ⟨some 17,.binOp .neq 3 (.tmp 14) (.tmp 16) 3,4,_,_,none⟩ ?_;simp only[Act.put,sA,sB,sC];refine wpAnyH_done (by kernel_rfl) ?_ _;clear hHeld;have H:=hQd hs;clear hs;obtain⟨p0,p1,p2,p3,p4,p5,p6,p7,p8,p9,p10,p11,u0,u1,u2,u3,u4,u5,u6,u7,u8,u9,u10,u11⟩:=zAc (b:=rb) (H.out);obtain⟨x0,x1,x2,x3,x4,x5,x6,x7,x8,x9,x10,x11,y0,y1,y2,y3,y4,y5,y6,y7,y8,y9,y10,y11⟩:=zAc (b:=pb) ((H.out).p1)
 go_upto_region 11 with (first
 |(go_at_call 199;(with_reducible refine(zCz at_ 0 HAT.out HAR.out H.out).mono ?_);rintro e_ wn ⟨rfl,h⟩;replace H:=hQd h;clear h;obtain⟨p0,p1,p2,p3,p4,p5,p6,p7,p8,p9,p10,p11,u0,u1,u2,u3,u4,u5,u6,u7,u8,u9,u10,u11⟩:=zAc (b:=rb) (H.out);obtain⟨x0,x1,x2,x3,x4,x5,x6,x7,x8,x9,x10,x11,y0,y1,y2,y3,y4,y5,y6,y7,y8,y9,y10,y11⟩:=zAc (b:=pb) ((H.out).p1))
 |(go_at_call 200;(with_reducible refine(zDR rows cnt HCN.out HS3.out rs HU.out H.out).mono ?_);rintro e_ wn ⟨rv,l,rfl,hlr,h⟩;obtain⟨q,cap,hrv⟩:=zIu (Know.has_right (Know.has_refl _)) h;subst hrv;obtain⟨hff,hfl⟩:=zET HU.out hlr HR1.out;have HFT:=hQd hff;have HLL:=hQd hfl;have HLR:=hQd hlr;clear hff hfl hlr;obtain⟨p0,p1,p2,p3,p4,p5,p6,p7,p8,p9,p10,p11,u0,u1,u2,u3,u4,u5,u6,u7,u8,u9,u10,u11⟩:=zAc (b:=rb) (h);obtain⟨x0,x1,x2,x3,x4,x5,x6,x7,x8,x9,x10,x11,y0,y1,y2,y3,y4,y5,y6,y7,y8,y9,y10,y11⟩:=zAc (b:=pb) ((h).p1);have h:=h.allocRaw #[.int .i64 base,.int .i64 leader,.bool false,.bool false,.bool false,.int .i64 last,.int .i64 first,.int .i64 maxt,.int .i64 prod,.int .i64 epoch,.int .i64 sq,.slice q l.length cap] 30;obtain⟨bB,hbB⟩:∃b,wn.heap.size=b:=⟨_,rfl⟩;rw[hbB]at h;obtain⟨x0,x1,x2,x3,x4,x5,x6,x7,x8,x9,x10,x11,y0,y1,y2,y3,y4,y5,y6,y7,y8,y9,y10,y11⟩:=zAc (b:=pb) (h.p2);obtain⟨a0,a1,a2,a3,a4,a5,a6,a7,a8,a9,a10,a11,f0,f1,f2,f3,f4,f5,f6,f7,f8,f9,f10,f11⟩:=zAc (b:=bB) (h);replace H:=hQd h;clear h)
 |(go_at_call 201;(with_reducible refine(zG7 at_ H.out).mono ?_);rintro e_ wn ⟨rfl,h⟩;obtain⟨a0,a1,a2,a3,a4,a5,a6,a7,a8,a9,a10,a11,f0,f1,f2,f3,f4,f5,f6,f7,f8,f9,f10,f11⟩:=zAc (b:=bB) (h);replace H:=hQd h;clear h))
 have HBE:=hQd (show zAA ⟨base,leader,zAf at_ 3,zAf at_ 4,zAf at_ 5,last,first,maxt,prod,epoch,sq,l.map (·.1)⟩=e by rw[HLR.out];exact HB0.out);have hs:St W0 _ _ (.raw bB #[.int .i64 base,.int .i64 leader,.bool (zAf at_ 3),.bool (zAf at_ 4),.bool (zAf at_ 5),.int .i64 last,.int .i64 first,.int .i64 maxt,.int .i64 prod,.int .i64 epoch,.int .i64 sq,.slice q l.length cap] 30::_):=((H.out.rawSet 2 (.bool (zAf at_ 3))).rawSet 3 (.bool (zAf at_ 4))).rawSet 4 (.bool (zAf at_ 5));have hs:=hs.drew;clear x0 y0 a0 f0 x1 y1 a1 f1 x2 y2 a2 f2 x3 y3 a3 f3 x4 y4 a4 f4 x5 y5 a5 f5 x6 y6 a6 f6 x7 y7 a7 f7 x8 y8 a8 f8 x9 y9 a9 f9 x10 y10 a10 f10 x11 y11 a11 f11;refine wp_region_held_drew (S:=fun w'=>w'.cell? ⟨bB,0,none⟩=some (.int .i64 base)∧w'.cell? ⟨bB,1,none⟩=some (.int .i64 leader)∧w'.cell? ⟨bB,2,none⟩=some (.bool (zAf at_ 3))∧w'.cell? ⟨bB,3,none⟩=some (.bool (zAf at_ 4))∧w'.cell? ⟨bB,4,none⟩=some (.bool (zAf at_ 5))∧w'.cell? ⟨bB,5,none⟩=some (.int .i64 last)∧w'.cell? ⟨bB,6,none⟩=some (.int .i64 first)∧w'.cell? ⟨bB,7,none⟩=some (.int .i64 maxt)∧w'.cell? ⟨bB,8,none⟩=some (.int .i64 prod)∧w'.cell? ⟨bB,9,none⟩=some (.int .i64 epoch)∧w'.cell? ⟨bB,10,none⟩=some (.int .i64 sq)∧w'.cell? ⟨bB,11,none⟩=some (.slice q l.length cap)) (by kernel_rfl) (let ⟨x0,x1,x2,x3,x4,x5,x6,x7,x8,x9,x10,x11,_⟩:=zAc (b:=bB) (hs);⟨x0,x1,x2,x3,x4,x5,x6,x7,x8,x9,x10,x11⟩) (fun hHeld=> ?_);refine tQ 0 ⟨some 65,.load 30 (.tmp 11),30,_,_,none⟩ ?_;simp only[Act.put,sA,sB,sC];refine tQ 1 ⟨some 66,.load 30 (.tmp 11),30,_,_,none⟩ ?_;simp only[Act.put,sA,sB,sC];refine wpAnyH_ready (rs:=[2]) (by kernel_rfl) (by simp) (AllReadyH.cons (o:=⟨some 67,.call {callee:=.value (.func 35),args:= #[.tmp 66],argTypes:= #[30]},44,_,_,none⟩) rfl (fun KK hK=> ?_) AllReadyH.nil);go_simp;go_at_call 35;with_reducible refine(zCR base leader (zAf at_ 3) (zAf at_ 4) (zAf at_ 5) last first maxt prod epoch sq l q cap e HBE.out HMX.out HFT.out HLL.out (Know.has_right (Know.has_refl _)) hs).mono ?_;rintro e wq ⟨rfl,hs⟩;refine hK.out _ _ (let ⟨x0,x1,x2,x3,x4,x5,x6,x7,x8,x9,x10,x11,_⟩:=zAc (b:=bB) (hs);⟨x0,x1,x2,x3,x4,x5,x6,x7,x8,x9,x10,x11⟩) (fun hHeld=> ?_);clear hK KK
 try simp only[Act.put,sA,sB,sC]
 refine wpAnyH_ready (rs:=[3]) (by kernel_rfl) (by simp) (AllReadyH.cons (o:=⟨none,.store 30 (.tmp 6) (.tmp 65),0,_,_,none⟩) rfl (fun KK hK=> ?_) AllReadyH.nil);have hs:=hs.p1;rw[if_pos (by rfl)];refine wp_store_mid 30 (.tmp 6) (.tmp 65) rfl rb 0 #[.int .i64 base,.int .i64 leader,.bool (zAf at_ 3),.bool (zAf at_ 4),.bool (zAf at_ 5),.int .i64 last,.int .i64 first,.int .i64 maxt,.int .i64 prod,.int .i64 epoch,.int .i64 sq,.slice q l.length cap] (by rfl) (by rfl) hs.there (by kernel_rfl) (by simp[Value.oneCell']) ?_;obtain⟨wz,ez,hs⟩:=hs.storeEx #[.int .i64 base,.int .i64 leader,.bool (zAf at_ 3),.bool (zAf at_ 4),.bool (zAf at_ 5),.int .i64 last,.int .i64 first,.int .i64 maxt,.int .i64 prod,.int .i64 epoch,.int .i64 sq,.slice q l.length cap];rw[ez];clear ez;refine hK.out _ _ (let ⟨x0,x1,x2,x3,x4,x5,x6,x7,x8,x9,x10,x11,_⟩:=zAc (b:=bB) (hs.p1);⟨x0,x1,x2,x3,x4,x5,x6,x7,x8,x9,x10,x11⟩) (fun hHeld=> ?_);clear hK KK
 try simp only[Act.put,sA,sB,sC]
 refine tQ 4 ⟨some 7,.assign (.tmp 67),44,_,_,none⟩ ?_;simp only[Act.put,sA,sB,sC];refine wpAnyH_done (by kernel_rfl) ?_ _;clear hHeld;rw[zD5]at hs;rotate_left
 · rfl
 have hz:St W0 _ _ (.raw rb #[.int .i64 base,.int .i64 leader,.bool (zAf at_ 3),.bool (zAf at_ 4),.bool (zAf at_ 5),.int .i64 last,.int .i64 first,.int .i64 maxt,.int .i64 prod,.int .i64 epoch,.int .i64 sq,.slice q l.length cap] 30::_):=hs;go_wp2_with fail;refine bodyPost_ret (zBa rfl _ _ rb [.int .i64 base,.int .i64 leader,.bool (zAf at_ 3),.bool (zAf at_ 4),.bool (zAf at_ 5),.int .i64 last,.int .i64 first,.int .i64 maxt,.int .i64 prod,.int .i64 epoch,.int .i64 sq,.slice q l.length cap] _ rfl (zAp hz) Tryz.underlying30 rfl (by kernel_rfl)) rfl ?_;exact⟨l,q,cap,rfl,hz.drop.drop.drop.know (Know.has_left (Know.has_refl _))⟩
theorem zQd(x:PreS)(said rows:Bs)(hs1:21≤said.length)(hs2:said.length≤140737488355328)(hr1:rows.length≤1000000)(har:R64 x.attr)(hc0:0≤x.count)(hcn:x.count≤2147483647)(hmx:x.first≤9223372036854775807)(e:Int)(ha:asmB x said rows=.error e)(h:St W0 w K L):
   Calls Tryz.prog 189 #[.agg #[.int .i64 x.base,.int .i64 x.len,.int .i64 x.leader,.int .i64 x.sum,.int .i64 x.attr,.int .i64 x.last,.int .i64 x.first,.int .i64 x.maxt,.int .i64 x.prod,.int .i64 x.epoch,.int .i64 x.seq,.int .i64 x.count],.string (bb said),.string (bb rows)] w fun en w'=>∃(b:BatS) (q:Option Addr) (n cap:Nat),en=.returned (.tuple #[.agg #[.int .i64 b.base,.int .i64 b.leader,.bool b.app,.bool b.txn,.bool b.ctl,.int .i64 b.last,.int .i64 b.first,.int .i64 b.maxt,.int .i64 b.prod,.int .i64 b.epoch,.int .i64 b.seq,.slice q n cap],.int .i64 e])∧St W0 w' K L:=by
 obtain⟨base,len,leader,sum,attr,last,first,maxt,prod,epoch,seq,count⟩:=x;simp only at har hc0 hcn hmx;obtain⟨cnt,rfl⟩:∃n:Nat,count=(n:Int):=⟨count.toNat,by omega⟩;have hr:rows.length≤140737488355328:=by omega
 have hcn:cnt≤2147483647:=by omega
 unfold asmB at ha;simp only[Int.toNat_natCast]at ha
 by_cases c1:(((zAq 0#32 (said.drop 21++rows)).toNat:Nat):Int)≠sum
 · rw[if_pos c1]at ha
   cases ha
   exact(zQc said rows base len leader sum attr last first maxt prod epoch seq cnt _ rfl hs1 hs2 hr c1 h).mono fun _ _ hh=>⟨BatS.zero,none,0,0,hh.1,hh.2⟩
 rw[if_neg c1]at ha;have c1:=Classical.not_not.1 c1
 by_cases c2:chk attr≠0
 · rw[if_pos c2]at ha
   cases ha
   exact(zOX said rows base len leader sum attr last first maxt prod epoch seq cnt _ rfl hs1 hs2 hr c1 _ rfl har c2 h).mono fun _ _ hh=>⟨BatS.zero,none,0,0,hh.1,hh.2⟩
 rw[if_neg c2]at ha;have c2:=Classical.not_not.1 c2
 cases hu:unp cnt ⟨rows,0,0⟩with
 |error f=>
   rw[hu]at ha;simp only at ha
   cases ha
   exact(zOV said rows base len leader sum attr last first maxt prod epoch seq cnt _ rfl hs1 hs2 hr c1 c2 har hcn _ hu (zL4 _ _ _ hu) h).mono fun _ _ hh=>⟨BatS.zero,none,0,0,hh.1,hh.2⟩
 |ok rs=>
   rw[hu]at ha;simp only at ha
   by_cases c3:zAA ⟨base,leader,zAf attr 3,zAf attr 4,zAf attr 5,last,first,maxt,prod,epoch,seq,rs⟩=0
   · rw[if_pos c3]at ha;cases ha
   rw[if_neg c3]at ha
   cases ha
   exact(zQe said rows base len leader sum attr last first maxt prod epoch seq cnt _ rfl hs1 hs2 hr c1 c2 har hcn hr1 hmx rs hu _ rfl h).mono fun _ _ ⟨l,q,cap,hh,hs⟩=>⟨⟨base,leader,zAf attr 3,zAf attr 4,zAf attr 5,last,first,maxt,prod,epoch,seq,rs⟩,q,l.length,cap,hh,hs⟩
theorem zOW(x:PreS)(said rows:Bs)(hs1:21≤said.length)(hs2:said.length≤140737488355328)(hr1:rows.length≤1000000)(har:R64 x.attr)(hc0:0≤x.count)(hcn:x.count≤2147483647)(hmx:x.first≤9223372036854775807)(b:BatS)(ha:asmB x said rows=.ok b)(h:St W0 w K L):
  Calls Tryz.prog 189 #[.agg #[.int .i64 x.base,.int .i64 x.len,.int .i64 x.leader,.int .i64 x.sum,.int .i64 x.attr,.int .i64 x.last,.int .i64 x.first,.int .i64 x.maxt,.int .i64 x.prod,.int .i64 x.epoch,.int .i64 x.seq,.int .i64 x.count],.string (bb said),.string (bb rows)] w fun en w'=>∃(q:Option Addr) (l:List (RecS×Value)) (cap:Nat),en=.returned (.tuple #[.agg #[.int .i64 b.base,.int .i64 b.leader,.bool b.app,.bool b.txn,.bool b.ctl,.int .i64 b.last,.int .i64 b.first,.int .i64 b.maxt,.int .i64 b.prod,.int .i64 b.epoch,.int .i64 b.seq,.slice q l.length cap],.int .i64 0])∧l.map (·.1)=b.recs∧St W0 w' (K.and (Know.recs (.slice q l.length cap) l)) L:=by
 obtain⟨c1,c2,rs,hu,c3,rfl⟩:=zH1 ha;obtain⟨base,len,leader,sum,attr,last,first,maxt,prod,epoch,seq,count⟩:=x;simp only at har hc0 hcn hmx c1 c2 hu c3;obtain⟨cnt,rfl⟩:∃n:Nat,count=(n:Int):=⟨count.toNat,by omega⟩;rw[Int.toNat_natCast]at hu;exact asm_ok said rows base len leader sum attr last first maxt prod epoch seq cnt _ rfl hs1 hs2 (by omega) c1 c2 har (by omega) hr1 hmx rs hu c3 h
variable {W0 w:World}{K:Know}{L:List Res}
theorem zEI(p:Nat)(i i1 i2 j:InS)(said:Bs)(x:PreS)(e e2:Int)(hxl: -2147483648≤x.len∧x.len<2147483648)(hsl:said.length≤140737488355328)(ht1:i.take 61=(said,i1))(hp:(⟨said,0,0⟩:InS).pre=(x,j))(hj:j.err=e)(he:e≠0)(hf:i1.fail e=i2)(he2:i2.err=e2)(he3:e2≠0)(h:St W0 w K (.inp p i::L)):
  Calls Tryz.prog 167 #[zAC p] w fun en w'=>en=.returned (.agg #[.int .i64 0,.int .i64 0,.bool false,.bool false,.bool false,.int .i64 0,.int .i64 0,.int .i64 0,.int .i64 0,.int .i64 0,.int .i64 0,.slice none 0 0])∧St W0 w' K (.inp p i2::L):=by
 have g1:=h.allocRaw #[.int .i64 0,.int .i64 0,.bool false,.bool false,.bool false,.int .i64 0,.int .i64 0,.int .i64 0,.int .i64 0,.int .i64 0,.int .i64 0,.slice none 0 0] 30;obtain⟨rb,hrb⟩:∃b,w.heap.size=b:=⟨_,rfl⟩;rw[hrb]at g1;have H:=hQd g1;have HT1:=hQd ht1;have HSL:=hQd hsl;have HP:=hQd hp;have HJ:=hQd hj;have HF:=hQd hf;have HT2:=hQd (show i2.take (x.len - 49)=([],i2)from InS.take_err (by rw[he2];exact he3));have HE3:=hQd he2;have gz:(e==0)=false:=by rw[beq_eq_false_iff_ne];exact he
 have gz2:(e !=0)=true:=by rw[bne_iff_ne];exact he
 have gy:(e2==0)=false:=by rw[beq_eq_false_iff_ne];exact he3
 have gy2:(e2 !=0)=true:=by rw[bne_iff_ne];exact he3
 have f1:wrap64 (x.len - 49)=x.len - 49:=by unfold wrap64;omega
 have f2:IntKind.i64.wrap (x.len - 49)=x.len - 49:=IntWalk.i64_in _ (by omega);clear h g1 ht1 hsl hp hj hf he2 he he3 hxl;go_enter Tryz.func167,Tryz.ntmps167
 go_wp2_with (first
  |(go_at_call 184;(with_reducible refine(zCE p i i1 _ said HT1.out H.out.p1).mono ?_);rintro e_ wn ⟨rfl,h⟩;replace H:=hQd h;clear h)
  |(go_at_call 156;(with_reducible refine(zDf said HSL.out H.out).mono ?_);rintro e_ wn ⟨bi,rfl,h⟩;replace H:=hQd h;clear h)
  |(go_at_call 188;(with_reducible refine(zBr bi _ j x HP.out H.out).mono ?_);rintro e_ wn ⟨rfl,h⟩;replace H:=hQd h;clear h;have h:=H.out;obtain⟨pb,hpb⟩:∃b,wn.heap.size=b:=⟨_,rfl⟩;have h:=h.allocRaw #[.int .i64 x.base,.int .i64 x.len,.int .i64 x.leader,.int .i64 x.sum,.int .i64 x.attr,.int .i64 x.last,.int .i64 x.first,.int .i64 x.maxt,.int .i64 x.prod,.int .i64 x.epoch,.int .i64 x.seq,.int .i64 x.count] 130;rw[hpb]at h;obtain⟨x0,x1,x2,x3,x4,x5,x6,x7,x8,x9,x10,x11,y0,y1,y2,y3,y4,y5,y6,y7,y8,y9,y10,y11⟩:=zAc (b:=pb) (h);replace H:=hQd h.p1;clear h)
  |(go_at_call 168;(with_reducible refine(zCF bi j e HJ.out H.out).mono ?_);rintro e_ wn ⟨rfl,h⟩;replace H:=hQd h;clear h;obtain⟨x0,x1,x2,x3,x4,x5,x6,x7,x8,x9,x10,x11,y0,y1,y2,y3,y4,y5,y6,y7,y8,y9,y10,y11⟩:=zAc (b:=pb) (H.out.p1))
  |(go_at_call 158;(with_reducible refine(zMn p i1 i2 _ HF.out H.out.p2).mono ?_);rintro e_ wn ⟨rfl,h⟩;replace H:=hQd h;clear h;obtain⟨x0,x1,x2,x3,x4,x5,x6,x7,x8,x9,x10,x11,y0,y1,y2,y3,y4,y5,y6,y7,y8,y9,y10,y11⟩:=zAc (b:=pb) (H.out.p2))
  |(go_at_call 184;(with_reducible refine(zCE p i2 i2 _ [] HT2.out H.out).mono ?_);rintro e_ wn ⟨rfl,h⟩;replace H:=hQd h;clear h;obtain⟨x0,x1,x2,x3,x4,x5,x6,x7,x8,x9,x10,x11,y0,y1,y2,y3,y4,y5,y6,y7,y8,y9,y10,y11⟩:=zAc (b:=pb) (H.out.p2))
  |(go_at_call 168;(with_reducible refine(zCF p i2 e2 HE3.out H.out).mono ?_);rintro e_ wn ⟨rfl,h⟩;replace H:=hQd h;clear h;obtain⟨x0,x1,x2,x3,x4,x5,x6,x7,x8,x9,x10,x11,y0,y1,y2,y3,y4,y5,y6,y7,y8,y9,y10,y11⟩:=zAc (b:=pb) (H.out.p2);obtain⟨a0,a1,a2,a3,a4,a5,a6,a7,a8,a9,a10,a11,f0,f1,f2,f3,f4,f5,f6,f7,f8,f9,f10,f11⟩:=zAc (b:=rb) (H.out.p3)))
 have hz:St W0 _ _ (.raw rb #[.int .i64 0,.int .i64 0,.bool false,.bool false,.bool false,.int .i64 0,.int .i64 0,.int .i64 0,.int .i64 0,.int .i64 0,.int .i64 0,.slice none 0 0] 30::_):=St.sets12 _ _ _ _ _ _ _ _ _ _ _ _ (H.out.p3);refine bodyPost_ret (zAl rfl _ _ rb [.int .i64 0,.int .i64 0,.bool false,.bool false,.bool false,.int .i64 0,.int .i64 0,.int .i64 0,.int .i64 0,.int .i64 0,.int .i64 0,.slice none 0 0] _ rfl (zAp hz) Tryz.underlying30 rfl (by kernel_rfl)) rfl ?_;exact⟨rfl,hz.drop.p1.drop.p1.drop⟩
theorem zHY(p:Nat)(i i1 i3 j:InS)(said rows:Bs)(x:PreS)(e2:Int)(hxl: -2147483648≤x.len∧x.len<2147483648)(hsl:said.length≤140737488355328)(ht1:i.take 61=(said,i1))(hp:(⟨said,0,0⟩:InS).pre=(x,j))(hj:j.err=0)(ht2:i1.take (x.len - 49)=(rows,i3))(he2:i3.err=e2)(he3:e2≠0)(h:St W0 w K (.inp p i::L)):
  Calls Tryz.prog 167 #[zAC p] w fun en w'=>en=.returned (.agg #[.int .i64 0,.int .i64 0,.bool false,.bool false,.bool false,.int .i64 0,.int .i64 0,.int .i64 0,.int .i64 0,.int .i64 0,.int .i64 0,.slice none 0 0])∧St W0 w' K (.inp p i3::L):=by
 have g1:=h.allocRaw #[.int .i64 0,.int .i64 0,.bool false,.bool false,.bool false,.int .i64 0,.int .i64 0,.int .i64 0,.int .i64 0,.int .i64 0,.int .i64 0,.slice none 0 0] 30;obtain⟨rb,hrb⟩:∃b,w.heap.size=b:=⟨_,rfl⟩;rw[hrb]at g1;have H:=hQd g1;have HT1:=hQd ht1;have HSL:=hQd hsl;have HP:=hQd hp;have HJ:=hQd hj;have HT2:=hQd ht2;have HE3:=hQd he2;have gy:(e2==0)=false:=by rw[beq_eq_false_iff_ne];exact he3
 have gy2:(e2 !=0)=true:=by rw[bne_iff_ne];exact he3
 have f1:wrap64 (x.len - 49)=x.len - 49:=by unfold wrap64;omega
 have f2:IntKind.i64.wrap (x.len - 49)=x.len - 49:=IntWalk.i64_in _ (by omega);clear h g1 ht1 hsl hp hj ht2 he2 he3 hxl;go_enter Tryz.func167,Tryz.ntmps167
 go_wp2_with (first
  |(go_at_call 184;(with_reducible refine(zCE p i i1 _ said HT1.out H.out.p1).mono ?_);rintro e_ wn ⟨rfl,h⟩;replace H:=hQd h;clear h)
  |(go_at_call 156;(with_reducible refine(zDf said HSL.out H.out).mono ?_);rintro e_ wn ⟨bi,rfl,h⟩;replace H:=hQd h;clear h)
  |(go_at_call 188;(with_reducible refine(zBr bi _ j x HP.out H.out).mono ?_);rintro e_ wn ⟨rfl,h⟩;replace H:=hQd h;clear h;have h:=H.out;obtain⟨pb,hpb⟩:∃b,wn.heap.size=b:=⟨_,rfl⟩;have h:=h.allocRaw #[.int .i64 x.base,.int .i64 x.len,.int .i64 x.leader,.int .i64 x.sum,.int .i64 x.attr,.int .i64 x.last,.int .i64 x.first,.int .i64 x.maxt,.int .i64 x.prod,.int .i64 x.epoch,.int .i64 x.seq,.int .i64 x.count] 130;rw[hpb]at h;obtain⟨x0,x1,x2,x3,x4,x5,x6,x7,x8,x9,x10,x11,y0,y1,y2,y3,y4,y5,y6,y7,y8,y9,y10,y11⟩:=zAc (b:=pb) (h);replace H:=hQd h.p1;clear h)
  |(go_at_call 168;(with_reducible refine(zCF bi j 0 HJ.out H.out).mono ?_);rintro e_ wn ⟨rfl,h⟩;replace H:=hQd h;clear h;obtain⟨x0,x1,x2,x3,x4,x5,x6,x7,x8,x9,x10,x11,y0,y1,y2,y3,y4,y5,y6,y7,y8,y9,y10,y11⟩:=zAc (b:=pb) (H.out.p1))
  |(go_at_call 184;(with_reducible refine(zCE p i1 i3 _ rows HT2.out H.out.p2).mono ?_);rintro e_ wn ⟨rfl,h⟩;replace H:=hQd h;clear h;obtain⟨x0,x1,x2,x3,x4,x5,x6,x7,x8,x9,x10,x11,y0,y1,y2,y3,y4,y5,y6,y7,y8,y9,y10,y11⟩:=zAc (b:=pb) (H.out.p2))
  |(go_at_call 168;(with_reducible refine(zCF p i3 e2 HE3.out H.out).mono ?_);rintro e_ wn ⟨rfl,h⟩;replace H:=hQd h;clear h;obtain⟨x0,x1,x2,x3,x4,x5,x6,x7,x8,x9,x10,x11,y0,y1,y2,y3,y4,y5,y6,y7,y8,y9,y10,y11⟩:=zAc (b:=pb) (H.out.p2);obtain⟨a0,a1,a2,a3,a4,a5,a6,a7,a8,a9,a10,a11,f0,f1,f2,f3,f4,f5,f6,f7,f8,f9,f10,f11⟩:=zAc (b:=rb) (H.out.p3)))
 have hz:St W0 _ _ (.raw rb #[.int .i64 0,.int .i64 0,.bool false,.bool false,.bool false,.int .i64 0,.int .i64 0,.int .i64 0,.int .i64 0,.int .i64 0,.int .i64 0,.slice none 0 0] 30::_):=St.sets12 _ _ _ _ _ _ _ _ _ _ _ _ (H.out.p3);refine bodyPost_ret (zAl rfl _ _ rb [.int .i64 0,.int .i64 0,.bool false,.bool false,.bool false,.int .i64 0,.int .i64 0,.int .i64 0,.int .i64 0,.int .i64 0,.int .i64 0,.slice none 0 0] _ rfl (zAp hz) Tryz.underlying30 rfl (by kernel_rfl)) rfl ?_;exact⟨rfl,hz.drop.p1.drop.p1.drop⟩
variable {W0 w:World}{K:Know}{L:List Res}
theorem zKl(p:Nat)(i i1 i3 j:InS)(said rows:Bs)(x:PreS)(hxl: -2147483648≤x.len∧x.len<2147483648)(hs1:21≤said.length)(hsl:said.length≤140737488355328)(hr1:rows.length≤1000000)(har:R64 x.attr)(hc0:0≤x.count)(hcn:x.count≤2147483647)(hmx:x.first≤9223372036854775807)(ht1:i.take 61=(said,i1))(hp:(⟨said,0,0⟩:InS).pre=(x,j))(hj:j.err=0)(ht2:i1.take (x.len - 49)=(rows,i3))(he3:i3.err=0)(b:BatS)(ha:asmB x said rows=.ok b)(h:St W0 w K (.inp p i::L)):
  Calls Tryz.prog 167 #[zAC p] w fun en w'=>∃(q:Option Addr) (l:List (RecS×Value)) (cap:Nat),en=.returned (.agg #[.int .i64 b.base,.int .i64 b.leader,.bool b.app,.bool b.txn,.bool b.ctl,.int .i64 b.last,.int .i64 b.first,.int .i64 b.maxt,.int .i64 b.prod,.int .i64 b.epoch,.int .i64 b.seq,.slice q l.length cap])∧l.map (·.1)=b.recs∧St W0 w' (K.and (Know.recs (.slice q l.length cap) l)) (.inp p i3::L):=by
 have g1:=h.allocRaw #[.int .i64 0,.int .i64 0,.bool false,.bool false,.bool false,.int .i64 0,.int .i64 0,.int .i64 0,.int .i64 0,.int .i64 0,.int .i64 0,.slice none 0 0] 30;obtain⟨rb,hrb⟩:∃b,w.heap.size=b:=⟨_,rfl⟩;rw[hrb]at g1;have H:=hQd g1;have HT1:=hQd ht1;have HSL:=hQd hsl;have HS1:=hQd hs1;have HR1:=hQd hr1;have HAR:=hQd har;have HC0:=hQd hc0;have HCN:=hQd hcn;have HMX:=hQd hmx;have HA:=hQd ha;have HP:=hQd hp;have HJ:=hQd hj;have HT2:=hQd ht2;have HE3:=hQd he3;have f1:wrap64 (x.len - 49)=x.len - 49:=by unfold wrap64;omega
 have f2:IntKind.i64.wrap (x.len - 49)=x.len - 49:=IntWalk.i64_in _ (by omega);clear h g1 ht1 hsl hs1 hr1 har hc0 hcn hmx ha hp hj ht2 he3 hxl;go_enter Tryz.func167,Tryz.ntmps167
 go_wp2_with (first
  |(go_at_call 184;(with_reducible refine(zCE p i i1 _ said HT1.out H.out.p1).mono ?_);rintro e_ wn ⟨rfl,h⟩;replace H:=hQd h;clear h)
  |(go_at_call 156;(with_reducible refine(zDf said HSL.out H.out).mono ?_);rintro e_ wn ⟨bi,rfl,h⟩;replace H:=hQd h;clear h)
  |(go_at_call 188;(with_reducible refine(zBr bi _ j x HP.out H.out).mono ?_);rintro e_ wn ⟨rfl,h⟩;replace H:=hQd h;clear h;have h:=H.out;obtain⟨pb,hpb⟩:∃b,wn.heap.size=b:=⟨_,rfl⟩;have h:=h.allocRaw #[.int .i64 x.base,.int .i64 x.len,.int .i64 x.leader,.int .i64 x.sum,.int .i64 x.attr,.int .i64 x.last,.int .i64 x.first,.int .i64 x.maxt,.int .i64 x.prod,.int .i64 x.epoch,.int .i64 x.seq,.int .i64 x.count] 130;rw[hpb]at h;obtain⟨x0,x1,x2,x3,x4,x5,x6,x7,x8,x9,x10,x11,y0,y1,y2,y3,y4,y5,y6,y7,y8,y9,y10,y11⟩:=zAc (b:=pb) (h);replace H:=hQd h.p1;clear h)
  |(go_at_call 168;(with_reducible refine(zCF bi j 0 HJ.out H.out).mono ?_);rintro e_ wn ⟨rfl,h⟩;replace H:=hQd h;clear h;obtain⟨x0,x1,x2,x3,x4,x5,x6,x7,x8,x9,x10,x11,y0,y1,y2,y3,y4,y5,y6,y7,y8,y9,y10,y11⟩:=zAc (b:=pb) (H.out.p1))
  |(go_at_call 184;(with_reducible refine(zCE p i1 i3 _ rows HT2.out H.out.p2).mono ?_);rintro e_ wn ⟨rfl,h⟩;replace H:=hQd h;clear h;obtain⟨x0,x1,x2,x3,x4,x5,x6,x7,x8,x9,x10,x11,y0,y1,y2,y3,y4,y5,y6,y7,y8,y9,y10,y11⟩:=zAc (b:=pb) (H.out.p2))
  |(go_at_call 168;(with_reducible refine(zCF p i3 0 HE3.out H.out).mono ?_);rintro e_ wn ⟨rfl,h⟩;replace H:=hQd h;clear h;obtain⟨x0,x1,x2,x3,x4,x5,x6,x7,x8,x9,x10,x11,y0,y1,y2,y3,y4,y5,y6,y7,y8,y9,y10,y11⟩:=zAc (b:=pb) (H.out.p2);obtain⟨a0,a1,a2,a3,a4,a5,a6,a7,a8,a9,a10,a11,f0,f1,f2,f3,f4,f5,f6,f7,f8,f9,f10,f11⟩:=zAc (b:=rb) (H.out.p3))
  |(go_at_call 189;(with_reducible refine(zOW x said rows HS1.out HSL.out HR1.out HAR.out HC0.out HCN.out HMX.out b HA.out H.out).mono ?_);rintro e_ wn ⟨q,l,cap,rfl,hl,h⟩;have h:=h.allocRaw #[.int .i64 b.base,.int .i64 b.leader,.bool b.app,.bool b.txn,.bool b.ctl,.int .i64 b.last,.int .i64 b.first,.int .i64 b.maxt,.int .i64 b.prod,.int .i64 b.epoch,.int .i64 b.seq,.slice q l.length cap] 30;obtain⟨bB,hbB⟩:∃b,wn.heap.size=b:=⟨_,rfl⟩;rw[hbB]at h;obtain⟨c0,c1,c2,c3,c4,c5,c6,c7,c8,c9,c10,c11,g0,g1,g2,g3,g4,g5,g6,g7,g8,g9,g10,g11⟩:=zAc (b:=bB) (h);obtain⟨a0,a1,a2,a3,a4,a5,a6,a7,a8,a9,a10,a11,f0,f1,f2,f3,f4,f5,f6,f7,f8,f9,f10,f11⟩:=zAc (b:=rb) (h.p4);replace H:=hQd h;clear h))
 have hz:St W0 _ _ (.raw rb #[.int .i64 b.base,.int .i64 b.leader,.bool b.app,.bool b.txn,.bool b.ctl,.int .i64 b.last,.int .i64 b.first,.int .i64 b.maxt,.int .i64 b.prod,.int .i64 b.epoch,.int .i64 b.seq,.slice q l.length cap] 30::_):=St.sets12 _ _ _ _ _ _ _ _ _ _ _ _ (H.out.p4);refine bodyPost_ret (zAl rfl _ _ rb [.int .i64 b.base,.int .i64 b.leader,.bool b.app,.bool b.txn,.bool b.ctl,.int .i64 b.last,.int .i64 b.first,.int .i64 b.maxt,.int .i64 b.prod,.int .i64 b.epoch,.int .i64 b.seq,.slice q l.length cap] _ rfl (zAp hz) Tryz.underlying30 rfl (by kernel_rfl)) rfl ?_;exact⟨q,l,cap,rfl,hl,hz.drop.drop.p1.drop.p1.drop⟩
theorem zJo(p:Nat)(i i1 i3 j:InS)(said rows:Bs)(x:PreS)(hxl: -2147483648≤x.len∧x.len<2147483648)(hs1:21≤said.length)(hsl:said.length≤140737488355328)(hr1:rows.length≤1000000)(har:R64 x.attr)(hc0:0≤x.count)(hcn:x.count≤2147483647)(hmx:x.first≤9223372036854775807)(ht1:i.take 61=(said,i1))(hp:(⟨said,0,0⟩:InS).pre=(x,j))(hj:j.err=0)(ht2:i1.take (x.len - 49)=(rows,i3))(he3:i3.err=0)(i4:InS)(e:Int)(ha:asmB x said rows=.error e)(hf:i3.fail e=i4)(h:St W0 w K (.inp p i::L)):
  Calls Tryz.prog 167 #[zAC p] w fun en w'=>en=.returned (.agg #[.int .i64 0,.int .i64 0,.bool false,.bool false,.bool false,.int .i64 0,.int .i64 0,.int .i64 0,.int .i64 0,.int .i64 0,.int .i64 0,.slice none 0 0])∧St W0 w' K (.inp p i4::L):=by
 have g1:=h.allocRaw #[.int .i64 0,.int .i64 0,.bool false,.bool false,.bool false,.int .i64 0,.int .i64 0,.int .i64 0,.int .i64 0,.int .i64 0,.int .i64 0,.slice none 0 0] 30;obtain⟨rb,hrb⟩:∃b,w.heap.size=b:=⟨_,rfl⟩;rw[hrb]at g1;have H:=hQd g1;have HT1:=hQd ht1;have HSL:=hQd hsl;have HS1:=hQd hs1;have HR1:=hQd hr1;have HAR:=hQd har;have HC0:=hQd hc0;have HCN:=hQd hcn;have HMX:=hQd hmx;have HA:=hQd ha;have HP:=hQd hp;have HJ:=hQd hj;have HT2:=hQd ht2;have HE3:=hQd he3;have HF:=hQd hf;have gz:(e==0)=false:=by rw[beq_eq_false_iff_ne];exact zH2 ha
 have gz2:(e !=0)=true:=by rw[bne_iff_ne];exact zH2 ha
 have f1:wrap64 (x.len - 49)=x.len - 49:=by unfold wrap64;omega
 have f2:IntKind.i64.wrap (x.len - 49)=x.len - 49:=IntWalk.i64_in _ (by omega);clear h g1 ht1 hsl hs1 hr1 har hc0 hcn hmx ha hp hj ht2 he3 hxl hf;go_enter Tryz.func167,Tryz.ntmps167
 go_wp2_with (first
  |(go_at_call 184;(with_reducible refine(zCE p i i1 _ said HT1.out H.out.p1).mono ?_);rintro e_ wn ⟨rfl,h⟩;replace H:=hQd h;clear h)
  |(go_at_call 156;(with_reducible refine(zDf said HSL.out H.out).mono ?_);rintro e_ wn ⟨bi,rfl,h⟩;replace H:=hQd h;clear h)
  |(go_at_call 188;(with_reducible refine(zBr bi _ j x HP.out H.out).mono ?_);rintro e_ wn ⟨rfl,h⟩;replace H:=hQd h;clear h;have h:=H.out;obtain⟨pb,hpb⟩:∃b,wn.heap.size=b:=⟨_,rfl⟩;have h:=h.allocRaw #[.int .i64 x.base,.int .i64 x.len,.int .i64 x.leader,.int .i64 x.sum,.int .i64 x.attr,.int .i64 x.last,.int .i64 x.first,.int .i64 x.maxt,.int .i64 x.prod,.int .i64 x.epoch,.int .i64 x.seq,.int .i64 x.count] 130;rw[hpb]at h;obtain⟨x0,x1,x2,x3,x4,x5,x6,x7,x8,x9,x10,x11,y0,y1,y2,y3,y4,y5,y6,y7,y8,y9,y10,y11⟩:=zAc (b:=pb) (h);replace H:=hQd h.p1;clear h)
  |(go_at_call 168;(with_reducible refine(zCF bi j 0 HJ.out H.out).mono ?_);rintro e_ wn ⟨rfl,h⟩;replace H:=hQd h;clear h;obtain⟨x0,x1,x2,x3,x4,x5,x6,x7,x8,x9,x10,x11,y0,y1,y2,y3,y4,y5,y6,y7,y8,y9,y10,y11⟩:=zAc (b:=pb) (H.out.p1))
  |(go_at_call 184;(with_reducible refine(zCE p i1 i3 _ rows HT2.out H.out.p2).mono ?_);rintro e_ wn ⟨rfl,h⟩;replace H:=hQd h;clear h;obtain⟨x0,x1,x2,x3,x4,x5,x6,x7,x8,x9,x10,x11,y0,y1,y2,y3,y4,y5,y6,y7,y8,y9,y10,y11⟩:=zAc (b:=pb) (H.out.p2))
  |(go_at_call 168;(with_reducible refine(zCF p i3 0 HE3.out H.out).mono ?_);rintro e_ wn ⟨rfl,h⟩;replace H:=hQd h;clear h;obtain⟨x0,x1,x2,x3,x4,x5,x6,x7,x8,x9,x10,x11,y0,y1,y2,y3,y4,y5,y6,y7,y8,y9,y10,y11⟩:=zAc (b:=pb) (H.out.p2);obtain⟨a0,a1,a2,a3,a4,a5,a6,a7,a8,a9,a10,a11,f0,f1,f2,f3,f4,f5,f6,f7,f8,f9,f10,f11⟩:=zAc (b:=rb) (H.out.p3))
  |(go_at_call 189;(with_reducible refine(zQd x said rows HS1.out HSL.out HR1.out HAR.out HC0.out HCN.out HMX.out e HA.out H.out).mono ?_);rintro e_ wn ⟨b,q,n,cap,rfl,h⟩;have h:=h.allocRaw #[.int .i64 b.base,.int .i64 b.leader,.bool b.app,.bool b.txn,.bool b.ctl,.int .i64 b.last,.int .i64 b.first,.int .i64 b.maxt,.int .i64 b.prod,.int .i64 b.epoch,.int .i64 b.seq,.slice q n cap] 30;obtain⟨bB,hbB⟩:∃b,wn.heap.size=b:=⟨_,rfl⟩;rw[hbB]at h;obtain⟨c0,c1,c2,c3,c4,c5,c6,c7,c8,c9,c10,c11,g0,g1,g2,g3,g4,g5,g6,g7,g8,g9,g10,g11⟩:=zAc (b:=bB) (h);obtain⟨a0,a1,a2,a3,a4,a5,a6,a7,a8,a9,a10,a11,f0,f1,f2,f3,f4,f5,f6,f7,f8,f9,f10,f11⟩:=zAc (b:=rb) (h.p4);replace H:=hQd h;clear h)
  |(go_at_call 158;(with_reducible refine(zMn p i3 i4 _ HF.out H.out.p1).mono ?_);rintro e_ wn ⟨rfl,h⟩;replace H:=hQd h;clear h;obtain⟨c0,c1,c2,c3,c4,c5,c6,c7,c8,c9,c10,c11,g0,g1,g2,g3,g4,g5,g6,g7,g8,g9,g10,g11⟩:=zAc (b:=bB) (H.out.p1);obtain⟨a0,a1,a2,a3,a4,a5,a6,a7,a8,a9,a10,a11,f0,f1,f2,f3,f4,f5,f6,f7,f8,f9,f10,f11⟩:=zAc (b:=rb) (H.out.p4)))
 have hz:St W0 _ _ (.raw rb #[.int .i64 0,.int .i64 0,.bool false,.bool false,.bool false,.int .i64 0,.int .i64 0,.int .i64 0,.int .i64 0,.int .i64 0,.int .i64 0,.slice none 0 0] 30::_):=St.sets12 _ _ _ _ _ _ _ _ _ _ _ _ (H.out.p4);refine bodyPost_ret (zAl rfl _ _ rb [.int .i64 0,.int .i64 0,.bool false,.bool false,.bool false,.int .i64 0,.int .i64 0,.int .i64 0,.int .i64 0,.int .i64 0,.int .i64 0,.slice none 0 0] _ rfl (zAp hz) Tryz.underlying30 rfl (by kernel_rfl)) rfl ?_;exact⟨rfl,hz.drop.p1.drop.p1.drop.p1.drop⟩
theorem zHZ(p:Nat)(s:Bs)(pos:Nat)(hsl:s.length≤1000000)(hp:pos≤s.length)(b:BatS)(n:Nat)(hr:zBv (s.drop pos)=.ok (b,n))(h:St W0 w K (.inp p ⟨s,pos,0⟩::L)):
  Calls Tryz.prog 167 #[zAC p] w fun en w'=>∃(q:Option Addr) (l:List (RecS×Value)) (cap:Nat),en=.returned (.agg #[.int .i64 b.base,.int .i64 b.leader,.bool b.app,.bool b.txn,.bool b.ctl,.int .i64 b.last,.int .i64 b.first,.int .i64 b.maxt,.int .i64 b.prod,.int .i64 b.epoch,.int .i64 b.seq,.slice q l.length cap])∧l.map (·.1)=b.recs∧St W0 w' (K.and (Know.recs (.slice q l.length cap) l)) (.inp p ⟨s,pos+n,0⟩::L):=by
 obtain⟨x,hx,rfl,hn,ha⟩:=zEV hr;obtain⟨r1,r2,r3,r4,r5,r6⟩:=zBs hx;have h61:=(zBE hx).1;rw[List.length_drop]at hn h61;have hl61:((s.drop pos).take 61).length=61:=by rw[List.length_take,List.length_drop];omega
 have hrl:(((s.drop pos).drop 61).take (x.len - 49).toNat).length≤1000000:=by rw[List.length_take,List.length_drop,List.length_drop];omega
 have ht1:(⟨s,pos,0⟩:InS).take 61=((s.drop pos).take 61,⟨s,pos+61,0⟩):=InS.take_ok rfl (by omega) (by simp only[InS.left];omega)
 have ht2:(⟨s,pos+61,0⟩:InS).take (x.len - 49)=(((s.drop pos).drop 61).take (x.len - 49).toNat,⟨s,pos+61+(x.len - 49).toNat,0⟩):=by
  rw[InS.take_ok rfl (by omega) (by simp only[InS.left];omega),List.drop_drop]
 have hpre:=zJR ((s.drop pos).take 61) 0 (by omega);rw[List.drop_zero,zBq _ (by rw[List.length_drop];omega),hx]at hpre;rw[←Nat.add_assoc];exact zKl p _ _ _ _ _ _ x r1 (by rw[hl61];omega) (by rw[hl61];omega) hrl r3 r4 r5 r6 ht1 hpre rfl ht2 rfl b ha h
theorem zJn(p:Nat)(s:Bs)(pos:Nat)(hsl:s.length≤1000000)(hp:pos≤s.length)(e:Int)(hr:zBv (s.drop pos)=.error e)(h:St W0 w K (.inp p ⟨s,pos,0⟩::L)):
   Calls Tryz.prog 167 #[zAC p] w fun en w'=>en=.returned (.agg #[.int .i64 0,.int .i64 0,.bool false,.bool false,.bool false,.int .i64 0,.int .i64 0,.int .i64 0,.int .i64 0,.int .i64 0,.int .i64 0,.slice none 0 0])∧∃q,q≤s.length∧St W0 w' K (.inp p ⟨s,q,e⟩::L):=by
 have hne:=zOi hr
 by_cases h61:s.length<pos+61
 · unfold zBv at hr;rw[zJL (by rw[List.length_drop];omega)]at hr
   cases hr
   have ht1:(⟨s,pos,0⟩:InS).take 61=([],⟨s,pos,1⟩):=InS.take_short (by omega) (by simp only[InS.left];omega);obtain⟨q,_,hpre⟩:=zLu [] 0 (Nat.le_refl _) (by decide);exact(zEI p _ _ ⟨s,pos,1⟩ _ [] PreS.zero 1 1 (by decide) (by decide) ht1 hpre rfl (by decide) rfl rfl (by decide) h).mono fun _ _ hh=>⟨hh.1,pos,hp,hh.2⟩
 have hl61:((s.drop pos).take 61).length=61:=by rw[List.length_take,List.length_drop];omega
 have ht1:(⟨s,pos,0⟩:InS).take 61=((s.drop pos).take 61,⟨s,pos+61,0⟩):=InS.take_ok rfl (by omega) (by simp only[InS.left];omega);have hpre:=zJR ((s.drop pos).take 61) 0 (by omega);rw[List.drop_zero,zBq _ (by rw[List.length_drop];omega)]at hpre;unfold zBv at hr
 cases hx:zAI (s.drop pos)with
 |error f=>
   rw[hx]at hr hpre;simp only at hr hpre
   cases hr
   exact(zEI p _ _ ⟨s,pos+61,e⟩ _ _ PreS.zero e e (by decide) (by rw[hl61];omega) ht1 hpre rfl hne rfl rfl hne h).mono fun _ _ hh=>⟨hh.1,pos+61,by omega,hh.2⟩
 |ok x=>
   rw[hx]at hr hpre;simp only at hr hpre;obtain⟨r1,r2,r3,r4,r5,r6⟩:=zBs hx
   by_cases hlen:(s.drop pos).length<61+(x.len - 49).toNat
   · rw[if_pos hlen]at hr
     cases hr
     rw[List.length_drop]at hlen;have ht2:(⟨s,pos+61,0⟩:InS).take (x.len - 49)=([],⟨s,pos+61,1⟩):=InS.take_short (by omega) (by simp only[InS.left];omega);exact(zHY p _ _ _ _ _ _ x 1 r1 (by rw[hl61];omega) ht1 hpre rfl ht2 rfl (by decide) h).mono fun _ _ hh=>⟨hh.1,pos+61,by omega,hh.2⟩
   · rw[if_neg hlen]at hr;rw[List.length_drop]at hlen;have hrl:(((s.drop pos).drop 61).take (x.len - 49).toNat).length≤1000000:=by rw[List.length_take,List.length_drop,List.length_drop];omega
     have ht2:(⟨s,pos+61,0⟩:InS).take (x.len - 49)=(((s.drop pos).drop 61).take (x.len - 49).toNat,⟨s,pos+61+(x.len - 49).toNat,0⟩):=by
      rw[InS.take_ok rfl (by omega) (by simp only[InS.left];omega),List.drop_drop]
     cases ha:asmB x ((s.drop pos).take 61) (((s.drop pos).drop 61).take (x.len - 49).toNat)with
     |ok b=>rw[ha]at hr;cases hr
     |error f=>
      rw[ha]at hr;simp only at hr
      cases hr
      exact(zJo p _ _ _ _ _ _ x r1 (by rw[hl61];omega) (by rw[hl61];omega) hrl r3 r4 r5 r6 ht1 hpre rfl ht2 rfl ⟨s,pos+61+(x.len - 49).toNat,e⟩ e ha rfl h).mono fun _ _ hh=>⟨hh.1,_,by omega,hh.2⟩
theorem zFi:∀(vs:List Value) (o:Nat) (c:Array Value) (i:Nat),(zDt c o vs)[i]? =if o≤i∧i<o+vs.length∧i<c.size then vs[i - o]? else c[i]?
  |[],o,c,i=>by
    show c[i]? =_
    rw[if_neg (by simp;omega)]
  |v::r,o,c,i=>by
    show(zDt (c.setIfInBounds o v) (o+1) r)[i]? =_
    rw[zFi r (o+1) _ i];simp only[Array.size_setIfInBounds,List.length_cons]
    by_cases h1:o+1≤i∧i<o+1+r.length∧i<c.size
    · exact zq23
    · exact zq18
theorem zB2(c cs:Array Value)(h:c.size=cs.size):zDt c 0 cs.toList=cs:=by
 refine Array.ext_getElem? fun i=> ?_
 rw[zFi]
 exact zq21
variable {W0 w:World}{K:Know}{L:List Res}
theorem zOp(h:St W0 w K L):Calls Tryz.prog 166 #[.string ⟨#[]⟩] w fun en w'=>en=.returned (.tuple #[.int .i64 0,.int .i64 0])∧St W0 w' K L:=zBc [] 0 0 rfl (by decide) h
theorem zLw{R:Bs}(h:R.length<61):zIJ R=(0,0):=by unfold zIJ;rw[if_pos h]
theorem zOq{R:Bs}{e:Int}(h:¬R.length<61)(hp:zAI R=.error e):zIJ (R.take 61)=(0,e):=by
 unfold zIJ;rw[if_neg (by rw[List.length_take];omega),zBq R (by omega),hp]
theorem zJT{R:Bs}{x:PreS}(h:¬R.length<61)(hp:zAI R=.ok x):zIJ (R.take 61)=(x.len+12,0):=by
 unfold zIJ;rw[if_neg (by rw[List.length_take];omega),zBq R (by omega),hp]
theorem zGM{R:Bs}{x:PreS}(hp:zAI R=.ok x)(h:61+(x.len - 49).toNat≤R.length):zBv ((R.take (61+(x.len - 49).toNat)).drop 0)=match asmB x (R.take 61) ((R.drop 61).take (x.len - 49).toNat)with| .error e=> .error e| .ok b=> .ok (b,61+(x.len - 49).toNat):=by
 rw[List.drop_zero];have hl:(R.take (61+(x.len - 49).toNat)).length=61+(x.len - 49).toNat:=by rw[List.length_take];omega
 have hpp:=zFE (R.take (61+(x.len - 49).toNat)) (R.drop (61+(x.len - 49).toNat)) (by rw[hl];omega);rw[List.take_append_drop]at hpp;unfold zBv;rw[←hpp,hp];simp only;rw[if_neg (by rw[hl];omega),List.take_take,Nat.min_eq_left (by omega),List.drop_take,Nat.add_sub_cancel_left,List.take_take,Nat.min_self]
 cases asmB x (R.take 61) ((R.drop 61).take (x.len - 49).toNat)<;>rfl
theorem zLJ{v0:Value}{n0:Nat}{s0:Bs}(h:St W0 w K (.row v0 5 1 n0 (zAt s0)::L)):
  Calls Tryz.prog 137 #[.slice none 0 0] w fun en w'=>en=.returned (.tuple #[.agg #[.int .i64 0,.int .i64 0,.bool false,.bool false,.bool false,.int .i64 0,.int .i64 0,.int .i64 0,.int .i64 0,.int .i64 0,.int .i64 0,.slice none 0 0],.int .i64 0,.int .i64 0])∧St W0 w' K (.row v0 5 1 n0 (zAt s0)::L):=by
 obtain⟨rb,hrb⟩:∃b,w.heap.size=b:=⟨_,rfl⟩;have g1:=(h.allocRaw #[.int .i64 0,.int .i64 0,.bool false,.bool false,.bool false,.int .i64 0,.int .i64 0,.int .i64 0,.int .i64 0,.int .i64 0,.int .i64 0,.slice none 0 0] 30).p1;rw[hrb]at g1;have H:=hQd g1;have hc0:=zNw (w.alloc (.cells #[.int .i64 0,.int .i64 0,.bool false,.bool false,.bool false,.int .i64 0,.int .i64 0,.int .i64 0,.int .i64 0,.int .i64 0,.int .i64 0,.slice none 0 0] 30 (0,0)));clear g1;clear h;go_enter Tryz.func137,Tryz.ntmps137;go_wp2_with (go_at_call 166;(with_reducible refine(zOp H.out).mono ?_);rintro e_ wn ⟨rfl,h⟩;obtain⟨x0,x1,x2,x3,x4,x5,x6,x7,x8,x9,x10,x11,y0,y1,y2,y3,y4,y5,y6,y7,y8,y9,y10,y11⟩:=zAc (b:=rb) (h.p1);replace H:=hQd h;clear h);have hz:St W0 _ _ (.raw rb #[.int .i64 0,.int .i64 0,.bool false,.bool false,.bool false,.int .i64 0,.int .i64 0,.int .i64 0,.int .i64 0,.int .i64 0,.int .i64 0,.slice none 0 0] 30::_):=St.sets12 _ _ _ _ _ _ _ _ _ _ _ _ (H.out.p1);refine bodyPost_ret (zAU rfl _ _ rb [.int .i64 0,.int .i64 0,.bool false,.bool false,.bool false,.int .i64 0,.int .i64 0,.int .i64 0,.int .i64 0,.int .i64 0,.int .i64 0,.slice none 0 0] _ rfl (zAp hz) Tryz.underlying30 rfl (by kernel_rfl)) rfl ?_;exact⟨rfl,hz.drop⟩
theorem zJY{v0:Value}{n0:Nat}{s0:Bs}(ad:Addr)(m c:Nat)(R:Bs)(hm:m=R.length)(hmc:m≤c)(hr:R.length≤1000000)(hcv:∀(W0 w:World) (K:Know) (L:List Res),St W0 w K (.row v0 5 1 n0 (zAt s0)::L)→∀k,k≤m→∀c',(convert 57 9 (.slice (some ad) k c')).run Tryz.prog w=.ok (.string (bb (R.take k))) w)(h61:R.length<61)(h:St W0 w K (.row v0 5 1 n0 (zAt s0)::L)):
  Calls Tryz.prog 137 #[.slice (some ad) m c] w fun en w'=>en=.returned (.tuple #[.agg #[.int .i64 0,.int .i64 0,.bool false,.bool false,.bool false,.int .i64 0,.int .i64 0,.int .i64 0,.int .i64 0,.int .i64 0,.int .i64 0,.slice none 0 0],.int .i64 0,.int .i64 0])∧St W0 w' K (.row v0 5 1 n0 (zAt s0)::L):=by
 obtain⟨rb,hrb⟩:∃b,w.heap.size=b:=⟨_,rfl⟩;have g1:=(h.allocRaw #[.int .i64 0,.int .i64 0,.bool false,.bool false,.bool false,.int .i64 0,.int .i64 0,.int .i64 0,.int .i64 0,.int .i64 0,.int .i64 0,.slice none 0 0] 30).p1;rw[hrb]at g1;have H:=hQd g1;have hmi:(m:Int)≤1000000:=by omega
 have hmci:(m:Int)≤(c:Int):=by omega
 have HCVH:=hQd hcv;have hmin:min (m:Int) 61=(m:Int):=by omega
 have hcw:=hcv _ _ _ _ g1 m (Nat.le_refl _);have ht:R.take m=R:=List.take_of_length_le (by omega);rw[ht]at hcw;have HP:=hQd (zLw h61);have HL:=hQd (show R.length≤140737488355328 by omega);clear g1 ht h61;clear h hcv hm hr;go_enter Tryz.func137,Tryz.ntmps137;go_wp2_with (go_at_call 166;(with_reducible refine(zBc R 0 0 HP.out HL.out H.out).mono ?_);rintro e_ wn ⟨rfl,h⟩;obtain⟨x0,x1,x2,x3,x4,x5,x6,x7,x8,x9,x10,x11,y0,y1,y2,y3,y4,y5,y6,y7,y8,y9,y10,y11⟩:=zAc (b:=rb) (h.p1);replace H:=hQd h;clear h);have hz:St W0 _ _ (.raw rb #[.int .i64 0,.int .i64 0,.bool false,.bool false,.bool false,.int .i64 0,.int .i64 0,.int .i64 0,.int .i64 0,.int .i64 0,.int .i64 0,.slice none 0 0] 30::_):=St.sets12 _ _ _ _ _ _ _ _ _ _ _ _ (H.out.p1);refine bodyPost_ret (zAU rfl _ _ rb [.int .i64 0,.int .i64 0,.bool false,.bool false,.bool false,.int .i64 0,.int .i64 0,.int .i64 0,.int .i64 0,.int .i64 0,.int .i64 0,.slice none 0 0] _ rfl (zAp hz) Tryz.underlying30 rfl (by kernel_rfl)) rfl ?_;exact⟨rfl,hz.drop⟩
theorem zNi{v0:Value}{n0:Nat}{s0:Bs}(ad:Addr)(m c:Nat)(R:Bs)(hm:m=R.length)(hmc:m≤c)(hr:R.length≤1000000)(hcv:∀(W0 w:World) (K:Know) (L:List Res),St W0 w K (.row v0 5 1 n0 (zAt s0)::L)→∀k,k≤m→∀c',(convert 57 9 (.slice (some ad) k c')).run Tryz.prog w=.ok (.string (bb (R.take k))) w)(h61:¬R.length<61)(e:Int)(hp:zAI R=.error e)(h:St W0 w K (.row v0 5 1 n0 (zAt s0)::L)):
   Calls Tryz.prog 137 #[.slice (some ad) m c] w fun en w'=>en=.returned (.tuple #[.agg #[.int .i64 0,.int .i64 0,.bool false,.bool false,.bool false,.int .i64 0,.int .i64 0,.int .i64 0,.int .i64 0,.int .i64 0,.int .i64 0,.slice none 0 0],.int .i64 0,.int .i64 e])∧St W0 w' K (.row v0 5 1 n0 (zAt s0)::L):=by
 obtain⟨rb,hrb⟩:∃b,w.heap.size=b:=⟨_,rfl⟩;have g1:=(h.allocRaw #[.int .i64 0,.int .i64 0,.bool false,.bool false,.bool false,.int .i64 0,.int .i64 0,.int .i64 0,.int .i64 0,.int .i64 0,.int .i64 0,.slice none 0 0] 30).p1;rw[hrb]at g1;have H:=hQd g1;have hmi:(m:Int)≤1000000:=by omega
 have hmci:(m:Int)≤(c:Int):=by omega
 have HCVH:=hQd hcv;have hm61:(61:Int)≤(m:Int):=by omega
 have HL:=hQd (show(R.take 61).length≤140737488355328 by rw[List.length_take];omega);have HP:=hQd (zOq h61 hp);have h0:=zCJ hp;have g1e:(e==0)=false:=by rw[beq_eq_false_iff_ne];exact h0
 have g2e:(e !=0)=true:=by simp[bne,g1e]
 clear hp h0
 by_cases hA:m≤61
 · skip
   have hAi:(m:Int)≤61:=by omega
   have hcw:=hcv _ _ _ _ g1 m (Nat.le_refl _);rw[show R.take m=R.take 61 by rw[show m=61 by omega]]at hcw;clear g1 hA h hcv hm hr;go_enter Tryz.func137,Tryz.ntmps137;go_wp2_with (go_at_call 166;(with_reducible refine(zBc (R.take 61) 0 e HP.out HL.out H.out).mono ?_);rintro e_ wn ⟨rfl,h⟩;obtain⟨x0,x1,x2,x3,x4,x5,x6,x7,x8,x9,x10,x11,y0,y1,y2,y3,y4,y5,y6,y7,y8,y9,y10,y11⟩:=zAc (b:=rb) (h.p1);replace H:=hQd h;clear h);have hz:St W0 _ _ (.raw rb #[.int .i64 0,.int .i64 0,.bool false,.bool false,.bool false,.int .i64 0,.int .i64 0,.int .i64 0,.int .i64 0,.int .i64 0,.int .i64 0,.slice none 0 0] 30::_):=St.sets12 _ _ _ _ _ _ _ _ _ _ _ _ (H.out.p1);refine bodyPost_ret (zAU rfl _ _ rb [.int .i64 0,.int .i64 0,.bool false,.bool false,.bool false,.int .i64 0,.int .i64 0,.int .i64 0,.int .i64 0,.int .i64 0,.int .i64 0,.slice none 0 0] _ rfl (zAp hz) Tryz.underlying30 rfl (by kernel_rfl)) rfl ?_;exact⟨rfl,hz.drop⟩
 · skip
   have hAi:¬(m:Int)≤61:=by omega
   have hcw:=hcv _ _ _ _ g1 61 (by omega);clear g1 hA h hcv hm hr;go_enter Tryz.func137,Tryz.ntmps137;go_wp2_with (go_at_call 166;(with_reducible refine(zBc (R.take 61) 0 e HP.out HL.out H.out).mono ?_);rintro e_ wn ⟨rfl,h⟩;obtain⟨x0,x1,x2,x3,x4,x5,x6,x7,x8,x9,x10,x11,y0,y1,y2,y3,y4,y5,y6,y7,y8,y9,y10,y11⟩:=zAc (b:=rb) (h.p1);replace H:=hQd h;clear h);have hz:St W0 _ _ (.raw rb #[.int .i64 0,.int .i64 0,.bool false,.bool false,.bool false,.int .i64 0,.int .i64 0,.int .i64 0,.int .i64 0,.int .i64 0,.int .i64 0,.slice none 0 0] 30::_):=St.sets12 _ _ _ _ _ _ _ _ _ _ _ _ (H.out.p1);refine bodyPost_ret (zAU rfl _ _ rb [.int .i64 0,.int .i64 0,.bool false,.bool false,.bool false,.int .i64 0,.int .i64 0,.int .i64 0,.int .i64 0,.int .i64 0,.int .i64 0,.slice none 0 0] _ rfl (zAp hz) Tryz.underlying30 rfl (by kernel_rfl)) rfl ?_;exact⟨rfl,hz.drop⟩
theorem zLI{v0:Value}{n0:Nat}{s0:Bs}(ad:Addr)(m c:Nat)(R:Bs)(hm:m=R.length)(hmc:m≤c)(hr:R.length≤1000000)(hcv:∀(W0 w:World) (K:Know) (L:List Res),St W0 w K (.row v0 5 1 n0 (zAt s0)::L)→∀k,k≤m→∀c',(convert 57 9 (.slice (some ad) k c')).run Tryz.prog w=.ok (.string (bb (R.take k))) w)(h61:¬R.length<61)(x:PreS)(hp:zAI R=.ok x)(ht:R.length<61+(x.len - 49).toNat)(h:St W0 w K (.row v0 5 1 n0 (zAt s0)::L)):
   Calls Tryz.prog 137 #[.slice (some ad) m c] w fun en w'=>en=.returned (.tuple #[.agg #[.int .i64 0,.int .i64 0,.bool false,.bool false,.bool false,.int .i64 0,.int .i64 0,.int .i64 0,.int .i64 0,.int .i64 0,.int .i64 0,.slice none 0 0],.int .i64 0,.int .i64 0])∧St W0 w' K (.row v0 5 1 n0 (zAt s0)::L):=by
 obtain⟨rb,hrb⟩:∃b,w.heap.size=b:=⟨_,rfl⟩;have g1:=(h.allocRaw #[.int .i64 0,.int .i64 0,.bool false,.bool false,.bool false,.int .i64 0,.int .i64 0,.int .i64 0,.int .i64 0,.int .i64 0,.int .i64 0,.slice none 0 0] 30).p1;rw[hrb]at g1;have H:=hQd g1;have hmi:(m:Int)≤1000000:=by omega
 have hmci:(m:Int)≤(c:Int):=by omega
 have HCVH:=hQd hcv;have hm61:(61:Int)≤(m:Int):=by omega
 have HL:=hQd (show(R.take 61).length≤140737488355328 by rw[List.length_take];omega);have hpl:=(zBE hp).2.2.2.1;obtain⟨nl,hnl⟩:∃nl,x.len+12=nl:=⟨_,rfl⟩;have HP:=hQd (zJT h61 hp);rw[hnl]at HP;have hlt:(m:Int)<nl:=by omega
 clear hp ht hpl hnl
 by_cases hA:m≤61
 · skip
   have hAi:(m:Int)≤61:=by omega
   have hcw:=hcv _ _ _ _ g1 m (Nat.le_refl _);rw[show R.take m=R.take 61 by rw[show m=61 by omega]]at hcw;clear g1 hA h hcv hm hr;go_enter Tryz.func137,Tryz.ntmps137;go_wp2_with (go_at_call 166;(with_reducible refine(zBc (R.take 61) nl 0 HP.out HL.out H.out).mono ?_);rintro e_ wn ⟨rfl,h⟩;obtain⟨x0,x1,x2,x3,x4,x5,x6,x7,x8,x9,x10,x11,y0,y1,y2,y3,y4,y5,y6,y7,y8,y9,y10,y11⟩:=zAc (b:=rb) (h.p1);replace H:=hQd h;clear h);have hz:St W0 _ _ (.raw rb #[.int .i64 0,.int .i64 0,.bool false,.bool false,.bool false,.int .i64 0,.int .i64 0,.int .i64 0,.int .i64 0,.int .i64 0,.int .i64 0,.slice none 0 0] 30::_):=St.sets12 _ _ _ _ _ _ _ _ _ _ _ _ (H.out.p1);refine bodyPost_ret (zAU rfl _ _ rb [.int .i64 0,.int .i64 0,.bool false,.bool false,.bool false,.int .i64 0,.int .i64 0,.int .i64 0,.int .i64 0,.int .i64 0,.int .i64 0,.slice none 0 0] _ rfl (zAp hz) Tryz.underlying30 rfl (by kernel_rfl)) rfl ?_;exact⟨rfl,hz.drop⟩
 · skip
   have hAi:¬(m:Int)≤61:=by omega
   have hcw:=hcv _ _ _ _ g1 61 (by omega);clear g1 hA h hcv hm hr;go_enter Tryz.func137,Tryz.ntmps137;go_wp2_with (go_at_call 166;(with_reducible refine(zBc (R.take 61) nl 0 HP.out HL.out H.out).mono ?_);rintro e_ wn ⟨rfl,h⟩;obtain⟨x0,x1,x2,x3,x4,x5,x6,x7,x8,x9,x10,x11,y0,y1,y2,y3,y4,y5,y6,y7,y8,y9,y10,y11⟩:=zAc (b:=rb) (h.p1);replace H:=hQd h;clear h);have hz:St W0 _ _ (.raw rb #[.int .i64 0,.int .i64 0,.bool false,.bool false,.bool false,.int .i64 0,.int .i64 0,.int .i64 0,.int .i64 0,.int .i64 0,.int .i64 0,.slice none 0 0] 30::_):=St.sets12 _ _ _ _ _ _ _ _ _ _ _ _ (H.out.p1);refine bodyPost_ret (zAU rfl _ _ rb [.int .i64 0,.int .i64 0,.bool false,.bool false,.bool false,.int .i64 0,.int .i64 0,.int .i64 0,.int .i64 0,.int .i64 0,.int .i64 0,.slice none 0 0] _ rfl (zAp hz) Tryz.underlying30 rfl (by kernel_rfl)) rfl ?_;exact⟨rfl,hz.drop⟩
variable {W0 w:World}{K:Know}{L:List Res}
theorem zq2{p:Prop}(h:p:=by
  go_wp2_with (first
   |(go_at_call 166;(with_reducible refine(zBc (R.take 61) nn 0 HP.out HL.out H.out).mono ?_);rintro e_ wn ⟨rfl,h⟩;have hcx:=HCVH.out _ _ _ _ h nn HNM.out;replace H:=hQd h;clear h)
   |(go_at_call 156;(with_reducible refine(zDf (R.take nn) HT2.out H.out).mono ?_);rintro e_ wn ⟨bi,rfl,h⟩;replace H:=hQd h;clear h)
   |(go_at_call 167;(with_reducible refine(zHZ bi (R.take nn) 0 HT.out (Nat.zero_le _) b nn HRB.out H.out).mono ?_);rintro e_ wn ⟨q,l,cap2,rfl,hlr,h⟩;have HLR:=hQd hlr;clear hlr;obtain⟨xb,hxb⟩:∃b,wn.heap.size=b:=⟨_,rfl⟩;have h:=h.allocRaw #[.int .i64 b.base,.int .i64 b.leader,.bool b.app,.bool b.txn,.bool b.ctl,.int .i64 b.last,.int .i64 b.first,.int .i64 b.maxt,.int .i64 b.prod,.int .i64 b.epoch,.int .i64 b.seq,.slice q l.length cap2] 30;rw[hxb]at h;replace H:=hQd h;clear h))
  have hs:=H.out.drew;refine wp_region_held_drew (S:=fun w'=>w'.cell? ⟨xb,0,none⟩=some (.int .i64 b.base)∧w'.cell? ⟨xb,1,none⟩=some (.int .i64 b.leader)∧w'.cell? ⟨xb,2,none⟩=some (.bool b.app)∧w'.cell? ⟨xb,3,none⟩=some (.bool b.txn)∧w'.cell? ⟨xb,4,none⟩=some (.bool b.ctl)∧w'.cell? ⟨xb,5,none⟩=some (.int .i64 b.last)∧w'.cell? ⟨xb,6,none⟩=some (.int .i64 b.first)∧w'.cell? ⟨xb,7,none⟩=some (.int .i64 b.maxt)∧w'.cell? ⟨xb,8,none⟩=some (.int .i64 b.prod)∧w'.cell? ⟨xb,9,none⟩=some (.int .i64 b.epoch)∧w'.cell? ⟨xb,10,none⟩=some (.int .i64 b.seq)∧w'.cell? ⟨xb,11,none⟩=some (.slice q l.length cap2)) (by kernel_rfl) (let ⟨x0,x1,x2,x3,x4,x5,x6,x7,x8,x9,x10,x11,_⟩:=zAc (b:=xb) (hs);⟨x0,x1,x2,x3,x4,x5,x6,x7,x8,x9,x10,x11⟩) (fun hHeld=> ?_);refine tQ 0 ⟨some 42,.load 30 (.tmp 9),30,_,_,none⟩ ?_;simp only[Act.put,sA,sB,sC];refine tQ 1 ⟨some 43,.move (.tmp 6),3,_,_,none⟩ ?_;simp only[Act.put,sA,sB,sC];refine tQ 2 ⟨some 44,.move (.tmp 8),214,_,_,none⟩ ?_;simp only[Act.put,sA,sB,sC];refine wpAnyH_ready (rs:=[3]) (by kernel_rfl) (by simp) (AllReadyH.cons (o:=⟨some 45,.call {callee:=.value (.func 168),args:= #[.tmp 44],argTypes:= #[214]},44,_,_,none⟩) rfl (fun KK hK=> ?_) AllReadyH.nil);go_simp;go_at_call 168;with_reducible refine(zO3 bi _ 0 rfl hs.p1).mono ?_;rintro e wq ⟨rfl,hs⟩;refine hK.out _ _ (let ⟨x0,x1,x2,x3,x4,x5,x6,x7,x8,x9,x10,x11,_⟩:=zAc (b:=xb) (hs.p1);⟨x0,x1,x2,x3,x4,x5,x6,x7,x8,x9,x10,x11⟩) (fun hHeld=> ?_);clear hK KK
  try simp only[Act.put,sA,sB,sC]
  refine wpAnyH_ready (rs:=[4]) (by kernel_rfl) (by simp) (AllReadyH.cons (o:=⟨none,.store 30 (.tmp 2) (.tmp 42),0,_,_,none⟩) rfl (fun KK hK=> ?_) AllReadyH.nil);have hs:=hs.p3;rw[if_pos (by rfl)];refine wp_store_mid 30 (.tmp 2) (.tmp 42) rfl rb 0 #[.int .i64 b.base,.int .i64 b.leader,.bool b.app,.bool b.txn,.bool b.ctl,.int .i64 b.last,.int .i64 b.first,.int .i64 b.maxt,.int .i64 b.prod,.int .i64 b.epoch,.int .i64 b.seq,.slice q l.length cap2] (by rfl) (by rfl) hs.there (by kernel_rfl) (by simp[Value.oneCell']) ?_;obtain⟨wz,ez,hs⟩:=hs.storeEx #[.int .i64 b.base,.int .i64 b.leader,.bool b.app,.bool b.txn,.bool b.ctl,.int .i64 b.last,.int .i64 b.first,.int .i64 b.maxt,.int .i64 b.prod,.int .i64 b.epoch,.int .i64 b.seq,.slice q l.length cap2];rw[ez];clear ez;rw[zB2]at hs;rotate_left
  · rfl
  refine hK.out _ _ (let ⟨x0,x1,x2,x3,x4,x5,x6,x7,x8,x9,x10,x11,_⟩:=zAc (b:=xb) (hs.p2);⟨x0,x1,x2,x3,x4,x5,x6,x7,x8,x9,x10,x11⟩) (fun hHeld=> ?_);clear hK KK
  try simp only[Act.put,sA,sB,sC]
  refine tQ 5 ⟨some 3,.assign (.tmp 43),3,_,_,none⟩ ?_;simp only[Act.put,sA,sB,sC];refine tQ 6 ⟨some 4,.assign (.tmp 45),44,_,_,none⟩ ?_;simp only[Act.put,sA,sB,sC];refine wpAnyH_done (by kernel_rfl) ?_ _;clear hHeld;go_wp2_with fail;refine bodyPost_ret (zAU rfl _ _ rb [.int .i64 b.base,.int .i64 b.leader,.bool b.app,.bool b.txn,.bool b.ctl,.int .i64 b.last,.int .i64 b.first,.int .i64 b.maxt,.int .i64 b.prod,.int .i64 b.epoch,.int .i64 b.seq,.slice q l.length cap2] _ rfl (zAp hs) Tryz.underlying30 rfl (by kernel_rfl)) rfl ?_;exact⟨q,l,cap2,rfl,HLR.out,hs.drop.drop.drop⟩):p:=h
theorem zLK{v0:Value}{n0:Nat}{s0:Bs}(ad:Addr)(m c:Nat)(R:Bs)(hm:m=R.length)(hmc:m≤c)(hr:R.length≤1000000)(hcv:∀(W0 w:World) (K:Know) (L:List Res),St W0 w K (.row v0 5 1 n0 (zAt s0)::L)→∀k,k≤m→∀c',(convert 57 9 (.slice (some ad) k c')).run Tryz.prog w=.ok (.string (bb (R.take k))) w)(h61:¬R.length<61)(x:PreS)(hp:zAI R=.ok x)(nn:Nat)(hnn:nn=61+(x.len - 49).toNat)(ht:nn≤R.length)(b:BatS)(hrb:zBv ((R.take nn).drop 0)=.ok (b,nn))(h:St W0 w K (.row v0 5 1 n0 (zAt s0)::L)):
   Calls Tryz.prog 137 #[.slice (some ad) m c] w fun en w'=>∃(q:Option Addr) (l:List (RecS×Value)) (cap2:Nat),en=.returned (.tuple #[.agg #[.int .i64 b.base,.int .i64 b.leader,.bool b.app,.bool b.txn,.bool b.ctl,.int .i64 b.last,.int .i64 b.first,.int .i64 b.maxt,.int .i64 b.prod,.int .i64 b.epoch,.int .i64 b.seq,.slice q l.length cap2],.int .i64 nn,.int .i64 0])∧l.map (·.1)=b.recs∧St W0 w' (K.and (Know.recs (.slice q l.length cap2) l)) (.row v0 5 1 n0 (zAt s0)::L):=by
 obtain⟨rb,hrb0⟩:∃b,w.heap.size=b:=⟨_,rfl⟩;have g1:=(h.allocRaw #[.int .i64 0,.int .i64 0,.bool false,.bool false,.bool false,.int .i64 0,.int .i64 0,.int .i64 0,.int .i64 0,.int .i64 0,.int .i64 0,.slice none 0 0] 30).p1;rw[hrb0]at g1;have H:=hQd g1;have hmi:(m:Int)≤1000000:=by omega
 have hmci:(m:Int)≤(c:Int):=by omega
 have HCVH:=hQd hcv;have hm61:(61:Int)≤(m:Int):=by omega
 have HL:=hQd (show(R.take 61).length≤140737488355328 by rw[List.length_take];omega);have hpl:=(zBE hp).2.2.2.1;have hnl:x.len+12=(nn:Int):=by omega
 have HP:=hQd (zJT h61 hp);rw[hnl]at HP;have hlt:¬(m:Int)<(nn:Int):=by omega
 have hle:(nn:Int)≤(m:Int):=by omega
 have hn61:(61:Int)≤(nn:Int):=by omega
 have g0n:((nn:Int)==0)=false:=by rw[beq_eq_false_iff_ne];omega
 have g0m:((nn:Int) !=0)=true:=by simp[bne,g0n]
 have hnm:nn≤m:=by omega
 have HNM:=hQd hnm;have HT:=hQd (show(R.take nn).length≤1000000 by rw[List.length_take];omega);have HT2:=hQd (show(R.take nn).length≤140737488355328 by rw[List.length_take];omega);have HRB:=hQd hrb;clear hp hpl hnl ht hnm hrb
 by_cases hA:m≤61
 · skip
   have hAi:(m:Int)≤61:=by omega
   have hcw:=hcv _ _ _ _ g1 m (Nat.le_refl _);rw[show R.take m=R.take 61 by rw[show m=61 by omega]]at hcw;clear g1 hA h hnn h61 hcv hm hr;go_enter Tryz.func137,Tryz.ntmps137
   exact zq2
 · skip
   have hAi:¬(m:Int)≤61:=by omega
   have hcw:=hcv _ _ _ _ g1 61 (by omega);clear g1 hA h hnn h61 hcv hm hr;go_enter Tryz.func137,Tryz.ntmps137
   exact zq2
theorem zq3{p:Prop}(h:p:=by
  go_wp2_with (first
   |(go_at_call 166;(with_reducible refine(zBc (R.take 61) nn 0 HP.out HL.out H.out).mono ?_);rintro e_ wn ⟨rfl,h⟩;have hcx:=HCVH.out _ _ _ _ h nn HNM.out;replace H:=hQd h;clear h)
   |(go_at_call 156;(with_reducible refine(zDf (R.take nn) HT2.out H.out).mono ?_);rintro e_ wn ⟨bi,rfl,h⟩;replace H:=hQd h;clear h)
   |(go_at_call 167;(with_reducible refine(zJn bi (R.take nn) 0 HT.out (Nat.zero_le _) e HRB.out H.out).mono ?_);rintro e_ wn ⟨rfl,qq,_,h⟩;obtain⟨xb,hxb⟩:∃b,wn.heap.size=b:=⟨_,rfl⟩;have h:=h.allocRaw #[.int .i64 0,.int .i64 0,.bool false,.bool false,.bool false,.int .i64 0,.int .i64 0,.int .i64 0,.int .i64 0,.int .i64 0,.int .i64 0,.slice none 0 0] 30;rw[hxb]at h;replace H:=hQd h;clear h))
  have hs:=H.out.drew;refine wp_region_held_drew (S:=fun w'=>w'.cell? ⟨xb,0,none⟩=some (.int .i64 0)∧w'.cell? ⟨xb,1,none⟩=some (.int .i64 0)∧w'.cell? ⟨xb,2,none⟩=some (.bool false)∧w'.cell? ⟨xb,3,none⟩=some (.bool false)∧w'.cell? ⟨xb,4,none⟩=some (.bool false)∧w'.cell? ⟨xb,5,none⟩=some (.int .i64 0)∧w'.cell? ⟨xb,6,none⟩=some (.int .i64 0)∧w'.cell? ⟨xb,7,none⟩=some (.int .i64 0)∧w'.cell? ⟨xb,8,none⟩=some (.int .i64 0)∧w'.cell? ⟨xb,9,none⟩=some (.int .i64 0)∧w'.cell? ⟨xb,10,none⟩=some (.int .i64 0)∧w'.cell? ⟨xb,11,none⟩=some (.slice none 0 0)) (by kernel_rfl) (let ⟨x0,x1,x2,x3,x4,x5,x6,x7,x8,x9,x10,x11,_⟩:=zAc (b:=xb) (hs);⟨x0,x1,x2,x3,x4,x5,x6,x7,x8,x9,x10,x11⟩) (fun hHeld=> ?_);refine tQ 0 ⟨some 42,.load 30 (.tmp 9),30,_,_,none⟩ ?_;simp only[Act.put,sA,sB,sC];refine tQ 1 ⟨some 43,.move (.tmp 6),3,_,_,none⟩ ?_;simp only[Act.put,sA,sB,sC];refine tQ 2 ⟨some 44,.move (.tmp 8),214,_,_,none⟩ ?_;simp only[Act.put,sA,sB,sC];refine wpAnyH_ready (rs:=[3]) (by kernel_rfl) (by simp) (AllReadyH.cons (o:=⟨some 45,.call {callee:=.value (.func 168),args:= #[.tmp 44],argTypes:= #[214]},44,_,_,none⟩) rfl (fun KK hK=> ?_) AllReadyH.nil);go_simp;go_at_call 168;with_reducible refine(zO3 bi _ e rfl hs.p1).mono ?_;rintro e wq ⟨rfl,hs⟩;refine hK.out _ _ (let ⟨x0,x1,x2,x3,x4,x5,x6,x7,x8,x9,x10,x11,_⟩:=zAc (b:=xb) (hs.p1);⟨x0,x1,x2,x3,x4,x5,x6,x7,x8,x9,x10,x11⟩) (fun hHeld=> ?_);clear hK KK
  try simp only[Act.put,sA,sB,sC]
  refine wpAnyH_ready (rs:=[4]) (by kernel_rfl) (by simp) (AllReadyH.cons (o:=⟨none,.store 30 (.tmp 2) (.tmp 42),0,_,_,none⟩) rfl (fun KK hK=> ?_) AllReadyH.nil);have hs:=hs.p3;rw[if_pos (by rfl)];refine wp_store_mid 30 (.tmp 2) (.tmp 42) rfl rb 0 #[.int .i64 0,.int .i64 0,.bool false,.bool false,.bool false,.int .i64 0,.int .i64 0,.int .i64 0,.int .i64 0,.int .i64 0,.int .i64 0,.slice none 0 0] (by rfl) (by rfl) hs.there (by kernel_rfl) (by simp[Value.oneCell']) ?_;obtain⟨wz,ez,hs⟩:=hs.storeEx #[.int .i64 0,.int .i64 0,.bool false,.bool false,.bool false,.int .i64 0,.int .i64 0,.int .i64 0,.int .i64 0,.int .i64 0,.int .i64 0,.slice none 0 0];rw[ez];clear ez;rw[zB2]at hs;rotate_left
  · rfl
  refine hK.out _ _ (let ⟨x0,x1,x2,x3,x4,x5,x6,x7,x8,x9,x10,x11,_⟩:=zAc (b:=xb) (hs.p2);⟨x0,x1,x2,x3,x4,x5,x6,x7,x8,x9,x10,x11⟩) (fun hHeld=> ?_);clear hK KK
  try simp only[Act.put,sA,sB,sC]
  refine tQ 5 ⟨some 3,.assign (.tmp 43),3,_,_,none⟩ ?_;simp only[Act.put,sA,sB,sC];refine tQ 6 ⟨some 4,.assign (.tmp 45),44,_,_,none⟩ ?_;simp only[Act.put,sA,sB,sC];refine wpAnyH_done (by kernel_rfl) ?_ _;clear hHeld;go_wp2_with fail;refine bodyPost_ret (zAU rfl _ _ rb [.int .i64 0,.int .i64 0,.bool false,.bool false,.bool false,.int .i64 0,.int .i64 0,.int .i64 0,.int .i64 0,.int .i64 0,.int .i64 0,.slice none 0 0] _ rfl (zAp hs) Tryz.underlying30 rfl (by kernel_rfl)) rfl ?_;exact⟨rfl,hs.drop.drop.drop⟩):p:=h
theorem zNj{v0:Value}{n0:Nat}{s0:Bs}(ad:Addr)(m c:Nat)(R:Bs)(hm:m=R.length)(hmc:m≤c)(hr:R.length≤1000000)(hcv:∀(W0 w:World) (K:Know) (L:List Res),St W0 w K (.row v0 5 1 n0 (zAt s0)::L)→∀k,k≤m→∀c',(convert 57 9 (.slice (some ad) k c')).run Tryz.prog w=.ok (.string (bb (R.take k))) w)(h61:¬R.length<61)(x:PreS)(hp:zAI R=.ok x)(nn:Nat)(hnn:nn=61+(x.len - 49).toNat)(ht:nn≤R.length)(e:Int)(hrb:zBv ((R.take nn).drop 0)=.error e)(h:St W0 w K (.row v0 5 1 n0 (zAt s0)::L)):
   Calls Tryz.prog 137 #[.slice (some ad) m c] w fun en w'=>en=.returned (.tuple #[.agg #[.int .i64 0,.int .i64 0,.bool false,.bool false,.bool false,.int .i64 0,.int .i64 0,.int .i64 0,.int .i64 0,.int .i64 0,.int .i64 0,.slice none 0 0],.int .i64 nn,.int .i64 e])∧St W0 w' K (.row v0 5 1 n0 (zAt s0)::L):=by
 obtain⟨rb,hrb0⟩:∃b,w.heap.size=b:=⟨_,rfl⟩;have g1:=(h.allocRaw #[.int .i64 0,.int .i64 0,.bool false,.bool false,.bool false,.int .i64 0,.int .i64 0,.int .i64 0,.int .i64 0,.int .i64 0,.int .i64 0,.slice none 0 0] 30).p1;rw[hrb0]at g1;have H:=hQd g1;have hmi:(m:Int)≤1000000:=by omega
 have hmci:(m:Int)≤(c:Int):=by omega
 have HCVH:=hQd hcv;have hm61:(61:Int)≤(m:Int):=by omega
 have HL:=hQd (show(R.take 61).length≤140737488355328 by rw[List.length_take];omega);have hpl:=(zBE hp).2.2.2.1;have hnl:x.len+12=(nn:Int):=by omega
 have HP:=hQd (zJT h61 hp);rw[hnl]at HP;have hlt:¬(m:Int)<(nn:Int):=by omega
 have hle:(nn:Int)≤(m:Int):=by omega
 have hn61:(61:Int)≤(nn:Int):=by omega
 have g0n:((nn:Int)==0)=false:=by rw[beq_eq_false_iff_ne];omega
 have g0m:((nn:Int) !=0)=true:=by simp[bne,g0n]
 have hnm:nn≤m:=by omega
 have HNM:=hQd hnm;have HT:=hQd (show(R.take nn).length≤1000000 by rw[List.length_take];omega);have HT2:=hQd (show(R.take nn).length≤140737488355328 by rw[List.length_take];omega);have HRB:=hQd hrb;clear hp hpl hnl ht hnm hrb
 by_cases hA:m≤61
 · skip
   have hAi:(m:Int)≤61:=by omega
   have hcw:=hcv _ _ _ _ g1 m (Nat.le_refl _);rw[show R.take m=R.take 61 by rw[show m=61 by omega]]at hcw;clear g1 hA h hnn h61 hcv hm hr;go_enter Tryz.func137,Tryz.ntmps137
   exact zq3
 · skip
   have hAi:¬(m:Int)≤61:=by omega
   have hcw:=hcv _ _ _ _ g1 61 (by omega);clear g1 hA h hnn h61 hcv hm hr;go_enter Tryz.func137,Tryz.ntmps137
   exact zq3
open Go
def Exit.jumps (J:Nat→Act→World→Prop) (Q:Exit→Act→World→Prop):Exit→Act→World→Prop
  | .goto l,a,w=>J l a w
  |e,a,w=>Q e a w
theorem zIf{P:Program}{a:Act}{w:World}{Q:Exit→Act→World→Prop}{c:Code}(J:Nat→Act→World→Prop)(μ:Nat→Act→World→Nat)(hf:∀l a w,J l a w→∃r,findLabel c l=some r)
    (first:c.wp P (Exit.jumps J Q) a w)
    (pass:∀l r a w,J l a w→findLabel c l=some r→r.wp P (Exit.jumps (fun l' a' w'=>J l' a' w'∧μ l' a' w'<μ l a w) Q) a w):(Code.scope c).wp P Q a w:=by
  intro b k cs
  have go:∀n l a w,μ l a w=n→J l a w→∃r,findLabel c l=some r∧∃e a' w',Q e a' w'∧Arrives P (lone (b.at a (.code r::.inScope c::k)) cs w) b k cs e a' w':=by
    intro n
    induction n using Nat.strongRecOn with
    | _ n ih=>
      intro l a w hn hJ;obtain⟨r,hr⟩:=hf l a w hJ;refine⟨r,hr,?_⟩;obtain⟨e,a₁,w₁,hq,hto⟩:=pass l r a w hJ hr b (.inScope c::k) cs
      match e,hq,hto with
      | .normal,hq,hto=>exact⟨.normal,a₁,w₁,hq,Steps.trans hto (.one step_inScope)⟩
      | .exit id,hq,hto=>exact⟨.exit id,a₁,w₁,hq,fun k' hk=>hto k' (by simp[exitTo,hk])⟩
      | .goto l',hq,hto=>
        obtain⟨hJ',hlt⟩:=hq;obtain⟨r2,hr2,e₂,a₂,w₂,hq₂,hto₂⟩:=ih _ (by omega) l' a₁ w₁ rfl hJ';exact⟨e₂,a₂,w₂,hq₂,.of_steps (hto _ (by simp[gotoIn,hr2])) hto₂⟩
      | .ret,hq,hto=>exact⟨_,a₁,w₁,hq,hto⟩
      | .panic ch,hq,hto=>exact⟨_,a₁,w₁,hq,hto⟩
      | .outgrown,hq,hto=>exact⟨_,a₁,w₁,hq,hto⟩
  obtain⟨e,a₁,w₁,hq,hto⟩:=first b (.inScope c::k) cs
  match e,hq,hto with
  | .normal,hq,hto=>exact⟨.normal,a₁,w₁,hq,.head step_scope (Steps.trans hto (.one step_inScope))⟩
  | .exit id,hq,hto=>exact⟨.exit id,a₁,w₁,hq,fun k' hk=> .head step_scope (hto k' (by simp[exitTo,hk]))⟩
  | .goto l',hq,hto=>
    obtain⟨r2,hr2,e₂,a₂,w₂,hq₂,hto₂⟩:=go _ l' a₁ w₁ rfl hq;exact⟨e₂,a₂,w₂,hq₂,.of_steps (.head step_scope (hto _ (by simp[gotoIn,hr2]))) hto₂⟩
  | .ret,hq,hto=>exact⟨_,a₁,w₁,hq,.of_steps (.one step_scope) hto⟩
  | .panic ch,hq,hto=>exact⟨_,a₁,w₁,hq,.of_steps (.one step_scope) hto⟩
  | .outgrown,hq,hto=>exact⟨_,a₁,w₁,hq,.of_steps (.one step_scope) hto⟩
theorem zMf{P:Program}{a:Act}{w:World}{Q:Exit→Act→World→Prop}{c rest0 rest1:Code}(J:Nat→Act→World→Prop)(μ:Nat→Act→World→Nat)(hl:∀l a w,J l a w→l=0∨l=1)(h0:findLabel c 0=some (Code.skip.seq rest0))(h1:findLabel c 1=some (Code.skip.seq rest1))
    (first:(∀a w,J 0 a w→rest0.wp P (Exit.jumps J Q) a w)→c.wp P (Exit.jumps J Q) a w)
    (pass0:∀a w,J 0 a w→rest0.wp P (Exit.jumps (fun l' a' w'=>J l' a' w'∧μ l' a' w'<μ 0 a w) Q) a w)
    (pass1:∀a w,J 1 a w→rest1.wp P (Exit.jumps (fun l' a' w'=>J l' a' w'∧μ l' a' w'<μ 1 a w) Q) a w):(Code.scope c).wp P Q a w:=by
  have skip:∀(rest:Code) (Q:Exit→Act→World→Prop) a w,rest.wp P Q a w→(Code.skip.seq rest).wp P Q a w:=fun rest Q a w h=>wp_seq_k fun K hK=>wp_skip (hK _ _ h)
  refine zIf J μ (fun l a w h=> ?_) (first fun a w h=>Code.wp_mono ?_ (pass0 a w h)) (fun l r a w h hr=> ?_)
  · rcases hl l a w h with rfl|rfl
    · exact⟨_,h0⟩
    · exact⟨_,h1⟩
  · intro e a' w' hq
    cases e with
    |goto l'=>exact hq.1
    | _=>exact hq
  · rcases hl l a w h with rfl|rfl
    · rw[h0]at hr
      cases hr
      exact skip _ _ _ _ (pass0 a w h)
    · rw[h1]at hr
      cases hr
      exact skip _ _ _ _ (pass1 a w h)
end Go.Proofs.YtenojajfacacoaaGreatDoor
namespace Go.Proofs.YtenojajfacacoaaGreatDoor
open Go.RowKit
structure EndS where
  n1:Int
  n2:Int
  n3:Int
  n4:Int
  n5:Int
def EndS.R (x:EndS):Prop:=Rn x.n1∧Rn x.n2∧Rn x.n3∧Rn x.n4∧Rn x.n5
def zAK (x:BatR):List Value:=[.int .i64 x.b.base,.int .i64 x.b.leader,.bool x.b.app,.bool x.b.txn,.bool x.b.ctl,.int .i64 x.b.last,.int .i64 x.b.first,.int .i64 x.b.maxt,.int .i64 x.b.prod,.int .i64 x.b.epoch,.int .i64 x.b.seq,.slice x.q x.l.length x.cap]
structure Good1 (x:BatR):Prop where
  so:SmallOk x.b
  recs:x.l.map (·.1)=x.b.recs
  len:x.b.enc.length≤14000
  told:x.b.ctl=true→(zB5 x.b).2.2.2.2.2=true
theorem zDJ:zER Tryz.prog 30 (.agg #[.int .i64 0,.int .i64 0,.bool false,.bool false,.bool false,.int .i64 0,.int .i64 0,.int .i64 0,.int .i64 0,.int .i64 0,.int .i64 0,.slice none 0 0]) 12 96:=zCw (by kernel_rfl) rfl (by decide)
variable {W0 w:World}{K:Know}{L:List Res}
def zLY (v0:Value) (n0:Nat) (s0:Bs) (R:Bs) (v:Value):Prop:=
  (v=.slice none 0 0∧R=[])∨∃ad c,v=.slice (some ad) R.length c∧R.length≤c∧∀(W0 w:World) (K:Know) (L:List Res),St W0 w K (.row v0 5 1 n0 (zAt s0)::L)→∀k,k≤R.length→∀c',(convert 57 9 (.slice (some ad) k c')).run Tryz.prog w=.ok (.string (bb (R.take k))) w
theorem zCd{v0:Value}{n0:Nat}{s0:Bs}(R:Bs)(v:Value)(hv:zLY v0 n0 s0 R v)(hr:R.length≤1000000)(hf:zAn R=.ok none)(h:St W0 w K (.row v0 5 1 n0 (zAt s0)::L)):
  Calls Tryz.prog 137 #[v] w fun en w'=>en=.returned (.tuple #[.agg #[.int .i64 0,.int .i64 0,.bool false,.bool false,.bool false,.int .i64 0,.int .i64 0,.int .i64 0,.int .i64 0,.int .i64 0,.int .i64 0,.slice none 0 0],.int .i64 0,.int .i64 0])∧St W0 w' K (.row v0 5 1 n0 (zAt s0)::L):=by
 rcases hv with ⟨rfl,_⟩|⟨ad,c,rfl,hc,hcv⟩
 · exact zLJ h
 unfold zAn at hf
 by_cases c1:R.length<61
 · exact zJY ad R.length c R rfl hc hr hcv c1 h
 rw[if_neg c1]at hf
 cases hp:zAI R with
 |error e=>rw[hp]at hf;cases hf
 |ok x=>
  rw[hp]at hf;simp only at hf
  by_cases c2:R.length<61+(x.len - 49).toNat
  · exact zLI ad R.length c R rfl hc hr hcv c1 x hp c2 h
  rw[if_neg c2]at hf
  cases ha:asmB x (R.take 61) ((R.drop 61).take (x.len - 49).toNat)with
  |error e=>rw[ha]at hf;cases hf
  |ok b=>rw[ha]at hf;cases hf
theorem zHH{v0:Value}{n0:Nat}{s0:Bs}(R:Bs)(v:Value)(hv:zLY v0 n0 s0 R v)(hr:R.length≤1000000)(e:Int)(hf:zAn R=.error e)(h:St W0 w K (.row v0 5 1 n0 (zAt s0)::L)):
  Calls Tryz.prog 137 #[v] w fun en w'=>∃n:Nat,en=.returned (.tuple #[.agg #[.int .i64 0,.int .i64 0,.bool false,.bool false,.bool false,.int .i64 0,.int .i64 0,.int .i64 0,.int .i64 0,.int .i64 0,.int .i64 0,.slice none 0 0],.int .i64 n,.int .i64 e])∧St W0 w' K (.row v0 5 1 n0 (zAt s0)::L):=by
 unfold zAn at hf
 by_cases c1:R.length<61
 · rw[if_pos c1]at hf;cases hf
 rcases hv with ⟨_,rfl⟩|⟨ad,c,rfl,hc,hcv⟩
 · exact absurd (by decide) c1
 rw[if_neg c1]at hf
 cases hp:zAI R with
 |error e2=>
  rw[hp]at hf
  cases hf
  exact(zNi ad R.length c R rfl hc hr hcv c1 e hp h).mono fun _ _ hh=>⟨0,hh⟩
 |ok x=>
  rw[hp]at hf;simp only at hf
  by_cases c2:R.length<61+(x.len - 49).toNat
  · rw[if_pos c2]at hf;cases hf
  rw[if_neg c2]at hf
  cases ha:asmB x (R.take 61) ((R.drop 61).take (x.len - 49).toNat)with
  |error e2=>
   rw[ha]at hf
   cases hf
   have hb:=zGM hp (by omega);rw[ha]at hb;exact(zNj ad R.length c R rfl hc hr hcv c1 x hp _ rfl (by omega) e hb h).mono fun _ _ hh=>⟨_,hh⟩
  |ok b=>rw[ha]at hf;cases hf
theorem zGs{v0:Value}{n0:Nat}{s0:Bs}(R:Bs)(v:Value)(hv:zLY v0 n0 s0 R v)(hr:R.length≤1000000)(b:BatS)(n:Nat)(hf:zAn R=.ok (some (b,n)))(h:St W0 w K (.row v0 5 1 n0 (zAt s0)::L)):
  Calls Tryz.prog 137 #[v] w fun en w'=>∃(q:Option Addr) (l:List (RecS×Value)) (cap2:Nat),en=.returned (.tuple #[.agg #[.int .i64 b.base,.int .i64 b.leader,.bool b.app,.bool b.txn,.bool b.ctl,.int .i64 b.last,.int .i64 b.first,.int .i64 b.maxt,.int .i64 b.prod,.int .i64 b.epoch,.int .i64 b.seq,.slice q l.length cap2],.int .i64 n,.int .i64 0])∧l.map (·.1)=b.recs∧St W0 w' (K.and (Know.recs (.slice q l.length cap2) l)) (.row v0 5 1 n0 (zAt s0)::L):=by
 unfold zAn at hf
 by_cases c1:R.length<61
 · rw[if_pos c1]at hf;cases hf
 rcases hv with ⟨_,rfl⟩|⟨ad,c,rfl,hc,hcv⟩
 · exact absurd (by decide) c1
 rw[if_neg c1]at hf
 cases hp:zAI R with
 |error e2=>rw[hp]at hf;cases hf
 |ok x=>
  rw[hp]at hf;simp only at hf
  by_cases c2:R.length<61+(x.len - 49).toNat
  · rw[if_pos c2]at hf;cases hf
  rw[if_neg c2]at hf
  cases ha:asmB x (R.take 61) ((R.drop 61).take (x.len - 49).toNat)with
  |error e2=>rw[ha]at hf;cases hf
  |ok b2=>
   rw[ha]at hf
   cases hf
   have hb:=zGM hp (by omega);rw[ha]at hb;exact zLK ad R.length c R rfl hc hr hcv c1 x hp _ rfl (by omega) b hb h
def zDV (x:BatR):Prop:=x.l.map (·.1)=x.b.recs∧zNS 1000000 x.b
theorem zNJ{K:Know}{v:Value}{l:List BatR}(h1:K.has (Know.flat RBat v 12 l))(h2:∀x∈l,K.has (Know.recs (.slice x.q x.l.length x.cap) x.l)):K.has (Know.bats v l):=fun w F h=>⟨h1 w F h,fun x hx=>h2 x hx w F h⟩
theorem zJl(K:Know):K.has (Know.bats (.slice none 0 0) []):=zNJ (fun _ _ _=>⟨none,0,rfl,fun h=>absurd h (by simp)⟩) (fun x hx=>by cases hx)
theorem St.freezeBats{v:Value}{T:TypeId}{l:List BatR}(h:St W0 w K (.row v T 12 l.length (l.flatMap zAK)::L))(ht:∀x∈l,K.has (Know.recs (.slice x.q x.l.length x.cap) x.l)):St W0 w (K.and (Know.bats v l)) L:=by
 have hf:=h.freezeRow (R:=RBat) (fun x _=>⟨rfl,rfl⟩);exact hf.know (K':=K.and (Know.bats v l)) (fun w F hh=>⟨hh.1,hh.2,fun x hx=>ht x hx _ _ hh.1⟩)
end Go.Proofs.YtenojajfacacoaaGreatDoor
