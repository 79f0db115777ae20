/- A text. -/
import Derived.Test.YtenojajfacacoaaGreatDoorGWholePlayedCard10
import Derived.Test.YtenojajfacacoaaGreatDoorGWholePlayedCard5
import Derived.Test.YtenojajfacacoaaGreatDoorGWholePlayedCard4
import Derived.Test.YtenojajfacacoaaGreatDoorGWholePlayedCard9
import Derived.RegionTactic
import Derived.Deep.RegionHeld3
import Derived.Deep.DeepCutAuto
import Derived.ScopeJumps
import Derived.Test.YtenojajfacacoaaGreatDoorGWholePlayedCard2
import Derived.Test.YtenojajfacacoaaGreatDoorGWholePlayedCard3
import Derived.Test.YtenojajfacacoaaGreatDoorGWholePlayedCard6
import Derived.Laws.CopyOwn
/- A text. -/
namespace Go.Proofs.YtenojajfacacoaaGreatDoor
open Go.RowKit
set_option maxHeartbeats 2000000
set_option maxRecDepth 100000
variable {W0 w:World}{K:Know}{L:List Res}
theorem zEP(p:Nat)(i i1 i2 j:InS)(said:Bs)(x:PreS)(e e2:Int)(hxl: -2147483648≤x.len∧x.len<2147483648)(hsl:said.length≤140737488355328)(ht1:i.take 61=(said,i1))(hp:(⟨said,0,0⟩:InS).pre=(x,j))(hj:j.err=e)(he:e≠0)(hf:i1.fail e=i2)(he2:i2.err=e2)(he3:e2≠0)(h:St W0 w K (.inp p i::L)):
  Calls Tryz.prog 167 #[zAs p] w fun en w'=>en=.returned (.agg #[.int .i64 0,.int .i64 0,.bool false,.bool false,.bool false,.int .i64 0,.int .i64 0,.int .i64 0,.int .i64 0,.int .i64 0,.int .i64 0,.slice none 0 0])∧St W0 w' K (.inp p i2::L):=by
 have g1:=h.allocRaw #[.int .i64 0,.int .i64 0,.bool false,.bool false,.bool false,.int .i64 0,.int .i64 0,.int .i64 0,.int .i64 0,.int .i64 0,.int .i64 0,.slice none 0 0] 30;obtain⟨rb,hrb⟩:∃b,w.heap.size=b:=⟨_,rfl⟩;rw[hrb]at g1;have H:=hQd g1;have HT1:=hQd ht1;have HSL:=hQd hsl;have HP:=hQd hp;have HJ:=hQd hj;have HF:=hQd hf;have HT2:=hQd (show i2.take (x.len - 49)=([],i2)from InS.take_err (by rw[he2];exact he3));have HE3:=hQd he2;have gz:(e==0)=false:=by rw[beq_eq_false_iff_ne];exact he
 have gz2:(e !=0)=true:=by rw[bne_iff_ne];exact he
 have gy:(e2==0)=false:=by rw[beq_eq_false_iff_ne];exact he3
 have gy2:(e2 !=0)=true:=by rw[bne_iff_ne];exact he3
 have f1:wrap64 (x.len - 49)=x.len - 49:=by unfold wrap64;omega
 have f2:IntKind.i64.wrap (x.len - 49)=x.len - 49:=IntWalk.i64_in _ (by omega);clear h g1 ht1 hsl hp hj hf he2 he he3 hxl;go_enter Tryz.func167,Tryz.ntmps167
 go_wp2_with (first
  |(go_at_call 184;(with_reducible refine(zCB p i i1 _ said HT1.out H.out.p1).mono ?_);rintro e_ wn ⟨rfl,h⟩;replace H:=hQd h;clear h)
  |(go_at_call 156;(with_reducible refine(zDj said HSL.out H.out).mono ?_);rintro e_ wn ⟨bi,rfl,h⟩;replace H:=hQd h;clear h)
  |(go_at_call 188;(with_reducible refine(zBi bi _ j x HP.out H.out).mono ?_);rintro e_ wn ⟨rfl,h⟩;replace H:=hQd h;clear h;have h:=H.out;obtain⟨pb,hpb⟩:∃b,wn.heap.size=b:=⟨_,rfl⟩;have h:=h.allocRaw #[.int .i64 x.base,.int .i64 x.len,.int .i64 x.leader,.int .i64 x.sum,.int .i64 x.attr,.int .i64 x.last,.int .i64 x.first,.int .i64 x.maxt,.int .i64 x.prod,.int .i64 x.epoch,.int .i64 x.seq,.int .i64 x.count] 130;rw[hpb]at h;obtain⟨x0,x1,x2,x3,x4,x5,x6,x7,x8,x9,x10,x11,y0,y1,y2,y3,y4,y5,y6,y7,y8,y9,y10,y11⟩:=zAa (b:=pb) (h);replace H:=hQd h.p1;clear h)
  |(go_at_call 168;(with_reducible refine(zCC bi j e HJ.out H.out).mono ?_);rintro e_ wn ⟨rfl,h⟩;replace H:=hQd h;clear h;obtain⟨x0,x1,x2,x3,x4,x5,x6,x7,x8,x9,x10,x11,y0,y1,y2,y3,y4,y5,y6,y7,y8,y9,y10,y11⟩:=zAa (b:=pb) (H.out.p1))
  |(go_at_call 158;(with_reducible refine(zM3 p i1 i2 _ HF.out H.out.p2).mono ?_);rintro e_ wn ⟨rfl,h⟩;replace H:=hQd h;clear h;obtain⟨x0,x1,x2,x3,x4,x5,x6,x7,x8,x9,x10,x11,y0,y1,y2,y3,y4,y5,y6,y7,y8,y9,y10,y11⟩:=zAa (b:=pb) (H.out.p2))
  |(go_at_call 184;(with_reducible refine(zCB p i2 i2 _ [] HT2.out H.out).mono ?_);rintro e_ wn ⟨rfl,h⟩;replace H:=hQd h;clear h;obtain⟨x0,x1,x2,x3,x4,x5,x6,x7,x8,x9,x10,x11,y0,y1,y2,y3,y4,y5,y6,y7,y8,y9,y10,y11⟩:=zAa (b:=pb) (H.out.p2))
  |(go_at_call 168;(with_reducible refine(zCC p i2 e2 HE3.out H.out).mono ?_);rintro e_ wn ⟨rfl,h⟩;replace H:=hQd h;clear h;obtain⟨x0,x1,x2,x3,x4,x5,x6,x7,x8,x9,x10,x11,y0,y1,y2,y3,y4,y5,y6,y7,y8,y9,y10,y11⟩:=zAa (b:=pb) (H.out.p2);obtain⟨a0,a1,a2,a3,a4,a5,a6,a7,a8,a9,a10,a11,f0,f1,f2,f3,f4,f5,f6,f7,f8,f9,f10,f11⟩:=zAa (b:=rb) (H.out.p3)))
 have hz:St W0 _ _ (.raw rb #[.int .i64 0,.int .i64 0,.bool false,.bool false,.bool false,.int .i64 0,.int .i64 0,.int .i64 0,.int .i64 0,.int .i64 0,.int .i64 0,.slice none 0 0] 30::_):=St.sets12 _ _ _ _ _ _ _ _ _ _ _ _ (H.out.p3);refine bodyPost_ret (zAP rfl _ _ rb [.int .i64 0,.int .i64 0,.bool false,.bool false,.bool false,.int .i64 0,.int .i64 0,.int .i64 0,.int .i64 0,.int .i64 0,.int .i64 0,.slice none 0 0] _ rfl (zAo hz) Tryz.underlying30 rfl (by kernel_rfl)) rfl ?_;exact⟨rfl,hz.drop.p1.drop.p1.drop⟩
theorem zIa(p:Nat)(i i1 i3 j:InS)(said rows:Bs)(x:PreS)(e2:Int)(hxl: -2147483648≤x.len∧x.len<2147483648)(hsl:said.length≤140737488355328)(ht1:i.take 61=(said,i1))(hp:(⟨said,0,0⟩:InS).pre=(x,j))(hj:j.err=0)(ht2:i1.take (x.len - 49)=(rows,i3))(he2:i3.err=e2)(he3:e2≠0)(h:St W0 w K (.inp p i::L)):
  Calls Tryz.prog 167 #[zAs p] w fun en w'=>en=.returned (.agg #[.int .i64 0,.int .i64 0,.bool false,.bool false,.bool false,.int .i64 0,.int .i64 0,.int .i64 0,.int .i64 0,.int .i64 0,.int .i64 0,.slice none 0 0])∧St W0 w' K (.inp p i3::L):=by
 have g1:=h.allocRaw #[.int .i64 0,.int .i64 0,.bool false,.bool false,.bool false,.int .i64 0,.int .i64 0,.int .i64 0,.int .i64 0,.int .i64 0,.int .i64 0,.slice none 0 0] 30;obtain⟨rb,hrb⟩:∃b,w.heap.size=b:=⟨_,rfl⟩;rw[hrb]at g1;have H:=hQd g1;have HT1:=hQd ht1;have HSL:=hQd hsl;have HP:=hQd hp;have HJ:=hQd hj;have HT2:=hQd ht2;have HE3:=hQd he2;have gy:(e2==0)=false:=by rw[beq_eq_false_iff_ne];exact he3
 have gy2:(e2 !=0)=true:=by rw[bne_iff_ne];exact he3
 have f1:wrap64 (x.len - 49)=x.len - 49:=by unfold wrap64;omega
 have f2:IntKind.i64.wrap (x.len - 49)=x.len - 49:=IntWalk.i64_in _ (by omega);clear h g1 ht1 hsl hp hj ht2 he2 he3 hxl;go_enter Tryz.func167,Tryz.ntmps167
 go_wp2_with (first
  |(go_at_call 184;(with_reducible refine(zCB p i i1 _ said HT1.out H.out.p1).mono ?_);rintro e_ wn ⟨rfl,h⟩;replace H:=hQd h;clear h)
  |(go_at_call 156;(with_reducible refine(zDj said HSL.out H.out).mono ?_);rintro e_ wn ⟨bi,rfl,h⟩;replace H:=hQd h;clear h)
  |(go_at_call 188;(with_reducible refine(zBi bi _ j x HP.out H.out).mono ?_);rintro e_ wn ⟨rfl,h⟩;replace H:=hQd h;clear h;have h:=H.out;obtain⟨pb,hpb⟩:∃b,wn.heap.size=b:=⟨_,rfl⟩;have h:=h.allocRaw #[.int .i64 x.base,.int .i64 x.len,.int .i64 x.leader,.int .i64 x.sum,.int .i64 x.attr,.int .i64 x.last,.int .i64 x.first,.int .i64 x.maxt,.int .i64 x.prod,.int .i64 x.epoch,.int .i64 x.seq,.int .i64 x.count] 130;rw[hpb]at h;obtain⟨x0,x1,x2,x3,x4,x5,x6,x7,x8,x9,x10,x11,y0,y1,y2,y3,y4,y5,y6,y7,y8,y9,y10,y11⟩:=zAa (b:=pb) (h);replace H:=hQd h.p1;clear h)
  |(go_at_call 168;(with_reducible refine(zCC bi j 0 HJ.out H.out).mono ?_);rintro e_ wn ⟨rfl,h⟩;replace H:=hQd h;clear h;obtain⟨x0,x1,x2,x3,x4,x5,x6,x7,x8,x9,x10,x11,y0,y1,y2,y3,y4,y5,y6,y7,y8,y9,y10,y11⟩:=zAa (b:=pb) (H.out.p1))
  |(go_at_call 184;(with_reducible refine(zCB p i1 i3 _ rows HT2.out H.out.p2).mono ?_);rintro e_ wn ⟨rfl,h⟩;replace H:=hQd h;clear h;obtain⟨x0,x1,x2,x3,x4,x5,x6,x7,x8,x9,x10,x11,y0,y1,y2,y3,y4,y5,y6,y7,y8,y9,y10,y11⟩:=zAa (b:=pb) (H.out.p2))
  |(go_at_call 168;(with_reducible refine(zCC p i3 e2 HE3.out H.out).mono ?_);rintro e_ wn ⟨rfl,h⟩;replace H:=hQd h;clear h;obtain⟨x0,x1,x2,x3,x4,x5,x6,x7,x8,x9,x10,x11,y0,y1,y2,y3,y4,y5,y6,y7,y8,y9,y10,y11⟩:=zAa (b:=pb) (H.out.p2);obtain⟨a0,a1,a2,a3,a4,a5,a6,a7,a8,a9,a10,a11,f0,f1,f2,f3,f4,f5,f6,f7,f8,f9,f10,f11⟩:=zAa (b:=rb) (H.out.p3)))
 have hz:St W0 _ _ (.raw rb #[.int .i64 0,.int .i64 0,.bool false,.bool false,.bool false,.int .i64 0,.int .i64 0,.int .i64 0,.int .i64 0,.int .i64 0,.int .i64 0,.slice none 0 0] 30::_):=St.sets12 _ _ _ _ _ _ _ _ _ _ _ _ (H.out.p3);refine bodyPost_ret (zAP rfl _ _ rb [.int .i64 0,.int .i64 0,.bool false,.bool false,.bool false,.int .i64 0,.int .i64 0,.int .i64 0,.int .i64 0,.int .i64 0,.int .i64 0,.slice none 0 0] _ rfl (zAo hz) Tryz.underlying30 rfl (by kernel_rfl)) rfl ?_;exact⟨rfl,hz.drop.p1.drop.p1.drop⟩
set_option maxHeartbeats 4000000
variable {W0 w:World}{K:Know}{L:List Res}
theorem zKF(p:Nat)(i i1 i3 j:InS)(said rows:Bs)(x:PreS)(hxl: -2147483648≤x.len∧x.len<2147483648)(hs1:21≤said.length)(hsl:said.length≤140737488355328)(hr1:rows.length≤1000000)(har:R64 x.attr)(hc0:0≤x.count)(hcn:x.count≤2147483647)(hmx:x.first≤9223372036854775807)(ht1:i.take 61=(said,i1))(hp:(⟨said,0,0⟩:InS).pre=(x,j))(hj:j.err=0)(ht2:i1.take (x.len - 49)=(rows,i3))(he3:i3.err=0)(b:BatS)(ha:asmB x said rows=.ok b)(h:St W0 w K (.inp p i::L)):
  Calls Tryz.prog 167 #[zAs p] w fun en w'=>∃(q:Option Addr) (l:List (RecS×Value)) (cap:Nat),en=.returned (.agg #[.int .i64 b.base,.int .i64 b.leader,.bool b.app,.bool b.txn,.bool b.ctl,.int .i64 b.last,.int .i64 b.first,.int .i64 b.maxt,.int .i64 b.prod,.int .i64 b.epoch,.int .i64 b.seq,.slice q l.length cap])∧l.map (·.1)=b.recs∧St W0 w' (K.and (Know.recs (.slice q l.length cap) l)) (.inp p i3::L):=by
 have g1:=h.allocRaw #[.int .i64 0,.int .i64 0,.bool false,.bool false,.bool false,.int .i64 0,.int .i64 0,.int .i64 0,.int .i64 0,.int .i64 0,.int .i64 0,.slice none 0 0] 30;obtain⟨rb,hrb⟩:∃b,w.heap.size=b:=⟨_,rfl⟩;rw[hrb]at g1;have H:=hQd g1;have HT1:=hQd ht1;have HSL:=hQd hsl;have HS1:=hQd hs1;have HR1:=hQd hr1;have HAR:=hQd har;have HC0:=hQd hc0;have HCN:=hQd hcn;have HMX:=hQd hmx;have HA:=hQd ha;have HP:=hQd hp;have HJ:=hQd hj;have HT2:=hQd ht2;have HE3:=hQd he3;have f1:wrap64 (x.len - 49)=x.len - 49:=by unfold wrap64;omega
 have f2:IntKind.i64.wrap (x.len - 49)=x.len - 49:=IntWalk.i64_in _ (by omega);clear h g1 ht1 hsl hs1 hr1 har hc0 hcn hmx ha hp hj ht2 he3 hxl;go_enter Tryz.func167,Tryz.ntmps167
 go_wp2_with (first
  |(go_at_call 184;(with_reducible refine(zCB p i i1 _ said HT1.out H.out.p1).mono ?_);rintro e_ wn ⟨rfl,h⟩;replace H:=hQd h;clear h)
  |(go_at_call 156;(with_reducible refine(zDj said HSL.out H.out).mono ?_);rintro e_ wn ⟨bi,rfl,h⟩;replace H:=hQd h;clear h)
  |(go_at_call 188;(with_reducible refine(zBi bi _ j x HP.out H.out).mono ?_);rintro e_ wn ⟨rfl,h⟩;replace H:=hQd h;clear h;have h:=H.out;obtain⟨pb,hpb⟩:∃b,wn.heap.size=b:=⟨_,rfl⟩;have h:=h.allocRaw #[.int .i64 x.base,.int .i64 x.len,.int .i64 x.leader,.int .i64 x.sum,.int .i64 x.attr,.int .i64 x.last,.int .i64 x.first,.int .i64 x.maxt,.int .i64 x.prod,.int .i64 x.epoch,.int .i64 x.seq,.int .i64 x.count] 130;rw[hpb]at h;obtain⟨x0,x1,x2,x3,x4,x5,x6,x7,x8,x9,x10,x11,y0,y1,y2,y3,y4,y5,y6,y7,y8,y9,y10,y11⟩:=zAa (b:=pb) (h);replace H:=hQd h.p1;clear h)
  |(go_at_call 168;(with_reducible refine(zCC bi j 0 HJ.out H.out).mono ?_);rintro e_ wn ⟨rfl,h⟩;replace H:=hQd h;clear h;obtain⟨x0,x1,x2,x3,x4,x5,x6,x7,x8,x9,x10,x11,y0,y1,y2,y3,y4,y5,y6,y7,y8,y9,y10,y11⟩:=zAa (b:=pb) (H.out.p1))
  |(go_at_call 184;(with_reducible refine(zCB p i1 i3 _ rows HT2.out H.out.p2).mono ?_);rintro e_ wn ⟨rfl,h⟩;replace H:=hQd h;clear h;obtain⟨x0,x1,x2,x3,x4,x5,x6,x7,x8,x9,x10,x11,y0,y1,y2,y3,y4,y5,y6,y7,y8,y9,y10,y11⟩:=zAa (b:=pb) (H.out.p2))
  |(go_at_call 168;(with_reducible refine(zCC p i3 0 HE3.out H.out).mono ?_);rintro e_ wn ⟨rfl,h⟩;replace H:=hQd h;clear h;obtain⟨x0,x1,x2,x3,x4,x5,x6,x7,x8,x9,x10,x11,y0,y1,y2,y3,y4,y5,y6,y7,y8,y9,y10,y11⟩:=zAa (b:=pb) (H.out.p2);obtain⟨a0,a1,a2,a3,a4,a5,a6,a7,a8,a9,a10,a11,f0,f1,f2,f3,f4,f5,f6,f7,f8,f9,f10,f11⟩:=zAa (b:=rb) (H.out.p3))
  |(go_at_call 189;(with_reducible refine(zPv x said rows HS1.out HSL.out HR1.out HAR.out HC0.out HCN.out HMX.out b HA.out H.out).mono ?_);rintro e_ wn ⟨q,l,cap,rfl,hl,h⟩;have h:=h.allocRaw #[.int .i64 b.base,.int .i64 b.leader,.bool b.app,.bool b.txn,.bool b.ctl,.int .i64 b.last,.int .i64 b.first,.int .i64 b.maxt,.int .i64 b.prod,.int .i64 b.epoch,.int .i64 b.seq,.slice q l.length cap] 30;obtain⟨bB,hbB⟩:∃b,wn.heap.size=b:=⟨_,rfl⟩;rw[hbB]at h;obtain⟨c0,c1,c2,c3,c4,c5,c6,c7,c8,c9,c10,c11,g0,g1,g2,g3,g4,g5,g6,g7,g8,g9,g10,g11⟩:=zAa (b:=bB) (h);obtain⟨a0,a1,a2,a3,a4,a5,a6,a7,a8,a9,a10,a11,f0,f1,f2,f3,f4,f5,f6,f7,f8,f9,f10,f11⟩:=zAa (b:=rb) (h.p4);replace H:=hQd h;clear h))
 have hz:St W0 _ _ (.raw rb #[.int .i64 b.base,.int .i64 b.leader,.bool b.app,.bool b.txn,.bool b.ctl,.int .i64 b.last,.int .i64 b.first,.int .i64 b.maxt,.int .i64 b.prod,.int .i64 b.epoch,.int .i64 b.seq,.slice q l.length cap] 30::_):=St.sets12 _ _ _ _ _ _ _ _ _ _ _ _ (H.out.p4);refine bodyPost_ret (zAP rfl _ _ rb [.int .i64 b.base,.int .i64 b.leader,.bool b.app,.bool b.txn,.bool b.ctl,.int .i64 b.last,.int .i64 b.first,.int .i64 b.maxt,.int .i64 b.prod,.int .i64 b.epoch,.int .i64 b.seq,.slice q l.length cap] _ rfl (zAo hz) Tryz.underlying30 rfl (by kernel_rfl)) rfl ?_;exact⟨q,l,cap,rfl,hl,hz.drop.drop.p1.drop.p1.drop⟩
theorem zJI(p:Nat)(i i1 i3 j:InS)(said rows:Bs)(x:PreS)(hxl: -2147483648≤x.len∧x.len<2147483648)(hs1:21≤said.length)(hsl:said.length≤140737488355328)(hr1:rows.length≤1000000)(har:R64 x.attr)(hc0:0≤x.count)(hcn:x.count≤2147483647)(hmx:x.first≤9223372036854775807)(ht1:i.take 61=(said,i1))(hp:(⟨said,0,0⟩:InS).pre=(x,j))(hj:j.err=0)(ht2:i1.take (x.len - 49)=(rows,i3))(he3:i3.err=0)(i4:InS)(e:Int)(ha:asmB x said rows=.error e)(hf:i3.fail e=i4)(h:St W0 w K (.inp p i::L)):
  Calls Tryz.prog 167 #[zAs p] w fun en w'=>en=.returned (.agg #[.int .i64 0,.int .i64 0,.bool false,.bool false,.bool false,.int .i64 0,.int .i64 0,.int .i64 0,.int .i64 0,.int .i64 0,.int .i64 0,.slice none 0 0])∧St W0 w' K (.inp p i4::L):=by
 have g1:=h.allocRaw #[.int .i64 0,.int .i64 0,.bool false,.bool false,.bool false,.int .i64 0,.int .i64 0,.int .i64 0,.int .i64 0,.int .i64 0,.int .i64 0,.slice none 0 0] 30;obtain⟨rb,hrb⟩:∃b,w.heap.size=b:=⟨_,rfl⟩;rw[hrb]at g1;have H:=hQd g1;have HT1:=hQd ht1;have HSL:=hQd hsl;have HS1:=hQd hs1;have HR1:=hQd hr1;have HAR:=hQd har;have HC0:=hQd hc0;have HCN:=hQd hcn;have HMX:=hQd hmx;have HA:=hQd ha;have HP:=hQd hp;have HJ:=hQd hj;have HT2:=hQd ht2;have HE3:=hQd he3;have HF:=hQd hf;have gz:(e==0)=false:=by rw[beq_eq_false_iff_ne];exact zIf ha
 have gz2:(e !=0)=true:=by rw[bne_iff_ne];exact zIf ha
 have f1:wrap64 (x.len - 49)=x.len - 49:=by unfold wrap64;omega
 have f2:IntKind.i64.wrap (x.len - 49)=x.len - 49:=IntWalk.i64_in _ (by omega);clear h g1 ht1 hsl hs1 hr1 har hc0 hcn hmx ha hp hj ht2 he3 hxl hf;go_enter Tryz.func167,Tryz.ntmps167
 go_wp2_with (first
  |(go_at_call 184;(with_reducible refine(zCB p i i1 _ said HT1.out H.out.p1).mono ?_);rintro e_ wn ⟨rfl,h⟩;replace H:=hQd h;clear h)
  |(go_at_call 156;(with_reducible refine(zDj said HSL.out H.out).mono ?_);rintro e_ wn ⟨bi,rfl,h⟩;replace H:=hQd h;clear h)
  |(go_at_call 188;(with_reducible refine(zBi bi _ j x HP.out H.out).mono ?_);rintro e_ wn ⟨rfl,h⟩;replace H:=hQd h;clear h;have h:=H.out;obtain⟨pb,hpb⟩:∃b,wn.heap.size=b:=⟨_,rfl⟩;have h:=h.allocRaw #[.int .i64 x.base,.int .i64 x.len,.int .i64 x.leader,.int .i64 x.sum,.int .i64 x.attr,.int .i64 x.last,.int .i64 x.first,.int .i64 x.maxt,.int .i64 x.prod,.int .i64 x.epoch,.int .i64 x.seq,.int .i64 x.count] 130;rw[hpb]at h;obtain⟨x0,x1,x2,x3,x4,x5,x6,x7,x8,x9,x10,x11,y0,y1,y2,y3,y4,y5,y6,y7,y8,y9,y10,y11⟩:=zAa (b:=pb) (h);replace H:=hQd h.p1;clear h)
  |(go_at_call 168;(with_reducible refine(zCC bi j 0 HJ.out H.out).mono ?_);rintro e_ wn ⟨rfl,h⟩;replace H:=hQd h;clear h;obtain⟨x0,x1,x2,x3,x4,x5,x6,x7,x8,x9,x10,x11,y0,y1,y2,y3,y4,y5,y6,y7,y8,y9,y10,y11⟩:=zAa (b:=pb) (H.out.p1))
  |(go_at_call 184;(with_reducible refine(zCB p i1 i3 _ rows HT2.out H.out.p2).mono ?_);rintro e_ wn ⟨rfl,h⟩;replace H:=hQd h;clear h;obtain⟨x0,x1,x2,x3,x4,x5,x6,x7,x8,x9,x10,x11,y0,y1,y2,y3,y4,y5,y6,y7,y8,y9,y10,y11⟩:=zAa (b:=pb) (H.out.p2))
  |(go_at_call 168;(with_reducible refine(zCC p i3 0 HE3.out H.out).mono ?_);rintro e_ wn ⟨rfl,h⟩;replace H:=hQd h;clear h;obtain⟨x0,x1,x2,x3,x4,x5,x6,x7,x8,x9,x10,x11,y0,y1,y2,y3,y4,y5,y6,y7,y8,y9,y10,y11⟩:=zAa (b:=pb) (H.out.p2);obtain⟨a0,a1,a2,a3,a4,a5,a6,a7,a8,a9,a10,a11,f0,f1,f2,f3,f4,f5,f6,f7,f8,f9,f10,f11⟩:=zAa (b:=rb) (H.out.p3))
  |(go_at_call 189;(with_reducible refine(zQF x said rows HS1.out HSL.out HR1.out HAR.out HC0.out HCN.out HMX.out e HA.out H.out).mono ?_);rintro e_ wn ⟨b,q,n,cap,rfl,h⟩;have h:=h.allocRaw #[.int .i64 b.base,.int .i64 b.leader,.bool b.app,.bool b.txn,.bool b.ctl,.int .i64 b.last,.int .i64 b.first,.int .i64 b.maxt,.int .i64 b.prod,.int .i64 b.epoch,.int .i64 b.seq,.slice q n cap] 30;obtain⟨bB,hbB⟩:∃b,wn.heap.size=b:=⟨_,rfl⟩;rw[hbB]at h;obtain⟨c0,c1,c2,c3,c4,c5,c6,c7,c8,c9,c10,c11,g0,g1,g2,g3,g4,g5,g6,g7,g8,g9,g10,g11⟩:=zAa (b:=bB) (h);obtain⟨a0,a1,a2,a3,a4,a5,a6,a7,a8,a9,a10,a11,f0,f1,f2,f3,f4,f5,f6,f7,f8,f9,f10,f11⟩:=zAa (b:=rb) (h.p4);replace H:=hQd h;clear h)
  |(go_at_call 158;(with_reducible refine(zM3 p i3 i4 _ HF.out H.out.p1).mono ?_);rintro e_ wn ⟨rfl,h⟩;replace H:=hQd h;clear h;obtain⟨c0,c1,c2,c3,c4,c5,c6,c7,c8,c9,c10,c11,g0,g1,g2,g3,g4,g5,g6,g7,g8,g9,g10,g11⟩:=zAa (b:=bB) (H.out.p1);obtain⟨a0,a1,a2,a3,a4,a5,a6,a7,a8,a9,a10,a11,f0,f1,f2,f3,f4,f5,f6,f7,f8,f9,f10,f11⟩:=zAa (b:=rb) (H.out.p4)))
 have hz:St W0 _ _ (.raw rb #[.int .i64 0,.int .i64 0,.bool false,.bool false,.bool false,.int .i64 0,.int .i64 0,.int .i64 0,.int .i64 0,.int .i64 0,.int .i64 0,.slice none 0 0] 30::_):=St.sets12 _ _ _ _ _ _ _ _ _ _ _ _ (H.out.p4);refine bodyPost_ret (zAP rfl _ _ rb [.int .i64 0,.int .i64 0,.bool false,.bool false,.bool false,.int .i64 0,.int .i64 0,.int .i64 0,.int .i64 0,.int .i64 0,.int .i64 0,.slice none 0 0] _ rfl (zAo hz) Tryz.underlying30 rfl (by kernel_rfl)) rfl ?_;exact⟨rfl,hz.drop.p1.drop.p1.drop.p1.drop⟩
theorem zIb(p:Nat)(s:Bs)(pos:Nat)(hsl:s.length≤1000000)(hp:pos≤s.length)(b:BatS)(n:Nat)(hr:zCg (s.drop pos)=.ok (b,n))(h:St W0 w K (.inp p ⟨s,pos,0⟩::L)):
  Calls Tryz.prog 167 #[zAs p] w fun en w'=>∃(q:Option Addr) (l:List (RecS×Value)) (cap:Nat),en=.returned (.agg #[.int .i64 b.base,.int .i64 b.leader,.bool b.app,.bool b.txn,.bool b.ctl,.int .i64 b.last,.int .i64 b.first,.int .i64 b.maxt,.int .i64 b.prod,.int .i64 b.epoch,.int .i64 b.seq,.slice q l.length cap])∧l.map (·.1)=b.recs∧St W0 w' (K.and (Know.recs (.slice q l.length cap) l)) (.inp p ⟨s,pos+n,0⟩::L):=by
 obtain⟨x,hx,rfl,hn,ha⟩:=zCU hr;obtain⟨r1,r2,r3,r4,r5,r6⟩:=zGT hx;have h61:=(zBH hx).1;rw[List.length_drop]at hn h61;have hl61:((s.drop pos).take 61).length=61:=by rw[List.length_take,List.length_drop];omega
 have hrl:(((s.drop pos).drop 61).take (x.len - 49).toNat).length≤1000000:=by rw[List.length_take,List.length_drop,List.length_drop];omega
 have ht1:(⟨s,pos,0⟩:InS).take 61=((s.drop pos).take 61,⟨s,pos+61,0⟩):=InS.take_ok rfl (by omega) (by simp only[InS.left];omega)
 have ht2:(⟨s,pos+61,0⟩:InS).take (x.len - 49)=(((s.drop pos).drop 61).take (x.len - 49).toNat,⟨s,pos+61+(x.len - 49).toNat,0⟩):=by
  rw[InS.take_ok rfl (by omega) (by simp only[InS.left];omega),List.drop_drop]
 have hpre:=zJ9 ((s.drop pos).take 61) 0 (by omega);rw[List.drop_zero,zBh _ (by rw[List.length_drop];omega),hx]at hpre;rw[←Nat.add_assoc];exact zKF p _ _ _ _ _ _ x r1 (by rw[hl61];omega) (by rw[hl61];omega) hrl r3 r4 r5 r6 ht1 hpre rfl ht2 rfl b ha h
theorem zJH(p:Nat)(s:Bs)(pos:Nat)(hsl:s.length≤1000000)(hp:pos≤s.length)(e:Int)(hr:zCg (s.drop pos)=.error e)(h:St W0 w K (.inp p ⟨s,pos,0⟩::L)):
   Calls Tryz.prog 167 #[zAs p] w fun en w'=>en=.returned (.agg #[.int .i64 0,.int .i64 0,.bool false,.bool false,.bool false,.int .i64 0,.int .i64 0,.int .i64 0,.int .i64 0,.int .i64 0,.int .i64 0,.slice none 0 0])∧∃q,q≤s.length∧St W0 w' K (.inp p ⟨s,q,e⟩::L):=by
 have hne:=zOS hr
 by_cases h61:s.length<pos+61
 · unfold zCg at hr;rw[zJ3 (by rw[List.length_drop];omega)]at hr
   cases hr
   have ht1:(⟨s,pos,0⟩:InS).take 61=([],⟨s,pos,1⟩):=InS.take_short (by omega) (by simp only[InS.left];omega);obtain⟨q,_,hpre⟩:=zL2 [] 0 (Nat.le_refl _) (by decide);exact(zEP p _ _ ⟨s,pos,1⟩ _ [] PreS.zero 1 1 (by decide) (by decide) ht1 hpre rfl (by decide) rfl rfl (by decide) h).mono fun _ _ hh=>⟨hh.1,pos,hp,hh.2⟩
 have hl61:((s.drop pos).take 61).length=61:=by rw[List.length_take,List.length_drop];omega
 have ht1:(⟨s,pos,0⟩:InS).take 61=((s.drop pos).take 61,⟨s,pos+61,0⟩):=InS.take_ok rfl (by omega) (by simp only[InS.left];omega);have hpre:=zJ9 ((s.drop pos).take 61) 0 (by omega);rw[List.drop_zero,zBh _ (by rw[List.length_drop];omega)]at hpre;unfold zCg at hr
 cases hx:zAQ (s.drop pos)with
 |error f=>
   rw[hx]at hr hpre;simp only at hr hpre
   cases hr
   exact(zEP p _ _ ⟨s,pos+61,e⟩ _ _ PreS.zero e e (by decide) (by rw[hl61];omega) ht1 hpre rfl hne rfl rfl hne h).mono fun _ _ hh=>⟨hh.1,pos+61,by omega,hh.2⟩
 |ok x=>
   rw[hx]at hr hpre;simp only at hr hpre;obtain⟨r1,r2,r3,r4,r5,r6⟩:=zGT hx
   by_cases hlen:(s.drop pos).length<61+(x.len - 49).toNat
   · rw[if_pos hlen]at hr
     cases hr
     rw[List.length_drop]at hlen;have ht2:(⟨s,pos+61,0⟩:InS).take (x.len - 49)=([],⟨s,pos+61,1⟩):=InS.take_short (by omega) (by simp only[InS.left];omega);exact(zIa p _ _ _ _ _ _ x 1 r1 (by rw[hl61];omega) ht1 hpre rfl ht2 rfl (by decide) h).mono fun _ _ hh=>⟨hh.1,pos+61,by omega,hh.2⟩
   · rw[if_neg hlen]at hr;rw[List.length_drop]at hlen;have hrl:(((s.drop pos).drop 61).take (x.len - 49).toNat).length≤1000000:=by rw[List.length_take,List.length_drop,List.length_drop];omega
     have ht2:(⟨s,pos+61,0⟩:InS).take (x.len - 49)=(((s.drop pos).drop 61).take (x.len - 49).toNat,⟨s,pos+61+(x.len - 49).toNat,0⟩):=by
      rw[InS.take_ok rfl (by omega) (by simp only[InS.left];omega),List.drop_drop]
     cases ha:asmB x ((s.drop pos).take 61) (((s.drop pos).drop 61).take (x.len - 49).toNat)with
     |ok b=>rw[ha]at hr;cases hr
     |error f=>
      rw[ha]at hr;simp only at hr
      cases hr
      exact(zJI p _ _ _ _ _ _ x r1 (by rw[hl61];omega) (by rw[hl61];omega) hrl r3 r4 r5 r6 ht1 hpre rfl ht2 rfl ⟨s,pos+61+(x.len - 49).toNat,e⟩ e ha rfl h).mono fun _ _ hh=>⟨hh.1,_,by omega,hh.2⟩
theorem zFm:∀(vs:List Value) (o:Nat) (c:Array Value) (i:Nat),(zDA c o vs)[i]? =if o≤i∧i<o+vs.length∧i<c.size then vs[i - o]? else c[i]?
  |[],o,c,i=>by
    show c[i]? =_
    rw[if_neg (by simp;omega)]
  |v::r,o,c,i=>by
    show(zDA (c.setIfInBounds o v) (o+1) r)[i]? =_
    rw[zFm r (o+1) _ i];simp only[Array.size_setIfInBounds,List.length_cons]
    by_cases h1:o+1≤i∧i<o+1+r.length∧i<c.size
    · exact zq15
    · exact zq11
theorem zCa(c cs:Array Value)(h:c.size=cs.size):zDA c 0 cs.toList=cs:=by
 refine Array.ext_getElem? fun i=> ?_
 rw[zFm]
 exact zq13
variable {W0 w:World}{K:Know}{L:List Res}
theorem zOY(h:St W0 w K L):Calls Tryz.prog 166 #[.string ⟨#[]⟩] w fun en w'=>en=.returned (.tuple #[.int .i64 0,.int .i64 0])∧St W0 w' K L:=zA0 [] 0 0 rfl (by decide) h
theorem zL4{R:Bs}(h:R.length<61):zIU R=(0,0):=by unfold zIU;rw[if_pos h]
theorem zOZ{R:Bs}{e:Int}(h:¬R.length<61)(hp:zAQ R=.error e):zIU (R.take 61)=(0,e):=by
 unfold zIU;rw[if_neg (by rw[List.length_take];omega),zBh R (by omega),hp]
theorem zKb{R:Bs}{x:PreS}(h:¬R.length<61)(hp:zAQ R=.ok x):zIU (R.take 61)=(x.len+12,0):=by
 unfold zIU;rw[if_neg (by rw[List.length_take];omega),zBh R (by omega),hp]
theorem zGR{R:Bs}{x:PreS}(hp:zAQ R=.ok x)(h:61+(x.len - 49).toNat≤R.length):zCg ((R.take (61+(x.len - 49).toNat)).drop 0)=match asmB x (R.take 61) ((R.drop 61).take (x.len - 49).toNat)with| .error e=> .error e| .ok b=> .ok (b,61+(x.len - 49).toNat):=by
 rw[List.drop_zero];have hl:(R.take (61+(x.len - 49).toNat)).length=61+(x.len - 49).toNat:=by rw[List.length_take];omega
 have hpp:=zDG (R.take (61+(x.len - 49).toNat)) (R.drop (61+(x.len - 49).toNat)) (by rw[hl];omega);rw[List.take_append_drop]at hpp;unfold zCg;rw[←hpp,hp];simp only;rw[if_neg (by rw[hl];omega),List.take_take,Nat.min_eq_left (by omega),List.drop_take,Nat.add_sub_cancel_left,List.take_take,Nat.min_self]
 cases asmB x (R.take 61) ((R.drop 61).take (x.len - 49).toNat)<;>rfl
theorem zMh{v0:Value}{n0:Nat}{s0:Bs}(h:St W0 w K (.row v0 5 1 n0 (zAi s0)::L)):
  Calls Tryz.prog 137 #[.slice none 0 0] w fun en w'=>en=.returned (.tuple #[.agg #[.int .i64 0,.int .i64 0,.bool false,.bool false,.bool false,.int .i64 0,.int .i64 0,.int .i64 0,.int .i64 0,.int .i64 0,.int .i64 0,.slice none 0 0],.int .i64 0,.int .i64 0])∧St W0 w' K (.row v0 5 1 n0 (zAi s0)::L):=by
 obtain⟨rb,hrb⟩:∃b,w.heap.size=b:=⟨_,rfl⟩;have g1:=(h.allocRaw #[.int .i64 0,.int .i64 0,.bool false,.bool false,.bool false,.int .i64 0,.int .i64 0,.int .i64 0,.int .i64 0,.int .i64 0,.int .i64 0,.slice none 0 0] 30).p1;rw[hrb]at g1;have H:=hQd g1;have hc0:=zOb (w.alloc (.cells #[.int .i64 0,.int .i64 0,.bool false,.bool false,.bool false,.int .i64 0,.int .i64 0,.int .i64 0,.int .i64 0,.int .i64 0,.int .i64 0,.slice none 0 0] 30 (0,0)));have hq0:min (0:Int) 61=0:=(by decide);clear g1;clear h;go_enter Tryz.func137,Tryz.ntmps137;go_wp2_with (go_at_call 166;(with_reducible refine(zOY H.out).mono ?_);rintro e_ wn ⟨rfl,h⟩;obtain⟨x0,x1,x2,x3,x4,x5,x6,x7,x8,x9,x10,x11,y0,y1,y2,y3,y4,y5,y6,y7,y8,y9,y10,y11⟩:=zAa (b:=rb) (h.p1);replace H:=hQd h;clear h);have hz:St W0 _ _ (.raw rb #[.int .i64 0,.int .i64 0,.bool false,.bool false,.bool false,.int .i64 0,.int .i64 0,.int .i64 0,.int .i64 0,.int .i64 0,.int .i64 0,.slice none 0 0] 30::_):=St.sets12 _ _ _ _ _ _ _ _ _ _ _ _ (H.out.p1);refine bodyPost_ret (zAG rfl _ _ rb [.int .i64 0,.int .i64 0,.bool false,.bool false,.bool false,.int .i64 0,.int .i64 0,.int .i64 0,.int .i64 0,.int .i64 0,.int .i64 0,.slice none 0 0] _ rfl (zAo hz) Tryz.underlying30 rfl (by kernel_rfl)) rfl ?_;exact⟨rfl,hz.drop⟩
theorem zKm{v0:Value}{n0:Nat}{s0:Bs}(ad:Addr)(m c:Nat)(R:Bs)(hm:m=R.length)(hmc:m≤c)(hr:R.length≤1000000)(hcv:∀(W0 w:World) (K:Know) (L:List Res),St W0 w K (.row v0 5 1 n0 (zAi s0)::L)→∀k,k≤m→∀c',(convert 57 9 (.slice (some ad) k c')).run Tryz.prog w=.ok (.string (bb (R.take k))) w)(h61:R.length<61)(h:St W0 w K (.row v0 5 1 n0 (zAi s0)::L)):
  Calls Tryz.prog 137 #[.slice (some ad) m c] w fun en w'=>en=.returned (.tuple #[.agg #[.int .i64 0,.int .i64 0,.bool false,.bool false,.bool false,.int .i64 0,.int .i64 0,.int .i64 0,.int .i64 0,.int .i64 0,.int .i64 0,.slice none 0 0],.int .i64 0,.int .i64 0])∧St W0 w' K (.row v0 5 1 n0 (zAi s0)::L):=by
 obtain⟨rb,hrb⟩:∃b,w.heap.size=b:=⟨_,rfl⟩;have g1:=(h.allocRaw #[.int .i64 0,.int .i64 0,.bool false,.bool false,.bool false,.int .i64 0,.int .i64 0,.int .i64 0,.int .i64 0,.int .i64 0,.int .i64 0,.slice none 0 0] 30).p1;rw[hrb]at g1;have H:=hQd g1;have hmi:(m:Int)≤1000000:=by omega
 have hmci:(m:Int)≤(c:Int):=by omega
 have HCVH:=hQd hcv;have hmin:min (m:Int) 61=(m:Int):=by omega
 have hcw:=hcv _ _ _ _ g1 m (Nat.le_refl _);have ht:R.take m=R:=List.take_of_length_le (by omega);rw[ht]at hcw;have HP:=hQd (zL4 h61);have HL:=hQd (show R.length≤140737488355328 by omega);clear g1 ht h61;clear h hcv hm hr;go_enter Tryz.func137,Tryz.ntmps137;go_wp2_with (go_at_call 166;(with_reducible refine(zA0 R 0 0 HP.out HL.out H.out).mono ?_);rintro e_ wn ⟨rfl,h⟩;obtain⟨x0,x1,x2,x3,x4,x5,x6,x7,x8,x9,x10,x11,y0,y1,y2,y3,y4,y5,y6,y7,y8,y9,y10,y11⟩:=zAa (b:=rb) (h.p1);replace H:=hQd h;clear h);have hz:St W0 _ _ (.raw rb #[.int .i64 0,.int .i64 0,.bool false,.bool false,.bool false,.int .i64 0,.int .i64 0,.int .i64 0,.int .i64 0,.int .i64 0,.int .i64 0,.slice none 0 0] 30::_):=St.sets12 _ _ _ _ _ _ _ _ _ _ _ _ (H.out.p1);refine bodyPost_ret (zAG rfl _ _ rb [.int .i64 0,.int .i64 0,.bool false,.bool false,.bool false,.int .i64 0,.int .i64 0,.int .i64 0,.int .i64 0,.int .i64 0,.int .i64 0,.slice none 0 0] _ rfl (zAo hz) Tryz.underlying30 rfl (by kernel_rfl)) rfl ?_;exact⟨rfl,hz.drop⟩
theorem zNT{v0:Value}{n0:Nat}{s0:Bs}(ad:Addr)(m c:Nat)(R:Bs)(hm:m=R.length)(hmc:m≤c)(hr:R.length≤1000000)(hcv:∀(W0 w:World) (K:Know) (L:List Res),St W0 w K (.row v0 5 1 n0 (zAi s0)::L)→∀k,k≤m→∀c',(convert 57 9 (.slice (some ad) k c')).run Tryz.prog w=.ok (.string (bb (R.take k))) w)(h61:¬R.length<61)(e:Int)(hp:zAQ R=.error e)(h:St W0 w K (.row v0 5 1 n0 (zAi s0)::L)):
   Calls Tryz.prog 137 #[.slice (some ad) m c] w fun en w'=>en=.returned (.tuple #[.agg #[.int .i64 0,.int .i64 0,.bool false,.bool false,.bool false,.int .i64 0,.int .i64 0,.int .i64 0,.int .i64 0,.int .i64 0,.int .i64 0,.slice none 0 0],.int .i64 0,.int .i64 e])∧St W0 w' K (.row v0 5 1 n0 (zAi s0)::L):=by
 obtain⟨rb,hrb⟩:∃b,w.heap.size=b:=⟨_,rfl⟩;have g1:=(h.allocRaw #[.int .i64 0,.int .i64 0,.bool false,.bool false,.bool false,.int .i64 0,.int .i64 0,.int .i64 0,.int .i64 0,.int .i64 0,.int .i64 0,.slice none 0 0] 30).p1;rw[hrb]at g1;have H:=hQd g1;have hmi:(m:Int)≤1000000:=by omega
 have hmci:(m:Int)≤(c:Int):=by omega
 have HCVH:=hQd hcv;have hm61:(61:Int)≤(m:Int):=by omega
 have HL:=hQd (show(R.take 61).length≤140737488355328 by rw[List.length_take];omega);have HP:=hQd (zOZ h61 hp);have h0:=zDF hp;have g1e:(e==0)=false:=by rw[beq_eq_false_iff_ne];exact h0
 have g2e:(e !=0)=true:=by simp[bne,g1e]
 clear hp h0
 by_cases hA:m≤61
 · skip
   have hAi:(m:Int)≤61:=by omega
   have hAm:min (m:Int) 61=(m:Int):=by omega
   have hcw:=hcv _ _ _ _ g1 m (Nat.le_refl _);rw[show R.take m=R.take 61 by rw[show m=61 by omega]]at hcw;clear g1 hA h hcv hm hr;go_enter Tryz.func137,Tryz.ntmps137;go_wp2_with (go_at_call 166;(with_reducible refine(zA0 (R.take 61) 0 e HP.out HL.out H.out).mono ?_);rintro e_ wn ⟨rfl,h⟩;obtain⟨x0,x1,x2,x3,x4,x5,x6,x7,x8,x9,x10,x11,y0,y1,y2,y3,y4,y5,y6,y7,y8,y9,y10,y11⟩:=zAa (b:=rb) (h.p1);replace H:=hQd h;clear h);have hz:St W0 _ _ (.raw rb #[.int .i64 0,.int .i64 0,.bool false,.bool false,.bool false,.int .i64 0,.int .i64 0,.int .i64 0,.int .i64 0,.int .i64 0,.int .i64 0,.slice none 0 0] 30::_):=St.sets12 _ _ _ _ _ _ _ _ _ _ _ _ (H.out.p1);refine bodyPost_ret (zAG rfl _ _ rb [.int .i64 0,.int .i64 0,.bool false,.bool false,.bool false,.int .i64 0,.int .i64 0,.int .i64 0,.int .i64 0,.int .i64 0,.int .i64 0,.slice none 0 0] _ rfl (zAo hz) Tryz.underlying30 rfl (by kernel_rfl)) rfl ?_;exact⟨rfl,hz.drop⟩
 · skip
   have hAi:¬(m:Int)≤61:=by omega
   have hAm:min (m:Int) 61=61:=by omega
   have hcw:=hcv _ _ _ _ g1 61 (by omega);clear g1 hA h hcv hm hr;go_enter Tryz.func137,Tryz.ntmps137;go_wp2_with (go_at_call 166;(with_reducible refine(zA0 (R.take 61) 0 e HP.out HL.out H.out).mono ?_);rintro e_ wn ⟨rfl,h⟩;obtain⟨x0,x1,x2,x3,x4,x5,x6,x7,x8,x9,x10,x11,y0,y1,y2,y3,y4,y5,y6,y7,y8,y9,y10,y11⟩:=zAa (b:=rb) (h.p1);replace H:=hQd h;clear h);have hz:St W0 _ _ (.raw rb #[.int .i64 0,.int .i64 0,.bool false,.bool false,.bool false,.int .i64 0,.int .i64 0,.int .i64 0,.int .i64 0,.int .i64 0,.int .i64 0,.slice none 0 0] 30::_):=St.sets12 _ _ _ _ _ _ _ _ _ _ _ _ (H.out.p1);refine bodyPost_ret (zAG rfl _ _ rb [.int .i64 0,.int .i64 0,.bool false,.bool false,.bool false,.int .i64 0,.int .i64 0,.int .i64 0,.int .i64 0,.int .i64 0,.int .i64 0,.slice none 0 0] _ rfl (zAo hz) Tryz.underlying30 rfl (by kernel_rfl)) rfl ?_;exact⟨rfl,hz.drop⟩
theorem zMg{v0:Value}{n0:Nat}{s0:Bs}(ad:Addr)(m c:Nat)(R:Bs)(hm:m=R.length)(hmc:m≤c)(hr:R.length≤1000000)(hcv:∀(W0 w:World) (K:Know) (L:List Res),St W0 w K (.row v0 5 1 n0 (zAi s0)::L)→∀k,k≤m→∀c',(convert 57 9 (.slice (some ad) k c')).run Tryz.prog w=.ok (.string (bb (R.take k))) w)(h61:¬R.length<61)(x:PreS)(hp:zAQ R=.ok x)(ht:R.length<61+(x.len - 49).toNat)(h:St W0 w K (.row v0 5 1 n0 (zAi s0)::L)):
   Calls Tryz.prog 137 #[.slice (some ad) m c] w fun en w'=>en=.returned (.tuple #[.agg #[.int .i64 0,.int .i64 0,.bool false,.bool false,.bool false,.int .i64 0,.int .i64 0,.int .i64 0,.int .i64 0,.int .i64 0,.int .i64 0,.slice none 0 0],.int .i64 0,.int .i64 0])∧St W0 w' K (.row v0 5 1 n0 (zAi s0)::L):=by
 obtain⟨rb,hrb⟩:∃b,w.heap.size=b:=⟨_,rfl⟩;have g1:=(h.allocRaw #[.int .i64 0,.int .i64 0,.bool false,.bool false,.bool false,.int .i64 0,.int .i64 0,.int .i64 0,.int .i64 0,.int .i64 0,.int .i64 0,.slice none 0 0] 30).p1;rw[hrb]at g1;have H:=hQd g1;have hmi:(m:Int)≤1000000:=by omega
 have hmci:(m:Int)≤(c:Int):=by omega
 have HCVH:=hQd hcv;have hm61:(61:Int)≤(m:Int):=by omega
 have HL:=hQd (show(R.take 61).length≤140737488355328 by rw[List.length_take];omega);have hpl:=(zBH hp).2.2.2.1;obtain⟨nl,hnl⟩:∃nl,x.len+12=nl:=⟨_,rfl⟩;have HP:=hQd (zKb h61 hp);rw[hnl]at HP;have hlt:(m:Int)<nl:=by omega
 clear hp ht hpl hnl
 by_cases hA:m≤61
 · skip
   have hAi:(m:Int)≤61:=by omega
   have hAm:min (m:Int) 61=(m:Int):=by omega
   have hcw:=hcv _ _ _ _ g1 m (Nat.le_refl _);rw[show R.take m=R.take 61 by rw[show m=61 by omega]]at hcw;clear g1 hA h hcv hm hr;go_enter Tryz.func137,Tryz.ntmps137;go_wp2_with (go_at_call 166;(with_reducible refine(zA0 (R.take 61) nl 0 HP.out HL.out H.out).mono ?_);rintro e_ wn ⟨rfl,h⟩;obtain⟨x0,x1,x2,x3,x4,x5,x6,x7,x8,x9,x10,x11,y0,y1,y2,y3,y4,y5,y6,y7,y8,y9,y10,y11⟩:=zAa (b:=rb) (h.p1);replace H:=hQd h;clear h);have hz:St W0 _ _ (.raw rb #[.int .i64 0,.int .i64 0,.bool false,.bool false,.bool false,.int .i64 0,.int .i64 0,.int .i64 0,.int .i64 0,.int .i64 0,.int .i64 0,.slice none 0 0] 30::_):=St.sets12 _ _ _ _ _ _ _ _ _ _ _ _ (H.out.p1);refine bodyPost_ret (zAG rfl _ _ rb [.int .i64 0,.int .i64 0,.bool false,.bool false,.bool false,.int .i64 0,.int .i64 0,.int .i64 0,.int .i64 0,.int .i64 0,.int .i64 0,.slice none 0 0] _ rfl (zAo hz) Tryz.underlying30 rfl (by kernel_rfl)) rfl ?_;exact⟨rfl,hz.drop⟩
 · skip
   have hAi:¬(m:Int)≤61:=by omega
   have hAm:min (m:Int) 61=61:=by omega
   have hcw:=hcv _ _ _ _ g1 61 (by omega);clear g1 hA h hcv hm hr;go_enter Tryz.func137,Tryz.ntmps137;go_wp2_with (go_at_call 166;(with_reducible refine(zA0 (R.take 61) nl 0 HP.out HL.out H.out).mono ?_);rintro e_ wn ⟨rfl,h⟩;obtain⟨x0,x1,x2,x3,x4,x5,x6,x7,x8,x9,x10,x11,y0,y1,y2,y3,y4,y5,y6,y7,y8,y9,y10,y11⟩:=zAa (b:=rb) (h.p1);replace H:=hQd h;clear h);have hz:St W0 _ _ (.raw rb #[.int .i64 0,.int .i64 0,.bool false,.bool false,.bool false,.int .i64 0,.int .i64 0,.int .i64 0,.int .i64 0,.int .i64 0,.int .i64 0,.slice none 0 0] 30::_):=St.sets12 _ _ _ _ _ _ _ _ _ _ _ _ (H.out.p1);refine bodyPost_ret (zAG rfl _ _ rb [.int .i64 0,.int .i64 0,.bool false,.bool false,.bool false,.int .i64 0,.int .i64 0,.int .i64 0,.int .i64 0,.int .i64 0,.int .i64 0,.slice none 0 0] _ rfl (zAo hz) Tryz.underlying30 rfl (by kernel_rfl)) rfl ?_;exact⟨rfl,hz.drop⟩
variable {W0 w:World}{K:Know}{L:List Res}
theorem zq3{p:Prop}(h:p:=by
  go_wp2_with (first
   |(go_at_call 166;(with_reducible refine(zA0 (R.take 61) nn 0 HP.out HL.out H.out).mono ?_);rintro e_ wn ⟨rfl,h⟩;have hcx:=HCVH.out _ _ _ _ h nn HNM.out;replace H:=hQd h;clear h)
   |(go_at_call 156;(with_reducible refine(zDj (R.take nn) HT2.out H.out).mono ?_);rintro e_ wn ⟨bi,rfl,h⟩;replace H:=hQd h;clear h)
   |(go_at_call 167;(with_reducible refine(zIb bi (R.take nn) 0 HT.out (Nat.zero_le _) b nn HRB.out H.out).mono ?_);rintro e_ wn ⟨q,l,cap2,rfl,hlr,h⟩;have HLR:=hQd hlr;clear hlr;obtain⟨xb,hxb⟩:∃b,wn.heap.size=b:=⟨_,rfl⟩;have h:=h.allocRaw #[.int .i64 b.base,.int .i64 b.leader,.bool b.app,.bool b.txn,.bool b.ctl,.int .i64 b.last,.int .i64 b.first,.int .i64 b.maxt,.int .i64 b.prod,.int .i64 b.epoch,.int .i64 b.seq,.slice q l.length cap2] 30;rw[hxb]at h;replace H:=hQd h;clear h))
  have hs:=H.out.drew;refine wp_region_held_drew (S:=fun w'=>w'.cell? ⟨xb,0,none⟩=some (.int .i64 b.base)∧w'.cell? ⟨xb,1,none⟩=some (.int .i64 b.leader)∧w'.cell? ⟨xb,2,none⟩=some (.bool b.app)∧w'.cell? ⟨xb,3,none⟩=some (.bool b.txn)∧w'.cell? ⟨xb,4,none⟩=some (.bool b.ctl)∧w'.cell? ⟨xb,5,none⟩=some (.int .i64 b.last)∧w'.cell? ⟨xb,6,none⟩=some (.int .i64 b.first)∧w'.cell? ⟨xb,7,none⟩=some (.int .i64 b.maxt)∧w'.cell? ⟨xb,8,none⟩=some (.int .i64 b.prod)∧w'.cell? ⟨xb,9,none⟩=some (.int .i64 b.epoch)∧w'.cell? ⟨xb,10,none⟩=some (.int .i64 b.seq)∧w'.cell? ⟨xb,11,none⟩=some (.slice q l.length cap2)) (by kernel_rfl) (let ⟨x0,x1,x2,x3,x4,x5,x6,x7,x8,x9,x10,x11,_⟩:=zAa (b:=xb) (hs);⟨x0,x1,x2,x3,x4,x5,x6,x7,x8,x9,x10,x11⟩) (fun hHeld=> ?_);refine tQ 0 ⟨some 42,.load 30 (.tmp 9),30,_,_,none⟩ ?_;simp only[Act.put,sA,sB,sC];refine tQ 1 ⟨some 43,.move (.tmp 6),3,_,_,none⟩ ?_;simp only[Act.put,sA,sB,sC];refine tQ 2 ⟨some 44,.move (.tmp 8),214,_,_,none⟩ ?_;simp only[Act.put,sA,sB,sC];refine wpAnyH_ready (rs:=[3]) (by kernel_rfl) (by simp) (AllReadyH.cons (o:=⟨some 45,.call {callee:=.value (.func 168),args:= #[.tmp 44],argTypes:= #[214]},44,_,_,none⟩) rfl (fun KK hK=> ?_) AllReadyH.nil);go_simp;go_at_call 168;with_reducible refine(zPH bi _ 0 rfl hs.p1).mono ?_;rintro e wq ⟨rfl,hs⟩;refine hK.out _ _ (let ⟨x0,x1,x2,x3,x4,x5,x6,x7,x8,x9,x10,x11,_⟩:=zAa (b:=xb) (hs.p1);⟨x0,x1,x2,x3,x4,x5,x6,x7,x8,x9,x10,x11⟩) (fun hHeld=> ?_);clear hK KK
  try simp only[Act.put,sA,sB,sC]
  refine wpAnyH_ready (rs:=[4]) (by kernel_rfl) (by simp) (AllReadyH.cons (o:=⟨none,.store 30 (.tmp 2) (.tmp 42),0,_,_,none⟩) rfl (fun KK hK=> ?_) AllReadyH.nil);have hs:=hs.p3;rw[if_pos (by rfl)];refine wp_store_mid 30 (.tmp 2) (.tmp 42) rfl rb 0 #[.int .i64 b.base,.int .i64 b.leader,.bool b.app,.bool b.txn,.bool b.ctl,.int .i64 b.last,.int .i64 b.first,.int .i64 b.maxt,.int .i64 b.prod,.int .i64 b.epoch,.int .i64 b.seq,.slice q l.length cap2] (by rfl) (by rfl) hs.there (by kernel_rfl) (by simp[Value.oneCell']) ?_;obtain⟨wz,ez,hs⟩:=hs.storeEx #[.int .i64 b.base,.int .i64 b.leader,.bool b.app,.bool b.txn,.bool b.ctl,.int .i64 b.last,.int .i64 b.first,.int .i64 b.maxt,.int .i64 b.prod,.int .i64 b.epoch,.int .i64 b.seq,.slice q l.length cap2];rw[ez];clear ez;rw[zCa]at hs;rotate_left
  · rfl
  refine hK.out _ _ (let ⟨x0,x1,x2,x3,x4,x5,x6,x7,x8,x9,x10,x11,_⟩:=zAa (b:=xb) (hs.p2);⟨x0,x1,x2,x3,x4,x5,x6,x7,x8,x9,x10,x11⟩) (fun hHeld=> ?_);clear hK KK
  try simp only[Act.put,sA,sB,sC]
  refine tQ 5 ⟨some 3,.assign (.tmp 43),3,_,_,none⟩ ?_;simp only[Act.put,sA,sB,sC];refine tQ 6 ⟨some 4,.assign (.tmp 45),44,_,_,none⟩ ?_;simp only[Act.put,sA,sB,sC];refine wpAnyH_done (by kernel_rfl) ?_ _;clear hHeld;go_wp2_with fail;refine bodyPost_ret (zAG rfl _ _ rb [.int .i64 b.base,.int .i64 b.leader,.bool b.app,.bool b.txn,.bool b.ctl,.int .i64 b.last,.int .i64 b.first,.int .i64 b.maxt,.int .i64 b.prod,.int .i64 b.epoch,.int .i64 b.seq,.slice q l.length cap2] _ rfl (zAo hs) Tryz.underlying30 rfl (by kernel_rfl)) rfl ?_;exact⟨q,l,cap2,rfl,HLR.out,hs.drop.drop.drop⟩):p:=h
theorem zMi{v0:Value}{n0:Nat}{s0:Bs}(ad:Addr)(m c:Nat)(R:Bs)(hm:m=R.length)(hmc:m≤c)(hr:R.length≤1000000)(hcv:∀(W0 w:World) (K:Know) (L:List Res),St W0 w K (.row v0 5 1 n0 (zAi s0)::L)→∀k,k≤m→∀c',(convert 57 9 (.slice (some ad) k c')).run Tryz.prog w=.ok (.string (bb (R.take k))) w)(h61:¬R.length<61)(x:PreS)(hp:zAQ R=.ok x)(nn:Nat)(hnn:nn=61+(x.len - 49).toNat)(ht:nn≤R.length)(b:BatS)(hrb:zCg ((R.take nn).drop 0)=.ok (b,nn))(h:St W0 w K (.row v0 5 1 n0 (zAi s0)::L)):
   Calls Tryz.prog 137 #[.slice (some ad) m c] w fun en w'=>∃(q:Option Addr) (l:List (RecS×Value)) (cap2:Nat),en=.returned (.tuple #[.agg #[.int .i64 b.base,.int .i64 b.leader,.bool b.app,.bool b.txn,.bool b.ctl,.int .i64 b.last,.int .i64 b.first,.int .i64 b.maxt,.int .i64 b.prod,.int .i64 b.epoch,.int .i64 b.seq,.slice q l.length cap2],.int .i64 nn,.int .i64 0])∧l.map (·.1)=b.recs∧St W0 w' (K.and (Know.recs (.slice q l.length cap2) l)) (.row v0 5 1 n0 (zAi s0)::L):=by
 obtain⟨rb,hrb0⟩:∃b,w.heap.size=b:=⟨_,rfl⟩;have g1:=(h.allocRaw #[.int .i64 0,.int .i64 0,.bool false,.bool false,.bool false,.int .i64 0,.int .i64 0,.int .i64 0,.int .i64 0,.int .i64 0,.int .i64 0,.slice none 0 0] 30).p1;rw[hrb0]at g1;have H:=hQd g1;have hmi:(m:Int)≤1000000:=by omega
 have hmci:(m:Int)≤(c:Int):=by omega
 have HCVH:=hQd hcv;have hm61:(61:Int)≤(m:Int):=by omega
 have HL:=hQd (show(R.take 61).length≤140737488355328 by rw[List.length_take];omega);have hpl:=(zBH hp).2.2.2.1;have hnl:x.len+12=(nn:Int):=by omega
 have HP:=hQd (zKb h61 hp);rw[hnl]at HP;have hlt:¬(m:Int)<(nn:Int):=by omega
 have hle:(nn:Int)≤(m:Int):=by omega
 have hn61:(61:Int)≤(nn:Int):=by omega
 have g0n:((nn:Int)==0)=false:=by rw[beq_eq_false_iff_ne];omega
 have g0m:((nn:Int) !=0)=true:=by simp[bne,g0n]
 have hnm:nn≤m:=by omega
 have HNM:=hQd hnm;have HT:=hQd (show(R.take nn).length≤1000000 by rw[List.length_take];omega);have HT2:=hQd (show(R.take nn).length≤140737488355328 by rw[List.length_take];omega);have HRB:=hQd hrb;clear hp hpl hnl ht hnm hrb
 by_cases hA:m≤61
 · skip
   have hAi:(m:Int)≤61:=by omega
   have hAm:min (m:Int) 61=(m:Int):=by omega
   have hcw:=hcv _ _ _ _ g1 m (Nat.le_refl _);rw[show R.take m=R.take 61 by rw[show m=61 by omega]]at hcw;clear g1 hA h hnn h61 hcv hm hr;go_enter Tryz.func137,Tryz.ntmps137
   exact zq3
 · skip
   have hAi:¬(m:Int)≤61:=by omega
   have hAm:min (m:Int) 61=61:=by omega
   have hcw:=hcv _ _ _ _ g1 61 (by omega);clear g1 hA h hnn h61 hcv hm hr;go_enter Tryz.func137,Tryz.ntmps137
   exact zq3
theorem zq4{p:Prop}(h:p:=by
  go_wp2_with (first
   |(go_at_call 166;(with_reducible refine(zA0 (R.take 61) nn 0 HP.out HL.out H.out).mono ?_);rintro e_ wn ⟨rfl,h⟩;have hcx:=HCVH.out _ _ _ _ h nn HNM.out;replace H:=hQd h;clear h)
   |(go_at_call 156;(with_reducible refine(zDj (R.take nn) HT2.out H.out).mono ?_);rintro e_ wn ⟨bi,rfl,h⟩;replace H:=hQd h;clear h)
   |(go_at_call 167;(with_reducible refine(zJH bi (R.take nn) 0 HT.out (Nat.zero_le _) e HRB.out H.out).mono ?_);rintro e_ wn ⟨rfl,qq,_,h⟩;obtain⟨xb,hxb⟩:∃b,wn.heap.size=b:=⟨_,rfl⟩;have h:=h.allocRaw #[.int .i64 0,.int .i64 0,.bool false,.bool false,.bool false,.int .i64 0,.int .i64 0,.int .i64 0,.int .i64 0,.int .i64 0,.int .i64 0,.slice none 0 0] 30;rw[hxb]at h;replace H:=hQd h;clear h))
  have hs:=H.out.drew;refine wp_region_held_drew (S:=fun w'=>w'.cell? ⟨xb,0,none⟩=some (.int .i64 0)∧w'.cell? ⟨xb,1,none⟩=some (.int .i64 0)∧w'.cell? ⟨xb,2,none⟩=some (.bool false)∧w'.cell? ⟨xb,3,none⟩=some (.bool false)∧w'.cell? ⟨xb,4,none⟩=some (.bool false)∧w'.cell? ⟨xb,5,none⟩=some (.int .i64 0)∧w'.cell? ⟨xb,6,none⟩=some (.int .i64 0)∧w'.cell? ⟨xb,7,none⟩=some (.int .i64 0)∧w'.cell? ⟨xb,8,none⟩=some (.int .i64 0)∧w'.cell? ⟨xb,9,none⟩=some (.int .i64 0)∧w'.cell? ⟨xb,10,none⟩=some (.int .i64 0)∧w'.cell? ⟨xb,11,none⟩=some (.slice none 0 0)) (by kernel_rfl) (let ⟨x0,x1,x2,x3,x4,x5,x6,x7,x8,x9,x10,x11,_⟩:=zAa (b:=xb) (hs);⟨x0,x1,x2,x3,x4,x5,x6,x7,x8,x9,x10,x11⟩) (fun hHeld=> ?_);refine tQ 0 ⟨some 42,.load 30 (.tmp 9),30,_,_,none⟩ ?_;simp only[Act.put,sA,sB,sC];refine tQ 1 ⟨some 43,.move (.tmp 6),3,_,_,none⟩ ?_;simp only[Act.put,sA,sB,sC];refine tQ 2 ⟨some 44,.move (.tmp 8),214,_,_,none⟩ ?_;simp only[Act.put,sA,sB,sC];refine wpAnyH_ready (rs:=[3]) (by kernel_rfl) (by simp) (AllReadyH.cons (o:=⟨some 45,.call {callee:=.value (.func 168),args:= #[.tmp 44],argTypes:= #[214]},44,_,_,none⟩) rfl (fun KK hK=> ?_) AllReadyH.nil);go_simp;go_at_call 168;with_reducible refine(zPH bi _ e rfl hs.p1).mono ?_;rintro e wq ⟨rfl,hs⟩;refine hK.out _ _ (let ⟨x0,x1,x2,x3,x4,x5,x6,x7,x8,x9,x10,x11,_⟩:=zAa (b:=xb) (hs.p1);⟨x0,x1,x2,x3,x4,x5,x6,x7,x8,x9,x10,x11⟩) (fun hHeld=> ?_);clear hK KK
  try simp only[Act.put,sA,sB,sC]
  refine wpAnyH_ready (rs:=[4]) (by kernel_rfl) (by simp) (AllReadyH.cons (o:=⟨none,.store 30 (.tmp 2) (.tmp 42),0,_,_,none⟩) rfl (fun KK hK=> ?_) AllReadyH.nil);have hs:=hs.p3;rw[if_pos (by rfl)];refine wp_store_mid 30 (.tmp 2) (.tmp 42) rfl rb 0 #[.int .i64 0,.int .i64 0,.bool false,.bool false,.bool false,.int .i64 0,.int .i64 0,.int .i64 0,.int .i64 0,.int .i64 0,.int .i64 0,.slice none 0 0] (by rfl) (by rfl) hs.there (by kernel_rfl) (by simp[Value.oneCell']) ?_;obtain⟨wz,ez,hs⟩:=hs.storeEx #[.int .i64 0,.int .i64 0,.bool false,.bool false,.bool false,.int .i64 0,.int .i64 0,.int .i64 0,.int .i64 0,.int .i64 0,.int .i64 0,.slice none 0 0];rw[ez];clear ez;rw[zCa]at hs;rotate_left
  · rfl
  refine hK.out _ _ (let ⟨x0,x1,x2,x3,x4,x5,x6,x7,x8,x9,x10,x11,_⟩:=zAa (b:=xb) (hs.p2);⟨x0,x1,x2,x3,x4,x5,x6,x7,x8,x9,x10,x11⟩) (fun hHeld=> ?_);clear hK KK
  try simp only[Act.put,sA,sB,sC]
  refine tQ 5 ⟨some 3,.assign (.tmp 43),3,_,_,none⟩ ?_;simp only[Act.put,sA,sB,sC];refine tQ 6 ⟨some 4,.assign (.tmp 45),44,_,_,none⟩ ?_;simp only[Act.put,sA,sB,sC];refine wpAnyH_done (by kernel_rfl) ?_ _;clear hHeld;go_wp2_with fail;refine bodyPost_ret (zAG rfl _ _ rb [.int .i64 0,.int .i64 0,.bool false,.bool false,.bool false,.int .i64 0,.int .i64 0,.int .i64 0,.int .i64 0,.int .i64 0,.int .i64 0,.slice none 0 0] _ rfl (zAo hs) Tryz.underlying30 rfl (by kernel_rfl)) rfl ?_;exact⟨rfl,hs.drop.drop.drop⟩):p:=h
theorem zNU{v0:Value}{n0:Nat}{s0:Bs}(ad:Addr)(m c:Nat)(R:Bs)(hm:m=R.length)(hmc:m≤c)(hr:R.length≤1000000)(hcv:∀(W0 w:World) (K:Know) (L:List Res),St W0 w K (.row v0 5 1 n0 (zAi s0)::L)→∀k,k≤m→∀c',(convert 57 9 (.slice (some ad) k c')).run Tryz.prog w=.ok (.string (bb (R.take k))) w)(h61:¬R.length<61)(x:PreS)(hp:zAQ R=.ok x)(nn:Nat)(hnn:nn=61+(x.len - 49).toNat)(ht:nn≤R.length)(e:Int)(hrb:zCg ((R.take nn).drop 0)=.error e)(h:St W0 w K (.row v0 5 1 n0 (zAi s0)::L)):
   Calls Tryz.prog 137 #[.slice (some ad) m c] w fun en w'=>en=.returned (.tuple #[.agg #[.int .i64 0,.int .i64 0,.bool false,.bool false,.bool false,.int .i64 0,.int .i64 0,.int .i64 0,.int .i64 0,.int .i64 0,.int .i64 0,.slice none 0 0],.int .i64 nn,.int .i64 e])∧St W0 w' K (.row v0 5 1 n0 (zAi s0)::L):=by
 obtain⟨rb,hrb0⟩:∃b,w.heap.size=b:=⟨_,rfl⟩;have g1:=(h.allocRaw #[.int .i64 0,.int .i64 0,.bool false,.bool false,.bool false,.int .i64 0,.int .i64 0,.int .i64 0,.int .i64 0,.int .i64 0,.int .i64 0,.slice none 0 0] 30).p1;rw[hrb0]at g1;have H:=hQd g1;have hmi:(m:Int)≤1000000:=by omega
 have hmci:(m:Int)≤(c:Int):=by omega
 have HCVH:=hQd hcv;have hm61:(61:Int)≤(m:Int):=by omega
 have HL:=hQd (show(R.take 61).length≤140737488355328 by rw[List.length_take];omega);have hpl:=(zBH hp).2.2.2.1;have hnl:x.len+12=(nn:Int):=by omega
 have HP:=hQd (zKb h61 hp);rw[hnl]at HP;have hlt:¬(m:Int)<(nn:Int):=by omega
 have hle:(nn:Int)≤(m:Int):=by omega
 have hn61:(61:Int)≤(nn:Int):=by omega
 have g0n:((nn:Int)==0)=false:=by rw[beq_eq_false_iff_ne];omega
 have g0m:((nn:Int) !=0)=true:=by simp[bne,g0n]
 have hnm:nn≤m:=by omega
 have HNM:=hQd hnm;have HT:=hQd (show(R.take nn).length≤1000000 by rw[List.length_take];omega);have HT2:=hQd (show(R.take nn).length≤140737488355328 by rw[List.length_take];omega);have HRB:=hQd hrb;clear hp hpl hnl ht hnm hrb
 by_cases hA:m≤61
 · skip
   have hAi:(m:Int)≤61:=by omega
   have hAm:min (m:Int) 61=(m:Int):=by omega
   have hcw:=hcv _ _ _ _ g1 m (Nat.le_refl _);rw[show R.take m=R.take 61 by rw[show m=61 by omega]]at hcw;clear g1 hA h hnn h61 hcv hm hr;go_enter Tryz.func137,Tryz.ntmps137
   exact zq4
 · skip
   have hAi:¬(m:Int)≤61:=by omega
   have hAm:min (m:Int) 61=61:=by omega
   have hcw:=hcv _ _ _ _ g1 61 (by omega);clear g1 hA h hnn h61 hcv hm hr;go_enter Tryz.func137,Tryz.ntmps137
   exact zq4
open Go
def Exit.jumps (J:Nat→Act→World→Prop) (Q:Exit→Act→World→Prop):Exit→Act→World→Prop
  | .goto l,a,w=>J l a w
  |e,a,w=>Q e a w
theorem zIt{P:Program}{a:Act}{w:World}{Q:Exit→Act→World→Prop}{c:Code}(J:Nat→Act→World→Prop)(μ:Nat→Act→World→Nat)(hf:∀l a w,J l a w→∃r,findLabel c l=some r)
    (first:c.wp P (Exit.jumps J Q) a w)
    (pass:∀l r a w,J l a w→findLabel c l=some r→r.wp P (Exit.jumps (fun l' a' w'=>J l' a' w'∧μ l' a' w'<μ l a w) Q) a w):(Code.scope c).wp P Q a w:=by
  intro b k cs
  have go:∀n l a w,μ l a w=n→J l a w→∃r,findLabel c l=some r∧∃e a' w',Q e a' w'∧Arrives P (lone (b.at a (.code r::.inScope c::k)) cs w) b k cs e a' w':=by
    intro n
    induction n using Nat.strongRecOn with
    | _ n ih=>
      intro l a w hn hJ;obtain⟨r,hr⟩:=hf l a w hJ;refine⟨r,hr,?_⟩;obtain⟨e,a₁,w₁,hq,hto⟩:=pass l r a w hJ hr b (.inScope c::k) cs
      match e,hq,hto with
      | .normal,hq,hto=>exact⟨.normal,a₁,w₁,hq,Steps.trans hto (.one step_inScope)⟩
      | .exit id,hq,hto=>exact⟨.exit id,a₁,w₁,hq,fun k' hk=>hto k' (by simp[exitTo,hk])⟩
      | .goto l',hq,hto=>
        obtain⟨hJ',hlt⟩:=hq;obtain⟨r2,hr2,e₂,a₂,w₂,hq₂,hto₂⟩:=ih _ (by omega) l' a₁ w₁ rfl hJ';exact⟨e₂,a₂,w₂,hq₂,.of_steps (hto _ (by simp[gotoIn,hr2])) hto₂⟩
      | .ret,hq,hto=>exact⟨_,a₁,w₁,hq,hto⟩
      | .panic ch,hq,hto=>exact⟨_,a₁,w₁,hq,hto⟩
      | .outgrown,hq,hto=>exact⟨_,a₁,w₁,hq,hto⟩
  obtain⟨e,a₁,w₁,hq,hto⟩:=first b (.inScope c::k) cs
  match e,hq,hto with
  | .normal,hq,hto=>exact⟨.normal,a₁,w₁,hq,.head step_scope (Steps.trans hto (.one step_inScope))⟩
  | .exit id,hq,hto=>exact⟨.exit id,a₁,w₁,hq,fun k' hk=> .head step_scope (hto k' (by simp[exitTo,hk]))⟩
  | .goto l',hq,hto=>
    obtain⟨r2,hr2,e₂,a₂,w₂,hq₂,hto₂⟩:=go _ l' a₁ w₁ rfl hq;exact⟨e₂,a₂,w₂,hq₂,.of_steps (.head step_scope (hto _ (by simp[gotoIn,hr2]))) hto₂⟩
  | .ret,hq,hto=>exact⟨_,a₁,w₁,hq,.of_steps (.one step_scope) hto⟩
  | .panic ch,hq,hto=>exact⟨_,a₁,w₁,hq,.of_steps (.one step_scope) hto⟩
  | .outgrown,hq,hto=>exact⟨_,a₁,w₁,hq,.of_steps (.one step_scope) hto⟩
theorem zMV{P:Program}{a:Act}{w:World}{Q:Exit→Act→World→Prop}{c rest0 rest1:Code}(J:Nat→Act→World→Prop)(μ:Nat→Act→World→Nat)(hl:∀l a w,J l a w→l=0∨l=1)(h0:findLabel c 0=some (Code.skip.seq rest0))(h1:findLabel c 1=some (Code.skip.seq rest1))
    (first:(∀a w,J 0 a w→rest0.wp P (Exit.jumps J Q) a w)→c.wp P (Exit.jumps J Q) a w)
    (pass0:∀a w,J 0 a w→rest0.wp P (Exit.jumps (fun l' a' w'=>J l' a' w'∧μ l' a' w'<μ 0 a w) Q) a w)
    (pass1:∀a w,J 1 a w→rest1.wp P (Exit.jumps (fun l' a' w'=>J l' a' w'∧μ l' a' w'<μ 1 a w) Q) a w):(Code.scope c).wp P Q a w:=by
  have skip:∀(rest:Code) (Q:Exit→Act→World→Prop) a w,rest.wp P Q a w→(Code.skip.seq rest).wp P Q a w:=fun rest Q a w h=>wp_seq_k fun K hK=>wp_skip (hK _ _ h)
  refine zIt J μ (fun l a w h=> ?_) (first fun a w h=>Code.wp_mono ?_ (pass0 a w h)) (fun l r a w h hr=> ?_)
  · rcases hl l a w h with rfl|rfl
    · exact⟨_,h0⟩
    · exact⟨_,h1⟩
  · intro e a' w' hq
    cases e with
    |goto l'=>exact hq.1
    | _=>exact hq
  · rcases hl l a w h with rfl|rfl
    · rw[h0]at hr
      cases hr
      exact skip _ _ _ _ (pass0 a w h)
    · rw[h1]at hr
      cases hr
      exact skip _ _ _ _ (pass1 a w h)
end Go.Proofs.YtenojajfacacoaaGreatDoor
namespace Go.Proofs.YtenojajfacacoaaGreatDoor
open Go.RowKit
structure EndS where
  n1:Int
  n2:Int
  n3:Int
  n4:Int
  n5:Int
def EndS.R (x:EndS):Prop:=Rn x.n1∧Rn x.n2∧Rn x.n3∧Rn x.n4∧Rn x.n5
def zAz (x:BatR):List Value:=[.int .i64 x.b.base,.int .i64 x.b.leader,.bool x.b.app,.bool x.b.txn,.bool x.b.ctl,.int .i64 x.b.last,.int .i64 x.b.first,.int .i64 x.b.maxt,.int .i64 x.b.prod,.int .i64 x.b.epoch,.int .i64 x.b.seq,.slice x.q x.l.length x.cap]
structure Good1 (x:BatR):Prop where
  so:SmallOk x.b
  recs:x.l.map (·.1)=x.b.recs
  len:x.b.enc.length≤14000
  told:x.b.ctl=true→(zDs x.b).2.2.2.2.2=true
theorem zE0:zDw Tryz.prog 30 (.agg #[.int .i64 0,.int .i64 0,.bool false,.bool false,.bool false,.int .i64 0,.int .i64 0,.int .i64 0,.int .i64 0,.int .i64 0,.int .i64 0,.slice none 0 0]) 12 96:=zBv (by kernel_rfl) rfl (by decide)
variable {W0 w:World}{K:Know}{L:List Res}
def zMA (v0:Value) (n0:Nat) (s0:Bs) (R:Bs) (v:Value):Prop:=
  (v=.slice none 0 0∧R=[])∨∃ad c,v=.slice (some ad) R.length c∧R.length≤c∧∀(W0 w:World) (K:Know) (L:List Res),St W0 w K (.row v0 5 1 n0 (zAi s0)::L)→∀k,k≤R.length→∀c',(convert 57 9 (.slice (some ad) k c')).run Tryz.prog w=.ok (.string (bb (R.take k))) w
theorem zBX{v0:Value}{n0:Nat}{s0:Bs}(R:Bs)(v:Value)(hv:zMA v0 n0 s0 R v)(hr:R.length≤1000000)(hf:zAg R=.ok none)(h:St W0 w K (.row v0 5 1 n0 (zAi s0)::L)):
  Calls Tryz.prog 137 #[v] w fun en w'=>en=.returned (.tuple #[.agg #[.int .i64 0,.int .i64 0,.bool false,.bool false,.bool false,.int .i64 0,.int .i64 0,.int .i64 0,.int .i64 0,.int .i64 0,.int .i64 0,.slice none 0 0],.int .i64 0,.int .i64 0])∧St W0 w' K (.row v0 5 1 n0 (zAi s0)::L):=by
 rcases hv with ⟨rfl,_⟩|⟨ad,c,rfl,hc,hcv⟩
 · exact zMh h
 unfold zAg at hf
 by_cases c1:R.length<61
 · exact zKm ad R.length c R rfl hc hr hcv c1 h
 rw[if_neg c1]at hf
 cases hp:zAQ R with
 |error e=>rw[hp]at hf;cases hf
 |ok x=>
  rw[hp]at hf;simp only at hf
  by_cases c2:R.length<61+(x.len - 49).toNat
  · exact zMg ad R.length c R rfl hc hr hcv c1 x hp c2 h
  rw[if_neg c2]at hf
  cases ha:asmB x (R.take 61) ((R.drop 61).take (x.len - 49).toNat)with
  |error e=>rw[ha]at hf;cases hf
  |ok b=>rw[ha]at hf;cases hf
theorem zHS{v0:Value}{n0:Nat}{s0:Bs}(R:Bs)(v:Value)(hv:zMA v0 n0 s0 R v)(hr:R.length≤1000000)(e:Int)(hf:zAg R=.error e)(h:St W0 w K (.row v0 5 1 n0 (zAi s0)::L)):
  Calls Tryz.prog 137 #[v] w fun en w'=>∃n:Nat,en=.returned (.tuple #[.agg #[.int .i64 0,.int .i64 0,.bool false,.bool false,.bool false,.int .i64 0,.int .i64 0,.int .i64 0,.int .i64 0,.int .i64 0,.int .i64 0,.slice none 0 0],.int .i64 n,.int .i64 e])∧St W0 w' K (.row v0 5 1 n0 (zAi s0)::L):=by
 unfold zAg at hf
 by_cases c1:R.length<61
 · rw[if_pos c1]at hf;cases hf
 rcases hv with ⟨_,rfl⟩|⟨ad,c,rfl,hc,hcv⟩
 · exact absurd (by decide) c1
 rw[if_neg c1]at hf
 cases hp:zAQ R with
 |error e2=>
  rw[hp]at hf
  cases hf
  exact(zNT ad R.length c R rfl hc hr hcv c1 e hp h).mono fun _ _ hh=>⟨0,hh⟩
 |ok x=>
  rw[hp]at hf;simp only at hf
  by_cases c2:R.length<61+(x.len - 49).toNat
  · rw[if_pos c2]at hf;cases hf
  rw[if_neg c2]at hf
  cases ha:asmB x (R.take 61) ((R.drop 61).take (x.len - 49).toNat)with
  |error e2=>
   rw[ha]at hf
   cases hf
   have hb:=zGR hp (by omega);rw[ha]at hb;exact(zNU ad R.length c R rfl hc hr hcv c1 x hp _ rfl (by omega) e hb h).mono fun _ _ hh=>⟨_,hh⟩
  |ok b=>rw[ha]at hf;cases hf
theorem zGt{v0:Value}{n0:Nat}{s0:Bs}(R:Bs)(v:Value)(hv:zMA v0 n0 s0 R v)(hr:R.length≤1000000)(b:BatS)(n:Nat)(hf:zAg R=.ok (some (b,n)))(h:St W0 w K (.row v0 5 1 n0 (zAi s0)::L)):
  Calls Tryz.prog 137 #[v] w fun en w'=>∃(q:Option Addr) (l:List (RecS×Value)) (cap2:Nat),en=.returned (.tuple #[.agg #[.int .i64 b.base,.int .i64 b.leader,.bool b.app,.bool b.txn,.bool b.ctl,.int .i64 b.last,.int .i64 b.first,.int .i64 b.maxt,.int .i64 b.prod,.int .i64 b.epoch,.int .i64 b.seq,.slice q l.length cap2],.int .i64 n,.int .i64 0])∧l.map (·.1)=b.recs∧St W0 w' (K.and (Know.recs (.slice q l.length cap2) l)) (.row v0 5 1 n0 (zAi s0)::L):=by
 unfold zAg at hf
 by_cases c1:R.length<61
 · rw[if_pos c1]at hf;cases hf
 rcases hv with ⟨_,rfl⟩|⟨ad,c,rfl,hc,hcv⟩
 · exact absurd (by decide) c1
 rw[if_neg c1]at hf
 cases hp:zAQ R with
 |error e2=>rw[hp]at hf;cases hf
 |ok x=>
  rw[hp]at hf;simp only at hf
  by_cases c2:R.length<61+(x.len - 49).toNat
  · rw[if_pos c2]at hf;cases hf
  rw[if_neg c2]at hf
  cases ha:asmB x (R.take 61) ((R.drop 61).take (x.len - 49).toNat)with
  |error e2=>rw[ha]at hf;cases hf
  |ok b2=>
   rw[ha]at hf
   cases hf
   have hb:=zGR hp (by omega);rw[ha]at hb;exact zMi ad R.length c R rfl hc hr hcv c1 x hp _ rfl (by omega) b hb h
def zGD (x:BatR):Prop:=x.l.map (·.1)=x.b.recs∧zPB 1000000 x.b
theorem zOm{K:Know}{v:Value}{l:List BatR}(h1:K.has (Know.flat RBat v 12 l))(h2:∀x∈l,K.has (Know.recs (.slice x.q x.l.length x.cap) x.l)):K.has (Know.bats v l):=fun w F h=>⟨h1 w F h,fun x hx=>h2 x hx w F h⟩
theorem zJF(K:Know):K.has (Know.bats (.slice none 0 0) []):=zOm (fun _ _ _=>⟨none,0,rfl,fun h=>absurd h (by simp)⟩) (fun x hx=>by cases hx)
theorem St.freezeBats{v:Value}{T:TypeId}{l:List BatR}(h:St W0 w K (.row v T 12 l.length (l.flatMap zAz)::L))(ht:∀x∈l,K.has (Know.recs (.slice x.q x.l.length x.cap) x.l)):St W0 w (K.and (Know.bats v l)) L:=by
 have hf:=h.freezeRow (R:=RBat) (fun x _=>⟨rfl,rfl⟩);exact hf.know (K':=K.and (Know.bats v l)) (fun w F hh=>⟨hh.1,hh.2,fun x hx=>ht x hx _ _ hh.1⟩)
def FeedJ (sb valid:Nat) (chunk T:Bs) (W0:World) (K:Know) (L:List Res) (l:Nat) (a':Act) (w':World):Prop:=
  (l=0∧∃(at_:Nat) (lv v:Value) (acc:List BatR) (K2:Know) (u:Nat→Value),a'={tmps:=((.pointer (some ⟨sb,0,none⟩):Value)::(.string (bb chunk):Value)::u 2::u 3::(.slice none 0 0:Value)::lv::(.int .i64 at_:Value)::u 7::u 8::u 9::u 10::u 11::u 12::u 13::u 14::u 15::u 16::u 17::u 18::u 19::u 20::u 21::u 22::u 23::u 24::u 25::u 26::u 27::u 28::u 29::u 30::u 31::u 32::u 33::u 34::u 35::u 36::u 37::u 38::u 39::u 40::u 41::u 42::u 43::u 44::u 45::u 46::u 47::u 48::u 49::u 50::u 51::u 52::u 53::u 54::u 55::u 56::u 57::u 58::u 59::u 60::u 61::u 62::u 63::u 64::u 65::u 66::u 67::u 68::u 69::u 70::u 71::u 72::u 73::u 74::u 75::u 76::u 77::u 78::u 79::u 80::u 81::u 82::u 83::u 84::u 85::u 86::[]).toArray,defers:=[]}∧at_≤T.length∧zAh T=(acc.map BatR.b++(zAh (T.drop at_)).1,(zAh (T.drop at_)).2)∧K2.has K∧(∀x∈acc,K2.has (Know.recs (.slice x.q x.l.length x.cap) x.l))∧(∀x∈acc,zGD x)∧61*acc.length≤at_∧St W0 w' K2 (.row lv 30 12 acc.length (acc.flatMap zAz)::.raw sb #[.int .i64 valid,v,.int .i64 0] 187::.row (v) 5 1 T.length (zAi T)::L))∨
  (l=1∧∃(at_:Nat) (lv v:Value) (acc:List BatR) (K2:Know) (e:Int) (u:Nat→Value),a'={tmps:=((.pointer (some ⟨sb,0,none⟩):Value)::(.string (bb chunk):Value)::u 2::u 3::(.slice none 0 0:Value)::lv::(.int .i64 at_:Value)::u 7::u 8::(.int .i64 e:Value)::u 10::u 11::u 12::u 13::u 14::u 15::u 16::u 17::u 18::u 19::u 20::u 21::u 22::u 23::u 24::u 25::u 26::u 27::u 28::u 29::u 30::u 31::u 32::u 33::u 34::u 35::u 36::u 37::u 38::u 39::u 40::u 41::u 42::u 43::u 44::u 45::u 46::u 47::u 48::u 49::u 50::u 51::u 52::u 53::u 54::u 55::u 56::u 57::u 58::u 59::u 60::u 61::u 62::u 63::u 64::u 65::u 66::u 67::u 68::u 69::u 70::u 71::u 72::u 73::u 74::u 75::u 76::u 77::u 78::u 79::u 80::u 81::u 82::u 83::u 84::u 85::u 86::[]).toArray,defers:=[]}∧at_≤T.length∧zAh T=(acc.map BatR.b,T.drop at_,e)∧K2.has K∧(∀x∈acc,K2.has (Know.recs (.slice x.q x.l.length x.cap) x.l))∧(∀x∈acc,zGD x)∧61*acc.length≤at_∧St W0 w' K2 (.row lv 30 12 acc.length (acc.flatMap zAz)::.raw sb #[.int .i64 valid,v,.int .i64 0] 187::.row (v) 5 1 T.length (zAi T)::L))
def zGE (T:Bs) (l:Nat) (a:Act) (_:World):Nat:=if l=0 then T.length+1 - (intOf (a.tmps.getD 6 undef)).toNat else 0
theorem zGh{T:Bs}{a a':Act}{w w':World}{at_:Nat}(h:zGE T 0 a w=T.length+1 - at_)(h2:at_≤T.length):zGE T 1 a' w'<zGE T 0 a w:=by
 rw[h]
 show 0< _
 omega
theorem zOt{T:Bs}{a a':Act}{w w':World}{at_ n:Nat}(h:zGE T 0 a w=T.length+1 - at_)(h2:at_≤T.length)(h3:0<n)(h4:zGE T 0 a' w'=T.length+1 - (at_+n)):zGE T 0 a' w'<zGE T 0 a w:=by
 rw[h,h4]
 omega
theorem FeedJ.elim0{sb valid:Nat}{chunk T:Bs}{W0:World}{K:Know}{L:List Res}{a':Act}{w':World}{P:Act→World→Prop}(h:FeedJ sb valid chunk T W0 K L 0 a' w')
    (go:∀(at_:Nat) (lv v:Value) (acc:List BatR) (K2:Know) (u:Nat→Value),at_≤T.length→zAh T=(acc.map BatR.b++(zAh (T.drop at_)).1,(zAh (T.drop at_)).2)→K2.has K→(∀x∈acc,K2.has (Know.recs (.slice x.q x.l.length x.cap) x.l))→(∀x∈acc,zGD x)→61*acc.length≤at_→St W0 w' K2 (.row lv 30 12 acc.length (acc.flatMap zAz)::.raw sb #[.int .i64 valid,v,.int .i64 0] 187::.row (v) 5 1 T.length (zAi T)::L)→zGE T 0 a' w'=T.length+1 - at_→P {tmps:=((.pointer (some ⟨sb,0,none⟩):Value)::(.string (bb chunk):Value)::u 2::u 3::(.slice none 0 0:Value)::lv::(.int .i64 at_:Value)::u 7::u 8::u 9::u 10::u 11::u 12::u 13::u 14::u 15::u 16::u 17::u 18::u 19::u 20::u 21::u 22::u 23::u 24::u 25::u 26::u 27::u 28::u 29::u 30::u 31::u 32::u 33::u 34::u 35::u 36::u 37::u 38::u 39::u 40::u 41::u 42::u 43::u 44::u 45::u 46::u 47::u 48::u 49::u 50::u 51::u 52::u 53::u 54::u 55::u 56::u 57::u 58::u 59::u 60::u 61::u 62::u 63::u 64::u 65::u 66::u 67::u 68::u 69::u 70::u 71::u 72::u 73::u 74::u 75::u 76::u 77::u 78::u 79::u 80::u 81::u 82::u 83::u 84::u 85::u 86::[]).toArray,defers:=[]} w'):P a' w':=by
  rcases h with ⟨_,at_,lv,v,acc,K2,u,rfl,h1,h2,h3,h4,h5,h6,h7⟩|⟨h,_⟩
  · exact go _ _ _ _ _ _ h1 h2 h3 h4 h5 h6 h7 rfl
  · cases h
theorem FeedJ.mk0{sb valid:Nat}{chunk T:Bs}{W0:World}{K:Know}{L:List Res}{a':Act}{w':World}(at_:Nat)(lv v:Value)(acc:List BatR)(K2:Know)(ha:a'=(fun u:Nat→Value=>({tmps:=((.pointer (some ⟨sb,0,none⟩):Value)::(.string (bb chunk):Value)::u 2::u 3::(.slice none 0 0:Value)::lv::(.int .i64 at_:Value)::u 7::u 8::u 9::u 10::u 11::u 12::u 13::u 14::u 15::u 16::u 17::u 18::u 19::u 20::u 21::u 22::u 23::u 24::u 25::u 26::u 27::u 28::u 29::u 30::u 31::u 32::u 33::u 34::u 35::u 36::u 37::u 38::u 39::u 40::u 41::u 42::u 43::u 44::u 45::u 46::u 47::u 48::u 49::u 50::u 51::u 52::u 53::u 54::u 55::u 56::u 57::u 58::u 59::u 60::u 61::u 62::u 63::u 64::u 65::u 66::u 67::u 68::u 69::u 70::u 71::u 72::u 73::u 74::u 75::u 76::u 77::u 78::u 79::u 80::u 81::u 82::u 83::u 84::u 85::u 86::[]).toArray,defers:=[]}:Act)) (fun i=>a'.tmps.getD i undef))(h1:at_≤T.length)(h2:zAh T=(acc.map BatR.b++(zAh (T.drop at_)).1,(zAh (T.drop at_)).2))(h3:K2.has K)(h4:∀x∈acc,K2.has (Know.recs (.slice x.q x.l.length x.cap) x.l))(h5:∀x∈acc,zGD x)(h6:61*acc.length≤at_)(h7:St W0 w' K2 (.row lv 30 12 acc.length (acc.flatMap zAz)::.raw sb #[.int .i64 valid,v,.int .i64 0] 187::.row (v) 5 1 T.length (zAi T)::L)):FeedJ sb valid chunk T W0 K L 0 a' w':=
 .inl ⟨rfl,at_,lv,v,acc,K2,(fun i=>a'.tmps.getD i undef),ha,h1,h2,h3,h4,h5,h6,h7⟩
theorem FeedJ.elim1{sb valid:Nat}{chunk T:Bs}{W0:World}{K:Know}{L:List Res}{a':Act}{w':World}{P:Act→World→Prop}(h:FeedJ sb valid chunk T W0 K L 1 a' w')
    (go:∀(at_:Nat) (lv v:Value) (acc:List BatR) (K2:Know) (e:Int) (u:Nat→Value),at_≤T.length→zAh T=(acc.map BatR.b,T.drop at_,e)→K2.has K→(∀x∈acc,K2.has (Know.recs (.slice x.q x.l.length x.cap) x.l))→(∀x∈acc,zGD x)→61*acc.length≤at_→St W0 w' K2 (.row lv 30 12 acc.length (acc.flatMap zAz)::.raw sb #[.int .i64 valid,v,.int .i64 0] 187::.row (v) 5 1 T.length (zAi T)::L)→zGE T 1 a' w'=0→P {tmps:=((.pointer (some ⟨sb,0,none⟩):Value)::(.string (bb chunk):Value)::u 2::u 3::(.slice none 0 0:Value)::lv::(.int .i64 at_:Value)::u 7::u 8::(.int .i64 e:Value)::u 10::u 11::u 12::u 13::u 14::u 15::u 16::u 17::u 18::u 19::u 20::u 21::u 22::u 23::u 24::u 25::u 26::u 27::u 28::u 29::u 30::u 31::u 32::u 33::u 34::u 35::u 36::u 37::u 38::u 39::u 40::u 41::u 42::u 43::u 44::u 45::u 46::u 47::u 48::u 49::u 50::u 51::u 52::u 53::u 54::u 55::u 56::u 57::u 58::u 59::u 60::u 61::u 62::u 63::u 64::u 65::u 66::u 67::u 68::u 69::u 70::u 71::u 72::u 73::u 74::u 75::u 76::u 77::u 78::u 79::u 80::u 81::u 82::u 83::u 84::u 85::u 86::[]).toArray,defers:=[]} w'):P a' w':=by
  rcases h with ⟨h,_⟩|⟨_,at_,lv,v,acc,K2,e,u,rfl,h1,h2,h3,h4,h5,h6,h7⟩
  · cases h
  · exact go _ _ _ _ _ _ _ h1 h2 h3 h4 h5 h6 h7 rfl
theorem FeedJ.mk1{sb valid:Nat}{chunk T:Bs}{W0:World}{K:Know}{L:List Res}{a':Act}{w':World}(at_:Nat)(lv v:Value)(acc:List BatR)(K2:Know)(e:Int)(ha:a'=(fun u:Nat→Value=>({tmps:=((.pointer (some ⟨sb,0,none⟩):Value)::(.string (bb chunk):Value)::u 2::u 3::(.slice none 0 0:Value)::lv::(.int .i64 at_:Value)::u 7::u 8::(.int .i64 e:Value)::u 10::u 11::u 12::u 13::u 14::u 15::u 16::u 17::u 18::u 19::u 20::u 21::u 22::u 23::u 24::u 25::u 26::u 27::u 28::u 29::u 30::u 31::u 32::u 33::u 34::u 35::u 36::u 37::u 38::u 39::u 40::u 41::u 42::u 43::u 44::u 45::u 46::u 47::u 48::u 49::u 50::u 51::u 52::u 53::u 54::u 55::u 56::u 57::u 58::u 59::u 60::u 61::u 62::u 63::u 64::u 65::u 66::u 67::u 68::u 69::u 70::u 71::u 72::u 73::u 74::u 75::u 76::u 77::u 78::u 79::u 80::u 81::u 82::u 83::u 84::u 85::u 86::[]).toArray,defers:=[]}:Act)) (fun i=>a'.tmps.getD i undef))(h1:at_≤T.length)(h2:zAh T=(acc.map BatR.b,T.drop at_,e))(h3:K2.has K)(h4:∀x∈acc,K2.has (Know.recs (.slice x.q x.l.length x.cap) x.l))(h5:∀x∈acc,zGD x)(h6:61*acc.length≤at_)(h7:St W0 w' K2 (.row lv 30 12 acc.length (acc.flatMap zAz)::.raw sb #[.int .i64 valid,v,.int .i64 0] 187::.row (v) 5 1 T.length (zAi T)::L)):FeedJ sb valid chunk T W0 K L 1 a' w':=
 .inr ⟨rfl,at_,lv,v,acc,K2,e,(fun i=>a'.tmps.getD i undef),ha,h1,h2,h3,h4,h5,h6,h7⟩
theorem Keeps.setRow(w:World)(g:Nat)(c:Array Value):Keeps (fun k=>k=g) w (w.setRow g c):=⟨rfl,rfl,rfl,by simp[World.setRow],fun k _ hk=>setRow_other w g k c hk⟩
theorem zDu(s:Bs)(k:Nat):zAi (s.drop k)=(zAi s).drop k:=by unfold zAi;rw[List.map_drop]
theorem zMv(s:Bs):∀v∈zAi s,v.oneCell'=true:=by
 intro v hv;unfold zAi at hv;obtain⟨c,_,rfl⟩:=List.mem_map.1 hv
 rfl
theorem zLr(l:List Value)(n a:Nat)(ha:a≤n)(hn:n≤l.length):((l.take n).drop a++l.drop (n - a)).take n=(l.take n).drop a++(l.take n).drop (n - a):=by
 have hA:((l.take n).drop a).length=n - a:=by rw[List.length_drop,List.length_take];omega
 rw[List.take_append,hA,List.take_of_length_le (by omega),show n - (n - a)=a by omega,List.drop_take (i:=n - a),show n - (n - a)=a by omega]
theorem zAv{W0 w:World}{K:Know}{L:List Res}{o:Oper}{a:Act}{KK:Act→World→Prop}{Q:Exit→Act→World→Prop}(d s:Operand)
    (ho:o.op=.call {callee:=.builtin .copy,args:= #[d,s],argTypes:= #[57,57]})(g cap:Nat)(T:Bs)(at_:Nat)(hat:at_≤T.length)
    (hd:a.eval d=.slice (some ⟨g,0,none⟩) T.length cap)(sp:Option Addr)(sl sc:Nat)(hs:a.eval s=.slice sp sl sc)(hsl:sl=T.length - at_)(hsp:at_<T.length→sp=some ⟨g,at_,none⟩)
    (hst:St W0 w K (.row (.slice (some ⟨g,0,none⟩) T.length cap) 5 1 T.length (zAi T)::L))
    (h:∀w',St W0 w' K (.row (.slice (some ⟨g,0,none⟩) T.length cap) 5 1 T.length (zAi (T.drop at_++T.drop (T.length - at_)))::L)→KK (a.put o.dst (.int .i64 ((T.length - at_:Nat):Int))) w'):o.wp Tryz.prog a w KK Q:=by
  subst hsl;have hes:(Tryz.prog.info? 5).map (·.size)=some 1:=by kernel_rfl
  by_cases h0:at_=T.length
  · have hrun:=run_copy_none (P:=Tryz.prog) w 57 57 o.type 5 (some ⟨g,0,none⟩) sp T.length cap (T.length - at_) sc Tryz.underlying57 hes (by rw[h0];simp);unfold Oper.wp execOp;simp only[ho,resolve,invoke,builtin,Sem.run_bind,Sem.run_pure,Result.andThen_ok,List.map_toArray,List.map_cons,List.map_nil,hd,hs,hrun]
    have h1:=h w (by
      rw[h0,List.drop_length,Nat.sub_self,List.drop_zero,List.nil_append]
      exact hst)
    rw[h0,Nat.sub_self]at h1;exact h1
  · have hlt:at_<T.length:=by omega
    obtain rfl:=hsp hlt
    rcases hst.rowGet.2 with ⟨hv,_⟩|⟨g2,cap2,cur,e1,_,e3,e4,e5,e6,e7⟩
    · cases hv
    simp at e1;obtain⟨rfl,rfl⟩:=e1
    have hrun:=run_copy_row (P:=Tryz.prog) w 57 57 o.type 5 g 0 T.length cap ⟨g,at_,none⟩ (T.length - at_) sc cur 5 (zAi (T.drop at_)) Tryz.underlying57 hes e3 (by rw[zA3,List.length_drop];exact(Nat.min_eq_left (by omega)).symm)
      (fun j v hj=>by
        have ha:(⟨g,at_,none⟩:Addr).add j=⟨g,at_+j,none⟩:=by unfold Addr.add;split<;>simp_all
        have hjl:j<(zAi (T.drop at_)).length:=(List.getElem?_eq_some_iff.1 hj).1;rw[zA3,List.length_drop]at hjl;rw[ha,hst.rowCell (at_+j) (by omega)];rw[zDu,List.getElem?_drop]at hj
        exact hj) (by rw[zA3,List.length_drop];omega) (zMv _)
    unfold Oper.wp execOp;simp only[ho,resolve,invoke,builtin,Sem.run_bind,Sem.run_pure,Result.andThen_ok,List.map_toArray,List.map_cons,List.map_nil,hd,hs,hrun];have hk:(zAi (T.drop at_)).length=T.length - at_:=by rw[zA3,List.length_drop]
    have hst2:St W0 (w.setRow g (cur.toList.take 0++zAi (T.drop at_)++cur.toList.drop (0+(zAi (T.drop at_)).length)).toArray) K (.row (.slice (some ⟨g,0,none⟩) T.length cap) 5 1 T.length (zAi (T.drop at_++T.drop (T.length - at_)))::L):=by
      refine hst.step fun S1 h1=>⟨S1,⟨⟨?_,.inr ⟨g,cap,_,rfl,Nat.zero_le _,setRow_heap w g cur _ _ _ e3,e4,e5,?_,?_⟩⟩,h1.2⟩,(Keeps.setRow w g _).mono (fun k _ hk=>by subst hk;exact(h1.2 _).2 rfl),fun k hk=>⟨.inl hk,?_⟩⟩
      · rw[zA3,List.length_append,List.length_drop,List.length_drop];omega
      · have hcl:cur.toList.length=cap:=by rw[Array.length_toList];omega
        simp only[List.take_zero,List.nil_append,Nat.zero_add,List.size_toArray,List.length_append,List.length_drop,hk,hcl]
        omega
      · rw[List.take_zero,List.nil_append,Nat.zero_add,hk,zBV,zDu,zDu,←e7];simp only[Nat.mul_one];exact zLr _ _ _ hat (by have hq:cur.toList.length=cur.size:=Array.length_toList;omega)
      · have:=(h1.1.lt k ((h1.2 k).1 hk)).2
        simpa [World.setRow]using this
    have h1:=h _ hst2;have hgi:goInt (((zAi (T.drop at_)).length:Nat):Int)=.int .i64 ((T.length - at_:Nat):Int):=by rw[hk];rfl
    show KK (a.put o.dst (goInt (((zAi (T.drop at_)).length:Nat):Int))) _
    rw[hgi];exact h1
end Go.Proofs.YtenojajfacacoaaGreatDoor
