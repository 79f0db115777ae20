/- A text. -/
import Derived.Test.YtenojajfacacoaaGreatDoorGReportRawsCard3
import Derived.Test.YtenojajfacacoaaGreatDoorGReportRawsCard5
import Derived.Test.YtenojajfacacoaaGreatDoorGReportRawsCard15
import Derived.Test.YtenojajfacacoaaGreatDoorGReportRawsCard11
import Derived.Test.YtenojajfacacoaaGreatDoorGReportRawsCard4
import Derived.Test.YtenojajfacacoaaGreatDoorGReportRawsCard10
import Derived.RegionTactic
import Derived.Deep.RegionHeld3
import Derived.Deep.DeepCutAuto
import Derived.Test.YtenojajfacacoaaGreatDoorGReportRawsCard14
import Derived.WalkMore
import Derived.Test.YtenojajfacacoaaGreatDoorGReportRawsCard13
import Derived.Test.YtenojajfacacoaaGreatDoorGReportRawsCard12
/- A text. -/
namespace Go.Proofs.YtenojajfacacoaaGreatDoor
open Go.RowKit
set_option maxHeartbeats 8000000
set_option maxRecDepth 100000
theorem zPM(s:Bs)(hs:s.length≤1000000)(x:PreS)(hp:zAH s=.ok x)(nn:Nat)(hnn:61+(x.len - 49).toNat=nn)(hge0:nn≤s.length)(sd:Bs)(hsd:(s.drop 21).take (nn - 21)=sd)(X:Nat)(hX:(zAj 0#32 sd).toNat=X)(heq:(X:Int)=x.sum)(h8:x.attr % 8=0)(hn0:¬x.attr<0)(hn1:¬63<x.attr)(hn2:¬(32≤x.attr∧x.attr % 32<16))(n:Nat)(hcn:x.count=(n:Int))(hnb:n≤2147483647)(rs:List RecS)(hu:unpT n ((s.drop 61).take (nn - 61))=.ok rs)(hrs:rs.length≤1000000)(hrf:∀l:List (RecS×Value),l.map (·.1)=rs→FitB l)(e:Int)(he0:e≠0)(hbe:zAC ⟨x.base,x.leader,zAf x.attr 3,zAf x.attr 4,zAf x.attr 5,x.last,x.first,x.maxt,x.prod,x.epoch,x.seq,rs⟩=e){W0 w:World}{K:Know}{L:List Res}(h:St W0 w K L):
  Calls Tryz.prog 67 #[.string (bb s)] w fun en w'=>en=.returned (.agg #[.int .i64 0,.int .i64 0,.bool false,.bool false,.bool false,.int .i64 0,.int .i64 0,.int .i64 0,.int .i64 0,.int .i64 0,.int .i64 0,.slice none 0 0,.int .i64 0,.int .i64 e])∧St W0 w' K L:=by
 obtain⟨rb,hrb⟩:∃b,w.heap.size=b:=⟨_,rfl⟩;have g1:=h.allocRaw #[.int .i64 0,.int .i64 0,.bool false,.bool false,.bool false,.int .i64 0,.int .i64 0,.int .i64 0,.int .i64 0,.int .i64 0,.int .i64 0,.slice none 0 0,.int .i64 0,.int .i64 0] 105;rw[hrb]at g1;obtain⟨z0,z1,z2,z3,z4,z5,z6,z7,z8,z9,z10,z11,z12,z13,zf0,zf1,zf2,zf3,zf4,zf5,zf6,zf7,zf8,zf9,zf10,zf11,zf12,zf13⟩:=zAE (b:=rb) (g1);have H:=hQd g1;have HL:=hQd (show s.length≤140737488355328 by omega);have HP:=hQd hp;obtain⟨r1,r2,r3,r4,r5,r6⟩:=zAQ hp;have hln:x.len+12=(nn:Int):=by omega
 have hsl:(s.length:Int)≤1000000:=by omega
 have HSD:=hQd hsd;have HX:=hQd hX;have HSL:=hQd (show sd.length≤1000000 by rw[←hsd,List.length_take,List.length_drop];omega);have hX4:(X:Int)<4294967296:=by rw[←hX];have:=(zAj 0#32 sd).isLt;omega
 have hwX:IntKind.i64.wrap (X:Int)=(X:Int):=by rw[IntKind.wrap_i64];omega
 clear hX4;have hge:(nn:Int)≤(s.length:Int):=by omega
 have h21:(21:Int)≤(nn:Int):=by omega
 have h61:(61:Int)≤(nn:Int):=by omega
 have hg9:¬(s.length:Int)<(nn:Int):=by omega
 have g5:((X:Int)==x.sum)=true:=by rw[heq];exact beq_self_eq_true _
 have g6:((X:Int) !=x.sum)=false:=by simp[bne,g5]
 obtain⟨c0,c1,hb2,hc1⟩:=zB1 x.attr;have HB2:=hQd hb2;have HA:=hQd (show -9223372036854775808≤x.attr∧x.attr<9223372036854775808 from r3);have hc8:(c1.toNat:Int) % 8=0:=by rw[hc1];omega
 have e9:(((([c0,c1]:List UInt8)[1]'(by simp)).toNat:Int) % 8 !=0)=false:=by show((c1.toNat:Int) % 8 !=0)=false;simp[bne,hc8]
 have e8:(((([c0,c1]:List UInt8)[1]'(by simp)).toNat:Int) % 8==0)=true:=by show((c1.toNat:Int) % 8==0)=true;simp[hc8]
 clear hc8 hc1;have d0:decide (x.attr<0)=false:=decide_eq_false hn0;have d1:decide (63<x.attr)=false:=decide_eq_false hn1;have ha0:0≤x.attr:=by omega
 have ha63:x.attr≤63:=by omega
 have q8:x.attr.tdiv 8=x.attr / 8:=Int.tdiv_eq_ediv_of_nonneg ha0;have q16:x.attr.tdiv 16=x.attr / 16:=Int.tdiv_eq_ediv_of_nonneg ha0;have q32:x.attr.tdiv 32=x.attr / 32:=Int.tdiv_eq_ediv_of_nonneg ha0;have m8:(x.attr / 8).tmod 2=x.attr / 8 % 2:=Int.tmod_eq_emod_of_nonneg (by omega);have m16:(x.attr / 16).tmod 2=x.attr / 16 % 2:=Int.tmod_eq_emod_of_nonneg (by omega);have w8:IntKind.i64.wrap (x.attr / 8)=x.attr / 8:=by rw[IntKind.wrap_i64];omega
 have w16:IntKind.i64.wrap (x.attr / 16)=x.attr / 16:=by rw[IntKind.wrap_i64];omega
 have w32:IntKind.i64.wrap (x.attr / 32)=x.attr / 32:=by rw[IntKind.wrap_i64];omega
 have w8m:IntKind.i64.wrap (x.attr / 8 % 2)=x.attr / 8 % 2:=by rw[IntKind.wrap_i64];omega
 have w16m:IntKind.i64.wrap (x.attr / 16 % 2)=x.attr / 16 % 2:=by rw[IntKind.wrap_i64];omega
 have b5:(x.attr / 32==1)=zAf x.attr 5:=by unfold zAf;rw[show(2:Int) ^ 5=32 by decide,show(x.attr / 32==1)=decide (x.attr / 32=1)from rfl];congr 1;rw[eq_iff_iff];omega
 have b3:(x.attr / 8 % 2==1)=zAf x.attr 3:=rfl;have b4:(x.attr / 16 % 2==1)=zAf x.attr 4:=rfl;have HD:=hQd (And.intro b3 (And.intro b4 b5));have HN2:=hQd hn2;clear h8 hn0 hn1 hn2 b3 b4 b5;obtain⟨rw0,hrw⟩:∃r,(s.drop 61).take (nn - 61)=r:=⟨_,rfl⟩;rw[hrw]at hu;have HRW:=hQd hrw;have HRW1:=hQd (show rw0.length≤1000000 by rw[←hrw,List.length_take,List.length_drop];omega);obtain⟨tot,htot⟩:∃t,unpT n rw0=t:=⟨_,rfl⟩;have HTT:=hQd (htot.symm.trans hu);have HT:=hQd (show preU [] (unpT (n - 0) rw0)=tot by rw[zDJ];exact htot);have HNB:=hQd hnb;have HCN:=hQd hcn;have HE0:=hQd he0;have HBE:=hQd hbe;have HRS:=hQd hrs;have HRF:=hQd hrf;have HB0:=hQd r6;have HB1:=hQd (show Rn x.base from(zJ2 hp).1);clear h g1 hp hs hnn r3 r4 r5 r6 hsd hX hge0 heq hb2 hu hrw htot hnb hcn he0 hbe hrs hrf;go_enter Tryz.func67,Tryz.ntmps67
 go_upto_region 7 with (first
  |(go_at_call 66;clear z0 zf0 z1 zf1 z2 zf2 z3 zf3 z4 zf4 z5 zf5 z6 zf6 z7 zf7 z8 zf8 z9 zf9 z10 zf10 z11 zf11 z12 zf12 z13 zf13;(with_reducible refine(zAx s x HP.out HL.out H.out).mono ?_);rintro e_ wn ⟨bl,rfl,h⟩;have p0:=h.rawCell 0;have p1:=h.rawCell 1;have p2:=h.rawCell 2;have p3:=h.rawCell 3;have p4:=h.rawCell 4;have p5:=h.rawCell 5;have p6:=h.rawCell 6;have p7:=h.rawCell 7;have p8:=h.rawCell 8;have p9:=h.rawCell 9;have p10:=h.rawCell 10;have p11:=h.rawCell 11;simp at p0 p1 p2 p3 p4 p5 p6 p7 p8 p9 p10 p11;obtain⟨z0,z1,z2,z3,z4,z5,z6,z7,z8,z9,z10,z11,z12,z13,zf0,zf1,zf2,zf3,zf4,zf5,zf6,zf7,zf8,zf9,zf10,zf11,zf12,zf13⟩:=zAE (b:=rb) (h.p1);replace H:=hQd h;clear h))
 clear z0 zf0 z1 zf1 z2 zf2 z3 zf3 z4 zf4 z5 zf5 z6 zf6 z7 zf7 z8 zf8 z9 zf9 z10 zf10 z11 zf11 z12 zf12 z13 zf13;clear p0 p1 p2 p3 p4 p5 p6 p7 p8 p9 p10 p11;go_cut [38] (fun s38 wx=>s38=.bool false∧St W0 wx K (.raw bl #[.int .i64 x.base,.int .i64 x.len,.int .i64 x.leader,.int .i64 x.sum,.int .i64 x.attr,.int .i64 x.last,.int .i64 x.first,.int .i64 x.maxt,.int .i64 x.prod,.int .i64 x.epoch,.int .i64 x.seq,.int .i64 x.count] 3::.raw rb #[.int .i64 0,.int .i64 0,.bool false,.bool false,.bool false,.int .i64 0,.int .i64 0,.int .i64 0,.int .i64 0,.int .i64 0,.int .i64 0,.slice none 0 0,.int .i64 0,.int .i64 0] 105::L))
 case first=>
  exact zq2
 obtain⟨rfl,h⟩:=hcut;clear H;have p0:=h.rawCell 0;have p1:=h.rawCell 1;have p2:=h.rawCell 2;have p3:=h.rawCell 3;have p4:=h.rawCell 4;have p5:=h.rawCell 5;have p6:=h.rawCell 6;have p7:=h.rawCell 7;have p8:=h.rawCell 8;have p9:=h.rawCell 9;have p10:=h.rawCell 10;have p11:=h.rawCell 11;simp at p0 p1 p2 p3 p4 p5 p6 p7 p8 p9 p10 p11;obtain⟨z0,z1,z2,z3,z4,z5,z6,z7,z8,z9,z10,z11,z12,z13,zf0,zf1,zf2,zf3,zf4,zf5,zf6,zf7,zf8,zf9,zf10,zf11,zf12,zf13⟩:=zAE (b:=rb) (h.p1);have H:=hQd h;clear h
 go_upto_region 12 with (first
  |(go_at_call 62;clear z0 zf0 z1 zf1 z2 zf2 z3 zf3 z4 zf4 z5 zf5 z6 zf6 z7 zf7 z8 zf8 z9 zf9 z10 zf10 z11 zf11 z12 zf12 z13 zf13;clear p0 p1 p2 p3 p4 p5 p6 p7 p8 p9 p10 p11;(with_reducible refine(zBz x.attr HA.out c0 c1 HB2.out H.out).mono ?_);rintro e_ wn ⟨rfl,h⟩;have p0:=h.rawCell 0;have p1:=h.rawCell 1;have p2:=h.rawCell 2;have p3:=h.rawCell 3;have p4:=h.rawCell 4;have p5:=h.rawCell 5;have p6:=h.rawCell 6;have p7:=h.rawCell 7;have p8:=h.rawCell 8;have p9:=h.rawCell 9;have p10:=h.rawCell 10;have p11:=h.rawCell 11;simp at p0 p1 p2 p3 p4 p5 p6 p7 p8 p9 p10 p11;obtain⟨z0,z1,z2,z3,z4,z5,z6,z7,z8,z9,z10,z11,z12,z13,zf0,zf1,zf2,zf3,zf4,zf5,zf6,zf7,zf8,zf9,zf10,zf11,zf12,zf13⟩:=zAE (b:=rb) (h.p1);replace H:=hQd h;clear h))
 go_cut [63] (fun s63 wx=>s63=.bool false∧St W0 wx K (.raw bl #[.int .i64 x.base,.int .i64 x.len,.int .i64 x.leader,.int .i64 x.sum,.int .i64 x.attr,.int .i64 x.last,.int .i64 x.first,.int .i64 x.maxt,.int .i64 x.prod,.int .i64 x.epoch,.int .i64 x.seq,.int .i64 x.count] 3::.raw rb #[.int .i64 0,.int .i64 0,.bool false,.bool false,.bool false,.int .i64 0,.int .i64 0,.int .i64 0,.int .i64 0,.int .i64 0,.int .i64 0,.slice none 0 0,.int .i64 0,.int .i64 0] 105::L))
 case first=>
  exact zq13
 obtain⟨rfl,h⟩:=hcut;clear H;have H:=hQd h;clear h;go_upto_region 14 with (fail);clear z0 zf0 z1 zf1 z2 zf2 z3 zf3 z4 zf4 z5 zf5 z6 zf6 z7 zf7 z8 zf8 z9 zf9 z10 zf10 z11 zf11 z12 zf12 z13 zf13;clear p0 p1 p2 p3 p4 p5 p6 p7 p8 p9 p10 p11;go_cut [7] (fun s7 wx=>∃tb:Nat,s7=.pointer (some ⟨tb,0,none⟩)∧St W0 wx K (.raw tb #[.int .i64 x.base,.int .i64 x.leader,.bool (zAf x.attr 3),.bool (zAf x.attr 4),.bool (zAf x.attr 5),.int .i64 x.last,.int .i64 x.first,.int .i64 x.maxt,.int .i64 x.prod,.int .i64 x.epoch,.int .i64 x.seq,.slice none 0 0] 30::.raw bl #[.int .i64 x.base,.int .i64 x.len,.int .i64 x.leader,.int .i64 x.sum,.int .i64 x.attr,.int .i64 x.last,.int .i64 x.first,.int .i64 x.maxt,.int .i64 x.prod,.int .i64 x.epoch,.int .i64 x.seq,.int .i64 x.count] 3::.raw rb #[.int .i64 0,.int .i64 0,.bool false,.bool false,.bool false,.int .i64 0,.int .i64 0,.int .i64 0,.int .i64 0,.int .i64 0,.int .i64 0,.slice none 0 0,.int .i64 0,.int .i64 0] 105::L))
 case first=>
  exact zq3
 obtain⟨tb,rfl,h⟩:=hcut;clear H q8 q16 q32 m8 m16 w8 w16 w32 w8m w16m d0 d1 ha0 ha63 g5 g6 e8 e9;have H:=hQd h;clear h;have hge:=hge;go_wp2;rw[HRW.out];go_loopw [8,9] (fun rv iv wr=>∃(k:Nat) (acc:List (RecS×Value)) (r:Bs) (K2:Know) (tv:Value),k≤n∧iv=.int .i64 k∧rv=.string (bb r)∧acc.length=k∧Hid (preU (acc.map (·.1)) (unpT (n - k) r)=tot)∧Hid (r.length≤1000000)∧Hid (K2.has K)∧Hid (∀x∈acc,K2.has (Know.flat RHdr x.2 3 x.1.hdrs))∧St W0 wr K2 (.row tv 54 7 acc.length (acc.flatMap zDH)::.raw tb #[.int .i64 x.base,.int .i64 x.leader,.bool (zAf x.attr 3),.bool (zAf x.attr 4),.bool (zAf x.attr 5),.int .i64 x.last,.int .i64 x.first,.int .i64 x.maxt,.int .i64 x.prod,.int .i64 x.epoch,.int .i64 x.seq,tv] 30::.raw bl #[.int .i64 x.base,.int .i64 x.len,.int .i64 x.leader,.int .i64 x.sum,.int .i64 x.attr,.int .i64 x.last,.int .i64 x.first,.int .i64 x.maxt,.int .i64 x.prod,.int .i64 x.epoch,.int .i64 x.seq,.int .i64 x.count] 3::.raw rb #[.int .i64 0,.int .i64 0,.bool false,.bool false,.bool false,.int .i64 0,.int .i64 0,.int .i64 0,.int .i64 0,.int .i64 0,.int .i64 0,.slice none 0 0,.int .i64 0,.int .i64 0] 105::L)) (fun _ iv _=>n - (intOf iv).toNat)
 case atStart=>exact⟨0,[],rw0,K,.slice none 0 0,Nat.zero_le _,rfl,rfl,rfl,HT,HRW1,hQd (Know.has_refl _),hQd (fun x h=>by cases h),H.out.nilRow 54 7⟩
 case round=>
  obtain⟨k,acc,r,K2,tv,hk,rfl,rfl,hacc,HC,HRL,HK2,HALL,hst⟩:=hrel;have HACC:=hQd hacc;have HKB:=hQd (show k≤2147483647 by have:=HNB.out;omega);clear H hacc;have t11:=hst.p1.rawCell 11;have tf11:=hst.p1.rawFree 11;simp at t11;have p11:=hst.p2.rawCell 11;simp at p11;obtain⟨z0,z1,z2,z3,z4,z5,z6,z7,z8,z9,z10,z11,z12,z13,zf0,zf1,zf2,zf3,zf4,zf5,zf6,zf7,zf8,zf9,zf10,zf11,zf12,zf13⟩:=zAE (b:=rb) (hst.p3);have H:=hQd hst;clear hst;have hc9:=HCN.out;rw[hc9]at p11;clear hc9
  by_cases hlt:k<n
  · have hc:=HC.out;rw[show n - k=(n - (k+1))+1 by omega]at hc;have hki:(k:Int)<(n:Int):=by omega
    have hnb:(n:Int)≤2147483647:=by have:=HNB.out;omega
    by_cases hr0:r=[]
    · subst hr0;rw[zE2]at hc;have hc2:Except.error 10=tot:=hc;have hc3:=hc2.trans HTT.out
      cases hc3
    have z1:(r==[])=false:=by rw[beq_eq_false_iff_ne];exact hr0
    have z2:(r !=[])=true:=by simp[bne,z1]
    have z3:¬r=[]:=hr0;have hrl1:(r.length:Int)≤1000000:=by have:=HRL.out;omega
    cases hrr:zBB r with
    |error e2=>
      rw[zE3 hr0 hrr]at hc;have hc2:Except.error e2=tot:=hc;have hc3:=hc2.trans HTT.out
      cases hc3
    |ok yy=>
      obtain⟨y,m⟩:=yy;rw[zHn hr0 hrr,←zCQ]at hc;have hmr:=(zCl hrr).2.2.2.2.2;have hmi:(m:Int)≤(r.length:Int):=by omega
      have HRR:=hQd hrr;have HC2:=hQd hc;have HDR:=hQd (show List.take (r.length - m) (r.drop m)=r.drop m from List.take_of_length_le zq37);clear hc hrr hr0
      go_wp2_with (first
  |(go_at_call 97;clear t11 tf11;clear p11;clear z0 zf0 z1 zf1 z2 zf2 z3 zf3 z4 zf4 z5 zf5 z6 zf6 z7 zf7 z8 zf8 z9 zf9 z10 zf10 z11 zf11 z12 zf12 z13 zf13;(with_reducible refine(zDo r y m HRR.out HRL.out H.out).mono ?_);rintro e_ wn ⟨v1,rfl,h⟩;obtain⟨q1,cc1,hv1⟩:=zAv (Know.has_right (Know.has_refl _)) h;subst hv1;obtain⟨xb,hxb⟩:∃b,wn.heap.size=b:=⟨_,rfl⟩;have h:=h.allocRaw #[.int .i64 y.time,.int .i64 y.off,.bool y.key.null,.string (bb y.key.data),.bool y.val.null,.string (bb y.val.data),(.slice q1 y.hdrs.length cc1),.int .i64 m,.int .i64 0] 146;rw[hxb]at h;have r0:=h.rawCell 0;have r1:=h.rawCell 1;have r2:=h.rawCell 2;have r3:=h.rawCell 3;have r4:=h.rawCell 4;have r5:=h.rawCell 5;have r6:=h.rawCell 6;have r7:=h.rawCell 7;have r8:=h.rawCell 8;simp at r0 r1 r2 r3 r4 r5 r6 r7 r8;have t11:=h.p2.rawCell 11;have tf11:=h.p2.rawFree 11;simp at t11;have p11:=h.p3.rawCell 11;simp at p11;obtain⟨z0,z1,z2,z3,z4,z5,z6,z7,z8,z9,z10,z11,z12,z13,zf0,zf1,zf2,zf3,zf4,zf5,zf6,zf7,zf8,zf9,zf10,zf11,zf12,zf13⟩:=zAE (b:=rb) (h.p4);replace H:=hQd h;clear h)
  |(at_builtin;clear t11 tf11;clear p11;clear z0 zf0 z1 zf1 z2 zf2 z3 zf3 z4 zf4 z5 zf5 z6 zf6 z7 zf7 z8 zf8 z9 zf9 z10 zf10 z11 zf11 z12 zf12 z13 zf13;clear r0 r2 r3 r4 r5 r6 r7 r8;refine zAA rfl _ _ 28 rfl 54 Tryz.underlying28 zC6 _ _ _ rfl H.out.p1 [.int .i64 y.time,.int .i64 y.off,.bool y.key.null,.string (bb y.key.data),.bool y.val.null,.string (bb y.val.data),.slice q1 y.hdrs.length cc1] 54 zq40 rfl (by simp[Value.oneCell']) zq38 zq42 ?_;intro v' w' h;obtain⟨qv,cv,hv⟩:=h.rowAny;subst hv;have t11:=h.p2.rawCell 11;have tf11:=h.p2.rawFree 11;simp at t11;have r7:=h.p1.rawCell 7;simp at r7;replace H:=hQd h;clear h))
      go_roundw
      case rel=>
       exact zq11
      case measure=>first|(simp[intOf];done)|(simp[intOf];omega)
  · obtain rfl:k=n:=by omega
    have hc:=HC.out;rw[Nat.sub_self,zDw]at hc;have hki:¬(k:Int)<(k:Int):=by omega
    by_cases hr0:r=[]
    · rw[if_pos hr0]at hc;have hc2:Except.ok (acc.map (·.1)++[])=tot:=hc;have hc3:=hc2.trans HTT.out;subst hr0;have hm0:acc.map (·.1)=rs:=by injection hc3 with h;rw[List.append_nil]at h;exact h
      obtain⟨q2,cap2,hv⟩:=H.out.rowAny;subst hv;have h5:=(H.out.freezeRow (R:=RRec) (fun y _=>⟨rfl,rfl⟩));have h6:=h5.know (K':=K.and (Know.recs (.slice q2 acc.length cap2) acc)) (fun w F hh=>⟨HK2.out _ _ hh.1,hh.2,fun y hy=>HALL.out y hy _ _ hh.1⟩);have HM0:=hQd hm0;have HBE2:=hQd (show zAC ⟨x.base,x.leader,zAf x.attr 3,zAf x.attr 4,zAf x.attr 5,x.last,x.first,x.maxt,x.prod,x.epoch,x.seq,acc.map (·.1)⟩=e by rw[hm0];exact HBE.out);have HFB:=hQd (HRF.out acc hm0);have HLL:=hQd (show acc.length≤1000000 by have h8:=congrArg List.length hm0;rw[List.length_map]at h8;have:=HRS.out;omega);clear t11 tf11;clear p11;clear z0 zf0 z1 zf1 z2 zf2 z3 zf3 z4 zf4 z5 zf5 z6 zf6 z7 zf7 z8 zf8 z9 zf9 z10 zf10 z11 zf11 z12 zf12 z13 zf13;obtain⟨z0,z1,z2,z3,z4,z5,z6,z7,z8,z9,z10,z11,z12,z13,zf0,zf1,zf2,zf3,zf4,zf5,zf6,zf7,zf8,zf9,zf10,zf11,zf12,zf13⟩:=zAE (b:=rb) (h6.p2);obtain⟨b0,b1,b2,b3,b4,b5,b6,b7,b8,b9,b10,b11,bf0,bf1,bf2,bf3,bf4,bf5,bf6,bf7,bf8,bf9,bf10,bf11⟩:=zAd (b:=tb) (h6);have p11:=h6.p1.rawCell 11;simp at p11;rw[HCN.out]at p11;clear H hc hc2 hc3 hm0 h5;have H:=hQd h6;clear h6;have gz:(e==0)=false:=by rw[beq_eq_false_iff_ne];exact HE0.out
      have gz2:(e !=0)=true:=by simp[bne,gz]
      go_wp2_with (first
  |(go_at_call 8;clear b0 bf0 b1 bf1 b2 bf2 b3 bf3 b4 bf4 b5 bf5 b6 bf6 b7 bf7 b8 bf8 b9 bf9 b10 bf10 b11 bf11;clear p11;clear z0 zf0 z1 zf1 z2 zf2 z3 zf3 z4 zf4 z5 zf5 z6 zf6 z7 zf7 z8 zf8 z9 zf9 z10 zf10 z11 zf11 z12 zf12 z13 zf13;(with_reducible refine(zDn x.base x.leader (zAf x.attr 3) (zAf x.attr 4) (zAf x.attr 5) x.last x.first x.maxt x.prod x.epoch x.seq acc q2 cap2 e HBE2.out HB0.out HB1.out HFB.out HLL.out (Know.has_right (Know.has_refl _)) H.out).mono ?_);rintro e_ wn ⟨rfl,h⟩;obtain⟨b0,b1,b2,b3,b4,b5,b6,b7,b8,b9,b10,b11,bf0,bf1,bf2,bf3,bf4,bf5,bf6,bf7,bf8,bf9,bf10,bf11⟩:=zAd (b:=tb) (h);obtain⟨z0,z1,z2,z3,z4,z5,z6,z7,z8,z9,z10,z11,z12,z13,zf0,zf1,zf2,zf3,zf4,zf5,zf6,zf7,zf8,zf9,zf10,zf11,zf12,zf13⟩:=zAE (b:=rb) (h.p2);replace H:=hQd h;clear h)
  |(go_at_call 96;clear b0 bf0 b1 bf1 b2 bf2 b3 bf3 b4 bf4 b5 bf5 b6 bf6 b7 bf7 b8 bf8 b9 bf9 b10 bf10 b11 bf11;clear z0 zf0 z1 zf1 z2 zf2 z3 zf3 z4 zf4 z5 zf5 z6 zf6 z7 zf7 z8 zf8 z9 zf9 z10 zf10 z11 zf11 z12 zf12 z13 zf13;(with_reducible refine(zAS e H.out).mono ?_);rintro e_ wn ⟨rfl,h⟩;obtain⟨z0,z1,z2,z3,z4,z5,z6,z7,z8,z9,z10,z11,z12,z13,zf0,zf1,zf2,zf3,zf4,zf5,zf6,zf7,zf8,zf9,zf10,zf11,zf12,zf13⟩:=zAE (b:=rb) (h.p2);replace H:=hQd h;clear h))
      have hz:St W0 _ _ (.raw rb #[.int .i64 0,.int .i64 0,.bool false,.bool false,.bool false,.int .i64 0,.int .i64 0,.int .i64 0,.int .i64 0,.int .i64 0,.int .i64 0,.slice none 0 0,.int .i64 0,.int .i64 e] 105::_):=St.sets14 _ _ _ _ _ _ _ _ _ _ _ _ _ _ (H.out.p2);refine bodyPost_ret (zAl rfl _ _ rb [.int .i64 0,.int .i64 0,.bool false,.bool false,.bool false,.int .i64 0,.int .i64 0,.int .i64 0,.int .i64 0,.int .i64 0,.int .i64 0,.slice none 0 0,.int .i64 0,.int .i64 e] _ rfl (zAn hz) Tryz.underlying105 rfl (by kernel_rfl)) rfl ?_;exact⟨rfl,hz.drop.drop.drop.know (Know.has_left (Know.has_refl _))⟩
    · rw[if_neg hr0]at hc;have hc2:Except.error 10=tot:=hc;have hc3:=hc2.trans HTT.out
      cases hc3
theorem r11_ok(s:Bs)(hs:s.length≤1000000)(x:PreS)(hp:zAH s=.ok x)(nn:Nat)(hnn:61+(x.len - 49).toNat=nn)(hge0:nn≤s.length)(sd:Bs)(hsd:(s.drop 21).take (nn - 21)=sd)(X:Nat)(hX:(zAj 0#32 sd).toNat=X)(heq:(X:Int)=x.sum)(h8:x.attr % 8=0)(hn0:¬x.attr<0)(hn1:¬63<x.attr)(hn2:¬(32≤x.attr∧x.attr % 32<16))(n:Nat)(hcn:x.count=(n:Int))(hnb:n≤2147483647)(rs:List RecS)(hu:unpT n ((s.drop 61).take (nn - 61))=.ok rs)(hrs:rs.length≤1000000)(hrf:∀l:List (RecS×Value),l.map (·.1)=rs→FitB l)(hbe:zAC ⟨x.base,x.leader,zAf x.attr 3,zAf x.attr 4,zAf x.attr 5,x.last,x.first,x.maxt,x.prod,x.epoch,x.seq,rs⟩=0){W0 w:World}{K:Know}{L:List Res}(h:St W0 w K L):
  Calls Tryz.prog 67 #[.string (bb s)] w fun en w'=>∃(q:Option Addr) (l:List (RecS×Value)) (cap:Nat),en=.returned (.agg #[.int .i64 x.base,.int .i64 x.leader,.bool (zAf x.attr 3),.bool (zAf x.attr 4),.bool (zAf x.attr 5),.int .i64 x.last,.int .i64 x.first,.int .i64 x.maxt,.int .i64 x.prod,.int .i64 x.epoch,.int .i64 x.seq,.slice q l.length cap,.int .i64 nn,.int .i64 0])∧l.map (·.1)=rs∧St W0 w' (K.and (Know.recs (.slice q l.length cap) l)) L:=by
 obtain⟨rb,hrb⟩:∃b,w.heap.size=b:=⟨_,rfl⟩;have g1:=h.allocRaw #[.int .i64 0,.int .i64 0,.bool false,.bool false,.bool false,.int .i64 0,.int .i64 0,.int .i64 0,.int .i64 0,.int .i64 0,.int .i64 0,.slice none 0 0,.int .i64 0,.int .i64 0] 105;rw[hrb]at g1;obtain⟨z0,z1,z2,z3,z4,z5,z6,z7,z8,z9,z10,z11,z12,z13,zf0,zf1,zf2,zf3,zf4,zf5,zf6,zf7,zf8,zf9,zf10,zf11,zf12,zf13⟩:=zAE (b:=rb) (g1);have H:=hQd g1;have HL:=hQd (show s.length≤140737488355328 by omega);have HP:=hQd hp;obtain⟨r1,r2,r3,r4,r5,r6⟩:=zAQ hp;have hln:x.len+12=(nn:Int):=by omega
 have hsl:(s.length:Int)≤1000000:=by omega
 have HSD:=hQd hsd;have HX:=hQd hX;have HSL:=hQd (show sd.length≤1000000 by rw[←hsd,List.length_take,List.length_drop];omega);have hX4:(X:Int)<4294967296:=by rw[←hX];have:=(zAj 0#32 sd).isLt;omega
 have hwX:IntKind.i64.wrap (X:Int)=(X:Int):=by rw[IntKind.wrap_i64];omega
 clear hX4;have hge:(nn:Int)≤(s.length:Int):=by omega
 have h21:(21:Int)≤(nn:Int):=by omega
 have h61:(61:Int)≤(nn:Int):=by omega
 have hg9:¬(s.length:Int)<(nn:Int):=by omega
 have g5:((X:Int)==x.sum)=true:=by rw[heq];exact beq_self_eq_true _
 have g6:((X:Int) !=x.sum)=false:=by simp[bne,g5]
 obtain⟨c0,c1,hb2,hc1⟩:=zB1 x.attr;have HB2:=hQd hb2;have HA:=hQd (show -9223372036854775808≤x.attr∧x.attr<9223372036854775808 from r3);have hc8:(c1.toNat:Int) % 8=0:=by rw[hc1];omega
 have e9:(((([c0,c1]:List UInt8)[1]'(by simp)).toNat:Int) % 8 !=0)=false:=by show((c1.toNat:Int) % 8 !=0)=false;simp[bne,hc8]
 have e8:(((([c0,c1]:List UInt8)[1]'(by simp)).toNat:Int) % 8==0)=true:=by show((c1.toNat:Int) % 8==0)=true;simp[hc8]
 clear hc8 hc1;have d0:decide (x.attr<0)=false:=decide_eq_false hn0;have d1:decide (63<x.attr)=false:=decide_eq_false hn1;have ha0:0≤x.attr:=by omega
 have ha63:x.attr≤63:=by omega
 have q8:x.attr.tdiv 8=x.attr / 8:=Int.tdiv_eq_ediv_of_nonneg ha0;have q16:x.attr.tdiv 16=x.attr / 16:=Int.tdiv_eq_ediv_of_nonneg ha0;have q32:x.attr.tdiv 32=x.attr / 32:=Int.tdiv_eq_ediv_of_nonneg ha0;have m8:(x.attr / 8).tmod 2=x.attr / 8 % 2:=Int.tmod_eq_emod_of_nonneg (by omega);have m16:(x.attr / 16).tmod 2=x.attr / 16 % 2:=Int.tmod_eq_emod_of_nonneg (by omega);have w8:IntKind.i64.wrap (x.attr / 8)=x.attr / 8:=by rw[IntKind.wrap_i64];omega
 have w16:IntKind.i64.wrap (x.attr / 16)=x.attr / 16:=by rw[IntKind.wrap_i64];omega
 have w32:IntKind.i64.wrap (x.attr / 32)=x.attr / 32:=by rw[IntKind.wrap_i64];omega
 have w8m:IntKind.i64.wrap (x.attr / 8 % 2)=x.attr / 8 % 2:=by rw[IntKind.wrap_i64];omega
 have w16m:IntKind.i64.wrap (x.attr / 16 % 2)=x.attr / 16 % 2:=by rw[IntKind.wrap_i64];omega
 have b5:(x.attr / 32==1)=zAf x.attr 5:=by unfold zAf;rw[show(2:Int) ^ 5=32 by decide,show(x.attr / 32==1)=decide (x.attr / 32=1)from rfl];congr 1;rw[eq_iff_iff];omega
 have b3:(x.attr / 8 % 2==1)=zAf x.attr 3:=rfl;have b4:(x.attr / 16 % 2==1)=zAf x.attr 4:=rfl;have HD:=hQd (And.intro b3 (And.intro b4 b5));have HN2:=hQd hn2;clear h8 hn0 hn1 hn2 b3 b4 b5;obtain⟨rw0,hrw⟩:∃r,(s.drop 61).take (nn - 61)=r:=⟨_,rfl⟩;rw[hrw]at hu;have HRW:=hQd hrw;have HRW1:=hQd (show rw0.length≤1000000 by rw[←hrw,List.length_take,List.length_drop];omega);obtain⟨tot,htot⟩:∃t,unpT n rw0=t:=⟨_,rfl⟩;have HTT:=hQd (htot.symm.trans hu);have HT:=hQd (show preU [] (unpT (n - 0) rw0)=tot by rw[zDJ];exact htot);have HNB:=hQd hnb;have HCN:=hQd hcn;have HBE:=hQd hbe;have HRS:=hQd hrs;have HRF:=hQd hrf;have HB0:=hQd r6;have HB1:=hQd (show Rn x.base from(zJ2 hp).1);clear h g1 hp hs hnn r3 r4 r5 r6 hsd hX hge0 heq hb2 hu hrw htot hnb hcn hbe hrs hrf;go_enter Tryz.func67,Tryz.ntmps67
 go_upto_region 7 with (first
  |(go_at_call 66;clear z0 zf0 z1 zf1 z2 zf2 z3 zf3 z4 zf4 z5 zf5 z6 zf6 z7 zf7 z8 zf8 z9 zf9 z10 zf10 z11 zf11 z12 zf12 z13 zf13;(with_reducible refine(zAx s x HP.out HL.out H.out).mono ?_);rintro e_ wn ⟨bl,rfl,h⟩;have p0:=h.rawCell 0;have p1:=h.rawCell 1;have p2:=h.rawCell 2;have p3:=h.rawCell 3;have p4:=h.rawCell 4;have p5:=h.rawCell 5;have p6:=h.rawCell 6;have p7:=h.rawCell 7;have p8:=h.rawCell 8;have p9:=h.rawCell 9;have p10:=h.rawCell 10;have p11:=h.rawCell 11;simp at p0 p1 p2 p3 p4 p5 p6 p7 p8 p9 p10 p11;obtain⟨z0,z1,z2,z3,z4,z5,z6,z7,z8,z9,z10,z11,z12,z13,zf0,zf1,zf2,zf3,zf4,zf5,zf6,zf7,zf8,zf9,zf10,zf11,zf12,zf13⟩:=zAE (b:=rb) (h.p1);replace H:=hQd h;clear h))
 clear z0 zf0 z1 zf1 z2 zf2 z3 zf3 z4 zf4 z5 zf5 z6 zf6 z7 zf7 z8 zf8 z9 zf9 z10 zf10 z11 zf11 z12 zf12 z13 zf13;clear p0 p1 p2 p3 p4 p5 p6 p7 p8 p9 p10 p11;go_cut [38] (fun s38 wx=>s38=.bool false∧St W0 wx K (.raw bl #[.int .i64 x.base,.int .i64 x.len,.int .i64 x.leader,.int .i64 x.sum,.int .i64 x.attr,.int .i64 x.last,.int .i64 x.first,.int .i64 x.maxt,.int .i64 x.prod,.int .i64 x.epoch,.int .i64 x.seq,.int .i64 x.count] 3::.raw rb #[.int .i64 0,.int .i64 0,.bool false,.bool false,.bool false,.int .i64 0,.int .i64 0,.int .i64 0,.int .i64 0,.int .i64 0,.int .i64 0,.slice none 0 0,.int .i64 0,.int .i64 0] 105::L))
 case first=>
  exact zq2
 obtain⟨rfl,h⟩:=hcut;clear H;have p0:=h.rawCell 0;have p1:=h.rawCell 1;have p2:=h.rawCell 2;have p3:=h.rawCell 3;have p4:=h.rawCell 4;have p5:=h.rawCell 5;have p6:=h.rawCell 6;have p7:=h.rawCell 7;have p8:=h.rawCell 8;have p9:=h.rawCell 9;have p10:=h.rawCell 10;have p11:=h.rawCell 11;simp at p0 p1 p2 p3 p4 p5 p6 p7 p8 p9 p10 p11;obtain⟨z0,z1,z2,z3,z4,z5,z6,z7,z8,z9,z10,z11,z12,z13,zf0,zf1,zf2,zf3,zf4,zf5,zf6,zf7,zf8,zf9,zf10,zf11,zf12,zf13⟩:=zAE (b:=rb) (h.p1);have H:=hQd h;clear h
 go_upto_region 12 with (first
  |(go_at_call 62;clear z0 zf0 z1 zf1 z2 zf2 z3 zf3 z4 zf4 z5 zf5 z6 zf6 z7 zf7 z8 zf8 z9 zf9 z10 zf10 z11 zf11 z12 zf12 z13 zf13;clear p0 p1 p2 p3 p4 p5 p6 p7 p8 p9 p10 p11;(with_reducible refine(zBz x.attr HA.out c0 c1 HB2.out H.out).mono ?_);rintro e_ wn ⟨rfl,h⟩;have p0:=h.rawCell 0;have p1:=h.rawCell 1;have p2:=h.rawCell 2;have p3:=h.rawCell 3;have p4:=h.rawCell 4;have p5:=h.rawCell 5;have p6:=h.rawCell 6;have p7:=h.rawCell 7;have p8:=h.rawCell 8;have p9:=h.rawCell 9;have p10:=h.rawCell 10;have p11:=h.rawCell 11;simp at p0 p1 p2 p3 p4 p5 p6 p7 p8 p9 p10 p11;obtain⟨z0,z1,z2,z3,z4,z5,z6,z7,z8,z9,z10,z11,z12,z13,zf0,zf1,zf2,zf3,zf4,zf5,zf6,zf7,zf8,zf9,zf10,zf11,zf12,zf13⟩:=zAE (b:=rb) (h.p1);replace H:=hQd h;clear h))
 go_cut [63] (fun s63 wx=>s63=.bool false∧St W0 wx K (.raw bl #[.int .i64 x.base,.int .i64 x.len,.int .i64 x.leader,.int .i64 x.sum,.int .i64 x.attr,.int .i64 x.last,.int .i64 x.first,.int .i64 x.maxt,.int .i64 x.prod,.int .i64 x.epoch,.int .i64 x.seq,.int .i64 x.count] 3::.raw rb #[.int .i64 0,.int .i64 0,.bool false,.bool false,.bool false,.int .i64 0,.int .i64 0,.int .i64 0,.int .i64 0,.int .i64 0,.int .i64 0,.slice none 0 0,.int .i64 0,.int .i64 0] 105::L))
 case first=>
  exact zq13
 obtain⟨rfl,h⟩:=hcut;clear H;have H:=hQd h;clear h;go_upto_region 14 with (fail);clear z0 zf0 z1 zf1 z2 zf2 z3 zf3 z4 zf4 z5 zf5 z6 zf6 z7 zf7 z8 zf8 z9 zf9 z10 zf10 z11 zf11 z12 zf12 z13 zf13;clear p0 p1 p2 p3 p4 p5 p6 p7 p8 p9 p10 p11;go_cut [7] (fun s7 wx=>∃tb:Nat,s7=.pointer (some ⟨tb,0,none⟩)∧St W0 wx K (.raw tb #[.int .i64 x.base,.int .i64 x.leader,.bool (zAf x.attr 3),.bool (zAf x.attr 4),.bool (zAf x.attr 5),.int .i64 x.last,.int .i64 x.first,.int .i64 x.maxt,.int .i64 x.prod,.int .i64 x.epoch,.int .i64 x.seq,.slice none 0 0] 30::.raw bl #[.int .i64 x.base,.int .i64 x.len,.int .i64 x.leader,.int .i64 x.sum,.int .i64 x.attr,.int .i64 x.last,.int .i64 x.first,.int .i64 x.maxt,.int .i64 x.prod,.int .i64 x.epoch,.int .i64 x.seq,.int .i64 x.count] 3::.raw rb #[.int .i64 0,.int .i64 0,.bool false,.bool false,.bool false,.int .i64 0,.int .i64 0,.int .i64 0,.int .i64 0,.int .i64 0,.int .i64 0,.slice none 0 0,.int .i64 0,.int .i64 0] 105::L))
 case first=>
  exact zq3
 obtain⟨tb,rfl,h⟩:=hcut;clear H q8 q16 q32 m8 m16 w8 w16 w32 w8m w16m d0 d1 ha0 ha63 g5 g6 e8 e9;have H:=hQd h;clear h;have hge:=hge;go_wp2;rw[HRW.out];go_loopw [8,9] (fun rv iv wr=>∃(k:Nat) (acc:List (RecS×Value)) (r:Bs) (K2:Know) (tv:Value),k≤n∧iv=.int .i64 k∧rv=.string (bb r)∧acc.length=k∧Hid (preU (acc.map (·.1)) (unpT (n - k) r)=tot)∧Hid (r.length≤1000000)∧Hid (K2.has K)∧Hid (∀x∈acc,K2.has (Know.flat RHdr x.2 3 x.1.hdrs))∧St W0 wr K2 (.row tv 54 7 acc.length (acc.flatMap zDH)::.raw tb #[.int .i64 x.base,.int .i64 x.leader,.bool (zAf x.attr 3),.bool (zAf x.attr 4),.bool (zAf x.attr 5),.int .i64 x.last,.int .i64 x.first,.int .i64 x.maxt,.int .i64 x.prod,.int .i64 x.epoch,.int .i64 x.seq,tv] 30::.raw bl #[.int .i64 x.base,.int .i64 x.len,.int .i64 x.leader,.int .i64 x.sum,.int .i64 x.attr,.int .i64 x.last,.int .i64 x.first,.int .i64 x.maxt,.int .i64 x.prod,.int .i64 x.epoch,.int .i64 x.seq,.int .i64 x.count] 3::.raw rb #[.int .i64 0,.int .i64 0,.bool false,.bool false,.bool false,.int .i64 0,.int .i64 0,.int .i64 0,.int .i64 0,.int .i64 0,.int .i64 0,.slice none 0 0,.int .i64 0,.int .i64 0] 105::L)) (fun _ iv _=>n - (intOf iv).toNat)
 case atStart=>exact⟨0,[],rw0,K,.slice none 0 0,Nat.zero_le _,rfl,rfl,rfl,HT,HRW1,hQd (Know.has_refl _),hQd (fun x h=>by cases h),H.out.nilRow 54 7⟩
 case round=>
  obtain⟨k,acc,r,K2,tv,hk,rfl,rfl,hacc,HC,HRL,HK2,HALL,hst⟩:=hrel;have HACC:=hQd hacc;have HKB:=hQd (show k≤2147483647 by have:=HNB.out;omega);clear H hacc;have t11:=hst.p1.rawCell 11;have tf11:=hst.p1.rawFree 11;simp at t11;have p11:=hst.p2.rawCell 11;simp at p11;obtain⟨z0,z1,z2,z3,z4,z5,z6,z7,z8,z9,z10,z11,z12,z13,zf0,zf1,zf2,zf3,zf4,zf5,zf6,zf7,zf8,zf9,zf10,zf11,zf12,zf13⟩:=zAE (b:=rb) (hst.p3);have H:=hQd hst;clear hst;have hc9:=HCN.out;rw[hc9]at p11;clear hc9
  by_cases hlt:k<n
  · have hc:=HC.out;rw[show n - k=(n - (k+1))+1 by omega]at hc;have hki:(k:Int)<(n:Int):=by omega
    have hnb:(n:Int)≤2147483647:=by have:=HNB.out;omega
    by_cases hr0:r=[]
    · subst hr0;rw[zE2]at hc;have hc2:Except.error 10=tot:=hc;have hc3:=hc2.trans HTT.out
      cases hc3
    have z1:(r==[])=false:=by rw[beq_eq_false_iff_ne];exact hr0
    have z2:(r !=[])=true:=by simp[bne,z1]
    have z3:¬r=[]:=hr0;have hrl1:(r.length:Int)≤1000000:=by have:=HRL.out;omega
    cases hrr:zBB r with
    |error e2=>
      rw[zE3 hr0 hrr]at hc;have hc2:Except.error e2=tot:=hc;have hc3:=hc2.trans HTT.out
      cases hc3
    |ok yy=>
      obtain⟨y,m⟩:=yy;rw[zHn hr0 hrr,←zCQ]at hc;have hmr:=(zCl hrr).2.2.2.2.2;have hmi:(m:Int)≤(r.length:Int):=by omega
      have HRR:=hQd hrr;have HC2:=hQd hc;have HDR:=hQd (show List.take (r.length - m) (r.drop m)=r.drop m from List.take_of_length_le zq37);clear hc hrr hr0
      go_wp2_with (first
  |(go_at_call 97;clear t11 tf11;clear p11;clear z0 zf0 z1 zf1 z2 zf2 z3 zf3 z4 zf4 z5 zf5 z6 zf6 z7 zf7 z8 zf8 z9 zf9 z10 zf10 z11 zf11 z12 zf12 z13 zf13;(with_reducible refine(zDo r y m HRR.out HRL.out H.out).mono ?_);rintro e_ wn ⟨v1,rfl,h⟩;obtain⟨q1,cc1,hv1⟩:=zAv (Know.has_right (Know.has_refl _)) h;subst hv1;obtain⟨xb,hxb⟩:∃b,wn.heap.size=b:=⟨_,rfl⟩;have h:=h.allocRaw #[.int .i64 y.time,.int .i64 y.off,.bool y.key.null,.string (bb y.key.data),.bool y.val.null,.string (bb y.val.data),(.slice q1 y.hdrs.length cc1),.int .i64 m,.int .i64 0] 146;rw[hxb]at h;have r0:=h.rawCell 0;have r1:=h.rawCell 1;have r2:=h.rawCell 2;have r3:=h.rawCell 3;have r4:=h.rawCell 4;have r5:=h.rawCell 5;have r6:=h.rawCell 6;have r7:=h.rawCell 7;have r8:=h.rawCell 8;simp at r0 r1 r2 r3 r4 r5 r6 r7 r8;have t11:=h.p2.rawCell 11;have tf11:=h.p2.rawFree 11;simp at t11;have p11:=h.p3.rawCell 11;simp at p11;obtain⟨z0,z1,z2,z3,z4,z5,z6,z7,z8,z9,z10,z11,z12,z13,zf0,zf1,zf2,zf3,zf4,zf5,zf6,zf7,zf8,zf9,zf10,zf11,zf12,zf13⟩:=zAE (b:=rb) (h.p4);replace H:=hQd h;clear h)
  |(at_builtin;clear t11 tf11;clear p11;clear z0 zf0 z1 zf1 z2 zf2 z3 zf3 z4 zf4 z5 zf5 z6 zf6 z7 zf7 z8 zf8 z9 zf9 z10 zf10 z11 zf11 z12 zf12 z13 zf13;clear r0 r2 r3 r4 r5 r6 r7 r8;refine zAA rfl _ _ 28 rfl 54 Tryz.underlying28 zC6 _ _ _ rfl H.out.p1 [.int .i64 y.time,.int .i64 y.off,.bool y.key.null,.string (bb y.key.data),.bool y.val.null,.string (bb y.val.data),.slice q1 y.hdrs.length cc1] 54 zq40 rfl (by simp[Value.oneCell']) zq38 zq42 ?_;intro v' w' h;obtain⟨qv,cv,hv⟩:=h.rowAny;subst hv;have t11:=h.p2.rawCell 11;have tf11:=h.p2.rawFree 11;simp at t11;have r7:=h.p1.rawCell 7;simp at r7;replace H:=hQd h;clear h))
      go_roundw
      case rel=>
       exact zq11
      case measure=>first|(simp[intOf];done)|(simp[intOf];omega)
  · obtain rfl:k=n:=by omega
    have hc:=HC.out;rw[Nat.sub_self,zDw]at hc;have hki:¬(k:Int)<(k:Int):=by omega
    by_cases hr0:r=[]
    · rw[if_pos hr0]at hc;have hc2:Except.ok (acc.map (·.1)++[])=tot:=hc;have hc3:=hc2.trans HTT.out;subst hr0;have hm0:acc.map (·.1)=rs:=by injection hc3 with h;rw[List.append_nil]at h;exact h
      obtain⟨q2,cap2,hv⟩:=H.out.rowAny;subst hv;have h5:=(H.out.freezeRow (R:=RRec) (fun y _=>⟨rfl,rfl⟩));have h6:=h5.know (K':=K.and (Know.recs (.slice q2 acc.length cap2) acc)) (fun w F hh=>⟨HK2.out _ _ hh.1,hh.2,fun y hy=>HALL.out y hy _ _ hh.1⟩);have HM0:=hQd hm0;have HBE2:=hQd (show zAC ⟨x.base,x.leader,zAf x.attr 3,zAf x.attr 4,zAf x.attr 5,x.last,x.first,x.maxt,x.prod,x.epoch,x.seq,acc.map (·.1)⟩=0 by rw[hm0];exact HBE.out);have HFB:=hQd (HRF.out acc hm0);have HLL:=hQd (show acc.length≤1000000 by have h8:=congrArg List.length hm0;rw[List.length_map]at h8;have:=HRS.out;omega);clear t11 tf11;clear p11;clear z0 zf0 z1 zf1 z2 zf2 z3 zf3 z4 zf4 z5 zf5 z6 zf6 z7 zf7 z8 zf8 z9 zf9 z10 zf10 z11 zf11 z12 zf12 z13 zf13;obtain⟨z0,z1,z2,z3,z4,z5,z6,z7,z8,z9,z10,z11,z12,z13,zf0,zf1,zf2,zf3,zf4,zf5,zf6,zf7,zf8,zf9,zf10,zf11,zf12,zf13⟩:=zAE (b:=rb) (h6.p2);obtain⟨b0,b1,b2,b3,b4,b5,b6,b7,b8,b9,b10,b11,bf0,bf1,bf2,bf3,bf4,bf5,bf6,bf7,bf8,bf9,bf10,bf11⟩:=zAd (b:=tb) (h6);have p11:=h6.p1.rawCell 11;simp at p11;rw[HCN.out]at p11;clear H hc hc2 hc3 hm0 h5;have H:=hQd h6;clear h6;go_wp2_with (go_at_call 8;clear b0 bf0 b1 bf1 b2 bf2 b3 bf3 b4 bf4 b5 bf5 b6 bf6 b7 bf7 b8 bf8 b9 bf9 b10 bf10 b11 bf11;clear p11;clear z0 zf0 z1 zf1 z2 zf2 z3 zf3 z4 zf4 z5 zf5 z6 zf6 z7 zf7 z8 zf8 z9 zf9 z10 zf10 z11 zf11 z12 zf12 z13 zf13;(with_reducible refine(zDn x.base x.leader (zAf x.attr 3) (zAf x.attr 4) (zAf x.attr 5) x.last x.first x.maxt x.prod x.epoch x.seq acc q2 cap2 0 HBE2.out HB0.out HB1.out HFB.out HLL.out (Know.has_right (Know.has_refl _)) H.out).mono ?_);rintro e_ wn ⟨rfl,h⟩;obtain⟨b0,b1,b2,b3,b4,b5,b6,b7,b8,b9,b10,b11,bf0,bf1,bf2,bf3,bf4,bf5,bf6,bf7,bf8,bf9,bf10,bf11⟩:=zAd (b:=tb) (h);obtain⟨z0,z1,z2,z3,z4,z5,z6,z7,z8,z9,z10,z11,z12,z13,zf0,zf1,zf2,zf3,zf4,zf5,zf6,zf7,zf8,zf9,zf10,zf11,zf12,zf13⟩:=zAE (b:=rb) (h.p2);replace H:=hQd h;clear h);have hz:St W0 _ _ (.raw rb #[.int .i64 x.base,.int .i64 x.leader,.bool (zAf x.attr 3),.bool (zAf x.attr 4),.bool (zAf x.attr 5),.int .i64 x.last,.int .i64 x.first,.int .i64 x.maxt,.int .i64 x.prod,.int .i64 x.epoch,.int .i64 x.seq,.slice q2 acc.length cap2,.int .i64 nn,.int .i64 0] 105::_):=St.sets14 _ _ _ _ _ _ _ _ _ _ _ _ _ _ (H.out.p2);refine bodyPost_ret (zAl rfl _ _ rb [.int .i64 x.base,.int .i64 x.leader,.bool (zAf x.attr 3),.bool (zAf x.attr 4),.bool (zAf x.attr 5),.int .i64 x.last,.int .i64 x.first,.int .i64 x.maxt,.int .i64 x.prod,.int .i64 x.epoch,.int .i64 x.seq,.slice q2 acc.length cap2,.int .i64 nn,.int .i64 0] _ rfl (zAn hz) Tryz.underlying105 rfl (by kernel_rfl)) rfl ?_;exact⟨q2,acc,cap2,rfl,HM0.out,hz.drop.drop.drop⟩
    · rw[if_neg hr0]at hc;have hc2:Except.error 10=tot:=hc;have hc3:=hc2.trans HTT.out
      cases hc3
variable {W0 w:World}{K:Know}{L:List Res}
theorem zPo(s:Bs)(k:Nat):(s.drop 21).take (61+k - 21)=(s.take 61).drop 21++(s.drop 61).take k:=by
 rw[show 61+k - 21=40+k by omega,List.take_add,List.drop_drop,List.drop_take]
theorem zL6(x:PreS)(said rows:Bs)(P:Except Int BatS→Prop)
    (h1:((zAj 0#32 (said.drop 21++rows)).toNat:Int)≠x.sum→P (.error 5))
    (h2:((zAj 0#32 (said.drop 21++rows)).toNat:Int)=x.sum→chk x.attr≠0→P (.error (chk x.attr)))
    (h3:((zAj 0#32 (said.drop 21++rows)).toNat:Int)=x.sum→chk x.attr=0→∀e,unp x.count.toNat ⟨rows,0,0⟩=.error e→P (.error e))
    (h4:((zAj 0#32 (said.drop 21++rows)).toNat:Int)=x.sum→chk x.attr=0→∀rs e,unp x.count.toNat ⟨rows,0,0⟩=.ok rs→e≠0→zAC ⟨x.base,x.leader,zAf x.attr 3,zAf x.attr 4,zAf x.attr 5,x.last,x.first,x.maxt,x.prod,x.epoch,x.seq,rs⟩=e→P (.error e))
    (h5:((zAj 0#32 (said.drop 21++rows)).toNat:Int)=x.sum→chk x.attr=0→∀rs,unp x.count.toNat ⟨rows,0,0⟩=.ok rs→zAC ⟨x.base,x.leader,zAf x.attr 3,zAf x.attr 4,zAf x.attr 5,x.last,x.first,x.maxt,x.prod,x.epoch,x.seq,rs⟩=0→P (.ok ⟨x.base,x.leader,zAf x.attr 3,zAf x.attr 4,zAf x.attr 5,x.last,x.first,x.maxt,x.prod,x.epoch,x.seq,rs⟩)):P (asmB x said rows):=by
  unfold asmB
  by_cases c1:((zAj 0#32 (said.drop 21++rows)).toNat:Int)≠x.sum
  · rw[if_pos c1];exact h1 c1
  rw[if_neg c1];have c1:=Decidable.of_not_not c1
  by_cases c2:chk x.attr≠0
  · rw[if_pos c2];exact h2 c1 c2
  rw[if_neg c2];have c2:=Decidable.of_not_not c2
  cases hu:unp x.count.toNat ⟨rows,0,0⟩with
  |error e=>exact h3 c1 c2 e hu
  |ok rs=>
    simp only
    split
    · rename_i c3;exact h5 c1 c2 rs hu c3
    · rename_i c3;exact h4 c1 c2 rs _ hu c3 rfl
theorem zPe{n:Nat}{s:Bs}{e:Int}(h:unpT n s=.error e):e≠0:=by
 induction n generalizing s with
 |zero=>
  rw[zDw]at h
  split at h
  · cases h
  · cases h;decide
 |succ n ih=>
  by_cases c:s=[]
  · subst c;rw[zE2]at h;cases h;decide
  · cases hr:zBB s with
    |error e2=>rw[zE3 c hr]at h;cases h;exact zOj hr
    |ok y=>
     obtain⟨x,m⟩:=y;rw[zHn c hr]at h
     cases hu:unpT n (s.drop m)with
     |error e2=>rw[hu]at h;cases h;exact ih hu
     |ok t=>rw[hu]at h;cases h
theorem zFx(s:Bs)(hs:s.length≤1000000)(h:St W0 w K L):
  Calls Tryz.prog 67 #[.string (bb s)] w fun en w'=>match zBv s with
    | .error e=>en=.returned (.agg #[.int .i64 0,.int .i64 0,.bool false,.bool false,.bool false,.int .i64 0,.int .i64 0,.int .i64 0,.int .i64 0,.int .i64 0,.int .i64 0,.slice none 0 0,.int .i64 0,.int .i64 e])∧St W0 w' K L
    | .ok (b,n)=>∃(q:Option Addr) (l:List (RecS×Value)) (cap:Nat),en=.returned (.agg #[.int .i64 b.base,.int .i64 b.leader,.bool b.app,.bool b.txn,.bool b.ctl,.int .i64 b.last,.int .i64 b.first,.int .i64 b.maxt,.int .i64 b.prod,.int .i64 b.epoch,.int .i64 b.seq,.slice q l.length cap,.int .i64 n,.int .i64 0])∧l.map (·.1)=b.recs∧St W0 w' (K.and (Know.recs (.slice q l.length cap) l)) L:=by
 unfold zBv
 cases hp:zAH s with
 |error e=>exact zLC s hs e hp h
 |ok x=>
  simp only
  by_cases c1:s.length<61+(x.len - 49).toNat
  · rw[if_pos c1];exact zMV s hs x hp _ rfl c1 h
  rw[if_neg c1];have hse:=zPo s (x.len - 49).toNat;have hpr:=zAQ hp;have hcn:x.count=(x.count.toNat:Int):=by have:=hpr.2.2.2.1;omega
  have hnb:x.count.toNat≤2147483647:=by have:=hpr.2.2.2.2.1;omega
  have hrw:(s.drop 61).take (61+(x.len - 49).toNat - 61)=(s.drop 61).take (x.len - 49).toNat:=by rw[Nat.add_sub_cancel_left]
  have ok1:chk x.attr=0→x.attr % 8=0∧¬x.attr<0∧¬63<x.attr∧¬(32≤x.attr∧x.attr % 32<16):=by
    intro hc
    by_cases h8:x.attr % 8=0
    · rw[zH5 _ h8]at hc
      split at hc
      · cases hc
      · omega
    · rw[(zK7 _).2 h8]at hc;cases hc
  refine zL6 x (s.take 61) ((s.drop 61).take (x.len - 49).toNat) (fun r=>Calls Tryz.prog 67 #[.string (bb s)] w fun en w'=>match (match r with| .error e=>Except.error e| .ok b=>Except.ok (b,61+(x.len - 49).toNat))with
    | .error e=>en=.returned (.agg #[.int .i64 0,.int .i64 0,.bool false,.bool false,.bool false,.int .i64 0,.int .i64 0,.int .i64 0,.int .i64 0,.int .i64 0,.int .i64 0,.slice none 0 0,.int .i64 0,.int .i64 e])∧St W0 w' K L
    | .ok (b,n)=>∃(q:Option Addr) (l:List (RecS×Value)) (cap:Nat),en=.returned (.agg #[.int .i64 b.base,.int .i64 b.leader,.bool b.app,.bool b.txn,.bool b.ctl,.int .i64 b.last,.int .i64 b.first,.int .i64 b.maxt,.int .i64 b.prod,.int .i64 b.epoch,.int .i64 b.seq,.slice q l.length cap,.int .i64 n,.int .i64 0])∧l.map (·.1)=b.recs∧St W0 w' (K.and (Know.recs (.slice q l.length cap) l)) L) ?_ ?_ ?_ ?_ ?_
  · intro e1;exact zPH s hs x hp _ rfl (by omega) _ hse _ rfl e1 h
  · intro e1 e2
    by_cases h8:x.attr % 8=0
    · have e3:=e2;rw[zH5 _ h8]at e3
      have e4:x.attr<0∨63<x.attr∨(32≤x.attr∧x.attr % 32<16):=by
       by_cases hh:x.attr<0∨63<x.attr∨(32≤x.attr∧x.attr % 32<16)
       · exact hh
       · rw[if_neg hh]at e3;exact absurd rfl e3
      rw[zH5 _ h8,if_pos e4]
      by_cases n0:x.attr<0
      · exact zPL s hs x hp _ rfl (by omega) _ hse _ rfl e1 h8 n0 h
      by_cases n1:63<x.attr
      · exact zPK s hs x hp _ rfl (by omega) _ hse _ rfl e1 h8 n0 n1 h
      exact zPJ s hs x hp _ rfl (by omega) _ hse _ rfl e1 h8 n0 n1 (by omega) (by omega) h
    · rw[(zK7 _).2 h8];exact zPI s hs x hp _ rfl (by omega) _ hse _ rfl e1 h8 h
  · intro e1 e2 e hu;obtain⟨a1,a2,a3,a4⟩:=ok1 e2;rw[zDv _ _ 0 (Nat.zero_le _),List.drop_zero,←hrw]at hu;exact zPG s hs x hp _ rfl (by omega) _ hse _ rfl e1 a1 a2 a3 a4 _ hcn hnb e (zPe hu) hu h
  · intro e1 e2 rs e hu h0 hb;obtain⟨a1,a2,a3,a4⟩:=ok1 e2;have hrl:((s.drop 61).take (x.len - 49).toNat).length≤1000000:=by rw[List.length_take,List.length_drop];omega
    have hf:∀l:List (RecS×Value),l.map (·.1)=rs→FitB l:=fun l hl=>(zE1 hu hl hrl).1
    have hl2:rs.length≤1000000:=by have:=(zD8 _ _ 0 _ (Nat.zero_le _) hu).2.1;omega
    rw[zDv _ _ 0 (Nat.zero_le _),List.drop_zero,←hrw]at hu;exact zPM s hs x hp _ rfl (by omega) _ hse _ rfl e1 a1 a2 a3 a4 _ hcn hnb rs hu hl2 hf e h0 hb h
  · intro e1 e2 rs hu hb;obtain⟨a1,a2,a3,a4⟩:=ok1 e2;have hrl:((s.drop 61).take (x.len - 49).toNat).length≤1000000:=by rw[List.length_take,List.length_drop];omega
    have hf:∀l:List (RecS×Value),l.map (·.1)=rs→FitB l:=fun l hl=>(zE1 hu hl hrl).1
    have hl2:rs.length≤1000000:=by have:=(zD8 _ _ 0 _ (Nat.zero_le _) hu).2.1;omega
    rw[zDv _ _ 0 (Nat.zero_le _),List.drop_zero,←hrw]at hu;exact r11_ok s hs x hp _ rfl (by omega) _ hse _ rfl e1 a1 a2 a3 a4 _ hcn hnb rs hu hl2 hf hb h
theorem zFy(s:Bs)(hs:s.length≤1000000)(e:Int)(hr:zBv s=.error e)(h:St W0 w K L):
  Calls Tryz.prog 67 #[.string (bb s)] w fun en w'=>en=.returned (.agg #[.int .i64 0,.int .i64 0,.bool false,.bool false,.bool false,.int .i64 0,.int .i64 0,.int .i64 0,.int .i64 0,.int .i64 0,.int .i64 0,.slice none 0 0,.int .i64 0,.int .i64 e])∧St W0 w' K L:=
 (zFx s hs h).mono fun en w' hh=>by rw[hr]at hh;exact hh
theorem zJM(s:Bs)(hs:s.length≤1000000)(b:BatS)(n:Nat)(hr:zBv s=.ok (b,n))(h:St W0 w K L):
  Calls Tryz.prog 67 #[.string (bb s)] w fun en w'=>∃(q:Option Addr) (l:List (RecS×Value)) (cap:Nat),en=.returned (.agg #[.int .i64 b.base,.int .i64 b.leader,.bool b.app,.bool b.txn,.bool b.ctl,.int .i64 b.last,.int .i64 b.first,.int .i64 b.maxt,.int .i64 b.prod,.int .i64 b.epoch,.int .i64 b.seq,.slice q l.length cap,.int .i64 n,.int .i64 0])∧l.map (·.1)=b.recs∧St W0 w' (K.and (Know.recs (.slice q l.length cap) l)) L:=
 (zFx s hs h).mono fun en w' hh=>by rw[hr]at hh;exact hh
theorem zME(A:Bs)(hA:A.length≤90000){W0 w:World}{K:Know}{L:List Res}(h:St W0 w K L):
  Calls Tryz.prog 32 #[.string (bb A)] w fun en w'=>∃(q:Option Addr) (cap:Nat) (lr:List BatR) (V:Nat) (rs:Bs) (e:Int),en=.returned (.agg #[.slice q lr.length cap,.int .i64 V,.int .i64 (zBy rs e),.int .i64 e])∧finS A=(lr.map BatR.b,V,rs,e)∧(∀x∈lr,zD2 x)∧61*lr.length≤A.length∧(((q=none∧cap=0)∨∃g,q=some ⟨g,0,none⟩)∧lr.length≤cap)∧St W0 w' (K.and (Know.bats (.slice q lr.length cap) lr)) L:=by
 obtain⟨rb,hrb⟩:∃b,w.heap.size=b:=⟨_,rfl⟩;obtain⟨ob,hob⟩:∃b,rb+1=b:=⟨_,rfl⟩;have g1:=h.allocRaw #[.slice none 0 0,.int .i64 0,.int .i64 0,.int .i64 0] 63;rw[hrb]at g1;have g2:=g1.allocRaw #[.slice none 0 0,.int .i64 0,.int .i64 0,.int .i64 0] 63;simp only[World.size_alloc,hrb,hob]at g2;have g2:=g2.nilRow 30 12;have o0:=g2.p1.rawCell 0;have of0:=g2.p1.rawFree 0;have o1:=g2.p1.rawCell 1;have of1:=g2.p1.rawFree 1;have o2:=g2.p1.rawCell 2;have of2:=g2.p1.rawFree 2;have o3:=g2.p1.rawCell 3;have of3:=g2.p1.rawFree 3;simp at o0 o1 o2 o3;have z0:=g2.p2.rawCell 0;have zf0:=g2.p2.rawFree 0;have z1:=g2.p2.rawCell 1;have zf1:=g2.p2.rawFree 1;have z2:=g2.p2.rawCell 2;have zf2:=g2.p2.rawFree 2;have z3:=g2.p2.rawCell 3;have zf3:=g2.p2.rawFree 3;simp at z0 z1 z2 z3;have H:=hQd g2;have HAL:=hQd hA;have hai:(A.length:Int)≤90000:=by omega
 clear h g1 g2 hA;go_enter Tryz.func32,Tryz.ntmps32;go_wp2;go_loopw [4] (fun _ wr=>∃(acc:List BatR) (K2:Know) (V:Nat) (bv:Value),V≤A.length∧Hid (zAr A=(acc.map BatR.b++(zAr (A.drop V)).1,(zAr (A.drop V)).2))∧Hid (K2.has K)∧Hid (∀x∈acc,K2.has (Know.recs (.slice x.q x.l.length x.cap) x.l))∧Hid (∀x∈acc,zD2 x)∧Hid (61*acc.length≤V)∧St W0 wr K2 (.row bv 30 12 acc.length (acc.flatMap zAN)::.raw ob #[bv,.int .i64 V,.int .i64 0,.int .i64 0] 63::.raw rb #[.slice none 0 0,.int .i64 0,.int .i64 0,.int .i64 0] 63::L)) (fun _ wr=>A.length - ValM ob wr)
 case atStart=>exact⟨[],K,0,.slice none 0 0,Nat.zero_le _,hQd (by rw[List.drop_zero];rfl),hQd (Know.has_refl _),hQd (fun x hx=>by cases hx),hQd (fun x hx=>by cases hx),hQd (Nat.le_refl _),H.out⟩
 case round=>
  obtain⟨acc,K2,V,bv,hV,HSC,HKK,HREC,HLIT,HCNT,hst⟩:=hrel;clear H;clear o0 of0 o1 of1 o2 of2 o3 of3;clear z0 zf0 z1 zf1 z2 zf2 z3 zf3
  have hform:∃q2 cap2,bv=.slice q2 acc.length cap2∧((q2=none∧cap2=0)∨∃g,q2=some ⟨g,0,none⟩)∧acc.length≤cap2:=by
    exact zq25
  obtain⟨q2,cap2,rfl,hq2⟩:=hform;have HQ2:=hQd hq2;have HMS:=hQd (valM hst.p1);have HV:=hQd hV;have HAB:=hQd (show acc.length≤2000 by have:=HCNT.out;have:=HAL.out;omega);have HCN:=hQd (show 61*acc.length≤A.length by have:=HCNT.out;omega);have o0:=hst.p1.rawCell 0;have of0:=hst.p1.rawFree 0;have o1:=hst.p1.rawCell 1;have of1:=hst.p1.rawFree 1;have o2:=hst.p1.rawCell 2;have of2:=hst.p1.rawFree 2;have o3:=hst.p1.rawCell 3;have of3:=hst.p1.rawFree 3;simp at o0 o1 o2 o3;have z0:=hst.p2.rawCell 0;have zf0:=hst.p2.rawFree 0;have z1:=hst.p2.rawCell 1;have zf1:=hst.p2.rawFree 1;have z2:=hst.p2.rawCell 2;have zf2:=hst.p2.rawFree 2;have z3:=hst.p2.rawCell 3;have zf3:=hst.p2.rawFree 3;simp at z0 z1 z2 z3;have H:=hQd hst;clear hst hq2;obtain⟨R,hR⟩:∃R,A.drop V=R:=⟨_,rfl⟩;have hRl:R.length=A.length - V:=by rw[←hR,List.length_drop]
  have HR:=hQd (show List.take (A.length - V) (List.drop V A)=R by rw[hR];exact List.take_of_length_le (by omega));have HR0:=hQd hR
  by_cases hlt:V<A.length
  · have hvi:(V:Int)<(A.length:Int):=by omega
    have hvl:(V:Int)≤(A.length:Int):=by omega
    have hrl:(R.length:Int)≤90000:=by omega
    have HL:=hQd (show R.length≤140737488355328 by omega);have HL6:=hQd (show R.length≤1000000 by omega);have hr0:R≠[]:=by intro hh;rw[hh]at hRl;simp at hRl;omega
    clear hR
    by_cases c1:R.length<61
    · have hfs:zAq R=.ok none:=by unfold zAq;rw[if_pos c1]
      have HFE:=hQd (zHU HV.out HSC.out (by rw[HR0.out];exact hfs));have hst1:zBy (A.drop V) 0=1:=by rw[HR0.out];unfold zBy;rw[if_neg (by simp),if_pos hr0]
      have HST:=hQd hst1;have c1i:(R.length:Int)<61:=by omega
      clear hfs hst1 c1 hr0 hRl;go_upto_region 4 with (fail);rw[HR.out];go_wp2_with fail;have hz:St W0 _ _ (.raw rb #[.slice q2 acc.length cap2,.int .i64 V,.int .i64 1,.int .i64 0] 63::_):=(((((H.out.p1.rawSet 2 (.int .i64 1)).p2.rawSet 0 (.slice q2 acc.length cap2)).rawSet 1 (.int .i64 V)).rawSet 2 (.int .i64 1)).rawSet 3 (.int .i64 0));refine bodyPost_ret (zAl rfl _ _ rb [.slice q2 acc.length cap2,.int .i64 V,.int .i64 1,.int .i64 0] _ rfl (zAn hz) Tryz.underlying63 rfl (by kernel_rfl)) rfl ?_;have hf9:=(hz.drop.drop).freezeBats HREC.out;have hf8:=hf9.know (K':=K.and (Know.bats _ acc)) (fun w F hh=>⟨HKK.out _ _ hh.1,hh.2⟩);exact⟨q2,cap2,acc,V,_,0,by rw[HST.out],HFE.out,HLIT.out,HCN.out,HQ2.out,hf8⟩
    have c1i:¬(R.length:Int)<61:=by omega
    cases hp:zAH R with
    |error e=>
      have hre:zBv R=.error e:=by unfold zBv;rw[hp]
      have hfs:zAq R=.error e:=by unfold zAq;rw[if_neg c1,hp]
      have h0:=zHc hfs;have HFE:=hQd (zNr HV.out HSC.out (by rw[HR0.out];exact hfs));have hst1:zBy [] e=2:=by unfold zBy;rw[if_pos h0]
      have HST:=hQd hst1;have HP:=hQd hp;have HRE:=hQd hre;have g1e:(e==0)=false:=by rw[beq_eq_false_iff_ne];exact h0
      have g2e:(e !=0)=true:=by simp[bne,g1e]
      clear hfs hst1 c1 hr0 hRl hp hre h0;go_upto_region 4 with (fail);rw[HR.out]
      go_wp2_with (first
  |(go_at_call 66;clear o0 of0 o1 of1 o2 of2 o3 of3;clear z0 zf0 z1 zf1 z2 zf2 z3 zf3;(with_reducible refine(zCD R e HP.out HL.out H.out).mono ?_);rintro e_ wn ⟨rfl,h⟩;have o0:=h.p1.rawCell 0;have of0:=h.p1.rawFree 0;have o1:=h.p1.rawCell 1;have of1:=h.p1.rawFree 1;have o2:=h.p1.rawCell 2;have of2:=h.p1.rawFree 2;have o3:=h.p1.rawCell 3;have of3:=h.p1.rawFree 3;simp at o0 o1 o2 o3;have z0:=h.p2.rawCell 0;have zf0:=h.p2.rawFree 0;have z1:=h.p2.rawCell 1;have zf1:=h.p2.rawFree 1;have z2:=h.p2.rawCell 2;have zf2:=h.p2.rawFree 2;have z3:=h.p2.rawCell 3;have zf3:=h.p2.rawFree 3;simp at z0 z1 z2 z3;replace H:=hQd h;clear h)
  |(go_at_call 67;clear o0 of0 o1 of1 o2 of2 o3 of3;clear z0 zf0 z1 zf1 z2 zf2 z3 zf3;(with_reducible refine(zFy R HL6.out e HRE.out H.out).mono ?_);rintro e_ wn ⟨rfl,h⟩;obtain⟨xb,hxb⟩:∃b,wn.heap.size=b:=⟨_,rfl⟩;have h:=h.allocRaw #[.int .i64 0,.int .i64 0,.bool false,.bool false,.bool false,.int .i64 0,.int .i64 0,.int .i64 0,.int .i64 0,.int .i64 0,.int .i64 0,.slice none 0 0,.int .i64 0,.int .i64 e] 105;rw[hxb]at h;have x0:=h.rawCell 0;have x1:=h.rawCell 1;have x2:=h.rawCell 2;have x3:=h.rawCell 3;have x4:=h.rawCell 4;have x5:=h.rawCell 5;have x6:=h.rawCell 6;have x7:=h.rawCell 7;have x8:=h.rawCell 8;have x9:=h.rawCell 9;have x10:=h.rawCell 10;have x11:=h.rawCell 11;have x12:=h.rawCell 12;have x13:=h.rawCell 13;simp at x0 x1 x2 x3 x4 x5 x6 x7 x8 x9 x10 x11 x12 x13;have o0:=h.p2.rawCell 0;have of0:=h.p2.rawFree 0;have o1:=h.p2.rawCell 1;have of1:=h.p2.rawFree 1;have o2:=h.p2.rawCell 2;have of2:=h.p2.rawFree 2;have o3:=h.p2.rawCell 3;have of3:=h.p2.rawFree 3;simp at o0 o1 o2 o3;have z0:=h.p3.rawCell 0;have zf0:=h.p3.rawFree 0;have z1:=h.p3.rawCell 1;have zf1:=h.p3.rawFree 1;have z2:=h.p3.rawCell 2;have zf2:=h.p3.rawFree 2;have z3:=h.p3.rawCell 3;have zf3:=h.p3.rawFree 3;simp at z0 z1 z2 z3;replace H:=hQd h;clear h))
      have hz:St W0 _ _ (.raw rb #[.slice q2 acc.length cap2,.int .i64 V,.int .i64 2,.int .i64 e] 63::_):=((((((H.out.p2.rawSet 2 (.int .i64 2)).rawSet 3 (.int .i64 e)).p3.rawSet 0 (.slice q2 acc.length cap2)).rawSet 1 (.int .i64 V)).rawSet 2 (.int .i64 2)).rawSet 3 (.int .i64 e));refine bodyPost_ret (zAl rfl _ _ rb [.slice q2 acc.length cap2,.int .i64 V,.int .i64 2,.int .i64 e] _ rfl (zAn hz) Tryz.underlying63 rfl (by kernel_rfl)) rfl ?_;have hf9:=(hz.drop.drop.drop).freezeBats HREC.out;have hf8:=hf9.know (K':=K.and (Know.bats _ acc)) (fun w F hh=>⟨HKK.out _ _ hh.1,hh.2⟩);exact⟨q2,cap2,acc,V,_,e,by rw[HST.out],HFE.out,HLIT.out,HCN.out,HQ2.out,hf8⟩
    |ok x=>
      obtain⟨r1,r2,r3,r4,r5,r6⟩:=zAQ hp;obtain⟨nn,hnn⟩:∃nn,61+(x.len - 49).toNat=nn:=⟨_,rfl⟩;have hln:x.len+12=(nn:Int):=by omega
      have HP:=hQd hp
      by_cases c2:R.length<nn
      · have hfs:zAq R=.ok none:=by unfold zAq;rw[if_neg c1,hp];simp only;rw[if_pos (by omega)]
        have HFE:=hQd (zHU HV.out HSC.out (by rw[HR0.out];exact hfs));have hst1:zBy (A.drop V) 0=1:=by rw[HR0.out];unfold zBy;rw[if_neg (by simp),if_pos hr0]
        have HST:=hQd hst1;have c2i:(R.length:Int)<(nn:Int):=by omega
        clear hfs hst1 c1 hr0 hRl hp r3 r4 r5 r6 hnn c2;go_upto_region 4 with (fail);rw[HR.out];go_wp2_with (go_at_call 66;clear o0 of0 o1 of1 o2 of2 o3 of3;clear z0 zf0 z1 zf1 z2 zf2 z3 zf3;(with_reducible refine(zAx R x HP.out HL.out H.out).mono ?_);rintro e_ wn ⟨bl,rfl,h⟩;have p1:=h.rawCell 1;simp at p1;have h:=h.drop;have o0:=h.p1.rawCell 0;have of0:=h.p1.rawFree 0;have o1:=h.p1.rawCell 1;have of1:=h.p1.rawFree 1;have o2:=h.p1.rawCell 2;have of2:=h.p1.rawFree 2;have o3:=h.p1.rawCell 3;have of3:=h.p1.rawFree 3;simp at o0 o1 o2 o3;have z0:=h.p2.rawCell 0;have zf0:=h.p2.rawFree 0;have z1:=h.p2.rawCell 1;have zf1:=h.p2.rawFree 1;have z2:=h.p2.rawCell 2;have zf2:=h.p2.rawFree 2;have z3:=h.p2.rawCell 3;have zf3:=h.p2.rawFree 3;simp at z0 z1 z2 z3;replace H:=hQd h;clear h);have hz:St W0 _ _ (.raw rb #[.slice q2 acc.length cap2,.int .i64 V,.int .i64 1,.int .i64 0] 63::_):=(((((H.out.p1.rawSet 2 (.int .i64 1)).p2.rawSet 0 (.slice q2 acc.length cap2)).rawSet 1 (.int .i64 V)).rawSet 2 (.int .i64 1)).rawSet 3 (.int .i64 0));refine bodyPost_ret (zAl rfl _ _ rb [.slice q2 acc.length cap2,.int .i64 V,.int .i64 1,.int .i64 0] _ rfl (zAn hz) Tryz.underlying63 rfl (by kernel_rfl)) rfl ?_;have hf9:=(hz.drop.drop).freezeBats HREC.out;have hf8:=hf9.know (K':=K.and (Know.bats _ acc)) (fun w F hh=>⟨HKK.out _ _ hh.1,hh.2⟩);exact⟨q2,cap2,acc,V,_,0,by rw[HST.out],HFE.out,HLIT.out,HCN.out,HQ2.out,hf8⟩
      have c2i:¬(R.length:Int)<(nn:Int):=by omega
      cases ha:asmB x (R.take 61) ((R.drop 61).take (x.len - 49).toNat)with
      |error e=>
        have hre:zBv R=.error e:=by unfold zBv;rw[hp];simp only;rw[if_neg (by omega),ha]
        have hfs:zAq R=.error e:=by unfold zAq;rw[if_neg c1,hp];simp only;rw[if_neg (by omega),ha]
        have h0:=zHc hfs;have HFE:=hQd (zNr HV.out HSC.out (by rw[HR0.out];exact hfs));have hst1:zBy [] e=2:=by unfold zBy;rw[if_pos h0]
        have HST:=hQd hst1;have HRE:=hQd hre;have g1e:(e==0)=false:=by rw[beq_eq_false_iff_ne];exact h0
        have g2e:(e !=0)=true:=by simp[bne,g1e]
        clear hfs hst1 c1 hr0 hRl hp hre h0 ha r3 r4 r5 r6 hnn c2;go_upto_region 4 with (fail);rw[HR.out]
        go_wp2_with (first
  |(go_at_call 66;clear o0 of0 o1 of1 o2 of2 o3 of3;clear z0 zf0 z1 zf1 z2 zf2 z3 zf3;(with_reducible refine(zAx R x HP.out HL.out H.out).mono ?_);rintro e_ wn ⟨bl,rfl,h⟩;have p1:=h.rawCell 1;simp at p1;have h:=h.drop;have o0:=h.p1.rawCell 0;have of0:=h.p1.rawFree 0;have o1:=h.p1.rawCell 1;have of1:=h.p1.rawFree 1;have o2:=h.p1.rawCell 2;have of2:=h.p1.rawFree 2;have o3:=h.p1.rawCell 3;have of3:=h.p1.rawFree 3;simp at o0 o1 o2 o3;have z0:=h.p2.rawCell 0;have zf0:=h.p2.rawFree 0;have z1:=h.p2.rawCell 1;have zf1:=h.p2.rawFree 1;have z2:=h.p2.rawCell 2;have zf2:=h.p2.rawFree 2;have z3:=h.p2.rawCell 3;have zf3:=h.p2.rawFree 3;simp at z0 z1 z2 z3;replace H:=hQd h;clear h)
  |(go_at_call 67;clear o0 of0 o1 of1 o2 of2 o3 of3;clear z0 zf0 z1 zf1 z2 zf2 z3 zf3;(with_reducible refine(zFy R HL6.out e HRE.out H.out).mono ?_);rintro e_ wn ⟨rfl,h⟩;obtain⟨xb,hxb⟩:∃b,wn.heap.size=b:=⟨_,rfl⟩;have h:=h.allocRaw #[.int .i64 0,.int .i64 0,.bool false,.bool false,.bool false,.int .i64 0,.int .i64 0,.int .i64 0,.int .i64 0,.int .i64 0,.int .i64 0,.slice none 0 0,.int .i64 0,.int .i64 e] 105;rw[hxb]at h;have x0:=h.rawCell 0;have x1:=h.rawCell 1;have x2:=h.rawCell 2;have x3:=h.rawCell 3;have x4:=h.rawCell 4;have x5:=h.rawCell 5;have x6:=h.rawCell 6;have x7:=h.rawCell 7;have x8:=h.rawCell 8;have x9:=h.rawCell 9;have x10:=h.rawCell 10;have x11:=h.rawCell 11;have x12:=h.rawCell 12;have x13:=h.rawCell 13;simp at x0 x1 x2 x3 x4 x5 x6 x7 x8 x9 x10 x11 x12 x13;have o0:=h.p2.rawCell 0;have of0:=h.p2.rawFree 0;have o1:=h.p2.rawCell 1;have of1:=h.p2.rawFree 1;have o2:=h.p2.rawCell 2;have of2:=h.p2.rawFree 2;have o3:=h.p2.rawCell 3;have of3:=h.p2.rawFree 3;simp at o0 o1 o2 o3;have z0:=h.p3.rawCell 0;have zf0:=h.p3.rawFree 0;have z1:=h.p3.rawCell 1;have zf1:=h.p3.rawFree 1;have z2:=h.p3.rawCell 2;have zf2:=h.p3.rawFree 2;have z3:=h.p3.rawCell 3;have zf3:=h.p3.rawFree 3;simp at z0 z1 z2 z3;replace H:=hQd h;clear h))
        have hz:St W0 _ _ (.raw rb #[.slice q2 acc.length cap2,.int .i64 V,.int .i64 2,.int .i64 e] 63::_):=((((((H.out.p2.rawSet 2 (.int .i64 2)).rawSet 3 (.int .i64 e)).p3.rawSet 0 (.slice q2 acc.length cap2)).rawSet 1 (.int .i64 V)).rawSet 2 (.int .i64 2)).rawSet 3 (.int .i64 e));refine bodyPost_ret (zAl rfl _ _ rb [.slice q2 acc.length cap2,.int .i64 V,.int .i64 2,.int .i64 e] _ rfl (zAn hz) Tryz.underlying63 rfl (by kernel_rfl)) rfl ?_;have hf9:=(hz.drop.drop.drop).freezeBats HREC.out;have hf8:=hf9.know (K':=K.and (Know.bats _ acc)) (fun w F hh=>⟨HKK.out _ _ hh.1,hh.2⟩);exact⟨q2,cap2,acc,V,_,e,by rw[HST.out],HFE.out,HLIT.out,HCN.out,HQ2.out,hf8⟩
      |ok b=>
        obtain⟨n,hn⟩:∃n,nn=n:=⟨_,rfl⟩;have hre:zBv R=.ok (b,n):=by unfold zBv;rw[hp];simp only;rw[if_neg (by omega),ha,hnn,hn]
        have hfs:zAq R=.ok (some (b,n)):=by unfold zAq;rw[if_neg c1,hp];simp only;rw[if_neg (by omega),ha,hnn,hn]
        obtain⟨⟨hn61,hnl⟩,hlb⟩:=zCw hfs;have HNX:=hQd (zMp HSC.out (by rw[HR0.out];exact hfs));have HRE:=hQd hre;have HLB:=hQd (show zNY 1000000 b from⟨by have:=hlb.1;omega,fun y hy=>by have:=hlb.2 y hy;omega⟩);have hvn:(V:Int)+(n:Int)≤90000:=by omega
        have HVN:=hQd (show V+n≤A.length by omega);have HN61:=hQd hn61;clear hfs c1 hr0 hRl hp hre ha r3 r4 r5 r6 hnn c2 hlb hn61 hnl hn;go_upto_region 4 with (fail);rw[HR.out]
        go_wp2_with (first
  |(go_at_call 66;clear o0 of0 o1 of1 o2 of2 o3 of3;clear z0 zf0 z1 zf1 z2 zf2 z3 zf3;(with_reducible refine(zAx R x HP.out HL.out H.out).mono ?_);rintro e_ wn ⟨bl,rfl,h⟩;have p1:=h.rawCell 1;simp at p1;have h:=h.drop;have o0:=h.p1.rawCell 0;have of0:=h.p1.rawFree 0;have o1:=h.p1.rawCell 1;have of1:=h.p1.rawFree 1;have o2:=h.p1.rawCell 2;have of2:=h.p1.rawFree 2;have o3:=h.p1.rawCell 3;have of3:=h.p1.rawFree 3;simp at o0 o1 o2 o3;have z0:=h.p2.rawCell 0;have zf0:=h.p2.rawFree 0;have z1:=h.p2.rawCell 1;have zf1:=h.p2.rawFree 1;have z2:=h.p2.rawCell 2;have zf2:=h.p2.rawFree 2;have z3:=h.p2.rawCell 3;have zf3:=h.p2.rawFree 3;simp at z0 z1 z2 z3;replace H:=hQd h;clear h)
  |(go_at_call 67;clear o0 of0 o1 of1 o2 of2 o3 of3;clear z0 zf0 z1 zf1 z2 zf2 z3 zf3;(with_reducible refine(zJM R HL6.out b n HRE.out H.out).mono ?_);rintro e_ wn ⟨q,l,cap2_,rfl,hlm,h⟩;have HLM:=hQd hlm;clear hlm;obtain⟨xb,hxb⟩:∃b,wn.heap.size=b:=⟨_,rfl⟩;have h:=h.allocRaw #[.int .i64 b.base,.int .i64 b.leader,.bool b.app,.bool b.txn,.bool b.ctl,.int .i64 b.last,.int .i64 b.first,.int .i64 b.maxt,.int .i64 b.prod,.int .i64 b.epoch,.int .i64 b.seq,.slice q l.length cap2_,.int .i64 n,.int .i64 0] 105;rw[hxb]at h;have x0:=h.rawCell 0;have x1:=h.rawCell 1;have x2:=h.rawCell 2;have x3:=h.rawCell 3;have x4:=h.rawCell 4;have x5:=h.rawCell 5;have x6:=h.rawCell 6;have x7:=h.rawCell 7;have x8:=h.rawCell 8;have x9:=h.rawCell 9;have x10:=h.rawCell 10;have x11:=h.rawCell 11;have x12:=h.rawCell 12;have x13:=h.rawCell 13;simp at x0 x1 x2 x3 x4 x5 x6 x7 x8 x9 x10 x11 x12 x13;have o0:=h.p2.rawCell 0;have of0:=h.p2.rawFree 0;have o1:=h.p2.rawCell 1;have of1:=h.p2.rawFree 1;have o2:=h.p2.rawCell 2;have of2:=h.p2.rawFree 2;have o3:=h.p2.rawCell 3;have of3:=h.p2.rawFree 3;simp at o0 o1 o2 o3;have z0:=h.p3.rawCell 0;have zf0:=h.p3.rawFree 0;have z1:=h.p3.rawCell 1;have zf1:=h.p3.rawFree 1;have z2:=h.p3.rawCell 2;have zf2:=h.p3.rawFree 2;have z3:=h.p3.rawCell 3;have zf3:=h.p3.rawFree 3;simp at z0 z1 z2 z3;replace H:=hQd h;clear h)
  |(at_builtin;clear o0 of0 o1 of1 o2 of2 o3 of3;clear z0 zf0 z1 zf1 z2 zf2 z3 zf3;clear x0 x1 x2 x3 x4 x5 x6 x7 x8 x9 x10 x11 x13;refine zAA rfl _ _ 22 rfl 30 Tryz.underlying22 zDQ _ _ _ rfl H.out.p1 [.int .i64 b.base,.int .i64 b.leader,.bool b.app,.bool b.txn,.bool b.ctl,.int .i64 b.last,.int .i64 b.first,.int .i64 b.maxt,.int .i64 b.prod,.int .i64 b.epoch,.int .i64 b.seq,.slice q l.length cap2_] 30 zq40 rfl (by simp[Value.oneCell']) (by have:=HAB.out;unfold maxLen;omega) (by have:=HAB.out;omega) ?_;intro v' w' h;obtain⟨qv,cv,hv⟩:=h.rowAny;subst hv;have x12:=h.p1.rawCell 12;simp at x12;have o0:=h.p2.rawCell 0;have of0:=h.p2.rawFree 0;have o1:=h.p2.rawCell 1;have of1:=h.p2.rawFree 1;have o2:=h.p2.rawCell 2;have of2:=h.p2.rawFree 2;have o3:=h.p2.rawCell 3;have of3:=h.p2.rawFree 3;simp at o0 o1 o2 o3;replace H:=hQd h;clear h))
        have h7:=((H.out.p2.rawSet 0 (.slice qv (acc.length+1) cv)).rawSet 1 (.int .i64 ((V+n:Nat):Int))).p1.p2.drop;go_roundw
        case rel=>
         refine⟨acc++[⟨b,l,q,cap2_⟩],K2.and (Know.recs (.slice q l.length cap2_) l),V+n,.slice qv (acc.length+1) cv,HVN.out,?_,?_,?_,?_,?_,?_⟩
         · exact hQd (by rw[List.map_append];exact HNX.out)
         · exact hQd (Know.has_trans (Know.has_left (Know.has_refl _)) HKK.out)
         · refine hQd (fun y hy=> ?_)
           rcases List.mem_append.1 hy with hy|hy
           · exact Know.has_trans (Know.has_left (Know.has_refl _)) (HREC.out y hy)
           · rw[List.mem_singleton.1 hy];exact Know.has_right (Know.has_refl _)
         · refine hQd (fun y hy=> ?_)
           rcases List.mem_append.1 hy with hy|hy
           · exact HLIT.out y hy
           · rw[List.mem_singleton.1 hy];exact⟨HLM.out,HLB.out⟩
         · exact hQd (by rw[List.length_append];show 61*(acc.length+1)≤V+n;have:=HCNT.out;have:=HN61.out;omega)
         · rw[List.length_append,List.flatMap_append];exact h7
        case measure=>
         have h8:=valM h7.p1;rw[HMS.out];exact zM6 (congrArg (fun t=>A.length - t) h8) (by show A.length - (V+n)<A.length - V;have:=HVN.out;have:=HN61.out;omega)
  · obtain rfl:V=A.length:=by omega
    have hfs:zAq (A.drop A.length)=.ok none:=by rw[List.drop_length];exact zHb
    have HFE:=hQd (zHU HV.out HSC.out hfs);have hst1:zBy (A.drop A.length) 0=0:=by rw[List.drop_length];rfl
    have HST:=hQd hst1;clear hfs hst1 hR hRl;go_wp2_with fail;have hz:St W0 _ _ (.raw rb #[.slice q2 acc.length cap2,.int .i64 A.length,.int .i64 0,.int .i64 0] 63::_):=((((H.out.p2.rawSet 0 (.slice q2 acc.length cap2)).rawSet 1 (.int .i64 A.length)).rawSet 2 (.int .i64 0)).rawSet 3 (.int .i64 0));refine bodyPost_ret (zAl rfl _ _ rb [.slice q2 acc.length cap2,.int .i64 A.length,.int .i64 0,.int .i64 0] _ rfl (zAn hz) Tryz.underlying63 rfl (by kernel_rfl)) rfl ?_;have hf9:=(hz.drop.p1.drop).freezeBats HREC.out;have hf8:=hf9.know (K':=K.and (Know.bats _ acc)) (fun w F hh=>⟨HKK.out _ _ hh.1,hh.2⟩);exact⟨q2,cap2,acc,A.length,_,0,by rw[HST.out],HFE.out,HLIT.out,HCN.out,HQ2.out,hf8⟩
theorem zLu(A:Bs)(hA:A.length≤90000){W0 w:World}{K:Know}{L:List Res}(h:St W0 w K L):
  Calls Tryz.prog 32 #[.string (bb A)] w fun en w'=>∃(q:Option Addr) (cap:Nat) (lr:List BatR) (V:Nat) (rs:Bs) (e st:Int),en=.returned (.agg #[.slice q lr.length cap,.int .i64 V,.int .i64 st,.int .i64 e])∧zBy rs e=st∧finS A=(lr.map BatR.b,V,rs,e)∧(∀x∈lr,zD2 x)∧61*lr.length≤A.length∧(((q=none∧cap=0)∨∃g,q=some ⟨g,0,none⟩)∧lr.length≤cap)∧St W0 w' (K.and (Know.bats (.slice q lr.length cap) lr)) L:=by
 refine(zME A hA h).mono ?_;rintro en w' ⟨q,cap,lr,V,rs,e,h0,h1⟩;exact⟨q,cap,lr,V,rs,e,_,h0,rfl,h1⟩
theorem rr_all(A:Bs)(bs:List BatS)(pv:Nat)(rest:Bs)(pe ps:Int){T:Bs}(tk:ToldOk A T bs pv rest pe ps){W0 w:World}{K:Know}{L:List Res}(h:St W0 w K L):
  Calls Tryz.prog 32 #[.string (bb A)] w fun en w'=>∃(q:Option Addr) (cap:Nat) (lr:List BatR),en=.returned (.agg #[.slice q lr.length cap,.int .i64 (pv:Nat),.int .i64 ps,.int .i64 pe])∧lr.map BatR.b=bs∧(∀x∈lr,zD2 x)∧St W0 w' (K.and (Know.bats (.slice q lr.length cap) lr)) L:=by
 refine(zLu A tk.len h).mono ?_;rintro en w' ⟨q,cap,lr,V,rs,e,st,rfl,h1,h2,h3,_,_,h5⟩;rw[tk.fin]at h2;have e1:bs=lr.map BatR.b:=congrArg (fun z=>z.1) h2;have e2:pv=V:=congrArg (fun z=>z.2.1) h2;have e3:rest=rs:=congrArg (fun z=>z.2.2.1) h2;have e4:pe=e:=congrArg (fun z=>z.2.2.2) h2;subst e2 e3 e4;have e5:st=ps:=h1.symm.trans tk.stop;subst e5;exact⟨q,cap,lr,rfl,e1.symm,h3,h5⟩
theorem zMi(l:List BatS)(b:BatS):sumE (l++[b])=sumE l+b.enc.length:=by unfold sumE;rw[List.map_append,List.sum_append];simp
theorem zMh(l:List BatS)(b:BatS):sumR (l++[b])=sumR l+b.recs.length:=by unfold sumR;rw[List.map_append,List.sum_append];simp
theorem zIj(lr:List BatR)(k:Nat)(hk:k<lr.length)(x:BatR)(hx:lr[k]=x):(lr.take (k+1)).map BatR.b=(lr.take k).map BatR.b++[x.b]:=by rw[List.take_succ_eq_append_getElem hk,hx,List.map_append];rfl
theorem zFF(t o:Int)(n1 n2:Bool)(d1 d2:Bs)(q:Option Addr)(ln cap:Nat)(r1 r2 r3:Int)(hr:zBD n1 n2 d1 d2 ln o=(r1,r2,r3))(hd1:d1.length≤140737488355328)(hd2:d2.length≤140737488355328)(h:St W0 w K L):
 Calls Tryz.prog 26 #[.agg #[.int .i64 t,.int .i64 o,.bool n1,.string (bb d1),.bool n2,.string (bb d2),.slice q ln cap]] w fun en w'=>en=.returned (.tuple #[.int .i64 r1,.int .i64 r2,.int .i64 r3])∧St W0 w' K L:=zEj t o n1 n2 d1 d2 q ln cap (r1,r2,r3) hr hd1 hd2 h
theorem zMU(base leader:Int)(app txn:Bool)(last first maxt prod epoch sq:Int)(recs:List RecS)(l:List (RecS×Value))(q:Option Addr)(cap:Nat)(hl:l.map (·.1)=recs)(so:EncOk (⟨base,leader,app,txn,true,last,first,maxt,prod,epoch,sq,recs⟩:BatS))(hk:K.has (Know.recs (.slice q l.length cap) l))(h:St W0 w K L):
  Calls Tryz.prog 8 #[.agg #[.int .i64 base,.int .i64 leader,.bool app,.bool txn,.bool true,.int .i64 last,.int .i64 first,.int .i64 maxt,.int .i64 prod,.int .i64 epoch,.int .i64 sq,.slice q l.length cap]] w fun en w'=>en=.returned (.int .i64 0)∧St W0 w' K L:=
 zDn base leader app txn true last first maxt prod epoch sq l q cap 0 (by rw[hl];exact so.err) (by have h9:first<9223372036854775808:=so.rng.2.2.2.1.2;omega) so.rng.1 (so.fit hl) (by have:=so.llen hl;omega) hk h
end Go.Proofs.YtenojajfacacoaaGreatDoor
