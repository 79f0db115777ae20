/- A text. -/
import Derived.Test.YtnnnglklgofabaaGreatGProduceReads3
import Derived.Test.YtnnnglklgofabaaGreatGProduceReads6
import Derived.Test.YtnnnglklgofabaaGreatGProduceReads15
import Derived.Test.YtnnnglklgofabaaGreatGProduceReads12
import Derived.Test.YtnnnglklgofabaaGreatGProduceReads4
import Derived.Test.YtnnnglklgofabaaGreatGProduceReads8
import Derived.RegionTactic
import Derived.Deep.RegionHeld3
import Derived.Deep.DeepCutAuto
import Derived.Test.YtnnnglklgofabaaGreatGProduceReads10
import Derived.WalkMore
import Derived.Test.YtnnnglklgofabaaGreatGProduceReads13
/- A text. -/
namespace Go.Proofs.YtnnnglklgofabaaGreat
open Go.RowKit
set_option maxHeartbeats 8000000
set_option maxRecDepth 100000
theorem r11_ok(s:Bs)(hs:s.length≤1000000)(x:PreS)(hp:zBu s=.ok x)(nn:Nat)(hnn:61+(x.len - 49).toNat=nn)(hge0:nn≤s.length)(sd:Bs)(hsd:(s.drop 21).take (nn - 21)=sd)(X:Nat)(hX:(zAm 0#32 sd).toNat=X)(heq:(X:Int)=x.sum)(h8:x.attr % 8=0)(hn0:¬x.attr<0)(hn1:¬63<x.attr)(hn2:¬(32≤x.attr∧x.attr % 32<16))(n:Nat)(hcn:x.count=(n:Int))(hnb:n≤2147483647)(rs:List RecS)(hu:unpT n ((s.drop 61).take (nn - 61))=.ok rs)(hrs:rs.length≤1000000)(hrf:∀l:List (RecS×Value),l.map (·.1)=rs→FitB l)(hbe:zAl ⟨x.base,x.leader,zAf x.attr 3,zAf x.attr 4,zAf x.attr 5,x.last,x.first,x.maxt,x.prod,x.epoch,x.seq,rs⟩=0){W0 w:World}{K:Know}{L:List Res}(h:St W0 w K L):
 Calls Tryz.prog 87 #[.string (bb s)] w fun en w'=>∃(q:Option Addr) (l:List (RecS×Value)) (cap:Nat),en=.returned (.agg #[.int .i64 x.base,.int .i64 x.leader,.bool (zAf x.attr 3),.bool (zAf x.attr 4),.bool (zAf x.attr 5),.int .i64 x.last,.int .i64 x.first,.int .i64 x.maxt,.int .i64 x.prod,.int .i64 x.epoch,.int .i64 x.seq,.slice q l.length cap,.int .i64 nn,.int .i64 0])∧l.map (·.1)=rs∧St W0 w' (K.and (Know.recs (.slice q l.length cap) l)) L:=by
 obtain⟨rb,hrb⟩:∃b,w.heap.size=b:=⟨_,rfl⟩;have g1:=h.allocRaw #[.int .i64 0,.int .i64 0,.bool false,.bool false,.bool false,.int .i64 0,.int .i64 0,.int .i64 0,.int .i64 0,.int .i64 0,.int .i64 0,.slice none 0 0,.int .i64 0,.int .i64 0] 149;rw[hrb]at g1;obtain⟨z0,z1,z2,z3,z4,z5,z6,z7,z8,z9,z10,z11,z12,z13,zf0,zf1,zf2,zf3,zf4,zf5,zf6,zf7,zf8,zf9,zf10,zf11,zf12,zf13⟩:=zAG (b:=rb) (g1);have H:=hQd g1;have HL:=hQd (show s.length≤140737488355328 by omega);have HP:=hQd hp;obtain⟨r1,r2,r3,r4,r5,r6⟩:=zAT hp;have hln:x.len+12=(nn:Int):=by omega
 have hsl:(s.length:Int)≤1000000:=by omega
 have HSD:=hQd hsd;have HX:=hQd hX;have HSL:=hQd (show sd.length≤1000000 by rw[←hsd,List.length_take,List.length_drop];omega);have hX4:(X:Int)<4294967296:=by rw[←hX];have:=(zAm 0#32 sd).isLt;omega
 have hwX:IntKind.i64.wrap (X:Int)=(X:Int):=by rw[IntKind.wrap_i64];omega
 clear hX4;have hge:(nn:Int)≤(s.length:Int):=by omega
 have h21:(21:Int)≤(nn:Int):=by omega
 have h61:(61:Int)≤(nn:Int):=by omega
 have hg9:¬(s.length:Int)<(nn:Int):=by omega
 have g5:((X:Int)==x.sum)=true:=by rw[heq];exact beq_self_eq_true _
 have g6:((X:Int) !=x.sum)=false:=by simp[bne,g5]
 obtain⟨c0,c1,hb2,hc1⟩:=zCv x.attr;have HB2:=hQd hb2;have HA:=hQd (show -9223372036854775808≤x.attr∧x.attr<9223372036854775808 from r3);have hc8:(c1.toNat:Int) % 8=0:=by rw[hc1];omega
 have e9:(((([c0,c1]:List UInt8)[1]'(by simp)).toNat:Int) % 8 !=0)=false:=by show((c1.toNat:Int) % 8 !=0)=false;simp[bne,hc8]
 have e8:(((([c0,c1]:List UInt8)[1]'(by simp)).toNat:Int) % 8==0)=true:=by show((c1.toNat:Int) % 8==0)=true;simp[hc8]
 clear hc8 hc1;have d0:decide (x.attr<0)=false:=decide_eq_false hn0;have d1:decide (63<x.attr)=false:=decide_eq_false hn1;have ha0:0≤x.attr:=by omega
 have ha63:x.attr≤63:=by omega
 have q8:x.attr.tdiv 8=x.attr / 8:=Int.tdiv_eq_ediv_of_nonneg ha0;have q16:x.attr.tdiv 16=x.attr / 16:=Int.tdiv_eq_ediv_of_nonneg ha0;have q32:x.attr.tdiv 32=x.attr / 32:=Int.tdiv_eq_ediv_of_nonneg ha0;have m8:(x.attr / 8).tmod 2=x.attr / 8 % 2:=Int.tmod_eq_emod_of_nonneg oM;have m16:(x.attr / 16).tmod 2=x.attr / 16 % 2:=Int.tmod_eq_emod_of_nonneg oM;have w8:IntKind.i64.wrap (x.attr / 8)=x.attr / 8:=by rw[IntKind.wrap_i64];omega
 have w16:IntKind.i64.wrap (x.attr / 16)=x.attr / 16:=by rw[IntKind.wrap_i64];omega
 have w32:IntKind.i64.wrap (x.attr / 32)=x.attr / 32:=by rw[IntKind.wrap_i64];omega
 have w8m:IntKind.i64.wrap (x.attr / 8 % 2)=x.attr / 8 % 2:=by rw[IntKind.wrap_i64];omega
 have w16m:IntKind.i64.wrap (x.attr / 16 % 2)=x.attr / 16 % 2:=by rw[IntKind.wrap_i64];omega
 have b5:(x.attr / 32==1)=zAf x.attr 5:=by unfold zAf;rw[show(2:Int) ^ 5=32 by decide,show(x.attr / 32==1)=decide (x.attr / 32=1)from rfl];congr 1;rw[eq_iff_iff];omega
 have b3:(x.attr / 8 % 2==1)=zAf x.attr 3:=rfl;have b4:(x.attr / 16 % 2==1)=zAf x.attr 4:=rfl;have HD:=hQd (And.intro b3 (And.intro b4 b5));have HN2:=hQd hn2;clear h8 hn0 hn1 hn2 b3 b4 b5;obtain⟨rw0,hrw⟩:∃r,(s.drop 61).take (nn - 61)=r:=⟨_,rfl⟩;rw[hrw]at hu;have HRW:=hQd hrw;have HRW1:=hQd (show rw0.length≤1000000 by rw[←hrw,List.length_take,List.length_drop];omega);obtain⟨tot,htot⟩:∃t,unpT n rw0=t:=⟨_,rfl⟩;have HTT:=hQd (htot.symm.trans hu);have HT:=hQd (show preU [] (unpT (n - 0) rw0)=tot by rw[zEr];exact htot);have HNB:=hQd hnb;have HCN:=hQd hcn;have HBE:=hQd hbe;have HRS:=hQd hrs;have HRF:=hQd hrf;have HB0:=hQd r6;have HB1:=hQd (show Rn x.base from(zIN hp).1);clear h g1 hp hs hnn r3 r4 r5 r6 hsd hX hge0 heq hb2 hu hrw htot hnb hcn hbe hrs hrf;go_enter Tryz.func87,Tryz.ntmps87
 go_upto_region 7 with (first
  |(go_at_call 117;clear z0 zf0 z1 zf1 z2 zf2 z3 zf3 z4 zf4 z5 zf5 z6 zf6 z7 zf7 z8 zf8 z9 zf9 z10 zf10 z11 zf11 z12 zf12 z13 zf13;(with_reducible refine(zAD s x HP.out HL.out H.out).mono ?_);rintro e_ wn ⟨bl,rfl,h⟩;obtain⟨p0,p1,p2,p3,p4,p5,p6,p7,p8,p9,p10,p11⟩:=uR12 h;simp at p0 p1 p2 p3 p4 p5 p6 p7 p8 p9 p10 p11;obtain⟨z0,z1,z2,z3,z4,z5,z6,z7,z8,z9,z10,z11,z12,z13,zf0,zf1,zf2,zf3,zf4,zf5,zf6,zf7,zf8,zf9,zf10,zf11,zf12,zf13⟩:=zAG (b:=rb) (h.p1);replace H:=hQd h;clear h))
 clear z0 zf0 z1 zf1 z2 zf2 z3 zf3 z4 zf4 z5 zf5 z6 zf6 z7 zf7 z8 zf8 z9 zf9 z10 zf10 z11 zf11 z12 zf12 z13 zf13;clear p0 p1 p2 p3 p4 p5 p6 p7 p8 p9 p10 p11;go_cut [38] (fun s38 wx=>s38=.bool false∧St W0 wx K (.raw bl #[.int .i64 x.base,.int .i64 x.len,.int .i64 x.leader,.int .i64 x.sum,.int .i64 x.attr,.int .i64 x.last,.int .i64 x.first,.int .i64 x.maxt,.int .i64 x.prod,.int .i64 x.epoch,.int .i64 x.seq,.int .i64 x.count] 3::.raw rb #[.int .i64 0,.int .i64 0,.bool false,.bool false,.bool false,.int .i64 0,.int .i64 0,.int .i64 0,.int .i64 0,.int .i64 0,.int .i64 0,.slice none 0 0,.int .i64 0,.int .i64 0] 149::L))
 case first=>
  exact zq3
 obtain⟨rfl,h⟩:=hcut;clear H;obtain⟨p0,p1,p2,p3,p4,p5,p6,p7,p8,p9,p10,p11⟩:=uR12 h;simp at p0 p1 p2 p3 p4 p5 p6 p7 p8 p9 p10 p11;obtain⟨z0,z1,z2,z3,z4,z5,z6,z7,z8,z9,z10,z11,z12,z13,zf0,zf1,zf2,zf3,zf4,zf5,zf6,zf7,zf8,zf9,zf10,zf11,zf12,zf13⟩:=zAG (b:=rb) (h.p1);have H:=hQd h;clear h
 go_upto_region 12 with (first
  |(go_at_call 49;clear z0 zf0 z1 zf1 z2 zf2 z3 zf3 z4 zf4 z5 zf5 z6 zf6 z7 zf7 z8 zf8 z9 zf9 z10 zf10 z11 zf11 z12 zf12 z13 zf13;clear p0 p1 p2 p3 p4 p5 p6 p7 p8 p9 p10 p11;(with_reducible refine(zBW x.attr HA.out c0 c1 HB2.out H.out).mono ?_);rintro e_ wn ⟨rfl,h⟩;obtain⟨p0,p1,p2,p3,p4,p5,p6,p7,p8,p9,p10,p11⟩:=uR12 h;simp at p0 p1 p2 p3 p4 p5 p6 p7 p8 p9 p10 p11;obtain⟨z0,z1,z2,z3,z4,z5,z6,z7,z8,z9,z10,z11,z12,z13,zf0,zf1,zf2,zf3,zf4,zf5,zf6,zf7,zf8,zf9,zf10,zf11,zf12,zf13⟩:=zAG (b:=rb) (h.p1);replace H:=hQd h;clear h))
 go_cut [63] (fun s63 wx=>s63=.bool false∧St W0 wx K (.raw bl #[.int .i64 x.base,.int .i64 x.len,.int .i64 x.leader,.int .i64 x.sum,.int .i64 x.attr,.int .i64 x.last,.int .i64 x.first,.int .i64 x.maxt,.int .i64 x.prod,.int .i64 x.epoch,.int .i64 x.seq,.int .i64 x.count] 3::.raw rb #[.int .i64 0,.int .i64 0,.bool false,.bool false,.bool false,.int .i64 0,.int .i64 0,.int .i64 0,.int .i64 0,.int .i64 0,.int .i64 0,.slice none 0 0,.int .i64 0,.int .i64 0] 149::L))
 case first=>
  exact zq17
 obtain⟨rfl,h⟩:=hcut;clear H;have H:=hQd h;clear h;go_upto_region 14 with (fail);clear z0 zf0 z1 zf1 z2 zf2 z3 zf3 z4 zf4 z5 zf5 z6 zf6 z7 zf7 z8 zf8 z9 zf9 z10 zf10 z11 zf11 z12 zf12 z13 zf13;clear p0 p1 p2 p3 p4 p5 p6 p7 p8 p9 p10 p11;go_cut [7] (fun s7 wx=>∃tb:Nat,s7=.pointer (some ⟨tb,0,none⟩)∧St W0 wx K (.raw tb #[.int .i64 x.base,.int .i64 x.leader,.bool (zAf x.attr 3),.bool (zAf x.attr 4),.bool (zAf x.attr 5),.int .i64 x.last,.int .i64 x.first,.int .i64 x.maxt,.int .i64 x.prod,.int .i64 x.epoch,.int .i64 x.seq,.slice none 0 0] 58::.raw bl #[.int .i64 x.base,.int .i64 x.len,.int .i64 x.leader,.int .i64 x.sum,.int .i64 x.attr,.int .i64 x.last,.int .i64 x.first,.int .i64 x.maxt,.int .i64 x.prod,.int .i64 x.epoch,.int .i64 x.seq,.int .i64 x.count] 3::.raw rb #[.int .i64 0,.int .i64 0,.bool false,.bool false,.bool false,.int .i64 0,.int .i64 0,.int .i64 0,.int .i64 0,.int .i64 0,.int .i64 0,.slice none 0 0,.int .i64 0,.int .i64 0] 149::L))
 case first=>
  exact zq5
 obtain⟨tb,rfl,h⟩:=hcut;clear H q8 q16 q32 m8 m16 w8 w16 w32 w8m w16m d0 d1 ha0 ha63 g5 g6 e8 e9;have H:=hQd h;clear h;have hge:=hge;go_wp2;rw[HRW.out];go_loopw [8,9] (fun rv iv wr=>∃(k:Nat) (acc:List (RecS×Value)) (r:Bs) (K2:Know) (tv:Value),k≤n∧iv=.int .i64 k∧rv=.string (bb r)∧acc.length=k∧Hid (preU (acc.map (·.1)) (unpT (n - k) r)=tot)∧Hid (r.length≤1000000)∧Hid (K2.has K)∧Hid (∀x∈acc,K2.has (Know.flat RHdr x.2 3 x.1.hdrs))∧St W0 wr K2 (.row tv 119 7 acc.length (acc.flatMap zGN)::.raw tb #[.int .i64 x.base,.int .i64 x.leader,.bool (zAf x.attr 3),.bool (zAf x.attr 4),.bool (zAf x.attr 5),.int .i64 x.last,.int .i64 x.first,.int .i64 x.maxt,.int .i64 x.prod,.int .i64 x.epoch,.int .i64 x.seq,tv] 58::.raw bl #[.int .i64 x.base,.int .i64 x.len,.int .i64 x.leader,.int .i64 x.sum,.int .i64 x.attr,.int .i64 x.last,.int .i64 x.first,.int .i64 x.maxt,.int .i64 x.prod,.int .i64 x.epoch,.int .i64 x.seq,.int .i64 x.count] 3::.raw rb #[.int .i64 0,.int .i64 0,.bool false,.bool false,.bool false,.int .i64 0,.int .i64 0,.int .i64 0,.int .i64 0,.int .i64 0,.int .i64 0,.slice none 0 0,.int .i64 0,.int .i64 0] 149::L)) (fun _ iv _=>n - (intOf iv).toNat)
 case atStart=>exact⟨0,[],rw0,K,.slice none 0 0,Nat.zero_le _,rfl,rfl,rfl,HT,HRW1,hQd (Know.has_refl _),hQd (fun x h=>by cases h),H.out.nilRow 119 7⟩
 case round=>
  obtain⟨k,acc,r,K2,tv,hk,rfl,rfl,hacc,HC,HRL,HK2,HALL,hst⟩:=hrel;have HACC:=hQd hacc;have HKB:=hQd (show k≤2147483647 by have:=HNB.out;omega);clear H hacc;have t11:=hst.p1.rawCell 11;have tf11:=hst.p1.rawFree 11;simp at t11;have p11:=hst.p2.rawCell 11;simp at p11;obtain⟨z0,z1,z2,z3,z4,z5,z6,z7,z8,z9,z10,z11,z12,z13,zf0,zf1,zf2,zf3,zf4,zf5,zf6,zf7,zf8,zf9,zf10,zf11,zf12,zf13⟩:=zAG (b:=rb) (hst.p3);have H:=hQd hst;clear hst;have hc9:=HCN.out;rw[hc9]at p11;clear hc9
  by_cases hlt:k<n
  ·have hc:=HC.out;rw[show n - k=(n - (k+1))+1 by omega]at hc;have hki:(k:Int)<(n:Int):=by omega
   have hnb:(n:Int)≤2147483647:=by have:=HNB.out;omega
   by_cases hr0:r=[]
   ·subst hr0;rw[zFQ]at hc;have hc2:Except.error 10=tot:=hc;have hc3:=hc2.trans HTT.out
    cases hc3
   have z1:(r==[])=false:=by rw[beq_eq_false_iff_ne];exact hr0
   have z2:(r !=[])=true:=by simp[bne,z1]
   have z3:¬r=[]:=hr0;have hrl1:(r.length:Int)≤1000000:=by have:=HRL.out;omega
   cases hrr:zCj r with
   |error e2=>
    rw[zFR hr0 hrr]at hc;have hc2:Except.error e2=tot:=hc;have hc3:=hc2.trans HTT.out
    cases hc3
   |ok yy=>
    obtain⟨y,m⟩:=yy;rw[zIi hr0 hrr,←zDw]at hc;have hmr:=(zCX hrr).2.2.2.2.2;have hmi:(m:Int)≤(r.length:Int):=by omega
    have HRR:=hQd hrr;have HC2:=hQd hc;have HDR:=hQd (show List.take (r.length - m) (r.drop m)=r.drop m from List.take_of_length_le zq62);clear hc hrr hr0
    go_wp2_with (first
  |(go_at_call 119;clear t11 tf11;clear p11;clear z0 zf0 z1 zf1 z2 zf2 z3 zf3 z4 zf4 z5 zf5 z6 zf6 z7 zf7 z8 zf8 z9 zf9 z10 zf10 z11 zf11 z12 zf12 z13 zf13;(with_reducible refine(zD4 r y m HRR.out HRL.out H.out).mono ?_);rintro e_ wn ⟨v1,rfl,h⟩;obtain⟨q1,cc1,hv1⟩:=zAq (Know.has_right (Know.has_refl _)) h;subst hv1;obtain⟨xb,hxb⟩:∃b,wn.heap.size=b:=⟨_,rfl⟩;have h:=h.allocRaw #[.int .i64 y.time,.int .i64 y.off,.bool y.key.null,.string (bb y.key.data),.bool y.val.null,.string (bb y.val.data),(.slice q1 y.hdrs.length cc1),.int .i64 m,.int .i64 0] 176;rw[hxb]at h;obtain⟨r0,r1,r2,r3,r4,r5,r6,r7,r8⟩:=uR9 h;simp at r0 r1 r2 r3 r4 r5 r6 r7 r8;have t11:=h.p2.rawCell 11;have tf11:=h.p2.rawFree 11;simp at t11;have p11:=h.p3.rawCell 11;simp at p11;obtain⟨z0,z1,z2,z3,z4,z5,z6,z7,z8,z9,z10,z11,z12,z13,zf0,zf1,zf2,zf3,zf4,zf5,zf6,zf7,zf8,zf9,zf10,zf11,zf12,zf13⟩:=zAG (b:=rb) (h.p4);replace H:=hQd h;clear h)
  |(at_builtin;clear t11 tf11;clear p11;clear z0 zf0 z1 zf1 z2 zf2 z3 zf3 z4 zf4 z5 zf5 z6 zf6 z7 zf7 z8 zf8 z9 zf9 z10 zf10 z11 zf11 z12 zf12 z13 zf13;clear r0 r2 r3 r4 r5 r6 r7 r8;refine zAw rfl _ _ 56 rfl 119 Tryz.underlying56 zDR _ _ _ rfl H.out.p1 [.int .i64 y.time,.int .i64 y.off,.bool y.key.null,.string (bb y.key.data),.bool y.val.null,.string (bb y.val.data),.slice q1 y.hdrs.length cc1] 119 zq63 rfl (by simp[Value.oneCell']) zq66 zq69 ?_;intro v' w' h;obtain⟨qv,cv,hv⟩:=h.rowAny;subst hv;have t11:=h.p2.rawCell 11;have tf11:=h.p2.rawFree 11;simp at t11;have r7:=h.p1.rawCell 7;simp at r7;replace H:=hQd h;clear h))
    go_roundw
    case rel=>
     exact zq11
    case measure=>first|(simp[intOf];done)|(simp[intOf];omega)
  ·obtain rfl:k=n:=by omega
   have hc:=HC.out;rw[Nat.sub_self,zEf]at hc;have hki:¬(k:Int)<(k:Int):=by omega
   by_cases hr0:r=[]
   ·rw[if_pos hr0]at hc;have hc2:Except.ok (acc.map (·.1)++[])=tot:=hc;have hc3:=hc2.trans HTT.out;subst hr0;have hm0:acc.map (·.1)=rs:=by injection hc3 with h;rw[List.append_nil]at h;exact h
    obtain⟨q2,cap2,hv⟩:=H.out.rowAny;subst hv;have h5:=(H.out.freezeRow (R:=RRec) (fun y _=>⟨rfl,rfl⟩));have h6:=h5.know (K':=K.and (Know.recs (.slice q2 acc.length cap2) acc)) (fun w F hh=>⟨HK2.out _ _ hh.1,hh.2,fun y hy=>HALL.out y hy _ _ hh.1⟩);have HM0:=hQd hm0;have HBE2:=hQd (show zAl ⟨x.base,x.leader,zAf x.attr 3,zAf x.attr 4,zAf x.attr 5,x.last,x.first,x.maxt,x.prod,x.epoch,x.seq,acc.map (·.1)⟩=0 by rw[hm0];exact HBE.out);have HFB:=hQd (HRF.out acc hm0);have HLL:=hQd (show acc.length≤1000000 by have h8:=congrArg List.length hm0;rw[List.length_map]at h8;have:=HRS.out;omega);clear t11 tf11;clear p11;clear z0 zf0 z1 zf1 z2 zf2 z3 zf3 z4 zf4 z5 zf5 z6 zf6 z7 zf7 z8 zf8 z9 zf9 z10 zf10 z11 zf11 z12 zf12 z13 zf13;obtain⟨z0,z1,z2,z3,z4,z5,z6,z7,z8,z9,z10,z11,z12,z13,zf0,zf1,zf2,zf3,zf4,zf5,zf6,zf7,zf8,zf9,zf10,zf11,zf12,zf13⟩:=zAG (b:=rb) (h6.p2);obtain⟨b0,b1,b2,b3,b4,b5,b6,b7,b8,b9,b10,b11,bf0,bf1,bf2,bf3,bf4,bf5,bf6,bf7,bf8,bf9,bf10,bf11⟩:=zAe (b:=tb) (h6);have p11:=h6.p1.rawCell 11;simp at p11;rw[HCN.out]at p11;clear H hc hc2 hc3 hm0 h5;have H:=hQd h6;clear h6;go_wp2_with (go_at_call 71;clear b0 bf0 b1 bf1 b2 bf2 b3 bf3 b4 bf4 b5 bf5 b6 bf6 b7 bf7 b8 bf8 b9 bf9 b10 bf10 b11 bf11;clear p11;clear z0 zf0 z1 zf1 z2 zf2 z3 zf3 z4 zf4 z5 zf5 z6 zf6 z7 zf7 z8 zf8 z9 zf9 z10 zf10 z11 zf11 z12 zf12 z13 zf13;(with_reducible refine(zBZ x.base x.leader (zAf x.attr 3) (zAf x.attr 4) (zAf x.attr 5) x.last x.first x.maxt x.prod x.epoch x.seq acc q2 cap2 0 HBE2.out HB0.out HB1.out HFB.out HLL.out (Know.has_right (Know.has_refl _)) H.out).mono ?_);rintro e_ wn ⟨rfl,h⟩;obtain⟨b0,b1,b2,b3,b4,b5,b6,b7,b8,b9,b10,b11,bf0,bf1,bf2,bf3,bf4,bf5,bf6,bf7,bf8,bf9,bf10,bf11⟩:=zAe (b:=tb) (h);obtain⟨z0,z1,z2,z3,z4,z5,z6,z7,z8,z9,z10,z11,z12,z13,zf0,zf1,zf2,zf3,zf4,zf5,zf6,zf7,zf8,zf9,zf10,zf11,zf12,zf13⟩:=zAG (b:=rb) (h.p2);replace H:=hQd h;clear h);have hz:St W0 _ _ (.raw rb #[.int .i64 x.base,.int .i64 x.leader,.bool (zAf x.attr 3),.bool (zAf x.attr 4),.bool (zAf x.attr 5),.int .i64 x.last,.int .i64 x.first,.int .i64 x.maxt,.int .i64 x.prod,.int .i64 x.epoch,.int .i64 x.seq,.slice q2 acc.length cap2,.int .i64 nn,.int .i64 0] 149::_):=St.sets14 _ _ _ _ _ _ _ _ _ _ _ _ _ _ (H.out.p2);refine bodyPost_ret (zAs rfl _ _ rb [.int .i64 x.base,.int .i64 x.leader,.bool (zAf x.attr 3),.bool (zAf x.attr 4),.bool (zAf x.attr 5),.int .i64 x.last,.int .i64 x.first,.int .i64 x.maxt,.int .i64 x.prod,.int .i64 x.epoch,.int .i64 x.seq,.slice q2 acc.length cap2,.int .i64 nn,.int .i64 0] _ rfl (zAE hz) Tryz.underlying149 rfl (by kernel_rfl)) rfl ?_;exact⟨q2,acc,cap2,rfl,HM0.out,hz.drop.drop.drop⟩
   ·rw[if_neg hr0]at hc;have hc2:Except.error 10=tot:=hc;have hc3:=hc2.trans HTT.out
    cases hc3
variable {W0 w:World}{K:Know}{L:List Res}
theorem zQ9(s:Bs)(k:Nat):(s.drop 21).take (61+k - 21)=(s.take 61).drop 21++(s.drop 61).take k:=by
 rw[show 61+k - 21=40+k by omega,List.take_add,List.drop_drop,List.drop_take]
theorem zN9(x:PreS)(said rows:Bs)(P:Except Int BatS→Prop)
 (h1:((zAm 0#32 (said.drop 21++rows)).toNat:Int)≠x.sum→P (.error 5))
 (h2:((zAm 0#32 (said.drop 21++rows)).toNat:Int)=x.sum→chk x.attr≠0→P (.error (chk x.attr)))
 (h3:((zAm 0#32 (said.drop 21++rows)).toNat:Int)=x.sum→chk x.attr=0→∀e,unp x.count.toNat ⟨rows,0,0⟩=.error e→P (.error e))
 (h4:((zAm 0#32 (said.drop 21++rows)).toNat:Int)=x.sum→chk x.attr=0→∀rs e,unp x.count.toNat ⟨rows,0,0⟩=.ok rs→e≠0→zAl ⟨x.base,x.leader,zAf x.attr 3,zAf x.attr 4,zAf x.attr 5,x.last,x.first,x.maxt,x.prod,x.epoch,x.seq,rs⟩=e→P (.error e))
 (h5:((zAm 0#32 (said.drop 21++rows)).toNat:Int)=x.sum→chk x.attr=0→∀rs,unp x.count.toNat ⟨rows,0,0⟩=.ok rs→zAl ⟨x.base,x.leader,zAf x.attr 3,zAf x.attr 4,zAf x.attr 5,x.last,x.first,x.maxt,x.prod,x.epoch,x.seq,rs⟩=0→P (.ok ⟨x.base,x.leader,zAf x.attr 3,zAf x.attr 4,zAf x.attr 5,x.last,x.first,x.maxt,x.prod,x.epoch,x.seq,rs⟩)):P (asmB x said rows):=by
 unfold asmB
 by_cases c1:((zAm 0#32 (said.drop 21++rows)).toNat:Int)≠x.sum
 ·rw[if_pos c1];exact h1 c1
 rw[if_neg c1];have c1:=Decidable.of_not_not c1
 by_cases c2:chk x.attr≠0
 ·rw[if_pos c2];exact h2 c1 c2
 rw[if_neg c2];have c2:=Decidable.of_not_not c2
 cases hu:unp x.count.toNat ⟨rows,0,0⟩with
 |error e=>exact h3 c1 c2 e hu
 |ok rs=>
  simp only
  split
  ·rename_i c3;exact h5 c1 c2 rs hu c3
  ·rename_i c3;exact h4 c1 c2 rs _ hu c3 rfl
theorem zQ4{n:Nat}{s:Bs}{e:Int}(h:unpT n s=.error e):e≠0:=by
 induction n generalizing s with
 |zero=>
  rw[zEf]at h
  split at h
  ·cases h
  ·cases h;decide
 |succ n ih=>
  by_cases c:s=[]
  ·subst c;rw[zFQ]at h;cases h;decide
  ·cases hr:zCj s with
   |error e2=>rw[zFR c hr]at h;cases h;exact zPY hr
   |ok y=>
    obtain⟨x,m⟩:=y;rw[zIi c hr]at h
    cases hu:unpT n (s.drop m)with
    |error e2=>rw[hu]at h;cases h;exact ih hu
    |ok t=>rw[hu]at h;cases h
theorem zGn(s:Bs)(hs:s.length≤1000000)(h:St W0 w K L):
 Calls Tryz.prog 87 #[.string (bb s)] w fun en w'=>match zBd s with
  | .error e=>en=.returned (.agg #[.int .i64 0,.int .i64 0,.bool false,.bool false,.bool false,.int .i64 0,.int .i64 0,.int .i64 0,.int .i64 0,.int .i64 0,.int .i64 0,.slice none 0 0,.int .i64 0,.int .i64 e])∧St W0 w' K L
  | .ok (b,n)=>∃(q:Option Addr) (l:List (RecS×Value)) (cap:Nat),en=.returned (.agg #[.int .i64 b.base,.int .i64 b.leader,.bool b.app,.bool b.txn,.bool b.ctl,.int .i64 b.last,.int .i64 b.first,.int .i64 b.maxt,.int .i64 b.prod,.int .i64 b.epoch,.int .i64 b.seq,.slice q l.length cap,.int .i64 n,.int .i64 0])∧l.map (·.1)=b.recs∧St W0 w' (K.and (Know.recs (.slice q l.length cap) l)) L:=by
 unfold zBd
 cases hp:zBu s with
 |error e=>exact zNF s hs e hp h
 |ok x=>
  simp only
  by_cases c1:s.length<61+(x.len - 49).toNat
  ·rw[if_pos c1];exact zON s hs x hp _ rfl c1 h
  rw[if_neg c1];have hse:=zQ9 s (x.len - 49).toNat;have hpr:=zAT hp;have hcn:x.count=(x.count.toNat:Int):=by have:=hpr.2.2.2.1;omega
  have hnb:x.count.toNat≤2147483647:=by have:=hpr.2.2.2.2.1;omega
  have hrw:(s.drop 61).take (61+(x.len - 49).toNat - 61)=(s.drop 61).take (x.len - 49).toNat:=by rw[Nat.add_sub_cancel_left]
  have ok1:chk x.attr=0→x.attr % 8=0∧¬x.attr<0∧¬63<x.attr∧¬(32≤x.attr∧x.attr % 32<16):=by
   intro hc
   by_cases h8:x.attr % 8=0
   ·rw[zJb _ h8]at hc
    split at hc
    ·cases hc
    ·omega
   ·rw[(zM0 _).2 h8]at hc;cases hc
  refine zN9 x (s.take 61) ((s.drop 61).take (x.len - 49).toNat) (fun r=>Calls Tryz.prog 87 #[.string (bb s)] w fun en w'=>match (match r with| .error e=>Except.error e| .ok b=>Except.ok (b,61+(x.len - 49).toNat))with
   | .error e=>en=.returned (.agg #[.int .i64 0,.int .i64 0,.bool false,.bool false,.bool false,.int .i64 0,.int .i64 0,.int .i64 0,.int .i64 0,.int .i64 0,.int .i64 0,.slice none 0 0,.int .i64 0,.int .i64 e])∧St W0 w' K L
   | .ok (b,n)=>∃(q:Option Addr) (l:List (RecS×Value)) (cap:Nat),en=.returned (.agg #[.int .i64 b.base,.int .i64 b.leader,.bool b.app,.bool b.txn,.bool b.ctl,.int .i64 b.last,.int .i64 b.first,.int .i64 b.maxt,.int .i64 b.prod,.int .i64 b.epoch,.int .i64 b.seq,.slice q l.length cap,.int .i64 n,.int .i64 0])∧l.map (·.1)=b.recs∧St W0 w' (K.and (Know.recs (.slice q l.length cap) l)) L) ?_ ?_ ?_ ?_ ?_
  ·intro e1;exact zRn s hs x hp _ rfl oM _ hse _ rfl e1 h
  ·intro e1 e2
   by_cases h8:x.attr % 8=0
   ·have e3:=e2;rw[zJb _ h8]at e3
    have e4:x.attr<0∨63<x.attr∨(32≤x.attr∧x.attr % 32<16):=by
     by_cases hh:x.attr<0∨63<x.attr∨(32≤x.attr∧x.attr % 32<16)
     ·exact hh
     ·rw[if_neg hh]at e3;exact absurd rfl e3
    rw[zJb _ h8,if_pos e4]
    by_cases n0:x.attr<0
    ·exact zRr s hs x hp _ rfl oM _ hse _ rfl e1 h8 n0 h
    by_cases n1:63<x.attr
    ·exact zRq s hs x hp _ rfl oM _ hse _ rfl e1 h8 n0 n1 h
    exact zRp s hs x hp _ rfl oM _ hse _ rfl e1 h8 n0 n1 oM oM h
   ·rw[(zM0 _).2 h8];exact zRo s hs x hp _ rfl oM _ hse _ rfl e1 h8 h
  ·intro e1 e2 e hu;obtain⟨a1,a2,a3,a4⟩:=ok1 e2;rw[zFP _ _ 0 (Nat.zero_le _),List.drop_zero,←hrw]at hu;exact zRm s hs x hp _ rfl oM _ hse _ rfl e1 a1 a2 a3 a4 _ hcn hnb e (zQ4 hu) hu h
  ·intro e1 e2 rs e hu h0 hb;obtain⟨a1,a2,a3,a4⟩:=ok1 e2;have hrl:((s.drop 61).take (x.len - 49).toNat).length≤1000000:=by rw[List.length_take,List.length_drop];omega
   have hf:∀l:List (RecS×Value),l.map (·.1)=rs→FitB l:=fun l hl=>(zEe hu hl hrl).1
   have hl2:rs.length≤1000000:=by have:=(zF9 _ _ 0 _ (Nat.zero_le _) hu).2.1;omega
   rw[zFP _ _ 0 (Nat.zero_le _),List.drop_zero,←hrw]at hu;exact zRs s hs x hp _ rfl oM _ hse _ rfl e1 a1 a2 a3 a4 _ hcn hnb rs hu hl2 hf e h0 hb h
  ·intro e1 e2 rs hu hb;obtain⟨a1,a2,a3,a4⟩:=ok1 e2;have hrl:((s.drop 61).take (x.len - 49).toNat).length≤1000000:=by rw[List.length_take,List.length_drop];omega
   have hf:∀l:List (RecS×Value),l.map (·.1)=rs→FitB l:=fun l hl=>(zEe hu hl hrl).1
   have hl2:rs.length≤1000000:=by have:=(zF9 _ _ 0 _ (Nat.zero_le _) hu).2.1;omega
   rw[zFP _ _ 0 (Nat.zero_le _),List.drop_zero,←hrw]at hu;exact r11_ok s hs x hp _ rfl oM _ hse _ rfl e1 a1 a2 a3 a4 _ hcn hnb rs hu hl2 hf hb h
theorem zLs(s:Bs)(hs:s.length≤1000000)(e:Int)(hr:zBd s=.error e)(h:St W0 w K L):
 Calls Tryz.prog 87 #[.string (bb s)] w fun en w'=>en=.returned (.agg #[.int .i64 0,.int .i64 0,.bool false,.bool false,.bool false,.int .i64 0,.int .i64 0,.int .i64 0,.int .i64 0,.int .i64 0,.int .i64 0,.slice none 0 0,.int .i64 0,.int .i64 e])∧St W0 w' K L:=
 (zGn s hs h).mono fun en w' hh=>by rw[hr]at hh;exact hh
theorem zGo(s:Bs)(hs:s.length≤1000000)(b:BatS)(n:Nat)(hr:zBd s=.ok (b,n))(h:St W0 w K L):
 Calls Tryz.prog 87 #[.string (bb s)] w fun en w'=>∃(q:Option Addr) (l:List (RecS×Value)) (cap:Nat),en=.returned (.agg #[.int .i64 b.base,.int .i64 b.leader,.bool b.app,.bool b.txn,.bool b.ctl,.int .i64 b.last,.int .i64 b.first,.int .i64 b.maxt,.int .i64 b.prod,.int .i64 b.epoch,.int .i64 b.seq,.slice q l.length cap,.int .i64 n,.int .i64 0])∧l.map (·.1)=b.recs∧St W0 w' (K.and (Know.recs (.slice q l.length cap) l)) L:=
 (zGn s hs h).mono fun en w' hh=>by rw[hr]at hh;exact hh
theorem zCK(t X:Bs)(ht:t=X)(each:Nat)(ei:Int)(hei:ei=each)(he:0<each)(he2:each≤100)(hs:X.length≤1000000)(n:Nat)(E:Int)(hr:cntR each X=(n,E))(h:St W0 w K L):
 Calls Tryz.prog 55 #[.string (bb t),.int .i64 ei] w fun en w'=>en=.returned (.tuple #[.int .i64 n,.int .i64 E])∧St W0 w' K L:=by
 subst ht;exact zLp t each ei hei he he2 hs n E hr h
theorem zIz(t X:Bs)(e:Int)(ht:t=X)(hs:X.length≤140737488355328)(hv:zAk 4 X=.error e)(h:St W0 w K L):
 Calls Tryz.prog 53 #[.string (bb t),.int .i64 4] w fun en w'=>en=.returned (.agg #[.bool false,.string ⟨#[]⟩,.int .i64 0,.int .i64 e])∧St W0 w' K L:=by
 subst ht;have h2:=zBR t 4 hs dD h;have e2:gotV (zAk 4 t)=.agg #[.bool false,.string ⟨#[]⟩,.int .i64 0,.int .i64 e]:=by rw[hv];rfl
 rw[e2]at h2;exact h2
theorem zDt(t X:Bs)(nl:Bool)(d:Bs)(k:Nat)(ht:t=X)(hs:X.length≤140737488355328)(hv:zAk 4 X=.ok (⟨nl,d⟩,k))(h:St W0 w K L):
 Calls Tryz.prog 53 #[.string (bb t),.int .i64 4] w fun en w'=>en=.returned (.agg #[.bool nl,.string (bb d),.int .i64 k,.int .i64 0])∧St W0 w' K L:=by
 subst ht;have h2:=zBR t 4 hs dD h;have e2:gotV (zAk 4 t)=.agg #[.bool nl,.string (bb d),.int .i64 k,.int .i64 0]:=by rw[hv];rfl
 rw[e2]at h2;exact h2
theorem rcT3{P:Program}{fn:Func}{p t u:Tmp}{ty:TypeId}(h:fn.results= #[.cell p ty,.tmp t,.tmp u])(tmps:Array Value)(w:World)(b:Nat)(cs:List Value)(d:TypeDesc)
 (hp:tmps.getD p undef=.pointer (some ⟨b,0,none⟩))(hc:w.rangeAt b 0 cs)(hu:P.underlying ty=some d)(hd:d.isRow=true)(hi:(P.info? ty).map (·.size)=some cs.length):
 (results fn tmps).run P w=.ok (.tuple #[.agg cs.toArray,tmps.getD t undef,tmps.getD u undef]) w:=by
 have hp':tmps[p]?.getD undef=.pointer (some ⟨b,0,none⟩):=by simpa using hp
 simp[results,h,hp',asAddr,run_loadVar_mid w b 0 ty cs d hc hu hd hi]
def strN:Value→Nat
 | .string b=>b.size
 | _=>0
theorem zIn(s:Bs):strN (.string (bb s))=s.length:=by show(bb s).size=_;simp
theorem zGi{t:Bs}{b:BlobS}{k:Nat}(h:zAk 4 t=.ok (b,k)):k≤t.length∧b.data.length≤t.length:=by
 obtain⟨g1,g2⟩:=(zA3 4 dD dD).ok t 0 b k (Nat.zero_le _) (by rw[List.drop_zero];exact h);have g3:=(zBr ⟨t,0,0⟩ 4).2;have g4:((⟨t,0,0⟩:InS).fixed 4).1=b:=congrArg Prod.fst g2;rw[g4]at g3;exact⟨oM,g3⟩
variable {W0 w:World}{K:Know}{L:List Res}
theorem zQl(s:Bs)(hl:s.length<4)(h:St W0 w K L):
 Calls Tryz.prog 56 #[.string (bb s)] w fun en w'=>en=.returned (.tuple #[.agg #[.int .i64 0,.slice none 0 0],.int .i64 0,.int .i64 1])∧St W0 w' K L:=by
 obtain⟨rb,hrb⟩:∃b,w.heap.size=b:=⟨_,rfl⟩;obtain⟨nb,hnb⟩:∃b,rb+1=b:=⟨_,rfl⟩;have g1:=(h.allocRaw #[.int .i64 0,.slice none 0 0] 85).allocRaw #[.int .i64 0,.slice none 0 0] 85;simp only[World.size_alloc,hrb,hnb]at g1;obtain⟨c0,c1⟩:=uR2 g1;simp at c0 c1;obtain⟨q0,q1⟩:=uS2 g1.p1;obtain⟨v0,v1⟩:=uR2 g1.p1;simp at v0 v1;have H:=hQd g1;clear h g1;have hl1:(s.length:Int)<4:=by omega
 go_enter Tryz.func56,Tryz.ntmps56;go_wp2;have hz:St W0 _ _ (.raw rb #[.int .i64 0,.slice none 0 0] 85::_):=((H.out.p1.rawSet 0 (.int .i64 0)).rawSet 1 (.slice none 0 0));refine bodyPost_ret (rcT3 rfl _ _ rb [.int .i64 0,.slice none 0 0] _ rfl (zAr hz) Tryz.underlying85 rfl (by kernel_rfl)) rfl ?_;exact⟨rfl,hz.drop.drop⟩
theorem zQk(s:Bs)(hs:s.length≤1000000)(hl:¬s.length<4)(e:Int)(h0:e≠0)(hv:zAk 4 (s.drop 4)=.error e)(h:St W0 w K L):
 Calls Tryz.prog 56 #[.string (bb s)] w fun en w'=>en=.returned (.tuple #[.agg #[.int .i64 0,.slice none 0 0],.int .i64 0,.int .i64 e])∧St W0 w' K L:=by
 obtain⟨rb,hrb⟩:∃b,w.heap.size=b:=⟨_,rfl⟩;obtain⟨nb,hnb⟩:∃b,rb+1=b:=⟨_,rfl⟩;have g1:=(h.allocRaw #[.int .i64 0,.slice none 0 0] 85).allocRaw #[.int .i64 0,.slice none 0 0] 85;simp only[World.size_alloc,hrb,hnb]at g1;obtain⟨c0,c1⟩:=uR2 g1;simp at c0 c1;obtain⟨q0,q1⟩:=uS2 g1.p1;obtain⟨v0,v1⟩:=uR2 g1.p1;simp at v0 v1;have H:=hQd g1;clear h g1;have hl1:¬(s.length:Int)<4:=by omega
 have hl2:4≤(s.length:Int):=by omega
 have hsl:(s.length:Int)≤1000000:=by omega
 obtain⟨idx,hidx⟩:∃a,sInt (s.take 4)=a:=⟨_,rfl⟩;have HA:=hQd hidx;have H8:=hQd (show(s.take 4).length≤8 by rw[List.length_take];omega);have HTE:=hQd (zCx s 4);have HX:=hQd (show(s.drop 4).length≤140737488355328 by rw[List.length_drop];omega);have HV:=hQd hv;have e1:(e==0)=false:=by rw[beq_eq_false_iff_ne];exact h0
 have e2:(e !=0)=true:=by simp[bne,e1]
 clear hs hl h0 hv hidx;go_enter Tryz.func56,Tryz.ntmps56
 go_wp2_with (first
  |(go_at_call 54;clear c0 c1 v0 v1 q0 q1;(with_reducible refine(zBQ _ (s.take 4) (by first|rfl|simp) idx HA.out H8.out H.out).mono ?_);rintro e_ wn ⟨rfl,h⟩;obtain⟨pb,hpb⟩:∃b,wn.heap.size=b:=⟨_,rfl⟩;have h:=h.allocRaw #[.int .i64 idx,.slice none 0 0] 85;rw[hpb]at h;replace H:=hQd h;clear h)
  |(go_at_call 53;(with_reducible refine(zIz _ (s.drop 4) e HTE.out HX.out HV.out H.out).mono ?_);rintro e_ wn ⟨rfl,h⟩;obtain⟨fb,hfb⟩:∃b,wn.heap.size=b:=⟨_,rfl⟩;have h:=h.allocRaw #[.bool false,.string ⟨#[]⟩,.int .i64 0,.int .i64 e] 102;rw[hfb]at h;obtain⟨x0,x1,x2,x3⟩:=uR4 h;simp at x0 x1 x2 x3;obtain⟨c0,c1⟩:=uR2 h.p2;simp at c0 c1;obtain⟨q0,q1⟩:=uS2 h.p3;obtain⟨v0,v1⟩:=uR2 h.p3;simp at v0 v1;replace H:=hQd h;clear h))
 have HKP:=hQd (show ∀(w':World) (c:Array Value),St W0 w' K (.raw rb c 85::.raw fb #[.bool false,.string ⟨#[]⟩,.int .i64 0,.int .i64 e] 102::.raw pb #[.int .i64 idx,.slice none 0 0] 85::.raw nb #[.int .i64 0,.slice none 0 0] 85::L)→(w'.cell? ⟨nb,0,none⟩=some (.int .i64 0)∧w'.cell? ⟨nb,1,none⟩=some (.slice none 0 0)∧w'.cell? ⟨fb,3,none⟩=some (.int .i64 e))from fun w' c hs=>by
  obtain⟨a0,a1⟩:=uR2 hs.p3;have a3:=hs.p1.rawCell 3;simp at a0 a1 a3
  exact⟨a0,a1,a3⟩)
 have hs:=H.out.p3.drew;refine wp_region_held_drew (S:=fun w'=>w'.cell? ⟨nb,0,none⟩=some (.int .i64 0)∧w'.cell? ⟨nb,1,none⟩=some (.slice none 0 0)∧w'.cell? ⟨fb,3,none⟩=some (.int .i64 e)) (by kernel_rfl) (HKP.out _ _ hs) (fun hHeld=> ?_);refine tR 0 ?_;refine tR 1 ?_;refine tR 2 ?_;refine wR [3] (rC rfl (fun KK hK=> ?_) rN);rw[if_pos (by rfl)];refine wp_store_mid 85 (.tmp 2) (.tmp 25) rfl rb 0 #[.int .i64 0,.slice none 0 0] (by rfl) (by rfl) hs.there (by kernel_rfl) (by simp[Value.oneCell']) ?_;obtain⟨wz,ez,hs⟩:=hs.storeEx #[.int .i64 0,.slice none 0 0];rw[ez];clear ez;refine hK.out _ _ (HKP.out _ _ hs) (fun hHeld=> ?_);clear hK KK
 try simp only[Act.put]
 refine tR 4 ?_;refine tR 5 ?_;refine wpAnyH_done (by kernel_rfl) ?_ _;clear hHeld;rw[zBs]at hs;rotate_left
 ·rfl
 have hz:St W0 _ _ (.raw rb #[.int .i64 0,.slice none 0 0] 85::_):=hs;go_wp2_with fail;refine bodyPost_ret (rcT3 rfl _ _ rb [.int .i64 0,.slice none 0 0] _ rfl (zAr hz) Tryz.underlying85 rfl (by kernel_rfl)) rfl ?_;exact⟨rfl,hz.drop.drop.drop.drop⟩
theorem zQj(s:Bs)(hs:s.length≤1000000)(hl:¬s.length<4)(d:Bs)(k:Nat)(hv:zAk 4 (s.drop 4)=.ok (⟨true,d⟩,k))(h:St W0 w K L):
 Calls Tryz.prog 56 #[.string (bb s)] w fun en w'=>en=.returned (.tuple #[.agg #[.int .i64 0,.slice none 0 0],.int .i64 0,.int .i64 4])∧St W0 w' K L:=by
 obtain⟨rb,hrb⟩:∃b,w.heap.size=b:=⟨_,rfl⟩;obtain⟨nb,hnb⟩:∃b,rb+1=b:=⟨_,rfl⟩;have g1:=(h.allocRaw #[.int .i64 0,.slice none 0 0] 85).allocRaw #[.int .i64 0,.slice none 0 0] 85;simp only[World.size_alloc,hrb,hnb]at g1;obtain⟨c0,c1⟩:=uR2 g1;simp at c0 c1;obtain⟨q0,q1⟩:=uS2 g1.p1;obtain⟨v0,v1⟩:=uR2 g1.p1;simp at v0 v1;have H:=hQd g1;clear h g1;have hl1:¬(s.length:Int)<4:=by omega
 have hl2:4≤(s.length:Int):=by omega
 have hsl:(s.length:Int)≤1000000:=by omega
 obtain⟨idx,hidx⟩:∃a,sInt (s.take 4)=a:=⟨_,rfl⟩;have HA:=hQd hidx;have H8:=hQd (show(s.take 4).length≤8 by rw[List.length_take];omega);have HTE:=hQd (zCx s 4);have HX:=hQd (show(s.drop 4).length≤140737488355328 by rw[List.length_drop];omega);have HV:=hQd hv;clear hs hl hv hidx;go_enter Tryz.func56,Tryz.ntmps56
 go_wp2_with (first
  |(go_at_call 54;clear c0 c1 v0 v1 q0 q1;(with_reducible refine(zBQ _ (s.take 4) (by first|rfl|simp) idx HA.out H8.out H.out).mono ?_);rintro e_ wn ⟨rfl,h⟩;obtain⟨pb,hpb⟩:∃b,wn.heap.size=b:=⟨_,rfl⟩;have h:=h.allocRaw #[.int .i64 idx,.slice none 0 0] 85;rw[hpb]at h;replace H:=hQd h;clear h)
  |(go_at_call 53;(with_reducible refine(zDt _ (s.drop 4) true d k HTE.out HX.out HV.out H.out).mono ?_);rintro e_ wn ⟨rfl,h⟩;obtain⟨fb,hfb⟩:∃b,wn.heap.size=b:=⟨_,rfl⟩;have h:=h.allocRaw #[.bool true,.string (bb d),.int .i64 k,.int .i64 0] 102;rw[hfb]at h;obtain⟨x0,x1,x2,x3⟩:=uR4 h;simp at x0 x1 x2 x3;obtain⟨c0,c1⟩:=uR2 h.p2;simp at c0 c1;obtain⟨q0,q1⟩:=uS2 h.p3;obtain⟨v0,v1⟩:=uR2 h.p3;simp at v0 v1;replace H:=hQd h;clear h))
 have hz:St W0 _ _ (.raw rb #[.int .i64 0,.slice none 0 0] 85::_):=((H.out.p3.rawSet 0 (.int .i64 0)).rawSet 1 (.slice none 0 0));refine bodyPost_ret (rcT3 rfl _ _ rb [.int .i64 0,.slice none 0 0] _ rfl (zAr hz) Tryz.underlying85 rfl (by kernel_rfl)) rfl ?_;exact⟨rfl,hz.drop.drop.drop.drop⟩
variable {W0 w:World}{K:Know}{L:List Res}
theorem zq15{p:Prop}(h:p:=by
  refine⟨pos+n2,n+1,.slice qv (n+1) cv,acc++[⟨b,lx,qx,cx⟩],K2.and (Know.recs (.slice qx lx.length cx) lx),by have:=HNL2.out;have:=HRL.out;omega,by rw[HTER.out,←HRD.out,List.drop_drop],hQd (by have:=HNP.out;have:=HN61.out;omega),hQd (by rw[List.length_append,←HN.out];rfl),hQd (HP2.out _ _ _),hQd (Know.has_trans (Know.has_left (Know.has_refl _)) HKK.out),hQd (fun x hx=>by
   rcases List.mem_append.1 hx with hx|hx
   · exact Know.has_left (HREC.out x hx)
   · rw[List.mem_singleton.1 hx];exact Know.has_right (Know.has_refl _)),hQd (fun x hx=>by
   rcases List.mem_append.1 hx with hx|hx
   · exact HMP.out x hx
   · rw[List.mem_singleton.1 hx];exact HLX.out),?_⟩
  rw[List.flatMap_append];exact((H.out.p2.rawSet 1 (.slice qv (n+1) cv)).p2.drop).p1):p:=h
theorem zq34{p:Prop}(h:p:=by refine⟨0,0,.slice none 0 0,[],K,Nat.zero_le _,rfl,hQd oM,hQd rfl,hQd (by rw[List.drop_zero];exact zMJ _),hQd (Know.has_refl _),hQd (fun x hx=>by cases hx),hQd (fun x hx=>by cases hx),?_⟩;exact(H.out.p1.nilRow 58 12)):p:=h
theorem zQi(s:Bs)(hs:s.length≤1000000)(hl:¬s.length<4)(d:Bs)(k:Nat)(hv:zAk 4 (s.drop 4)=.ok (⟨false,d⟩,k))(e:Int)(hb:zBk d=.error e)(h:St W0 w K L):
  Calls Tryz.prog 56 #[.string (bb s)] w fun en w'=>en=.returned (.tuple #[.agg #[.int .i64 0,.slice none 0 0],.int .i64 0,.int .i64 e])∧St W0 w' K L:=by
 obtain⟨rb,hrb⟩:∃b,w.heap.size=b:=⟨_,rfl⟩;obtain⟨nb,hnb⟩:∃b,rb+1=b:=⟨_,rfl⟩;have g1:=(h.allocRaw #[.int .i64 0,.slice none 0 0] 85).allocRaw #[.int .i64 0,.slice none 0 0] 85;simp only[World.size_alloc,hrb,hnb]at g1;obtain⟨c0,c1⟩:=uR2 g1;simp at c0 c1;obtain⟨q0,q1⟩:=uS2 g1.p1;obtain⟨v0,v1⟩:=uR2 g1.p1;simp at v0 v1;have H:=hQd g1;clear h g1;have hl1:¬(s.length:Int)<4:=by omega
 have hl2:4≤(s.length:Int):=by omega
 have hsl:(s.length:Int)≤1000000:=by omega
 obtain⟨idx,hidx⟩:∃a,sInt (s.take 4)=a:=⟨_,rfl⟩;have HA:=hQd hidx;have H8:=hQd (show(s.take 4).length≤8 by rw[List.length_take];omega);have HTE:=hQd (zCx s 4);have HX:=hQd (show(s.drop 4).length≤140737488355328 by rw[List.length_drop];omega);have HV:=hQd hv;have HB:=hQd hb;obtain⟨hk1,hk2⟩:=zGi hv;rw[List.length_drop]at hk1 hk2;have hk2:d.length≤s.length - 4:=hk2;have HDN:=hQd (show d.length≤1000000 by omega);have hki:(k:Int)≤1000000:=by omega
 have hki0:0≤(k:Int):=by omega
 have HW17:=hQd hidx;have hw:IntKind.i64.wrap (4+(k:Int))=4+(k:Int):=by rw[IntKind.wrap_i64];omega
 clear hs hl hv hidx hb hk1 hk2;go_enter Tryz.func56,Tryz.ntmps56
 go_wp2_with (first
  |(go_at_call 54;clear c0 c1 v0 v1 q0 q1;(with_reducible refine(zBQ _ (s.take 4) (by first|rfl|simp) idx HA.out H8.out H.out).mono ?_);rintro e_ wn ⟨rfl,h⟩;obtain⟨pb,hpb⟩:∃b,wn.heap.size=b:=⟨_,rfl⟩;have h:=h.allocRaw #[.int .i64 idx,.slice none 0 0] 85;rw[hpb]at h;replace H:=hQd h;clear h)
  |(go_at_call 53;(with_reducible refine(zDt _ (s.drop 4) false d k HTE.out HX.out HV.out H.out).mono ?_);rintro e_ wn ⟨rfl,h⟩;obtain⟨fb,hfb⟩:∃b,wn.heap.size=b:=⟨_,rfl⟩;have h:=h.allocRaw #[.bool false,.string (bb d),.int .i64 k,.int .i64 0] 102;rw[hfb]at h;obtain⟨x0,x1,x2,x3⟩:=uR4 h;simp at x0 x1 x2 x3;obtain⟨c0,c1⟩:=uR2 h.p2;simp at c0 c1;obtain⟨q0,q1⟩:=uS2 h.p3;obtain⟨v0,v1⟩:=uR2 h.p3;simp at v0 v1;replace H:=hQd h;clear h))
 go_loopw [8] (fun sv wr=>∃(pos n:Nat) (v:Value) (acc:List BatR) (K2:Know),pos≤d.length∧sv=.string (bb (d.drop pos))∧Hid (61*n≤pos)∧Hid (n=acc.length)∧Hid (preB (acc.map BatR.b) (zBk (d.drop pos))=zBk d)∧Hid (K2.has K)∧Hid (∀x∈acc,K2.has (Know.recs (.slice x.q x.l.length x.cap) x.l))∧Hid (∀x∈acc,x.l.map (·.1)=x.b.recs)∧St W0 wr K2 (.row v 58 12 n (acc.flatMap zDf)::.raw pb #[.int .i64 idx,v] 85::.raw fb #[.bool false,.string (bb d),.int .i64 k,.int .i64 0] 102::.raw nb #[.int .i64 0,.slice none 0 0] 85::.raw rb #[.int .i64 0,.slice none 0 0] 85::L)) (fun sv _=>strN sv)
 case atStart=>
  exact zq34
 case round=>
  obtain⟨pos,n,v,acc,K2,hpos,rfl,HNP,HN,HPRE,HKK,HREC,HMP,hst⟩:=hrel;clear H;obtain⟨qv0,cv0,hv0⟩:=hst.rowAny;subst hv0;have H:=hQd hst;clear hst;have hpre:=HPRE.out;have hb9:=HB.out;have HPS:=hQd hpos
  by_cases hz:pos=d.length
  · have hR:d.drop pos=[]:=List.drop_of_length_le oM;rw[hR,zC7]at hpre;rw[hR];clear hR hz hpos
    try as_aux_lemma=>
     exfalso
     have h9:Except.ok (acc.map BatR.b++[])=(Except.error e:Except Int (List BatS)):=hpre.trans hb9
     cases h9
  · obtain⟨R,hR⟩:∃R,d.drop pos=R:=⟨_,rfl⟩;have HRD:=hQd hR;have hRl:R.length=d.length - pos:=by rw[←hR,List.length_drop]
    have HR0:=hQd (show R≠[] by intro hh;rw[hh,List.length_nil]at hRl;omega);have k1:(R==[])=false:=by cases R with|nil=>exact absurd rfl HR0.out|cons _ _=>rfl
    have k2:(R !=[])=true:=by simp[bne,k1]
    have k3:¬R=[]:=HR0.out;have HRN:=hQd (show R.length≤1000000 by have:=HDN.out;omega);have HRL:=hQd hRl;rw[hR]at hpre ⊢;have hrli:(R.length:Int)≤1000000:=by have:=HRN.out;omega
    clear hR hRl
    cases hrb:zBd R with
    |error er=>
      obtain rfl:er=e:=by
       have h9:(Except.error er:Except Int (List BatS))=.error e:=by rw[←hb9,←hpre,zHr HR0.out hrb];rfl
       injection h9
      have e1:(er==0)=false:=by rw[beq_eq_false_iff_ne];exact zFU hrb
      have e2:(er !=0)=true:=by simp[bne,e1]
      have HRB:=hQd hrb;clear hpre hb9 hrb;go_wp2_with (go_at_call 87;(with_reducible refine(zLs R HRN.out er HRB.out H.out).mono ?_);rintro e_ wn ⟨rfl,h⟩;obtain⟨xb,hxb⟩:∃b,wn.heap.size=b:=⟨_,rfl⟩;have h:=h.allocRaw #[.int .i64 0,.int .i64 0,.bool false,.bool false,.bool false,.int .i64 0,.int .i64 0,.int .i64 0,.int .i64 0,.int .i64 0,.int .i64 0,.slice none 0 0,.int .i64 0,.int .i64 er] 149;rw[hxb]at h;have x13:=h.rawCell 13;simp at x13;obtain⟨c0,c1⟩:=uR2 h.p4;simp at c0 c1;obtain⟨q0,q1⟩:=uS2 h.p5;obtain⟨v0,v1⟩:=uR2 h.p5;simp at v0 v1;replace H:=hQd h;clear h)
      have HKP:=hQd (show ∀(w':World) (c:Array Value),St W0 w' K2 (.raw rb c 85::.raw xb #[.int .i64 0,.int .i64 0,.bool false,.bool false,.bool false,.int .i64 0,.int .i64 0,.int .i64 0,.int .i64 0,.int .i64 0,.int .i64 0,.slice none 0 0,.int .i64 0,.int .i64 er] 149::.row (.slice qv0 n cv0) 58 12 n (acc.flatMap zDf)::.raw pb #[.int .i64 idx,(.slice qv0 n cv0)] 85::.raw fb #[.bool false,.string (bb d),.int .i64 k,.int .i64 0] 102::.raw nb #[.int .i64 0,.slice none 0 0] 85::L)→(w'.cell? ⟨nb,0,none⟩=some (.int .i64 0)∧w'.cell? ⟨nb,1,none⟩=some (.slice none 0 0)∧w'.cell? ⟨xb,13,none⟩=some (.int .i64 er))from fun w' c hs=>by
       obtain⟨a0,a1⟩:=uR2 hs.p5;have a2:=hs.p1.rawCell 13;simp at a0 a1 a2
       exact⟨a0,a1,a2⟩)
      have hs:=H.out.p5.drew;refine wp_region_held_drew (S:=fun w'=>w'.cell? ⟨nb,0,none⟩=some (.int .i64 0)∧w'.cell? ⟨nb,1,none⟩=some (.slice none 0 0)∧w'.cell? ⟨xb,13,none⟩=some (.int .i64 er)) (by kernel_rfl) (HKP.out _ _ hs) (fun hHeld=> ?_);refine tR 0 ?_;refine tR 1 ?_;refine tR 2 ?_;refine wR [3] (rC rfl (fun KK hK=> ?_) rN);rw[if_pos (by rfl)];refine wp_store_mid 85 (.tmp 2) (.tmp 42) rfl rb 0 #[.int .i64 0,.slice none 0 0] (by rfl) (by rfl) hs.there (by kernel_rfl) (by simp[Value.oneCell']) ?_;obtain⟨wz,ez,hs⟩:=hs.storeEx #[.int .i64 0,.slice none 0 0];rw[ez];clear ez;refine hK.out _ _ (HKP.out _ _ hs) (fun hHeld=> ?_);clear hK KK
      try simp only[Act.put]
      refine tR 4 ?_;refine tR 5 ?_;refine wpAnyH_done (by kernel_rfl) ?_ _;clear hHeld;rw[zBs]at hs;rotate_left
      · rfl
      have hz:St W0 _ _ (.raw rb #[.int .i64 0,.slice none 0 0] 85::_):=hs;go_wp2_with fail;refine bodyPost_ret (rcT3 rfl _ _ rb [.int .i64 0,.slice none 0 0] _ rfl (zAr hz) Tryz.underlying85 rfl (by kernel_rfl)) rfl ?_;exact⟨rfl,(hz.drop.drop.drop.drop.drop.drop).know HKK.out⟩
    |ok y=>
     obtain⟨b,n2⟩:=y;obtain⟨xp,_,hn61,hnl,_⟩:=zBI hrb;have hnli:(n2:Int)≤(R.length:Int):=by omega
     have HRB:=hQd hrb;have HN61:=hQd (show 61≤n2 by omega);have HNL2:=hQd hnl;have HTER:=hQd (zCx R n2);have HNB:=hQd (show n≤1000000 by have:=HNP.out;have:=HDN.out;omega)
     have HP2:=hQd (show ∀(q2:Option Addr) (l2:List (RecS×Value)) (c2:Nat),preB ((acc++[(⟨b,l2,q2,c2⟩:BatR)]).map BatR.b) (zBk (d.drop (pos+n2)))=zBk d from fun q2 l2 c2=>by
      rw[List.map_append]
      show preB (acc.map BatR.b++[b]) _=_
      rw[zG0,←List.drop_drop,HRD.out,←zJh HR0.out hrb]
      exact hpre)
     clear hpre hb9 hrb hn61 hnl
     go_wp2_with (first
  |(go_at_call 87;(with_reducible refine(zGo R HRN.out b n2 HRB.out H.out).mono ?_);rintro e_ wn ⟨qx,lx,cx,rfl,hlx,h⟩;obtain⟨xb,hxb⟩:∃b,wn.heap.size=b:=⟨_,rfl⟩;have h:=h.allocRaw #[.int .i64 b.base,.int .i64 b.leader,.bool b.app,.bool b.txn,.bool b.ctl,.int .i64 b.last,.int .i64 b.first,.int .i64 b.maxt,.int .i64 b.prod,.int .i64 b.epoch,.int .i64 b.seq,.slice qx lx.length cx,.int .i64 n2,.int .i64 0] 149;rw[hxb]at h;have x0:=h.rawCell 0;have x1:=h.rawCell 1;have x2:=h.rawCell 2;have x3:=h.rawCell 3;have x4:=h.rawCell 4;have x5:=h.rawCell 5;have x6:=h.rawCell 6;have x7:=h.rawCell 7;have x8:=h.rawCell 8;have x9:=h.rawCell 9;have x10:=h.rawCell 10;have x11:=h.rawCell 11;have x12:=h.rawCell 12;have x13:=h.rawCell 13;simp at x0 x1 x2 x3 x4 x5 x6 x7 x8 x9 x10 x11 x12 x13;have p1:=h.p2.rawCell 1;simp at p1;have HLX:=hQd hlx;clear hlx;replace H:=hQd h;clear h)
  | (at_builtin; refine zAw rfl _ _ 66 rfl 58 Tryz.underlying66 zEA _ _ _ rfl H.out.p1 [.int .i64 b.base, .int .i64 b.leader, .bool b.app, .bool b.txn, .bool b.ctl, .int .i64 b.last, .int .i64 b.first, .int .i64 b.maxt, .int .i64 b.prod, .int .i64 b.epoch, .int .i64 b.seq, .slice qx lx.length cx] 58 zq63 rfl (by simp [Value.oneCell']) (by have := HNB.out; unfold maxLen; omega) (by have := HNB.out; omega) ?_; intro v' w' h; obtain ⟨qv, cv, hv⟩ := h.rowAny; subst hv; have q1 := h.p2.rawFree 1; have q2 := h.p2.rawCell 1; have x12 := h.p1.rawCell 12; simp at q2 x12; replace H := hQd h; clear h))
     go_roundw
     case rel=>
      exact zq15
     case measure=>
      rw[HTER.out,zIn,zIn,List.length_drop];have:=HNL2.out;have:=HN61.out
      omega
theorem zQh(s:Bs)(hs:s.length≤1000000)(hl:¬s.length<4)(d:Bs)(k:Nat)(hv:zAk 4 (s.drop 4)=.ok (⟨false,d⟩,k))(l:List BatS)(hb:zBk d=.ok l)(h:St W0 w K L):
  Calls Tryz.prog 56 #[.string (bb s)] w fun en w'=>∃(q:Option Addr) (cap:Nat) (lr:List BatR) (K2:Know),en=.returned (.tuple #[.agg #[.int .i64 (sInt (s.take 4)),.slice q lr.length cap],.int .i64 (4+k),.int .i64 0])∧lr.map BatR.b=l∧(∀x∈lr,x.l.map (·.1)=x.b.recs)∧K2.has K∧K2.has (Know.bats (.slice q lr.length cap) lr)∧St W0 w' K2 L:=by
 obtain⟨rb,hrb⟩:∃b,w.heap.size=b:=⟨_,rfl⟩;obtain⟨nb,hnb⟩:∃b,rb+1=b:=⟨_,rfl⟩;have g1:=(h.allocRaw #[.int .i64 0,.slice none 0 0] 85).allocRaw #[.int .i64 0,.slice none 0 0] 85;simp only[World.size_alloc,hrb,hnb]at g1;obtain⟨c0,c1⟩:=uR2 g1;simp at c0 c1;obtain⟨q0,q1⟩:=uS2 g1.p1;obtain⟨v0,v1⟩:=uR2 g1.p1;simp at v0 v1;have H:=hQd g1;clear h g1;have hl1:¬(s.length:Int)<4:=by omega
 have hl2:4≤(s.length:Int):=by omega
 have hsl:(s.length:Int)≤1000000:=by omega
 obtain⟨idx,hidx⟩:∃a,sInt (s.take 4)=a:=⟨_,rfl⟩;have HA:=hQd hidx;have H8:=hQd (show(s.take 4).length≤8 by rw[List.length_take];omega);have HTE:=hQd (zCx s 4);have HX:=hQd (show(s.drop 4).length≤140737488355328 by rw[List.length_drop];omega);have HV:=hQd hv;have HB:=hQd hb;obtain⟨hk1,hk2⟩:=zGi hv;rw[List.length_drop]at hk1 hk2;have hk2:d.length≤s.length - 4:=hk2;have HDN:=hQd (show d.length≤1000000 by omega);have hki:(k:Int)≤1000000:=by omega
 have hki0:0≤(k:Int):=by omega
 have HW17:=hQd hidx;have hw:IntKind.i64.wrap (4+(k:Int))=4+(k:Int):=by rw[IntKind.wrap_i64];omega
 clear hs hl hv hidx hb hk1 hk2;go_enter Tryz.func56,Tryz.ntmps56
 go_wp2_with (first
  |(go_at_call 54;clear c0 c1 v0 v1 q0 q1;(with_reducible refine(zBQ _ (s.take 4) (by first|rfl|simp) idx HA.out H8.out H.out).mono ?_);rintro e_ wn ⟨rfl,h⟩;obtain⟨pb,hpb⟩:∃b,wn.heap.size=b:=⟨_,rfl⟩;have h:=h.allocRaw #[.int .i64 idx,.slice none 0 0] 85;rw[hpb]at h;replace H:=hQd h;clear h)
  |(go_at_call 53;(with_reducible refine(zDt _ (s.drop 4) false d k HTE.out HX.out HV.out H.out).mono ?_);rintro e_ wn ⟨rfl,h⟩;obtain⟨fb,hfb⟩:∃b,wn.heap.size=b:=⟨_,rfl⟩;have h:=h.allocRaw #[.bool false,.string (bb d),.int .i64 k,.int .i64 0] 102;rw[hfb]at h;obtain⟨x0,x1,x2,x3⟩:=uR4 h;simp at x0 x1 x2 x3;obtain⟨c0,c1⟩:=uR2 h.p2;simp at c0 c1;obtain⟨q0,q1⟩:=uS2 h.p3;obtain⟨v0,v1⟩:=uR2 h.p3;simp at v0 v1;replace H:=hQd h;clear h))
 go_loopw [8] (fun sv wr=>∃(pos n:Nat) (v:Value) (acc:List BatR) (K2:Know),pos≤d.length∧sv=.string (bb (d.drop pos))∧Hid (61*n≤pos)∧Hid (n=acc.length)∧Hid (preB (acc.map BatR.b) (zBk (d.drop pos))=zBk d)∧Hid (K2.has K)∧Hid (∀x∈acc,K2.has (Know.recs (.slice x.q x.l.length x.cap) x.l))∧Hid (∀x∈acc,x.l.map (·.1)=x.b.recs)∧St W0 wr K2 (.row v 58 12 n (acc.flatMap zDf)::.raw pb #[.int .i64 idx,v] 85::.raw fb #[.bool false,.string (bb d),.int .i64 k,.int .i64 0] 102::.raw nb #[.int .i64 0,.slice none 0 0] 85::.raw rb #[.int .i64 0,.slice none 0 0] 85::L)) (fun sv _=>strN sv)
 case atStart=>
  exact zq34
 case round=>
  obtain⟨pos,n,v,acc,K2,hpos,rfl,HNP,HN,HPRE,HKK,HREC,HMP,hst⟩:=hrel;clear H;obtain⟨qv0,cv0,hv0⟩:=hst.rowAny;subst hv0;have H:=hQd hst;clear hst;have hpre:=HPRE.out;have hb9:=HB.out;have HPS:=hQd hpos
  by_cases hz:pos=d.length
  · have hR:d.drop pos=[]:=List.drop_of_length_le oM;rw[hR,zC7]at hpre;rw[hR];clear hR hz hpos
    try as_aux_lemma=>
     have HBL:=hQd (show acc.map BatR.b=l by
      have h9:Except.ok (acc.map BatR.b++[])=(Except.ok l:Except Int (List BatS)):=hpre.trans hb9;injection h9 with h9
      rwa [List.append_nil]at h9)
     clear hpre hb9;go_wp2_with fail
     have HKP:=hQd (show ∀(w':World) (c:Array Value),St W0 w' K2 (.raw rb c 85::.row (.slice qv0 n cv0) 58 12 n (acc.flatMap zDf)::.raw pb #[.int .i64 idx,(.slice qv0 n cv0)] 85::.raw fb #[.bool false,.string (bb d),.int .i64 k,.int .i64 0] 102::.raw nb #[.int .i64 0,.slice none 0 0] 85::L)→(w'.cell? ⟨pb,0,none⟩=some (.int .i64 idx)∧w'.cell? ⟨pb,1,none⟩=some (.slice qv0 n cv0)∧w'.cell? ⟨fb,2,none⟩=some (.int .i64 k))from fun w' c hs=>by
      obtain⟨a0,a1⟩:=uR2 hs.p2;have a2:=hs.p3.rawCell 2;simp at a0 a1 a2
      exact⟨a0,a1,a2⟩)
     have hs:=H.out.p4.drew;refine wp_region_held_drew (S:=fun w'=>w'.cell? ⟨pb,0,none⟩=some (.int .i64 idx)∧w'.cell? ⟨pb,1,none⟩=some (.slice qv0 n cv0)∧w'.cell? ⟨fb,2,none⟩=some (.int .i64 k)) (by kernel_rfl) (HKP.out _ _ hs) (fun hHeld=> ?_);refine tR 0 ?_;refine tR 1 ?_;refine tR 2 ?_;refine tR 3 ?_;refine wR [4] (rC rfl (fun KK hK=> ?_) rN);rw[if_pos (by rfl)];refine wp_store_mid 85 (.tmp 2) (.tmp 56) rfl rb 0 #[.int .i64 idx,.slice qv0 n cv0] (by rfl) (by rfl) hs.there (by kernel_rfl) (by simp[Value.oneCell']) ?_;obtain⟨wz,ez,hs⟩:=hs.storeEx #[.int .i64 idx,.slice qv0 n cv0];rw[ez];clear ez;refine hK.out _ _ (HKP.out _ _ hs) (fun hHeld=> ?_);clear hK KK
     try simp only[Act.put]
     refine tR 5 ?_;refine tR 6 ?_;refine wpAnyH_done (by kernel_rfl) ?_ _;clear hHeld;rw[zBs]at hs;rotate_left
     · rfl
     have hz:St W0 _ _ (.raw rb #[.int .i64 idx,.slice qv0 n cv0] 85::_):=hs;go_wp2_with fail;refine bodyPost_ret (rcT3 rfl _ _ rb [.int .i64 idx,.slice qv0 n cv0] _ rfl (zAr hz) Tryz.underlying85 rfl (by kernel_rfl)) rfl ?_;have hr:=hz.drop;have hn:=HN.out;subst hn;have hf:=hr.freezeBatsP HREC.out;exact⟨qv0,cv0,acc,_,by rw[HW17.out];rfl,HBL.out,HMP.out,Know.has_trans (Know.has_left (Know.has_refl _)) HKK.out,Know.has_right (Know.has_refl _),hf.drop.drop.drop⟩
  · obtain⟨R,hR⟩:∃R,d.drop pos=R:=⟨_,rfl⟩;have HRD:=hQd hR;have hRl:R.length=d.length - pos:=by rw[←hR,List.length_drop]
    have HR0:=hQd (show R≠[] by intro hh;rw[hh,List.length_nil]at hRl;omega);have k1:(R==[])=false:=by cases R with|nil=>exact absurd rfl HR0.out|cons _ _=>rfl
    have k2:(R !=[])=true:=by simp[bne,k1]
    have k3:¬R=[]:=HR0.out;have HRN:=hQd (show R.length≤1000000 by have:=HDN.out;omega);have HRL:=hQd hRl;rw[hR]at hpre ⊢;have hrli:(R.length:Int)≤1000000:=by have:=HRN.out;omega
    clear hR hRl
    cases hrb:zBd R with
    |error er=>
      exfalso
      have h9:(Except.error er:Except Int (List BatS))=.ok l:=by rw[←hb9,←hpre,zHr HR0.out hrb];rfl
      cases h9
    |ok y=>
     obtain⟨b,n2⟩:=y;obtain⟨xp,_,hn61,hnl,_⟩:=zBI hrb;have hnli:(n2:Int)≤(R.length:Int):=by omega
     have HRB:=hQd hrb;have HN61:=hQd (show 61≤n2 by omega);have HNL2:=hQd hnl;have HTER:=hQd (zCx R n2);have HNB:=hQd (show n≤1000000 by have:=HNP.out;have:=HDN.out;omega)
     have HP2:=hQd (show ∀(q2:Option Addr) (l2:List (RecS×Value)) (c2:Nat),preB ((acc++[(⟨b,l2,q2,c2⟩:BatR)]).map BatR.b) (zBk (d.drop (pos+n2)))=zBk d from fun q2 l2 c2=>by
      rw[List.map_append]
      show preB (acc.map BatR.b++[b]) _=_
      rw[zG0,←List.drop_drop,HRD.out,←zJh HR0.out hrb]
      exact hpre)
     clear hpre hb9 hrb hn61 hnl
     go_wp2_with (first
  |(go_at_call 87;(with_reducible refine(zGo R HRN.out b n2 HRB.out H.out).mono ?_);rintro e_ wn ⟨qx,lx,cx,rfl,hlx,h⟩;obtain⟨xb,hxb⟩:∃b,wn.heap.size=b:=⟨_,rfl⟩;have h:=h.allocRaw #[.int .i64 b.base,.int .i64 b.leader,.bool b.app,.bool b.txn,.bool b.ctl,.int .i64 b.last,.int .i64 b.first,.int .i64 b.maxt,.int .i64 b.prod,.int .i64 b.epoch,.int .i64 b.seq,.slice qx lx.length cx,.int .i64 n2,.int .i64 0] 149;rw[hxb]at h;have x0:=h.rawCell 0;have x1:=h.rawCell 1;have x2:=h.rawCell 2;have x3:=h.rawCell 3;have x4:=h.rawCell 4;have x5:=h.rawCell 5;have x6:=h.rawCell 6;have x7:=h.rawCell 7;have x8:=h.rawCell 8;have x9:=h.rawCell 9;have x10:=h.rawCell 10;have x11:=h.rawCell 11;have x12:=h.rawCell 12;have x13:=h.rawCell 13;simp at x0 x1 x2 x3 x4 x5 x6 x7 x8 x9 x10 x11 x12 x13;have p1:=h.p2.rawCell 1;simp at p1;have HLX:=hQd hlx;clear hlx;replace H:=hQd h;clear h)
  | (at_builtin; refine zAw rfl _ _ 66 rfl 58 Tryz.underlying66 zEA _ _ _ rfl H.out.p1 [.int .i64 b.base, .int .i64 b.leader, .bool b.app, .bool b.txn, .bool b.ctl, .int .i64 b.last, .int .i64 b.first, .int .i64 b.maxt, .int .i64 b.prod, .int .i64 b.epoch, .int .i64 b.seq, .slice qx lx.length cx] 58 zq63 rfl (by simp [Value.oneCell']) (by have := HNB.out; unfold maxLen; omega) (by have := HNB.out; omega) ?_; intro v' w' h; obtain ⟨qv, cv, hv⟩ := h.rowAny; subst hv; have q1 := h.p2.rawFree 1; have q2 := h.p2.rawCell 1; have x12 := h.p1.rawCell 12; simp at q2 x12; replace H := hQd h; clear h))
     go_roundw
     case rel=>
      exact zq15
     case measure=>
      rw[HTER.out,zIn,zIn,List.length_drop];have:=HNL2.out;have:=HN61.out
      omega
theorem of20(nl:Bool)(dd:Bs)(ac tm:Int)(l:List PTop)(q:Option Addr)(cap:Nat)(hll:l.length≤3518437208780)(hf:∀x∈l,x.l.length≤4398046511104){W0 w:World}{K:Know}{L:List Res}(hk:K.has (Know.ptops (.slice q l.length cap) l))(h:St W0 w K L):
  Calls Tryz.prog 11 #[.agg #[.bool nl,.string (bb dd),.int .i64 ac,.int .i64 tm,.slice q l.length cap]] w fun en w'=>∃(q2:Option Addr) (cap2:Nat) (l2:List PTop) (K2:Know),en=.returned (.agg #[.bool nl,.string (bb dd),.int .i64 ac,.int .i64 tm,.slice q2 l2.length cap2])∧l2.map PTop.nl=l.map PTop.nl∧K2.has K∧K2.has (Know.ptops (.slice q2 l2.length cap2) l2)∧St W0 w' K2 L:=by
 obtain⟨rq,hrq⟩:∃b,w.heap.size=b:=⟨_,rfl⟩;obtain⟨rb,hrb⟩:∃b,rq+1=b:=⟨_,rfl⟩;obtain⟨xb,hxb⟩:∃b,rb+1=b:=⟨_,rfl⟩;have h0:=((h.allocRaw #[.bool nl,.string (bb dd),.int .i64 ac,.int .i64 tm,.slice q l.length cap] 26).allocRaw #[.bool false,.string ⟨#[]⟩,.int .i64 0,.int .i64 0,.slice none 0 0] 40).allocRaw #[.bool nl,.string (bb dd),.int .i64 ac,.int .i64 tm,.slice none 0 0] 40;simp only[World.size_alloc,hrq,hrb,hxb]at h0;obtain⟨a0,a1,a2,a3,a4⟩:=uR5 h0.p2;simp at a0 a1 a2 a3 a4;have g0:=((h.allocRaw #[.bool nl,.string (bb dd),.int .i64 ac,.int .i64 tm,.slice q l.length cap] 26).allocRaw #[.bool false,.string ⟨#[]⟩,.int .i64 0,.int .i64 0,.slice none 0 0] 40);simp only[World.size_alloc,hrq,hrb]at g0;obtain⟨b0,b1,b2,b3⟩:=uR4 g0.p1;simp at b0 b1 b2 b3;have H:=hQd h0;have HKT:=hQd hk;have HF:=hQd hf;have HLN:=hQd hll;have hni:(l.length:Int)≤3518437208780:=by omega
 clear h h0 g0 hk hf hll;go_enter Tryz.func11,Tryz.ntmps11;go_wp2;clear a0 a1 a2 a3 a4 b0 b1 b2 b3;go_loopw [19] (fun iv wr=>∃(k:Nat) (v:Value) (acc:List PTop) (K2:Know),k≤l.length∧iv=.int .i64 k∧Hid (k=acc.length)∧Hid (acc.map PTop.nl=(l.take k).map PTop.nl)∧Hid (K2.has K)∧Hid (∀x∈acc,K2.has (Know.pparts (.slice x.q x.l.length x.cap) x.l))∧St W0 wr K2 (.row v 83 2 k (acc.flatMap zCE)::.raw xb #[.bool nl,.string (bb dd),.int .i64 ac,.int .i64 tm,v] 40::.raw rb #[.bool false,.string ⟨#[]⟩,.int .i64 0,.int .i64 0,.slice none 0 0] 40::.raw rq #[.bool nl,.string (bb dd),.int .i64 ac,.int .i64 tm,.slice q l.length cap] 26::L)) (fun iv _=>l.length - (intOf iv).toNat)
 case atStart=>
  refine⟨0,.slice none 0 0,[],K,Nat.zero_le _,rfl,hQd rfl,hQd (by simp),hQd (Know.has_refl _),hQd (fun x hx=>by cases hx),?_⟩;exact(H.out.nilRow 83 2)
 case round=>
  obtain⟨k,v,acc,K2,hkl,rfl,HAL,HNL,HKK,HALL,hst⟩:=hrel;clear H;have H:=hQd hst;clear hst
  by_cases hlt:k<l.length
  · obtain⟨bk,off,hqq⟩:=zB9 (Know.has_trans HKK.out HKT.out) H.out oM;obtain⟨x,hx⟩:∃x,l[k]=x:=⟨_,rfl⟩;have hmem:x∈l:=hx ▸ List.getElem_mem hlt;have hfx:=HF.out x hmem;have HK':=(Know.has_trans HKK.out HKT.out);rw[hqq]at HK';obtain⟨c0,c1⟩:=zAZ HK' H.out k hlt x hx;have HXK0:=zA5 (Know.has_trans HKK.out HKT.out) hmem;have hkn:(k:Int)<(l.length:Int):=by omega
    have HX:=hQd hx;have HKN:=hQd (show k≤3518437208780 by have:=HLN.out;omega);obtain⟨nm,xl,xq,xcap⟩:=x;simp only at c0 c1 HXK0;have HXK:=hQd HXK0;have hxl:xl.length≤4398046511104:=hfx;have HXN:=hQd hxl;have hxi:(xl.length:Int)≤4398046511104:=by omega
    subst hqq;obtain⟨nb,hnb⟩:∃b,wr.heap.size=b:=⟨_,rfl⟩;obtain⟨tb,htb⟩:∃b,nb+1=b:=⟨_,rfl⟩;have h:=(H.out.allocRaw #[.string (bb nm),.slice xq xl.length xcap] 65).allocRaw #[.string (bb nm),.slice none 0 0] 83;simp only[World.size_alloc,hnb,htb]at h;have h1:=H.out.allocRaw #[.string (bb nm),.slice xq xl.length xcap] 65;simp only[World.size_alloc,hnb,htb]at h1;have e0:=h1.rawCell 0;have e1:=h.p1.rawCell 1;simp at e0 e1;clear H;have H:=hQd h;clear h h1;clear hx hmem hfx HK' HXK0 hxl;go_wp2_with fail;clear e0 e1 c0 c1;go_loopw [29] (fun jv wr=>∃(j:Nat) (v2:Value),j≤xl.length∧jv=.int .i64 j∧St W0 wr K2 (.row v2 85 2 j ((xl.take j).flatMap zG4)::.raw tb #[.string (bb nm),v2] 83::.row v 83 2 k (acc.flatMap zCE)::.raw xb #[.bool nl,.string (bb dd),.int .i64 ac,.int .i64 tm,v] 40::.raw rb #[.bool false,.string ⟨#[]⟩,.int .i64 0,.int .i64 0,.slice none 0 0] 40::.raw rq #[.bool nl,.string (bb dd),.int .i64 ac,.int .i64 tm,.slice (some ⟨bk,off,none⟩) l.length cap] 26::L)) (fun jv _=>xl.length - (intOf jv).toNat)
    case atStart=>exact⟨0,.slice none 0 0,Nat.zero_le _,rfl,(H.out.p1.drop.nilRow 85 2)⟩
    case round=>
     obtain⟨j,v2,hjl,rfl,hst⟩:=hrel;clear H;have H:=hQd hst;clear hst;obtain⟨qj,cj,hvj⟩:=H.out.rowAny;subst hvj
     by_cases hjt:j<xl.length
     · obtain⟨pk,poff,hpq⟩:=zBB HXK.out H.out oM;subst hpq;obtain⟨y,hy⟩:∃y,xl[j]=y:=⟨_,rfl⟩;obtain⟨d0,d1⟩:=zAW HXK.out H.out j hjt y hy;have hjn:(j:Int)<(xl.length:Int):=by omega
       have HY:=hQd hy;have HJN:=hQd (show j≤4398046511104 by have:=HXN.out;omega);obtain⟨yi,yl,yq,ycap⟩:=y;simp only at d0 d1;have h:=H.out.allocRaw #[.int .i64 yi,.slice yq yl.length ycap] 68;obtain⟨ub,hub⟩:∃b,wr.heap.size=b:=⟨_,rfl⟩;rw[hub]at h;obtain⟨f0,f1⟩:=uR2 h;have f2:=h.p2.rawCell 1;simp at f0 f1 f2;clear H;have H:=hQd h;clear h hy;go_wp2_with (at_builtin;refine zAw rfl _ _ 81 rfl 85 Tryz.underlying81 zKN _ _ _ rfl H.out.p1 [.int .i64 yi,.slice yq yl.length ycap] 85 (by first|rfl|(rw[World.size_alloc];rfl)|(rw[World.size_alloc,hub];rfl)) rfl (by simp[Value.oneCell']) (by have:=HJN.out;unfold maxLen;omega) (by have:=HJN.out;omega) ?_;intro v' w' h;obtain⟨qv,cv,hv⟩:=h.rowAny;subst hv;have q1:=h.p2.rawFree 1;have q2:=h.p2.rawCell 1;simp at q2;replace H:=hQd h;clear h);go_roundw
       case rel=>
        refine⟨j+1,.slice qv (j+1) cv,hjt,by go_num,?_⟩;rw[zOl zG4 xl j hjt _ HY.out];exact((H.out.p2.rawSet 1 (.slice qv (j+1) cv)).p1.p2.drop)
       case measure=>first|(simp[intOf];done)|(simp[intOf];omega)
     · obtain rfl:j=xl.length:=by omega
       have hr:=H.out;rw[List.take_length]at hr;have hf2:=hr.freezeParts (fun x hx=>zBp HXK.out hx);obtain⟨qa,ca,hva⟩:=hf2.p1.rowAny;subst hva;have HK3:=hQd (show(K2.and (Know.pparts (.slice qj xl.length cj) xl)).has (Know.pparts (.slice qj xl.length cj) xl)from Know.has_right (Know.has_refl _));obtain⟨e0,e1⟩:=uR2 hf2;have e4:=hf2.p2.rawCell 4;simp at e0 e1 e4;have hz:=hf2.p1;clear H;have H:=hQd hz;clear hr hf2 hz;go_wp2_with (at_builtin;refine zAw rfl _ _ 38 rfl 83 Tryz.underlying38 zKM _ _ _ rfl H.out [.string (bb nm),.slice qj xl.length cj] 83 (by first|rfl|(rw[World.size_alloc];rfl)|(rw[World.size_alloc,hub];rfl)) rfl (by simp[Value.oneCell']) zq64 (by have:=HKN.out;omega) ?_;intro v' w' h;obtain⟨qv,cv,hv⟩:=h.rowAny;subst hv;have q1:=h.p2.rawFree 4;have q2:=h.p2.rawCell 4;simp at q2;replace H:=hQd h;clear h);go_roundw
       case rel=>
        refine⟨k+1,.slice qv (k+1) cv,acc++[⟨nm,xl,qj,cj⟩],K2.and (Know.pparts (.slice qj xl.length cj) xl),hlt,by go_num,hQd (by rw[List.length_append,←HAL.out];rfl),hQd (by rw[List.take_succ_eq_append_getElem hlt,List.map_append,List.map_append,HNL.out,HX.out];rfl),hQd (Know.has_trans (Know.has_left (Know.has_refl _)) HKK.out),hQd (fun x hx=>by
         rcases List.mem_append.1 hx with hx|hx
         · exact Know.has_left (HALL.out x hx)
         · rw[List.mem_singleton.1 hx];exact HK3.out),?_⟩
        rw[List.flatMap_append];exact((H.out.p2.rawSet 4 (.slice qv (k+1) cv)).p2.drop).p1
       case measure=>first|(simp[intOf];done)|(simp[intOf];omega)
  · obtain rfl:k=l.length:=by omega
    obtain⟨qv0,cv0,hv0⟩:=H.out.rowAny;subst hv0;obtain⟨y0,y1,y2,y3,y4⟩:=uR5 H.out.p1;obtain⟨w0,w1,w2,w3,w4⟩:=uS5 H.out.p2;obtain⟨v0,v1,v2,v3,v4⟩:=uR5 H.out.p2;simp at y0 y1 y2 y3 y4 v0 v1 v2 v3 v4;go_wp2;have hz:St W0 _ _ (.raw rb #[.bool nl,.string (bb dd),.int .i64 ac,.int .i64 tm,.slice qv0 l.length cv0] 40::_):=St.sets5P _ _ _ _ _ H.out.p2;refine bodyPost_ret (zAy rfl _ _ rb [.bool nl,.string (bb dd),.int .i64 ac,.int .i64 tm,.slice qv0 l.length cv0] _ rfl (zAr hz) Tryz.underlying40 rfl (by kernel_rfl)) rfl ?_;have hr:=hz.drop;have hn:=HAL.out;have hf:=hr.freezeTopsK hn rfl (fun x hx=>HALL.out x hx);rw[hn]at hf ⊢;exact⟨qv0,cv0,acc,_,rfl,by rw[HNL.out,List.take_length],Know.has_trans (Know.has_left (Know.has_refl _)) HKK.out,Know.has_right (Know.has_refl _),hf.drop.drop⟩
variable {W0 w:World}{K:Know}{L:List Res}
theorem rd20_1(s:Bs)(ve:Int)(hs:s.length≤1000000)(e:Int)(h0:e≠0)(hv:zAk 2 s=.error e)(h:St W0 w K L):
 Calls Tryz.prog 19 #[.string (bb s),.int .i64 ve] w fun en w'=>en=.returned (.tuple #[.agg #[.bool false,.string ⟨#[]⟩,.int .i64 0,.int .i64 0,.slice none 0 0],.int .i64 0,.int .i64 e])∧St W0 w' K L:=by
 obtain⟨rb,hrb⟩:∃b,w.heap.size=b:=⟨_,rfl⟩;obtain⟨nb,hnb⟩:∃b,rb+1=b:=⟨_,rfl⟩;have g1:=(h.allocRaw #[.bool false,.string ⟨#[]⟩,.int .i64 0,.int .i64 0,.slice none 0 0] 40).allocRaw #[.bool false,.string ⟨#[]⟩,.int .i64 0,.int .i64 0,.slice none 0 0] 40;simp only[World.size_alloc,hrb,hnb]at g1;obtain⟨c0,c1,c2,c3,c4⟩:=uR5 g1;simp at c0 c1 c2 c3 c4;obtain⟨q0,q1,q2,q3,q4⟩:=uS5 g1.p1;obtain⟨v0,v1,v2,v3,v4⟩:=uR5 g1.p1;simp at v0 v1 v2 v3 v4;have H:=hQd g1;clear h g1;have HX:=hQd (show s.length≤140737488355328 by omega);have hsl:(s.length:Int)≤1000000:=by omega
 have HV:=hQd hv;have e1:(e==0)=false:=by rw[beq_eq_false_iff_ne];exact h0
 have e2:(e !=0)=true:=by simp[bne,e1]
 clear hs h0 hv;go_enter Tryz.func19,Tryz.ntmps19;go_wp2_with (go_at_call 53;(try clear c0 v0 q0 c1 v1 q1 c2 v2 q2 c3 v3 q3 c4 v4 q4);(with_reducible refine(zFx s s e rfl HX.out HV.out H.out).mono ?_);rintro e_ wn ⟨rfl,h⟩;obtain⟨fb,hfb⟩:∃b,wn.heap.size=b:=⟨_,rfl⟩;have h:=h.allocRaw #[.bool false,.string ⟨#[]⟩,.int .i64 0,.int .i64 e] 102;rw[hfb]at h;obtain⟨x0,x1,x2,x3⟩:=uR4 h;simp at x0 x1 x2 x3;obtain⟨c0,c1,c2,c3,c4⟩:=uR5 h.p1;simp at c0 c1 c2 c3 c4;obtain⟨q0,q1,q2,q3,q4⟩:=uS5 h.p2;obtain⟨v0,v1,v2,v3,v4⟩:=uR5 h.p2;simp at v0 v1 v2 v3 v4;replace H:=hQd h;clear h)
 have HKP:=hQd (show ∀(w':World) (c:Array Value),St W0 w' K (.raw rb c 40::.raw fb #[.bool false,.string ⟨#[]⟩,.int .i64 0,.int .i64 e] 102::.raw nb #[.bool false,.string ⟨#[]⟩,.int .i64 0,.int .i64 0,.slice none 0 0] 40::L)→(w'.cell? ⟨nb,0,none⟩=some (.bool false)∧w'.cell? ⟨nb,1,none⟩=some (.string ⟨#[]⟩)∧w'.cell? ⟨nb,2,none⟩=some (.int .i64 0)∧w'.cell? ⟨nb,3,none⟩=some (.int .i64 0)∧w'.cell? ⟨nb,4,none⟩=some (.slice none 0 0)∧w'.cell? ⟨fb,3,none⟩=some (.int .i64 e))from fun w' c hs=>by
  obtain⟨a0,a1,a2,a3,a4⟩:=uR5 hs.p2;have a5:=hs.p1.rawCell 3;simp at a0 a1 a2 a3 a4 a5
  exact⟨a0,a1,a2,a3,a4,a5⟩)
 have hs:=H.out.p2.drew;refine wp_region_held_drew (S:=fun w'=>(w'.cell? ⟨nb,0,none⟩=some (.bool false)∧w'.cell? ⟨nb,1,none⟩=some (.string ⟨#[]⟩)∧w'.cell? ⟨nb,2,none⟩=some (.int .i64 0)∧w'.cell? ⟨nb,3,none⟩=some (.int .i64 0)∧w'.cell? ⟨nb,4,none⟩=some (.slice none 0 0)∧w'.cell? ⟨fb,3,none⟩=some (.int .i64 e))) (by kernel_rfl) (HKP.out _ _ hs) (fun hHeld=> ?_);refine tR 0 ?_;refine tR 1 ?_;refine tR 2 ?_;refine wR [3] (rC rfl (fun KK hK=> ?_) rN);rw[if_pos (by rfl)];refine wp_store_mid 40 (.tmp 4) (.tmp 29) rfl rb 0 #[.bool false,.string ⟨#[]⟩,.int .i64 0,.int .i64 0,.slice none 0 0] (by rfl) (by rfl) hs.there (by kernel_rfl) (by simp[Value.oneCell']) ?_;obtain⟨wz,ez,hs⟩:=hs.storeEx #[.bool false,.string ⟨#[]⟩,.int .i64 0,.int .i64 0,.slice none 0 0];rw[ez];clear ez;refine hK.out _ _ (HKP.out _ _ hs) (fun hHeld=> ?_);clear hK KK
 try simp only[Act.put]
 refine tR 4 ?_;refine tR 5 ?_;refine wpAnyH_done (by kernel_rfl) ?_ _;clear hHeld;rw[zBs]at hs;rotate_left
 ·rfl
 have hz:St W0 _ _ (.raw rb #[.bool false,.string ⟨#[]⟩,.int .i64 0,.int .i64 0,.slice none 0 0] 40::_):=hs;go_wp2_with fail;refine bodyPost_ret (rcT3 rfl _ _ rb [.bool false,.string ⟨#[]⟩,.int .i64 0,.int .i64 0,.slice none 0 0] _ rfl (zAr hz) Tryz.underlying40 rfl (by kernel_rfl)) rfl ?_;exact⟨rfl,hz.drop.drop.drop⟩
theorem rd20_2(s:Bs)(ve:Int)(hs:s.length≤1000000)(nl:Bool)(dd:Bs)(k:Nat)(hv:zAk 2 s=.ok (⟨nl,dd⟩,k))(hl:(s.drop k).length<6)(h:St W0 w K L):
 Calls Tryz.prog 19 #[.string (bb s),.int .i64 ve] w fun en w'=>en=.returned (.tuple #[.agg #[.bool false,.string ⟨#[]⟩,.int .i64 0,.int .i64 0,.slice none 0 0],.int .i64 0,.int .i64 1])∧St W0 w' K L:=by
 obtain⟨rb,hrb⟩:∃b,w.heap.size=b:=⟨_,rfl⟩;obtain⟨nb,hnb⟩:∃b,rb+1=b:=⟨_,rfl⟩;have g1:=(h.allocRaw #[.bool false,.string ⟨#[]⟩,.int .i64 0,.int .i64 0,.slice none 0 0] 40).allocRaw #[.bool false,.string ⟨#[]⟩,.int .i64 0,.int .i64 0,.slice none 0 0] 40;simp only[World.size_alloc,hrb,hnb]at g1;obtain⟨c0,c1,c2,c3,c4⟩:=uR5 g1;simp at c0 c1 c2 c3 c4;obtain⟨q0,q1,q2,q3,q4⟩:=uS5 g1.p1;obtain⟨v0,v1,v2,v3,v4⟩:=uR5 g1.p1;simp at v0 v1 v2 v3 v4;have H:=hQd g1;clear h g1;have HX:=hQd (show s.length≤140737488355328 by omega);have hsl:(s.length:Int)≤1000000:=by omega
 have HV:=hQd hv;obtain⟨hk2,hkl⟩:=zDL hv;rw[List.length_drop]at hl;have h6:(s.length:Int) - (k:Int)<6:=by omega
 have hki:(k:Int)≤(s.length:Int):=by omega
 clear hs hv hl hk2 hkl;go_enter Tryz.func19,Tryz.ntmps19;go_wp2_with (go_at_call 53;(try clear c0 v0 q0 c1 v1 q1 c2 v2 q2 c3 v3 q3 c4 v4 q4);(with_reducible refine(zB0 s s nl dd k rfl HX.out HV.out H.out).mono ?_);rintro e_ wn ⟨rfl,h⟩;obtain⟨fb,hfb⟩:∃b,wn.heap.size=b:=⟨_,rfl⟩;have h:=h.allocRaw #[.bool nl,.string (bb dd),.int .i64 k,.int .i64 0] 102;rw[hfb]at h;obtain⟨x0,x1,x2,x3⟩:=uR4 h;simp at x0 x1 x2 x3;obtain⟨c0,c1,c2,c3,c4⟩:=uR5 h.p1;simp at c0 c1 c2 c3 c4;obtain⟨q0,q1,q2,q3,q4⟩:=uS5 h.p2;obtain⟨v0,v1,v2,v3,v4⟩:=uR5 h.p2;simp at v0 v1 v2 v3 v4;replace H:=hQd h;clear h);have hz:St W0 _ _ (.raw rb #[.bool false,.string ⟨#[]⟩,.int .i64 0,.int .i64 0,.slice none 0 0] 40::_):=St.sets5P _ _ _ _ _ H.out.p2;refine bodyPost_ret (rcT3 rfl _ _ rb [.bool false,.string ⟨#[]⟩,.int .i64 0,.int .i64 0,.slice none 0 0] _ rfl (zAr hz) Tryz.underlying40 rfl (by kernel_rfl)) rfl ?_;exact⟨rfl,hz.drop.drop.drop⟩
theorem zq16{p:Prop}(h:p:=by
  refine wR [17] (rC rfl (fun KK hK=> ?_) rN);rw[if_pos (by rfl)];refine wp_store_mid 40 (.tmp 10) (.tmp 55) rfl vb 0 #[.bool nl,.string (bb dd),.int .i64 ac,.int .i64 tm,.slice none 0 0] (by rfl) (by rfl) hs.there (by kernel_rfl) (by simp[Value.oneCell']) ?_;obtain⟨wz,ez,hs⟩:=hs.storeEx #[.bool nl,.string (bb dd),.int .i64 ac,.int .i64 tm,.slice none 0 0];rw[ez];clear ez;refine hK.out _ _ (HKB.out _ _ hs) (fun hHeld=> ?_);clear hK KK
  try simp only[Act.put]
  refine wpAnyH_done (by kernel_rfl) ?_ _;clear hHeld;rw[zBs]at hs;rotate_left
  · rfl
  go_wp2_with fail;go_meet;exact⟨vb,rfl,hs⟩):p:=h
theorem zq70{p:Prop}(h:p:=by first|rfl|exact HT2.out|simp):p:=h
theorem rd20_3(s:Bs)(ve:Int)(hs:s.length≤1000000)(nl:Bool)(dd:Bs)(k:Nat)(hv:zAk 2 s=.ok (⟨nl,dd⟩,k))(hl:¬(s.drop k).length<6)(n:Nat)(e:Int)(hc:cntR 6 (s.drop (k+6))=(n,e))(h0:e≠0)(h:St W0 w K L):
 Calls Tryz.prog 19 #[.string (bb s),.int .i64 ve] w fun en w'=>en=.returned (.tuple #[.agg #[.bool false,.string ⟨#[]⟩,.int .i64 0,.int .i64 0,.slice none 0 0],.int .i64 0,.int .i64 e])∧St W0 w' K L:=by
 obtain⟨rb,hrb⟩:∃b,w.heap.size=b:=⟨_,rfl⟩;obtain⟨nb,hnb⟩:∃b,rb+1=b:=⟨_,rfl⟩;have g1:=(h.allocRaw #[.bool false,.string ⟨#[]⟩,.int .i64 0,.int .i64 0,.slice none 0 0] 40).allocRaw #[.bool false,.string ⟨#[]⟩,.int .i64 0,.int .i64 0,.slice none 0 0] 40;simp only[World.size_alloc,hrb,hnb]at g1;obtain⟨c0,c1,c2,c3,c4⟩:=uR5 g1;simp at c0 c1 c2 c3 c4;obtain⟨q0,q1,q2,q3,q4⟩:=uS5 g1.p1;obtain⟨v0,v1,v2,v3,v4⟩:=uR5 g1.p1;simp at v0 v1 v2 v3 v4;have H:=hQd g1;clear h g1;have HX:=hQd (show s.length≤140737488355328 by omega);have hsl:(s.length:Int)≤1000000:=by omega
 have HV:=hQd hv;rw[List.length_drop]at hl;obtain⟨hk2,hkl⟩:=zDL hv;have HVK:=hQd hkl;obtain⟨ac,hac⟩:∃a,sInt ((s.drop k).take 2)=a:=⟨_,rfl⟩;obtain⟨tm,htm⟩:∃a,sInt ((s.drop (k+2)).take 4)=a:=⟨_,rfl⟩;have HAC:=hQd hac;have HTM:=hQd htm;have H82:=hQd (show((s.drop k).take 2).length≤8 by rw[List.length_take];omega);have H84:=hQd (show((s.drop (k+2)).take 4).length≤8 by rw[List.length_take];omega);have hki:(k:Int)≤1000000:=by omega
 have h6a:(k:Int)+2≤(s.length:Int):=by omega
 have h6b:(k:Int)+6≤(s.length:Int):=by omega
 have h6c:¬((s.length:Int) - (k:Int)<6):=by omega
 have h6d:(k:Int)≤(s.length:Int):=by omega
 obtain⟨ka,hka⟩:∃a:Nat,k+2=a:=⟨_,rfl⟩;obtain⟨kb,hkb⟩:∃a:Nat,k+6=a:=⟨_,rfl⟩;have hwa:IntKind.i64.wrap ((k:Int)+2)=(ka:Int):=by rw[IntKind.wrap_i64];omega
 have hwb:IntKind.i64.wrap ((k:Int)+6)=(kb:Int):=by rw[IntKind.wrap_i64];omega
 have hwc:(k:Int)+6=(kb:Int):=by omega
 have hwd:IntKind.i64.wrap (kb:Int)=(kb:Int):=by rw[IntKind.wrap_i64];omega
 have hwe:IntKind.i64.wrap (ka:Int)=(ka:Int):=by rw[IntKind.wrap_i64];omega
 have h6e:(k:Int)≤(ka:Int):=by omega
 have h6f:(ka:Int)≤(kb:Int):=by omega
 have h6g:(kb:Int)≤(s.length:Int):=by omega
 have h6h:(ka:Int)≤(s.length:Int):=by omega
 have h6i:k≤ka:=by omega
 have h6j:ka≤kb:=by omega
 have HT1:=hQd (show List.take (ka - k) (List.drop k s)=(s.drop k).take 2 by rw[←hka,Nat.add_sub_cancel_left]);have HT2:=hQd (show List.take (kb - ka) (List.drop ka s)=(s.drop (k+2)).take 4 by rw[←hka,←hkb,show k+6 - (k+2)=4 by omega]);have HTE:=hQd (show List.take (s.length - kb) (List.drop kb s)=s.drop (k+6) by rw[←hkb];exact zCx s (k+6));have HKB:=hQd hkb;have HX6:=hQd (show(s.drop (k+6)).length≤1000000 by rw[List.length_drop];omega);have HC:=hQd hc;have e1:(e==0)=false:=by rw[beq_eq_false_iff_ne];exact h0
 have e2:(e !=0)=true:=by simp[bne,e1]
 clear hs hv hl hk2 hkl hac htm hc h0 hka hkb;go_enter Tryz.func19,Tryz.ntmps19;go_upto_region 8 with (go_at_call 53;(try clear c0 v0 q0 c1 v1 q1 c2 v2 q2 c3 v3 q3 c4 v4 q4);(with_reducible refine(zB0 s s nl dd k rfl HX.out HV.out H.out).mono ?_);rintro e_ wn ⟨rfl,h⟩;obtain⟨fb,hfb⟩:∃b,wn.heap.size=b:=⟨_,rfl⟩;have h:=h.allocRaw #[.bool nl,.string (bb dd),.int .i64 k,.int .i64 0] 102;rw[hfb]at h;obtain⟨x0,x1,x2,x3⟩:=uR4 h;simp at x0 x1 x2 x3;obtain⟨c0,c1,c2,c3,c4⟩:=uR5 h.p1;simp at c0 c1 c2 c3 c4;obtain⟨q0,q1,q2,q3,q4⟩:=uS5 h.p2;obtain⟨v0,v1,v2,v3,v4⟩:=uR5 h.p2;simp at v0 v1 v2 v3 v4;replace H:=hQd h;clear h);go_cut [10] (fun s10 wx=>∃vb:Nat,s10=.pointer (some ⟨vb,0,none⟩)∧St W0 wx K (.raw vb #[.bool nl,.string (bb dd),.int .i64 ac,.int .i64 tm,.slice none 0 0] 40::.raw fb #[.bool nl,.string (bb dd),.int .i64 k,.int .i64 0] 102::.raw nb #[.bool false,.string ⟨#[]⟩,.int .i64 0,.int .i64 0,.slice none 0 0] 40::.raw rb #[.bool false,.string ⟨#[]⟩,.int .i64 0,.int .i64 0,.slice none 0 0] 40::L))
 case first=>
  (try clear c0 v0 q0 c1 v1 q1 c2 v2 q2 c3 v3 q3 c4 v4 q4)
  have HKA:=hQd (show ∀(w':World),St W0 w' K (.raw fb #[.bool nl,.string (bb dd),.int .i64 k,.int .i64 0] 102::.raw nb #[.bool false,.string ⟨#[]⟩,.int .i64 0,.int .i64 0,.slice none 0 0] 40::.raw rb #[.bool false,.string ⟨#[]⟩,.int .i64 0,.int .i64 0,.slice none 0 0] 40::L)→(w'.cell? ⟨fb,0,none⟩=some (.bool nl)∧w'.cell? ⟨fb,1,none⟩=some (.string (bb dd)))from fun w' hs=>by
   obtain⟨a0,a1⟩:=uR2 hs;simp at a0 a1
   exact⟨a0,a1⟩)
  have HKB:=hQd (show ∀(w':World) (r0:Res),St W0 w' K (r0::.raw fb #[.bool nl,.string (bb dd),.int .i64 k,.int .i64 0] 102::.raw nb #[.bool false,.string ⟨#[]⟩,.int .i64 0,.int .i64 0,.slice none 0 0] 40::.raw rb #[.bool false,.string ⟨#[]⟩,.int .i64 0,.int .i64 0,.slice none 0 0] 40::L)→(w'.cell? ⟨fb,0,none⟩=some (.bool nl)∧w'.cell? ⟨fb,1,none⟩=some (.string (bb dd)))from fun w' r0 hs=>by
   obtain⟨a0,a1⟩:=uR2 hs.p1;simp at a0 a1
   exact⟨a0,a1⟩)
  have hs:=H.out.drew;refine wp_region_held_drew (S:=fun w'=>(w'.cell? ⟨fb,0,none⟩=some (.bool nl)∧w'.cell? ⟨fb,1,none⟩=some (.string (bb dd)))) (by kernel_rfl) (HKA.out _ hs) (fun hHeld=> ?_);refine tR 0 ?_;refine tR 1 ?_;refine tR 2 ?_;refine tR 3 ?_;refine tR 4 ?_;refine tR 5 ?_;refine tR 6 ?_;refine tR 8 ?_;refine tR 9 ?_;refine tR 10 ?_;refine tR 11 ?_;refine tR 12 ?_;refine tR 13 ?_;refine wR [7,16] (rC rfl (fun KK hK=> ?_) (rC rfl (fun KK hK=> ?_) rN))
  focus
   go_simp;go_at_call 54;with_reducible refine(zBQ _ ((s.drop k).take 2) (by first|rfl|exact HT1.out|simp) ac HAC.out H82.out hs).mono ?_;rintro e wq ⟨rfl,hs⟩;refine zK hK (HKA.out _ hs) (fun hHeld=> ?_);clear hK KK
   refine wR [14,16] (rC rfl (fun KK hK=> ?_) (rC rfl (fun KK hK=> ?_) rN))
   focus
    go_simp;go_at_call 54;with_reducible refine(zBQ _ ((s.drop (k+2)).take 4) zq70 tm HTM.out H84.out hs).mono ?_;rintro e wq ⟨rfl,hs⟩;refine zK hK (HKA.out _ hs) (fun hHeld=> ?_);clear hK KK
    refine tR 15 ?_;refine wR [16] (rC rfl (fun KK hK=> ?_) rN);obtain⟨wy,vb,ey,er,hs⟩:=hs.allocEx #[.bool false,.string ⟨#[]⟩,.int .i64 0,.int .i64 0,.slice none 0 0] 40;go_simp
    try rw[ey]
    try rw[er]
    clear ey er;refine zK hK (HKB.out _ _ hs) (fun hHeld=> ?_);clear hK KK
   rotate_left
   focus
    obtain⟨wy,vb,ey,er,hs⟩:=hs.allocEx #[.bool false,.string ⟨#[]⟩,.int .i64 0,.int .i64 0,.slice none 0 0] 40;go_simp
    try rw[ey]
    try rw[er]
    clear ey er;refine zK hK (HKB.out _ _ hs) (fun hHeld=> ?_);clear hK KK
    refine wR [14] (rC rfl (fun KK hK=> ?_) rN);go_simp;go_at_call 54;with_reducible refine(zBQ _ ((s.drop (k+2)).take 4) zq70 tm HTM.out H84.out hs).mono ?_;rintro e wq ⟨rfl,hs⟩;refine zK hK (HKB.out _ _ hs) (fun hHeld=> ?_);clear hK KK
    refine tR 15 ?_
  rotate_left 2
  focus
   obtain⟨wy,vb,ey,er,hs⟩:=hs.allocEx #[.bool false,.string ⟨#[]⟩,.int .i64 0,.int .i64 0,.slice none 0 0] 40;go_simp
   try rw[ey]
   try rw[er]
   clear ey er;refine zK hK (HKB.out _ _ hs) (fun hHeld=> ?_);clear hK KK
   refine wR [7] (rC rfl (fun KK hK=> ?_) rN);go_simp;go_at_call 54;with_reducible refine(zBQ _ ((s.drop k).take 2) (by first|rfl|exact HT1.out|simp) ac HAC.out H82.out hs).mono ?_;rintro e wq ⟨rfl,hs⟩;refine zK hK (HKB.out _ _ hs) (fun hHeld=> ?_);clear hK KK
   refine wR [14] (rC rfl (fun KK hK=> ?_) rN);go_simp;go_at_call 54;with_reducible refine(zBQ _ ((s.drop (k+2)).take 4) zq70 tm HTM.out H84.out hs).mono ?_;rintro e wq ⟨rfl,hs⟩;refine zK hK (HKB.out _ _ hs) (fun hHeld=> ?_);clear hK KK
   refine tR 15 ?_
  all_goals
   exact zq16
 obtain⟨vb,rfl,h⟩:=hcut;clear H;obtain⟨c0,c1,c2,c3,c4⟩:=uR5 h.p2;simp at c0 c1 c2 c3 c4;obtain⟨q0,q1,q2,q3,q4⟩:=uS5 h.p3;obtain⟨v0,v1,v2,v3,v4⟩:=uR5 h.p3;simp at v0 v1 v2 v3 v4;have H:=hQd h;clear h;go_wp2_with (go_at_call 55;(try clear c0 v0 q0 c1 v1 q1 c2 v2 q2 c3 v3 q3 c4 v4 q4);(with_reducible refine(zCK _ (s.drop (k+6)) HTE.out 6 6 rfl dD dD HX6.out n e HC.out H.out).mono ?_);rintro e_ wn ⟨rfl,h⟩;obtain⟨c0,c1,c2,c3,c4⟩:=uR5 h.p2;simp at c0 c1 c2 c3 c4;obtain⟨q0,q1,q2,q3,q4⟩:=uS5 h.p3;obtain⟨v0,v1,v2,v3,v4⟩:=uR5 h.p3;simp at v0 v1 v2 v3 v4;replace H:=hQd h;clear h);have hz:St W0 _ _ (.raw rb #[.bool false,.string ⟨#[]⟩,.int .i64 0,.int .i64 0,.slice none 0 0] 40::_):=St.sets5P _ _ _ _ _ H.out.p3;refine bodyPost_ret (rcT3 rfl _ _ rb [.bool false,.string ⟨#[]⟩,.int .i64 0,.int .i64 0,.slice none 0 0] _ rfl (zAr hz) Tryz.underlying40 rfl (by kernel_rfl)) rfl ?_;exact⟨rfl,hz.drop.drop.drop.drop⟩
def zEI (acc:List TopV) (p:Nat) (r:Except Int (List TopV×Nat)):Except Int (List TopV×Nat):=match r with| .ok y=> .ok (acc++y.1,p+y.2)| .error e=> .error e
def zFN (acc:List zCf) (p:Nat) (r:Except Int (List zCf×Nat)):Except Int (List zCf×Nat):=match r with| .ok y=> .ok (acc++y.1,p+y.2)| .error e=> .error e
theorem zEH{s:Bs}{p j:Nat}{acc:List TopV}{e:Int}(h:zCD (s.drop p)=.error e):zEI acc p (zBN (j+1) (s.drop p))=.error e:=by
 show zEI acc p (match zCD (s.drop p)with| .error e=> .error e| .ok x=>match zBN j ((s.drop p).drop x.2)with| .error e=> .error e| .ok y=> .ok (x.1::y.1,x.2+y.2))=_
 rw[h]
 rfl
theorem zQD{s:Bs}{p j:Nat}{acc:List TopV}{x:TopV}{m:Nat}(h:zCD (s.drop p)=.ok (x,m)):zEI acc p (zBN (j+1) (s.drop p))=zEI (acc++[x]) (p+m) (zBN j (s.drop (p+m))):=by
 show zEI acc p (match zCD (s.drop p)with| .error e=> .error e| .ok x=>match zBN j ((s.drop p).drop x.2)with| .error e=> .error e| .ok y=> .ok (x.1::y.1,x.2+y.2))=_
 rw[h];simp only[List.drop_drop]
 cases zBN j (s.drop (p+m))with
 |error e=>rfl
 |ok y=>simp only[zEI,List.append_assoc,Nat.add_assoc,List.singleton_append]
theorem zPu{s:Bs}{p j:Nat}{acc:List zCf}{e:Int}(h:zBC (s.drop p)=.error e):zFN acc p (zAY (j+1) (s.drop p))=.error e:=by
 show zFN acc p (match zBC (s.drop p)with| .error e=> .error e| .ok x=>match zAY j ((s.drop p).drop x.2)with| .error e=> .error e| .ok y=> .ok (x.1::y.1,x.2+y.2))=_
 rw[h]
 rfl
theorem zQE{s:Bs}{p j:Nat}{acc:List zCf}{x:zCf}{m:Nat}(h:zBC (s.drop p)=.ok (x,m)):zFN acc p (zAY (j+1) (s.drop p))=zFN (acc++[x]) (p+m) (zAY j (s.drop (p+m))):=by
 show zFN acc p (match zBC (s.drop p)with| .error e=> .error e| .ok x=>match zAY j ((s.drop p).drop x.2)with| .error e=> .error e| .ok y=> .ok (x.1::y.1,x.2+y.2))=_
 rw[h];simp only[List.drop_drop]
 cases zAY j (s.drop (p+m))with
 |error e=>rfl
 |ok y=>simp only[zFN,List.append_assoc,Nat.add_assoc,List.singleton_append]
theorem zN0(acc:List TopV)(p:Nat)(X:Bs):zEI acc p (zBN 0 X)=.ok (acc,p):=by show Except.ok (acc++[],p+0)=_;rw[List.append_nil];rfl
theorem zN1(acc:List zCf)(p:Nat)(X:Bs):zFN acc p (zAY 0 X)=.ok (acc,p):=by show Except.ok (acc++[],p+0)=_;rw[List.append_nil];rfl
theorem zP7{X:Bs}{e:Int}(h:zAk 2 X=.error e):zCD X=.error e:=by
 have h2:zD0 X=.error e:=by unfold zD0;rw[h]
 unfold zCD;rw[h2]
theorem zP6{X d:Bs}{k:Nat}(h:zAk 2 X=.ok (⟨true,d⟩,k)):zCD X=.error 4:=by
 have h2:zD0 X=.error 4:=by unfold zD0;rw[h];rfl
 unfold zCD;rw[h2]
theorem zOj{X d:Bs}{k:Nat}(h:zAk 2 X=.ok (⟨false,d⟩,k)):zD0 X=.ok (d,k):=by unfold zD0;rw[h];rfl
theorem zP5{X d:Bs}{k m:Nat}{f:Int}(h:zAk 2 X=.ok (⟨false,d⟩,k))(hc:cntR 8 (X.drop k)=(m,f))(h0:f≠0):zCD X=.error f:=by
 unfold zCD;rw[zOj h];simp only;rw[zMY hc h0]
theorem zP4{X d:Bs}{k m:Nat}(h:zAk 2 X=.ok (⟨false,d⟩,k))(hc:cntR 8 (X.drop k)=(m,0)):zCD X=match zAY m (X.drop (k+4))with| .error e=> .error e| .ok y=> .ok ((d,y.1),k+4+y.2):=by
 unfold zCD;rw[zOj h];simp only;rw[(zDE dD hc).1];rfl
theorem zOh{s d:Bs}{p k m j:Nat}{acc:List TopV}{F:Except Int (List TopV×Nat)}(h:zAk 2 (s.drop p)=.ok (⟨false,d⟩,k))(hc:cntR 8 (s.drop (p+k))=(m,0))(hF:zEI acc p (zBN (j+1) (s.drop p))=F):
 (∀e,zFN [] (p+k+4) (zAY m (s.drop (p+k+4)))=.error e→F=.error e)∧(∀ps q,zFN [] (p+k+4) (zAY m (s.drop (p+k+4)))=.ok (ps,q)→zEI (acc++[(d,ps)]) q (zBN j (s.drop q))=F):=by
 have hg:=zP4 h (by rw[List.drop_drop];exact hc);rw[List.drop_drop,←Nat.add_assoc]at hg;refine⟨fun e he=> ?_,fun ps q hq=> ?_⟩
 ·cases hp:zAY m (s.drop (p+k+4))with
  |error e2=>
   rw[hp]at he hg;have he:(Except.error e2:Except Int (List zCf×Nat))=.error e:=he;injection he with he;subst he;rw[←hF];exact zEH hg
  |ok y=>rw[hp]at he;cases he
 ·cases hp:zAY m (s.drop (p+k+4))with
  |error e2=>rw[hp]at hq;cases hq
  |ok y=>
   rw[hp]at hq hg;have hq:(Except.ok ([]++y.1,p+k+4+y.2):Except Int (List zCf×Nat))=.ok (ps,q):=hq;injection hq with hq;simp only[List.nil_append,Prod.mk.injEq]at hq;obtain⟨rfl,rfl⟩:=hq;rw[←hF,zQD hg];rw[show p+(k+4+y.2)=p+k+4+y.2 by omega]
theorem zOM{M:Nat}(hM:M≤1000000){s:Bs}{b:BatS}{n:Nat}(h:zBd s=.ok (b,n))(hs:s.length≤M)(x:BatR)(hb:x.b=b)(hl:x.l.map (·.1)=x.b.recs):CkB x:=by
 refine⟨zMF h oM x hb hl,?_⟩;obtain⟨y,hy,_,hn,ha⟩:=zBI h;obtain⟨_,_,rs,_,_,hbb⟩:=zHu ha;have hr:=zIN hy;have hR:b.R:=by rw[hbb];exact hr
 rw[hb];exact hR.1
theorem zRU{M:Nat}(hM:M≤1000000)(x:PTop)(h:PtOk M x.pt)(hm:∀y∈x.l,∀z∈y.l,z.l.map (·.1)=z.b.recs):CkT2 x:=by
 obtain⟨h1,h2,h3⟩:=h;have h2:(x.l.map PartR.pb).length≤M:=h2;rw[List.length_map]at h2;refine⟨oM,fun y hy=> ?_⟩;obtain⟨g1,g2⟩:=h3 y.pb (List.mem_map_of_mem hy);have g1:(y.l.map BatR.b).length≤M:=g1;rw[List.length_map]at g1;refine⟨oM,fun z hz=> ?_⟩;obtain⟨t,n,hr,ht⟩:=g2 z.b (List.mem_map_of_mem hz);exact zOM hM hr ht z rfl (hm y hy z hz)
theorem zOq{M:Nat}(hM:M≤1000000){l:List PTop}(hl:l.length≤1000000)(h:∀x∈l,PtOk M x.pt):zBh l:=by
 intro j hj _;refine⟨oM,fun x hx=> ?_⟩;obtain⟨h1,h2,_⟩:=h x (List.mem_of_mem_take hx);have h1:x.name.length≤M:=h1;have h2:(x.l.map PartR.pb).length≤M:=h2;rw[List.length_map]at h2;exact⟨oM,oM⟩
def RPost (nl:Bool) (dd:Bs) (ac tm ve:Int) (K:Know) (W0:World) (L:List Res) (F:Except Int (List TopV×Nat)) (en:Ending) (w':World):Prop:=match F with
 | .error e=>en=.returned (.tuple #[.agg #[.bool false,.string ⟨#[]⟩,.int .i64 0,.int .i64 0,.slice none 0 0],.int .i64 0,.int .i64 e])∧St W0 w' K L
 | .ok y=>∃(q:Option Addr) (cap:Nat) (lr:List PTop) (K2:Know),lr.map PTop.pt=y.1∧(∀x∈lr,∀y∈x.l,∀z∈y.l,z.l.map (·.1)=z.b.recs)∧lr.length≤1000000∧K2.has K∧((zAC ⟨nl,dd⟩ ac tm ve lr=0∧en=.returned (.tuple #[.agg #[.bool nl,.string (bb dd),.int .i64 ac,.int .i64 tm,.slice q lr.length cap],.int .i64 y.2,.int .i64 0])∧K2.has (Know.ptops (.slice q lr.length cap) lr)∧St W0 w' K2 L)∨(zAC ⟨nl,dd⟩ ac tm ve lr≠0∧en=.returned (.tuple #[.agg #[.bool false,.string ⟨#[]⟩,.int .i64 0,.int .i64 0,.slice none 0 0],.int .i64 0,.int .i64 (zAC ⟨nl,dd⟩ ac tm ve lr)])∧St W0 w' K L))
theorem zQg(t X:Bs)(ht:t=X)(hs:X.length≤1000000)(e:Int)(hr:zBC X=.error e)(h:St W0 w K L):
 Calls Tryz.prog 56 #[.string (bb t)] w fun en w'=>en=.returned (.tuple #[.agg #[.int .i64 0,.slice none 0 0],.int .i64 0,.int .i64 e])∧St W0 w' K L:=by
 subst ht;unfold zBC at hr
 by_cases hl:t.length<4
 ·rw[if_pos hl]at hr;cases hr;exact zQl t hl h
 rw[if_neg hl]at hr
 cases hv:zAk 4 (t.drop 4)with
 |error e2=>
  rw[hv]at hr;cases hr;exact zQk t hs hl e ((zA3 4 dD dD).err (t.drop 4) 0 e (Nat.zero_le _) (by rw[List.drop_zero];exact hv)).1 hv h
 |ok x=>
  obtain⟨⟨nl,d⟩,k⟩:=x;rw[hv]at hr
  cases nl with
  |true=>have hr:(Except.error 4:Except Int (zCf×Nat))=.error e:=hr;cases hr;exact zQj t hs hl d k hv h
  |false=>
   cases hb:zBk d with
   |error e2=>
    have hr:(match zBk d with| .error e=>Except.error e| .ok l=> .ok ((sInt (t.take 4),l),4+k))=(.error e:Except Int (zCf×Nat)):=hr;rw[hb]at hr;cases hr;exact zQi t hs hl d k hv e hb h
   |ok l=>
    have hr:(match zBk d with| .error e=>Except.error e| .ok l=> .ok ((sInt (t.take 4),l),4+k))=(.error e:Except Int (zCf×Nat)):=hr;rw[hb]at hr;cases hr
theorem zQf(t X:Bs)(ht:t=X)(hs:X.length≤1000000)(i:Int)(l:List BatS)(m:Nat)(hr:zBC X=.ok ((i,l),m))(h:St W0 w K L):
 Calls Tryz.prog 56 #[.string (bb t)] w fun en w'=>∃(q:Option Addr) (cap:Nat) (lr:List BatR) (K2:Know),en=.returned (.tuple #[.agg #[.int .i64 i,.slice q lr.length cap],.int .i64 m,.int .i64 0])∧lr.map BatR.b=l∧(∀x∈lr,x.l.map (·.1)=x.b.recs)∧K2.has K∧K2.has (Know.bats (.slice q lr.length cap) lr)∧St W0 w' K2 L:=by
 subst ht;unfold zBC at hr
 by_cases hl:t.length<4
 ·rw[if_pos hl]at hr;cases hr
 rw[if_neg hl]at hr
 cases hv:zAk 4 (t.drop 4)with
 |error e2=>rw[hv]at hr;cases hr
 |ok x=>
  obtain⟨⟨nl,d⟩,k⟩:=x;rw[hv]at hr
  cases nl with
  |true=>have hr:(Except.error 4:Except Int (zCf×Nat))=.ok ((i,l),m):=hr;cases hr
  |false=>
   have hr:(match zBk d with| .error e=>Except.error e| .ok l=> .ok ((sInt (t.take 4),l),4+k))=(.ok ((i,l),m):Except Int (zCf×Nat)):=hr
   cases hb:zBk d with
   |error e2=>rw[hb]at hr;cases hr
   |ok l2=>
    rw[hb]at hr;cases hr;have h2:=zQh t hs hl d k hv _ hb h;have e:((4+k:Nat):Int)=4+(k:Int):=by omega
    rw[e];exact h2
end Go.Proofs.YtnnnglklgofabaaGreat
