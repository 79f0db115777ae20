/- A text. -/
import Derived.Test.YtenojajfacacoaaGreatDoorGWholePlayedCard4
import Derived.Test.YtenojajfacacoaaGreatDoorGWholePlayedCard5
import Derived.Test.YtenojajfacacoaaGreatDoorGWholePlayedCard6
import Derived.RegionTactic
import Derived.WalkMore
import Derived.Test.YtenojajfacacoaaGreatDoorGWholePlayedCard9
import Derived.Deep.RegionHeld3
import Derived.Deep.DeepCutAuto
import Derived.Test.YtenojajfacacoaaGreatDoorGWholePlayedCard8
import Derived.Laws.ComplexArith
import Derived.Test.YtenojajfacacoaaGreatDoorGWholePlayedCard1
import Derived.Laws.Cover3
import Derived.IntWalk
import Derived.Test.YtenojajfacacoaaGreatDoorGWholePlayedCard2
/- A text. -/
namespace Go.Proofs.YtenojajfacacoaaGreatDoor
open Go.RowKit
set_option maxHeartbeats 2000000
set_option maxRecDepth 100000
theorem zO4(base leader:Int)(app txn ctl:Bool)(last first maxt prod epoch sq:Int)(l:List (RecS×Value))(q:Option Addr)(cap:Nat)(n1 n2 n3 n4 n5:Int)(ok:Bool)(he:zDs ⟨base,leader,app,txn,ctl,last,first,maxt,prod,epoch,sq,l.map (·.1)⟩=(n1,n2,n3,n4,n5,ok))(hmx:first≤9223372036854775807)(hfit:FitB l)(hll:l.length≤1000000){W0 w:World}{K:Know}{L:List Res}(hk:K.has (Know.recs (.slice q l.length cap) l))(h:St W0 w K L):
  Calls Tryz.prog 108 #[.agg #[.int .i64 base,.int .i64 leader,.bool app,.bool txn,.bool ctl,.int .i64 last,.int .i64 first,.int .i64 maxt,.int .i64 prod,.int .i64 epoch,.int .i64 sq,.slice q l.length cap]] w fun en w'=>en=.returned (.tuple #[.agg #[.int .i64 n1,.int .i64 n2,.int .i64 n3,.int .i64 n4,.int .i64 n5],.bool ok])∧St W0 w' K L:=by
 have HK:=hQd hk;have HFT:=hQd hfit;have HLL:=hQd hll;have HMX:=hQd hmx;have g1:=h.allocRaw #[.int .i64 base,.int .i64 leader,.bool app,.bool txn,.bool ctl,.int .i64 last,.int .i64 first,.int .i64 maxt,.int .i64 prod,.int .i64 epoch,.int .i64 sq,.slice q l.length cap] 30;have g2:=g1.allocRaw #[.int .i64 0,.int .i64 0,.int .i64 0,.int .i64 0,.int .i64 0] 161;obtain⟨hb,hhb⟩:∃b,w.heap.size=b:=⟨_,rfl⟩;obtain⟨rb,hrb⟩:∃b,hb+1=b:=⟨_,rfl⟩;simp only[World.size_alloc,hhb,hrb]at g2;have H:=hQd g2;clear h g1 g2 hk hfit hll hmx;obtain⟨⟨p0,p1,p2,p3,p4⟩,u0,u1,u2,u3,u4⟩:=zOU (b:=rb) (H.out);obtain⟨x0,x1,x2,x3,x4,x5,x6,x7,x8,x9,x10,x11,y0,y1,y2,y3,y4,y5,y6,y7,y8,y9,y10,y11⟩:=zAa (b:=hb) (H.out.p1);unfold zDs at he;simp only at he
 by_cases c0:ctl=true
 case neg=>
  have c1:ctl=false:=by cases ctl with
   |false=>rfl
   |true=>exact absurd rfl c0
  rw[if_neg (fun h=>c0 h.1)]at he;simp only[Prod.mk.injEq]at he;obtain⟨rfl,rfl,rfl,rfl,rfl,rfl⟩:=he;subst c1;clear c0;go_enter Tryz.func108,Tryz.ntmps108;go_wp2;have hz:St W0 _ K (.raw rb #[.int .i64 0,.int .i64 0,.int .i64 0,.int .i64 0,.int .i64 0] 161::_):=H.out;refine bodyPost_ret (zAY rfl _ _ rb [.int .i64 0,.int .i64 0,.int .i64 0,.int .i64 0,.int .i64 0] _ rfl (zAo hz) Tryz.underlying161 rfl (by kernel_rfl)) rfl ?_;exact⟨rfl,hz.drop.drop⟩
 subst c0;obtain⟨e,hee⟩:∃e,zAc ⟨base,leader,app,txn,true,last,first,maxt,prod,epoch,sq,l.map (·.1)⟩=e:=⟨_,rfl⟩;have HE:=hQd hee
 by_cases c1:e=0
 case neg=>
  rw[if_neg (fun h=>c1 (hee ▸ h.2))]at he;simp only[Prod.mk.injEq]at he;obtain⟨rfl,rfl,rfl,rfl,rfl,rfl⟩:=he;have gz:(e==0)=false:=by rw[beq_eq_false_iff_ne];exact c1
  clear c1 hee;go_enter Tryz.func108,Tryz.ntmps108;go_wp2_with (go_at_call 35;(with_reducible refine(zBS _ _ _ _ _ _ _ _ _ _ _ l _ _ _ HE.out HMX.out HFT.out HLL.out HK.out H.out).mono ?_);rintro e_ wn ⟨rfl,h⟩;replace H:=hQd h;clear h;obtain⟨⟨p0,p1,p2,p3,p4⟩,u0,u1,u2,u3,u4⟩:=zOU (b:=rb) (H.out);obtain⟨x0,x1,x2,x3,x4,x5,x6,x7,x8,x9,x10,x11,y0,y1,y2,y3,y4,y5,y6,y7,y8,y9,y10,y11⟩:=zAa (b:=hb) (H.out.p1));have hz:St W0 _ K (.raw rb #[.int .i64 0,.int .i64 0,.int .i64 0,.int .i64 0,.int .i64 0] 161::_):=(((((H.out.rawSet 0 _).rawSet 1 _).rawSet 2 _).rawSet 3 _).rawSet 4 _);refine bodyPost_ret (zAY rfl _ _ rb [.int .i64 0,.int .i64 0,.int .i64 0,.int .i64 0,.int .i64 0] _ rfl (zAo hz) Tryz.underlying161 rfl (by kernel_rfl)) rfl ?_;exact⟨rfl,hz.drop.drop⟩
 subst c1;rw[if_pos ⟨rfl,hee⟩]at he;obtain⟨z,hz,hz2,hz3,hz4⟩:=zMy _ hee rfl;simp only at hz hz3 hz4;rw[hz]at he;simp only[Prod.mk.injEq]at he;have hlen:l.length=1:=by have:=congrArg List.length hz;simpa using this
 obtain⟨b,off,hqq⟩:=zCE HK.out H.out (by omega);subst hqq;have h00:0<l.length:=by omega
 obtain⟨⟨x,vx⟩,hx⟩:∃x,l[0]'h00=x:=⟨_,rfl⟩;have hmem:(x,vx)∈l:=hx ▸ List.getElem_mem _
 obtain rfl:x=z:=by
  have h1:=List.getElem_map (·.1) (l:=l) (i:=0) (h:=by rw[List.length_map];omega);have h2:(l.map (·.1))[0]'(by rw[List.length_map];omega)=z:=by simp only[hz];rfl
  rw[h2,hx]at h1;exact h1.symm
 have xf:x.R∧HFit x.hdrs∧x.sum≤1000000:=HFT.out (x,vx) hmem;have xk:K.has (Know.flat RHdr vx 3 x.hdrs):=zBz HK.out hmem;obtain⟨qx,capx,hvx⟩:=zAu xk H.out;subst hvx;have XD:=hQd (zKN xf.2.2);have hl0:(0:Int)<(l.length:Int):=by omega
 obtain⟨⟨i1,i2,i3⟩,hi⟩:∃r,zEy x=r:=⟨_,rfl⟩;rw[hi]at hz2 he;simp only at hz2 he;subst hz2;obtain⟨rfl,rfl,rfl,hft,rfl,rfl⟩:=he;have EC:=hQd (show zEx x.key.null x.val.null x.key.data x.val.data x.hdrs.length x.off=(i1,i2,0)from hi);have f1:wrap64 (first+x.time)=n4:=by rw[←hft];unfold wrap64;omega
 have f2:IntKind.i64.wrap (first+x.time)=n4:=by rw[←hft];exact IntWalk.i64_in _ (by omega)
 have HX:=hQd hx;clear hz hz3 hz4 hmem xf xk hi hft hee hlen hx;go_enter Tryz.func108,Tryz.ntmps108
 go_wp2_with (first
  |(go_at_call 35;(with_reducible refine(zBS _ _ _ _ _ _ _ _ _ _ _ l _ _ _ HE.out HMX.out HFT.out HLL.out HK.out H.out).mono ?_);rintro e_ wn ⟨rfl,h⟩;obtain⟨⟨p0,p1,p2,p3,p4⟩,u0,u1,u2,u3,u4⟩:=zOU (b:=rb) (h);obtain⟨x0,x1,x2,x3,x4,x5,x6,x7,x8,x9,x10,x11,y0,y1,y2,y3,y4,y5,y6,y7,y8,y9,y10,y11⟩:=zAa (b:=hb) (h.p1);have cc:=zBA HK.out h 0 h00 (x,.slice qx x.hdrs.length capx) HX.out;simp only[Nat.zero_mul,Nat.zero_add,Nat.add_zero]at cc;obtain⟨c0,c1,c2,c3,c4,c5,c6⟩:=cc;have h:=h.allocRaw #[.int .i64 x.time,.int .i64 x.off,.bool x.key.null,.string (bb x.key.data),.bool x.val.null,.string (bb x.val.data),.slice qx x.hdrs.length capx] 54;obtain⟨wE,hwE⟩:∃b,wn.heap.size=b:=⟨_,rfl⟩;rw[hwE]at h;obtain⟨ec0,ec1,ec2,ec3,ec4,ec5,ec6,ef0,ef1,ef2,ef3,ef4,ef5,ef6⟩:=raw7 (b:=wE) (h);replace H:=hQd h;clear h)
  |(go_at_call 71;(with_reducible refine(zH2 x.time x.off x.key.null x.val.null x.key.data x.val.data qx x.hdrs.length capx (i1,i2,0) EC.out XD.out.1 XD.out.2 H.out).mono ?_);rintro e_ wn ⟨rfl,h⟩;replace H:=hQd h;clear h;obtain⟨ec0,ec1,ec2,ec3,ec4,ec5,ec6,ef0,ef1,ef2,ef3,ef4,ef5,ef6⟩:=raw7 (b:=wE) (H.out);obtain⟨⟨p0,p1,p2,p3,p4⟩,u0,u1,u2,u3,u4⟩:=zOU (b:=rb) (H.out.p1);obtain⟨x0,x1,x2,x3,x4,x5,x6,x7,x8,x9,x10,x11,y0,y1,y2,y3,y4,y5,y6,y7,y8,y9,y10,y11⟩:=zAa (b:=hb) (H.out.p2)))
 have hz:St W0 _ K (.raw rb #[.int .i64 prod,.int .i64 epoch,.int .i64 i1,.int .i64 n4,.int .i64 i2] 161::_):=(((((H.out.p1.rawSet 0 _).rawSet 1 _).rawSet 2 _).rawSet 3 _).rawSet 4 _);refine bodyPost_ret (zAY rfl _ _ rb [.int .i64 prod,.int .i64 epoch,.int .i64 i1,.int .i64 n4,.int .i64 i2] _ rfl (zAo hz) Tryz.underlying161 rfl (by kernel_rfl)) rfl ?_;exact⟨rfl,hz.drop.drop.drop⟩
set_option maxHeartbeats 4000000
theorem zPF(s:Bs)(hs:s.length≤1000000){W0 w:World}{K:Know}{L:List Res}(h:St W0 w K L):
   Calls Tryz.prog 21 #[.string (bb s)] w fun en w'=>en=.returned (.string (bb (hexW s)))∧St W0 w' K L:=by
 by_cases h0:s=[]
 · subst h0;have H:=hQd h;clear h;go_enter Tryz.func21,Tryz.ntmps21;go_wp2;go_ret;exact⟨rfl,H.out⟩
 have hw:hexW s=hexL s:=by unfold hexW;rw[if_neg h0]
 rw[hw];have q3:(s==[])=false:=by rw[beq_eq_false_iff_ne];exact h0
 have q4:(s !=[])=true:=by simp[bne,q3]
 have hsl:(s.length:Int)≤1000000:=by omega
 obtain⟨b,hb⟩:∃b,w.heap.size=b:=⟨_,rfl⟩;have g1:=h.sbNew;rw[hb]at g1;have H:=hQd g1;have HS:=hQd hs;have H0:=hQd h0;clear h g1 hs h0 hw;go_enter Tryz.func21,Tryz.ntmps21;go_wp2_with fail;go_loopw [9] (fun iv wr=>∃k:Nat,k≤s.length∧iv=.int .i64 k∧St W0 wr K (.gen (sbG b (hexL (s.take k)))::L)) (fun iv _=>s.length - (intOf iv).toNat)
 case atStart=>exact⟨0,Nat.zero_le _,rfl,H.out⟩
 case round=>
   obtain⟨k,hk,rfl,hst⟩:=hrel;clear H;have H:=hQd hst;clear hst
   by_cases hlt:k<s.length
   · have hlti:(k:Int)<(s.length:Int):=by omega
     obtain⟨x,hx⟩:∃x,s[k]=x:=⟨_,rfl⟩;have q1:0≤(((s[k]'hlt).toNat:Nat):Int) / 16∧(((s[k]'hlt).toNat:Nat):Int) / 16<16:=by have:=(s[k]'hlt).toNat_lt;omega
     have q2:0≤(((s[k]'hlt).toNat:Nat):Int) % 16∧(((s[k]'hlt).toNat:Nat):Int) % 16<16:=by omega
     have HLA:=hQd (show(hexL (s.take k)).length≤1000000000000 by rw[zC1,List.length_take];have:=HS.out;omega);have HLB:=hQd (show(hexL (s.take k)++[hexD ((s[k]'hlt).toNat / 16)]).length≤1000000000000 by rw[List.length_append,zC1,List.length_take];have:=HS.out;simp only[List.length_singleton];omega);have HTK:=hQd (zNL s k hlt _ rfl);clear hx
     go_wp2_with (first
      |(go_at_call 46;(with_reducible refine(zHs b (hexL (s.take k)) _ HLA.out H.out).mono ?_);rintro e_ wn ⟨rfl,h⟩;rw[digA]at h;replace H:=hQd h;clear h)
      |(go_at_call 46;(with_reducible refine(zHs b (hexL (s.take k)++[hexD ((s[k]'hlt).toNat / 16)]) _ HLB.out H.out).mono ?_);rintro e_ wn ⟨rfl,h⟩;rw[digA]at h;have h:St W0 wn K (.gen (sbG b (hexL (s.take (k+1))))::L):=(by rw[←HTK.out];exact h);replace H:=hQd h;clear h))
     go_roundw
     case rel=>exact⟨k+1,hlt,by go_num,H.out⟩
     case measure=>first|(simp[intOf];done)|(simp[intOf];omega)
   · obtain rfl:k=s.length:=by omega
     have HZ:=hQd (show hexL s≠[]from fun e=>H0.out (List.eq_nil_of_length_eq_zero (by have:=congrArg List.length e;rw[zC1]at this;simp only[List.length_nil]at this;omega)));have H2:=hQd (show St W0 wr K (.gen (sbG b (hexL s))::L) by have h9:=H.out;rw[List.take_length]at h9;exact h9);clear H;have H:=H2;clear H2;go_wp2_with (go_at_call 47;(with_reducible refine(zDi b (hexL s) HZ.out H.out).mono ?_);rintro e_ wn ⟨rfl,h⟩;replace H:=hQd h;clear h);go_ret;exact⟨rfl,H.out⟩
variable {W0 w:World}{K:Know}{L:List Res}
theorem zFo(s t:Bs)(ht:hexW s=t)(hs:s.length≤1000000)(h:St W0 w K L):
  Calls Tryz.prog 21 #[.string (bb s)] w fun en w'=>en=.returned (.string (bb t))∧St W0 w' K L:=by
 subst ht;exact zPF s hs h
theorem zDh(nl:Bool)(d t:Bs)(ht:zAM ⟨nl,d⟩=t)(hd:d.length≤1000000)(h:St W0 w K L):
   Calls Tryz.prog 90 #[.agg #[.bool nl,.string (bb d)]] w fun en w'=>en=.returned (.string (bb t))∧St W0 w' K L:=by
 obtain⟨xb,hxb⟩:∃b,w.heap.size=b:=⟨_,rfl⟩;have g1:=h.allocRaw #[.bool nl,.string (bb d)] 51;rw[hxb]at g1;have c0:=(g1).rawCell 0;have c1:=(g1).rawCell 1;simp at c0 c1;have H:=hQd g1;have HDL:=hQd hd;subst ht;clear h g1 hd
 cases nl
 · go_enter Tryz.func90,Tryz.ntmps90;go_wp2_with (go_at_call 21;(with_reducible refine(zPF d HDL.out H.out).mono ?_);rintro e_ wn ⟨rfl,h⟩;replace H:=hQd h;clear h);go_ret;exact⟨rfl,H.out.drop⟩
 · go_enter Tryz.func90,Tryz.ntmps90;go_wp2_with fail;go_ret;exact⟨rfl,H.out.drop⟩
theorem sb_nl(b:Nat)(l:Bs)(hl:l.length≤1000000000000)(h:St W0 w K (.gen (sbG b l)::L)):Calls Tryz.prog 46 #[.pointer (some ⟨b,0,none⟩),.int .u8 10] w fun en w'=>en=.returned .nilIface∧St W0 w' K (.gen (sbG b (l++[10]))::L):=zHs b l 10 hl h
theorem zJW(b:Nat)(l:Bs)(ws:List Bs)(t:Bs)(wb n cap:Nat)(hn:n=ws.length)(hnc:n≤cap)(hl:ws.length≤1000000)(ht:zAB 32 ws=t)(htl:t.length≤1000000)(hll:l.length≤1000000)(hk:K.has (Know.strw wb 0 ws))(h:St W0 w K (.gen (sbG b l)::L)):
  Calls Tryz.prog 52 #[.pointer (some ⟨b,0,none⟩),.slice (some ⟨wb,0,none⟩) n cap] w fun en w'=>en=.returned (.tuple #[])∧St W0 w' K (.gen (sbG b (l++(t++[10])))::L):=by
 have H:=hQd h;have HK:=hQd hk;have HN:=hQd hn;have HNC:=hQd hnc;have HWL:=hQd hl;have HT:=hQd ht;have HTL:=hQd htl;have HB1:=hQd (show l.length+t.length≤1000000000000 by omega);have HB2:=hQd (show(l++t).length≤1000000000000 by rw[List.length_append];omega);clear h hk hn hnc hl ht htl hll;go_enter Tryz.func52,Tryz.ntmps52
 go_wp2_with (first
  |(go_at_call 73;(with_reducible refine(zM0 ws t wb n cap HN.out HNC.out HWL.out HT.out HTL.out HK.out H.out).mono ?_);rintro e_ wn ⟨rfl,h⟩;replace H:=hQd h;clear h)
  |(go_at_call 76;(with_reducible refine(zKV b l t HB1.out H.out).mono ?_);rintro e_ wn ⟨rfl,h⟩;replace H:=hQd h;clear h)
  |(go_at_call 46;(with_reducible refine(sb_nl b (l++t) HB2.out H.out).mono ?_);rintro e_ wn ⟨rfl,h⟩;replace H:=hQd h;clear h))
 go_end0;exact⟨rfl,by rw[←List.append_assoc];exact H.out⟩
theorem zLA(q:Option Addr)(cap:Nat)(l:List Int)(hl:l.length≤1000000)(hr:∀n∈l,Rn n){W0 w:World}{K:Know}{L:List Res}(hlib:K.has Know.lib)(hk:K.has (Know.flat RInt (.slice q l.length cap) 1 l))(h:St W0 w K L):
  Calls Tryz.prog 53 #[.slice q l.length cap] w fun en w'=>∃v',en=.returned v'∧St W0 w' K (.row v' 9 1 (l.map numW).length ((l.map numW).flatMap zBf)::L):=by
 have H:=hQd h;have HLIB:=hQd hlib;have HK:=hQd hk;have HRR:=hQd hr;have HL:=hQd hl;clear h hlib hk hr hl;go_enter Tryz.func53,Tryz.ntmps53;go_wp2_with fail;go_loopw [3,8] (fun sv iv wr=>∃(k:Nat),k≤l.length∧iv=.int .i64 k∧St W0 wr K (.row sv 9 1 k (((l.take k).map numW).flatMap zBf)::L)) (fun _ iv _=>l.length - (intOf iv).toNat)
 case atStart=>exact⟨0,Nat.zero_le _,rfl,H.out.nilRow 9 1⟩
 case round=>
  obtain⟨k,hk',rfl,hst⟩:=hrel;clear H;obtain⟨qv,cv,hv⟩:=hst.rowAny;subst hv;have H:=hQd hst;clear hst;have hli:(l.length:Int)≤1000000:=by have:=HL.out;omega
  by_cases hk:k<l.length
  · obtain⟨ib,io,hqq⟩:=zKl HK.out H.out (by omega);subst hqq;obtain⟨n,hn⟩:∃n,l[k]=n:=⟨_,rfl⟩;have c0:=zGL HK.out H.out k hk n hn;have hrn:=HRR.out n (hn ▸ List.getElem_mem hk);unfold Rn at hrn;have HR1:=hQd hrn.1;have HR2:=hQd (show n≤9223372036854775807 by omega);obtain⟨t,ht⟩:∃t,Lib.itoa n=t:=⟨_,rfl⟩;have HT:=hQd ht;have HLB:=hQd (show k≤1000000 by omega)
    have HNX:=hQd (show((l.take (k+1)).map numW).flatMap zBf=((l.take k).map numW).flatMap zBf++[.string (bb t)] by
     rw[List.take_succ_eq_append_getElem hk,hn,List.map_append,List.flatMap_append,←ht]
     rfl)
    have hki:(k:Int)<(l.length:Int):=by omega
    clear hn hrn ht
    go_wp2_with (first
  |(go_at_call 37;(with_reducible refine(zHp n HR1.out HR2.out HLIB.out H.out).mono ?_);rintro e_ wn ⟨rfl,h⟩;rw[HT.out];replace H:=hQd h;clear h)
  |(at_builtin;refine zAw rfl _ _ 69 rfl 9 Tryz.underlying69 zBD _ _ _ rfl H.out [.string (bb t)] 9 rfl rfl (by simp[Value.oneCell']) (by have:=HLB.out;unfold maxLen;omega) (by have:=HLB.out;omega) ?_;intro v' w' h;obtain⟨qv,cv,hv⟩:=h.rowAny;subst hv;replace H:=hQd h;clear h))
    go_roundw
    case rel=>exact⟨k+1,hk,by go_num,by rw[HNX.out];exact H.out⟩
    case measure=>first|(simp[intOf];done)|(simp[intOf];omega)
  · have hq:k=l.length:=by omega
    subst hq;have HE:=hQd (show((l.take l.length).map numW).flatMap zBf=(l.map numW).flatMap zBf by rw[List.take_length]);go_wp2_with fail;go_ret;exact⟨_,rfl,by have h9:=H.out;rw[HE.out]at h9;simpa using h9⟩
theorem zDg(q:Option Addr)(n cap:Nat)(l:List Int)(hn:n=l.length)(hl:l.length≤1000000)(hr:∀n∈l,Rn n)(h0:0<l.length)(hlib:K.has Know.lib)(hk:K.has (Know.flat RInt (.slice q l.length cap) 1 l))(h:St W0 w K L):
  Calls Tryz.prog 53 #[.slice q n cap] w fun en w'=>∃wb wc,en=.returned (.slice (some ⟨wb,0,none⟩) n wc)∧n≤wc∧St W0 w' (K.and (Know.strw wb 0 (l.map numW))) L:=by
 subst hn;refine(zLA q cap l hl hr hlib hk h).mono ?_;rintro en w' ⟨v',rfl,h2⟩;obtain⟨wb,wc,hv,hle,h3⟩:=h2.rowStrs (by simpa using h0);rw[List.length_map]at hv hle;exact⟨wb,wc,by rw[hv],hle,h3⟩
theorem zHm{wb:Nat}{ws:List Bs}(hk:K.has (Know.strw wb 0 ws))(h:St W0 w K L):∀j u,(ws.flatMap zBf)[j]? =some u→w.cell? ((⟨wb,0,none⟩:Addr).add j)=some u:=by
 obtain⟨F,hF,_⟩:=h.get;obtain⟨_,_,h3⟩:=hk _ _ hF;intro j u hu;have ha:(⟨wb,0,none⟩:Addr).add j=⟨wb,j,none⟩:=by unfold Addr.add;split<;>simp_all
 have hj:j<ws.length:=by
  have h9:=(List.getElem?_eq_some_iff.1 hu).1
  have e:∀l:List Bs,(l.flatMap zBf).length=l.length:=fun l=>by
   induction l with
   |nil=>rfl
   |cons a t ih=>rw[List.flatMap_cons,List.length_append,ih,List.length_cons];show 1+_=_;omega
  rwa [e]at h9
 have e:=zA2 ws zBf 1 (fun _ _=>rfl) j hj 0 (by omega);rw[Nat.mul_one,Nat.add_zero,hu]at e;have e2:u=.string (bb ws[j]):=by injection e
 have h4:=h3 j ws[j] (List.getElem?_eq_getElem hj);rw[Nat.zero_add]at h4;rw[ha,h4,e2]
theorem zCR:∀l:List Bs,(l.flatMap zBf).length=l.length
  |[]=>rfl
  |a::t=>by rw[List.flatMap_cons,List.length_append,zCR t,List.length_cons];show 1+_=_;omega
theorem zEa(l:List Bs):∀u∈l.flatMap zBf,u.oneCell'=true:=by
 intro u hu;obtain⟨x,_,hx⟩:=List.mem_flatMap.1 hu;rw[List.mem_singleton.1 hx]
 rfl
theorem zQz(a0 a1 a2 a3 a4:ByteArray)(w:World):(Instr.buildSlice 69 5 #[(0,.string a0),(1,.string a1),(2,.string a2),(3,.string a3),(4,.string a4)]).run Tryz.prog w=.ok (.slice (some ⟨w.heap.size,0,none⟩) 5 5) (w.alloc (.cells #[.string a0,.string a1,.string a2,.string a3,.string a4] 9 (0,0))):=by go_simp
theorem zJb{o:Oper}{ρ:Operand→Value}(ps:Array (Nat×Value))(v:Value)(w w':World)(ho:execOp ρ o=(do pure (Next.value (←Instr.buildSlice 69 5 ps))))(hb:(Instr.buildSlice 69 5 ps).run Tryz.prog w=.ok v w'):(execOp ρ o).run Tryz.prog w=.ok (.value v) w':=by
 rw[ho];simp[hb,Result.andThen]
theorem zQA(a0 a1 a2:ByteArray)(w:World):(Instr.buildSlice 69 3 #[(0,.string a0),(1,.string a1),(2,.string a2)]).run Tryz.prog w=.ok (.slice (some ⟨w.heap.size,0,none⟩) 3 3) (w.alloc (.cells #[.string a0,.string a1,.string a2] 9 (0,0))):=by go_simp
theorem zJc{o:Oper}{ρ:Operand→Value}(ps:Array (Nat×Value))(v:Value)(w w':World)(ho:execOp ρ o=(do pure (Next.value (←Instr.buildSlice 69 3 ps))))(hb:(Instr.buildSlice 69 3 ps).run Tryz.prog w=.ok v w'):(execOp ρ o).run Tryz.prog w=.ok (.value v) w':=by
 rw[ho];simp[hb,Result.andThen]
theorem zEV(b:Nat)(l:Bs)(ws:List Bs)(t:Bs)(wb n:Nat)(cs:Array Value)(hcs:cs=(ws.map fun x=>Value.string (bb x)).toArray)(hn:n=ws.length)(hl:ws.length≤1000000)(ht:zAB 32 ws=t)(htl:t.length≤1000000)(hll:l.length≤1000000){T:TypeId}(h:St W0 w K (.raw wb cs T::.gen (sbG b l)::L)):
  Calls Tryz.prog 52 #[.pointer (some ⟨b,0,none⟩),.slice (some ⟨wb,0,none⟩) n n] w fun en w'=>en=.returned (.tuple #[])∧St W0 w' K (.gen (sbG b (l++(t++[10])))::L):=by
 subst hcs;have h2:=h.strs;refine(zJW b l ws t wb n n hn (Nat.le_refl _) hl ht htl hll (Know.has_right (Know.has_refl _)) h2).mono ?_;rintro en w' ⟨rfl,h3⟩;exact⟨rfl,h3.know (Know.has_left (Know.has_refl _))⟩
theorem zA8(n:Int)(hn:Rn n)(t:Bs)(ht:numW n=t)(hlib:K.has Know.lib)(h:St W0 w K L):
  Calls Tryz.prog 37 #[.int .i64 n] w fun en w'=>en=.returned (.string (bb t))∧St W0 w' K L:=by
 subst ht;unfold Rn at hn;exact zHp n hn.1 (by omega) hlib h
theorem zKy(a0 a1 a2 a3:ByteArray)(w:World):(Instr.buildSlice 69 4 #[(0,.string a0),(1,.string a1),(2,.string a2),(3,.string a3)]).run Tryz.prog w=.ok (.slice (some ⟨w.heap.size,0,none⟩) 4 4) (w.alloc (.cells #[.string a0,.string a1,.string a2,.string a3] 9 (0,0))):=by go_simp
theorem zCM{o:Oper}{ρ:Operand→Value}(ps:Array (Nat×Value))(v:Value)(w w':World)(ho:execOp ρ o=(do pure (Next.value (←Instr.buildSlice 69 4 ps))))(hb:(Instr.buildSlice 69 4 ps).run Tryz.prog w=.ok v w'):(execOp ρ o).run Tryz.prog w=.ok (.value v) w':=by
 rw[ho];simp[hb,Result.andThen]
theorem EncOk.fit{b:BatS}(so:EncOk b){l:List (RecS×Value)}(hl:l.map (·.1)=b.recs):FitB l:=by
 intro x hx;obtain⟨a,c,d⟩:=so.recs x.1 (by rw[←hl];exact List.mem_map.2 ⟨x,hx,rfl⟩);have:=zDM x.1.hdrs 1000000 (by unfold RecS.sum at d;omega);exact⟨a,fun y hy=>by have:=this y hy;omega,d⟩
theorem EncOk.llen{b:BatS}(so:EncOk b){l:List (RecS×Value)}(hl:l.map (·.1)=b.recs):l.length≤1000:=by
 have h1:=congrArg List.length hl;rw[List.length_map]at h1;have:=so.len
 omega
theorem zFT(b:BatS)(l:List (RecS×Value))(q:Option Addr)(cap:Nat)(hl:l.map (·.1)=b.recs)(n1 n2 n3 n4 n5:Int)(ok:Bool)(he:zDs b=(n1,n2,n3,n4,n5,ok))(so:EncOk b){W0 w:World}{K:Know}{L:List Res}(hk:K.has (Know.recs (.slice q l.length cap) l))(h:St W0 w K L):
  Calls Tryz.prog 108 #[.agg #[.int .i64 b.base,.int .i64 b.leader,.bool b.app,.bool b.txn,.bool b.ctl,.int .i64 b.last,.int .i64 b.first,.int .i64 b.maxt,.int .i64 b.prod,.int .i64 b.epoch,.int .i64 b.seq,.slice q l.length cap]] w fun en w'=>en=.returned (.tuple #[.agg #[.int .i64 n1,.int .i64 n2,.int .i64 n3,.int .i64 n4,.int .i64 n5],.bool ok])∧St W0 w' K L:=
 zO4 b.base b.leader b.app b.txn b.ctl b.last b.first b.maxt b.prod b.epoch b.seq l q cap n1 n2 n3 n4 n5 ok (by rw[hl];exact he) (by have:=so.rng.2.2.2.1.2;omega) (so.fit hl) (by have:=so.llen hl;omega) hk h
theorem zME(ok:Int→Bool)(e:Int)(s:Bs):Rn (zC6 4 ok e s).1:=by
 unfold zC6;have h0:Rn 0:=by unfold Rn;decide
 have h1:Rn (sInt ((s.drop 2).take 4)):=zCT _ (by rw[List.length_take];omega)
 repeat' split
 all_goals first|exact h0|exact h1
theorem zQu(x:RecS):Rn (zEy x).2.1:=by
 unfold zEy zEx;have h0:Rn 0:=by unfold Rn;decide
 repeat' split
 all_goals first|exact h0|exact zME _ _ _
theorem zHT{b:BatS}{n1 n2 n3 n4 n5:Int}{ok:Bool}(he:zDs b=(n1,n2,n3,n4,n5,ok)):Rn n5:=by
 unfold zDs at he
 split at he
 · split at he
   · rename_i x t _
     have e:(zEy x).2.1=n5:=congrArg (fun z=>z.2.2.2.2.1) he;rw[←e];exact zQu x
   · have e:(0:Int)=n5:=congrArg (fun z=>z.2.2.2.2.1) he;rw[←e];unfold Rn;decide
 · have e:(0:Int)=n5:=congrArg (fun z=>z.2.2.2.2.1) he;rw[←e];unfold Rn;decide
def ptP (b:BatS):Int:=if zAc b=0 then(b.enc.length:Int)else 0
def ptQ (b:BatS):Int:=if zAc b=0 then(b.recs.length:Int)else 0
def sP (l:List BatR):Int:=(l.map fun x=>ptP x.b).sum
def sQ (l:List BatR):Int:=(l.map fun x=>ptQ x.b).sum
def SmB (x:BatR):Prop:=x.Fit∧zAN (x.l.map (·.1))=true
theorem zPX(l:List BatR)(k:Nat)(hk:k<l.length)(x:BatR)(hx:l[k]=x):sP (l.take (k+1))=sP (l.take k)+ptP x.b∧sQ (l.take (k+1))=sQ (l.take k)+ptQ x.b∧l.take (k+1)=l.take k++[x]:=by
 have e:l.take (k+1)=l.take k++[x]:=by rw[List.take_succ_eq_append_getElem hk,hx]
 refine⟨?_,?_,e⟩
 · rw[e];unfold sP;rw[List.map_append,List.sum_append];simp
 · rw[e];unfold sQ;rw[List.map_append,List.sum_append];simp
theorem zKZ{l:List (RecS×Value)}{b:BatS}(h:l.map (·.1)=b.recs):(b.recs.length:Int)=l.length:=by rw[←h,List.length_map]
end Go.Proofs.YtenojajfacacoaaGreatDoor
namespace Go.Proofs.YtenojajfacacoaaGreatDoor
open Go Ieee
def FV (d:Datum) (n:Int):Prop:=∃(s:Bool) (m:Nat) (p:Int),d=.number s m p∧p≤0∧(if s then -(m:Int)else(m:Int))=n*2 ^ (-p).toNat
def FI (x:Nat) (n:Int):Prop:=FV (double.read x) n
def Wh (n:Int):Prop:= -9007199254740992<n∧n<9007199254740992
theorem zFl(s:Bool)(m up:Nat):signed s m up=(if s then -(m:Int)else(m:Int))*2 ^ up:=by
 unfold signed;rw[Nat.shiftLeft_eq]
 cases s<;>simp[Int.neg_mul]
theorem zIP{i b:Int}(hb:b≤i)(hi:i≤0):(2:Int) ^ (-i).toNat*2 ^ (i - b).toNat=2 ^ (-b).toNat:=by
 rw[←Int.pow_add]
 congr 1
 omega
theorem FV.sum{c d:Datum}{a b:Int}(ha:FV c a)(hb:FV d b):∃e,c.sum d=some e∧FV e (a+b):=by
 obtain⟨s,m,i,rfl,hi,va⟩:=ha;obtain⟨t,n,j,rfl,hj,vb⟩:=hb;refine⟨_,rfl,?_⟩;have hmi:min i j≤i:=Int.min_le_left _ _;have hmj:min i j≤j:=Int.min_le_right _ _;have e1:signed s m (i - min i j).toNat=a*2 ^ (-(min i j)).toNat:=by rw[zFl,va,Int.mul_assoc,zIP hmi hi]
 have e2:signed t n (j - min i j).toNat=b*2 ^ (-(min i j)).toNat:=by rw[zFl,vb,Int.mul_assoc,zIP hmj hj]
 have e3:signed s m (i - min i j).toNat+signed t n (j - min i j).toNat=(a+b)*2 ^ (-(min i j)).toNat:=by rw[e1,e2,Int.add_mul]
 refine⟨_,_,_,rfl,by omega,?_⟩;rw[e3];generalize (a+b)*2 ^ (-(min i j)).toNat=T
 by_cases h0:T=0
 · subst h0;cases s<;>cases t<;>simp
 · rw[if_neg h0]
   by_cases h1:T<0
   · rw[if_pos (by simpa using h1)];omega
   · rw[if_neg (by simpa using h1)];omega
theorem FV.opposite{c:Datum}{a:Int}(ha:FV c a):FV c.opposite (-a):=by
 obtain⟨s,m,i,rfl,hi,va⟩:=ha;refine⟨!s,m,i,rfl,hi,?_⟩;rw[Int.neg_mul,←va]
 cases s<;>simp
theorem zPi(way:Toward)(neg:Bool)(n:Nat):way.cut neg n 0=n:=by
 unfold Toward.cut
 cases way<;>simp[Nat.mod_one]
theorem zEL(N k:Nat)(h:N≠0):(N*2 ^ k).log2=N.log2+k:=by
 induction k with
 |zero=>simp
 |succ k ih=>
  rw[Nat.pow_succ,←Nat.mul_assoc,Nat.mul_comm _ 2,Nat.log2_two_mul (Nat.mul_ne_zero h (Nat.ne_of_gt (Nat.two_pow_pos k))),ih]
  rfl
theorem zN5(way:Toward)(neg:Bool)(N k:Nat)(h:N≠0):way.cut neg (N*2 ^ k) k=N:=by
 have hl:=zEL N k h;unfold Toward.cut;have hm:min k ((N*2 ^ k).log2+2)=k:=by rw[hl];omega
 have hp:0<2 ^ k:=Nat.two_pow_pos k;simp only[hm,Nat.one_shiftLeft,Nat.mul_div_cancel _ hp,Nat.mul_mod_left]
 cases way<;>simp<;>omega
theorem zNb(s:Bool)(e K:Nat)(he:e≤52)(h1:4503599627370496≤K)(h2:K<9007199254740992):double.read (double.word s ((e+1022)*4503599627370496+K))=.number s K ((e:Int) - 52):=by
 have hR:(e+1022)*4503599627370496+K<9223372036854775808:=by omega
 have hs:double.signWeight=9223372036854775808:=by decide
 have hb:double.binade=4503599627370496:=by decide
 have hi:double.infRung=9218868437227405312:=by decide
 have hl:double.leastPlace= -1074:=by decide
 have hm:double.word s ((e+1022)*4503599627370496+K) % 9223372036854775808=(e+1022)*4503599627370496+K:=by
  unfold Format.word;rw[hs]
  cases s<;>simp<;>omega
 have hd:(double.word s ((e+1022)*4503599627370496+K) / 9223372036854775808 % 2==1)=s:=by
  unfold Format.word;rw[hs]
  cases s
  · simp only[Bool.false_eq_true,if_false];rw[Nat.div_eq_of_lt hR]
    rfl
  · simp only[if_true];rw[show(9223372036854775808+((e+1022)*4503599627370496+K)) / 9223372036854775808=1 by omega]
    rfl
 unfold Format.read;simp only[hs,hb,hi,hl,hm,hd];rw[if_neg (by omega),if_pos (by omega)];have e1:4503599627370496+((e+1022)*4503599627370496+K) % 4503599627370496=K:=by omega
 have e3:(-1074:Int)+((((e+1022)*4503599627370496+K) / 4503599627370496 - 1:Nat):Int)=(e:Int) - 52:=by omega
 exact congr (congrArg (Datum.number s) e1) e3
theorem zO5(e K:Nat)(he:e≤52)(hK:K<9007199254740992):min ((((e:Int) - 52) - double.leastPlace).toNat*double.binade+K) double.infRung=(e+1022)*4503599627370496+K:=by
 have hb:double.binade=4503599627370496:=by decide
 have hi:double.infRung=9218868437227405312:=by decide
 have hl:double.leastPlace= -1074:=by decide
 rw[hb,hi,hl,show(((e:Int) - 52) - (-1074)).toNat=e+1022 by omega]
 omega
theorem zNw(e:Nat)(he:e≤52):(e:Int) - 52≤0:=by omega
theorem zL6(e:Nat)(he:e≤52):(-((e:Int) - 52)).toNat=52 - e:=by omega
theorem zID(s:Bool):FI (double.word s 0) 0:=by
 cases s
 · exact⟨false,0,-1074,by decide+kernel,by decide,by rw[Int.zero_mul];rfl⟩
 · exact⟨true,0,-1074,by decide+kernel,by decide,by rw[Int.zero_mul];rfl⟩
theorem FV.write{d:Datum}{n:Int}(h:FV d n)(hn:Wh n):FI (double.write d) n:=by
 obtain⟨s,m,p,rfl,hp,hv⟩:=h
 show FI (double.nearest s m p) n
 unfold Format.nearest;obtain⟨k,hk⟩:∃k,(-p).toNat=k:=⟨_,rfl⟩;have hpk:p= -(k:Int):=by omega
 rw[hk]at hv
 by_cases hm:m=0
 · rw[if_pos hm];subst hm
   have h0:n=0:=by
    have hz:n*2 ^ k=0:=by rw[←hv];cases s<;>simp
    rcases Int.mul_eq_zero.1 hz with h|h
    · exact h
    · exact absurd h (Int.ne_of_gt (Int.pow_pos (by decide)))
   subst h0;exact zID s
 · rw[if_neg hm];obtain⟨N,hN⟩:∃N,n.natAbs=N:=⟨_,rfl⟩
   have hmN:m=N*2 ^ k:=by
    have h1:(m:Int).natAbs=(n*2 ^ k).natAbs:=by rw[←hv];cases s<;>simp
    rw[Int.natAbs_mul,Int.natAbs_pow,hN]at h1
    simpa using h1
   have hN0:N≠0:=by rintro rfl;simp at hmN;exact hm hmN
   have hNl:N<9007199254740992:=by unfold Wh at hn;omega
   have hL:=zEL N k hN0;obtain⟨e,he⟩:∃e,N.log2=e:=⟨_,rfl⟩
   have he52:e≤52:=by
    have h53:N<2 ^ 53:=hNl;have:=(Nat.log2_lt hN0).2 h53
    omega
   have hb1:2 ^ e≤N:=by rw[←he];exact Nat.log2_self_le hN0
   have hb2:N<2 ^ (e+1):=by rw[←he];exact Nat.lt_log2_self
   rw[hmN,hL,he]
   have hlast:max (p+((e+k:Nat):Int) - (double.fractionBits:Int)) double.leastPlace=(e:Int) - 52:=by
    show max (p+((e+k:Nat):Int) - 52) (-1074)=_
    omega
   simp only[hlast]
   have hkept:Toward.even.cut s ((N*2 ^ k)<<<(p - ((e:Int) - 52)).toNat) (((e:Int) - 52) - p).toNat=N*2 ^ (52 - e):=by
    rw[Nat.shiftLeft_eq]
    by_cases hc:k≤52 - e
    · rw[show(((e:Int) - 52) - p).toNat=0 by omega,zPi,Nat.mul_assoc,←Nat.pow_add]
      congr 2
      omega
    · rw[show(p - ((e:Int) - 52)).toNat=0 by omega,Nat.pow_zero,Nat.mul_one,show N*2 ^ k=(N*2 ^ (52 - e))*2 ^ (((e:Int) - 52) - p).toNat by rw[Nat.mul_assoc,←Nat.pow_add];congr 2;omega];exact zN5 _ _ _ _ (Nat.mul_ne_zero hN0 (Nat.ne_of_gt (Nat.two_pow_pos _)))
   rw[hkept]
   have hK1:4503599627370496≤N*2 ^ (52 - e):=by
    have h1:=Nat.mul_le_mul_right (2 ^ (52 - e)) hb1;rw[←Nat.pow_add,show e+(52 - e)=52 by omega]at h1
    simpa using h1
   have hK2:N*2 ^ (52 - e)<9007199254740992:=by
    have h1:=Nat.mul_lt_mul_of_pos_right hb2 (Nat.two_pow_pos (52 - e));rw[←Nat.pow_add,show e+1+(52 - e)=53 by omega]at h1
    simpa using h1
   obtain⟨K,hKK⟩:∃K,N*2 ^ (52 - e)=K:=⟨_,rfl⟩;rw[hKK]at hK1 hK2 ⊢;have hmin:=zO5 e K he52 hK2;rw[hmin];refine⟨s,K,(e:Int) - 52,zNb s e _ he52 hK1 hK2,zNw e he52,?_⟩;rw[zL6 e he52,←hKK]
   have hsg:(if s then -(N:Int)else(N:Int))=n:=by
    have hpp:(0:Int)<2 ^ k:=Int.pow_pos (by decide)
    have h2:(if s then -(N:Int)else(N:Int))*2 ^ k=n*2 ^ k:=by
      rw[←hv,hmN]
      cases s<;>simp[Int.neg_mul]
    exact Int.eq_of_mul_eq_mul_right (Int.ne_of_gt hpp) h2
   rw[←hsg]
   cases s<;>simp[Int.neg_mul]
theorem FI.add{x y:Nat}{a b:Int}(ha:FI x a)(hb:FI y b)(h:Wh (a+b)):∃r,double.add x y=some r∧FI r (a+b):=by
 obtain⟨e,he,hv⟩:=FV.sum ha hb;exact⟨double.write e,by unfold Format.add;rw[he];rfl,hv.write h⟩
theorem FI.ofInt(n:Int)(h:Wh n):FI (double.write (.number (n<0) n.natAbs 0)) n:=by
 refine FV.write ⟨_,_,_,rfl,by decide,?_⟩ h
 by_cases h0:n<0
 · simp[h0];omega
 · simp[h0];omega
end Go.Proofs.YtenojajfacacoaaGreatDoor
namespace Go.Proofs.YtenojajfacacoaaGreatDoor
open Go Ieee
theorem zQf(x:Nat):(x ^^^ 9223372036854775808) % 9223372036854775808=x % 9223372036854775808:=by
 have h:=Nat.xor_mod_two_pow (a:=x) (b:=9223372036854775808) (n:=63);have e:(2:Nat) ^ 63=9223372036854775808:=by decide
 rw[e]at h;rw[h]
 simp
theorem zQg(x:Nat):((x ^^^ 9223372036854775808) / 9223372036854775808 % 2==1)= !(x / 9223372036854775808 % 2==1):=by
 have e:(2:Nat) ^ 63=9223372036854775808:=by decide
 have h:=Nat.shiftRight_xor_distrib (a:=x) (b:=9223372036854775808) (i:=63);simp only[Nat.shiftRight_eq_div_pow,e]at h;have h2:(9223372036854775808:Nat) / 9223372036854775808=1:=by decide
 have h4:=Nat.xor_mod_two_pow (a:=x / 9223372036854775808) (b:=1) (n:=1);rw[Nat.pow_one]at h4;rw[h,h2,h4]
 rcases(by omega:x / 9223372036854775808 % 2=0∨x / 9223372036854775808 % 2=1)with h3|h3<;>rw[h3]<;>decide
theorem zOQ(x:Nat):double.read (Op.negFloat .f64 x)=(double.read x).opposite:=by
 show double.read (x ^^^ 9223372036854775808)=_
 unfold Format.read;have hs:double.signWeight=9223372036854775808:=by decide
 simp only[hs,zQf,zQg]
 split
 · rfl
 · split
   · rfl
   · split<;>rfl
theorem FI.neg{x:Nat}{a:Int}(h:FI x a):FI (Op.negFloat .f64 x) (-a):=by
 unfold FI;rw[zOQ];exact FV.opposite h
theorem FI.zero:FI 0 0:=zID false
theorem FI.toInt{x:Nat}{a:Int}(ha:FI x a):(FloatKind.f64.decode x).toInt .zero=some a:=by
 obtain⟨s,m,p,hd,hp,hv⟩:=ha
 show(double.read x).toInt .zero=_
 rw[hd];obtain⟨k,hk⟩:∃k,(-p).toNat=k:=⟨_,rfl⟩;rw[hk]at hv;unfold Datum.toInt Datum.integral;have e1:p.toNat=0:=by omega
 simp only[e1,Nat.shiftLeft_zero,hk];rw[zFl];simp only[Int.pow_zero,Int.mul_one];obtain⟨N,hN⟩:∃N,a.natAbs=N:=⟨_,rfl⟩
 have hmN:m=N*2 ^ k:=by
  have h1:(m:Int).natAbs=(a*2 ^ k).natAbs:=by rw[←hv];cases s<;>simp
  rw[Int.natAbs_mul,Int.natAbs_pow,hN]at h1
  simpa using h1
 have hc:Toward.zero.cut s m k=N:=by
  by_cases h0:N=0
  · subst h0;rw[hmN];unfold Toward.cut
    simp
  · rw[hmN];exact zN5 _ _ _ _ h0
 rw[hc];have hpp:(0:Int)<2 ^ k:=Int.pow_pos (by decide)
 have h2:(if s then -(N:Int)else(N:Int))*2 ^ k=a*2 ^ k:=by
  rw[←hv,hmN]
  cases s<;>simp[Int.neg_mul]
 rw[Int.eq_of_mul_eq_mul_right (Int.ne_of_gt hpp) h2]
end Go.Proofs.YtenojajfacacoaaGreatDoor
namespace Go.Proofs.YtenojajfacacoaaGreatDoor
open Go.RowKit
def turnI (r a b:Int):Int×Int:=if r=1 then(-b,a)else if r=2 then(-a,-b)else if r=3 then(b,-a)else(a,b)
def qa (k:Int) (l:List Int):Nat→Int×Int
  |0=>(0,0)
  |i+1=>((qa k l i).1+(turnI ((k*i) % 4) (l.getD i 0) 0).1,(qa k l i).2+(turnI ((k*i) % 4) (l.getD i 0) 0).2)
theorem cadd{a b c d re im:Nat}(h1:Ieee.double.add a c=some re)(h2:Ieee.double.add b d=some im):cSumBits .add .f64 a b c d=some (re,im):=by
 unfold cSumBits floatBits
 show(Ieee.double.add a c).bind _=_
 rw[h1]
 show(Ieee.double.add b d).bind _=_
 rw[h2]
 rfl
theorem zOK{a b c d re im:Nat}(T:TypeId)(h1:Ieee.double.add a c=some re)(h2:Ieee.double.add b d=some im)(w:World):(binOp .add T (.complex .f64 a b) (.complex .f64 c d)).run Tryz.prog w=.ok (.complex .f64 re im) w:=
 run_complex_sum w .add (.inl rfl) T .f64 a b c d re im (cadd h1 h2)
theorem FI.conv(n:Int)(h:Wh n):FI (floatOfInt .f64 n) n:=FI.ofInt n h
def OkB (x:BatR):Prop:=x.l.map (·.1)=x.b.recs∧EncOk x.b
theorem EncOk.elen{b:BatS}(h:EncOk b):b.enc.length≤400061:=by rw[b.enc_len];have:=h.rows;omega
theorem zQb(x:BatR)(h:OkB x):(0≤ptP x.b∧ptP x.b≤401000)∧(0≤ptQ x.b∧ptQ x.b≤1000):=by
 have h0:=h.2.err;have h1:=h.2.elen;have h2:=h.2.len;unfold ptP ptQ;rw[if_pos h0,if_pos h0]
 omega
theorem zM4:∀(l:List BatR),(∀x∈l,OkB x)→(0≤sP l∧sP l≤401000*l.length)∧(0≤sQ l∧sQ l≤1000*l.length)
  |[],_=>by simp[sP,sQ]
  |x::t,h=>by
    have h1:=zQb x (h x (List.mem_cons_self));have h2:=zM4 t (fun y hy=>h y (List.mem_cons_of_mem _ hy));have e1:sP (x::t)=ptP x.b+sP t:=by unfold sP;rw[List.map_cons,List.sum_cons]
    have e2:sQ (x::t)=ptQ x.b+sQ t:=by unfold sQ;rw[List.map_cons,List.sum_cons]
    rw[e1,e2,List.length_cons]
    omega
theorem zPI:∀(l:List BatR),(∀x∈l,OkB x)→sP l=sumE (l.map BatR.b)∧sQ l=sumR (l.map BatR.b)
  |[],_=>⟨rfl,rfl⟩
  |x::t,h=>by
    have h2:=zPI t (fun y hy=>h y (List.mem_cons_of_mem _ hy));have h0:=(h x (List.mem_cons_self)).2.err;have e1:sP (x::t)=ptP x.b+sP t:=by unfold sP;rw[List.map_cons,List.sum_cons]
    have e2:sQ (x::t)=ptQ x.b+sQ t:=by unfold sQ;rw[List.map_cons,List.sum_cons]
    have e3:sumE ((x::t).map BatR.b)=(x.b.enc.length:Int)+sumE (t.map BatR.b):=by unfold sumE;rw[List.map_cons,List.map_cons,List.sum_cons]
    have e4:sumR ((x::t).map BatR.b)=(x.b.recs.length:Int)+sumR (t.map BatR.b):=by unfold sumR;rw[List.map_cons,List.map_cons,List.sum_cons]
    rw[e1,e2,e3,e4,h2.1,h2.2];unfold ptP ptQ;rw[if_pos h0,if_pos h0];exact⟨rfl,rfl⟩
theorem convR(x:Nat)(a:Int)(h:FI x a)(ha:Wh a)(w:World):(convert 119 3 (.float .f64 x)).run Tryz.prog w=.ok (.int .i64 a) w:=by
 refine run_convert_float_int w _ _ .f64 .i64 x a (by kernel_rfl) (by kernel_rfl) ?_;unfold floatToIntVal;rw[FI.toInt h];simp only;unfold Wh at ha;rw[if_pos]
 show -9223372036854775808≤a∧a≤9223372036854775807
 omega
theorem zNB{b:BatS}(so:EncOk b):(zB5 b).length≤1000:=by
 have hR:=so.rng;have hll:=so.len;have m1:=zAj _ hR.1;have m2:=zAj _ hR.2.2.2.2.2.1;have m3:=zAj (b.recs.length:Int) (by unfold Rn;omega);unfold zB5 zNM;obtain⟨⟨n1,n2,n3,n4,n5,ok⟩,he⟩:∃y,zDs b=y:=⟨_,rfl⟩;have m5:=zAj _ (zHT he)
 cases ok with
 |false=>rw[zIi he];simp only[List.cons_append,List.nil_append,zAB,List.length_append,List.length_cons,List.length_nil];omega
 |true=>
  by_cases hk:n3=1
  · rw[zFb he hk];simp only[List.cons_append,List.nil_append,zAB,List.length_append,List.length_cons,List.length_nil];omega
  · rw[zGF he hk];simp only[List.cons_append,List.nil_append,zAB,List.length_append,List.length_cons,List.length_nil];omega
theorem zMK(bs:List BatS)(V st e:Int)(hok:∀b∈bs,EncOk b)(hbl:bs.length≤900)(hV:Rn V)(he:Rn e)(hP:Rn (sumE bs))(hQ:Rn (sumR bs)):(zML bs V st e).length≤1000000:=by
 have h1:=zBU zB5 1000 bs (fun b hb=>zNB (hok b hb));have m1:=zAj _ hP;have m2:=zAj _ hQ;have m3:=zAj _ hV;have m4:=zAj _ he;have h2:(totT (sumE bs) (sumR bs)).length≤100:=by unfold totT;simp only[zAB,List.length_append,List.length_cons,List.length_nil];omega
 have h3:(endT V st e).length≤100:=by
  unfold endT endW
  repeat' split
  all_goals (simp only[zAB,List.length_append,List.length_cons,List.length_nil];omega)
 unfold zML;rw[List.length_append,List.length_append]
 omega
theorem zMO:∀(l:List BatS),(∀b∈l,EncOk b)→(0≤sumE l∧sumE l≤401000*l.length)∧(0≤sumR l∧sumR l≤1000*l.length)
  |[],_=>by simp[sumE,sumR]
  |x::t,h=>by
    have h2:=zMO t (fun y hy=>h y (List.mem_cons_of_mem _ hy));have h0:=(h x (List.mem_cons_self)).elen;have h1:=(h x (List.mem_cons_self)).len;have e3:sumE (x::t)=(x.enc.length:Int)+sumE t:=by unfold sumE;rw[List.map_cons,List.sum_cons]
    have e4:sumR (x::t)=(x.recs.length:Int)+sumR t:=by unfold sumR;rw[List.map_cons,List.sum_cons]
    rw[e3,e4,List.length_cons]
    omega
structure ToldOk (A T:Bs) (bs:List BatS) (pv:Nat) (rest:Bs) (pe ps:Int):Prop where
  fin:finS A=(bs,pv,rest,pe)
  stop:zGi rest pe=ps
  len:A.length≤90000
  ok:∀b∈bs,EncOk b
  blen:bs.length≤900
  rv:Rn (pv:Nat)
  re:Rn pe
  txt:zML bs (pv:Nat) ps pe=T
variable {W0 w:World}{K:Know}{L:List Res}
theorem zHd{ops:Array Oper}{rest:List Oper}{o:Oper}{a:Act}{Q:Exit→Act→World→Prop}(hgd:o.guard=none)(sl x:Operand)
    (ho:o.op=.call {callee:=.builtin .append,args:= #[sl,x],argTypes:= #[57,9]})
    (v:Value)(n:Nat)(r s:Bs)(hn:n=r.length)(hs:a.eval sl=v)(hst:St W0 w K (.row v 5 1 n (zAi r)::L))(hx:a.eval x=.string (bb s))(hbytes:n+s.length≤140737488355328)
    (h:∀v' w',St W0 w' K (.row v' 5 1 (r++s).length (zAi (r++s))::L)→wpList Tryz.prog ops Q rest (a.put o.dst v') w'):wpList Tryz.prog ops Q (o::rest) a w:=by
  obtain⟨i0,hi,hz0,hz1,hz2⟩:=info_parts zHM;subst hn;refine zDb hgd sl x 57 9 ho 5 i0 Tryz.underlying57 Tryz.underlying9 hi hz0 hz1 hz2 v _ _ hs hst.rowGet (bb s) hx hbytes ?_;intro v' w1 h1 h2 h3;rw[zFk,←zBV]at h1;have e:r.length+(bb s).size=(r++s).length:=by rw[List.length_append];rfl
  rw[e]at h1;exact h v' w1 (hst.rowGrown h1 h2 h3)
theorem St.rowCut{g cap n m:Nat}{T:TypeId}{xs:List Value}(h:St W0 w K (.row (.slice (some ⟨g,0,none⟩) n cap) T 1 n xs::L))(hm:m≤n):St W0 w K (.row (.slice (some ⟨g,0,none⟩) m cap) T 1 m (xs.take m)::L):=by
 refine h.map fun S hS=> ?_
 obtain⟨S1,S2,⟨⟨a1,a2⟩,h2⟩,r⟩:=hS;refine⟨S1,S2,⟨⟨?_,?_⟩,h2⟩,r⟩
 · rw[List.length_take];omega
 · rcases a2 with ⟨a3,_⟩|⟨g2,cap2,cur,e1,e2,e3,e4,e5,e6,e7⟩
   · cases a3
   · simp at e1;obtain⟨rfl,rfl⟩:=e1;refine .inr ⟨g,cap,cur,rfl,e2,e3,by omega,e5,e6,?_⟩;rw[←e7,List.take_take]
     congr 1
     omega
theorem St.rowTextAt{g cap n:Nat}{s:Bs}(h:St W0 w K (.row (.slice (some ⟨g,0,none⟩) n cap) 5 1 n (zAi s)::L))(pos k c:Nat)(hn:n=s.length)(hk:pos+k≤s.length):
   (convert 57 9 (.slice (some ⟨g,pos,none⟩) k c)).run Tryz.prog w=.ok (.string (bb ((s.drop pos).take k))) w:=by
 have hl:((s.drop pos).take k).length=k:=by rw[List.length_take,List.length_drop];omega
 have:=run_convert_bytes_back (P:=Tryz.prog) w 57 9 5 ⟨g,pos,none⟩ c ((s.drop pos).take k) Tryz.underlying57 Tryz.underlying5 Tryz.underlying9 (fun j hj=> ?_)
 · rw[hl]at this;exact this
 · rw[hl]at hj;have ha:(⟨g,pos,none⟩:Addr).add j=⟨g,pos+j,none⟩:=by unfold Addr.add;split<;>simp_all
   rw[ha,h.rowCell (pos+j) (by omega)];have hb:pos+j<s.length:=by omega
   unfold zAi;rw[List.getElem?_map,List.getElem?_eq_getElem hb]
   simp
theorem zOb(w:World):(convert 57 9 (.slice none 0 0)).run Tryz.prog w=.ok (.string ⟨#[]⟩) w:=zIW (s:=[]) (World.ownsRow_nil _ _ _ _)
theorem zMo(w:World)(a:Addr)(c:Nat):(convert 57 9 (.slice (some a) 0 c)).run Tryz.prog w=.ok (.string ⟨#[]⟩) w:=
 run_convert_bytes_back (P:=Tryz.prog) w 57 9 5 a c [] Tryz.underlying57 Tryz.underlying5 Tryz.underlying9 (fun j hj=>by simp at hj)
theorem zAG{P:Program}{fn:Func}{p t u:Tmp}{ty:TypeId}(h:fn.results= #[.cell p ty,.tmp t,.tmp u])(tmps:Array Value)(w:World)(b:Nat)(cs:List Value)(d:TypeDesc)
    (hp:tmps.getD p undef=.pointer (some ⟨b,0,none⟩))(hc:w.rangeAt b 0 cs)(hu:P.underlying ty=some d)(hd:d.isRow=true)(hi:(P.info? ty).map (·.size)=some cs.length):
    (results fn tmps).run P w=.ok (.tuple #[.agg cs.toArray,tmps.getD t undef,tmps.getD u undef]) w:=by
  have hp':tmps[p]?.getD undef=.pointer (some ⟨b,0,none⟩):=by simpa using hp
  simp[results,h,hp',asAddr,run_loadVar_mid w b 0 ty cs d hc hu hd hi]
theorem zPH(p:Nat)(i:InS)(e:Int)(hx:i.err=e)(h:St W0 w K (.inp p i::L)):
  Calls Tryz.prog 168 #[zAs p] w fun en w'=>en=.returned (.int .i64 e)∧St W0 w' K (.inp p i::L):=by
 subst hx;exact zGj p i h
set_option maxHeartbeats 2000000
set_option maxRecDepth 100000
variable {W0 w:World}{K:Know}{L:List Res}
theorem zQE(said rows:Bs)(base ln leader sm at_ last first maxt prod epoch sq:Int)(cnt:Nat)(x:Nat)(hx:(zAp 0#32 (said.drop 21++rows)).toNat=x)(hs1:21≤said.length)(hs2:said.length≤140737488355328)(hs3:rows.length≤140737488355328)(h0:(x:Int)≠sm)(h:St W0 w K L):
  Calls Tryz.prog 189 #[.agg #[.int .i64 base,.int .i64 ln,.int .i64 leader,.int .i64 sm,.int .i64 at_,.int .i64 last,.int .i64 first,.int .i64 maxt,.int .i64 prod,.int .i64 epoch,.int .i64 sq,.int .i64 cnt],.string (bb said),.string (bb rows)] w fun en w'=>en=.returned (.tuple #[.agg #[.int .i64 0,.int .i64 0,.bool false,.bool false,.bool false,.int .i64 0,.int .i64 0,.int .i64 0,.int .i64 0,.int .i64 0,.int .i64 0,.slice none 0 0],.int .i64 5])∧St W0 w' K L:=by
 have gz:((x:Int)==sm)=false:=by rw[beq_eq_false_iff_ne];exact h0
 have gz2:((x:Int) !=sm)=true:=by simp[bne,gz]
 clear h0;have g1:=h.allocRaw #[.int .i64 base,.int .i64 ln,.int .i64 leader,.int .i64 sm,.int .i64 at_,.int .i64 last,.int .i64 first,.int .i64 maxt,.int .i64 prod,.int .i64 epoch,.int .i64 sq,.int .i64 cnt] 130;have g2:=g1.allocRaw #[.int .i64 0,.int .i64 0,.bool false,.bool false,.bool false,.int .i64 0,.int .i64 0,.int .i64 0,.int .i64 0,.int .i64 0,.int .i64 0,.slice none 0 0] 30;obtain⟨pb,hpb⟩:∃b,w.heap.size=b:=⟨_,rfl⟩;obtain⟨rb,hrb⟩:∃b,pb+1=b:=⟨_,rfl⟩;simp only[World.size_alloc,hpb,hrb]at g2;have H:=hQd g2;have HX:=hQd hx;have HS1:=hQd hs1;have HS2:=hQd hs2;have HS3:=hQd hs3;clear h g1 g2 hx hs1 hs2 hs3;go_enter Tryz.func189,Tryz.ntmps189;go_upto_region 1 with (fail);have hs:=H.out.drew;refine wp_region_held_drew (S:=fun w'=>w'.cell? ⟨pb,0,none⟩=some (.int .i64 base)∧w'.cell? ⟨pb,1,none⟩=some (.int .i64 ln)∧w'.cell? ⟨pb,2,none⟩=some (.int .i64 leader)∧w'.cell? ⟨pb,3,none⟩=some (.int .i64 sm)∧w'.cell? ⟨pb,4,none⟩=some (.int .i64 at_)∧w'.cell? ⟨pb,5,none⟩=some (.int .i64 last)∧w'.cell? ⟨pb,6,none⟩=some (.int .i64 first)∧w'.cell? ⟨pb,7,none⟩=some (.int .i64 maxt)∧w'.cell? ⟨pb,8,none⟩=some (.int .i64 prod)∧w'.cell? ⟨pb,9,none⟩=some (.int .i64 epoch)∧w'.cell? ⟨pb,10,none⟩=some (.int .i64 sq)∧w'.cell? ⟨pb,11,none⟩=some (.int .i64 cnt)) (by kernel_rfl) (let ⟨x0,x1,x2,x3,x4,x5,x6,x7,x8,x9,x10,x11,_⟩:=zAa (b:=pb) (hs.p1);⟨x0,x1,x2,x3,x4,x5,x6,x7,x8,x9,x10,x11⟩) (fun hHeld=> ?_);refine tQ 0 ⟨some 12,.move (.tmp 1),9,_,_,none⟩ ?_;simp only[Act.put,sA,sB,sC];refine tQ 1 ⟨some 13,.move (.tmp 2),9,_,_,none⟩ ?_;simp only[Act.put,sA,sB,sC];refine tQ 3 ⟨some 15,.fieldAddr 130 (.tmp 3) 3,0,_,_,none⟩ ?_;simp only[Act.put,sA,sB,sC];refine tQ 4 ⟨some 16,.load 3 (.tmp 15),3,_,_,none⟩ ?_;simp only[Act.put,sA,sB,sC];refine wpAnyH_ready (rs:=[2]) (by kernel_rfl) (by simp) (AllReadyH.cons (o:=⟨some 14,.call {callee:=.value (.func 88),args:= #[.tmp 12,.tmp 13],argTypes:= #[9,9]},3,_,_,none⟩) rfl (fun KK hK=> ?_) AllReadyH.nil);go_simp;go_at_call 88;with_reducible refine(zEE said rows x HX.out HS1.out HS2.out HS3.out hs).mono ?_;rintro e wq ⟨rfl,hs⟩;refine hK.out _ _ (let ⟨x0,x1,x2,x3,x4,x5,x6,x7,x8,x9,x10,x11,_⟩:=zAa (b:=pb) (hs.p1);⟨x0,x1,x2,x3,x4,x5,x6,x7,x8,x9,x10,x11⟩) (fun hHeld=> ?_);clear hK KK
 try simp only[Act.put,sA,sB,sC]
 refine tQ 5 ⟨some 17,.binOp .neq 3 (.tmp 14) (.tmp 16) 3,4,_,_,none⟩ ?_;simp only[Act.put,sA,sB,sC];refine wpAnyH_done (by kernel_rfl) ?_ _;clear hHeld;have H:=hQd hs;clear hs;obtain⟨p0,p1,p2,p3,p4,p5,p6,p7,p8,p9,p10,p11,u0,u1,u2,u3,u4,u5,u6,u7,u8,u9,u10,u11⟩:=zAa (b:=rb) (H.out);obtain⟨x0,x1,x2,x3,x4,x5,x6,x7,x8,x9,x10,x11,y0,y1,y2,y3,y4,y5,y6,y7,y8,y9,y10,y11⟩:=zAa (b:=pb) ((H.out).p1);go_wp2_with fail;have hz:St W0 _ _ (.raw rb #[.int .i64 0,.int .i64 0,.bool false,.bool false,.bool false,.int .i64 0,.int .i64 0,.int .i64 0,.int .i64 0,.int .i64 0,.int .i64 0,.slice none 0 0] 30::_):=St.sets12 _ _ _ _ _ _ _ _ _ _ _ _ (H.out);refine bodyPost_ret (zAY rfl _ _ rb [.int .i64 0,.int .i64 0,.bool false,.bool false,.bool false,.int .i64 0,.int .i64 0,.int .i64 0,.int .i64 0,.int .i64 0,.int .i64 0,.slice none 0 0] _ rfl (zAo hz) Tryz.underlying30 rfl (by kernel_rfl)) rfl ?_;exact⟨rfl,hz.drop.drop⟩
theorem zPw(said rows:Bs)(base ln leader sm at_ last first maxt prod epoch sq:Int)(cnt:Nat)(x:Nat)(hx:(zAp 0#32 (said.drop 21++rows)).toNat=x)(hs1:21≤said.length)(hs2:said.length≤140737488355328)(hs3:rows.length≤140737488355328)(h0:(x:Int)=sm)(e:Int)(hat:chk at_=e)(har:R64 at_)(he:e≠0)(h:St W0 w K L):
  Calls Tryz.prog 189 #[.agg #[.int .i64 base,.int .i64 ln,.int .i64 leader,.int .i64 sm,.int .i64 at_,.int .i64 last,.int .i64 first,.int .i64 maxt,.int .i64 prod,.int .i64 epoch,.int .i64 sq,.int .i64 cnt],.string (bb said),.string (bb rows)] w fun en w'=>en=.returned (.tuple #[.agg #[.int .i64 0,.int .i64 0,.bool false,.bool false,.bool false,.int .i64 0,.int .i64 0,.int .i64 0,.int .i64 0,.int .i64 0,.int .i64 0,.slice none 0 0],.int .i64 e])∧St W0 w' K L:=by
 have gs:((x:Int)==sm)=true:=by rw[h0];exact beq_self_eq_true _
 have gs2:((x:Int) !=sm)=false:=by simp[bne,gs]
 clear h0;have gz:(e==0)=false:=by rw[beq_eq_false_iff_ne];exact he
 have HAT:=hQd hat;have HAR:=hQd har;clear he hat har;have g1:=h.allocRaw #[.int .i64 base,.int .i64 ln,.int .i64 leader,.int .i64 sm,.int .i64 at_,.int .i64 last,.int .i64 first,.int .i64 maxt,.int .i64 prod,.int .i64 epoch,.int .i64 sq,.int .i64 cnt] 130;have g2:=g1.allocRaw #[.int .i64 0,.int .i64 0,.bool false,.bool false,.bool false,.int .i64 0,.int .i64 0,.int .i64 0,.int .i64 0,.int .i64 0,.int .i64 0,.slice none 0 0] 30;obtain⟨pb,hpb⟩:∃b,w.heap.size=b:=⟨_,rfl⟩;obtain⟨rb,hrb⟩:∃b,pb+1=b:=⟨_,rfl⟩;simp only[World.size_alloc,hpb,hrb]at g2;have H:=hQd g2;have HX:=hQd hx;have HS1:=hQd hs1;have HS2:=hQd hs2;have HS3:=hQd hs3;clear h g1 g2 hx hs1 hs2 hs3;go_enter Tryz.func189,Tryz.ntmps189;go_upto_region 1 with (fail);have hs:=H.out.drew;refine wp_region_held_drew (S:=fun w'=>w'.cell? ⟨pb,0,none⟩=some (.int .i64 base)∧w'.cell? ⟨pb,1,none⟩=some (.int .i64 ln)∧w'.cell? ⟨pb,2,none⟩=some (.int .i64 leader)∧w'.cell? ⟨pb,3,none⟩=some (.int .i64 sm)∧w'.cell? ⟨pb,4,none⟩=some (.int .i64 at_)∧w'.cell? ⟨pb,5,none⟩=some (.int .i64 last)∧w'.cell? ⟨pb,6,none⟩=some (.int .i64 first)∧w'.cell? ⟨pb,7,none⟩=some (.int .i64 maxt)∧w'.cell? ⟨pb,8,none⟩=some (.int .i64 prod)∧w'.cell? ⟨pb,9,none⟩=some (.int .i64 epoch)∧w'.cell? ⟨pb,10,none⟩=some (.int .i64 sq)∧w'.cell? ⟨pb,11,none⟩=some (.int .i64 cnt)) (by kernel_rfl) (let ⟨x0,x1,x2,x3,x4,x5,x6,x7,x8,x9,x10,x11,_⟩:=zAa (b:=pb) (hs.p1);⟨x0,x1,x2,x3,x4,x5,x6,x7,x8,x9,x10,x11⟩) (fun hHeld=> ?_);refine tQ 0 ⟨some 12,.move (.tmp 1),9,_,_,none⟩ ?_;simp only[Act.put,sA,sB,sC];refine tQ 1 ⟨some 13,.move (.tmp 2),9,_,_,none⟩ ?_;simp only[Act.put,sA,sB,sC];refine tQ 3 ⟨some 15,.fieldAddr 130 (.tmp 3) 3,0,_,_,none⟩ ?_;simp only[Act.put,sA,sB,sC];refine tQ 4 ⟨some 16,.load 3 (.tmp 15),3,_,_,none⟩ ?_;simp only[Act.put,sA,sB,sC];refine wpAnyH_ready (rs:=[2]) (by kernel_rfl) (by simp) (AllReadyH.cons (o:=⟨some 14,.call {callee:=.value (.func 88),args:= #[.tmp 12,.tmp 13],argTypes:= #[9,9]},3,_,_,none⟩) rfl (fun KK hK=> ?_) AllReadyH.nil);go_simp;go_at_call 88;with_reducible refine(zEE said rows x HX.out HS1.out HS2.out HS3.out hs).mono ?_;rintro e wq ⟨rfl,hs⟩;refine hK.out _ _ (let ⟨x0,x1,x2,x3,x4,x5,x6,x7,x8,x9,x10,x11,_⟩:=zAa (b:=pb) (hs.p1);⟨x0,x1,x2,x3,x4,x5,x6,x7,x8,x9,x10,x11⟩) (fun hHeld=> ?_);clear hK KK
 try simp only[Act.put,sA,sB,sC]
 refine tQ 5 ⟨some 17,.binOp .neq 3 (.tmp 14) (.tmp 16) 3,4,_,_,none⟩ ?_;simp only[Act.put,sA,sB,sC];refine wpAnyH_done (by kernel_rfl) ?_ _;clear hHeld;have H:=hQd hs;clear hs;obtain⟨p0,p1,p2,p3,p4,p5,p6,p7,p8,p9,p10,p11,u0,u1,u2,u3,u4,u5,u6,u7,u8,u9,u10,u11⟩:=zAa (b:=rb) (H.out);obtain⟨x0,x1,x2,x3,x4,x5,x6,x7,x8,x9,x10,x11,y0,y1,y2,y3,y4,y5,y6,y7,y8,y9,y10,y11⟩:=zAa (b:=pb) ((H.out).p1);go_wp2_with (go_at_call 199;(with_reducible refine(zCs at_ e HAT.out HAR.out H.out).mono ?_);rintro e_ wn ⟨rfl,h⟩;replace H:=hQd h;clear h;obtain⟨p0,p1,p2,p3,p4,p5,p6,p7,p8,p9,p10,p11,u0,u1,u2,u3,u4,u5,u6,u7,u8,u9,u10,u11⟩:=zAa (b:=rb) (H.out);obtain⟨x0,x1,x2,x3,x4,x5,x6,x7,x8,x9,x10,x11,y0,y1,y2,y3,y4,y5,y6,y7,y8,y9,y10,y11⟩:=zAa (b:=pb) ((H.out).p1));have hz:St W0 _ _ (.raw rb #[.int .i64 0,.int .i64 0,.bool false,.bool false,.bool false,.int .i64 0,.int .i64 0,.int .i64 0,.int .i64 0,.int .i64 0,.int .i64 0,.slice none 0 0] 30::_):=St.sets12 _ _ _ _ _ _ _ _ _ _ _ _ (H.out);refine bodyPost_ret (zAY rfl _ _ rb [.int .i64 0,.int .i64 0,.bool false,.bool false,.bool false,.int .i64 0,.int .i64 0,.int .i64 0,.int .i64 0,.int .i64 0,.int .i64 0,.slice none 0 0] _ rfl (zAo hz) Tryz.underlying30 rfl (by kernel_rfl)) rfl ?_;exact⟨rfl,hz.drop.drop⟩
theorem zPu(said rows:Bs)(base ln leader sm at_ last first maxt prod epoch sq:Int)(cnt:Nat)(x:Nat)(hx:(zAp 0#32 (said.drop 21++rows)).toNat=x)(hs1:21≤said.length)(hs2:said.length≤140737488355328)(hs3:rows.length≤140737488355328)(h0:(x:Int)=sm)(hat:chk at_=0)(har:R64 at_)(hcn:cnt≤2147483647)(e:Int)(hu:unp cnt ⟨rows,0,0⟩=.error e)(he:e≠0)(h:St W0 w K L):
  Calls Tryz.prog 189 #[.agg #[.int .i64 base,.int .i64 ln,.int .i64 leader,.int .i64 sm,.int .i64 at_,.int .i64 last,.int .i64 first,.int .i64 maxt,.int .i64 prod,.int .i64 epoch,.int .i64 sq,.int .i64 cnt],.string (bb said),.string (bb rows)] w fun en w'=>en=.returned (.tuple #[.agg #[.int .i64 0,.int .i64 0,.bool false,.bool false,.bool false,.int .i64 0,.int .i64 0,.int .i64 0,.int .i64 0,.int .i64 0,.int .i64 0,.slice none 0 0],.int .i64 e])∧St W0 w' K L:=by
 have gs:((x:Int)==sm)=true:=by rw[h0];exact beq_self_eq_true _
 have gs2:((x:Int) !=sm)=false:=by simp[bne,gs]
 clear h0;have gz:(e==0)=false:=by rw[beq_eq_false_iff_ne];exact he
 have HAT:=hQd hat;have HAR:=hQd har;have HCN:=hQd hcn;have HU:=hQd hu;have HEZ:=hQd he;clear he hat har hcn hu;have g1:=h.allocRaw #[.int .i64 base,.int .i64 ln,.int .i64 leader,.int .i64 sm,.int .i64 at_,.int .i64 last,.int .i64 first,.int .i64 maxt,.int .i64 prod,.int .i64 epoch,.int .i64 sq,.int .i64 cnt] 130;have g2:=g1.allocRaw #[.int .i64 0,.int .i64 0,.bool false,.bool false,.bool false,.int .i64 0,.int .i64 0,.int .i64 0,.int .i64 0,.int .i64 0,.int .i64 0,.slice none 0 0] 30;obtain⟨pb,hpb⟩:∃b,w.heap.size=b:=⟨_,rfl⟩;obtain⟨rb,hrb⟩:∃b,pb+1=b:=⟨_,rfl⟩;simp only[World.size_alloc,hpb,hrb]at g2;have H:=hQd g2;have HX:=hQd hx;have HS1:=hQd hs1;have HS2:=hQd hs2;have HS3:=hQd hs3;clear h g1 g2 hx hs1 hs2 hs3;go_enter Tryz.func189,Tryz.ntmps189;go_upto_region 1 with (fail);have hs:=H.out.drew;refine wp_region_held_drew (S:=fun w'=>w'.cell? ⟨pb,0,none⟩=some (.int .i64 base)∧w'.cell? ⟨pb,1,none⟩=some (.int .i64 ln)∧w'.cell? ⟨pb,2,none⟩=some (.int .i64 leader)∧w'.cell? ⟨pb,3,none⟩=some (.int .i64 sm)∧w'.cell? ⟨pb,4,none⟩=some (.int .i64 at_)∧w'.cell? ⟨pb,5,none⟩=some (.int .i64 last)∧w'.cell? ⟨pb,6,none⟩=some (.int .i64 first)∧w'.cell? ⟨pb,7,none⟩=some (.int .i64 maxt)∧w'.cell? ⟨pb,8,none⟩=some (.int .i64 prod)∧w'.cell? ⟨pb,9,none⟩=some (.int .i64 epoch)∧w'.cell? ⟨pb,10,none⟩=some (.int .i64 sq)∧w'.cell? ⟨pb,11,none⟩=some (.int .i64 cnt)) (by kernel_rfl) (let ⟨x0,x1,x2,x3,x4,x5,x6,x7,x8,x9,x10,x11,_⟩:=zAa (b:=pb) (hs.p1);⟨x0,x1,x2,x3,x4,x5,x6,x7,x8,x9,x10,x11⟩) (fun hHeld=> ?_);refine tQ 0 ⟨some 12,.move (.tmp 1),9,_,_,none⟩ ?_;simp only[Act.put,sA,sB,sC];refine tQ 1 ⟨some 13,.move (.tmp 2),9,_,_,none⟩ ?_;simp only[Act.put,sA,sB,sC];refine tQ 3 ⟨some 15,.fieldAddr 130 (.tmp 3) 3,0,_,_,none⟩ ?_;simp only[Act.put,sA,sB,sC];refine tQ 4 ⟨some 16,.load 3 (.tmp 15),3,_,_,none⟩ ?_;simp only[Act.put,sA,sB,sC];refine wpAnyH_ready (rs:=[2]) (by kernel_rfl) (by simp) (AllReadyH.cons (o:=⟨some 14,.call {callee:=.value (.func 88),args:= #[.tmp 12,.tmp 13],argTypes:= #[9,9]},3,_,_,none⟩) rfl (fun KK hK=> ?_) AllReadyH.nil);go_simp;go_at_call 88;with_reducible refine(zEE said rows x HX.out HS1.out HS2.out HS3.out hs).mono ?_;rintro e wq ⟨rfl,hs⟩;refine hK.out _ _ (let ⟨x0,x1,x2,x3,x4,x5,x6,x7,x8,x9,x10,x11,_⟩:=zAa (b:=pb) (hs.p1);⟨x0,x1,x2,x3,x4,x5,x6,x7,x8,x9,x10,x11⟩) (fun hHeld=> ?_);clear hK KK
 try simp only[Act.put,sA,sB,sC]
 refine tQ 5 ⟨some 17,.binOp .neq 3 (.tmp 14) (.tmp 16) 3,4,_,_,none⟩ ?_;simp only[Act.put,sA,sB,sC];refine wpAnyH_done (by kernel_rfl) ?_ _;clear hHeld;have H:=hQd hs;clear hs;obtain⟨p0,p1,p2,p3,p4,p5,p6,p7,p8,p9,p10,p11,u0,u1,u2,u3,u4,u5,u6,u7,u8,u9,u10,u11⟩:=zAa (b:=rb) (H.out);obtain⟨x0,x1,x2,x3,x4,x5,x6,x7,x8,x9,x10,x11,y0,y1,y2,y3,y4,y5,y6,y7,y8,y9,y10,y11⟩:=zAa (b:=pb) ((H.out).p1)
 go_wp2_with (first
 |(go_at_call 199;(with_reducible refine(zCs at_ 0 HAT.out HAR.out H.out).mono ?_);rintro e_ wn ⟨rfl,h⟩;replace H:=hQd h;clear h;obtain⟨p0,p1,p2,p3,p4,p5,p6,p7,p8,p9,p10,p11,u0,u1,u2,u3,u4,u5,u6,u7,u8,u9,u10,u11⟩:=zAa (b:=rb) (H.out);obtain⟨x0,x1,x2,x3,x4,x5,x6,x7,x8,x9,x10,x11,y0,y1,y2,y3,y4,y5,y6,y7,y8,y9,y10,y11⟩:=zAa (b:=pb) ((H.out).p1))
 |(go_at_call 200;(with_reducible refine(zGy rows cnt HCN.out HS3.out e HEZ.out HU.out H.out).mono ?_);rintro e_ wn ⟨rfl,h⟩;replace H:=hQd h;clear h;obtain⟨p0,p1,p2,p3,p4,p5,p6,p7,p8,p9,p10,p11,u0,u1,u2,u3,u4,u5,u6,u7,u8,u9,u10,u11⟩:=zAa (b:=rb) (H.out);obtain⟨x0,x1,x2,x3,x4,x5,x6,x7,x8,x9,x10,x11,y0,y1,y2,y3,y4,y5,y6,y7,y8,y9,y10,y11⟩:=zAa (b:=pb) ((H.out).p1)))
 have hz:St W0 _ _ (.raw rb #[.int .i64 0,.int .i64 0,.bool false,.bool false,.bool false,.int .i64 0,.int .i64 0,.int .i64 0,.int .i64 0,.int .i64 0,.int .i64 0,.slice none 0 0] 30::_):=St.sets12 _ _ _ _ _ _ _ _ _ _ _ _ (H.out);refine bodyPost_ret (zAY rfl _ _ rb [.int .i64 0,.int .i64 0,.bool false,.bool false,.bool false,.int .i64 0,.int .i64 0,.int .i64 0,.int .i64 0,.int .i64 0,.int .i64 0,.slice none 0 0] _ rfl (zAo hz) Tryz.underlying30 rfl (by kernel_rfl)) rfl ?_;exact⟨rfl,hz.drop.drop⟩
set_option maxHeartbeats 4000000
variable {W0 w:World}{K:Know}{L:List Res}
theorem asm_ok(said rows:Bs)(base ln leader sm at_ last first maxt prod epoch sq:Int)(cnt:Nat)(x:Nat)(hx:(zAp 0#32 (said.drop 21++rows)).toNat=x)(hs1:21≤said.length)(hs2:said.length≤140737488355328)(hs3:rows.length≤140737488355328)(h0:(x:Int)=sm)(hat:chk at_=0)(har:R64 at_)(hcn:cnt≤2147483647)(hr1:rows.length≤1000000)(hmx:first≤9223372036854775807)(rs:List RecS)(hu:unp cnt ⟨rows,0,0⟩=.ok rs)(hbe:zAc (⟨base,leader,zAb at_ 3,zAb at_ 4,zAb at_ 5,last,first,maxt,prod,epoch,sq,rs⟩:BatS)=0)(h:St W0 w K L):
  Calls Tryz.prog 189 #[.agg #[.int .i64 base,.int .i64 ln,.int .i64 leader,.int .i64 sm,.int .i64 at_,.int .i64 last,.int .i64 first,.int .i64 maxt,.int .i64 prod,.int .i64 epoch,.int .i64 sq,.int .i64 cnt],.string (bb said),.string (bb rows)] w fun en w'=>∃(q:Option Addr) (l:List (RecS×Value)) (cap:Nat),en=.returned (.tuple #[.agg #[.int .i64 base,.int .i64 leader,.bool (zAb at_ 3),.bool (zAb at_ 4),.bool (zAb at_ 5),.int .i64 last,.int .i64 first,.int .i64 maxt,.int .i64 prod,.int .i64 epoch,.int .i64 sq,.slice q l.length cap],.int .i64 0])∧l.map (·.1)=rs∧St W0 w' (K.and (Know.recs (.slice q l.length cap) l)) L:=by
 have gs:((x:Int)==sm)=true:=by rw[h0];exact beq_self_eq_true _
 have gs2:((x:Int) !=sm)=false:=by simp[bne,gs]
 clear h0;have HAT:=hQd hat;have HAR:=hQd har;have HCN:=hQd hcn;have HU:=hQd hu;have HR1:=hQd hr1;have HMX:=hQd hmx;have HB0:=hQd hbe;clear hat har hcn hu hr1 hmx hbe;have g1:=h.allocRaw #[.int .i64 base,.int .i64 ln,.int .i64 leader,.int .i64 sm,.int .i64 at_,.int .i64 last,.int .i64 first,.int .i64 maxt,.int .i64 prod,.int .i64 epoch,.int .i64 sq,.int .i64 cnt] 130;have g2:=g1.allocRaw #[.int .i64 0,.int .i64 0,.bool false,.bool false,.bool false,.int .i64 0,.int .i64 0,.int .i64 0,.int .i64 0,.int .i64 0,.int .i64 0,.slice none 0 0] 30;obtain⟨pb,hpb⟩:∃b,w.heap.size=b:=⟨_,rfl⟩;obtain⟨rb,hrb⟩:∃b,pb+1=b:=⟨_,rfl⟩;simp only[World.size_alloc,hpb,hrb]at g2;have H:=hQd g2;have HX:=hQd hx;have HS1:=hQd hs1;have HS2:=hQd hs2;have HS3:=hQd hs3;clear h g1 g2 hx hs1 hs2 hs3;go_enter Tryz.func189,Tryz.ntmps189;go_upto_region 1 with (fail);have hs:=H.out.drew;refine wp_region_held_drew (S:=fun w'=>w'.cell? ⟨pb,0,none⟩=some (.int .i64 base)∧w'.cell? ⟨pb,1,none⟩=some (.int .i64 ln)∧w'.cell? ⟨pb,2,none⟩=some (.int .i64 leader)∧w'.cell? ⟨pb,3,none⟩=some (.int .i64 sm)∧w'.cell? ⟨pb,4,none⟩=some (.int .i64 at_)∧w'.cell? ⟨pb,5,none⟩=some (.int .i64 last)∧w'.cell? ⟨pb,6,none⟩=some (.int .i64 first)∧w'.cell? ⟨pb,7,none⟩=some (.int .i64 maxt)∧w'.cell? ⟨pb,8,none⟩=some (.int .i64 prod)∧w'.cell? ⟨pb,9,none⟩=some (.int .i64 epoch)∧w'.cell? ⟨pb,10,none⟩=some (.int .i64 sq)∧w'.cell? ⟨pb,11,none⟩=some (.int .i64 cnt)) (by kernel_rfl) (let ⟨x0,x1,x2,x3,x4,x5,x6,x7,x8,x9,x10,x11,_⟩:=zAa (b:=pb) (hs.p1);⟨x0,x1,x2,x3,x4,x5,x6,x7,x8,x9,x10,x11⟩) (fun hHeld=> ?_);refine tQ 0 ⟨some 12,.move (.tmp 1),9,_,_,none⟩ ?_;simp only[Act.put,sA,sB,sC];refine tQ 1 ⟨some 13,.move (.tmp 2),9,_,_,none⟩ ?_;simp only[Act.put,sA,sB,sC];refine tQ 3 ⟨some 15,.fieldAddr 130 (.tmp 3) 3,0,_,_,none⟩ ?_;simp only[Act.put,sA,sB,sC];refine tQ 4 ⟨some 16,.load 3 (.tmp 15),3,_,_,none⟩ ?_;simp only[Act.put,sA,sB,sC];refine wpAnyH_ready (rs:=[2]) (by kernel_rfl) (by simp) (AllReadyH.cons (o:=⟨some 14,.call {callee:=.value (.func 88),args:= #[.tmp 12,.tmp 13],argTypes:= #[9,9]},3,_,_,none⟩) rfl (fun KK hK=> ?_) AllReadyH.nil);go_simp;go_at_call 88;with_reducible refine(zEE said rows x HX.out HS1.out HS2.out HS3.out hs).mono ?_;rintro e wq ⟨rfl,hs⟩;refine hK.out _ _ (let ⟨x0,x1,x2,x3,x4,x5,x6,x7,x8,x9,x10,x11,_⟩:=zAa (b:=pb) (hs.p1);⟨x0,x1,x2,x3,x4,x5,x6,x7,x8,x9,x10,x11⟩) (fun hHeld=> ?_);clear hK KK
 try simp only[Act.put,sA,sB,sC]
 refine tQ 5 ⟨some 17,.binOp .neq 3 (.tmp 14) (.tmp 16) 3,4,_,_,none⟩ ?_;simp only[Act.put,sA,sB,sC];refine wpAnyH_done (by kernel_rfl) ?_ _;clear hHeld;have H:=hQd hs;clear hs;obtain⟨p0,p1,p2,p3,p4,p5,p6,p7,p8,p9,p10,p11,u0,u1,u2,u3,u4,u5,u6,u7,u8,u9,u10,u11⟩:=zAa (b:=rb) (H.out);obtain⟨x0,x1,x2,x3,x4,x5,x6,x7,x8,x9,x10,x11,y0,y1,y2,y3,y4,y5,y6,y7,y8,y9,y10,y11⟩:=zAa (b:=pb) ((H.out).p1)
 go_upto_region 11 with (first
 |(go_at_call 199;(with_reducible refine(zCs at_ 0 HAT.out HAR.out H.out).mono ?_);rintro e_ wn ⟨rfl,h⟩;replace H:=hQd h;clear h;obtain⟨p0,p1,p2,p3,p4,p5,p6,p7,p8,p9,p10,p11,u0,u1,u2,u3,u4,u5,u6,u7,u8,u9,u10,u11⟩:=zAa (b:=rb) (H.out);obtain⟨x0,x1,x2,x3,x4,x5,x6,x7,x8,x9,x10,x11,y0,y1,y2,y3,y4,y5,y6,y7,y8,y9,y10,y11⟩:=zAa (b:=pb) ((H.out).p1))
 |(go_at_call 200;(with_reducible refine(zD0 rows cnt HCN.out HS3.out rs HU.out H.out).mono ?_);rintro e_ wn ⟨rv,l,rfl,hlr,h⟩;obtain⟨q,cap,hrv⟩:=zBZ (Know.has_right (Know.has_refl _)) h;subst hrv;obtain⟨hff,hfl⟩:=zKL HU.out hlr HR1.out;have HFT:=hQd hff;have HLL:=hQd hfl;have HLR:=hQd hlr;clear hff hfl hlr;obtain⟨p0,p1,p2,p3,p4,p5,p6,p7,p8,p9,p10,p11,u0,u1,u2,u3,u4,u5,u6,u7,u8,u9,u10,u11⟩:=zAa (b:=rb) (h);obtain⟨x0,x1,x2,x3,x4,x5,x6,x7,x8,x9,x10,x11,y0,y1,y2,y3,y4,y5,y6,y7,y8,y9,y10,y11⟩:=zAa (b:=pb) ((h).p1);have h:=h.allocRaw #[.int .i64 base,.int .i64 leader,.bool false,.bool false,.bool false,.int .i64 last,.int .i64 first,.int .i64 maxt,.int .i64 prod,.int .i64 epoch,.int .i64 sq,.slice q l.length cap] 30;obtain⟨bB,hbB⟩:∃b,wn.heap.size=b:=⟨_,rfl⟩;rw[hbB]at h;obtain⟨x0,x1,x2,x3,x4,x5,x6,x7,x8,x9,x10,x11,y0,y1,y2,y3,y4,y5,y6,y7,y8,y9,y10,y11⟩:=zAa (b:=pb) (h.p2);obtain⟨a0,a1,a2,a3,a4,a5,a6,a7,a8,a9,a10,a11,f0,f1,f2,f3,f4,f5,f6,f7,f8,f9,f10,f11⟩:=zAa (b:=bB) (h);replace H:=hQd h;clear h)
 |(go_at_call 201;(with_reducible refine(zHc at_ H.out).mono ?_);rintro e_ wn ⟨rfl,h⟩;obtain⟨a0,a1,a2,a3,a4,a5,a6,a7,a8,a9,a10,a11,f0,f1,f2,f3,f4,f5,f6,f7,f8,f9,f10,f11⟩:=zAa (b:=bB) (h);replace H:=hQd h;clear h))
 have HBE:=hQd (show zAc ⟨base,leader,zAb at_ 3,zAb at_ 4,zAb at_ 5,last,first,maxt,prod,epoch,sq,l.map (·.1)⟩=0 by rw[HLR.out];exact HB0.out);have hs:St W0 _ _ (.raw bB #[.int .i64 base,.int .i64 leader,.bool (zAb at_ 3),.bool (zAb at_ 4),.bool (zAb at_ 5),.int .i64 last,.int .i64 first,.int .i64 maxt,.int .i64 prod,.int .i64 epoch,.int .i64 sq,.slice q l.length cap] 30::_):=((H.out.rawSet 2 (.bool (zAb at_ 3))).rawSet 3 (.bool (zAb at_ 4))).rawSet 4 (.bool (zAb at_ 5));have hs:=hs.drew;clear x0 y0 a0 f0 x1 y1 a1 f1 x2 y2 a2 f2 x3 y3 a3 f3 x4 y4 a4 f4 x5 y5 a5 f5 x6 y6 a6 f6 x7 y7 a7 f7 x8 y8 a8 f8 x9 y9 a9 f9 x10 y10 a10 f10 x11 y11 a11 f11;refine wp_region_held_drew (S:=fun w'=>w'.cell? ⟨bB,0,none⟩=some (.int .i64 base)∧w'.cell? ⟨bB,1,none⟩=some (.int .i64 leader)∧w'.cell? ⟨bB,2,none⟩=some (.bool (zAb at_ 3))∧w'.cell? ⟨bB,3,none⟩=some (.bool (zAb at_ 4))∧w'.cell? ⟨bB,4,none⟩=some (.bool (zAb at_ 5))∧w'.cell? ⟨bB,5,none⟩=some (.int .i64 last)∧w'.cell? ⟨bB,6,none⟩=some (.int .i64 first)∧w'.cell? ⟨bB,7,none⟩=some (.int .i64 maxt)∧w'.cell? ⟨bB,8,none⟩=some (.int .i64 prod)∧w'.cell? ⟨bB,9,none⟩=some (.int .i64 epoch)∧w'.cell? ⟨bB,10,none⟩=some (.int .i64 sq)∧w'.cell? ⟨bB,11,none⟩=some (.slice q l.length cap)) (by kernel_rfl) (let ⟨x0,x1,x2,x3,x4,x5,x6,x7,x8,x9,x10,x11,_⟩:=zAa (b:=bB) (hs);⟨x0,x1,x2,x3,x4,x5,x6,x7,x8,x9,x10,x11⟩) (fun hHeld=> ?_);refine tQ 0 ⟨some 65,.load 30 (.tmp 11),30,_,_,none⟩ ?_;simp only[Act.put,sA,sB,sC];refine tQ 1 ⟨some 66,.load 30 (.tmp 11),30,_,_,none⟩ ?_;simp only[Act.put,sA,sB,sC];refine wpAnyH_ready (rs:=[2]) (by kernel_rfl) (by simp) (AllReadyH.cons (o:=⟨some 67,.call {callee:=.value (.func 35),args:= #[.tmp 66],argTypes:= #[30]},44,_,_,none⟩) rfl (fun KK hK=> ?_) AllReadyH.nil);go_simp;go_at_call 35;with_reducible refine(zBS base leader (zAb at_ 3) (zAb at_ 4) (zAb at_ 5) last first maxt prod epoch sq l q cap 0 HBE.out HMX.out HFT.out HLL.out (Know.has_right (Know.has_refl _)) hs).mono ?_;rintro e wq ⟨rfl,hs⟩;refine hK.out _ _ (let ⟨x0,x1,x2,x3,x4,x5,x6,x7,x8,x9,x10,x11,_⟩:=zAa (b:=bB) (hs);⟨x0,x1,x2,x3,x4,x5,x6,x7,x8,x9,x10,x11⟩) (fun hHeld=> ?_);clear hK KK
 try simp only[Act.put,sA,sB,sC]
 refine wpAnyH_ready (rs:=[3]) (by kernel_rfl) (by simp) (AllReadyH.cons (o:=⟨none,.store 30 (.tmp 6) (.tmp 65),0,_,_,none⟩) rfl (fun KK hK=> ?_) AllReadyH.nil);have hs:=hs.p1;rw[if_pos (by rfl)];refine wp_store_mid 30 (.tmp 6) (.tmp 65) rfl rb 0 #[.int .i64 base,.int .i64 leader,.bool (zAb at_ 3),.bool (zAb at_ 4),.bool (zAb at_ 5),.int .i64 last,.int .i64 first,.int .i64 maxt,.int .i64 prod,.int .i64 epoch,.int .i64 sq,.slice q l.length cap] (by rfl) (by rfl) hs.there (by kernel_rfl) (by simp[Value.oneCell']) ?_;obtain⟨wz,ez,hs⟩:=hs.storeEx #[.int .i64 base,.int .i64 leader,.bool (zAb at_ 3),.bool (zAb at_ 4),.bool (zAb at_ 5),.int .i64 last,.int .i64 first,.int .i64 maxt,.int .i64 prod,.int .i64 epoch,.int .i64 sq,.slice q l.length cap];rw[ez];clear ez;refine hK.out _ _ (let ⟨x0,x1,x2,x3,x4,x5,x6,x7,x8,x9,x10,x11,_⟩:=zAa (b:=bB) (hs.p1);⟨x0,x1,x2,x3,x4,x5,x6,x7,x8,x9,x10,x11⟩) (fun hHeld=> ?_);clear hK KK
 try simp only[Act.put]
 refine tQ 4 ⟨some 7,.assign (.tmp 67),44,_,_,none⟩ ?_;simp only[Act.put,sA,sB,sC];refine wpAnyH_done (by kernel_rfl) ?_ _;clear hHeld;rw[zD9]at hs;rotate_left
 · rfl
 have hz:St W0 _ _ (.raw rb #[.int .i64 base,.int .i64 leader,.bool (zAb at_ 3),.bool (zAb at_ 4),.bool (zAb at_ 5),.int .i64 last,.int .i64 first,.int .i64 maxt,.int .i64 prod,.int .i64 epoch,.int .i64 sq,.slice q l.length cap] 30::_):=hs;go_wp2_with fail;refine bodyPost_ret (zAY rfl _ _ rb [.int .i64 base,.int .i64 leader,.bool (zAb at_ 3),.bool (zAb at_ 4),.bool (zAb at_ 5),.int .i64 last,.int .i64 first,.int .i64 maxt,.int .i64 prod,.int .i64 epoch,.int .i64 sq,.slice q l.length cap] _ rfl (zAo hz) Tryz.underlying30 rfl (by kernel_rfl)) rfl ?_;exact⟨q,l,cap,rfl,HLR.out,hz.drop.drop.drop⟩
theorem zQG(said rows:Bs)(base ln leader sm at_ last first maxt prod epoch sq:Int)(cnt:Nat)(x:Nat)(hx:(zAp 0#32 (said.drop 21++rows)).toNat=x)(hs1:21≤said.length)(hs2:said.length≤140737488355328)(hs3:rows.length≤140737488355328)(h0:(x:Int)=sm)(hat:chk at_=0)(har:R64 at_)(hcn:cnt≤2147483647)(hr1:rows.length≤1000000)(hmx:first≤9223372036854775807)(rs:List RecS)(hu:unp cnt ⟨rows,0,0⟩=.ok rs)(e:Int)(hbe:zAc (⟨base,leader,zAb at_ 3,zAb at_ 4,zAb at_ 5,last,first,maxt,prod,epoch,sq,rs⟩:BatS)=e)(h:St W0 w K L):
  Calls Tryz.prog 189 #[.agg #[.int .i64 base,.int .i64 ln,.int .i64 leader,.int .i64 sm,.int .i64 at_,.int .i64 last,.int .i64 first,.int .i64 maxt,.int .i64 prod,.int .i64 epoch,.int .i64 sq,.int .i64 cnt],.string (bb said),.string (bb rows)] w fun en w'=>∃(l:List (RecS×Value)) (q:Option Addr) (cap:Nat),en=.returned (.tuple #[.agg #[.int .i64 base,.int .i64 leader,.bool (zAb at_ 3),.bool (zAb at_ 4),.bool (zAb at_ 5),.int .i64 last,.int .i64 first,.int .i64 maxt,.int .i64 prod,.int .i64 epoch,.int .i64 sq,.slice q l.length cap],.int .i64 e])∧St W0 w' K L:=by
 have gs:((x:Int)==sm)=true:=by rw[h0];exact beq_self_eq_true _
 have gs2:((x:Int) !=sm)=false:=by simp[bne,gs]
 clear h0;have HAT:=hQd hat;have HAR:=hQd har;have HCN:=hQd hcn;have HU:=hQd hu;have HR1:=hQd hr1;have HMX:=hQd hmx;have HB0:=hQd hbe;clear hat har hcn hu hr1 hmx hbe;have g1:=h.allocRaw #[.int .i64 base,.int .i64 ln,.int .i64 leader,.int .i64 sm,.int .i64 at_,.int .i64 last,.int .i64 first,.int .i64 maxt,.int .i64 prod,.int .i64 epoch,.int .i64 sq,.int .i64 cnt] 130;have g2:=g1.allocRaw #[.int .i64 0,.int .i64 0,.bool false,.bool false,.bool false,.int .i64 0,.int .i64 0,.int .i64 0,.int .i64 0,.int .i64 0,.int .i64 0,.slice none 0 0] 30;obtain⟨pb,hpb⟩:∃b,w.heap.size=b:=⟨_,rfl⟩;obtain⟨rb,hrb⟩:∃b,pb+1=b:=⟨_,rfl⟩;simp only[World.size_alloc,hpb,hrb]at g2;have H:=hQd g2;have HX:=hQd hx;have HS1:=hQd hs1;have HS2:=hQd hs2;have HS3:=hQd hs3;clear h g1 g2 hx hs1 hs2 hs3;go_enter Tryz.func189,Tryz.ntmps189;go_upto_region 1 with (fail);have hs:=H.out.drew;refine wp_region_held_drew (S:=fun w'=>w'.cell? ⟨pb,0,none⟩=some (.int .i64 base)∧w'.cell? ⟨pb,1,none⟩=some (.int .i64 ln)∧w'.cell? ⟨pb,2,none⟩=some (.int .i64 leader)∧w'.cell? ⟨pb,3,none⟩=some (.int .i64 sm)∧w'.cell? ⟨pb,4,none⟩=some (.int .i64 at_)∧w'.cell? ⟨pb,5,none⟩=some (.int .i64 last)∧w'.cell? ⟨pb,6,none⟩=some (.int .i64 first)∧w'.cell? ⟨pb,7,none⟩=some (.int .i64 maxt)∧w'.cell? ⟨pb,8,none⟩=some (.int .i64 prod)∧w'.cell? ⟨pb,9,none⟩=some (.int .i64 epoch)∧w'.cell? ⟨pb,10,none⟩=some (.int .i64 sq)∧w'.cell? ⟨pb,11,none⟩=some (.int .i64 cnt)) (by kernel_rfl) (let ⟨x0,x1,x2,x3,x4,x5,x6,x7,x8,x9,x10,x11,_⟩:=zAa (b:=pb) (hs.p1);⟨x0,x1,x2,x3,x4,x5,x6,x7,x8,x9,x10,x11⟩) (fun hHeld=> ?_);refine tQ 0 ⟨some 12,.move (.tmp 1),9,_,_,none⟩ ?_;simp only[Act.put,sA,sB,sC];refine tQ 1 ⟨some 13,.move (.tmp 2),9,_,_,none⟩ ?_;simp only[Act.put,sA,sB,sC];refine tQ 3 ⟨some 15,.fieldAddr 130 (.tmp 3) 3,0,_,_,none⟩ ?_;simp only[Act.put,sA,sB,sC];refine tQ 4 ⟨some 16,.load 3 (.tmp 15),3,_,_,none⟩ ?_;simp only[Act.put,sA,sB,sC];refine wpAnyH_ready (rs:=[2]) (by kernel_rfl) (by simp) (AllReadyH.cons (o:=⟨some 14,.call {callee:=.value (.func 88),args:= #[.tmp 12,.tmp 13],argTypes:= #[9,9]},3,_,_,none⟩) rfl (fun KK hK=> ?_) AllReadyH.nil);go_simp;go_at_call 88;with_reducible refine(zEE said rows x HX.out HS1.out HS2.out HS3.out hs).mono ?_;rintro e wq ⟨rfl,hs⟩;refine hK.out _ _ (let ⟨x0,x1,x2,x3,x4,x5,x6,x7,x8,x9,x10,x11,_⟩:=zAa (b:=pb) (hs.p1);⟨x0,x1,x2,x3,x4,x5,x6,x7,x8,x9,x10,x11⟩) (fun hHeld=> ?_);clear hK KK
 try simp only[Act.put,sA,sB,sC]
 refine tQ 5 ⟨some 17,.binOp .neq 3 (.tmp 14) (.tmp 16) 3,4,_,_,none⟩ ?_;simp only[Act.put,sA,sB,sC];refine wpAnyH_done (by kernel_rfl) ?_ _;clear hHeld;have H:=hQd hs;clear hs;obtain⟨p0,p1,p2,p3,p4,p5,p6,p7,p8,p9,p10,p11,u0,u1,u2,u3,u4,u5,u6,u7,u8,u9,u10,u11⟩:=zAa (b:=rb) (H.out);obtain⟨x0,x1,x2,x3,x4,x5,x6,x7,x8,x9,x10,x11,y0,y1,y2,y3,y4,y5,y6,y7,y8,y9,y10,y11⟩:=zAa (b:=pb) ((H.out).p1)
 go_upto_region 11 with (first
 |(go_at_call 199;(with_reducible refine(zCs at_ 0 HAT.out HAR.out H.out).mono ?_);rintro e_ wn ⟨rfl,h⟩;replace H:=hQd h;clear h;obtain⟨p0,p1,p2,p3,p4,p5,p6,p7,p8,p9,p10,p11,u0,u1,u2,u3,u4,u5,u6,u7,u8,u9,u10,u11⟩:=zAa (b:=rb) (H.out);obtain⟨x0,x1,x2,x3,x4,x5,x6,x7,x8,x9,x10,x11,y0,y1,y2,y3,y4,y5,y6,y7,y8,y9,y10,y11⟩:=zAa (b:=pb) ((H.out).p1))
 |(go_at_call 200;(with_reducible refine(zD0 rows cnt HCN.out HS3.out rs HU.out H.out).mono ?_);rintro e_ wn ⟨rv,l,rfl,hlr,h⟩;obtain⟨q,cap,hrv⟩:=zBZ (Know.has_right (Know.has_refl _)) h;subst hrv;obtain⟨hff,hfl⟩:=zKL HU.out hlr HR1.out;have HFT:=hQd hff;have HLL:=hQd hfl;have HLR:=hQd hlr;clear hff hfl hlr;obtain⟨p0,p1,p2,p3,p4,p5,p6,p7,p8,p9,p10,p11,u0,u1,u2,u3,u4,u5,u6,u7,u8,u9,u10,u11⟩:=zAa (b:=rb) (h);obtain⟨x0,x1,x2,x3,x4,x5,x6,x7,x8,x9,x10,x11,y0,y1,y2,y3,y4,y5,y6,y7,y8,y9,y10,y11⟩:=zAa (b:=pb) ((h).p1);have h:=h.allocRaw #[.int .i64 base,.int .i64 leader,.bool false,.bool false,.bool false,.int .i64 last,.int .i64 first,.int .i64 maxt,.int .i64 prod,.int .i64 epoch,.int .i64 sq,.slice q l.length cap] 30;obtain⟨bB,hbB⟩:∃b,wn.heap.size=b:=⟨_,rfl⟩;rw[hbB]at h;obtain⟨x0,x1,x2,x3,x4,x5,x6,x7,x8,x9,x10,x11,y0,y1,y2,y3,y4,y5,y6,y7,y8,y9,y10,y11⟩:=zAa (b:=pb) (h.p2);obtain⟨a0,a1,a2,a3,a4,a5,a6,a7,a8,a9,a10,a11,f0,f1,f2,f3,f4,f5,f6,f7,f8,f9,f10,f11⟩:=zAa (b:=bB) (h);replace H:=hQd h;clear h)
 |(go_at_call 201;(with_reducible refine(zHc at_ H.out).mono ?_);rintro e_ wn ⟨rfl,h⟩;obtain⟨a0,a1,a2,a3,a4,a5,a6,a7,a8,a9,a10,a11,f0,f1,f2,f3,f4,f5,f6,f7,f8,f9,f10,f11⟩:=zAa (b:=bB) (h);replace H:=hQd h;clear h))
 have HBE:=hQd (show zAc ⟨base,leader,zAb at_ 3,zAb at_ 4,zAb at_ 5,last,first,maxt,prod,epoch,sq,l.map (·.1)⟩=e by rw[HLR.out];exact HB0.out);have hs:St W0 _ _ (.raw bB #[.int .i64 base,.int .i64 leader,.bool (zAb at_ 3),.bool (zAb at_ 4),.bool (zAb at_ 5),.int .i64 last,.int .i64 first,.int .i64 maxt,.int .i64 prod,.int .i64 epoch,.int .i64 sq,.slice q l.length cap] 30::_):=((H.out.rawSet 2 (.bool (zAb at_ 3))).rawSet 3 (.bool (zAb at_ 4))).rawSet 4 (.bool (zAb at_ 5));have hs:=hs.drew;clear x0 y0 a0 f0 x1 y1 a1 f1 x2 y2 a2 f2 x3 y3 a3 f3 x4 y4 a4 f4 x5 y5 a5 f5 x6 y6 a6 f6 x7 y7 a7 f7 x8 y8 a8 f8 x9 y9 a9 f9 x10 y10 a10 f10 x11 y11 a11 f11;refine wp_region_held_drew (S:=fun w'=>w'.cell? ⟨bB,0,none⟩=some (.int .i64 base)∧w'.cell? ⟨bB,1,none⟩=some (.int .i64 leader)∧w'.cell? ⟨bB,2,none⟩=some (.bool (zAb at_ 3))∧w'.cell? ⟨bB,3,none⟩=some (.bool (zAb at_ 4))∧w'.cell? ⟨bB,4,none⟩=some (.bool (zAb at_ 5))∧w'.cell? ⟨bB,5,none⟩=some (.int .i64 last)∧w'.cell? ⟨bB,6,none⟩=some (.int .i64 first)∧w'.cell? ⟨bB,7,none⟩=some (.int .i64 maxt)∧w'.cell? ⟨bB,8,none⟩=some (.int .i64 prod)∧w'.cell? ⟨bB,9,none⟩=some (.int .i64 epoch)∧w'.cell? ⟨bB,10,none⟩=some (.int .i64 sq)∧w'.cell? ⟨bB,11,none⟩=some (.slice q l.length cap)) (by kernel_rfl) (let ⟨x0,x1,x2,x3,x4,x5,x6,x7,x8,x9,x10,x11,_⟩:=zAa (b:=bB) (hs);⟨x0,x1,x2,x3,x4,x5,x6,x7,x8,x9,x10,x11⟩) (fun hHeld=> ?_);refine tQ 0 ⟨some 65,.load 30 (.tmp 11),30,_,_,none⟩ ?_;simp only[Act.put,sA,sB,sC];refine tQ 1 ⟨some 66,.load 30 (.tmp 11),30,_,_,none⟩ ?_;simp only[Act.put,sA,sB,sC];refine wpAnyH_ready (rs:=[2]) (by kernel_rfl) (by simp) (AllReadyH.cons (o:=⟨some 67,.call {callee:=.value (.func 35),args:= #[.tmp 66],argTypes:= #[30]},44,_,_,none⟩) rfl (fun KK hK=> ?_) AllReadyH.nil);go_simp;go_at_call 35;with_reducible refine(zBS base leader (zAb at_ 3) (zAb at_ 4) (zAb at_ 5) last first maxt prod epoch sq l q cap e HBE.out HMX.out HFT.out HLL.out (Know.has_right (Know.has_refl _)) hs).mono ?_;rintro e wq ⟨rfl,hs⟩;refine hK.out _ _ (let ⟨x0,x1,x2,x3,x4,x5,x6,x7,x8,x9,x10,x11,_⟩:=zAa (b:=bB) (hs);⟨x0,x1,x2,x3,x4,x5,x6,x7,x8,x9,x10,x11⟩) (fun hHeld=> ?_);clear hK KK
 try simp only[Act.put,sA,sB,sC]
 refine wpAnyH_ready (rs:=[3]) (by kernel_rfl) (by simp) (AllReadyH.cons (o:=⟨none,.store 30 (.tmp 6) (.tmp 65),0,_,_,none⟩) rfl (fun KK hK=> ?_) AllReadyH.nil);have hs:=hs.p1;rw[if_pos (by rfl)];refine wp_store_mid 30 (.tmp 6) (.tmp 65) rfl rb 0 #[.int .i64 base,.int .i64 leader,.bool (zAb at_ 3),.bool (zAb at_ 4),.bool (zAb at_ 5),.int .i64 last,.int .i64 first,.int .i64 maxt,.int .i64 prod,.int .i64 epoch,.int .i64 sq,.slice q l.length cap] (by rfl) (by rfl) hs.there (by kernel_rfl) (by simp[Value.oneCell']) ?_;obtain⟨wz,ez,hs⟩:=hs.storeEx #[.int .i64 base,.int .i64 leader,.bool (zAb at_ 3),.bool (zAb at_ 4),.bool (zAb at_ 5),.int .i64 last,.int .i64 first,.int .i64 maxt,.int .i64 prod,.int .i64 epoch,.int .i64 sq,.slice q l.length cap];rw[ez];clear ez;refine hK.out _ _ (let ⟨x0,x1,x2,x3,x4,x5,x6,x7,x8,x9,x10,x11,_⟩:=zAa (b:=bB) (hs.p1);⟨x0,x1,x2,x3,x4,x5,x6,x7,x8,x9,x10,x11⟩) (fun hHeld=> ?_);clear hK KK
 try simp only[Act.put]
 refine tQ 4 ⟨some 7,.assign (.tmp 67),44,_,_,none⟩ ?_;simp only[Act.put,sA,sB,sC];refine wpAnyH_done (by kernel_rfl) ?_ _;clear hHeld;rw[zD9]at hs;rotate_left
 · rfl
 have hz:St W0 _ _ (.raw rb #[.int .i64 base,.int .i64 leader,.bool (zAb at_ 3),.bool (zAb at_ 4),.bool (zAb at_ 5),.int .i64 last,.int .i64 first,.int .i64 maxt,.int .i64 prod,.int .i64 epoch,.int .i64 sq,.slice q l.length cap] 30::_):=hs;go_wp2_with fail;refine bodyPost_ret (zAY rfl _ _ rb [.int .i64 base,.int .i64 leader,.bool (zAb at_ 3),.bool (zAb at_ 4),.bool (zAb at_ 5),.int .i64 last,.int .i64 first,.int .i64 maxt,.int .i64 prod,.int .i64 epoch,.int .i64 sq,.slice q l.length cap] _ rfl (zAo hz) Tryz.underlying30 rfl (by kernel_rfl)) rfl ?_;exact⟨l,q,cap,rfl,hz.drop.drop.drop.know (Know.has_left (Know.has_refl _))⟩
theorem zQF(x:PreS)(said rows:Bs)(hs1:21≤said.length)(hs2:said.length≤140737488355328)(hr1:rows.length≤1000000)(har:R64 x.attr)(hc0:0≤x.count)(hcn:x.count≤2147483647)(hmx:x.first≤9223372036854775807)(e:Int)(ha:asmB x said rows=.error e)(h:St W0 w K L):
   Calls Tryz.prog 189 #[.agg #[.int .i64 x.base,.int .i64 x.len,.int .i64 x.leader,.int .i64 x.sum,.int .i64 x.attr,.int .i64 x.last,.int .i64 x.first,.int .i64 x.maxt,.int .i64 x.prod,.int .i64 x.epoch,.int .i64 x.seq,.int .i64 x.count],.string (bb said),.string (bb rows)] w fun en w'=>∃(b:BatS) (q:Option Addr) (n cap:Nat),en=.returned (.tuple #[.agg #[.int .i64 b.base,.int .i64 b.leader,.bool b.app,.bool b.txn,.bool b.ctl,.int .i64 b.last,.int .i64 b.first,.int .i64 b.maxt,.int .i64 b.prod,.int .i64 b.epoch,.int .i64 b.seq,.slice q n cap],.int .i64 e])∧St W0 w' K L:=by
 obtain⟨base,len,leader,sum,attr,last,first,maxt,prod,epoch,seq,count⟩:=x;simp only at har hc0 hcn hmx;obtain⟨cnt,rfl⟩:∃n:Nat,count=(n:Int):=⟨count.toNat,by omega⟩;have hr:rows.length≤140737488355328:=by omega
 have hcn:cnt≤2147483647:=by omega
 unfold asmB at ha;simp only[Int.toNat_natCast]at ha
 by_cases c1:(((zAp 0#32 (said.drop 21++rows)).toNat:Nat):Int)≠sum
 · rw[if_pos c1]at ha
   cases ha
   exact(zQE said rows base len leader sum attr last first maxt prod epoch seq cnt _ rfl hs1 hs2 hr c1 h).mono fun _ _ hh=>⟨BatS.zero,none,0,0,hh.1,hh.2⟩
 rw[if_neg c1]at ha;have c1:=Classical.not_not.1 c1
 by_cases c2:chk attr≠0
 · rw[if_pos c2]at ha
   cases ha
   exact(zPw said rows base len leader sum attr last first maxt prod epoch seq cnt _ rfl hs1 hs2 hr c1 _ rfl har c2 h).mono fun _ _ hh=>⟨BatS.zero,none,0,0,hh.1,hh.2⟩
 rw[if_neg c2]at ha;have c2:=Classical.not_not.1 c2
 cases hu:unp cnt ⟨rows,0,0⟩with
 |error f=>
   rw[hu]at ha;simp only at ha
   cases ha
   exact(zPu said rows base len leader sum attr last first maxt prod epoch seq cnt _ rfl hs1 hs2 hr c1 c2 har hcn _ hu (zMH _ _ _ hu) h).mono fun _ _ hh=>⟨BatS.zero,none,0,0,hh.1,hh.2⟩
 |ok rs=>
   rw[hu]at ha;simp only at ha
   by_cases c3:zAc ⟨base,leader,zAb attr 3,zAb attr 4,zAb attr 5,last,first,maxt,prod,epoch,seq,rs⟩=0
   · rw[if_pos c3]at ha;cases ha
   rw[if_neg c3]at ha
   cases ha
   exact(zQG said rows base len leader sum attr last first maxt prod epoch seq cnt _ rfl hs1 hs2 hr c1 c2 har hcn hr1 hmx rs hu _ rfl h).mono fun _ _ ⟨l,q,cap,hh,hs⟩=>⟨⟨base,leader,zAb attr 3,zAb attr 4,zAb attr 5,last,first,maxt,prod,epoch,seq,rs⟩,q,l.length,cap,hh,hs⟩
theorem zPv(x:PreS)(said rows:Bs)(hs1:21≤said.length)(hs2:said.length≤140737488355328)(hr1:rows.length≤1000000)(har:R64 x.attr)(hc0:0≤x.count)(hcn:x.count≤2147483647)(hmx:x.first≤9223372036854775807)(b:BatS)(ha:asmB x said rows=.ok b)(h:St W0 w K L):
  Calls Tryz.prog 189 #[.agg #[.int .i64 x.base,.int .i64 x.len,.int .i64 x.leader,.int .i64 x.sum,.int .i64 x.attr,.int .i64 x.last,.int .i64 x.first,.int .i64 x.maxt,.int .i64 x.prod,.int .i64 x.epoch,.int .i64 x.seq,.int .i64 x.count],.string (bb said),.string (bb rows)] w fun en w'=>∃(q:Option Addr) (l:List (RecS×Value)) (cap:Nat),en=.returned (.tuple #[.agg #[.int .i64 b.base,.int .i64 b.leader,.bool b.app,.bool b.txn,.bool b.ctl,.int .i64 b.last,.int .i64 b.first,.int .i64 b.maxt,.int .i64 b.prod,.int .i64 b.epoch,.int .i64 b.seq,.slice q l.length cap],.int .i64 0])∧l.map (·.1)=b.recs∧St W0 w' (K.and (Know.recs (.slice q l.length cap) l)) L:=by
 obtain⟨c1,c2,rs,hu,c3,rfl⟩:=zIe ha;obtain⟨base,len,leader,sum,attr,last,first,maxt,prod,epoch,seq,count⟩:=x;simp only at har hc0 hcn hmx c1 c2 hu c3;obtain⟨cnt,rfl⟩:∃n:Nat,count=(n:Int):=⟨count.toNat,by omega⟩;rw[Int.toNat_natCast]at hu;exact asm_ok said rows base len leader sum attr last first maxt prod epoch seq cnt _ rfl hs1 hs2 (by omega) c1 c2 har (by omega) hr1 hmx rs hu c3 h
end Go.Proofs.YtenojajfacacoaaGreatDoor
